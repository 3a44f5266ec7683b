import PyProof.Rows.All
import Wide.All
import OpenK.AllK
import Wide.FinOn
import HandS.ForMost
import HandS.ForExc
import HandS.HotCalls
import HandS.ExcIs
import HandS.ExcInit
import HandS.ExcField
import HandS.Defaults
import HandS.CallSlots
import HandS.Deep
import KE.GoesEnum
import KE.GoesNew
import HandS.IsInst
import HandS.Replace
import HandS.Wide
import HandS.NoneIn
import HandS.Walk
import HandS.Evl
import HandS.More
import HandS.Zip
import HandS.Conv
import KE.KxIndex
import PySem.Challenge.RW_wayneedle_k82_texts_nearly_right
import HandS.TupMul
import HandS.Star
import HandS.TupAny
import HandS.Flow
import HandS.RaiseMore
import HandS.SortRule
import HandS.Strs
import KE.GoesEnumKw
import HandS.Iter
import HandS.OwnEq
import HandS.FStr
import KE.DataCmp
import HandS.SuiteRaise
import HandS.RaiseFrom
import HandS.ExcInitHot
import PyProof.ListStr
set_option Elab.async false
set_option linter.all false
set_option maxRecDepth 100000
set_option maxHeartbeats 4000000










namespace ExcM
open PySem PySem.W PySem.Spec PySem.Calls PyProof.Rows L2
section
variable {prog : Program} {w : World} {A : Around} {E : Value → Shared → Prop} {s : Shared} {K : PySem.W.Frag} {x D : Addr} {ox od : Obj}
/-- the way of a test that fails -/
theorem not_so {α : Type} {b : Bool} {x y : Sem α} {Q : α → Shared → Prop} (hb : b = false) (q : wpAny (model prog w) A y Q E s) : wpAny (model prog w) A (if b = true then x else y) Q E s := by
  subst hb
  exact q
/-- the class of an own exception that has a dict, asked of its instance -/
theorem asked_class {Q : Option Value → Shared → Prop} (C : ExcC K D) (X : K.In s.heap) (I : PySem.W.InstAt s.heap x ox D (some od)) (h : Q (some (.ref D)) { s with toks := s.toks + 1 }) :
    wpAny (model prog w) A (getAttr? (.ref x) "__class__") Q E s := by
  have found := findObj_data (K := K) (C := D) (od := od) (name := "__class__") (by obtain ⟨q, hq, _⟩ := any_some C.hd; rw [hq]; rfl) C.ha C.hn C.ht
  obtain ⟨hp, g, d, t, os⟩ := s
  have lType := I.type (M := model prog w)
  have lGa := looks_findIn (M := model prog w) X C.hg
  have lGt := looks_findIn (M := model prog w) X C.hk
  have lFind := looks_find (M := model prog w) X I found
  have isB : Looks (model prog w) hp (isInstance (.ref x) (.type "BaseException")) true := lType.andThen (looks_subIn X C.hs)
  have n1 : (false && onTheHeap (Value.builtin "BaseException.__getattribute__")) = false := rfl
  have n2 : (onTheHeap (Value.ref D) && Value.builtin "BaseException.__getattribute__" == Value.builtin "object.__getattribute__") = false := by
    rw [show (Value.builtin "BaseException.__getattribute__" == Value.builtin "object.__getattribute__") = false by decide +kernel]; rfl
  unfold getAttr? getAttrBy?; unfold getAttrBy
  refine wpAny_bind (wpAny_mkText (wpAny_bind (wpAny_attempt (wpAny_holding (wpAny_bind (lType.at (wpAny_bind (lGa.at ?_))))))))
  refine not_so n2 ?_; unfold getAttrByItsOwn hookBefore
  refine wpAny_bind ?_; rw [if_pos (show onTheHeap (Value.ref D) = true from rfl)]
  refine lGt.at ?_; refine wpAny_bind (wpAny_attempt (wpAny_holding ?_))
  unfold callGetattribute; rw [n1, if_neg Bool.false_ne_true]; unfold boundAndCalled
  rw [PySem.F.excAttr_ValueError.ga.bind (.ref x)]; refine wpAny_bind (wpAny_pure ?_)
  refine show wpAny _ _ (call (.builtin "BaseException.__getattribute__") [.ref x, .str "__class__" t]) _ _ _ from wpAny_call (codeAny_call_builtin PySem.F.excAttr_ValueError.ga.plain PySem.F.entry_bexc_ga ?_)
  refine @check_slot (model prog w) _ _ ⟨hp, g, d, t + 1, os⟩ "BaseException.__getattribute__" "BaseException" "__getattribute__" (.ref x) [.str "__class__" t] [] _ (by decide +kernel) (by decide +kernel) isB (PySem.F.args_bexc_ga (.ref x) (.str "__class__" t)) ?_
  unfold Builtin.«object.__getattribute__»; refine wpAny_bind (wpAny_of_eq (a := ((Value.ref x : Value), [Value.str "__class__" t])) (by first | rfl | (simp only [slotArgs]; rfl)) ?_)
  refine wpAny_bind (wpAny_pure (wpAny_bind (lType.at (wpAny_bind (lFind.at ?_)))))
  refine show wpAny _ _ (holding [Value.builtin "object.__class__"] (call (.builtin "getset_descriptor.__get__") [.builtin "object.__class__", .ref x, .ref D]) >>= ret) _ _ _ from wpAny_bind (wpAny_holding (wpAny_call (class_get (s := ⟨hp, g, d, t + 1, os⟩) (ox := ox) (od := some od) X I C.hm ?_)))
  refine wpAny_pure ?_; show wpAny _ _ (handedOut (.ref D)) _ _ _; rw [handedOut_of (v := .ref D) rfl]
  first | exact wpAny_pure (wpAny_pure h) | exact wpAny_pure h | exact wpAny_pure (wpAny_bind (wpAny_pure (wpAny_pure h)))
theorem kit_exc (C : ExcC K D) : KitX K (.ref x) (.ref D) (fun h => PySem.W.InstAt h x ox D (some od)) where
  ty := fun _ _ _ I => I.type
  it := fun _ _ X _ => by
    obtain ⟨q, hq, _⟩ := any_some C.hd
    unfold clsIn at hq; split at hq
    · rename_i c1 d1 q1 l1 ho
      intro A1 Q1 E1 s1 k z; unfold isType loadHead
      exact wpAny_bind (wpAny_loadPart (k _ _ (X _ _ ho)) (wpAny_pure z))
    · cases hq
  ne := fun hh tp tdd tis tn tsl X htp => by
    obtain ⟨q, hq, _⟩ := any_some C.hd
    refine Bool.eq_false_iff.mpr fun z => ?_
    have e : D = tp := Value.ref.inj (beq_iff_eq.mp z)
    subst e; unfold clsIn at hq; split at hq
    · rename_i c1 d1 q1 l1 ho
      cases (X _ _ ho).symm.trans htp
    · cases hq
  ca := fun X I k => asked_class C X I k
end
section
variable {X : Cx}
/-- isinstance of a pinned exception of the class at D, its dict tracked -/
theorem call_isP {D a : Addr} {oe : Obj} {d : Addr} (C : ExcC X.K D) (hp : (a, oe) ∈ X.pn) (hz : Zc (.ref D) (some d) oe) (hf : ∃ vs, oe.data = .fields vs) :
    CallR X (.builtin "isinstance") (fun xs H Q => ∃ (c : V) (cv : Value) (b : Bool) (fs : List (Str × V)), xs = [.ref a, c] ∧ (∀ u, RelV c u → u = cv) ∧ H d = some (.xd fs) ∧ PySem.W.kitOne X.K (.ref D) cv = some b ∧ Q (.bl b) H) := by
  intro pins s σ H xs us Q I rel ask
  obtain ⟨c, cv, b, fs, rfl, hcv, hd, e, q1⟩ := ask
  obtain ⟨w1, w2, rfl, l1, l2⟩ := vals2 rel
  cases (l1 : w1 = Value.ref a)
  cases hcv _ l2
  have P1 := I.pin (a, oe) (List.mem_append_left _ hp)
  obtain ⟨vs, hv⟩ := hf
  obtain ⟨mA, hns, _⟩ := (show ObjOk X.prog X.w H s.heap d (.xd fs) from I.hok d _ hd)
  obtain ⟨od, ho, _⟩ := lookIn_ns hns
  have J : PySem.W.InstAt s.heap a oe D (some od) := ⟨P1.1, hz.1, by unfold PySem.W.notCls; rw [hv] <;> rfl, by rw [hz.2]; exact ho⟩
  exact PySem.W.kia_one (kit_exc C) I.kIn J e (fun z => nomatch z) fun tk => ⟨.bl b, H, I.tok tk, rfl, q1⟩
end
end ExcM
/-! ### walks over what is a list or a tuple -/
namespace SeqW
open PySem PySem.Spec PySem.Calls PyProof.Rows L2
theorem ix_seqK {X : Cx} {K : PySem.W.Frag} (h : X.K = K) : IxR X (rIx K) := by
  subst h
  exact ix_seq
def iSeq (K : PySem.W.Frag) (tl : TE) : TI := fun σ H R => tl σ H fun x H1 => ∃ a xs, x = .ref a ∧ ∃ Kp : Hp → Prop, ((∀ H', Kp H' → SqL K H' a xs) ∨ (∀ H', Kp H' → SqT K H' a xs)) ∧ Kp H1 ∧ ∀ (J : It) (G : Hp → Prop), Walk J xs.length G (YAt xs) → (∀ H', Kp H' → G H') → R J H1
theorem pi_seq {X : Cx} {tg l : Expr} {tl : TE} (hl : PE X l tl) : PI X tg l (iSeq X.K tl) := ⟨fun pins s σ H R I ask => thn (hl.run pins s σ H _ I ask) fun v g ⟨x, H1, J, rel, a, xs, ex, Kp, two, now, go⟩ => by
  subst ex
  cases rel
  have mine : ∀ b ∈ [g.heap.objs.size], FpOk X pins H1 b := fun b hb => List.mem_singleton.mp hb ▸ J.fpOk (Nat.le_refl _) (J.hok.fresh (Nat.le_refl _))
  rcases two with isL | isT
  · obtain ⟨_, _, is, _⟩ := J.list (isL _ now)
    exact wpAny_pyIter_list is.isList ⟨g.heap.objs.size, _, _, _, H1, rfl, J.kept (t' := g.toks) (fun _ _ y => Heap.get?_push_of_some _ y), turn_list a _, ⟨_, Heap.get?_push_size _ rfl, rfl, rfl⟩, mine, go _ _ (walk_list (K := X.K) (a := a)) isL⟩
  · obtain ⟨us, _, is, _⟩ := J.tuple (isT _ now)
    exact wpAny_pyIter_tuple (items := us.toArray) is ⟨g.heap.objs.size, _, _, _, H1, rfl, J.kept (t' := g.toks) (fun _ _ y => Heap.get?_push_of_some _ y), turn_tuple a _, ⟨_, Heap.get?_push_size _ rfl, rfl, rfl⟩, mine, go _ _ (walk_tup (K := X.K) (a := a)) isT⟩⟩
end SeqW
/-! ### rules for what stands in a comprehension within another one -/
namespace SeqK
open PySem PySem.Spec PyProof.Rows L2
theorem pi_seqK {X : Cx} {K : PySem.W.Frag} {tg l : Expr} {tl : TE} (h : X.K = K) (hl : PE X l tl) : PI X tg l (SeqW.iSeq K tl) := by
  subst h
  exact SeqW.pi_seq hl
def rJoin (K : PySem.W.Frag) : V → List V → Hp → VK → Prop := fun x xs H Q => ∃ a p, ∃ ys : List Str, x = .str a ∧ xs = [.ref p] ∧ (SqL K H p (ys.map V.str) ∨ SqT K H p (ys.map V.str)) ∧ (ys.map (·.length)).sum + ys.length * a.length ≤ 16777216 ∧ Q (.str (Txt.join a ys)) H
theorem joinK {X : Cx} {K : PySem.W.Frag} (h : X.K = K) : MtR X "str.join" (rJoin K) := by
  subst h
  exact mt_join
section
variable {X : Cx} {K : PySem.W.Frag} {T id : String} {name : Str} {o e : Expr} {es : List Expr} {apos cpos : Pos} {r : V → List V → Hp → VK → Prop} {to : TE} {t : TA}
theorem pe_bmK (h : X.K = K) (pa : PlainAttrs T) (slot : Slot T name id) (hty : typeOf (.builtin id) = pure (.type "method_descriptor")) (hm : MtR X id r) (ho : PE X o to) (ha : PA X [e] t) (hbase : attributeBase o name X.env (eval o X.env) = eval o X.env := by rfl)
    (few : ((backTo cpos (starEach [e] X.env)).all (fun x => !x.1) && (backToKw cpos (keywordEach [] X.env)).all (fun x => x.1.isSome) && decide (([e] : List Expr).length + ([] : List Keyword).length + (if ([] : List Keyword).isEmpty then 0 else 1) < 30)) = true := by rfl)
    (line : (apos.endLine == cpos.line) = true := by rfl) (stars : starEach [e] X.env = (false, eval e X.env) :: starEach [] X.env := by rfl) (plain : (backTo cpos (starEach [] X.env)).any (·.1) = false := by rfl) : PE X (.Call (.Attribute o name apos) [e] [] cpos) (tBM K T r to t) := by
  subst h
  exact pe_bm pa slot hty hm ho ha hbase few line stars plain
end
end SeqK
/-! ### a clause 'except C as n' whose suite raises; a tuple unpacked while an exception is handled -/
namespace HotAs
open PySem PySem.Spec PyProof.Rows L2 HotX L2H
/-! #### unpacking: the iterator's end is raised while another exception is handled -/
section
variable {P : Program} {w : World} {A : Around} {px : Addr} {g : Shared}
theorem stop_raised {α : Type} {h0 : Heap} {Q : α → Shared → Prop} {E : Value → Shared → Prop} (hot : HotAt A px h0) (eh : g.heap = h0)
    (out : ∀ (hp : Heap) (e : Addr), (∀ b o, h0.get? b = some o → hp.get? b = some o) → Shared.TypeIs { g with heap := hp } (.ref e) "StopIteration" → E (.ref e) { g with heap := hp }) :
    wpAny (model P w) A (newExc (.type "StopIteration") [] >>= fun e => (raiseNew e : Sem α)) Q E g := by
  subst eh
  obtain ⟨hd, po, pf, pg, pd, pc⟩ := hot
  refine wpAny_bind ?_
  simp only [newExc, newTuple]
  refine wpAny_bind (wpAny_newObj_type (wpAny_bind (m := firstArgMember _ _) (wpAny_of_eq (a := Value.none) (by first | rfl | (simp only [firstArgMember]; rfl)) (wpAny_newObj_type ?_ (by size_fits)))) (by size_fits))
  have one : ∀ {b : Addr} {o : Obj}, g.heap.get? b = some o → (g.heap.push { cls := .type "tuple", data := .seq #[] }).get? b = some o := fun e => Heap.get?_push_of_some _ e
  refine raiseNew_hot ⟨hd, po, pf, Heap.get?_push_of_some _ (one pg), pd, pc⟩ (Nat.ne_of_lt (Heap.lt_size (one pg))) (Heap.get?_push_size _ rfl) rfl (by first | (simp; done) | (simp; omega) | (simp only [Array.size_append]; simp; omega)) ?_
  exact out _ _ (fun b o e => (Heap.get?_update_other _ _ (Nat.ne_of_gt (Heap.lt_size (one e)))).trans (Heap.get?_push_of_some _ (one e))) ⟨_, Heap.get?_update_self _ (Heap.get?_push_size _ rfl) rfl, rfl⟩
theorem next_ends {Q : Option Value → Shared → Prop} {E : Value → Shared → Prop} {ia ta : Addr} {j : Nat} {xs : Array Value} (hot : HotAt A px g.heap) (ii : IsTupIter g.heap ia ta j) (it : IsTup g.heap ta xs) (no : xs[j]? = none) (ne : px ≠ ia)
    (q : ∀ hp, Heap.ExtBut ia g.heap hp → Q none { g with heap := hp }) : wpAny (model P w) A (pyNext (.ref ia)) Q E g := by
  obtain ⟨io, ig, _, idt⟩ := id ii
  obtain ⟨tobj, tg, _, tn, td⟩ := it
  have pin : HotAt A px (g.heap.update ia (Obj.mapFields (·.setIfInBounds 0 Value.none))) := by
    obtain ⟨z1, z2, z3, z4, z5⟩ := hot
    exact ⟨z1, z2, z3, (Heap.get?_update_other _ _ (Ne.symm ne)).trans z4, z5⟩
  unfold pyNext
  refine wpAny_bind (wpAny_attempt (wpAny_callSpecial?_slot (name := Str.ofString "__next__") ii.typeIs slot_tupleiter_next (wpAny_call_entry slot_tupleiter_next ii.typeIs entry_tupleiter_next ?_ (args_tupleiter_next _))))
  show wpAny _ _ (field (.ref ia) 0 >>= _) _ _ g
  refine wpAny_bind (wpAny_field ig idt (x := .ref ta) rfl ?_)
  show wpAny _ _ (if (Value.ref ta == Value.none) = true then _ else _) _ _ g
  refine (if_neg (show ¬ (Value.ref ta == Value.none) = true from fun z => Bool.noConfusion z)).symm ▸ ?_
  show wpAny _ _ (field (.ref ia) 1 >>= _) _ _ g
  refine wpAny_bind (wpAny_field ig idt (x := .int j 0) rfl ?_)
  show wpAny _ _ (seqItems? (.ref ta) >>= _) _ _ g
  refine wpAny_bind (wpAny_seqItems tg td ?_)
  simp only [no, Int.toNat_natCast]
  refine wpAny_bind (wpAny_rule (wpAny_bind (wpAny_setField ig idt (by simp) ?_)))
  refine stop_raised (h0 := g.heap.update ia (Obj.mapFields (·.setIfInBounds 0 Value.none))) pin rfl fun hp e keep ty => ?_
  exact wpAny_bind (wpAny_isInstance (T := "StopIteration") (b := true) ty isSubtype_stop (wpAny_pure (q hp fun b o hb z => keep b o ((Heap.get?_update_other _ _ (Ne.symm hb)).trans z))))
theorem items_of {Q : List Value → Shared → Prop} {E : Value → Shared → Prop} {ta : Addr} {xs : Array Value} (hot : HotAt A px g.heap) (it : IsTup g.heap ta xs) (q : ∀ hp, Heap.ExtBut g.heap.objs.size g.heap hp → Q xs.toList { g with heap := hp }) :
    wpAny (model P w) A (unpackItems (.ref ta) xs.size none) Q E g := by
  obtain ⟨z1, z2, z3, z4, z5⟩ := hot
  have lp := Nat.ne_of_lt (Heap.lt_size z4)
  have lt : ta ≠ g.heap.objs.size := let ⟨_, e, _⟩ := it; Nat.ne_of_lt (Heap.lt_size e)
  unfold unpackItems notIterableAtAll
  refine wpAny_bind (wpAny_bind (wpAny_specialOf it.typeIs slot_tuple_iter.lookup (wpAny_pure ?_)))
  simp only [Bool.false_eq_true, ite_false]
  refine wpAny_bind (wpAny_holding (iter_tuple it (wpAny_bind (wpAny_holding (draw_tuple lt xs.size 0 _ _ ⟨_, Heap.get?_push_size _ rfl, rfl, rfl⟩ (it.push _) (Nat.le_of_eq (Nat.zero_add _)) fun h1 i1 s1 => ?_)))))
  have all : (xs.toList.drop 0).take xs.size = xs.toList := List.take_of_length_le (Nat.le_of_eq (by simp))
  rw [all, if_neg (by simp)]
  refine wpAny_bind (wpAny_holding (next_ends ⟨z1, z2, z3, s1.extBut px z2 lp (Heap.get?_push_of_some _ z4), z5⟩ i1 ((it.push _).extBut s1.extBut lt) (by simp) lp fun h2 k2 => ?_))
  simp only [Bool.false_eq_true, Option.isSome_none, ite_false]
  exact wpAny_pure (q h2 fun b o nb z => k2 b o nb (s1.extBut b o nb (Heap.get?_push_of_some _ z)))
end
theorem pg_tupH {X : Cx} {es : List Expr} {k n : Nat} {t : TGs} {pos : Pos} (hc : HotC X) (parts : PGs X es t) (many : (assignEach es X.env).length = n := by rfl) (plain : (assignEach es X.env).findIdx? (·.1) = none := by rfl) :
    PG X (.Tuple es k pos) (gTup X.K n t) := ⟨fun pins s σ H v u Q I rel ask => by
  obtain ⟨ta, xs, rfl, sq, len, ask⟩ := ask
  cases rel
  obtain ⟨us, vals, isT, _⟩ := I.tuple sq
  obtain ⟨px, hot⟩ := hc.at I
  have same : (assignEach es X.env).length = us.toArray.size := by simp [many, ← len, vals.length]
  rw [assign_Tuple]
  suffices go : wpAny (model X.prog X.w) X.A (unpack (.ref ta) (assignEach es X.env)) _ _ s from wpAny_bind (wpAny_standAt go)
  unfold unpack
  rw [same, plain]
  exact wpAny_bind (wpAny_holding (items_of hot isT fun hp k => parts.run pins _ σ H xs _ Q (I.kept (t' := s.toks) fun b o e => k b o (Nat.ne_of_lt (Heap.lt_size e)) e) (by simpa using vals) ask))⟩
/-! #### the suite's context -/
/-- within the suite of the exception at a; what leaves the suite is wished by xe -/
abbrev sx (X : Cx) (a : Addr) (pn : List (Addr × Obj)) (xe : Value → Shared → Prop) : Cx := { X with A := X.A.mark (some (.ref a)), calm := false, pn := pn, xe := xe }
theorem pe_sx {X : Cx} {a : Addr} {pn : List (Addr × Obj)} {xe : Value → Shared → Prop} {e : Expr} {t : TE} (h : PE (X.suite a pn) e t) : PE (sx X a pn xe) e t := PE.nox (X := sx X a pn xe) h
section
variable {X : Cx} {pins pr : List (Addr × Obj)} {σ : L2.St} {H : Hp} {g : Shared} {a : Addr}
theorem sx_of {pn : List (Addr × Obj)} {xe : Value → Shared → Prop} (I : Inv (X.suite a pn) pr σ H g) : Inv (sx X a pn xe) pr σ H g := Inv.unwish (X := sx X a pn xe) (E := fun _ _ => False) I
theorem sx_un {p : Addr × Obj} {xe : Value → Shared → Prop} (I : Inv (sx X a (p :: (X.pn ++ pins)) xe) pr σ H g) (ok : X.Ok) : Inv X pins σ H g :=
  Inv.unsuite (a := a) (q := p) (pn' := pr) (X := X) (I.wish fun _ _ => False : Inv (X.suite a (p :: (X.pn ++ pins))) pr σ H g) ok
/-- a local name's value goes: the invariant of what is left -/
theorem gone_inv {i tk : Nat} {n : Str} {hp : Heap} {m : Str → Option Value} {v : Option Value} (I : Inv X pins σ H g) (nd : X.N.Nodup) (at_ : X.N[i]? = some n) (old : g.heap.Ns X.env.locals m) (new : hp.Ns X.env.locals (fun x => if x = n then v else m x))
    (but : Heap.SameBut X.env.locals g.heap hp) : Inv X pins (σ.set i none) H { g with heap := hp, toks := tk } := by
  obtain ⟨m0, old0, look⟩ := id I.loc
  have eqm : m0 = m := funext fun y => by
    obtain ⟨o1, _, _, a1, b1, _, d1⟩ := old0
    obtain ⟨o2, _, _, a2, b2, _, d2⟩ := old
    cases a1.symm.trans a2
    cases b1.symm.trans b2
    exact (d1 y).symm.trans (d2 y)
  subst eqm
  have low : ∀ {b : Addr} {o u : Obj}, X.s_0.heap.get? b = some u → g.heap.get? b = some o → hp.get? b = some o := fun {b o u} z e => (but.2 b (Nat.ne_of_lt (Nat.lt_of_lt_of_le (Heap.lt_size z) I.ok.above))).trans e
  have B := I.base
  exact {
    ok := I.ok, os := I.os, bare := I.bare, free := I.free, freeC := I.freeC
    base := { keep := fun b o z n1 n2 n3 => low z (B.keep b o z n1 n2 n3), slot := fun b o z n1 n2 n3 => (B.slot b o z n1 n2 n3).imp fun _ e => low z e, free := B.free, there := fun b o z n1 => (B.there b o z n1).imp fun _ e => low z e, tups := B.tups, frzs := B.frzs, tbls := B.tbls }
    loc := ⟨_, new, fun j y x h1 h2 h3 => by
      have nj : j ≠ i := fun z => by
        subst z
        by_cases lj : j < σ.length
        · exact absurd (Option.some.inj ((List.getElem?_set_self lj).symm.trans h2)) (by intro q; cases q)
        · exact absurd ((List.getElem?_eq_none (by simpa using lj)).symm.trans h2) (by intro q; cases q)
      obtain ⟨u, ru, w⟩ := look j y x h1 ((List.getElem?_set_ne (Ne.symm nj)).symm.trans h2) h3
      refine ⟨u, ru, w.imp (fun w => ⟨w.1, ?_⟩) (fun ⟨k, c, e, z⟩ => ⟨k, c, e, z.sameBut but (I.cne y c e)⟩)⟩
      have ny : ¬ y = n := fun z => nj (nodup_ix nd h1 (z ▸ at_))
      show (if y = n then v else m0 y) = some u
      rw [if_neg ny]
      exact w.2⟩
    cell := fun y c e => (I.cell y c e).imp fun _ z => z.sameBut but (I.cne y c e)
    pin := fun p hm => let ⟨e, r⟩ := I.pin p hm; ⟨(but.2 p.1 r.2.1).trans e, r⟩
    hok := fun b u e => (I.hok b u e).stay (fun c o hc z => (but.2 c fun y => by
      have fr : H c = none := by rw [y]; exact I.free
      rcases hc with hc | hc
      · exact absurd (e.symm.trans (hc ▸ fr)) (by intro q; cases q)
      · exact absurd (hc.symm.trans fr) (by intro q; cases q)).trans z) (fun _ z => z) fun _ _ z => z
    len := (List.length_set ..).trans I.len }
end
theorem frames_but {h k B : Heap} {L : Addr} {m : Str → Option Value} (but : Heap.SameBut L h k) (ns : k.Ns L m) : ∀ {l : List Env}, h.FunFrames B l → k.FunFrames B l
  | [], _ => trivial
  | _ :: _, ⟨c1, ⟨F, o, e1, e2, e3, e4⟩, rest⟩ => ⟨c1, by
      by_cases z : F = L
      · obtain ⟨o2, _, _, g2, d2, _⟩ := ns
        exact ⟨F, o2, e1, e2, z ▸ g2, fun fs y => by cases d2.symm.trans y⟩
      · exact ⟨F, o, e1, e2, (but.2 F z).trans e3, e4⟩, frames_but but ns rest⟩
/-! #### the rule -/
section
variable {X : Cx} {pins : List (Addr × Obj)} {Wout : WX} {D : Ends}
/-- what flies is no frame -/
theorem no_frame {B h : Heap} {a : Addr} {o : Obj} {fs : Array Value} (ff : h.FunFrames B (X.env :: X.outer)) (e : h.get? a = some o) (d : o.data = .fields fs) (hf : X.env.frame = some X.env.locals) : a ≠ X.env.locals ∧ a ∉ X.fs := by
  have out : a ∉ frs (X.env :: X.outer) := fun mem => let ⟨_, _, e2, no⟩ := ff.mem mem; no fs (by cases e.symm.trans e2; exact d)
  refine ⟨fun z => out (List.mem_filterMap.mpr ⟨X.env, List.mem_cons_self, z ▸ hf⟩), fun mem => out ?_⟩
  obtain ⟨env, h1, h2⟩ := List.mem_filterMap.mp mem
  exact List.mem_filterMap.mpr ⟨env, List.mem_cons_of_mem _ h1, h2⟩
/-- the class that the clause names -/
theorem named {x : Str} {c : Value} {np : Pos} {a : Addr} {pn pr : List (Addr × Obj)} {σ : L2.St} {H : Hp} {g : Shared} {Q : Value → Shared → Prop} {E : Value → Shared → Prop} (hc : Names X x c) (S : Inv (X.suite a pn) pr σ H g) (q : Q c g) :
    wpAny (model X.prog X.w) (X.A.mark (some (.ref a))) (eval (.Name x np) X.env) Q E g := by
  obtain ⟨g1, g2, g3 | ⟨g4, g5, g6⟩⟩ := hc
  · exact ld_glob (X := X.suite a pn) S g1 g3 q g2
  · exact ld_blt (X := X.suite a pn) S g1 g4 g5 q g6 g2
/-- behind the frame's note the name goes, and the suite's exception goes on -/
theorem goes_on {A : Around} {n : Str} {i : Nat} {a : Addr} {B hp : Heap} {sI g : Shared} {σ : L2.St} {H : Hp} {cls : Value} {d : Option Addr} {pos : Pos} {what : String} {E1 E2 : Value → Shared → Prop} {Q : Flow → Shared → Prop}
    (hs : X.stack = X.env :: X.outer) (hf : X.env.frame = some X.env.locals) (nd : X.N.Nodup) (at_ : X.N[i]? = some n) (loc : X.env.kindOf n = some .local) (tk : L2.Takes X Wout) (hE : ∀ u, X.xe (.ref a) u → E1 (.ref a) u)
    (J : Inv X pins σ H sI) (nb : ∀ b o, sI.heap.get? b = some o → b ∉ frs X.stack → B.get? b = some o) (up : sI.heap.UpToSlots hp) (hl : HandSPX.HeldZ B (X.env :: X.outer) a (Zc cls d) X.env.locals hp) (na : H a = none) (os : g.os = sI.os) (ag : AllBare g.gens)
    (wish : Wout cls d (σ.set i none) H) :
    wpAny (model X.prog X.w) A (do bindName X.env n .none; unbindBehindTheSuite X.env n pos) (fun _ u => wpAny (model X.prog X.w) A (PySem.passOn what (.ref a) X.env : Sem Flow) Q E1 u) E2 { g with heap := hp } := by
  have mine : X.env.locals ∈ frs (X.env :: X.outer) := List.mem_filterMap.mpr ⟨X.env, List.mem_cons_self, hf⟩
  obtain ⟨m, ns, _⟩ := id J.loc
  obtain ⟨oL, es, ep, gL, dL, kL, mL⟩ := id ns
  obtain ⟨sl, gL2⟩ := up _ _ gL (fun fs z => by cases dL.symm.trans z)
  refine wpAny_nameGoes_keeps (s := { g with heap := hp }) loc ⟨_, es, ep, gL2, dL, kL, mL⟩ (by rw [J.ok.kind]; rfl) fun h2 v ns2 but => ?_
  obtain ⟨o2, es2, ep2, g2, d2, k2, m2⟩ := id ns2
  have put : (sI.heap.update X.env.locals (fun _ => o2)).get? X.env.locals = some o2 := Heap.get?_update_self (fun _ => o2) gL (Heap.get?_some_iff.mp g2).2
  have but0 : Heap.SameBut X.env.locals sI.heap (sI.heap.update X.env.locals (fun _ => o2)) := Heap.SameBut.update ..
  have J2 := gone_inv (tk := sI.toks) J nd at_ ns ⟨o2, es2, ep2, put, d2, k2, m2⟩ but0
  have rec_ : ∀ {b : Addr} {o : Obj} {fs : Array Value}, hp.get? b = some o → o.data = .fields fs → h2.get? b = some o := fun {b o fs} e y => (but.2 b fun z => by
    subst z
    cases e.symm.trans gL2
    cases dL.symm.trans (show oL.data = .fields fs from y)).trans e
  obtain ⟨st, nB, fr, oe, fs, T, oT, ts, e1, e2, e3, e4, e5, e6, e7, e8, e9⟩ := hl
  have tr : HandSPX.TracedZ h2 B a (Zc cls d) (rawInt X.env.locals) := ⟨oe, fs, T, oT, ts, rec_ e1 e3, e2, e3, e4, e5, e6, rec_ e7 e8, e8, e9⟩
  have st2 : B.StaysIn h2 := fun b o e => (but.2 b fun z => by cases ((fr.mem mine).1).symm.trans (z ▸ e)).trans (st b o e)
  unfold PySem.passOn
  refine wpAny_bind (wpAny_field (s := { g with heap := h2, toks := g.toks + 1 }) (rec_ e1 e3) e3 e4 ?_)
  refine (if_neg (show ¬ (Value.ref T == Value.none) = true from fun z => Bool.noConfusion z)).symm ▸ ?_
  have last : wpAny (model X.prog X.w) A (setFlight (.ref a) X.env.frame) (fun _ u => wpAny (model X.prog X.w) A (throw (.ref a) : Sem Flow) Q E1 u) E1 { g with heap := h2, toks := g.toks + 1 } := by
    rw [hf]
    refine HandSPX.setFlight_anyZ (s := { g with heap := h2, toks := g.toks + 1 }) st2 (frames_but but ns2 fr) tr fun h3 f1 f2 f3 f4 => wpAny_throw (hE _ (tk _ _ ⟨a, B, _, pins, σ.set i none, H, cls, d, rfl, J2, fun b o e no => ?_, fun b o e no => ?_, .inr (.inr (hs ▸ ⟨f1, nB, f2, f3⟩)), na, os, ag, wish⟩))
    · exact nb b o ((but0.2 b fun z => no (by rw [hs, z]; exact mine)).symm.trans e) no
    · by_cases z : b = X.env.locals
      · subst z
        cases put.symm.trans e
        exact f4 _ _ g2 no
      · obtain ⟨s1, y1⟩ := up b o ((but0.2 b z).symm.trans e) no
        have y2 : h2.get? b = some { o with slots := s1 } := (but.2 b z).trans y1
        obtain ⟨s2, y3⟩ := f4 b _ y2 no
        exact ⟨s2, y3⟩
  first
    | exact wpAny_bind (wpAny_pure (wpAny_bind last))
    | exact wpAny_bind last
/-- no clause names it: it goes on -/
theorem flies_on {a : Addr} {B hp : Heap} {sI g : Shared} {σ : L2.St} {H : Hp} {cls : Value} {d : Option Addr} (hs : X.stack = X.env :: X.outer) (hf : X.env.frame = some X.env.locals) (tk : L2.Takes X Wout)
    (J : Inv X pins σ H sI) (nb : ∀ b o, sI.heap.get? b = some o → b ∉ frs X.stack → B.get? b = some o) (up : sI.heap.UpToSlots hp) (fl : HandSPX.FlyingZ B (X.env :: X.outer) a (Zc cls d) hp) (na : H a = none) (os : g.os = sI.os) (ag : AllBare g.gens)
    (wish : Wout cls d σ H) : wpAny (model X.prog X.w) X.A (handleBy (.ref a) X.env []) (SP X pins D) X.xe { g with heap := hp } := by
  obtain ⟨f1, f2, f3, oe, fs, T, oT, ts, e1, e2, e3, e4, e5⟩ := id fl
  refine wpAny_handleBy_nil ?_
  unfold PySem.passOn
  refine wpAny_bind (wpAny_field e1 e3 e4 ?_)
  refine (if_neg (show ¬ (Value.ref T == Value.none) = true from fun z => Bool.noConfusion z)).symm ▸ ?_
  have last : wpAny (model X.prog X.w) X.A (setFlight (.ref a) X.env.frame) (fun _ u => wpAny (model X.prog X.w) X.A (throw (.ref a) : Sem Flow) (SP X pins D) X.xe u) X.xe { g with heap := hp } := by
    rw [hf]
    exact HandSPX.setFlight_upZ fl fun h2 hl up2 => wpAny_throw (tk _ _ ⟨a, B, sI, pins, σ, H, cls, d, rfl, J, nb, up.trans up2, .inr (.inr (hs ▸ hl)), na, os, ag, wish⟩)
  first
    | exact wpAny_bind (wpAny_pure (wpAny_bind last))
    | exact wpAny_bind last
theorem sp_back {pr : List (Addr × Obj)} {xe : Value → Shared → Prop} {f : Flow} {g : Shared} (ok : X.Ok) (h : SP (X.tr (X.pn ++ pins) xe) pr D f g) : SP X pins D f g := by
  cases f <;> (try (obtain ⟨u1, u2, J, q⟩ := h; exact ⟨u1, u2, J.ofTry ok, q⟩))
  obtain ⟨u0, u1, u2, J, q⟩ := h
  exact ⟨u0, u1, u2, J.ofTry ok, q⟩
variable {x n : Str} {c : Value} {i : Nat} {body suite : List Stmt} {b₀ : Stmt} {np pos pos2 : Pos} {tb : WX → TS} {ts : Addr → Value → Option Addr → TS}
theorem ps_try_asX (hs : X.stack = X.env :: X.outer) (hf : X.env.frame = some X.env.locals) (nd : X.N.Nodup) (at_ : X.N[i]? = some n) (loc : X.env.kindOf n = some .local) (hc : Names X x c)
    (hpa : ∀ hd : Option Value, PassesOwnAt (model X.prog X.w) (X.A.mark hd) X.A X.env X.xe) (tk : L2.Takes X Wout)
    (hb : ∀ (W : WX) (pn : List (Addr × Obj)) (xe : Value → Shared → Prop), L2N.Takes (X.tr pn xe) W → PassesOwn (model X.prog X.w) X.A X.env xe → PSs (X.tr pn xe) body (tb W))
    (hsu : ∀ (a : Addr) (oe : Obj) (cls : Value) (d : Option Addr) (pn : List (Addr × Obj)) (xe : Value → Shared → Prop), L2N.Zn cls d oe → (∃ fs, oe.data = .fields fs) → L2.Takes (sx X a ((a, oe) :: pn) xe) (fun cls d σ H => Wout cls d (σ.set i none) H) → HotC (sx X a ((a, oe) :: pn) xe) →
      PSs (sx X a ((a, oe) :: pn) xe) (b₀ :: suite) (ts a cls d)) :
    PS X (.Try body [.ExceptHandler (some (.Name x np)) (some n) (b₀ :: suite) pos2] [] [] pos) (fun D σ H => tb (wAs X.K c i ts Wout D) D σ H) := by
  refine ⟨fun pins s σ H D I ask => wpAny_Try_except ?_⟩
  have ok := I.ok
  have fra : X.A.frames = some (X.env :: X.outer) := ok.frames.trans (congrArg some hs)
  have tried : ∀ (E0 : Value → Shared → Prop), L2N.Takes (X.tr (X.pn ++ pins) E0) (wAs X.K c i ts Wout D) → PassesOwn (model X.prog X.w) X.A X.env E0 → _ := fun E0 t0 p0 => (hb _ (X.pn ++ pins) E0 t0 p0).run [] s σ H D (I.toTry _) ask
  refine wpAny_mono (tried _ ?land ?pass) (fun f g h => ?thru) (fun _ _ z => z)
  case pass => exact PassesOwn.looking
  case thru =>
    have h2 := sp_back ok h
    cases f <;> first | exact wpAny_execs_nil h2 | exact h2
  case land =>
    rintro u g xx
    obtain ⟨a, B, sI, pr, σ1, H1, cls, d, rfl, Jt, nb, up, sky, na, os, ag, b, isC, yes, no⟩ := xx
    have J : Inv X pins σ1 H1 sI := Jt.ofTry ok
    refine L2N.Sky.land (env := X.env) (outer := X.outer) L2N.Zn.steady fra hf (hs ▸ sky) fun h1 fl up1 => ?_
    have J1 : Inv X pins σ1 H1 { g with heap := h1 } := J.landed nb fl.1 (up.trans up1) os ag
    obtain ⟨oe, fs, e1, e2, e3⟩ := fl.there
    obtain ⟨nL, nF⟩ := no_frame fl.2.2.1 e1 e3 hf
    have ty : PySem.W.Looks (model X.prog X.w) h1 (typeOf (.ref a)) cls := fun _ _ _ _ keep q => wpAny_typeOf_ref (keep _ _ e1) (e2.1 ▸ q)
    refine wpAny_handleBy_cons (codeAny_handlers_test (named hc (J1.suite e1 e3 na nL nF) ((PySem.W.exm_one (M := model X.prog X.w) J1.kIn ty isC).here ?_))) (fun q => nomatch q)
    cases b with
    | false => exact flies_on hs hf tk J nb (up.trans up1) (flyingZ_imp (fun _ z => L2N.Zn.zc z) fl) na os ag (no rfl)
    | true =>
      refine codeAny_handlers_suite_as (HandSPX.lands_againZ fl fun h2 fl2 up2 => ?_)
      have J2 : Inv X pins σ1 H1 { g with heap := h2 } := J.landed nb fl2.1 ((up.trans up1).trans up2) os ag
      obtain ⟨oe2, fs2, y1, y2, y3⟩ := fl2.there
      refine store_ok (X := X.suite a ((a, oe2) :: (X.pn ++ pins))) (v := .ref a) (J2.suite y1 y3 na nL nF) nd at_ (.inl loc) rfl (fun g3 S3 => ?_) (.inr loc)
      have run : ∀ (E0 : Value → Shared → Prop), L2.Takes (sx X a ((a, oe2) :: (X.pn ++ pins)) E0) (fun cls d σ H => Wout cls d (σ.set i none) H) → _ := fun E0 tk0 =>
        (hsu a oe2 cls d (X.pn ++ pins) E0 y2 ⟨_, y3⟩ tk0 ⟨(a, oe2), ⟨rfl, fs2, y3, y2.2.2 fs2 y3⟩, List.mem_cons_self⟩).run [] g3 _ H1 _ (sx_of S3) (yes rfl a na)
      refine wpAny_mono (run _ ?tk) (fun f g4 h => ?q) (fun _ _ z => z)
      case q => cases f with
        | ret u => obtain ⟨v, σ4, H4, S4, r, q⟩ := h; exact gone_ok (sx_un S4 ok) nd at_ loc fun g5 J5 => ⟨v, _, H4, J5, r, q⟩
        | next => obtain ⟨σ4, H4, S4, q⟩ := h; exact gone_ok (sx_un S4 ok) nd at_ loc fun g5 J5 => ⟨_, H4, J5, q⟩
        | brk => obtain ⟨σ4, H4, S4, q⟩ := h; exact gone_ok (sx_un S4 ok) nd at_ loc fun g5 J5 => ⟨_, H4, J5, q⟩
        | cont => obtain ⟨σ4, H4, S4, q⟩ := h; exact gone_ok (sx_un S4 ok) nd at_ loc fun g5 J5 => ⟨_, H4, J5, q⟩
      case tk =>
        rintro u g4 ⟨a4, B4, s4, _, σ4, H4, c4, d4, rfl, I4, nb4, up4, sky4, na4, os4, ag4, w4⟩
        have J4 : Inv X pins σ4 H4 s4 := sx_un I4 ok
        have fin := fun (E2 : Value → Shared → Prop) (hp : Heap) (hl : HandSPX.HeldZ B4 (X.env :: X.outer) a4 (Zc c4 d4) X.env.locals hp) (up5 : g4.heap.UpToSlots hp) =>
          goes_on (E2 := E2) (A := X.A.mark (some (.ref a))) (pos := pos2) (what := "try.except-as") (Q := fun _ _ => False) hs hf nd at_ loc tk (fun u z => hpa (some (.ref a)) _ u z) J4 nb4 (up4.trans up5) hl na4 os4 ag4 w4
        have sky5 : Sky B4 (X.env :: X.outer) a4 (Zc c4 d4) X.env.locals g4.heap := hs ▸ sky4
        rcases sky5 with ⟨k1, k2, k3, o4, f4, k4, k5, k6, k7⟩ | fly | held
        · exact HandSPX.look_newZ Zc.steady fra k3 hf k4 k1 k2 k6 k7 k5 (fin _)
        · exact HandSPX.looks_onZ Zc.steady fra hf fly (fin _)
        · exact HandSPX.againZ hf held.2.2.2 (fin _ g4.heap held (Heap.UpToSlots.refl _))
end
/-! #### a def called while an exception is handled; a def whose exceptions have no context -/
section
variable {P : Program} {w : World} {K : PySem.W.Frag} {mg : Str → Option Value} {base : Heap} {x qual : Str} {st : Stmt} {f : Addr} {fd : FuncData} {N ps : List Str} {k : Nat} {sp : Sp}
theorem okH (F : Fun K x qual st f fd) (S : FnScope N ps (defScope st)) (len : ∀ vs H Q E, sp vs H Q E → vs.length = ps.length)
    (walk : ∀ (cd : Value) (A : Around) (outer : List Env) (s : Shared) (H : Hp) (vs : List V) (Q : VK) (E : XK) (p : Addr × Obj), RoomH k (A.deeper (envOfC qual (defScope st) s.heap.objs.size f cd)) → HotC (cxH CX0 P w K mg base N qual (defScope st) f cd A outer s H E p).nox → sp vs H Q E →
      ∃ t, PSs (cxH CX0 P w K mg base N qual (defScope st) f cd A outer s H E p).nox (defBody st) t ∧ t { nx := fun _ H2 => Q .non H2, rt := Q } (L2.start N vs) H) : FnH P w K mg base CX0 (k + 1) f fd ps sp := by
  obtain ⟨_, _, _, _, _, _, cd, _, _, rfl, here, code⟩ := F.ex
  exact fn_ofH here code S len fun A outer s H vs Q E p hot room ask => let ⟨t, body, q⟩ := walk cd A outer s H vs Q E p room ⟨p, hot, List.mem_singleton.mpr rfl⟩ ask; ⟨t, body.nox, q⟩
theorem okN (F : Fun K x qual st f fd) (S : FnScope N ps (defScope st)) (len : ∀ vs H Q E, sp vs H Q E → vs.length = ps.length)
    (walk : ∀ (cd : Value) (A : Around) (outer : List Env) (s : Shared) (H : Hp) (vs : List V) (Q : VK) (E : XK), Room k (A.deeper (envOfC qual (defScope st) s.heap.objs.size f cd)) → sp vs H Q E →
      ∃ t, PSs (cxOf (L2N.CX P w) P w K mg base N qual (defScope st) f cd A outer s H E) (defBody st) t ∧ t { nx := fun _ H2 => Q .non H2, rt := Q } (L2.start N vs) H) : FnOk P w K mg base (L2N.CX P w) (k + 1) f fd ps sp := by
  obtain ⟨_, _, _, _, _, _, cd, _, _, rfl, here, code⟩ := F.ex
  exact fn_of here code S len fun A outer s H vs Q E room ask => walk cd A outer s H vs Q E room ask
end
/-- C(e, ..): the exception that is made has no context -/
theorem pmk_oexN {X : Cx} {CX : CXT} {x : Str} {e : Expr} {es : List Expr} {ta : TA} {p pos : Pos} {C fI : Addr} {k : Nat} {fd : FuncData} {ps : List Str} {sp : Sp} (T : OexC X.K C) (iC : PySem.W.findIn X.K (.ref C) "__init__" = some (some (.ref fI)))
    (tI : PySem.W.typeIn X.K (.ref fI) = some (.type "function")) (G : FnOk X.prog X.w X.K X.mg X.base CX k fI fd ps sp) (room : Room (k + 1) X.A) (hb : Binds X.K fd ps []) (pass : Passes CX X (fun _ _ _ => False)) (hg : Gl X x) (hm : X.mg x = some (.ref C)) (ha : PA X (e :: es) ta) (hdb : (x == ("__debug__" : Str)) = false := by decide) (he : starEach (e :: es) X.env = (false, eval e X.env) :: starEach es X.env := by rfl) (hpl : (backTo pos (starEach es X.env)).any (·.1) = false := by rfl) :
    L2N.PMk X (.Call (.Name x p) (e :: es) [] pos) (tMkO C sp [] ta) := fun pins s σ H Q I ask => by
  obtain ⟨_, _, _, _, bm, _, _, _, _, _, _, _, _, _, _, cls, refs⟩ := T.cls
  refine wpAny_Call_Name_kw (ld_glob I hg hm (PySem.W.callWith_K (h₀ := X.base) I.ok.mod.kin T.kC (thn (ha.run pos pins s σ H _ I ask) fun us s1 ⟨vs, H1, I1, rel, few, q1⟩ => ⟨I1.kIn, ?_⟩) he hpl) hdb)
  obtain ⟨hp, gs, dr, tk, os⟩ := s1
  have above : hp.objs.size ≤ hp.objs.size + 1 := Nat.le_succ _
  have ask1 := q1 (hp.objs.size + 1) (I1.hok.fresh above)
  rw [List.append_nil] at ask1
  have keep : ∀ b o, hp.get? b = some o → ((hp.push (PySem.W.kdv_tup us)).push (PySem.HandSPX.excO C hp.objs.size)).get? b = some o := fun _ _ z => Heap.get?_push_of_some _ (Heap.get?_push_of_some _ z)
  have laid := I1.laid (t' := tk) (o := exo (hp.objs.size + 1) C none) (a := hp.objs.size + 1) keep above (exo_ok (t1 := hp.objs.size) (by heap_get))
  have rel2 : Vals (V.ref (hp.objs.size + 1) :: vs) (Value.ref (hp.objs.size + 1) :: us) := .cons rfl rel
  have bind := hb _ (Value.ref (hp.objs.size + 1) :: us) laid.kIn (by rw [List.append_nil]; exact rel2.length.symm.trans (G.len _ _ _ _ ask1))
  rw [List.append_nil] at bind
  refine show wpAny _ _ (call (.ref C) us) _ _ _ from wpAny_call (PySem.HandSPX.call_own F.excBase_ValueError (fun Y => PySem.HandSPX.refsVE_contains Y bm refs) (I1.kIn _ _ cls) (PySem.W.looks_findIn I1.kIn iC) (fun self => PySem.W.bind_fn I1.kIn self tI) (by rw [← Paired.length rel, sizeLine_eq]; omega)
    (codeAny_mono (G.run _ X.stack _ _ ⟨Value.ref (hp.objs.size + 1) :: us, []⟩ _ _ _ (fun _ _ _ => False) (room.make C us []) (laid.env0.make C us []) bind rel2 ask1) fun r s2 got => ?_))
  match r, got with
  | .error er, got => exact pass pins σ _ _ er s2 laid got
  | .ok (.ret u), got =>
    obtain ⟨v, H2, y1, y2, y3, y4, y5, rfl, d, fs, y6, y7, y8, y9⟩ := got
    obtain ⟨h2, g2, d2, t2, o2⟩ := s2
    obtain ⟨_, G0, J, kG, nG, hO, nA⟩ := mk_end0 (d2 := d2) (t2 := t2) I1 above keep y3 y4 y1 y2 y6 y7 y8
    exact ⟨y5, hp.objs.size + 1, _, _, ⟨G0, g2, d2, t2, o2⟩, _, .ref C, some d, rfl, J, kG, nG, hO, ⟨rfl, rfl, fun fs z => by cases z; rfl⟩, rfl, rfl, nA, rfl, y2, raises_own T.exC T.tyC, y9⟩
  | .ok .next, got => exact got.elim
  | .ok .brk, got => exact got.elim
  | .ok .cont, got => exact got.elim
end HotAs
/-! ### list(text); isinstance of a caught exception, within its suite -/
namespace LsT
open PySem PySem.Spec PyProof.Rows L2
/-- the signs of a text, each a text -/
def sgs (cs : List Nat) : List V := cs.map fun c => V.str ⟨#[c]⟩
theorem vals_sgs : ∀ (cs : List Nat) (us : List Value), us.length = cs.length → (∀ (j : Nat) (c : Nat) (u : Value), cs[j]? = some c → us[j]? = some u → ∃ t, u = .str ⟨#[c]⟩ t) → Vals (sgs cs) us
  | [], [], _, _ => .nil
  | c :: cs, u :: us, l, h => .cons (h 0 c u rfl rfl) (vals_sgs cs us (Nat.succ.inj l) fun j c u h1 h2 => h (j + 1) c u h1 h2)
  | [], _ :: _, l, _ => nomatch l
  | _ :: _, [], l, _ => nomatch l
theorem call_listS {X : Cx} (calm : X.calm = true) : CallR X (.type "list") (fun xs H Q => ∃ z : Str, xs = [.str z] ∧ z.length ≤ sizeLine ∧ ∀ l, H l = none → Q (.ref l) (upd H l (.lst (sgs z.cps.toList)))) := fun pins s σ H xs us Q I rel ask => by
  obtain ⟨z, rfl, small, q⟩ := ask
  obtain ⟨u, rfl, t, rfl⟩ := vals1 rel
  refine PySem.call_list_str (I.ok.hd calm) z t (fun hp tk acc c keep new items => ?_) small
  have vs : Vals (sgs z.cps.toList) acc.toList := vals_sgs _ _ (by rw [Array.length_toList, Array.length_toList]; exact items.1) fun j c u h1 h2 => by
    obtain ⟨c2, t2, g1, g2⟩ := items.2 j u (by rw [← Array.getElem?_toList]; exact h2)
    rw [Array.getElem?_toList, g1] at h1
    cases h1
    exact ⟨t2, g2⟩
  have few : (sgs z.cps.toList).length ≤ sizeLine := by
    unfold sgs
    rw [List.length_map, Array.length_toList]
    exact small
  exact ⟨.ref s.heap.objs.size, _, I.laid (t' := tk) keep (Nat.le_refl _) (show ObjOk X.prog X.w _ hp _ (.lst (sgs z.cps.toList)) from ⟨few, acc.toList, c, vs, new⟩), rfl, q _ (I.hok.fresh (Nat.le_refl _))⟩
/-- the reading of isinstance(e, C) in e's suite: cls and d are e's -/
def rIsS (K : PySem.W.Frag) (a D : Addr) (cls : Value) (d : Option Addr) : List V → Hp → VK → Prop := fun xs H Q => ∃ (c : V) (cv : Value) (b : Bool) (dd : Addr) (fs : List (Str × V)), cls = .ref D ∧ d = some dd ∧ xs = [.ref a, c] ∧ (∀ u, RelV c u → u = cv) ∧ H dd = some (.xd fs) ∧ PySem.W.kitOne K (.ref D) cv = some b ∧ Q (.bl b) H
theorem call_isS {X : Cx} {K : PySem.W.Frag} {D a : Addr} {oe : Obj} {cls : Value} {d : Option Addr} (hK : X.K = K) (C : ExcC K D) (mem : (a, oe) ∈ X.pn) (hz : Zc cls d oe) (hf : ∃ fs, oe.data = .fields fs) : CallR X (.builtin "isinstance") (rIsS K a D cls d) := fun pins s σ H xs us Q I rel ask => by
  subst hK
  obtain ⟨c, cv, b, dd, fs, rfl, rfl, r1, r2, r3, r4, r5⟩ := ask
  exact ExcM.call_isP C mem hz hf pins s σ H xs us Q I rel ⟨c, cv, b, fs, r1, r2, r3, r4, r5⟩
/-- isinstance(e, (C, ..)) there -/
def rIsT (K : PySem.W.Frag) (a D : Addr) (cls : Value) (d : Option Addr) : List V → Hp → VK → Prop := fun xs H Q => ∃ (tp : Addr) (cs : List V) (ws : List Value) (b : Bool) (dd : Addr) (fs : List (Str × V)), cls = .ref D ∧ d = some dd ∧ xs = [.ref a, .ref tp] ∧ H tp = some (.tup cs) ∧ Paired ClsV cs ws ∧ H dd = some (.xd fs) ∧ PySem.W.kitAny K (.ref D) ws = some b ∧ Q (.bl b) H
theorem call_isT {X : Cx} {K : PySem.W.Frag} {D a : Addr} {oe : Obj} {cls : Value} {d : Option Addr} (hK : X.K = K) (C : ExcC K D) (mem : (a, oe) ∈ X.pn) (hz : Zc cls d oe) (hf : ∃ fs, oe.data = .fields fs) : CallR X (.builtin "isinstance") (rIsT K a D cls d) := fun pins s σ H xs us Q I rel ask => by
  subst hK
  obtain ⟨tp, cs, ws, b, dd, fs, rfl, rfl, rfl, at_, cl, own, kit, q⟩ := ask
  obtain ⟨u1, u2, rfl, e1, e2⟩ := vals2 rel
  cases (show u1 = Value.ref a from e1)
  cases (show u2 = Value.ref tp from e2)
  obtain ⟨fv, dat⟩ := hf
  obtain ⟨mA, ns, _⟩ := (I.hok dd _ own : ObjOk X.prog X.w H s.heap dd (.xd fs))
  obtain ⟨od, has, _⟩ := lookIn_ns ns
  have inst : PySem.W.InstAt s.heap a oe D (some od) := ⟨(I.pin (a, oe) (List.mem_append_left _ mem)).1, hz.1, by unfold PySem.W.notCls; rw [dat] <;> rfl, hz.2.symm ▸ has⟩
  obtain ⟨_, its, rv, ⟨oc, odd, odt, osl⟩, g1, g2, n, g3⟩ := (I.hok tp _ at_ : ObjOk X.prog X.w H s.heap tp (.tup cs))
  cases ClsV.all cl rv
  cases (show oc = Value.type "tuple" from g2)
  cases (show odt = Data.seq ws.toArray n from g3)
  exact PySem.W.kia_tup (ExcM.kit_exc C) I.kIn inst g1 kit (fun z => nomatch z) fun tk => ⟨.bl b, H, I.tok tk, rfl, q⟩
end LsT
namespace M
open PySem PySem.Spec PyProof.Rows L2
def topS (i : Nat) : Stmt := PySem.Challenge.pw_wayneedle_k82_texts_nearly_right.main.body.getD i (.Pass ⟨0, 0, 0, 0⟩)
abbrev s_is_whole : Stmt := topS 1
theorem sc_is_whole : FnScope ["thing"] ["thing"] (defScope s_is_whole) := ⟨rfl, rfl, rfl, by decide +kernel, rfl, by decide +kernel, by decide +kernel⟩
abbrev s_is_row : Stmt := topS 2
theorem sc_is_row : FnScope ["thing"] ["thing"] (defScope s_is_row) := ⟨rfl, rfl, rfl, by decide +kernel, rfl, by decide +kernel, by decide +kernel⟩
abbrev s_laid_out : Stmt := topS 3
theorem sc_laid_out : FnScope ["thing", "things", "begins", "whole"] ["thing"] (defScope s_laid_out) := ⟨rfl, rfl, rfl, by decide +kernel, rfl, by decide +kernel, by decide +kernel⟩
abbrev s_kept : Stmt := topS 4
theorem sc_kept : FnScope ["thing", "things", "begins", "at", "anew", "whole", "begin", "end"] ["thing"] (defScope s_kept) := ⟨rfl, rfl, rfl, by decide +kernel, rfl, by decide +kernel, by decide +kernel⟩
abbrev s_is_letter : Stmt := topS 13
theorem sc_is_letter : FnScope ["thing"] ["thing"] (defScope s_is_letter) := ⟨rfl, rfl, rfl, by decide +kernel, rfl, by decide +kernel, by decide +kernel⟩
abbrev s_is_lot : Stmt := topS 14
theorem sc_is_lot : FnScope ["thing"] ["thing"] (defScope s_is_lot) := ⟨rfl, rfl, rfl, by decide +kernel, rfl, by decide +kernel, by decide +kernel⟩
abbrev s_is_short_text : Stmt := topS 21
theorem sc_is_short_text : FnScope ["thing"] ["thing"] (defScope s_is_short_text) := ⟨rfl, rfl, rfl, by decide +kernel, rfl, by decide +kernel, by decide +kernel⟩
abbrev s_are_small : Stmt := topS 22
theorem sc_are_small : FnScope ["text", "letter"] ["text"] (defScope s_are_small) := ⟨rfl, rfl, rfl, by decide +kernel, rfl, by decide +kernel, by decide +kernel⟩
abbrev s_is_name : Stmt := topS 23
theorem sc_is_name : FnScope ["thing"] ["thing"] (defScope s_is_name) := ⟨rfl, rfl, rfl, by decide +kernel, rfl, by decide +kernel, by decide +kernel⟩
abbrev s_is_lone : Stmt := topS 24
theorem sc_is_lone : FnScope ["thing"] ["thing"] (defScope s_is_lone) := ⟨rfl, rfl, rfl, by decide +kernel, rfl, by decide +kernel, by decide +kernel⟩
abbrev s_is_sign : Stmt := topS 25
theorem sc_is_sign : FnScope ["thing"] ["thing"] (defScope s_is_sign) := ⟨rfl, rfl, rfl, by decide +kernel, rfl, by decide +kernel, by decide +kernel⟩
abbrev s_is_many : Stmt := topS 26
theorem sc_is_many : FnScope ["thing"] ["thing"] (defScope s_is_many) := ⟨rfl, rfl, rfl, by decide +kernel, rfl, by decide +kernel, by decide +kernel⟩
abbrev s_is_pair_entry : Stmt := topS 27
theorem sc_is_pair_entry : FnScope ["word", "part"] ["word", "part"] (defScope s_is_pair_entry) := ⟨rfl, rfl, rfl, by decide +kernel, rfl, by decide +kernel, by decide +kernel⟩
abbrev s_is_entry : Stmt := topS 28
theorem sc_is_entry : FnScope ["thing"] ["thing"] (defScope s_is_entry) := ⟨rfl, rfl, rfl, by decide +kernel, rfl, by decide +kernel, by decide +kernel⟩
abbrev s_held_log : Stmt := topS 29
theorem sc_held_log : FnScope ["entries", "faced", "log", "at", "thing"] ["entries"] (defScope s_held_log) := ⟨rfl, rfl, rfl, by decide +kernel, rfl, by decide +kernel, by decide +kernel⟩
abbrev s_number_in : Stmt := topS 34
theorem sc_number_in : FnScope ["word", "figure"] ["word"] (defScope s_number_in) := ⟨rfl, rfl, rfl, by decide +kernel, rfl, by decide +kernel, by decide +kernel⟩
abbrev s_entry_in : Stmt := topS 35
theorem sc_entry_in : FnScope ["text", "words"] ["text"] (defScope s_entry_in) := ⟨rfl, rfl, rfl, by decide +kernel, rfl, by decide +kernel, by decide +kernel⟩
abbrev s_read_entry : Stmt := topS 36
theorem sc_read_entry : FnScope ["text", "entry"] ["text"] (defScope s_read_entry) := ⟨rfl, rfl, rfl, by decide +kernel, rfl, by decide +kernel, by decide +kernel⟩
abbrev s_read_log : Stmt := topS 37
theorem sc_read_log : FnScope ["text", "why", "part"] ["text"] (defScope s_read_log) := ⟨rfl, rfl, rfl, by decide +kernel, rfl, by decide +kernel, by decide +kernel⟩
abbrev s_read_dealing : Stmt := topS 38
theorem sc_read_dealing : FnScope ["text", "lots", "at", "lot", "word"] ["text"] (defScope s_read_dealing) := ⟨rfl, rfl, rfl, by decide +kernel, rfl, by decide +kernel, by decide +kernel⟩
abbrev s_Lany_entry : Stmt := topS 40
theorem sc_Lany_entry : FnScope ["_law_pool_here", "_law_looks", "_law_pick", "_law_sign_here"] ["_law_pool_here", "_law_looks"] (defScope s_Lany_entry) := ⟨rfl, rfl, rfl, by decide +kernel, rfl, by decide +kernel, by decide +kernel⟩
abbrev s_Lany_log : Stmt := topS 41
theorem sc_Lany_log : FnScope ["_law_pool_here", "_law_many", "_law_swaps", "_law_log", "_law_looks", "_law_left", "_law_k", "_law_entry"] ["_law_pool_here", "_law_many", "_law_swaps"] (defScope s_Lany_log) := ⟨rfl, rfl, rfl, by decide +kernel, rfl, by decide +kernel, by decide +kernel⟩
abbrev s_Lis_name : Stmt := topS 42
theorem sc_Lis_name : FnScope ["_law_thing", "_law_letter"] ["_law_thing"] (defScope s_Lis_name) := ⟨rfl, rfl, rfl, by decide +kernel, rfl, by decide +kernel, by decide +kernel⟩
abbrev s_Lis_sign : Stmt := topS 43
theorem sc_Lis_sign : FnScope ["_law_thing", "_law_first"] ["_law_thing"] (defScope s_Lis_sign) := ⟨rfl, rfl, rfl, by decide +kernel, rfl, by decide +kernel, by decide +kernel⟩
abbrev s_Lis_many : Stmt := topS 44
theorem sc_Lis_many : FnScope ["_law_thing"] ["_law_thing"] (defScope s_Lis_many) := ⟨rfl, rfl, rfl, by decide +kernel, rfl, by decide +kernel, by decide +kernel⟩
abbrev s_Lis_entry : Stmt := topS 45
theorem sc_Lis_entry : FnScope ["_law_thing"] ["_law_thing"] (defScope s_Lis_entry) := ⟨rfl, rfl, rfl, by decide +kernel, rfl, by decide +kernel, by decide +kernel⟩
abbrev s_Lbad_at : Stmt := topS 46
theorem sc_Lbad_at : FnScope ["_law_entries", "_law_looks", "_law_at", "_law_entry"] ["_law_entries"] (defScope s_Lbad_at) := ⟨rfl, rfl, rfl, by decide +kernel, rfl, by decide +kernel, by decide +kernel⟩
abbrev s_Lspoilt_text : Stmt := topS 47
theorem sc_Lspoilt_text : FnScope ["_law_pool_here", "_law_text", "_law_signs", "_law_sign_here", "_law_at", "_law_pick"] ["_law_pool_here", "_law_text"] (defScope s_Lspoilt_text) := ⟨rfl, rfl, rfl, by decide +kernel, rfl, by decide +kernel, by decide +kernel⟩
abbrev s_Lpool : Stmt := topS 48
theorem sc_Lpool : FnScope ["_law_script", "_law_k", "_law_cell", "_law_left"] ["_law_script", "_law_k"] (defScope s_Lpool) := ⟨rfl, rfl, rfl, by decide +kernel, rfl, by decide +kernel, by decide +kernel⟩
abbrev s_Ltake : Stmt := topS 49
theorem sc_Ltake : FnScope ["_law_pool_here", "_law_wide", "_law_found", "_law_primes", "_law_one", "_law_two"] ["_law_pool_here", "_law_wide"] (defScope s_Ltake) := ⟨rfl, rfl, rfl, by decide +kernel, rfl, by decide +kernel, by decide +kernel⟩
abbrev s_Lwhole : Stmt := topS 50
theorem sc_Lwhole : FnScope ["_law_thing"] ["_law_thing"] (defScope s_Lwhole) := ⟨rfl, rfl, rfl, by decide +kernel, rfl, by decide +kernel, by decide +kernel⟩
abbrev s_Lsame : Stmt := topS 51
theorem sc_Lsame : FnScope ["_law_found", "_law_due_here", "_law_one", "_law_other"] ["_law_found", "_law_due_here"] (defScope s_Lsame) := ⟨rfl, rfl, rfl, by decide +kernel, rfl, by decide +kernel, by decide +kernel⟩
abbrev s_Lname : Stmt := topS 52
theorem sc_Lname : FnScope ["_law_pool_here", "_law_letters", "_law_k"] ["_law_pool_here"] (defScope s_Lname) := ⟨rfl, rfl, rfl, by decide +kernel, rfl, by decide +kernel, by decide +kernel⟩
abbrev s_Lsign : Stmt := topS 53
theorem sc_Lsign : FnScope ["_law_pool_here", "_law_lone", "_law_sign_here"] ["_law_pool_here", "_law_lone"] (defScope s_Lsign) := ⟨rfl, rfl, rfl, by decide +kernel, rfl, by decide +kernel, by decide +kernel⟩
abbrev s_Lentry_of : Stmt := topS 54
theorem sc_Lentry_of : FnScope ["_law_text", "_law_words", "_law_entry"] ["_law_text"] (defScope s_Lentry_of) := ⟨rfl, rfl, rfl, by decide +kernel, rfl, by decide +kernel, by decide +kernel⟩
abbrev s_Ldue : Stmt := topS 55
theorem sc_Ldue : FnScope ["_law_way", "_law_text", "_law_entry", "_law_log", "_law_at", "_law_words", "_law_bad", "_law_word", "_law_part"] ["_law_way", "_law_text"] (defScope s_Ldue) := ⟨rfl, rfl, rfl, by decide +kernel, rfl, by decide +kernel, by decide +kernel⟩
abbrev s_Lread : Stmt := topS 56
theorem sc_Lread : FnScope ["_law_way", "_law_text", "_law_found", "e", "_law_alone"] ["_law_way", "_law_text"] (defScope s_Lread) := ⟨rfl, rfl, rfl, by decide +kernel, rfl, by decide +kernel, by decide +kernel⟩
abbrev s_Lsome_text : Stmt := topS 57
theorem sc_Lsome_text : FnScope ["_law_pool_here", "_law_way", "_law_log", "_law_some", "_law_part", "_law_entry", "_law_k"] ["_law_pool_here"] (defScope s_Lsome_text) := ⟨rfl, rfl, rfl, by decide +kernel, rfl, by decide +kernel, by decide +kernel⟩
abbrev s_Lbent : Stmt := topS 58
theorem sc_Lbent : FnScope ["_law_pool_here", "_law_text", "_law_way", "_law_mark", "_law_parts", "_law_at", "_law_to"] ["_law_pool_here", "_law_text"] (defScope s_Lbent) := ⟨rfl, rfl, rfl, by decide +kernel, rfl, by decide +kernel, by decide +kernel⟩
abbrev s_law : Stmt := topS 59
theorem sc_law : FnScope ["_law_script", "_law_pool_here", "_law_k", "_law_there", "_law_text", "_law_way", "_law_due_here"] ["_law_script"] (defScope s_law) := ⟨rfl, rfl, rfl, by decide +kernel, rfl, by decide +kernel, by decide +kernel⟩
abbrev s_init : Stmt := inClass (topS 8) 0
theorem sc_init : FnScope ["self", "name", "at"] ["self", "name", "at"] (defScope s_init) := ⟨rfl, rfl, rfl, by decide +kernel, rfl, by decide +kernel, by decide +kernel⟩
abbrev s_init_NoText : Stmt := inClass (topS 10) 0
theorem sc_init_NoText : FnScope ["self", "at"] ["self", "at"] (defScope s_init_NoText) := ⟨rfl, rfl, rfl, by decide +kernel, rfl, by decide +kernel, by decide +kernel⟩
/-- what the top has left -/
structure Top (w : World) (K : PySem.W.Frag) (mg : Str → Option Value) where
  a_is_whole : Addr
  fd_is_whole : FuncData
  F_is_whole : Fun K "is_whole" "is_whole" s_is_whole a_is_whole fd_is_whole
  b_is_whole : Binds K fd_is_whole ["thing"] []
  g_is_whole : mg "is_whole" = some (.ref a_is_whole)
  a_is_row : Addr
  fd_is_row : FuncData
  F_is_row : Fun K "is_row" "is_row" s_is_row a_is_row fd_is_row
  b_is_row : Binds K fd_is_row ["thing"] []
  g_is_row : mg "is_row" = some (.ref a_is_row)
  a_laid_out : Addr
  fd_laid_out : FuncData
  F_laid_out : Fun K "laid_out" "laid_out" s_laid_out a_laid_out fd_laid_out
  b_laid_out : Binds K fd_laid_out ["thing"] []
  g_laid_out : mg "laid_out" = some (.ref a_laid_out)
  a_kept : Addr
  fd_kept : FuncData
  F_kept : Fun K "kept" "kept" s_kept a_kept fd_kept
  b_kept : Binds K fd_kept ["thing"] []
  g_kept : mg "kept" = some (.ref a_kept)
  a_is_letter : Addr
  fd_is_letter : FuncData
  F_is_letter : Fun K "is_letter" "is_letter" s_is_letter a_is_letter fd_is_letter
  b_is_letter : Binds K fd_is_letter ["thing"] []
  g_is_letter : mg "is_letter" = some (.ref a_is_letter)
  a_is_lot : Addr
  fd_is_lot : FuncData
  F_is_lot : Fun K "is_lot" "is_lot" s_is_lot a_is_lot fd_is_lot
  b_is_lot : Binds K fd_is_lot ["thing"] []
  g_is_lot : mg "is_lot" = some (.ref a_is_lot)
  a_is_short_text : Addr
  fd_is_short_text : FuncData
  F_is_short_text : Fun K "is_short_text" "is_short_text" s_is_short_text a_is_short_text fd_is_short_text
  b_is_short_text : Binds K fd_is_short_text ["thing"] []
  g_is_short_text : mg "is_short_text" = some (.ref a_is_short_text)
  a_are_small : Addr
  fd_are_small : FuncData
  F_are_small : Fun K "are_small" "are_small" s_are_small a_are_small fd_are_small
  b_are_small : Binds K fd_are_small ["text"] []
  g_are_small : mg "are_small" = some (.ref a_are_small)
  a_is_name : Addr
  fd_is_name : FuncData
  F_is_name : Fun K "is_name" "is_name" s_is_name a_is_name fd_is_name
  b_is_name : Binds K fd_is_name ["thing"] []
  g_is_name : mg "is_name" = some (.ref a_is_name)
  a_is_lone : Addr
  fd_is_lone : FuncData
  F_is_lone : Fun K "is_lone" "is_lone" s_is_lone a_is_lone fd_is_lone
  b_is_lone : Binds K fd_is_lone ["thing"] []
  g_is_lone : mg "is_lone" = some (.ref a_is_lone)
  a_is_sign : Addr
  fd_is_sign : FuncData
  F_is_sign : Fun K "is_sign" "is_sign" s_is_sign a_is_sign fd_is_sign
  b_is_sign : Binds K fd_is_sign ["thing"] []
  g_is_sign : mg "is_sign" = some (.ref a_is_sign)
  a_is_many : Addr
  fd_is_many : FuncData
  F_is_many : Fun K "is_many" "is_many" s_is_many a_is_many fd_is_many
  b_is_many : Binds K fd_is_many ["thing"] []
  g_is_many : mg "is_many" = some (.ref a_is_many)
  a_is_pair_entry : Addr
  fd_is_pair_entry : FuncData
  F_is_pair_entry : Fun K "is_pair_entry" "is_pair_entry" s_is_pair_entry a_is_pair_entry fd_is_pair_entry
  b_is_pair_entry : Binds K fd_is_pair_entry ["word", "part"] []
  g_is_pair_entry : mg "is_pair_entry" = some (.ref a_is_pair_entry)
  a_is_entry : Addr
  fd_is_entry : FuncData
  F_is_entry : Fun K "is_entry" "is_entry" s_is_entry a_is_entry fd_is_entry
  b_is_entry : Binds K fd_is_entry ["thing"] []
  g_is_entry : mg "is_entry" = some (.ref a_is_entry)
  a_held_log : Addr
  fd_held_log : FuncData
  F_held_log : Fun K "held_log" "held_log" s_held_log a_held_log fd_held_log
  b_held_log : Binds K fd_held_log ["entries"] []
  g_held_log : mg "held_log" = some (.ref a_held_log)
  a_number_in : Addr
  fd_number_in : FuncData
  F_number_in : Fun K "number_in" "number_in" s_number_in a_number_in fd_number_in
  b_number_in : Binds K fd_number_in ["word"] []
  g_number_in : mg "number_in" = some (.ref a_number_in)
  a_entry_in : Addr
  fd_entry_in : FuncData
  F_entry_in : Fun K "entry_in" "entry_in" s_entry_in a_entry_in fd_entry_in
  b_entry_in : Binds K fd_entry_in ["text"] []
  g_entry_in : mg "entry_in" = some (.ref a_entry_in)
  a_read_entry : Addr
  fd_read_entry : FuncData
  F_read_entry : Fun K "read_entry" "read_entry" s_read_entry a_read_entry fd_read_entry
  b_read_entry : Binds K fd_read_entry ["text"] []
  g_read_entry : mg "read_entry" = some (.ref a_read_entry)
  a_read_log : Addr
  fd_read_log : FuncData
  F_read_log : Fun K "read_log" "read_log" s_read_log a_read_log fd_read_log
  b_read_log : Binds K fd_read_log ["text"] []
  g_read_log : mg "read_log" = some (.ref a_read_log)
  a_read_dealing : Addr
  fd_read_dealing : FuncData
  F_read_dealing : Fun K "read_dealing" "read_dealing" s_read_dealing a_read_dealing fd_read_dealing
  b_read_dealing : Binds K fd_read_dealing ["text"] []
  g_read_dealing : mg "read_dealing" = some (.ref a_read_dealing)
  a_Lany_entry : Addr
  fd_Lany_entry : FuncData
  F_Lany_entry : Fun K "_law_any_entry" "_law_any_entry" s_Lany_entry a_Lany_entry fd_Lany_entry
  b_Lany_entry : Binds K fd_Lany_entry ["_law_pool_here", "_law_looks"] []
  g_Lany_entry : mg "_law_any_entry" = some (.ref a_Lany_entry)
  a_Lany_log : Addr
  fd_Lany_log : FuncData
  F_Lany_log : Fun K "_law_any_log" "_law_any_log" s_Lany_log a_Lany_log fd_Lany_log
  b_Lany_log : Binds K fd_Lany_log ["_law_pool_here", "_law_many", "_law_swaps"] []
  g_Lany_log : mg "_law_any_log" = some (.ref a_Lany_log)
  a_Lis_name : Addr
  fd_Lis_name : FuncData
  F_Lis_name : Fun K "_law_is_name" "_law_is_name" s_Lis_name a_Lis_name fd_Lis_name
  b_Lis_name : Binds K fd_Lis_name ["_law_thing"] []
  g_Lis_name : mg "_law_is_name" = some (.ref a_Lis_name)
  a_Lis_sign : Addr
  fd_Lis_sign : FuncData
  F_Lis_sign : Fun K "_law_is_sign" "_law_is_sign" s_Lis_sign a_Lis_sign fd_Lis_sign
  b_Lis_sign : Binds K fd_Lis_sign ["_law_thing"] []
  g_Lis_sign : mg "_law_is_sign" = some (.ref a_Lis_sign)
  a_Lis_many : Addr
  fd_Lis_many : FuncData
  F_Lis_many : Fun K "_law_is_many" "_law_is_many" s_Lis_many a_Lis_many fd_Lis_many
  b_Lis_many : Binds K fd_Lis_many ["_law_thing"] []
  g_Lis_many : mg "_law_is_many" = some (.ref a_Lis_many)
  a_Lis_entry : Addr
  fd_Lis_entry : FuncData
  F_Lis_entry : Fun K "_law_is_entry" "_law_is_entry" s_Lis_entry a_Lis_entry fd_Lis_entry
  b_Lis_entry : Binds K fd_Lis_entry ["_law_thing"] []
  g_Lis_entry : mg "_law_is_entry" = some (.ref a_Lis_entry)
  a_Lbad_at : Addr
  fd_Lbad_at : FuncData
  F_Lbad_at : Fun K "_law_bad_at" "_law_bad_at" s_Lbad_at a_Lbad_at fd_Lbad_at
  b_Lbad_at : Binds K fd_Lbad_at ["_law_entries"] []
  g_Lbad_at : mg "_law_bad_at" = some (.ref a_Lbad_at)
  a_Lspoilt_text : Addr
  fd_Lspoilt_text : FuncData
  F_Lspoilt_text : Fun K "_law_spoilt_text" "_law_spoilt_text" s_Lspoilt_text a_Lspoilt_text fd_Lspoilt_text
  b_Lspoilt_text : Binds K fd_Lspoilt_text ["_law_pool_here", "_law_text"] []
  g_Lspoilt_text : mg "_law_spoilt_text" = some (.ref a_Lspoilt_text)
  a_Lpool : Addr
  fd_Lpool : FuncData
  F_Lpool : Fun K "_law_pool" "_law_pool" s_Lpool a_Lpool fd_Lpool
  b_Lpool : Binds K fd_Lpool ["_law_script", "_law_k"] []
  g_Lpool : mg "_law_pool" = some (.ref a_Lpool)
  a_Ltake : Addr
  fd_Ltake : FuncData
  F_Ltake : Fun K "_law_take" "_law_take" s_Ltake a_Ltake fd_Ltake
  b_Ltake : Binds K fd_Ltake ["_law_pool_here", "_law_wide"] []
  g_Ltake : mg "_law_take" = some (.ref a_Ltake)
  a_Lwhole : Addr
  fd_Lwhole : FuncData
  F_Lwhole : Fun K "_law_whole" "_law_whole" s_Lwhole a_Lwhole fd_Lwhole
  b_Lwhole : Binds K fd_Lwhole ["_law_thing"] []
  g_Lwhole : mg "_law_whole" = some (.ref a_Lwhole)
  a_Lsame : Addr
  fd_Lsame : FuncData
  F_Lsame : Fun K "_law_same" "_law_same" s_Lsame a_Lsame fd_Lsame
  b_Lsame : Binds K fd_Lsame ["_law_found", "_law_due_here"] []
  g_Lsame : mg "_law_same" = some (.ref a_Lsame)
  a_Lname : Addr
  fd_Lname : FuncData
  F_Lname : Fun K "_law_name" "_law_name" s_Lname a_Lname fd_Lname
  b_Lname : Binds K fd_Lname ["_law_pool_here"] []
  g_Lname : mg "_law_name" = some (.ref a_Lname)
  a_Lsign : Addr
  fd_Lsign : FuncData
  F_Lsign : Fun K "_law_sign" "_law_sign" s_Lsign a_Lsign fd_Lsign
  b_Lsign : Binds K fd_Lsign ["_law_pool_here", "_law_lone"] []
  g_Lsign : mg "_law_sign" = some (.ref a_Lsign)
  a_Lentry_of : Addr
  fd_Lentry_of : FuncData
  F_Lentry_of : Fun K "_law_entry_of" "_law_entry_of" s_Lentry_of a_Lentry_of fd_Lentry_of
  b_Lentry_of : Binds K fd_Lentry_of ["_law_text"] []
  g_Lentry_of : mg "_law_entry_of" = some (.ref a_Lentry_of)
  a_Ldue : Addr
  fd_Ldue : FuncData
  F_Ldue : Fun K "_law_due" "_law_due" s_Ldue a_Ldue fd_Ldue
  b_Ldue : Binds K fd_Ldue ["_law_way", "_law_text"] []
  g_Ldue : mg "_law_due" = some (.ref a_Ldue)
  a_Lread : Addr
  fd_Lread : FuncData
  F_Lread : Fun K "_law_read" "_law_read" s_Lread a_Lread fd_Lread
  b_Lread : Binds K fd_Lread ["_law_way", "_law_text"] []
  g_Lread : mg "_law_read" = some (.ref a_Lread)
  a_Lsome_text : Addr
  fd_Lsome_text : FuncData
  F_Lsome_text : Fun K "_law_some_text" "_law_some_text" s_Lsome_text a_Lsome_text fd_Lsome_text
  b_Lsome_text : Binds K fd_Lsome_text ["_law_pool_here"] []
  g_Lsome_text : mg "_law_some_text" = some (.ref a_Lsome_text)
  a_Lbent : Addr
  fd_Lbent : FuncData
  F_Lbent : Fun K "_law_bent" "_law_bent" s_Lbent a_Lbent fd_Lbent
  b_Lbent : Binds K fd_Lbent ["_law_pool_here", "_law_text"] []
  g_Lbent : mg "_law_bent" = some (.ref a_Lbent)
  a_law : Addr
  fd_law : FuncData
  F_law : Fun K "law" "law" s_law a_law fd_law
  b_law : Binds K fd_law ["_law_script"] []
  g_law : mg "law" = some (.ref a_law)
  a_STEPS : Addr
  g_STEPS : mg "STEPS" = some (.ref a_STEPS)
  es_STEPS : Array DictEntry
  n_STEPS : Nat
  kd_STEPS : KDict K w a_STEPS es_STEPS n_STEPS
  ns_STEPS : ∀ z : Str, ∃ r, PySem.W.nsIn K a_STEPS z = some r ∧ r.isSome = ((["n", "e", "s", "w"] : List Str).any fun s => s == z)
  v_STEPS_0 : ∃ q, KDct K w a_STEPS "n" (.ref q) ∧ ∀ H, SqT K H q [.int (0), .int (1)]
  v_STEPS_1 : ∃ q, KDct K w a_STEPS "e" (.ref q) ∧ ∀ H, SqT K H q [.int (1), .int (0)]
  v_STEPS_2 : ∃ q, KDct K w a_STEPS "s" (.ref q) ∧ ∀ H, SqT K H q [.int (0), .int (-1)]
  v_STEPS_3 : ∃ q, KDct K w a_STEPS "w" (.ref q) ∧ ∀ H, SqT K H q [.int (-1), .int (0)]
  g_SMALL : ∃ t, mg "SMALL" = some (.str "abcdefghijklmnopqrstuvwxyz" t)
  g_GREAT : ∃ t, mg "GREAT" = some (.str "ABCDEFGHIJKLMNOPQRSTUVWXYZ" t)
  g_LONGEST : ∃ t, mg "LONGEST" = some (.int 8 t)
  a_WORDS_ALONE : Addr
  g_WORDS_ALONE : mg "WORDS_ALONE" = some (.ref a_WORDS_ALONE)
  v_WORDS_ALONE : ∀ H, SqT K H a_WORDS_ALONE [.str "left", .str "right", .str "back", .str "bump", .str "bare", .str "swap"]
  a_WORDS_BEHIND_A_FACE : Addr
  g_WORDS_BEHIND_A_FACE : mg "WORDS_BEHIND_A_FACE" = some (.ref a_WORDS_BEHIND_A_FACE)
  v_WORDS_BEHIND_A_FACE : ∀ H, SqT K H a_WORDS_BEHIND_A_FACE [.str "left", .str "right", .str "back", .str "go", .str "bump", .str "spy"]
  g_FIGURES : ∃ t, mg "FIGURES" = some (.str "0123456789" t)
  g_MOST_FIGURES : ∃ t, mg "MOST_FIGURES" = some (.int 30 t)
  g_NONE_AT_ALL : ∃ t, mg "NONE_AT_ALL" = some (.str "-" t)
  m_abs : mg "abs" = none
  m_all : mg "all" = none
  m_any : mg "any" = none
  m_bool : mg "bool" = none
  m_enumerate : mg "enumerate" = none
  m_int : mg "int" = none
  m_isinstance : mg "isinstance" = none
  m_len : mg "len" = none
  m_list : mg "list" = none
  m_range : mg "range" = none
  m_str : mg "str" = none
  m_tuple : mg "tuple" = none
  m_zip : mg "zip" = none
  a_NoLot : Addr
  g_NoLot : mg "NoLot" = some (.ref a_NoLot)
  a_BadLog : Addr
  g_BadLog : mg "BadLog" = some (.ref a_BadLog)
  a_NoDealing : Addr
  g_NoDealing : mg "NoDealing" = some (.ref a_NoDealing)
  a_NeedleError : Addr
  g_NeedleError : mg "NeedleError" = some (.ref a_NeedleError)
  a_NoText : Addr
  g_NoText : mg "NoText" = some (.ref a_NoText)
  kit_NoLot : PySem.W.kitOne K (.ref a_BadLog) (.ref a_NoLot) = some false
  kit_BadLog : PySem.W.kitOne K (.ref a_BadLog) (.ref a_BadLog) = some true
  kit_NoDealing : PySem.W.kitOne K (.ref a_BadLog) (.ref a_NoDealing) = some false
  kit_NeedleError : PySem.W.kitOne K (.ref a_BadLog) (.ref a_NeedleError) = some true
  kit_NoText : PySem.W.kitOne K (.ref a_BadLog) (.ref a_NoText) = some false
  kit_NoText_NoLot : PySem.W.kitOne K (.ref a_NoText) (.ref a_NoLot) = some false
  kit_NoText_BadLog : PySem.W.kitOne K (.ref a_NoText) (.ref a_BadLog) = some false
  kit_NoText_NoDealing : PySem.W.kitOne K (.ref a_NoText) (.ref a_NoDealing) = some false
  kit_NoText_NeedleError : PySem.W.kitOne K (.ref a_NoText) (.ref a_NeedleError) = some true
  kit_NoText_NoText : PySem.W.kitOne K (.ref a_NoText) (.ref a_NoText) = some true
  m_ValueError : mg "ValueError" = none
  kit_VE : PySem.W.kitOne K (.ref a_BadLog) (.type "ValueError") = some true
  oex : OexC K a_BadLog
  a_init : Addr
  fd_init : FuncData
  F_init : Fun K "__init__" "BadLog.__init__" s_init a_init fd_init
  b_init : Binds K fd_init ["self", "name", "at"] []
  iC : PySem.W.findIn K (.ref a_BadLog) "__init__" = some (some (.ref a_init))
  tI : PySem.W.typeIn K (.ref a_init) = some (.type "function")
  xf : XfC K a_BadLog
  exc : ExcC K a_BadLog
  exm : PySem.W.exmOne K (.ref a_BadLog) (.ref a_BadLog) = some true
  no_name : PySem.W.findIn K (.ref a_BadLog) "name" = some none
  no_at : PySem.W.findIn K (.ref a_BadLog) "at" = some none
  kit_VE_NoText : PySem.W.kitOne K (.ref a_NoText) (.type "ValueError") = some true
  oex_NoText : OexC K a_NoText
  a_init_NoText : Addr
  fd_init_NoText : FuncData
  F_init_NoText : Fun K "__init__" "NoText.__init__" s_init_NoText a_init_NoText fd_init_NoText
  b_init_NoText : Binds K fd_init_NoText ["self", "at"] []
  iC_NoText : PySem.W.findIn K (.ref a_NoText) "__init__" = some (some (.ref a_init_NoText))
  tI_NoText : PySem.W.typeIn K (.ref a_init_NoText) = some (.type "function")
  xf_NoText : XfC K a_NoText
  exc_NoText : ExcC K a_NoText
  exm_NoText : PySem.W.exmOne K (.ref a_NoText) (.ref a_NoText) = some true
  no_NoText_at : PySem.W.findIn K (.ref a_NoText) "at" = some none
  exn_BadLog_NoText : PySem.W.exmOne K (.ref a_BadLog) (.ref a_NoText) = some false
  exn_NoText_BadLog : PySem.W.exmOne K (.ref a_NoText) (.ref a_BadLog) = some false
/-! ### heaps, pools -/
/-- all but what stands at p is as it was -/
def But (p : Addr) (H H' : Hp) : Prop := ∀ b o, b ≠ p → H b = some o → H' b = some o
theorem But.refl (p : Addr) (H : Hp) : But p H H := fun _ _ _ h => h
theorem But.trans {p : Addr} {H H1 H2 : Hp} (a : But p H H1) (b : But p H1 H2) : But p H H2 := fun c o hc h => b c o hc (a c o hc h)
theorem But.of {p : Addr} {H H' : Hp} (a : Same H H') : But p H H' := fun b o _ h => a b o h
theorem But.upd {p : Addr} {H H' : Hp} {o : HO} (a : But p H H') : But p H (upd H' p o) := fun b u hb h => by
  rw [upd_ne hb]
  exact a b u hb h
theorem same_upd {H : Hp} {p : Addr} {o : HO} (h : H p = none) : Same H (upd H p o) := fun b x e => by
  rw [upd_ne (ne_of_none e h)]
  exact e
/-- changed at a new place alone -/
theorem But.same {p : Addr} {H H1 H2 : Hp} (n : H p = none) (a : Same H H1) (b : But p H1 H2) : Same H H2 := fun c o h => b c o (ne_of_none h n) (a c o h)
theorem But.free {p l : Addr} {H H1 : Hp} (a : But p H H1) (n : l ≠ p) (h : H1 l = none) : H l = none := by
  cases e : H l with
  | none => rfl
  | some o =>
    rw [a l o n e] at h
    cases h
/-- a change at a place that H doesn't know -/
theorem But.mut {p l : Addr} {H H1 : Hp} {o : HO} (a : But p H H1) (n : H l = none) : But p H (L2.upd H1 l o) := fun b u hb h => by
  rw [upd_ne (ne_of_none h n)]
  exact a b u hb h
/-- the spring of draws: four whole numbers, the first not below nought -/
def Pool (H : Hp) (p : Addr) : Prop := ∃ l c k n : Int, 0 ≤ l ∧ H p = some (.lst [.int l, .int c, .int k, .int n])
theorem Pool.same {H H' : Hp} {p : Addr} (h : Pool H p) (e : Same H H') : Pool H' p := by
  obtain ⟨l, c, k, n, h0, h1⟩ := h
  exact ⟨l, c, k, n, h0, e _ _ h1⟩
theorem Pool.ne_tup {H : Hp} {p q : Addr} {xs : List V} (h : Pool H p) (e : H q = some (.tup xs)) : q ≠ p := by
  obtain ⟨l, c, k, n, h0, h1⟩ := h
  exact ne_of e h1 (by intro z; cases z)
theorem Pool.ne_new {H : Hp} {p q : Addr} (h : Pool H p) (e : H q = none) : q ≠ p := by
  obtain ⟨l, c, k, n, h0, h1⟩ := h
  intro z
  rw [z, h1] at e
  cases e
theorem Pool.upd {H : Hp} {p q : Addr} {o : HO} (h : Pool H p) (e : q ≠ p) : Pool (L2.upd H q o) p := by
  obtain ⟨l, c, k, n, h0, h1⟩ := h
  refine ⟨l, c, k, n, h0, ?_⟩
  rw [upd_ne (Ne.symm e)]
  exact h1
theorem seq_but {K : PySem.W.Frag} {H H' : Hp} {p a : Addr} {xs : List V} (e : But p H H') (n : a ≠ p) (h : SqL K H a xs) : SqL K H' a xs := by
  rcases h with (h | ⟨o, h⟩) | h
  · exact .inl (.inl (e _ _ n h))
  · exact .inl (.inr ⟨o, e _ _ n h⟩)
  · exact .inr h
theorem abs_if (n : Int) : 0 ≤ (if n < 0 then -n else n) := by
  split <;> omega
local macro_rules | `(tactic| walk_at "go") => `(tactic| repeat (first
  | (with_reducible exact rfl)
  | (refine ⟨_, _, rfl, rfl, ?_⟩)
  | (refine ⟨_, rfl, ?_⟩)
  | (refine ⟨rfl, ?_⟩)))
def spPool (K : PySem.W.Frag) : Sp := fun vs H Q _ => ∃ (a : Addr) (ns : List Int) (k : Int), vs = [.ref a, .int k] ∧ SqL K H a (ns.map V.int) ∧ ns.length ≤ 63 ∧ 0 ≤ k ∧ ∀ H' p, Same H H' → H p = none → Pool H' p → Q (.ref p) H'
def spTake : Sp := fun vs H Q _ => ∃ (p : Addr) (m : Int), vs = [.ref p, .int m] ∧ 0 < m ∧ m < 2 ^ 200 ∧ Pool H p ∧ ∀ H' (r : Int), But p H H' → Pool H' p → 0 ≤ r → r < m → Q (.int r) H'
theorem iteY {c A B : Prop} [Decidable c] (hc : c) (h : A) : if decide c = true then A else B := by
  rw [if_pos (decide_eq_true hc)]
  exact h
theorem iteYn {c A B : Prop} [Decidable c] (hc : c) (h : B) : if (!decide c) = true then A else B := by
  rw [decide_eq_true hc]
  exact h
theorem iteDN {b : Bool} {A B : Prop} (hb : b = false) (h : B) : if b = true then A else B := by
  rw [hb]
  exact h
theorem iteDY {b : Bool} {A B : Prop} (hb : b = true) (h : A) : if b = true then A else B := by
  rw [hb]
  exact h
theorem iteNE {d e : PyData} {A B : Prop} (h : d = e) (hs : SeqAt.shaped d = true) (hB : B) : if (!PyData.eqv d e) = true then A else B := by
  subst h
  rw [SeqAt.eqv_refl d (SeqAt.canLay_of_shaped hs)]
  exact hB
theorem ne_no {x y : V} (e : x = y) : (!decide (x = y)) = false := by
  rw [decide_eq_true e]
  rfl
theorem iteN {x y : V} {A B : Prop} (e : x = y) (h : B) : if (!decide (x = y)) = true then A else B := by
  rw [ne_no e, if_neg Bool.false_ne_true]
  exact h
section
variable {P : Program} {w : World} {K : PySem.W.Frag} {mg : Str → Option Value} {base : Heap}
theorem ok_Lpool (T : Top w K mg) : FnOk P w K mg base CX0 1 T.a_Lpool T.fd_Lpool ["_law_script", "_law_k"] (spPool K) := by
  refine T.F_Lpool.ok sc_Lpool (fun vs H Q E h => ?_) (fun cdv A outer s H vs Q E hr h => ?_)
  · obtain ⟨a, ns, k, rfl, _⟩ := h
    rfl
  · obtain ⟨a, ns, k, rfl, hS, hlen, hk, q⟩ := h
    refine ⟨_, (pss_cons (ps_set (i := 2) sc_Lpool.nd rfl (.inl rfl) pe_int)
      (Evl.pss_cut (ps_if (pt_cmpR op_gt (pe_callB call_len_seq (by rfl) T.m_len (by decide +kernel) (pa_cons (pv 0) pa_nil)) pe_int (nomark _)) (pss_one (ps_set (i := 2) sc_Lpool.nd rfl (.inl rfl) (pe_ix ix_list (pv 0) (pe_op op_mod (pv 1) (pe_callB call_len_seq (by rfl) T.m_len (by decide +kernel) (pa_cons (pv 0) pa_nil))) (fun _ _ => rfl)))) pss_nil)
      (pss_cons (ps_set (i := 3) sc_Lpool.nd rfl (.inl rfl) pe_int)
      (pss_cons (ps_if (PW.pt (pw_and (pt_cmpR op_lt (pv 1) (pe_callB call_len_seq (by rfl) T.m_len (by decide +kernel) (pa_cons (pv 0) pa_nil)) (nomark _)) (pw_and1 (pt_cmpR op_ge (pe_callB call_abs (by rfl) T.m_abs (by decide +kernel) (pa_cons (pv 2) pa_nil)) (pe_op op_pow pe_int pe_int) (nomark _))))) (pss_one (ps_set (i := 3) sc_Lpool.nd rfl (.inl rfl) (pe_callB call_abs (by rfl) T.m_abs (by decide +kernel) (pa_cons (pv 2) pa_nil)))) pss_nil)
      (pss_one (ps_ret (pe_lst (pa_cons (pv 3) (pa_cons (pv 2) (pa_cons (pv 1) (pa_cons pe_int pa_nil))))))))))), ?_⟩
    have hL : ((ns.map V.int).length : Int) = ns.length := by rw [List.length_map]
    have fin : ∀ (l c : Int), 0 ≤ l → ∀ p, H p = none → Q (.ref p) (upd H p (.lst [.int l, .int c, .int k, .int 0])) := fun l c hl p hp =>
      q _ p (same_upd hp) hp ⟨l, c, k, 0, hl, upd_same⟩
    refine ⟨fun σ H' => H' = H ∧ ∃ c : Int, σ = [some (.ref a), some (.int k), some (.int c), none], ?_, ?_⟩
    · refine ⟨.ref a, rfl, a, ns.map V.int, rfl, .inl hS, _, _, rfl, rfl, _, rfl, ite2 (fun e => ?_) (fun e => ?_)⟩
      · have e0 : (0 : Int) < ((ns.map V.int).length : Int) := of_decide_eq_true e
        refine ⟨.ref a, rfl, .int k, rfl, .ref a, rfl, a, ns.map V.int, rfl, .inl hS, k, _, rfl, rfl, e0, ?_⟩
        have h1 := Int.emod_nonneg k (show ((ns.map V.int).length : Int) ≠ 0 by omega)
        have h2 := Int.emod_lt_of_pos k e0
        obtain ⟨j, hj⟩ : ∃ j : Nat, k % ((ns.map V.int).length : Int) = j := ⟨(k % ((ns.map V.int).length : Int)).toNat, by omega⟩
        have hj2 : j < ns.length := by omega
        have g : (ns.map V.int)[j]? = some (.int ns[j]) := by
          rw [List.getElem?_map, List.getElem?_eq_getElem hj2]
          rfl
        have gi : atI (ns.map V.int) (k % ((ns.map V.int).length : Int)) = some (.int ns[j]) := by
          rw [hj]
          exact atI_nat g
        exact ⟨a, _, _, _, rfl, rfl, hS, gi, rfl, _, rfl⟩
      · exact ⟨rfl, 0, rfl⟩
    · rintro σ H' ⟨rfl, c, rfl⟩
      refine ⟨.int k, rfl, .ref a, rfl, a, ns.map V.int, rfl, .inl hS, _, _, rfl, rfl, _, rfl, ite2 (fun e => ?_) (fun e => ?_)⟩
      · refine ⟨.int c, rfl, c, rfl, _, _, rfl, rfl, ⟨by decide, by decide, by decide⟩, _, _, rfl, rfl, _, rfl, ite2 (fun e => ?_) (fun e => ?_)⟩
        · exact ⟨.int c, rfl, c, rfl, _, rfl, _, rfl, _, rfl, by show 4 ≤ sizeLine; decide, fin _ c (abs_if c)⟩
        · exact ⟨_, rfl, _, rfl, _, rfl, by show 4 ≤ sizeLine; decide, fin 0 c (by decide)⟩
      · refine ite2 (fun e2 => by cases e2) (fun _ => ?_)
        exact ⟨_, rfl, _, rfl, _, rfl, by show 4 ≤ sizeLine; decide, fin 0 c (by decide)⟩
def primes : List Int := [2147483629, 2147483587, 2147483579, 2147483563, 2147483549, 2147483543, 2147483497, 2147483489]
theorem primes_at {i : Int} (h0 : 0 ≤ i) (h1 : i < 8) : ∃ p : Int, atI (primes.map V.int) i = some (.int p) ∧ 0 < p ∧ p < 2147483647 := by
  obtain rfl | rfl | rfl | rfl | rfl | rfl | rfl | rfl : i = 0 ∨ i = 1 ∨ i = 2 ∨ i = 3 ∨ i = 4 ∨ i = 5 ∨ i = 6 ∨ i = 7 := by omega
  all_goals exact ⟨_, rfl, by decide, by decide⟩
theorem pow_ok (a : Int) : CPow (a % 2147483647) 5 := by
  have h1 := Int.emod_nonneg a (show (2147483647 : Int) ≠ 0 by decide)
  have h2 := Int.emod_lt_of_pos a (show (0 : Int) < 2147483647 by decide)
  exact ⟨by decide, by decide, by omega⟩
theorem ok_Ltake (T : Top w K mg) : FnOk P w K mg base CX0 1 T.a_Ltake T.fd_Ltake ["_law_pool_here", "_law_wide"] spTake := by
  refine T.F_Ltake.ok sc_Ltake (fun vs H Q E h => ?_) (fun cdv A outer s H vs Q E hr h => ?_)
  · obtain ⟨p, m, rfl, _⟩ := h
    rfl
  · obtain ⟨p, m, rfl, hm, hb, ⟨l, c, k, n, hl, hp⟩, q⟩ := h
    refine ⟨_, (pss_cons (ps_if (pt_cmpR op_gt (pe_ix ix_list (pv 0) pe_int (fun _ _ => rfl)) pe_int (nomark _)) (pss_cons (ps_set (i := 2) sc_Ltake.nd rfl (.inl rfl) (pe_op op_mod (pe_ix ix_list (pv 0) pe_int (fun _ _ => rfl)) (pv 1)))
      (pss_cons (ps_asg (pe_op op_fdivW (pe_ix ix_list (pv 0) pe_int (fun _ _ => rfl)) (pv 1)) (pg_sub (pv 0) pe_int set_list))
      (pss_one (ps_ret (pv 2))))) pss_nil)
      (pss_cons (ps_asg (pe_op op_add (pe_ix ix_list (pv 0) pe_int (fun _ _ => rfl)) pe_int) (pg_sub (pv 0) pe_int set_list))
      (pss_cons (ps_set (i := 3) sc_Ltake.nd rfl (.inl rfl) (pe_lst (pa_cons pe_int (pa_cons pe_int (pa_cons pe_int (pa_cons pe_int (pa_cons pe_int (pa_cons pe_int (pa_cons pe_int (pa_cons pe_int pa_nil))))))))))
      (pss_cons (ps_set (i := 4) sc_Ltake.nd rfl (.inl rfl) (pe_op op_mod (pe_op op_add (pe_op op_add (pe_op op_add (pe_ix ix_list (pv 0) pe_int (fun _ _ => rfl)) (pe_op op_mul pe_int (pe_ix ix_list (pv 0) pe_int (fun _ _ => rfl)))) (pe_op op_mul pe_int (pe_ix ix_list (pv 0) pe_int (fun _ _ => rfl)))) pe_int) pe_int))
      (pss_cons (ps_set (i := 4) sc_Ltake.nd rfl (.inl rfl) (pe_op op_mod (pe_op op_pow (pv 4) pe_int) (pe_ix ix_list (pv 3) (pe_op op_mod (pe_ix ix_list (pv 0) pe_int (fun _ _ => rfl)) pe_int) (fun _ _ => rfl))))
      (pss_cons (ps_set (i := 5) sc_Ltake.nd rfl (.inl rfl) (pe_op op_mod (pe_op op_add (pe_op op_add (pv 4) (pe_op op_mul pe_int (pe_ix ix_list (pv 0) pe_int (fun _ _ => rfl)))) (pe_ix ix_list (pv 0) pe_int (fun _ _ => rfl))) pe_int))
      (pss_one (ps_ret (pe_op op_mod (pe_op op_add (pe_op op_mul (pe_op op_mod (pe_op op_pow (pv 5) pe_int) pe_int) pe_int) (pv 4)) (pv 1)))))))))), ?_⟩
    refine ⟨.ref p, rfl, p, _, 0, .int l, rfl, rfl, .inl (.inl hp), rfl, _, _, rfl, rfl, _, rfl, ite2 (fun e => ?_) (fun e => ?_)⟩
    · refine ⟨.ref p, rfl, p, _, 0, .int l, rfl, rfl, .inl (.inl hp), rfl, .int m, rfl, l, m, rfl, rfl, hm, ?_⟩
      refine ⟨.ref p, rfl, p, _, 0, .int l, rfl, rfl, .inl (.inl hp), rfl, .int m, rfl, l, m, rfl, rfl, wide_div (b := 200) hm (by omega) (by decide) (by decide), ?_⟩
      refine ⟨.ref p, rfl, p, _, 0, 0, rfl, rfl, hp, rfl, ?_⟩
      refine ⟨_, rfl, q _ _ (But.refl p H).upd ⟨l / m, c, k, n, Int.ediv_nonneg hl (by omega), ?_⟩ (Int.emod_nonneg l (by omega)) (Int.emod_lt_of_pos l hm)⟩
      exact upd_same
    · refine ⟨.ref p, rfl, p, _, 3, .int n, rfl, rfl, .inl (.inl hp), rfl, n, 1, rfl, rfl, .ref p, rfl, p, _, 3, 3, rfl, rfl, hp, rfl, ?_⟩
      refine ⟨by show 8 ≤ sizeLine; decide, fun o no => ?_⟩
      have hop : o ≠ p := fun z => by
        rw [z, upd_same] at no
        cases no
      have h3 : (upd (upd H p (.lst [.int l, .int c, .int k, .int (n + 1)])) o (.lst (primes.map V.int))) p = some (.lst [.int l, .int c, .int k, .int (n + 1)]) := by
        rw [upd_ne (Ne.symm hop), upd_same]
      have h4 : (upd (upd H p (.lst [.int l, .int c, .int k, .int (n + 1)])) o (.lst (primes.map V.int))) o = some (.lst (primes.map V.int)) := upd_same
      have bt : But p H (upd (upd H p (.lst [.int l, .int c, .int k, .int (n + 1)])) o (.lst (primes.map V.int))) := fun b u hb h => by
        have nb : b ≠ o := fun z => by
          have : (upd H p (.lst [.int l, .int c, .int k, .int (n + 1)])) b = some u := by
            rw [upd_ne hb]
            exact h
          rw [z] at this
          exact absurd (this.symm.trans no) (by intro z; cases z)
        rw [upd_ne nb, upd_ne hb]
        exact h
      have i8 : 0 ≤ (n + 1) % 8 := Int.emod_nonneg _ (by decide)
      have j8 : (n + 1) % 8 < 8 := Int.emod_lt_of_pos _ (by decide)
      obtain ⟨pr, hpr, pr0, pr1⟩ := primes_at i8 j8
      refine ⟨.ref p, rfl, p, _, 1, .int c, rfl, rfl, .inl (.inl h3), rfl, .ref p, rfl, p, _, 2, .int k, rfl, rfl, .inl (.inl h3), rfl, 7919, k, rfl, rfl, .inl ⟨by decide, by decide⟩, _, _, rfl, rfl, .ref p, rfl, p, _, 3, .int (n + 1), rfl, rfl, .inl (.inl h3), rfl, 104729, n + 1, rfl, rfl, .inl ⟨by decide, by decide⟩, _, _, rfl, rfl, _, _, rfl, rfl, _, _, rfl, rfl, (by show (0 : Int) < 2147483647; decide), ?_⟩
      refine ⟨_, rfl, _, _, rfl, rfl, pow_ok _, .ref o, rfl, .ref p, rfl, p, _, 3, .int (n + 1), rfl, rfl, .inl (.inl h3), rfl, _, _, rfl, rfl, (by show (0 : Int) < 8; decide), o, _, _, .int pr, rfl, rfl, .inl (.inl h4), hpr, _, _, rfl, rfl, pr0, ?_⟩
      refine ⟨_, rfl, .ref p, rfl, p, _, 2, .int k, rfl, rfl, .inl (.inl h3), rfl, 40692, k, rfl, rfl, .inl ⟨by decide, by decide⟩, _, _, rfl, rfl, .ref p, rfl, p, _, 3, .int (n + 1), rfl, rfl, .inl (.inl h3), rfl, _, _, rfl, rfl, _, _, rfl, rfl, (by show (0 : Int) < 2147483647; decide), ?_⟩
      refine ⟨_, rfl, _, _, rfl, rfl, pow_ok _, _, _, rfl, rfl, (by show (0 : Int) < 2147483647; decide), _, _, rfl, rfl, .inr ⟨by decide, by decide⟩, _, rfl, _, _, rfl, rfl, .int m, rfl, _, _, rfl, rfl, hm, ?_⟩
      exact q _ _ bt ⟨l, c, k, n + 1, hl, h3⟩ (Int.emod_nonneg _ (by omega)) (Int.emod_lt_of_pos _ hm)
/-! ### data alike -/
theorem sqt_same {K : PySem.W.Frag} {H H' : Hp} {a : Addr} {xs : List V} (e : Same H H') (h : SqT K H a xs) : SqT K H' a xs := Evl.ex_t (show Evl.Ex H H' from e) h
mutual
theorem dp_same {K : PySem.W.Frag} {H H' : Hp} (e : Same H H') : ∀ (d : PyData) (v : V), Dp K H v d → Dp K H' v d
  | .none, _, h => by cases h; exact .non
  | .bool b, _, h => by cases h; exact .bl b
  | .int i, _, h => by cases h; exact .int i
  | .str x, _, h => by cases h; exact .str x
  | .list ds, _, h => by
    cases h with
    | lst hs ha => exact .lst (e.seq hs) (dpa_same e ds _ ha)
  | .tuple ds, _, h => by
    cases h with
    | tup hs ha => exact .tup (sqt_same e hs) (dpa_same e ds _ ha)
  | .dict _, _, h => by cases h
theorem dpa_same {K : PySem.W.Frag} {H H' : Hp} (e : Same H H') : ∀ (ds : List PyData) (vs : List V), DpAll K H vs ds → DpAll K H' vs ds
  | [], _, h => by cases h; exact .nil
  | d :: ds, _, h => by
    cases h with
    | cons h1 h2 => exact .cons (dp_same e d _ h1) (dpa_same e ds _ h2)
end
theorem dpa_len {K : PySem.W.Frag} {H : Hp} : ∀ (ds : List PyData) (vs : List V), DpAll K H vs ds → vs.length = ds.length
  | [], _, h => by cases h; rfl
  | d :: ds, _, h => by
    cases h with
    | cons h1 h2 =>
      rw [List.length_cons, List.length_cons, dpa_len ds _ h2]
theorem dpa_at {K : PySem.W.Frag} {H : Hp} : ∀ (ds : List PyData) (vs : List V), DpAll K H vs ds → ∀ (i : Nat) (v : V), vs[i]? = some v → ∃ d, ds[i]? = some d ∧ Dp K H v d
  | [], _, h, i, v, e => by cases h; cases e
  | d :: ds, _, h, i, v, e => by
    cases h with
    | cons h1 h2 =>
      cases i with
      | zero =>
        cases e
        exact ⟨d, rfl, h1⟩
      | succ j => exact dpa_at ds _ h2 j v e
theorem ty_tup {K : PySem.W.Frag} {H : Hp} {a : Addr} {xs : List V} (h : SqT K H a xs) : TyX K H (.ref a) (.type "tuple") := by
  rcases h with (h | ⟨o, h⟩) | ⟨o, its, n, lk, hc, _⟩
  · exact .base (.tup h)
  · exact .fTuple h
  · exact .kTuple lk hc
/-- none, truths, whole numbers, texts, and tuples of these, at most n deep -/
def okD : Nat → PyData → Bool
  | _, .none => true
  | _, .bool _ => true
  | _, .int _ => true
  | _, .str _ => true
  | n + 1, .tuple ds => decide (ds.length ≤ 1000) && ds.all fun d => okD n d
  | _, _ => false
theorem walk_zipT {K : PySem.W.Frag} {a b : Addr} {xs ys : List V} {n : Nat} (hn : n = min xs.length ys.length) : Walk (RZ.ItzT K a b) n (fun H => SqT K H a xs ∧ SqT K H b ys) (YPair (fun i => xs[i]?) (fun i => ys[i]?)) where
  goes := fun i H lt ⟨p, q⟩ => ⟨xs, ys, _, _, p, q, List.getElem?_eq_getElem (by omega), List.getElem?_eq_getElem (by omega)⟩
  stops := fun H ⟨p, q⟩ => ⟨xs, ys, p, q, by omega⟩
  yields := fun i H v H' _ ⟨p, q⟩ ⟨T, x, y, e1, e2, e3, e4, e5⟩ => ⟨T, x, y, e1, e2, e3, e4 xs p, e5 ys q⟩
theorem all_true : ∀ n : Nat, (List.replicate n true).all id = true
  | 0 => rfl
  | n + 1 => by rw [List.replicate_succ, List.all_cons, all_true n]; rfl
def spWhole : Sp := fun vs H Q _ => ∃ i : Int, vs = [.int i] ∧ Q (.bl true) H
theorem ok_Lwhole (T : Top w K mg) : FnOk P w K mg base CX0 1 T.a_Lwhole T.fd_Lwhole ["_law_thing"] spWhole := by
  refine T.F_Lwhole.ok sc_Lwhole (fun vs H Q E h => ?_) (fun cdv A outer s H vs Q E hr h => ?_)
  · obtain ⟨i, rfl, _⟩ := h
    rfl
  · obtain ⟨i, rfl, q⟩ := h
    refine ⟨_, (pss_one (ps_ret (pe_and (pe_callB call_isi (by rfl) T.m_isinstance (by decide +kernel) (pa_cons (pv 0) (pa_cons (pe_bltn (v := .ty "int") (by rfl) T.m_int (by decide +kernel) rfl) pa_nil))) (pe_one (pe_not (pe_callB call_isi (by rfl) T.m_isinstance (by decide +kernel) (pa_cons (pv 0) (pa_cons (pe_bltn (v := .ty "bool") (by rfl) T.m_bool (by decide +kernel) rfl) pa_nil)))))))), ?_⟩
    refine ⟨.int i, rfl, _, _, _, _, true, rfl, .ty _, .base (.int i), kit_ty (by decide +kernel), _, rfl, iteT ?_⟩
    exact ⟨.int i, rfl, _, _, _, _, false, rfl, .ty _, .base (.int i), kit_ty (by decide +kernel), _, rfl, q⟩
def spSame (K : PySem.W.Frag) (n : Nat) : Sp := fun vs H Q _ => ∃ (x y : V) (d : PyData), vs = [x, y] ∧ Dp K H x d ∧ Dp K H y d ∧ okD n d = true ∧ ∀ H', Same H H' → Q (.bl true) H'
theorem ok_Lsame0 (T : Top w K mg) : FnOk P w K mg base CX0 2 T.a_Lsame T.fd_Lsame ["_law_found", "_law_due_here"] (spSame K 0) := by
  have G_Lwhole := ok_Lwhole (P := P) (w := w) (base := base) T
  refine T.F_Lsame.ok sc_Lsame (fun vs H Q E h => ?_) (fun cdv A outer s H vs Q E hr h => ?_)
  · obtain ⟨x, y, d, rfl, _⟩ := h
    rfl
  · obtain ⟨x, y, d, rfl, hx, hy, ok, q⟩ := h
    refine ⟨_, (pss_cons (ps_if (pt_val (pe_callB call_isi (by rfl) T.m_isinstance (by decide +kernel) (pa_cons (pv 1) (pa_cons (pe_bltn (v := .ty "tuple") (by rfl) T.m_tuple (by decide +kernel) rfl) pa_nil)))) pss_never pss_nil)
      (pss_cons (ps_if (pt_cmpR op_isN (pv 1) pe_non (nomark _)) (pss_one (ps_ret (pe_cmpR op_isN (pv 0) pe_non (nomark _)))) pss_nil)
      (pss_cons (ps_if (pt_val (pe_callB call_isi (by rfl) T.m_isinstance (by decide +kernel) (pa_cons (pv 1) (pa_cons (pe_bltn (v := .ty "bool") (by rfl) T.m_bool (by decide +kernel) rfl) pa_nil)))) (pss_one (ps_ret (pe_and (pe_callB call_isi (by rfl) T.m_isinstance (by decide +kernel) (pa_cons (pv 0) (pa_cons (pe_bltn (v := .ty "bool") (by rfl) T.m_bool (by decide +kernel) rfl) pa_nil))) (pe_one (pe_cmpR op_eq (pv 0) (pv 1) (nomark _)))))) pss_nil)
      (pss_cons (ps_if (pt_val (pe_callB call_isi (by rfl) T.m_isinstance (by decide +kernel) (pa_cons (pv 1) (pa_cons (pe_bltn (v := .ty "str") (by rfl) T.m_str (by decide +kernel) rfl) pa_nil)))) (pss_one (ps_ret (pe_and (pe_callB call_isi (by rfl) T.m_isinstance (by decide +kernel) (pa_cons (pv 0) (pa_cons (pe_bltn (v := .ty "str") (by rfl) T.m_str (by decide +kernel) rfl) pa_nil))) (pe_one (pe_cmpR op_eq (pv 0) (pv 1) (nomark _)))))) pss_nil)
      (pss_one (ps_ret (pe_and (pe_call G_Lwhole (hr.mono (by omega)) (by rfl) T.g_Lwhole T.F_Lwhole.kp T.b_Lwhole .nil pass0 (pa_cons (pv 0) pa_nil)) (pe_one (pe_cmpR op_eq (pv 0) (pv 1) (nomark _)))))))))), ?_⟩
    have Q0 := q H (Same.refl H)
    cases d with
    | none =>
      cases hx
      cases hy
      exact ⟨.non, rfl, _, _, _, _, false, rfl, .ty _, .base .non, kit_ty (by decide +kernel), _, rfl, iteF ⟨.non, rfl, rfl, _, rfl, iteT ⟨.non, rfl, rfl, Q0⟩⟩⟩
    | bool b =>
      cases hx
      cases hy
      refine ⟨.bl b, rfl, _, _, _, _, false, rfl, .ty _, .base (.bl b), kit_ty (by decide +kernel), _, rfl, iteF ⟨.bl b, rfl, rfl, _, rfl, iteF ?_⟩⟩
      refine ⟨.bl b, rfl, _, _, _, _, true, rfl, .ty _, .base (.bl b), kit_ty (by decide +kernel), _, rfl, iteT ?_⟩
      refine ⟨.bl b, rfl, _, _, _, _, true, rfl, .ty _, .base (.bl b), kit_ty (by decide +kernel), _, rfl, iteT ⟨.bl b, rfl, .bl b, rfl, rfl, ?_⟩⟩
      rw [decide_eq_true rfl]
      exact Q0
    | int i =>
      cases hx
      cases hy
      refine ⟨.int i, rfl, _, _, _, _, false, rfl, .ty _, .base (.int i), kit_ty (by decide +kernel), _, rfl, iteF ⟨.int i, rfl, rfl, _, rfl, iteF ?_⟩⟩
      refine ⟨.int i, rfl, _, _, _, _, false, rfl, .ty _, .base (.int i), kit_ty (by decide +kernel), _, rfl, iteF ?_⟩
      refine ⟨.int i, rfl, _, _, _, _, false, rfl, .ty _, .base (.int i), kit_ty (by decide +kernel), _, rfl, iteF ?_⟩
      refine ⟨.int i, rfl, i, rfl, _, rfl, iteT ⟨.int i, rfl, .int i, rfl, rfl, ?_⟩⟩
      rw [decide_eq_true rfl]
      exact Q0
    | str z =>
      cases hx
      cases hy
      refine ⟨.str z, rfl, _, _, _, _, false, rfl, .ty _, .base (.str z), kit_ty (by decide +kernel), _, rfl, iteF ⟨.str z, rfl, rfl, _, rfl, iteF ?_⟩⟩
      refine ⟨.str z, rfl, _, _, _, _, false, rfl, .ty _, .base (.str z), kit_ty (by decide +kernel), _, rfl, iteF ?_⟩
      refine ⟨.str z, rfl, _, _, _, _, true, rfl, .ty _, .base (.str z), kit_ty (by decide +kernel), _, rfl, iteT ?_⟩
      refine ⟨.str z, rfl, _, _, _, _, true, rfl, .ty _, .base (.str z), kit_ty (by decide +kernel), _, rfl, iteT ⟨.str z, rfl, .str z, rfl, rfl, ?_⟩⟩
      rw [decide_eq_true rfl]
      exact Q0
    | list ds => cases ok
    | tuple ds => cases ok
    | dict ds => cases ok
theorem ok_LsameS (T : Top w K mg) {n : Nat} (G_Lsame : FnOk P w K mg base CX0 (n + 2) T.a_Lsame T.fd_Lsame ["_law_found", "_law_due_here"] (spSame K n)) : FnOk P w K mg base CX0 (n + 3) T.a_Lsame T.fd_Lsame ["_law_found", "_law_due_here"] (spSame K (n + 1)) := by
  have G_Lwhole := ok_Lwhole (P := P) (w := w) (base := base) T
  refine T.F_Lsame.ok sc_Lsame (fun vs H Q E h => ?_) (fun cdv A outer s H vs Q E hr h => ?_)
  · obtain ⟨x, y, d, rfl, _⟩ := h
    rfl
  · obtain ⟨x, y, d, rfl, hx, hy, ok, q⟩ := h
    refine ⟨_, (pss_cons (ps_if (pt_val (pe_callB call_isi (by rfl) T.m_isinstance (by decide +kernel) (pa_cons (pv 1) (pa_cons (pe_bltn (v := .ty "tuple") (by rfl) T.m_tuple (by decide +kernel) rfl) pa_nil)))) (pss_cons (ps_if (PW.pt (pw_or (pt_not (pt_val (pe_callB call_isi (by rfl) T.m_isinstance (by decide +kernel) (pa_cons (pv 0) (pa_cons (pe_bltn (v := .ty "tuple") (by rfl) T.m_tuple (by decide +kernel) rfl) pa_nil))))) (pw_or1 (pt_cmpR op_ne (pe_callB call_len_seq (by rfl) T.m_len (by decide +kernel) (pa_cons (pv 0) pa_nil)) (pe_callB call_len_seq (by rfl) T.m_len (by decide +kernel) (pa_cons (pv 1) pa_nil)) (nomark _))))) (pss_one (ps_ret pe_bl)) pss_nil)
      (pss_one (ps_ret (pe_callB (cr_all rfl) (by rfl) T.m_all (by decide +kernel) (pa_cons (pe_lc (own := [("_law_one", 2), ("_law_other", 3)]) (g := gTup K 2 (gCons (gName 2) (gCons (gName 3) gNil))) (by rfl) sc_Lsame.nd (RZ.pi_zipA (by rfl) T.m_zip (pa_cons (pv 0) (pa_cons (pv 1) pa_nil))) (blkOk_by (own := [("_law_one", 2), ("_law_other", 3)]) (N := ["_law_found", "_law_due_here", "_law_one", "_law_other"]) (sc := defScope s_Lsame) (by decide +kernel)) (fun _ _ _ _ _ => (pg_tup rfl (pgs_cons (pg_name (i := 2) sc_Lsame.nd rfl (Or.inl rfl)) (pgs_cons (pg_name (i := 3) sc_Lsame.nd rfl (Or.inl rfl)) pgs_nil)))) (fun _ _ _ _ _ => pts_nil) (fun _ _ _ _ _ => (pe_call G_Lsame hr (by rfl) T.g_Lsame T.F_Lsame.kp T.b_Lsame .nil pass0 (pa_cons (pv 2) (pa_cons (pv 3) pa_nil))))) pa_nil))))) pss_nil)
      (pss_cons (ps_if (pt_cmpR op_isN (pv 1) pe_non (nomark _)) (pss_one (ps_ret (pe_cmpR op_isN (pv 0) pe_non (nomark _)))) pss_nil)
      (pss_cons (ps_if (pt_val (pe_callB call_isi (by rfl) T.m_isinstance (by decide +kernel) (pa_cons (pv 1) (pa_cons (pe_bltn (v := .ty "bool") (by rfl) T.m_bool (by decide +kernel) rfl) pa_nil)))) (pss_one (ps_ret (pe_and (pe_callB call_isi (by rfl) T.m_isinstance (by decide +kernel) (pa_cons (pv 0) (pa_cons (pe_bltn (v := .ty "bool") (by rfl) T.m_bool (by decide +kernel) rfl) pa_nil))) (pe_one (pe_cmpR op_eq (pv 0) (pv 1) (nomark _)))))) pss_nil)
      (pss_cons (ps_if (pt_val (pe_callB call_isi (by rfl) T.m_isinstance (by decide +kernel) (pa_cons (pv 1) (pa_cons (pe_bltn (v := .ty "str") (by rfl) T.m_str (by decide +kernel) rfl) pa_nil)))) (pss_one (ps_ret (pe_and (pe_callB call_isi (by rfl) T.m_isinstance (by decide +kernel) (pa_cons (pv 0) (pa_cons (pe_bltn (v := .ty "str") (by rfl) T.m_str (by decide +kernel) rfl) pa_nil))) (pe_one (pe_cmpR op_eq (pv 0) (pv 1) (nomark _)))))) pss_nil)
      (pss_one (ps_ret (pe_and (pe_call G_Lwhole (hr.mono (by omega)) (by rfl) T.g_Lwhole T.F_Lwhole.kp T.b_Lwhole .nil pass0 (pa_cons (pv 0) pa_nil)) (pe_one (pe_cmpR op_eq (pv 0) (pv 1) (nomark _)))))))))), ?_⟩
    have Q0 := q H (Same.refl H)
    cases d with
    | none =>
      cases hx
      cases hy
      exact ⟨.non, rfl, _, _, _, _, false, rfl, .ty _, .base .non, kit_ty (by decide +kernel), _, rfl, iteF ⟨.non, rfl, rfl, _, rfl, iteT ⟨.non, rfl, rfl, Q0⟩⟩⟩
    | bool b =>
      cases hx
      cases hy
      refine ⟨.bl b, rfl, _, _, _, _, false, rfl, .ty _, .base (.bl b), kit_ty (by decide +kernel), _, rfl, iteF ⟨.bl b, rfl, rfl, _, rfl, iteF ?_⟩⟩
      refine ⟨.bl b, rfl, _, _, _, _, true, rfl, .ty _, .base (.bl b), kit_ty (by decide +kernel), _, rfl, iteT ?_⟩
      refine ⟨.bl b, rfl, _, _, _, _, true, rfl, .ty _, .base (.bl b), kit_ty (by decide +kernel), _, rfl, iteT ⟨.bl b, rfl, .bl b, rfl, rfl, ?_⟩⟩
      rw [decide_eq_true rfl]
      exact Q0
    | int i =>
      cases hx
      cases hy
      refine ⟨.int i, rfl, _, _, _, _, false, rfl, .ty _, .base (.int i), kit_ty (by decide +kernel), _, rfl, iteF ⟨.int i, rfl, rfl, _, rfl, iteF ?_⟩⟩
      refine ⟨.int i, rfl, _, _, _, _, false, rfl, .ty _, .base (.int i), kit_ty (by decide +kernel), _, rfl, iteF ?_⟩
      refine ⟨.int i, rfl, _, _, _, _, false, rfl, .ty _, .base (.int i), kit_ty (by decide +kernel), _, rfl, iteF ?_⟩
      refine ⟨.int i, rfl, i, rfl, _, rfl, iteT ⟨.int i, rfl, .int i, rfl, rfl, ?_⟩⟩
      rw [decide_eq_true rfl]
      exact Q0
    | str z =>
      cases hx
      cases hy
      refine ⟨.str z, rfl, _, _, _, _, false, rfl, .ty _, .base (.str z), kit_ty (by decide +kernel), _, rfl, iteF ⟨.str z, rfl, rfl, _, rfl, iteF ?_⟩⟩
      refine ⟨.str z, rfl, _, _, _, _, false, rfl, .ty _, .base (.str z), kit_ty (by decide +kernel), _, rfl, iteF ?_⟩
      refine ⟨.str z, rfl, _, _, _, _, true, rfl, .ty _, .base (.str z), kit_ty (by decide +kernel), _, rfl, iteT ?_⟩
      refine ⟨.str z, rfl, _, _, _, _, true, rfl, .ty _, .base (.str z), kit_ty (by decide +kernel), _, rfl, iteT ⟨.str z, rfl, .str z, rfl, rfl, ?_⟩⟩
      rw [decide_eq_true rfl]
      exact Q0
    | list ds => cases ok
    | dict ds => cases ok
    | tuple ds =>
      cases hx with
      | @tup a xs _ sx ax =>
        cases hy with
        | @tup b ys _ sy ay =>
          have lx := dpa_len ds xs ax
          have ly := dpa_len ds ys ay
          obtain ⟨okL, okA⟩ := Bool.and_eq_true_iff.mp (show (decide (ds.length ≤ 1000) && ds.all fun d => okD n d) = true from ok)
          have okl : ds.length ≤ 1000 := of_decide_eq_true okL
          refine ⟨.ref b, rfl, _, _, _, _, true, rfl, .ty _, ty_tup sy, kit_ty (by decide +kernel), _, rfl, iteT ?_⟩
          refine ⟨.ref a, rfl, _, _, _, _, true, rfl, .ty _, ty_tup sx, kit_ty (by decide +kernel), _, rfl, iteF ?_⟩
          refine ⟨.ref a, rfl, a, xs, rfl, .inr sx, .ref b, rfl, b, ys, rfl, .inr sy, rfl, _, rfl, iteN (by rw [lx, ly]) ?_⟩
          refine ⟨.ref a, rfl, .ref b, rfl, a, b, xs, ys, rfl, .inr ⟨sx, sy, fun D hD => lc_it (walk_zipT (xs := xs) (ys := ys) (n := ds.length) (by omega)) (fun i H' => Same H H' ∧ H' D = some (.lst ((List.replicate i true).map V.bl))) ⟨same_upd hD, upd_same⟩ (fun i H' _ h => ⟨sqt_same h.1 sx, sqt_same h.1 sy⟩) ?_ ?_⟩⟩
          · rintro i v H1 H2 hi ⟨sm, eD⟩ ⟨t, u1, u2, rfl, nt, rfl, e1, e2⟩
            have st : Same H1 (upd H1 t (.tup [u1, u2])) := same_upd nt
            obtain ⟨d1, f1, g1⟩ := dpa_at ds xs ax i u1 e1
            obtain ⟨d2, f2, g2⟩ := dpa_at ds ys ay i u2 e2
            have ed : d2 = d1 := Option.some.inj (f2.symm.trans f1)
            subst ed
            have okd : okD n d2 = true := List.all_eq_true.mp okA d2 (List.mem_of_getElem? f1)
            refine ⟨t, [u1, u2], rfl, .inl (.inl upd_same), rfl, u1, [u2], rfl, u2, [], rfl, rfl, rfl, ?_⟩
            refine ⟨u1, rfl, u2, rfl, u1, u2, d2, rfl, dp_same (sm.trans st) d2 u1 g1, dp_same (sm.trans st) d2 u2 g2, okd, fun H3 s3 => ?_⟩
            refine ⟨_, s3 _ _ (st _ _ eD), ?_, ?_, ?_⟩
            · rw [List.length_map, List.length_replicate]
              exact small1000 (by omega)
            · exact fun b' o e => by
                rw [upd_ne (ne_of_none e hD)]
                exact s3 _ _ (st _ _ (sm _ _ e))
            · rw [upd_same, List.replicate_succ', List.map_append]
              rfl
          · rintro H1 ⟨sm, eD⟩
            refine ⟨_, List.replicate ds.length true, rfl, .inl (.inl eD), ?_⟩
            rw [all_true]
            exact q _ sm
theorem ok_Lsame (T : Top w K mg) : ∀ n : Nat, FnOk P w K mg base CX0 (n + 2) T.a_Lsame T.fd_Lsame ["_law_found", "_law_due_here"] (spSame K n)
  | 0 => ok_Lsame0 T
  | n + 1 => ok_LsameS T (ok_Lsame T n)
/-! ### data, whatever else stands in the heap -/
def isSeq : HO → Bool
  | .lst _ => true
  | .tup _ => true
  | .frz _ _ => true
  | _ => false
/-- all lists and tuples as they were -/
def Seqs (H H' : Hp) : Prop := ∀ b o, isSeq o = true → H b = some o → H' b = some o
theorem Seqs.of {H H' : Hp} (e : Same H H') : Seqs H H' := fun b o _ h => e b o h
theorem Seqs.trans {H H1 H2 : Hp} (a : Seqs H H1) (b : Seqs H1 H2) : Seqs H H2 := fun c o z h => b c o z (a c o z h)
theorem Seqs.upd {H : Hp} {a : Addr} {o u : HO} (e : H a = some u) (n : isSeq u = false) : Seqs H (L2.upd H a o) := fun b v z h => by
  rw [upd_ne (fun y => by rw [y, e] at h; cases h; rw [n] at z; cases z)]
  exact h
theorem Seqs.new {H : Hp} {a : Addr} {o : HO} (e : H a = none) : Seqs H (L2.upd H a o) := Seqs.of (same_upd e)
theorem seqs_l {K : PySem.W.Frag} {H H' : Hp} {a : Addr} {xs : List V} (e : Seqs H H') (h : SqL K H a xs) : SqL K H' a xs := by
  rcases h with (h | ⟨o, h⟩) | h
  · exact .inl (.inl (e _ _ rfl h))
  · exact .inl (.inr ⟨o, e _ _ rfl h⟩)
  · exact .inr h
theorem seqs_t {K : PySem.W.Frag} {H H' : Hp} {a : Addr} {xs : List V} (e : Seqs H H') (h : SqT K H a xs) : SqT K H' a xs := by
  rcases h with (h | ⟨o, h⟩) | h
  · exact .inl (.inl (e _ _ rfl h))
  · exact .inl (.inr ⟨o, e _ _ rfl h⟩)
  · exact .inr h
mutual
theorem dp_seqs {K : PySem.W.Frag} {H H' : Hp} (e : Seqs H H') : ∀ (d : PyData) (v : V), Dp K H v d → Dp K H' v d
  | .none, _, h => by cases h; exact .non
  | .bool b, _, h => by cases h; exact .bl b
  | .int i, _, h => by cases h; exact .int i
  | .str x, _, h => by cases h; exact .str x
  | .list ds, _, h => by
    cases h with
    | lst hs ha => exact .lst (seqs_l e hs) (dpa_seqs e ds _ ha)
  | .tuple ds, _, h => by
    cases h with
    | tup hs ha => exact .tup (seqs_t e hs) (dpa_seqs e ds _ ha)
  | .dict _, _, h => by cases h
theorem dpa_seqs {K : PySem.W.Frag} {H H' : Hp} (e : Seqs H H') : ∀ (ds : List PyData) (vs : List V), DpAll K H vs ds → DpAll K H' vs ds
  | [], _, h => by cases h; exact .nil
  | d :: ds, _, h => by
    cases h with
    | cons h1 h2 => exact .cons (dp_seqs e d _ h1) (dpa_seqs e ds _ h2)
end
theorem dpa_snoc {K : PySem.W.Frag} {H : Hp} {v : V} {d : PyData} (h : Dp K H v d) : ∀ (ds : List PyData) (vs : List V), DpAll K H vs ds → DpAll K H (vs ++ [v]) (ds ++ [d])
  | [], _, a => by cases a; exact .cons h .nil
  | x :: ds, _, a => by
    cases a with
    | cons h1 h2 => exact .cons h1 (dpa_snoc h ds _ h2)
/-- the heap without the places of X -/
noncomputable def wo (H : Hp) (X : Addr → Prop) : Hp := fun b => by
  classical
  exact if X b then none else H b
theorem wo_in {H : Hp} {X : Addr → Prop} {b : Addr} (h : ¬ X b) : wo H X b = H b := by
  unfold wo
  exact if_neg h
theorem wo_some {H : Hp} {X : Addr → Prop} {b : Addr} {o : HO} (h : wo H X b = some o) : ¬ X b ∧ H b = some o := by
  unfold wo at h
  by_cases hx : X b
  · rw [if_pos hx] at h
    cases h
  · rw [if_neg hx] at h
    exact ⟨hx, h⟩
theorem wo_same {H : Hp} {X : Addr → Prop} : Same (wo H X) H := fun b o h => (wo_some h).2
theorem wo_none {H : Hp} : wo H (fun _ => False) = H := by
  funext b
  exact wo_in (fun h => h)
--@@SPLIT
/-! ### kinds of things -/
theorem ty_lst {K : PySem.W.Frag} {H : Hp} {a : Addr} {xs : List V} (h : SqL K H a xs) : TyX K H (.ref a) (.type "list") := by
  rcases h with (h | ⟨o, h⟩) | ⟨o, its, n, lk, hc, _⟩
  · exact .base (.lst h)
  · exact .base (.frz h)
  · exact .kList lk hc
theorem kit_any2 {K : PySem.W.Frag} {t a b : String} {x y : Bool} (h1 : kitB t a = some x) (h2 : kitB t b = some y) : PySem.W.kitAny K (.type t) [.type a, .type b] = some (x || y) := by
  unfold PySem.W.kitAny
  rw [kit_ty h1]
  cases x with
  | true => rfl
  | false =>
    unfold PySem.W.kitAny
    rw [kit_ty h2]
    cases y <;> rfl
/-- the type's name -/
def tyD : PyData → String
  | .none => "NoneType"
  | .bool _ => "bool"
  | .int _ => "int"
  | .str _ => "str"
  | .list _ => "list"
  | .tuple _ => "tuple"
  | .dict _ => "dict"
theorem ty_dp {K : PySem.W.Frag} {H : Hp} {v : V} {d : PyData} (h : Dp K H v d) : TyX K H v (.type (tyD d)) := by
  cases h with
  | non => exact .base .non
  | bl b => exact .base (.bl b)
  | int i => exact .base (.int i)
  | str z => exact .base (.str z)
  | lst h _ => exact ty_lst h
  | tup h _ => exact ty_tup h
def seqD : PyData → Option (List PyData)
  | .list ds => some ds
  | .tuple ds => some ds
  | _ => none
def strD : PyData → Bool
  | .str _ => true
  | _ => false
theorem kit_seq (d : PyData) : ∃ x y, kitB (tyD d) "tuple" = some x ∧ kitB (tyD d) "list" = some y ∧ (x || y) = (seqD d).isSome := by
  cases d with
  | list ds => exact ⟨false, true, by show kitB "list" "tuple" = some false; decide +kernel, by show kitB "list" "list" = some true; decide +kernel, rfl⟩
  | tuple ds => exact ⟨true, false, by show kitB "tuple" "tuple" = some true; decide +kernel, by show kitB "tuple" "list" = some false; decide +kernel, rfl⟩
  | none => exact ⟨false, false, by show kitB "NoneType" "tuple" = some false; decide +kernel, by show kitB "NoneType" "list" = some false; decide +kernel, rfl⟩
  | bool b => exact ⟨false, false, by show kitB "bool" "tuple" = some false; decide +kernel, by show kitB "bool" "list" = some false; decide +kernel, rfl⟩
  | int i => exact ⟨false, false, by show kitB "int" "tuple" = some false; decide +kernel, by show kitB "int" "list" = some false; decide +kernel, rfl⟩
  | str z => exact ⟨false, false, by show kitB "str" "tuple" = some false; decide +kernel, by show kitB "str" "list" = some false; decide +kernel, rfl⟩
  | dict z => exact ⟨false, false, by show kitB "dict" "tuple" = some false; decide +kernel, by show kitB "dict" "list" = some false; decide +kernel, rfl⟩
theorem kit_str (d : PyData) : kitB (tyD d) "str" = some (strD d) := by
  cases d with
  | list ds => show kitB "list" "str" = some false; decide +kernel
  | tuple ds => show kitB "tuple" "str" = some false; decide +kernel
  | none => show kitB "NoneType" "str" = some false; decide +kernel
  | bool b => show kitB "bool" "str" = some false; decide +kernel
  | int i => show kitB "int" "str" = some false; decide +kernel
  | str z => show kitB "str" "str" = some true; decide +kernel
  | dict z => show kitB "dict" "str" = some false; decide +kernel
def SqA (K : PySem.W.Frag) (H : Hp) (a : Addr) (xs : List V) : Prop := SqL K H a xs ∨ SqT K H a xs
theorem SqA.same {K : PySem.W.Frag} {H H' : Hp} {a : Addr} {xs : List V} (e : Same H H') (h : SqA K H a xs) : SqA K H' a xs := h.elim (fun h => .inl (e.seq h)) (fun h => .inr (sqt_same e h))
theorem seq_dp {K : PySem.W.Frag} {H : Hp} {v : V} {d : PyData} {ds : List PyData} (h : Dp K H v d) (e : seqD d = some ds) : ∃ a xs, v = .ref a ∧ SqA K H a xs ∧ DpAll K H xs ds := by
  cases h with
  | lst h a => cases e; exact ⟨_, _, rfl, .inl h, a⟩
  | tup h a => cases e; exact ⟨_, _, rfl, .inr h, a⟩
  | _ => cases e
theorem ixA {K : PySem.W.Frag} {H : Hp} {a : Addr} {xs : List V} {j : Nat} {v : V} {Q : VK} (h : SqA K H a xs) (hj : xs[j]? = some v) (q : Q v H) : rIx K (.ref a) (.int (j : Int)) H Q :=
  h.elim (fun h => .inl ⟨a, xs, j, v, rfl, rfl, h, atI_nat hj, q⟩) (fun h => .inr (.inl ⟨a, xs, j, v, rfl, rfl, h, atI_nat hj, q⟩))
theorem kpA {K : PySem.W.Frag} {H : Hp} {a : Addr} {xs : List V} (h : SqA K H a xs) : (∀ H', Same H H' → SqL K H' a xs) ∨ (∀ H', Same H H' → SqT K H' a xs) := h.elim (fun h => .inl fun _ s => s.seq h) (fun h => .inr fun _ s => sqt_same s h)
/-! ### what is kept: things laid out, then made anew from the end on -/
mutual
def siz : PyData → Nat
  | .list ds => 1 + sizs ds
  | .tuple ds => 1 + sizs ds
  | _ => 1
def sizs : List PyData → Nat
  | [] => 0
  | d :: ds => siz d + sizs ds
end
theorem siz_pos : ∀ d : PyData, 1 ≤ siz d
  | .list ds => by unfold siz; omega
  | .tuple ds => by unfold siz; omega
  | .none => by unfold siz; omega
  | .bool _ => by unfold siz; omega
  | .int _ => by unfold siz; omega
  | .str _ => by unfold siz; omega
  | .dict _ => by unfold siz; omega
theorem sizs_len : ∀ ds : List PyData, ds.length ≤ sizs ds
  | [] => by unfold sizs; exact Nat.le_refl _
  | d :: ds => by
    have := siz_pos d
    have := sizs_len ds
    unfold sizs
    rw [List.length_cons]
    omega
theorem sizs_app : ∀ (a b : List PyData), sizs (a ++ b) = sizs a + sizs b
  | [], b => by
    show sizs b = sizs [] + sizs b
    have : sizs [] = 0 := by unfold sizs; rfl
    omega
  | d :: a, b => by
    have := sizs_app a b
    show sizs (d :: (a ++ b)) = sizs (d :: a) + sizs b
    have e1 : sizs (d :: (a ++ b)) = siz d + sizs (a ++ b) := by rw [sizs]
    have e2 : sizs (d :: a) = siz d + sizs a := by rw [sizs]
    omega
theorem siz_seq {d : PyData} {cs : List PyData} (h : seqD d = some cs) : siz d = 1 + sizs cs := by
  cases d with
  | list ds => cases h; rw [siz]
  | tuple ds => cases h; rw [siz]
  | _ => cases h
theorem siz_flat {d : PyData} (h : seqD d = none) : siz d = 1 := by
  cases d with
  | list ds => cases h
  | tuple ds => cases h
  | _ => simp [siz]
theorem siz_int (i : Int) : siz (.int i) ≤ 1000 := by simp [siz]
theorem siz_str (z : Str) : siz (.str z) ≤ 1000 := by simp [siz]
theorem dpa_app {K : PySem.W.Frag} {H : Hp} : ∀ (ds es : List PyData) (xs ys : List V), DpAll K H xs ds → DpAll K H ys es → DpAll K H (xs ++ ys) (ds ++ es)
  | [], _, _, _, h, g => by cases h; exact g
  | d :: ds, es, _, ys, h, g => by
    cases h with
    | cons h1 h2 => exact .cons h1 (dpa_app ds es _ ys h2 g)
theorem dpa_dropK {K : PySem.W.Frag} {H : Hp} : ∀ (n : Nat) (ds : List PyData) (xs : List V), DpAll K H xs ds → DpAll K H (xs.drop n) (ds.drop n)
  | 0, _, _, h => h
  | n + 1, [], _, h => by cases h; exact .nil
  | n + 1, d :: ds, _, h => by
    cases h with
    | cons h1 h2 => exact dpa_dropK n ds _ h2
theorem dpa_takeK {K : PySem.W.Frag} {H : Hp} : ∀ (n : Nat) (ds : List PyData) (xs : List V), DpAll K H xs ds → DpAll K H (xs.take n) (ds.take n)
  | 0, _, _, _ => .nil
  | n + 1, [], _, h => by cases h; exact .nil
  | n + 1, d :: ds, _, h => by
    cases h with
    | cons h1 h2 => exact .cons h1 (dpa_takeK n ds _ h2)
theorem dpa_setK {K : PySem.W.Frag} {H : Hp} {v : V} {d : PyData} (hv : Dp K H v d) : ∀ (n : Nat) (ds : List PyData) (xs : List V), DpAll K H xs ds → ds[n]? = some d → DpAll K H (xs.set n v) ds
  | _, [], _, h, e => by cases e
  | 0, d' :: ds, _, h, e => by
    cases e
    cases h with
    | cons h1 h2 => exact .cons hv h2
  | n + 1, d' :: ds, _, h, e => by
    cases h with
    | cons h1 h2 => exact .cons h1 (dpa_setK hv n ds _ h2 e)
/-- where the parts of each of the first ones begin -/
def LaidTo (i : Nat) (ds : List PyData) (bs : List Int) : Prop := ∀ (j : Nat) (d : PyData) (cs : List PyData), j < i → ds[j]? = some d → seqD d = some cs → ∃ b : Nat, bs[j]? = some (b : Int) ∧ (ds.drop b).take cs.length = cs
theorem laid_more {i : Nat} {ds : List PyData} {bs : List Int} (hi : i ≤ ds.length) (h : LaidTo i ds bs) (es : List PyData) : LaidTo i (ds ++ es) bs := fun j d cs hj hd hs => by
  have l : j < ds.length := by omega
  · rw [List.getElem?_append_left l] at hd
    obtain ⟨b, h1, h2⟩ := h j d cs hj hd hs
    refine ⟨b, h1, ?_⟩
    have hl : cs.length ≤ (ds.drop b).length := by
      have := congrArg List.length h2
      rw [List.length_take] at this
      omega
    by_cases hb : b ≤ ds.length
    · rw [List.drop_append_of_le_length hb, List.take_append_of_le_length hl]
      exact h2
    · have h0 : (ds.drop b).length = 0 := by rw [List.length_drop]; omega
      have : cs = [] := List.eq_nil_of_length_eq_zero (by omega)
      rw [this]
      rfl
def spRowD (K : PySem.W.Frag) : Sp := fun vs H Q _ => ∃ (v : V) (d : PyData), vs = [v] ∧ Dp K H v d ∧ ∀ H', Same H H' → Q (.bl (seqD d).isSome) H'
theorem ok_is_row (T : Top w K mg) : FnOk P w K mg base CX0 1 T.a_is_row T.fd_is_row ["thing"] (spRowD K) := by
  refine T.F_is_row.ok sc_is_row (fun vs H Q E h => ?_) (fun cdv A outer s H vs Q E hr h => ?_)
  · obtain ⟨v, d, rfl, _⟩ := h
    rfl
  · obtain ⟨v, d, rfl, hd, q⟩ := h
    refine ⟨_, (pss_one (ps_ret (pe_callB call_isiT (by rfl) T.m_isinstance (by decide +kernel) (pa_cons (pv 0) (pa_cons (pe_tup (pa_cons (pe_bltn (v := .ty "tuple") (by rfl) T.m_tuple (by decide +kernel) rfl) (pa_cons (pe_bltn (v := .ty "list") (by rfl) T.m_list (by decide +kernel) rfl) pa_nil))) pa_nil))))), ?_⟩
    obtain ⟨x, y, k1, k2, exy⟩ := kit_seq d
    refine ⟨v, rfl, by show 2 ≤ sizeLine; decide, fun tp np => ⟨v, tp, _, _, _, _, rfl, upd_same, .cons (.ty _) (.cons (.ty _) .nil), ty_dp (dp_same (same_upd np) d v hd), kit_any2 k1 k2, ?_⟩⟩
    rw [exy]
    exact q _ (same_upd np)
theorem cut_nat (xs : List V) (b n : Nat) (h : b + n ≤ xs.length) : cutV xs (some (b : Int)) (some ((b : Int) + (n : Int))) = (xs.drop b).take n := by
  unfold cutV
  have e1 : HT.sIx xs.length 0 (some (b : Int)) = b := by
    unfold HT.sIx
    simp only []
    split <;> omega
  have e2 : HT.sIx xs.length xs.length (some ((b : Int) + (n : Int))) = b + n := by
    unfold HT.sIx
    simp only []
    split <;> omega
  rw [e1, e2, Nat.add_sub_cancel_left]
theorem cut_bl (as : List Bool) (lo hi : Option Int) : ∃ cs : List Bool, cutV (as.map V.bl) lo hi = cs.map V.bl := by
  unfold cutV
  exact ⟨_, by rw [← List.map_drop, ← List.map_take]⟩
def spKept (K : PySem.W.Frag) : Sp := fun vs H Q _ => ∃ (v : V) (d : PyData), vs = [v] ∧ siz d ≤ 1000 ∧ Dp K H v d ∧ ∀ H' v', Same H H' → Dp K H' v' d → Q v' H'
def spLaid (K : PySem.W.Frag) : Sp := fun vs H Q _ => ∃ (v : V) (d : PyData), vs = [v] ∧ siz d ≤ 1000 ∧ Dp K H v d ∧
  ∀ H' r t b xs ds bs, Same H H' → H t = none → H b = none → t ≠ b → H' t = some (.lst xs) → H' b = some (.lst (bs.map V.int)) → H' r = some (.tup [.ref t, .ref b]) → DpAll K H xs ds → LaidTo ds.length ds bs → bs.length = ds.length → ds[0]? = some d → ds.length ≤ 1000 → Q (.ref r) H'
theorem ok_laid_out (T : Top w K mg) : FnOk P w K mg base CX0 2 T.a_laid_out T.fd_laid_out ["thing"] (spLaid K) := by
  have G_is_row := ok_is_row (P := P) (w := w) (base := base) T
  refine T.F_laid_out.ok sc_laid_out (fun vs H Q E h => ?_) (fun cdv A outer s H vs Q E hr h => ?_)
  · obtain ⟨v, d, rfl, _⟩ := h
    rfl
  · obtain ⟨v, d, rfl, hz, hd, q⟩ := h
    refine ⟨_, (pss_cons (ps_set (i := 1) sc_laid_out.nd rfl (.inl rfl) (pe_lst (pa_cons (pv 0) pa_nil)))
      (pss_cons (ps_set (i := 2) sc_laid_out.nd rfl (.inl rfl) (pe_lst pa_nil))
      (pss_cons (ps_while PassesOwn.never (pt_cmpR op_lt (pe_callB call_len_seq (by rfl) T.m_len (by decide +kernel) (pa_cons (pv 2) pa_nil)) (pe_callB call_len_seq (by rfl) T.m_len (by decide +kernel) (pa_cons (pv 1) pa_nil)) (nomark _)) (pss_cons (ps_set (i := 3) sc_laid_out.nd rfl (.inl rfl) (pe_ix ix_list (pv 1) (pe_callB call_len_seq (by rfl) T.m_len (by decide +kernel) (pa_cons (pv 2) pa_nil)) (fun _ _ => rfl)))
      (pss_cons (ps_expr (pe_bm PySem.F.plainAttrs_list PySem.F.slot_list_append PySem.F.type_list_append mt_append (pv 2) (pa_cons (pe_callB call_len_seq (by rfl) T.m_len (by decide +kernel) (pa_cons (pv 1) pa_nil)) pa_nil)))
      (pss_one (ps_if (pt_val (pe_call G_is_row hr (by rfl) T.g_is_row T.F_is_row.kp T.b_is_row .nil pass0 (pa_cons (pv 3) pa_nil))) (pss_one (ps_expr (pe_bm PySem.F.plainAttrs_list PySem.F.slot_list_extend PySem.F.type_list_extend mt_extend (pv 1) (pa_cons (pe_callTy call_list_of (by rfl) T.m_list (by decide +kernel) (pa_cons (pv 3) pa_nil)) pa_nil)))) pss_nil)))))
      (pss_one (ps_ret (pe_tup (pa_cons (pv 1) (pa_cons (pv 2) pa_nil)))))))), ?_⟩
    refine ⟨v, rfl, by show 1 ≤ sizeLine; decide, fun t nt => ?_⟩
    refine ⟨Nat.zero_le _, fun b nb => ?_⟩
    have s1 := same_upd (o := .lst [v]) nt
    have s2 := same_upd (o := .lst []) nb
    have tb : t ≠ b := fun z => by
      rw [← z, upd_same] at nb
      cases nb
    have nb0 : H b = none := s1.free nb
    refine ⟨fun m σ H1 => ∃ xs ds bs y, σ = [some v, some (.ref t), some (.ref b), y] ∧ Same H H1 ∧ H1 t = some (.lst xs) ∧ H1 b = some (.lst (bs.map V.int)) ∧ DpAll K H xs ds ∧ bs.length ≤ ds.length ∧ LaidTo bs.length ds bs ∧ ds[0]? = some d ∧ m = sizs (ds.drop bs.length) ∧ bs.length + m = siz d, ⟨siz d, [v], [d], [], none, rfl, s1.trans s2, s2 _ _ upd_same, upd_same, .cons hd .nil, Nat.zero_le _, (fun j d cs hj => absurd hj (Nat.not_lt_zero j)), rfl, ?_, Nat.zero_add _⟩, ?_⟩
    · show siz d = sizs [d]
      rw [sizs, sizs]
      rfl
    · rintro m σ H1 ⟨xs, ds, bs, y, rfl, sm, et, eb, ha, hl, hlaid, h0, hm, hsum⟩
      have lx := dpa_len ds xs ha
      refine ⟨.ref b, rfl, b, _, rfl, .inl (.inl (.inl eb)), .ref t, rfl, t, _, rfl, .inl (.inl (.inl et)), _, _, rfl, rfl, _, rfl, ite2 (fun e => ?_) (fun e => ?_)⟩
      · have hi : bs.length < ds.length := by
          have := of_decide_eq_true e
          rw [List.length_map] at this
          omega
        obtain ⟨di, fi⟩ : ∃ di, ds[bs.length]? = some di := ⟨_, List.getElem?_eq_getElem hi⟩
        obtain ⟨x, gx⟩ : ∃ x, xs[bs.length]? = some x := ⟨_, List.getElem?_eq_getElem (by omega)⟩
        have hx : Dp K H x di := by
          obtain ⟨d', e1, e2⟩ := dpa_at ds xs ha _ x gx
          rw [fi] at e1
          cases e1
          exact e2
        have dr : ds.drop bs.length = di :: ds.drop (bs.length + 1) := by
          obtain ⟨h1, h2⟩ := List.getElem?_eq_some_iff.mp fi
          rw [List.drop_eq_getElem_cons h1, h2]
        have m1 : m = siz di + sizs (ds.drop (bs.length + 1)) := by rw [hm, dr, sizs]
        have lds : ds.length ≤ siz d := by
          have := sizs_len (ds.drop bs.length)
          rw [List.length_drop] at this
          omega
        refine ⟨fun σ' H' => ∃ m', m' < m ∧ _, fun _ _ h => h, ?_⟩
        refine ⟨.ref t, rfl, .ref b, rfl, b, _, rfl, .inl (.inl (.inl eb)), t, xs, _, x, rfl, rfl, .inl (.inl et), atI_nat (by rw [List.length_map]; exact gx), ?_⟩
        refine ⟨.ref b, rfl, .inl ⟨rfl, _, .inl (.inl eb)⟩, .ref t, rfl, t, _, rfl, .inl (.inl (.inl et)), b, _, _, rfl, rfl, eb, small1000 (by rw [List.length_map]; omega), ?_⟩
        have sb := same_upd (o := .lst (bs.map V.int ++ [.int (xs.length : Nat)])) nb0
        have s3 : Same H (upd H1 b (.lst (bs.map V.int ++ [.int (xs.length : Nat)]))) := fun c o h => by
          rw [upd_ne (ne_of_none h nb0)]
          exact sm _ _ h
        have eb2 : (bs ++ [((xs.length : Nat) : Int)]).map V.int = bs.map V.int ++ [.int (xs.length : Nat)] := by rw [List.map_append]; rfl
        have lb2 : (bs ++ [((xs.length : Nat) : Int)]).length = bs.length + 1 := by rw [List.length_append]; rfl
        have old : ∀ es, LaidTo bs.length (ds ++ es) (bs ++ [((xs.length : Nat) : Int)]) := fun es j d' cs hj h1 h2 => by
          obtain ⟨b0, g1, g2⟩ := laid_more hl hlaid es j d' cs hj h1 h2
          exact ⟨b0, by rw [List.getElem?_append_left hj]; exact g1, g2⟩
        refine ⟨x, rfl, x, di, rfl, dp_same s3 di x hx, fun H4 s4 => ⟨_, rfl, ?_⟩⟩
        cases e : seqD di with
        | none =>
          refine iteF ⟨sizs (ds.drop (bs.length + 1)), by have := siz_pos di; omega, xs, ds, bs ++ [((xs.length : Nat) : Int)], _, rfl, s3.trans s4, s4 _ _ (by rw [upd_ne tb]; exact et), s4 _ _ (by rw [eb2]; exact upd_same), ha, by omega, fun j d' cs hj h1 h2 => ?_, h0, by rw [lb2], ?_⟩
          · rw [lb2] at hj
            by_cases ej : j = bs.length
            · rw [ej, fi] at h1
              cases h1
              rw [e] at h2
              cases h2
            · have := old [] j d' cs (by omega) (by rw [List.append_nil]; exact h1) h2
              rw [List.append_nil] at this
              exact this
          · have := siz_flat e
            omega
        | some cs =>
          obtain ⟨p, ys, rfl, hs, hc⟩ := seq_dp hx e
          have lc := dpa_len cs ys hc
          have zc := siz_seq e
          have lcs := sizs_len cs
          have ldr := sizs_len (ds.drop (bs.length + 1))
          rw [List.length_drop] at ldr
          refine iteT ⟨.ref t, rfl, .inl ⟨rfl, _, .inl (.inl (s4 _ _ (by rw [upd_ne tb]; exact et)))⟩, .ref p, rfl, p, ys, rfl, hs.elim (fun h => .inl ((s3.trans s4).seq h)) (fun h => .inr (sqt_same (s3.trans s4) h)), fun l nl => ?_⟩
          have et4 := s4 _ _ (show upd H1 b (.lst (bs.map V.int ++ [.int (xs.length : Nat)])) t = some (.lst xs) by rw [upd_ne tb]; exact et)
          have eb4 := s4 b _ upd_same
          have lt : t ≠ l := ne_of_none et4 nl
          have lb : b ≠ l := ne_of_none eb4 nl
          refine ⟨t, l, xs, ys, rfl, rfl, by rw [upd_ne lt]; exact et4, upd_same, Nat.le_of_lt (small1000 (by omega)), ?_⟩
          refine ⟨sizs ((ds ++ cs).drop (bs.length + 1)), ?_, xs ++ ys, ds ++ cs, bs ++ [((xs.length : Nat) : Int)], _, rfl, fun c o h => ?_, upd_same, ?_, dpa_app ds cs xs ys ha hc, ?_, fun j d' cs' hj h1 h2 => ?_, ?_, by rw [lb2], ?_⟩
          · rw [List.drop_append_of_le_length (by omega), sizs_app]
            omega
          · rw [upd_ne (ne_of_none h nt), upd_ne (ne_of_none ((s3.trans s4) _ _ h) nl)]
            exact (s3.trans s4) _ _ h
          · rw [upd_ne (Ne.symm tb), upd_ne lb, eb2]
            exact eb4
          · rw [lb2, List.length_append]
            omega
          · rw [lb2] at hj
            by_cases ej : j = bs.length
            · rw [ej, List.getElem?_append_left hi, fi] at h1
              cases h1
              rw [e] at h2
              cases h2
              refine ⟨ds.length, ?_, ?_⟩
              · rw [ej, List.getElem?_append_right (Nat.le_refl _), Nat.sub_self, lx]
                rfl
              · rw [List.drop_left, List.take_of_length_le (Nat.le_refl _)]
            · exact old cs j d' cs' (by omega) h1 h2
          · rw [List.getElem?_append_left (by omega)]
            exact h0
          · rw [List.drop_append_of_le_length (by omega), sizs_app]
            omega
      · have hi : bs.length = ds.length := by
          have : ¬ ((bs.map V.int).length : Int) < (xs.length : Int) := fun z => e (decide_eq_true z)
          rw [List.length_map] at this
          omega
        refine ⟨.ref t, rfl, .ref b, rfl, by show 2 ≤ sizeLine; decide, fun r nr => ?_⟩
        have sr := same_upd (o := .tup [.ref t, .ref b]) nr
        exact q _ r t b xs ds bs (sm.trans sr) nt nb0 tb (sr _ _ et) (sr _ _ eb) upd_same ha (by rw [← hi]; exact hlaid) hi h0 (by omega)
theorem ok_kept (T : Top w K mg) : FnOk P w K mg base CX0 3 T.a_kept T.fd_kept ["thing"] (spKept K) := by
  have G_is_row := ok_is_row (P := P) (w := w) (base := base) T
  have G_laid_out := ok_laid_out (P := P) (w := w) (base := base) T
  refine T.F_kept.ok sc_kept (fun vs H Q E h => ?_) (fun cdv A outer s H vs Q E hr h => ?_)
  · obtain ⟨v, d, rfl, _⟩ := h
    rfl
  · obtain ⟨v, d, rfl, hz, hd, q⟩ := h
    refine ⟨_, (pss_cons (ps_asg (pe_call G_laid_out hr (by rfl) T.g_laid_out T.F_laid_out.kp T.b_laid_out .nil pass0 (pa_cons (pv 0) pa_nil)) (pg_tup rfl (pgs_cons (pg_name (i := 1) sc_kept.nd rfl (.inl rfl)) (pgs_cons (pg_name (i := 2) sc_kept.nd rfl (.inl rfl)) pgs_nil))))
      (pss_cons (ps_set (i := 3) sc_kept.nd rfl (.inl rfl) (pe_callB call_len_seq (by rfl) T.m_len (by decide +kernel) (pa_cons (pv 1) pa_nil)))
      (pss_cons (ps_set (i := 4) sc_kept.nd rfl (.inl rfl) (pe_op op_rep (pe_lst (pa_cons pe_bl pa_nil)) (pv 3)))
      (pss_cons (ps_while PassesOwn.never (pt_cmpR op_gt (pv 3) pe_int (nomark _)) (pss_cons (ps_aug (i := 3) sc_kept.nd rfl (.inl rfl) pe_int ip_sub)
      (pss_cons (ps_set (i := 5) sc_kept.nd rfl (.inl rfl) (pe_ix ix_list (pv 1) (pv 3) (fun _ _ => rfl)))
      (pss_one (ps_if (pt_val (pe_call G_is_row (hr.mono (by decide)) (by rfl) T.g_is_row T.F_is_row.kp T.b_is_row .nil pass0 (pa_cons (pv 5) pa_nil))) (pss_cons (ps_par (i := 6) (j := 7) (by rfl) sc_kept.nd rfl rfl (by decide) rfl rfl (pa_cons (pe_ix ix_list (pv 2) (pv 3) (fun _ _ => rfl)) (pa_cons (pe_op op_add (pe_ix ix_list (pv 2) (pv 3) (fun _ _ => rfl)) (pe_callB call_len_seq (by rfl) T.m_len (by decide +kernel) (pa_cons (pv 5) pa_nil))) pa_nil)) (by rfl))
      (Evl.pss_cut (ps_asg (pe_or (pe_callB call_isi (by rfl) T.m_isinstance (by decide +kernel) (pa_cons (pv 5) (pa_cons (pe_bltn (v := .ty "list") (by rfl) T.m_list (by decide +kernel) rfl) pa_nil))) (pe_one (pe_callB (cr_any rfl) (by rfl) T.m_any (by decide +kernel) (pa_cons (pe_slice sl_list (pv 4) (po_some (pv 6)) (po_some (pv 7))) pa_nil)))) (pg_sub (pv 4) (pv 3) set_list))
      (pss_one (ps_if (pt_val (pe_ix ix_list (pv 4) (pv 3) (fun _ _ => rfl))) (pss_one (ps_asg (pe_ifExp (pt_val (pe_callB call_isi (by rfl) T.m_isinstance (by decide +kernel) (pa_cons (pv 5) (pa_cons (pe_bltn (v := .ty "list") (by rfl) T.m_list (by decide +kernel) rfl) pa_nil)))) (pe_slice sl_list (pv 1) (po_some (pv 6)) (po_some (pv 7))) (pe_callTy call_tuple_of (by rfl) T.m_tuple (by decide +kernel) (pa_cons (pe_slice sl_list (pv 1) (po_some (pv 6)) (po_some (pv 7))) pa_nil))) (pg_sub (pv 1) (pv 3) set_list))) pss_nil)))) pss_nil)))))
      (pss_one (ps_ret (pe_ix ix_list (pv 1) pe_int (fun _ _ => rfl)))))))), ?_⟩
    refine ⟨v, rfl, v, d, rfl, hz, hd, fun H1 r t b xs ds bs sm nt nb tb et eb er ha hlaid hlb h0 hl => ?_⟩
    have lx := dpa_len ds xs ha
    refine ⟨r, _, rfl, .inl (.inl er), rfl, _, _, rfl, _, _, rfl, rfl, ?_⟩
    refine ⟨.ref t, rfl, t, xs, rfl, .inl (.inl (.inl et)), ?_⟩
    have sl : xs.length ≤ sizeLine := Nat.le_of_lt (small1000 (by omega))
    refine ⟨by show 1 ≤ sizeLine; decide, fun l nl => ?_⟩
    have s1 := same_upd (o := .lst [.bl false]) nl
    refine ⟨.int (xs.length : Nat), rfl, l, _, _, rfl, rfl, upd_same, by omega, by have : sizeLine < 2 ^ 63 := by decide
                                                                                   omega, ?_, fun a na => ?_⟩
    · show 1 * (xs.length : Int).toNat ≤ sizeLine
      omega
    have s2 := same_upd (o := .lst (List.replicate (xs.length : Int).toNat [V.bl false]).flatten) na
    have ea : ∃ as : List Bool, (List.replicate (xs.length : Int).toNat [V.bl false]).flatten = as.map V.bl ∧ as.length = ds.length := ⟨List.replicate ds.length false, by simp [lx], by simp⟩
    obtain ⟨as, ea1, ea2⟩ := ea
    have ma : upd (upd H1 l (.lst [.bl false])) a (.lst (List.replicate (xs.length : Int).toNat [V.bl false]).flatten) a = some (.lst (as.map V.bl)) := by rw [upd_same, ea1]
    have ta : t ≠ a := ne_of_none (s1 _ _ et) na
    have ba : b ≠ a := ne_of_none (s1 _ _ eb) na
    have na0 : H a = none := sm.free (s1.free na)
    refine ⟨fun m σ H2 => ∃ xs as y5 y6 y7, σ = [some v, some (.ref t), some (.ref b), some (.int (m : Nat)), some (.ref a), y5, y6, y7] ∧ m ≤ ds.length ∧ Same H H2 ∧ H2 t = some (.lst xs) ∧ H2 b = some (.lst (bs.map V.int)) ∧ H2 a = some (.lst (as.map V.bl)) ∧ as.length = ds.length ∧ DpAll K (wo H2 (fun c => c = t ∨ c = b ∨ c = a)) xs ds, ⟨ds.length, xs, as, none, none, none, by rw [lx]; rfl, Nat.le_refl _, (sm.trans s1).trans s2, (s1.trans s2) _ _ et, (s1.trans s2) _ _ eb, ma, ea2, ?_⟩, ?_⟩
    · refine dpa_same (fun c o h => ?_) _ _ ha
      rw [wo_in (fun z => by
        rcases z with z | z | z
        · rw [z, nt] at h; cases h
        · rw [z, nb] at h; cases h
        · rw [z, na0] at h; cases h)]
      exact ((sm.trans s1).trans s2) _ _ h
    · rintro m σ H2 ⟨xs, as, y5, y6, y7, rfl, hm, sm2, et2, eb2, ea2, la, ha2⟩
      have lx := dpa_len ds xs ha2
      refine ⟨.int (m : Nat), rfl, _, _, rfl, rfl, _, rfl, ite2 (fun e => ?_) (fun e => ?_)⟩
      · have mp : 0 < m := by
          have := of_decide_eq_true e
          omega
        obtain ⟨j, rfl⟩ : ∃ j, m = j + 1 := ⟨m - 1, by omega⟩
        refine ⟨fun σ' H' => ∃ m', m' < j + 1 ∧ _, fun _ _ h => h, ?_⟩
        refine ⟨_, rfl, _, _, rfl, rfl, ?_⟩
        have ej : ((j + 1 : Nat) : Int) - 1 = (j : Nat) := by omega
        obtain ⟨dj, fj⟩ : ∃ dj, ds[j]? = some dj := ⟨_, List.getElem?_eq_getElem (by omega)⟩
        obtain ⟨x, gx⟩ : ∃ x, xs[j]? = some x := ⟨_, List.getElem?_eq_getElem (by omega)⟩
        have hx : Dp K (wo H2 (fun c => c = t ∨ c = b ∨ c = a)) x dj := by
          obtain ⟨d', e1, e2⟩ := dpa_at ds xs ha2 _ x gx
          rw [fj] at e1
          cases e1
          exact e2
        have hx2 := dp_same wo_same dj x hx
        have atj : ∀ {α : Type} {l : List α} {y : α}, l[j]? = some y → atI l (((j + 1 : Nat) : Int) - 1) = some y := fun h => by
          rw [ej]
          exact atI_nat h
        refine ⟨.ref t, rfl, _, rfl, t, xs, _, x, rfl, rfl, .inl (.inl et2), atj gx, ?_⟩
        refine ⟨x, rfl, x, dj, rfl, hx2, fun H3 s3 => ⟨_, rfl, ?_⟩⟩
        have keep : ∀ {H4 : Hp}, Same H2 H4 → Same (wo H2 (fun c => c = t ∨ c = b ∨ c = a)) (wo H4 (fun c => c = t ∨ c = b ∨ c = a)) := fun {H4} s4 c o h => by
          have h2 := wo_some h
          rw [wo_in h2.1]
          exact s4 _ _ h2.2
        cases e : seqD dj with
        | none => exact iteF ⟨j, Nat.lt_succ_self j, xs, as, some x, y6, y7, by rw [← ej]; rfl, by omega, sm2.trans s3, s3 _ _ et2, s3 _ _ eb2, s3 _ _ ea2, la, dpa_same (keep s3) _ _ ha2⟩
        | some cs =>
          obtain ⟨p, ys, rfl, hs, hc⟩ := seq_dp hx2 e
          have lc := dpa_len cs ys hc
          obtain ⟨b0, g1, g2⟩ := hlaid j dj cs (by omega) fj e
          have lcs : b0 + cs.length ≤ ds.length ∨ cs.length = 0 := by
            have := congrArg List.length g2
            rw [List.length_take, List.length_drop] at this
            omega
          have gb : (bs.map V.int)[j]? = some (.int (b0 : Int)) := by rw [List.getElem?_map, g1]; rfl
          have ty3 := ty_dp (dp_same s3 dj _ hx2)
          obtain ⟨x1, y1, k1, k2, exy⟩ := kit_seq dj
          refine iteT ⟨.ref b, rfl, _, rfl, b, _, _, _, rfl, rfl, .inl (.inl (s3 _ _ eb2)), atj gb, .ref b, rfl, _, rfl, b, _, _, _, rfl, rfl, .inl (.inl (s3 _ _ eb2)), atj gb, .ref p, rfl, p, ys, rfl, hs.elim (fun h => .inl (s3.seq h)) (fun h => .inr (sqt_same s3 h)), _, _, rfl, rfl, _, _, rfl, ?_⟩
          refine ⟨fun σ' H4 => ∃ as' : List Bool, σ' = [some v, some (.ref t), some (.ref b), some (.int (((j + 1 : Nat) : Int) - 1)), some (.ref a), some (.ref p), some (.int (b0 : Int)), some (.int ((b0 : Int) + (ys.length : Nat)))] ∧ as'.length = ds.length ∧ H4 a = some (.lst (as'.map V.bl)) ∧ ∀ c o, c ≠ a → H2 c = some o → H4 c = some o, ?_, ?_⟩
          · have put : ∀ (z : Bool) (H4 : Hp), Same H3 H4 → ∃ p xs k j', V.ref a = .ref p ∧ V.int (((j + 1 : Nat) : Int) - 1) = .int k ∧ H4 p = some (.lst xs) ∧ ixN xs.length k = some j' ∧ ∃ as' : List Bool, as'.length = ds.length ∧ upd H4 p (.lst (xs.set j' (.bl z))) a = some (.lst (as'.map V.bl)) ∧ ∀ c o, c ≠ a → H2 c = some o → upd H4 p (.lst (xs.set j' (.bl z))) c = some o := fun z H4 s4 => by
              refine ⟨a, as.map V.bl, _, j, rfl, rfl, s4 _ _ (s3 _ _ ea2), by rw [ej]; exact Evl.ixN_nat (by rw [List.length_map]; omega), as.set j z, by rw [List.length_set]; exact la, by rw [upd_same, List.map_set], fun c o hc h => ?_⟩
              rw [upd_ne hc]
              exact s4 _ _ (s3 _ _ h)
            refine ⟨.ref p, rfl, _, _, _, _, y1, rfl, .ty _, ty3, kit_ty k2, _, rfl, ?_⟩
            cases y1 with
            | true =>
              refine iteT ⟨.ref a, rfl, _, rfl, ?_⟩
              obtain ⟨p', xs', k', j', h1, h2, h3, h4, as', h5, h6, h7⟩ := put true H3 (Same.refl _)
              exact ⟨p', xs', k', j', h1, h2, h3, h4, as', rfl, h5, h6, h7⟩
            | false =>
              obtain ⟨cs', ec⟩ := cut_bl as (some (b0 : Int)) (some ((b0 : Int) + (ys.length : Nat)))
              refine iteF ⟨.ref a, rfl, _, rfl, _, rfl, _, rfl, _, rfl, a, _, rfl, .inl (.inl (s3 _ _ ea2)), fun c nc => ⟨c, cs', rfl, .inl (.inl (by rw [upd_same, ec])), .ref a, rfl, _, rfl, ?_⟩⟩
              obtain ⟨p', xs', k', j', h1, h2, h3, h4, as', h5, h6, h7⟩ := put (cs'.any id) _ (same_upd nc)
              exact ⟨p', xs', k', j', h1, h2, h3, h4, as', rfl, h5, h6, h7⟩
          · rintro σ' H4 ⟨as', rfl, la', ea4, k4⟩
            have na2 : H a = none := na0
            have sm4 : Same H H4 := fun c o h => k4 _ _ (ne_of_none h na0) (sm2 _ _ h)
            have et4 := k4 t _ ta et2
            have eb4 := k4 b _ ba eb2
            have keep4 : Same (wo H2 (fun c => c = t ∨ c = b ∨ c = a)) (wo H4 (fun c => c = t ∨ c = b ∨ c = a)) := fun c o h => by
              have h2 := wo_some h
              rw [wo_in h2.1]
              exact k4 _ _ (fun z => h2.1 (.inr (.inr z))) h2.2
            obtain ⟨z, gz⟩ : ∃ z, as'[j]? = some z := ⟨_, List.getElem?_eq_getElem (by omega)⟩
            refine ⟨.ref a, rfl, _, rfl, a, _, _, .bl z, rfl, rfl, .inl (.inl ea4), atj (by rw [List.getElem?_map, gz]; rfl), z, rfl, ?_⟩
            cases z with
            | false => exact iteF ⟨j, Nat.lt_succ_self j, xs, as', some (.ref p), _, _, by rw [← ej], by omega, sm4, et4, eb4, ea4, la', dpa_same keep4 _ _ ha2⟩
            | true =>
              refine iteT ⟨.ref p, rfl, _, _, _, _, y1, rfl, .ty _, ty_dp (dp_same keep4 dj _ hx |> dp_same wo_same dj _), kit_ty k2, _, rfl, ?_⟩
              have hcut : DpAll K (wo H4 (fun c => c = t ∨ c = b ∨ c = a)) (cutV xs (some (b0 : Int)) (some ((b0 : Int) + (ys.length : Nat)))) cs := by
                have h1 := dpa_takeK cs.length _ _ (dpa_dropK b0 _ _ (dpa_same keep4 _ _ ha2))
                rw [g2] at h1
                rcases lcs with h | h
                · rw [cut_nat xs b0 ys.length (by omega), lc]
                  exact h1
                · have e0 : cs = [] := List.eq_nil_of_length_eq_zero h
                  have e1 : ys.length = 0 := by omega
                  have e2 : cutV xs (some (b0 : Int)) (some ((b0 : Int) + (ys.length : Nat))) = [] := by
                    rw [e1]
                    unfold cutV
                    rw [show ((b0 : Int) + ((0 : Nat) : Int)) = (b0 : Int) by omega]
                    apply List.eq_nil_of_length_eq_zero
                    rw [List.length_take, List.length_drop]
                    unfold HT.sIx
                    simp only []
                    split <;> omega
                  rw [e2, e0]
                  exact .nil
              have fin : ∀ (H6 : Hp) (y' : V), Same H4 H6 → Dp K (wo H6 (fun c => c = t ∨ c = b ∨ c = a)) y' dj → Same H (upd H6 t (.lst (xs.set j y'))) ∧ upd H6 t (.lst (xs.set j y')) b = some (.lst (bs.map V.int)) ∧ upd H6 t (.lst (xs.set j y')) a = some (.lst (as'.map V.bl)) ∧ DpAll K (wo (upd H6 t (.lst (xs.set j y'))) (fun c => c = t ∨ c = b ∨ c = a)) (xs.set j y') ds := fun H6 y' s6 hy => by
                have k6 : Same (wo H6 (fun c => c = t ∨ c = b ∨ c = a)) (wo (upd H6 t (.lst (xs.set j y'))) (fun c => c = t ∨ c = b ∨ c = a)) := fun c o h => by
                  have h2 := wo_some h
                  rw [wo_in h2.1, upd_ne (fun z => h2.1 (.inl z))]
                  exact h2.2
                have k46 : Same (wo H4 (fun c => c = t ∨ c = b ∨ c = a)) (wo H6 (fun c => c = t ∨ c = b ∨ c = a)) := fun c o h => by
                  have h2 := wo_some h
                  rw [wo_in h2.1]
                  exact s6 _ _ h2.2
                refine ⟨fun c o h => ?_, ?_, ?_, dpa_setK (dp_same k6 dj y' hy) j ds xs (dpa_same (keep4.trans (k46.trans k6)) _ _ ha2) fj⟩
                · rw [upd_ne (ne_of_none h nt)]
                  exact s6 _ _ (sm4 _ _ h)
                · rw [upd_ne (Ne.symm tb)]
                  exact s6 _ _ eb4
                · rw [upd_ne (Ne.symm ta)]
                  exact s6 _ _ ea4
              have newX : ∀ {H6 : Hp} {c : Addr}, Same H4 H6 → H6 c = none → ¬ (c = t ∨ c = b ∨ c = a) := fun {H6 c} s6 nc z => by
                rcases z with z | z | z
                · rw [z, s6 _ _ et4] at nc; cases nc
                · rw [z, s6 _ _ eb4] at nc; cases nc
                · rw [z, s6 _ _ ea4] at nc; cases nc
              have keep6 : ∀ {H6 : Hp}, Same H4 H6 → Same (wo H4 (fun c => c = t ∨ c = b ∨ c = a)) (wo H6 (fun c => c = t ∨ c = b ∨ c = a)) := fun {H6} s6 c o h => by
                have h2 := wo_some h
                rw [wo_in h2.1]
                exact s6 _ _ h2.2
              have hk : (y1 = true → dj = .list cs) ∧ (y1 = false → dj = .tuple cs) := by
                cases dj with
                | list ds =>
                  cases e
                  have : kitB (tyD (.list cs)) "list" = some true := by show kitB "list" "list" = some true; decide +kernel
                  rw [this] at k2
                  cases k2
                  exact ⟨fun _ => rfl, fun z => by cases z⟩
                | tuple ds =>
                  cases e
                  have : kitB (tyD (.tuple cs)) "list" = some false := by show kitB "tuple" "list" = some false; decide +kernel
                  rw [this] at k2
                  cases k2
                  exact ⟨fun z => (by cases z), fun _ => rfl⟩
                | _ => cases e
              have ixj : ixN xs.length (((j + 1 : Nat) : Int) - 1) = some j := by rw [ej]; exact Evl.ixN_nat (by omega)
              cases y1 with
              | true =>
                refine iteT ⟨.ref t, rfl, _, rfl, _, rfl, _, rfl, _, rfl, t, xs, rfl, .inl (.inl et4), fun c nc => ?_⟩
                have sc := same_upd (o := .lst (cutV xs (some (b0 : Int)) (some ((b0 : Int) + (ys.length : Nat))))) nc
                obtain ⟨h1, h2, h3, h4⟩ := fin _ (.ref c) sc (by
                  rw [hk.1 rfl]
                  exact .lst (.inl (.inl (by rw [wo_in (newX (Same.refl _) nc)]; exact upd_same))) (dpa_same (keep6 sc) _ _ hcut))
                exact ⟨.ref t, rfl, _, rfl, t, xs, _, j, rfl, rfl, sc _ _ et4, ixj, j, Nat.lt_succ_self j, xs.set j (.ref c), as', some (.ref p), _, _, by rw [← ej], by omega, h1, upd_same, h2, h3, la', h4⟩
              | false =>
                refine iteF ⟨.ref t, rfl, _, rfl, _, rfl, _, rfl, _, rfl, t, xs, rfl, .inl (.inl et4), fun c nc => ⟨c, _, rfl, .inl ⟨.inl (.inl upd_same), fun l nl => ?_⟩⟩⟩
                have sc := same_upd (o := .lst (cutV xs (some (b0 : Int)) (some ((b0 : Int) + (ys.length : Nat))))) nc
                have sl := sc.trans (same_upd (o := .tup (cutV xs (some (b0 : Int)) (some ((b0 : Int) + (ys.length : Nat))))) nl)
                obtain ⟨h1, h2, h3, h4⟩ := fin _ (.ref l) sl (by
                  rw [hk.2 rfl]
                  exact .tup (.inl (.inl (by rw [wo_in (newX sc nl)]; exact upd_same))) (dpa_same (keep6 sl) _ _ hcut))
                exact ⟨.ref t, rfl, _, rfl, t, xs, _, j, rfl, rfl, sl _ _ et4, ixj, j, Nat.lt_succ_self j, xs.set j (.ref l), as', some (.ref p), _, _, by rw [← ej], by omega, h1, upd_same, h2, h3, la', h4⟩
      · have m0 : m = 0 := by
          have : ¬ (0 : Int) < (m : Int) := fun z => e (decide_eq_true z)
          omega
        subst m0
        cases xs with
        | nil => cases ha2; cases h0
        | cons x xs' =>
          obtain ⟨d', e1, e2⟩ := dpa_at ds _ ha2 0 x rfl
          rw [h0] at e1
          cases e1
          exact ⟨.ref t, rfl, t, _, 0, x, rfl, rfl, .inl (.inl et2), atI_nat (j := 0) rfl, q H2 x sm2 (dp_same wo_same _ x e2)⟩
--@@SPLIT
/-! ### what is kept while an exception is handled: flat things alone -/
theorem okH_is_row (T : Top w K mg) : L2H.FnH P w K mg base CX0 1 T.a_is_row T.fd_is_row ["thing"] (spRowD K) := by
  refine HotAs.okH T.F_is_row sc_is_row (fun vs H Q E h => ?_) (fun cdv A outer s H vs Q E p hr hc h => ?_)
  · obtain ⟨v, d, rfl, _⟩ := h
    rfl
  · obtain ⟨v, d, rfl, hd, q⟩ := h
    refine ⟨_, (pss_one (ps_ret (pe_callB call_isiT (by rfl) T.m_isinstance (by decide +kernel) (pa_cons (pv 0) (pa_cons (pe_tup (pa_cons (pe_bltn (v := .ty "tuple") (by rfl) T.m_tuple (by decide +kernel) rfl) (pa_cons (pe_bltn (v := .ty "list") (by rfl) T.m_list (by decide +kernel) rfl) pa_nil))) pa_nil))))), ?_⟩
    obtain ⟨x, y, k1, k2, exy⟩ := kit_seq d
    refine ⟨v, rfl, by show 2 ≤ sizeLine; decide, fun tp np => ⟨v, tp, _, _, _, _, rfl, upd_same, .cons (.ty _) (.cons (.ty _) .nil), ty_dp (dp_same (same_upd np) d v hd), kit_any2 k1 k2, ?_⟩⟩
    rw [exy]
    exact q _ (same_upd np)
def spLaidH (K : PySem.W.Frag) : Sp := fun vs H Q _ => ∃ (v : V) (d : PyData), vs = [v] ∧ seqD d = none ∧ Dp K H v d ∧
  ∀ H' r t b, Same H H' → H t = none → H b = none → t ≠ b → H' t = some (.lst [v]) → H' b = some (.lst [.int 1]) → H' r = some (.tup [.ref t, .ref b]) → Q (.ref r) H'
theorem okH_laid_out (T : Top w K mg) : L2H.FnH P w K mg base CX0 2 T.a_laid_out T.fd_laid_out ["thing"] (spLaidH K) := by
  have GH_is_row := okH_is_row (P := P) (w := w) (base := base) T
  refine HotAs.okH T.F_laid_out sc_laid_out (fun vs H Q E h => ?_) (fun cdv A outer s H vs Q E p hr hc h => ?_)
  · obtain ⟨v, d, rfl, _⟩ := h
    rfl
  · obtain ⟨v, d, rfl, fl, hd, q⟩ := h
    refine ⟨_, (pss_cons (ps_set (i := 1) sc_laid_out.nd rfl (.inl rfl) (pe_lst (pa_cons (pv 0) pa_nil)))
      (pss_cons (ps_set (i := 2) sc_laid_out.nd rfl (.inl rfl) (pe_lst pa_nil))
      (pss_cons (ps_while PassesOwn.never (pt_cmpR op_lt (pe_callB call_len_seq (by rfl) T.m_len (by decide +kernel) (pa_cons (pv 2) pa_nil)) (pe_callB call_len_seq (by rfl) T.m_len (by decide +kernel) (pa_cons (pv 1) pa_nil)) (nomark _)) (pss_cons (ps_set (i := 3) sc_laid_out.nd rfl (.inl rfl) (pe_ix ix_list (pv 1) (pe_callB call_len_seq (by rfl) T.m_len (by decide +kernel) (pa_cons (pv 2) pa_nil)) (fun _ _ => rfl)))
      (pss_cons (ps_expr (pe_bm PySem.F.plainAttrs_list PySem.F.slot_list_append PySem.F.type_list_append mt_append (pv 2) (pa_cons (pe_callB call_len_seq (by rfl) T.m_len (by decide +kernel) (pa_cons (pv 1) pa_nil)) pa_nil)))
      (pss_one (ps_if (pt_val (L2H.pe_callH (E := fun _ _ _ _ => False) GH_is_row hr hc (by rfl) T.g_is_row T.F_is_row.kp T.b_is_row (fun _ _ _ _ _ _ _ z => z.elim) (pa_cons (pv 3) pa_nil))) pss_never pss_nil)))))
      (pss_one (ps_ret (pe_tup (pa_cons (pv 1) (pa_cons (pv 2) pa_nil)))))))), ?_⟩
    refine ⟨v, rfl, by show 1 ≤ sizeLine; decide, fun t nt => ⟨Nat.zero_le _, fun b nb => ?_⟩⟩
    have s1 := same_upd (o := .lst [v]) nt
    have s2 := same_upd (o := .lst []) nb
    have tb : t ≠ b := ne_of_none (upd_same (H := H) (a := t) (o := .lst [v])) nb
    have nb0 : H b = none := s1.free nb
    refine ⟨fun m σ H1 => ∃ (bs : List V) (y : Option V), σ = [some v, some (.ref t), some (.ref b), y] ∧ Same H H1 ∧ H1 t = some (.lst [v]) ∧ H1 b = some (.lst bs) ∧ (m = 1 ∧ bs = [] ∨ m = 0 ∧ bs = [.int 1]), ⟨1, [], none, rfl, s1.trans s2, s2 _ _ upd_same, upd_same, .inl ⟨rfl, rfl⟩⟩, ?_⟩
    rintro m σ H1 ⟨bs, y, rfl, sm, et, eb, hm⟩
    refine ⟨.ref b, rfl, b, _, rfl, .inl (.inl (.inl eb)), .ref t, rfl, t, _, rfl, .inl (.inl (.inl et)), _, _, rfl, rfl, _, rfl, ?_⟩
    rcases hm with ⟨rfl, rfl⟩ | ⟨rfl, rfl⟩
    · refine iteDY rfl ⟨fun σ' H' => ∃ m', m' < 1 ∧ _, fun _ _ h => h, ?_⟩
      refine ⟨.ref t, rfl, .ref b, rfl, b, _, rfl, .inl (.inl (.inl eb)), t, _, _, v, rfl, rfl, .inl (.inl et), rfl, ?_⟩
      refine ⟨.ref b, rfl, .inl ⟨rfl, _, .inl (.inl eb)⟩, .ref t, rfl, t, _, rfl, .inl (.inl (.inl et)), b, _, _, rfl, rfl, eb, by decide, ?_⟩
      have s3 : Same H (upd H1 b (.lst [.int 1])) := fun c o h => by
        rw [upd_ne (ne_of_none h nb0)]
        exact sm _ _ h
      refine ⟨v, rfl, v, d, rfl, dp_same s3 d v hd, fun H4 s4 => ⟨_, rfl, ?_⟩⟩
      rw [fl]
      exact iteF ⟨0, Nat.zero_lt_one, [.int 1], _, rfl, s3.trans s4, s4 _ _ ((upd_ne tb).trans et), s4 _ _ upd_same, .inr ⟨rfl, rfl⟩⟩
    · refine iteDN rfl ⟨.ref t, rfl, .ref b, rfl, by show 2 ≤ sizeLine; decide, fun r nr => ?_⟩
      have sr := same_upd (o := .tup [.ref t, .ref b]) nr
      exact q _ r t b (sm.trans sr) nt nb0 tb (sr _ _ et) (sr _ _ eb) upd_same
def spKeptH (K : PySem.W.Frag) : Sp := fun vs H Q _ => ∃ (v : V) (d : PyData), vs = [v] ∧ seqD d = none ∧ Dp K H v d ∧ ∀ H', Same H H' → Q v H'
theorem okH_kept (T : Top w K mg) : L2H.FnH P w K mg base CX0 3 T.a_kept T.fd_kept ["thing"] (spKeptH K) := by
  have GH_is_row := okH_is_row (P := P) (w := w) (base := base) T
  have GH_laid_out := okH_laid_out (P := P) (w := w) (base := base) T
  refine HotAs.okH T.F_kept sc_kept (fun vs H Q E h => ?_) (fun cdv A outer s H vs Q E p hr hc h => ?_)
  · obtain ⟨v, d, rfl, _⟩ := h
    rfl
  · obtain ⟨v, d, rfl, fl, hd, q⟩ := h
    refine ⟨_, (pss_cons (ps_asg (L2H.pe_callH (E := fun _ _ _ _ => False) GH_laid_out hr hc (by rfl) T.g_laid_out T.F_laid_out.kp T.b_laid_out (fun _ _ _ _ _ _ _ z => z.elim) (pa_cons (pv 0) pa_nil)) (HotAs.pg_tupH hc (pgs_cons (pg_name (i := 1) sc_kept.nd rfl (.inl rfl)) (pgs_cons (pg_name (i := 2) sc_kept.nd rfl (.inl rfl)) pgs_nil))))
      (pss_cons (ps_set (i := 3) sc_kept.nd rfl (.inl rfl) (pe_callB call_len_seq (by rfl) T.m_len (by decide +kernel) (pa_cons (pv 1) pa_nil)))
      (pss_cons (ps_set (i := 4) sc_kept.nd rfl (.inl rfl) (pe_op op_rep (pe_lst (pa_cons pe_bl pa_nil)) (pv 3)))
      (pss_cons (ps_while PassesOwn.never (pt_cmpR op_gt (pv 3) pe_int (nomark _)) (pss_cons (ps_aug (i := 3) sc_kept.nd rfl (.inl rfl) pe_int ip_sub)
      (pss_cons (ps_set (i := 5) sc_kept.nd rfl (.inl rfl) (pe_ix ix_list (pv 1) (pv 3) (fun _ _ => rfl)))
      (pss_one (ps_if (pt_val (L2H.pe_callH (E := fun _ _ _ _ => False) GH_is_row (hr.mono (by decide)) hc (by rfl) T.g_is_row T.F_is_row.kp T.b_is_row (fun _ _ _ _ _ _ _ z => z.elim) (pa_cons (pv 5) pa_nil))) pss_never pss_nil)))))
      (pss_one (ps_ret (pe_ix ix_list (pv 1) pe_int (fun _ _ => rfl)))))))), ?_⟩
    refine ⟨v, rfl, v, d, rfl, fl, hd, fun H1 r t b sm nt nb tb et eb er => ?_⟩
    refine ⟨r, _, rfl, .inl (.inl er), rfl, _, _, rfl, _, _, rfl, rfl, ?_⟩
    refine ⟨.ref t, rfl, t, _, rfl, .inl (.inl (.inl et)), by show 1 ≤ sizeLine; decide, fun l nl => ?_⟩
    have s1 := same_upd (o := .lst [.bl false]) nl
    refine ⟨.int 1, rfl, l, _, _, rfl, rfl, upd_same, by decide, by decide, by decide, fun a na => ?_⟩
    have s2 := same_upd (o := .lst (List.replicate (1 : Int).toNat [V.bl false]).flatten) na
    have s02 := (sm.trans s1).trans s2
    refine ⟨fun m σ H2 => ∃ y5 y6 y7, σ = [some v, some (.ref t), some (.ref b), some (.int (m : Nat)), some (.ref a), y5, y6, y7] ∧ m ≤ 1 ∧ Same H H2 ∧ H2 t = some (.lst [v]), ⟨1, none, none, none, rfl, Nat.le_refl _, s02, (s1.trans s2) _ _ et⟩, ?_⟩
    rintro m σ H2 ⟨y5, y6, y7, rfl, hm, sm2, et2⟩
    refine ⟨.int (m : Nat), rfl, _, _, rfl, rfl, _, rfl, ?_⟩
    match m, hm with
    | 1, _ =>
      refine iteDY (by decide) ⟨fun σ' H' => ∃ m', m' < 1 ∧ _, fun _ _ h => h, ?_⟩
      refine ⟨_, rfl, _, _, rfl, rfl, .ref t, rfl, _, rfl, t, _, _, v, rfl, rfl, .inl (.inl et2), rfl, ?_⟩
      refine ⟨v, rfl, v, d, rfl, dp_same sm2 d v hd, fun H3 s3 => ⟨_, rfl, ?_⟩⟩
      rw [fl]
      exact iteF ⟨0, Nat.zero_lt_one, _, _, _, rfl, Nat.zero_le _, sm2.trans s3, s3 _ _ et2⟩
    | 0, _ => exact iteDN (by decide) ⟨.ref t, rfl, t, _, 0, v, rfl, rfl, .inl (.inl et2), rfl, q H2 sm2⟩
--@@SPLIT
/-! ### texts -/
abbrev SMALLs : Str := PySem.Str.ofString "abcdefghijklmnopqrstuvwxyz"
abbrev GREATs : Str := PySem.Str.ofString "ABCDEFGHIJKLMNOPQRSTUVWXYZ"
def smC (c : Nat) : Bool := decide (c ∈ SMALLs.cps.toList)
def grC (c : Nat) : Bool := decide (c ∈ GREATs.cps.toList)
def shL (cs : List Nat) : Bool := decide (1 ≤ (cs.length : Int)) && decide ((cs.length : Int) ≤ 8)
def nmL (cs : List Nat) : Bool := shL cs && cs.all smC
def loL : List Nat → Bool
  | [] => false
  | c :: r => shL (c :: r) && (grC c && r.all smC)
def nmV : V → Bool
  | .str z => nmL z.cps.toList
  | _ => false
def loV : V → Bool
  | .str z => loL z.cps.toList
  | _ => false
def sgV (v : V) : Bool := nmV v || loV v
def shV : V → Bool
  | .str z => shL z.cps.toList
  | _ => false
/-- a thing: a text that is not too long, or no text -/
def Th (K : PySem.W.Frag) (H : Hp) (v : V) : Prop := (∃ z : Str, v = .str z ∧ z.length ≤ 1000) ∨ ((∀ z, v ≠ .str z) ∧ ∃ t, TyX K H v (.type t) ∧ kitB t "str" = some false)
theorem tyx_same {K : PySem.W.Frag} {H H' : Hp} {v : V} {t : Value} (e : Same H H') (h : TyX K H v t) : TyX K H' v t := by
  cases h with
  | base b =>
    cases b with
    | non => exact .base .non
    | bl x => exact .base (.bl x)
    | int i => exact .base (.int i)
    | str x => exact .base (.str x)
    | flt x => exact .base (.flt x)
    | lst h => exact .base (.lst (e _ _ h))
    | frz h => exact .base (.frz (e _ _ h))
    | tup h => exact .base (.tup (e _ _ h))
    | dK h => exact .base (.dK (e _ _ h))
    | dT h => exact .base (.dT (e _ _ h))
    | ins h a b c d f => exact .base (.ins (e _ _ h) a b c d f)
  | byt b => exact .byt b
  | set h => exact .set (e _ _ h)
  | kList h c => exact .kList h c
  | kTuple h c => exact .kTuple h c
  | kDict h c => exact .kDict h c
  | fTuple h => exact .fTuple (e _ _ h)
  | fDict h => exact .fDict (e _ _ h)
theorem Th.same {K : PySem.W.Frag} {H H' : Hp} {v : V} (e : Same H H') (h : Th K H v) : Th K H' v := by
  rcases h with h | ⟨n, t, ty, k⟩
  · exact .inl h
  · exact .inr ⟨n, t, tyx_same e ty, k⟩
theorem nmV_no {v : V} (h : ∀ z, v ≠ .str z) : nmV v = false ∧ loV v = false ∧ shV v = false := by
  cases v with
  | str z => exact absurd rfl (h z)
  | _ => exact ⟨rfl, rfl, rfl⟩
theorem len_toList (z : Str) : z.cps.toList.length = z.length := Array.length_toList
theorem thou {n : Nat} (h : n ≤ 1000) : n ≤ sizeLine := Nat.le_trans h (by decide)
def spShort (K : PySem.W.Frag) : Sp := fun vs H Q _ => ∃ v, vs = [v] ∧ Th K H v ∧ Q (.bl (shV v)) H
theorem s0 : PySem.Str.ofString "" = (⟨#[]⟩ : Str) := by decide +kernel
theorem ok_is_short_text (T : Top w K mg) : FnOk P w K mg base CX0 1 T.a_is_short_text T.fd_is_short_text ["thing"] (spShort K) := by
  refine T.F_is_short_text.ok sc_is_short_text (fun vs H Q E h => ?_) (fun cdv A outer s H vs Q E hr h => ?_)
  · obtain ⟨v, rfl, _⟩ := h
    rfl
  · obtain ⟨v, rfl, hv, q⟩ := h
    refine ⟨_, (pss_one (ps_ret (pe_and (pe_callB call_isi (by rfl) T.m_isinstance (by decide +kernel) (pa_cons (pv 0) (pa_cons (pe_bltn (v := .ty "str") (by rfl) T.m_str (by decide +kernel) rfl) pa_nil))) (pe_one (pe_chain op_le op_le pe_int (pe_callB call_len_str (by rfl) T.m_len (by decide +kernel) (pa_cons (pv 0) pa_nil)) (pe_glob (v := .int 8) (by rfl) T.g_LONGEST.choose_spec ⟨_, rfl⟩)))))), ?_⟩
    rcases hv with ⟨z, rfl, hz⟩ | ⟨no, t, ty, k⟩
    · refine ⟨.str z, rfl, _, _, _, _, true, rfl, .ty _, .base (.str z), kit_ty (by decide +kernel), _, rfl, iteT ?_⟩
      have q' : Q (.bl (decide (1 ≤ (z.length : Int)) && decide ((z.length : Int) ≤ 8))) H := by
        have e : shV (.str z) = (decide (1 ≤ (z.length : Int)) && decide ((z.length : Int) ≤ 8)) := by
          show (decide (1 ≤ (z.cps.toList.length : Int)) && decide ((z.cps.toList.length : Int) ≤ 8)) = _
          rw [len_toList]
        rw [← e]
        exact q
      refine ⟨.str z, rfl, z, rfl, thou hz, _, _, rfl, rfl, _, rfl, ite2 (fun e => ?_) (fun e => ?_)⟩
      · refine ⟨_, _, rfl, rfl, ?_⟩
        rw [e] at q'
        exact q'
      · rw [Bool.eq_false_iff.mpr e] at q'
        exact q'
    · rw [(nmV_no no).2.2] at q
      exact ⟨v, rfl, _, _, _, _, false, rfl, .ty _, ty, kit_ty k, _, rfl, iteF q⟩
def spSmall : Sp := fun vs H Q _ => ∃ z : Str, vs = [.str z] ∧ z.length ≤ 1000 ∧ ∀ H', Same H H' → Q (.bl (z.cps.toList.all smC)) H'
theorem all_map {f : Nat → Bool} : ∀ xs : List Nat, (xs.map f).all id = xs.all f
  | [] => rfl
  | x :: r => by rw [List.map_cons, List.all_cons, List.all_cons, all_map r]; rfl
theorem ok_are_small (T : Top w K mg) : FnOk P w K mg base CX0 1 T.a_are_small T.fd_are_small ["text"] spSmall := by
  refine T.F_are_small.ok sc_are_small (fun vs H Q E h => ?_) (fun cdv A outer s H vs Q E hr h => ?_)
  · obtain ⟨z, rfl, _⟩ := h
    rfl
  · obtain ⟨z, rfl, hz, q⟩ := h
    refine ⟨_, (pss_one (ps_ret (pe_callB (cr_all rfl) (by rfl) T.m_all (by decide +kernel) (pa_cons (pe_lc (own := [("letter", 1)]) (g := gName 1) (by rfl) sc_are_small.nd (pi_str (pv 0)) (blkOk_by (own := [("letter", 1)]) (N := ["text", "letter"]) (sc := defScope s_are_small) (by decide +kernel)) (fun _ _ _ _ _ => (pg_name (i := 1) sc_are_small.nd rfl (Or.inl rfl))) (fun _ _ _ _ _ => pts_nil) (fun _ _ _ _ _ => (pe_cmpR op_in_sign (pv 1) (pe_glob (v := .str "abcdefghijklmnopqrstuvwxyz") (by rfl) T.g_SMALL.choose_spec ⟨_, rfl⟩) (by rfl)))) pa_nil)))), ?_⟩
    refine ⟨.str z, rfl, z, rfl, fun D hD => lc_it walk_str (fun i H' => Same H H' ∧ H' D = some (.lst (((z.cps.toList.take i).map smC).map V.bl))) ⟨same_upd hD, upd_same⟩ (fun _ _ _ _ => trivial) ?_ ?_⟩
    · rintro i x H1 H2 hi ⟨sm, eD⟩ ⟨rfl, c, hc, rfl⟩
      refine ⟨rfl, ?_⟩
      refine ⟨_, rfl, c, _, rfl, rfl, _, eD, ?_, ?_, ?_⟩
      · rw [List.length_map, List.length_map, List.length_take, len_toList]
        exact small1000 (by omega)
      · exact fun b' o e => by
          rw [upd_ne (ne_of_none e hD)]
          exact sm _ _ e
      · rw [upd_same, List.take_add_one, Array.getElem?_toList, hc, List.map_append, List.map_append]
        rfl
    · rintro H1 ⟨sm, eD⟩
      have e2 : z.cps.toList.take z.cps.size = z.cps.toList := List.take_of_length_le (by rw [Array.length_toList]; exact Nat.le_refl _)
      rw [e2] at eD
      refine ⟨_, z.cps.toList.map smC, rfl, .inl (.inl eD), ?_⟩
      rw [all_map]
      exact q _ sm
def spIsV (K : PySem.W.Frag) (f : V → Bool) : Sp := fun vs H Q _ => ∃ v, vs = [v] ∧ Th K H v ∧ ∀ H', Same H H' → Q (.bl (f v)) H'
theorem ok_is_name (T : Top w K mg) : FnOk P w K mg base CX0 2 T.a_is_name T.fd_is_name ["thing"] (spIsV K nmV) := by
  have G_is_short_text := ok_is_short_text (P := P) (w := w) (base := base) T
  have G_are_small := ok_are_small (P := P) (w := w) (base := base) T
  refine T.F_is_name.ok sc_is_name (fun vs H Q E h => ?_) (fun cdv A outer s H vs Q E hr h => ?_)
  · obtain ⟨v, rfl, _⟩ := h
    rfl
  · obtain ⟨v, rfl, hv, q⟩ := h
    refine ⟨_, (pss_one (ps_ret (pe_and (pe_call G_is_short_text hr (by rfl) T.g_is_short_text T.F_is_short_text.kp T.b_is_short_text .nil pass0 (pa_cons (pv 0) pa_nil)) (pe_one (pe_call G_are_small hr (by rfl) T.g_are_small T.F_are_small.kp T.b_are_small .nil pass0 (pa_cons (pv 0) pa_nil)))))), ?_⟩
    refine ⟨v, rfl, v, rfl, hv, _, rfl, ite2 (fun e => ?_) (fun e => ?_)⟩
    · rcases hv with ⟨z, rfl, hz⟩ | ⟨no, _⟩
      · refine ⟨.str z, rfl, z, rfl, hz, fun H' sm => ?_⟩
        have h := q H' sm
        have e2 : nmV (.str z) = z.cps.toList.all smC := by
          show (shV (.str z) && z.cps.toList.all smC) = _
          rw [e]
          rfl
        rw [e2] at h
        exact h
      · rw [(nmV_no no).2.2] at e
        cases e
    · have h := q H (Same.refl H)
      have e2 : nmV v = false := by
        rcases hv with ⟨z, rfl, hz⟩ | ⟨no, _⟩
        · show (shV (.str z) && z.cps.toList.all smC) = _
          rw [Bool.eq_false_iff.mpr e]
          rfl
        · exact (nmV_no no).1
      rw [e2] at h
      exact h
theorem cut_tail (c : Nat) (r : List Nat) : cutS ⟨⟨c :: r⟩⟩ (some 1) none = ⟨⟨r⟩⟩ := by
  unfold cutS
  have e1 : HT.sIx (Str.length ⟨⟨c :: r⟩⟩) 0 (some 1) = 1 := by
    rw [show HT.sIx (Str.length ⟨⟨c :: r⟩⟩) 0 (some 1) = min 1 (Str.length ⟨⟨c :: r⟩⟩) from HT.sIx_nat _ 0 1]
    show min 1 (r.length + 1) = 1
    omega
  rw [e1, HT.sIx_none]
  show (⟨(List.take ((c :: r).length - 1) r).toArray⟩ : Str) = ⟨⟨r⟩⟩
  rw [List.length_cons, Nat.add_sub_cancel, List.take_length]
theorem ok_is_lone (T : Top w K mg) : FnOk P w K mg base CX0 2 T.a_is_lone T.fd_is_lone ["thing"] (spIsV K loV) := by
  have G_is_short_text := ok_is_short_text (P := P) (w := w) (base := base) T
  have G_are_small := ok_are_small (P := P) (w := w) (base := base) T
  refine T.F_is_lone.ok sc_is_lone (fun vs H Q E h => ?_) (fun cdv A outer s H vs Q E hr h => ?_)
  · obtain ⟨v, rfl, _⟩ := h
    rfl
  · obtain ⟨v, rfl, hv, q⟩ := h
    refine ⟨_, (pss_one (ps_ret (pe_and (pe_call G_is_short_text hr (by rfl) T.g_is_short_text T.F_is_short_text.kp T.b_is_short_text .nil pass0 (pa_cons (pv 0) pa_nil)) (pe_and (pe_cmpR op_in_sign (pe_ix ix_str (pv 0) pe_int (fun _ _ => rfl)) (pe_glob (v := .str "ABCDEFGHIJKLMNOPQRSTUVWXYZ") (by rfl) T.g_GREAT.choose_spec ⟨_, rfl⟩) (by rfl)) (pe_one (pe_call G_are_small hr (by rfl) T.g_are_small T.F_are_small.kp T.b_are_small .nil pass0 (pa_cons (pe_slice sl_str (pv 0) (po_some pe_int) po_none) pa_nil))))))), ?_⟩
    refine ⟨v, rfl, v, rfl, hv, _, rfl, ite2 (fun e => ?_) (fun e => ?_)⟩
    · rcases hv with ⟨⟨⟨cs⟩⟩, rfl, hz⟩ | ⟨no, _⟩
      · match cs, hz, e, q with
        | [], _, e, _ => cases e
        | c :: r, hz, e, q =>
          have hz2 : r.length + 1 ≤ 1000 := hz
          refine ⟨_, rfl, _, 0, c, rfl, rfl, thou hz, atI_nat (j := 0) rfl, c, _, rfl, rfl, _, rfl, ite2 (fun e3 => ?_) (fun e3 => ?_)⟩
          · refine ⟨_, rfl, 1, rfl, _, rfl, thou hz, ?_⟩
            rw [cut_tail]
            refine ⟨_, rfl, by show r.length ≤ 1000; omega, fun H' sm => ?_⟩
            have h := q H' sm
            have e2 : loV (.str ⟨⟨c :: r⟩⟩) = r.all smC := by
              show (shL (c :: r) && (grC c && r.all smC)) = _
              rw [show shL (c :: r) = true from e, show grC c = true from e3]
              rfl
            rw [e2] at h
            exact h
          · have h := q H (Same.refl H)
            have e2 : loV (.str ⟨⟨c :: r⟩⟩) = false := by
              show (shL (c :: r) && (grC c && r.all smC)) = _
              rw [show grC c = false from Bool.eq_false_iff.mpr e3, Bool.false_and, Bool.and_false]
            rw [e2] at h
            exact h
      · rw [(nmV_no no).2.2] at e
        cases e
    · have h := q H (Same.refl H)
      have e2 : loV v = false := by
        rcases hv with ⟨⟨⟨cs⟩⟩, rfl, hz⟩ | ⟨no, _⟩
        · match cs, e with
          | [], _ => rfl
          | c :: r, e =>
            show (shL (c :: r) && (grC c && r.all smC)) = _
            rw [show shL (c :: r) = false from Bool.eq_false_iff.mpr e]
            rfl
        · exact (nmV_no no).2.1
      rw [e2] at h
      exact h
theorem ok_is_sign (T : Top w K mg) : FnOk P w K mg base CX0 3 T.a_is_sign T.fd_is_sign ["thing"] (spIsV K sgV) := by
  have G_is_name := ok_is_name (P := P) (w := w) (base := base) T
  have G_is_lone := ok_is_lone (P := P) (w := w) (base := base) T
  refine T.F_is_sign.ok sc_is_sign (fun vs H Q E h => ?_) (fun cdv A outer s H vs Q E hr h => ?_)
  · obtain ⟨v, rfl, _⟩ := h
    rfl
  · obtain ⟨v, rfl, hv, q⟩ := h
    refine ⟨_, (pss_one (ps_ret (pe_or (pe_call G_is_name hr (by rfl) T.g_is_name T.F_is_name.kp T.b_is_name .nil pass0 (pa_cons (pv 0) pa_nil)) (pe_one (pe_call G_is_lone hr (by rfl) T.g_is_lone T.F_is_lone.kp T.b_is_lone .nil pass0 (pa_cons (pv 0) pa_nil)))))), ?_⟩
    refine ⟨v, rfl, v, rfl, hv, fun H1 s1 => ⟨_, rfl, ite2 (fun e => ?_) (fun e => ?_)⟩⟩
    · have h := q H1 s1
      rw [show sgV v = true by unfold sgV; rw [e]; rfl] at h
      exact h
    · refine ⟨v, rfl, v, rfl, hv.same s1, fun H2 s2 => ?_⟩
      have h := q H2 (s1.trans s2)
      rw [show sgV v = loV v by unfold sgV; rw [Bool.eq_false_iff.mpr e]; rfl] at h
      exact h
/-! ### parts of entries -/
theorem units65 {k : Nat} {A : Around} (hr : Room k A) : A.units + 65 < cLine := by
  have := hr.un
  omega
def rEqA (K : PySem.W.Frag) : R2 := fun x y H Q => rEq x y H Q ∨ rEqD K x y H Q
theorem op_eqA {X : Cx} (hu : X.A.units + 64 < cLine) : OpR X (compareOp .Eq) (rEqA X.K) := by
  intro pins s σ H x y v u Q I rx ry h
  rcases h with h | h
  · exact op_eq pins s σ H x y v u Q I rx ry h
  · exact op_eqD hu pins s σ H x y v u Q I rx ry h
def rInTD (K : PySem.W.Frag) : R2 := fun x y H Q => ∃ d ds, Dp K H x d ∧ Dp K H y (.tuple ds) ∧ SeqAt.shaped d = true ∧ SeqAt.shaped (.tuple ds) = true ∧ Q (.bl (ds.any fun z => PyData.eqv z d)) H
def rInA (K : PySem.W.Frag) : R2 := fun x y H Q => rIn K false x y H Q ∨ rInTD K x y H Q
theorem op_inA {X : Cx} (hu : X.A.units + 65 < cLine) : OpR X (compareOp .In) (rInA X.K) := by
  intro pins s σ H x y v u Q I rx ry h
  rcases h with h | ⟨d, ds, hd, he, sd, se, q⟩
  · exact op_in_seq pins s σ H x y v u Q I rx ry h
  · obtain ⟨as, r1⟩ := Dp.reads I d x v hd rx
    obtain ⟨bs, r2⟩ := Dp.reads I (.tuple ds) y u he ry
    exact SeqAt.in_tuple_reads r2 r1 (SeqAt.canLay_of_shaped se) (SeqAt.canLay_of_shaped sd) (room_in_shaped sd hu) ⟨.bl _, H, I, rfl, q⟩
/-- a part of an entry: no text too long; what is nested is of the kind that can be compared -/
def gp : PyData → Bool
  | .none => true
  | .bool _ => true
  | .int _ => true
  | .str z => decide (z.length ≤ 1000)
  | .list ds => SeqAt.shaped (.list ds)
  | .tuple ds => SeqAt.shaped (.tuple ds)
  | .dict _ => false
/-- equal to a text -/
def eqS : PyData → Str → Bool
  | .str z, s => s == z
  | _, _ => false
def inW (d : PyData) (ws : List Str) : Bool := ws.any fun s => eqS d s
theorem dec_str (z s : Str) : decide (V.str z = V.str s) = (s == z) := by
  by_cases h : s = z
  · subst h
    rw [decide_eq_true rfl, beq_self_eq_true]
  · rw [decide_eq_false (fun e => h (V.str.inj e).symm), beq_eq_false_iff_ne.mpr h]
theorem eqA_of {K : PySem.W.Frag} {H : Hp} {v : V} {d : PyData} {s : Str} {Q : VK} (hd : Dp K H v d) (g : gp d = true) (hs : SeqAt.shaped (.str s) = true) (q : Q (.bl (eqS d s)) H) : rEqA K v (.str s) H Q := by
  cases hd with
  | non => exact .inl ⟨rfl, by rw [decide_eq_false (fun h => nomatch h)]; exact q⟩
  | bl b => exact .inl ⟨rfl, by rw [decide_eq_false (fun h => nomatch h)]; exact q⟩
  | int i => exact .inl ⟨rfl, by rw [decide_eq_false (fun h => nomatch h)]; exact q⟩
  | str z => exact .inl ⟨rfl, by rw [dec_str]; exact q⟩
  | lst h a => exact .inr ⟨_, _, .lst h a, .str s, g, hs, q⟩
  | tup h a => exact .inr ⟨_, _, .tup h a, .str s, g, hs, q⟩
theorem dpa_strs {K : PySem.W.Frag} {H : Hp} : ∀ ws : List Str, DpAll K H (ws.map V.str) (ws.map PyData.str)
  | [] => .nil
  | w :: r => .cons (.str w) (dpa_strs r)
theorem flat_strs : ∀ ws : List Str, (ws.map V.str).all flatV = true
  | [] => rfl
  | w :: r => by rw [List.map_cons, List.all_cons, flat_strs r]; rfl
theorem inW_flat {v : V} {d : PyData} (h : ∀ s : Str, eqV (.str s) v = eqS d s) : ∀ ws : List Str, inV v (ws.map V.str) = inW d ws
  | [] => rfl
  | w :: r => by
    have ih := inW_flat h r
    unfold inV inW at ih ⊢
    rw [List.map_cons, List.any_cons, List.any_cons, ih, h w]
theorem inW_deep {d : PyData} (h : ∀ s : Str, PyData.eqv (.str s) d = eqS d s) : ∀ ws : List Str, ((ws.map PyData.str).any fun z => PyData.eqv z d) = inW d ws
  | [] => rfl
  | w :: r => by
    have ih := inW_deep h r
    unfold inW at ih ⊢
    rw [List.map_cons, List.any_cons, List.any_cons, ih, h w]
theorem inA_of {K : PySem.W.Frag} {H : Hp} {v : V} {d : PyData} {p : Addr} {ws : List Str} {Q : VK} (hd : Dp K H v d) (g : gp d = true) (hp : SqT K H p (ws.map V.str)) (hs : SeqAt.shaped (.tuple (ws.map PyData.str)) = true) (q : Q (.bl (inW d ws)) H) : rInA K v (.ref p) H Q := by
  cases hd with
  | non => exact .inl ⟨p, _, rfl, .inr hp, rfl, flat_strs ws, by rw [← inW_flat (v := .non) (d := .none) (fun s => rfl)] at q; exact q⟩
  | bl b => exact .inl ⟨p, _, rfl, .inr hp, rfl, flat_strs ws, by rw [← inW_flat (v := .bl b) (d := .bool b) (fun s => rfl)] at q; exact q⟩
  | int i => exact .inl ⟨p, _, rfl, .inr hp, rfl, flat_strs ws, by rw [← inW_flat (v := .int i) (d := .int i) (fun s => rfl)] at q; exact q⟩
  | str z => exact .inl ⟨p, _, rfl, .inr hp, rfl, flat_strs ws, by rw [← inW_flat (v := .str z) (d := .str z) (fun s => rfl)] at q; exact q⟩
  | lst h a => exact .inr ⟨_, _, .lst h a, .tup hp (dpa_strs ws), g, hs, by rw [inW_deep (fun s => by simp [PyData.eqv, eqS])]; exact q⟩
  | tup h a => exact .inr ⟨_, _, .tup h a, .tup hp (dpa_strs ws), g, hs, by rw [inW_deep (fun s => by simp [PyData.eqv, eqS])]; exact q⟩
theorem th_dp {K : PySem.W.Frag} {H : Hp} {v : V} {d : PyData} (h : Dp K H v d) (g : gp d = true) : Th K H v := by
  cases h with
  | str z => exact .inl ⟨z, rfl, of_decide_eq_true g⟩
  | non => exact .inr ⟨(fun z e => nomatch e), _, .base .non, by decide +kernel⟩
  | bl b => exact .inr ⟨(fun z e => nomatch e), _, .base (.bl b), by decide +kernel⟩
  | int i => exact .inr ⟨(fun z e => nomatch e), _, .base (.int i), by decide +kernel⟩
  | lst h _ => exact .inr ⟨(fun z e => nomatch e), _, ty_lst h, by decide +kernel⟩
  | tup h _ => exact .inr ⟨(fun z e => nomatch e), _, ty_tup h, by decide +kernel⟩
def sgD : PyData → Bool
  | .str z => sgV (.str z)
  | _ => false
theorem sg_dp {K : PySem.W.Frag} {H : Hp} {v : V} {d : PyData} (h : Dp K H v d) : sgV v = sgD d := by
  cases h <;> rfl
/-! ### entries -/
def manyD : PyData → Bool
  | .int i => decide (1 ≤ i) && decide (i ≤ 9)
  | _ => false
abbrev lets : List Str := [PySem.Str.ofString "n", PySem.Str.ofString "e", PySem.Str.ofString "s", PySem.Str.ofString "w"]
def letD (d : PyData) : Bool := inW d lets
abbrev wAlone : List Str := [PySem.Str.ofString "left", PySem.Str.ofString "right", PySem.Str.ofString "back", PySem.Str.ofString "bump", PySem.Str.ofString "bare", PySem.Str.ofString "swap"]
abbrev wFace : List Str := [PySem.Str.ofString "left", PySem.Str.ofString "right", PySem.Str.ofString "back", PySem.Str.ofString "go", PySem.Str.ofString "bump", PySem.Str.ofString "spy"]
def pairD (w p : PyData) : Bool := if eqS w "face" = true then letD p else if eqS w "go" = true then manyD p else eqS w "sign" && sgD p
def entL : List PyData → Bool
  | [a] => inW a wAlone
  | [a, b] => pairD a b
  | [a, b, c] => eqS a "spy" && (manyD b && sgD c)
  | _ => false
def entD (d : PyData) : Bool := match seqD d with
  | some ds => entL ds
  | none => false
/-- a thing in the place of an entry -/
def ge (d : PyData) : Bool := match seqD d with
  | some ds => decide (ds.length ≤ 1000) && ds.all gp
  | none => gp d
--@@SPLIT
/-! ### letters, steps -/
def cd : Fin 4 → Nat
  | 0 => 110
  | 1 => 101
  | 2 => 115
  | 3 => 119
def Lt (l : Fin 4) : Str := ⟨#[cd l]⟩
abbrev nesw : Str := PySem.Str.ofString "nesw"
theorem lt0 : PySem.Str.ofString "n" = Lt 0 := by decide +kernel
theorem lt1 : PySem.Str.ofString "e" = Lt 1 := by decide +kernel
theorem lt2 : PySem.Str.ofString "s" = Lt 2 := by decide +kernel
theorem lt3 : PySem.Str.ofString "w" = Lt 3 := by decide +kernel
theorem ltd : ∀ l m : Fin 4, decide (V.str (Lt l) = V.str (Lt m)) = decide (l = m) := by decide +kernel
theorem occ : ∀ l : Fin 4, Builtin.Str.occurrences nesw (Lt l) 0 nesw.length 1 = [l.val] := by decide +kernel
theorem nesw_len : nesw.length ≤ sizeLine := by decide +kernel
theorem nesw_at : ∀ (i : Nat) (h : i < 4) (c : Nat), nesw.cps[i]? = some c → (⟨#[c]⟩ : Str) = Lt ⟨i, h⟩
  | 0, _, c, e => by cases e; rfl
  | 1, _, c, e => by cases e; rfl
  | 2, _, c, e => by cases e; rfl
  | 3, _, c, e => by cases e; rfl
def dx : Fin 4 → Int
  | 0 => 0
  | 1 => 1
  | 2 => 0
  | 3 => -1
def dy : Fin 4 → Int
  | 0 => 1
  | 1 => 0
  | 2 => -1
  | 3 => 0
theorem dxb : ∀ l : Fin 4, -(2 ^ 64) < dx l ∧ dx l < 2 ^ 64 := by decide +kernel
theorem dyb : ∀ l : Fin 4, -(2 ^ 64) < dy l ∧ dy l < 2 ^ 64 := by decide +kernel
/-! ### lots -/
def tr (a : Fin 8) (l : Fin 4) : Fin 4 := if a.val < 4 then ⟨(a.val + l.val) % 4, by omega⟩ else ⟨(a.val + 4 - l.val) % 4, by omega⟩
def un (a : Fin 8) : Fin 8 := if a.val < 4 then ⟨(4 - a.val) % 4, by omega⟩ else a
def bo (a b : Fin 8) : Fin 8 :=
  let q := if a.val < 4 then (a.val + b.val) % 4 else (a.val + 8 - b.val) % 4
  if (decide (a.val < 4)) = (decide (b.val < 4)) then ⟨q % 4, by omega⟩ else ⟨q % 4 + 4, by omega⟩
theorem at_mir : ∀ (a : Fin 8) (l : Fin 4), (4 : Int) ≤ a.val → atI nesw.cps.toList (((a.val : Int) - (l.val : Int)) % 4) = some (cd (tr a l)) := by decide +kernel
theorem at_tur : ∀ (a : Fin 8) (l : Fin 4), ¬ (4 : Int) ≤ a.val → atI nesw.cps.toList (((a.val : Int) + (l.val : Int)) % 4) = some (cd (tr a l)) := by decide +kernel
theorem un_mir : ∀ a : Fin 8, (4 : Int) ≤ a.val → ((un a).val : Int) = a.val := by decide +kernel
theorem un_tur : ∀ a : Fin 8, ¬ (4 : Int) ≤ a.val → ((un a).val : Int) = (-(a.val : Int)) % 4 := by decide +kernel
theorem bo_1 : ∀ a b : Fin 8, (4 : Int) ≤ a.val → (4 : Int) ≤ b.val → ((bo a b).val : Int) = ((a.val : Int) - b.val) % 4 := by decide +kernel
theorem bo_2 : ∀ a b : Fin 8, (4 : Int) ≤ a.val → ¬ (4 : Int) ≤ b.val → ((bo a b).val : Int) = ((a.val : Int) - b.val) % 4 + 4 := by decide +kernel
theorem bo_3 : ∀ a b : Fin 8, ¬ (4 : Int) ≤ a.val → (4 : Int) ≤ b.val → ((bo a b).val : Int) = ((a.val : Int) + b.val) % 4 + 4 := by decide +kernel
theorem bo_4 : ∀ a b : Fin 8, ¬ (4 : Int) ≤ a.val → ¬ (4 : Int) ≤ b.val → ((bo a b).val : Int) = ((a.val : Int) + b.val) % 4 := by decide +kernel
/-! ### entries that are right -/
inductive Ent where
  | face (l : Fin 4)
  | turn (q : Fin 3)
  | go (n : Fin 9)
  | bump
  | sign (z : Str)
  | bare
  | spy (n : Fin 9) (z : Str)
  | swap
def ws : Fin 10 → Str
  | 0 => PySem.Str.ofString "face"
  | 1 => PySem.Str.ofString "left"
  | 2 => PySem.Str.ofString "right"
  | 3 => PySem.Str.ofString "back"
  | 4 => PySem.Str.ofString "go"
  | 5 => PySem.Str.ofString "bump"
  | 6 => PySem.Str.ofString "sign"
  | 7 => PySem.Str.ofString "bare"
  | 8 => PySem.Str.ofString "spy"
  | 9 => PySem.Str.ofString "swap"
theorem wsd : ∀ i j : Fin 10, decide (V.str (ws i) = V.str (ws j)) = decide (i = j) := by decide +kernel
theorem ws_ok : ∀ i : Fin 10, PyData.strOk (ws i) = true ∧ (ws i).length ≤ 12 := by decide +kernel
namespace Ent
def kind : Ent → Fin 10
  | face _ => 0
  | turn q => ⟨q.val + 1, by omega⟩
  | go _ => 4
  | bump => 5
  | sign _ => 6
  | bare => 7
  | spy _ _ => 8
  | swap => 9
def rest : Ent → List PyData
  | face l => [.str (Lt l)]
  | go n => [.int ((n.val : Int) + 1)]
  | sign z => [.str z]
  | spy n z => [.int ((n.val : Int) + 1), .str z]
  | _ => []
def parts (e : Ent) : List PyData := .str (ws e.kind) :: e.rest
def tup (e : Ent) : PyData := .tuple e.parts
def lst (e : Ent) : PyData := .list e.parts
def need : Ent → Bool
  | turn _ => true
  | go _ => true
  | bump => true
  | spy _ _ => true
  | _ => false
def isFace : Ent → Bool
  | face _ => true
  | _ => false
def isSwap : Ent → Bool
  | swap => true
  | _ => false
def sgS (z : Str) : Bool := nmL z.cps.toList || loL z.cps.toList
def ok : Ent → Prop
  | sign z => z.length ≤ 12 ∧ PyData.strOk z = true ∧ sgS z = true
  | spy _ z => z.length ≤ 12 ∧ PyData.strOk z = true ∧ sgS z = true
  | _ => True
theorem face_iff (e : Ent) : e.isFace = decide (e.kind = 0) := by
  cases e with
  | turn q => match q with
    | 0 => rfl
    | 1 => rfl
    | 2 => rfl
  | _ => rfl
theorem swap_iff (e : Ent) : e.isSwap = decide (e.kind = 9) := by
  cases e with
  | turn q => match q with
    | 0 => rfl
    | 1 => rfl
    | 2 => rfl
  | _ => rfl
end Ent
/-- what comes ahead has a face where one is needed -/
def Right (es : List Ent) : Prop := ∀ (i : Nat) (e : Ent), es[i]? = some e → e.need = true → (es.take i).any Ent.isFace = true
theorem Right.nil : Right [] := fun i e h => by cases h
theorem Right.snoc {es : List Ent} {e : Ent} (h : Right es) (he : e.need = true → es.any Ent.isFace = true) : Right (es ++ [e]) := fun i x hx hn => by
  by_cases hi : i < es.length
  · rw [List.getElem?_append_left hi] at hx
    rw [List.take_append_of_le_length (Nat.le_of_lt hi)]
    exact h i x hx hn
  · have hl := (List.getElem?_eq_some_iff.mp hx).1
    rw [List.length_append] at hl
    have : i = es.length := by
      have : [e].length = 1 := rfl
      omega
    rw [this, List.getElem?_append_right (Nat.le_refl _), Nat.sub_self] at hx
    cases hx
    rw [this, List.take_left]
    exact he hn
def swaps (es : List Ent) : Nat := (es.filter Ent.isSwap).length
theorem swaps_snoc (es : List Ent) (e : Ent) : swaps (es ++ [e]) = swaps es + (if e.isSwap = true then 1 else 0) := by
  unfold swaps
  rw [List.filter_append, List.length_append, List.filter_cons, List.filter_nil]
  split <;> rfl
theorem swaps_le (es : List Ent) : swaps es ≤ es.length := List.length_filter_le _ _
/-! ### where a walker stands -/
structure Wk where
  leg : Nat
  x : Int
  y : Int
  look : Option (Fin 4)
def W0 : Wk := ⟨0, 0, 0, none⟩
def tq : Fin 3 → Fin 4
  | 0 => 3
  | 1 => 1
  | 2 => 2
def nlook (a : Fin 8) (look : Option (Fin 4)) : Ent → Option (Fin 4)
  | .face l => some (tr a l)
  | .turn q => look.map (fun l => l + tq q)
  | _ => look
def nx (p : Int) (look : Option (Fin 4)) : Ent → Int
  | .go n => match look with
    | some l => p + ((n.val : Int) + 1) * dx l
    | none => p
  | _ => p
def ny (p : Int) (look : Option (Fin 4)) : Ent → Int
  | .go n => match look with
    | some l => p + ((n.val : Int) + 1) * dy l
    | none => p
  | _ => p
def nleg (n : Nat) (e : Ent) : Nat := if e.isSwap = true then n + 1 else n
def next (lots : List (Fin 8)) (p : Wk) (e : Ent) : Wk := ⟨nleg p.leg e, nx p.x p.look e, ny p.y p.look e, nlook (lots.getD (nleg p.leg e) 0) p.look e⟩
@[irreducible] def wat (lots : List (Fin 8)) (es : List Ent) (i : Nat) : Wk := (es.take i).foldl (next lots) W0
theorem wat_zero (lots : List (Fin 8)) (es : List Ent) : wat lots es 0 = W0 := by
  unfold wat
  rfl
theorem wat_succ {lots : List (Fin 8)} {es : List Ent} {i : Nat} {e : Ent} (h : es[i]? = some e) : wat lots es (i + 1) = next lots (wat lots es i) e := by
  unfold wat
  rw [List.take_add_one, h, List.foldl_append]
  rfl
theorem wat_look (lots : List (Fin 8)) (es : List Ent) : ∀ i, (wat lots es i).look.isSome = (es.take i).any Ent.isFace
  | 0 => by rw [wat_zero]; rfl
  | i + 1 => by
    by_cases hi : i < es.length
    · have h : es[i]? = some es[i] := List.getElem?_eq_getElem hi
      rw [wat_succ h, List.take_add_one, h, List.any_append, ← wat_look lots es i]
      show (nlook _ (wat lots es i).look es[i]).isSome = ((wat lots es i).look.isSome || (es[i].isFace || false))
      cases es[i] with
      | face l => cases (wat lots es i).look <;> rfl
      | turn q => cases (wat lots es i).look <;> rfl
      | _ => cases (wat lots es i).look <;> rfl
    · have e1 : es.take (i + 1) = es.take i := by rw [List.take_of_length_le (by omega), List.take_of_length_le (by omega)]
      have := wat_look lots es i
      unfold wat at this ⊢
      rw [e1]
      exact this
theorem wat_leg (lots : List (Fin 8)) (es : List Ent) : ∀ i, (wat lots es i).leg = swaps (es.take i)
  | 0 => by rw [wat_zero]; rfl
  | i + 1 => by
    by_cases hi : i < es.length
    · have h : es[i]? = some es[i] := List.getElem?_eq_getElem hi
      rw [wat_succ h, List.take_add_one, h]
      show nleg (wat lots es i).leg es[i] = swaps (es.take i ++ [es[i]])
      rw [swaps_snoc, wat_leg lots es i]
      unfold nleg
      split <;> rfl
    · have e1 : es.take (i + 1) = es.take i := by rw [List.take_of_length_le (by omega), List.take_of_length_le (by omega)]
      have := wat_leg lots es i
      unfold wat at this ⊢
      rw [e1]
      exact this
theorem swaps_take (es : List Ent) (i : Nat) : swaps (es.take i) ≤ swaps es := by
  unfold swaps
  exact List.Sublist.length_le ((List.take_sublist i es).filter _)
def lk : Option (Fin 4) → Str
  | some l => Lt l
  | none => PySem.Str.ofString ""
def plD (p : Wk) : PyData := .tuple [.int p.x, .int p.y]
def posD (p : Wk) : PyData := .tuple [plD p, .str (lk p.look)]
def trackL (lots : List (Fin 8)) (es : List Ent) (n : Nat) : List PyData := (List.range n).map fun i => posD (wat lots es (i + 1))
theorem trackL_succ (lots : List (Fin 8)) (es : List Ent) (n : Nat) : trackL lots es (n + 1) = trackL lots es n ++ [posD (wat lots es (n + 1))] := by
  unfold trackL
  rw [List.range_succ, List.map_append]
  rfl
def trackD (lots : List (Fin 8)) (es : List Ent) : PyData := .tuple (trackL lots es es.length)
/-- rows of entries, each a list or a tuple -/
def Rows (K : PySem.W.Frag) (H : Hp) (xs : List V) (es : List Ent) : Prop := ∃ ds, DpAll K H xs ds ∧ ds.map seqD = es.map fun e => some e.parts
theorem Rows.same {K : PySem.W.Frag} {H H' : Hp} {xs : List V} {es : List Ent} (h : Rows K H xs es) (s : Same H H') : Rows K H' xs es := by
  obtain ⟨ds, h1, h2⟩ := h
  exact ⟨ds, dpa_same s _ _ h1, h2⟩
theorem Rows.len {K : PySem.W.Frag} {H : Hp} {xs : List V} {es : List Ent} (h : Rows K H xs es) : xs.length = es.length := by
  obtain ⟨ds, h1, h2⟩ := h
  have := congrArg List.length h2
  rw [List.length_map, List.length_map] at this
  rw [dpa_len ds xs h1, this]
/-- one entry, a list or a tuple -/
def EntAt (K : PySem.W.Frag) (H : Hp) (v : V) (e : Ent) : Prop := ∃ a xs, v = .ref a ∧ SqA K H a (.str (ws e.kind) :: xs) ∧ DpAll K H xs e.rest
theorem ent_at {K : PySem.W.Frag} {H : Hp} {v : V} {d : PyData} {e : Ent} (h : Dp K H v d) (hs : seqD d = some e.parts) : EntAt K H v e := by
  obtain ⟨a, xs, rfl, hq, ha⟩ := seq_dp h hs
  cases ha with
  | cons h1 h2 =>
    cases h1
    exact ⟨a, _, rfl, hq, h2⟩
theorem EntAt.same {K : PySem.W.Frag} {H H' : Hp} {v : V} {e : Ent} (h : EntAt K H v e) (s : Same H H') : EntAt K H' v e := by
  obtain ⟨a, xs, h1, h2, h3⟩ := h
  exact ⟨a, xs, h1, h2.elim (fun h => .inl (s.seq h)) (fun h => .inr (sqt_same s h)), dpa_same s _ _ h3⟩
theorem Rows.at_ {K : PySem.W.Frag} {H : Hp} {xs : List V} {es : List Ent} (h : Rows K H xs es) {i : Nat} {v : V} (hv : xs[i]? = some v) : ∃ e, es[i]? = some e ∧ EntAt K H v e := by
  obtain ⟨ds, h1, h2⟩ := h
  obtain ⟨d, fd, gd⟩ := dpa_at ds xs h1 i v hv
  have e1 : (ds.map seqD)[i]? = some (seqD d) := by rw [List.getElem?_map, fd]; rfl
  rw [h2, List.getElem?_map] at e1
  cases e2 : es[i]? with
  | none => rw [e2] at e1; cases e1
  | some e =>
    rw [e2] at e1
    exact ⟨e, rfl, ent_at gd (Option.some.inj e1).symm⟩
theorem rows_tup {K : PySem.W.Frag} {H : Hp} {xs : List V} {es : List Ent} (h : DpAll K H xs (es.map Ent.tup)) : Rows K H xs es := ⟨_, h, by rw [List.map_map]; rfl⟩
def lotD : PyData → Bool
  | .int i => decide (0 ≤ i) && decide (i ≤ 7)
  | _ => false
def whD : PyData → Bool
  | .int _ => true
  | _ => false
def spWholeD (K : PySem.W.Frag) : Sp := fun vs H Q _ => ∃ (v : V) (d : PyData), vs = [v] ∧ Dp K H v d ∧ Q (.bl (whD d)) H
def spIsLotD (K : PySem.W.Frag) : Sp := fun vs H Q _ => ∃ (v : V) (d : PyData), vs = [v] ∧ Dp K H v d ∧ Q (.bl (lotD d)) H
theorem ok_is_wholeD (T : Top w K mg) : FnOk P w K mg base CX0 1 T.a_is_whole T.fd_is_whole ["thing"] (spWholeD K) := by
  refine T.F_is_whole.ok sc_is_whole (fun vs H Q E h => ?_) (fun cdv A outer s H vs Q E hr h => ?_)
  · obtain ⟨v, d, rfl, _⟩ := h
    rfl
  · obtain ⟨v, d, rfl, hd, q⟩ := h
    refine ⟨_, (pss_one (ps_ret (pe_and (pe_callB call_isi (by rfl) T.m_isinstance (by decide +kernel) (pa_cons (pv 0) (pa_cons (pe_bltn (v := .ty "int") (by rfl) T.m_int (by decide +kernel) rfl) pa_nil))) (pe_one (pe_not (pe_callB call_isi (by rfl) T.m_isinstance (by decide +kernel) (pa_cons (pv 0) (pa_cons (pe_bltn (v := .ty "bool") (by rfl) T.m_bool (by decide +kernel) rfl) pa_nil)))))))), ?_⟩
    cases hd with
    | non => exact ⟨.non, rfl, _, _, _, _, false, rfl, .ty _, .base .non, kit_ty (by decide +kernel), _, rfl, iteF q⟩
    | bl b => exact ⟨.bl b, rfl, _, _, _, _, true, rfl, .ty _, .base (.bl b), kit_ty (by decide +kernel), _, rfl, iteT ⟨.bl b, rfl, _, _, _, _, true, rfl, .ty _, .base (.bl b), kit_ty (by decide +kernel), _, rfl, q⟩⟩
    | int i => exact ⟨.int i, rfl, _, _, _, _, true, rfl, .ty _, .base (.int i), kit_ty (by decide +kernel), _, rfl, iteT ⟨.int i, rfl, _, _, _, _, false, rfl, .ty _, .base (.int i), kit_ty (by decide +kernel), _, rfl, q⟩⟩
    | str z => exact ⟨.str z, rfl, _, _, _, _, false, rfl, .ty _, .base (.str z), kit_ty (by decide +kernel), _, rfl, iteF q⟩
    | lst h _ => exact ⟨_, rfl, _, _, _, _, false, rfl, .ty _, ty_lst h, kit_ty (by decide +kernel), _, rfl, iteF q⟩
    | tup h _ => exact ⟨_, rfl, _, _, _, _, false, rfl, .ty _, ty_tup h, kit_ty (by decide +kernel), _, rfl, iteF q⟩
theorem ok_is_lotD (T : Top w K mg) : FnOk P w K mg base CX0 2 T.a_is_lot T.fd_is_lot ["thing"] (spIsLotD K) := by
  have G_is_whole := ok_is_wholeD (P := P) (w := w) (base := base) T
  refine T.F_is_lot.ok sc_is_lot (fun vs H Q E h => ?_) (fun cdv A outer s H vs Q E hr h => ?_)
  · obtain ⟨v, d, rfl, _⟩ := h
    rfl
  · obtain ⟨v, d, rfl, hd, q⟩ := h
    refine ⟨_, (pss_one (ps_ret (pe_and (pe_call G_is_whole hr (by rfl) T.g_is_whole T.F_is_whole.kp T.b_is_whole .nil pass0 (pa_cons (pv 0) pa_nil)) (pe_one (pe_chain op_le op_le pe_int (pv 0) pe_int))))), ?_⟩
    refine ⟨v, rfl, v, d, rfl, hd, _, rfl, ?_⟩
    cases hd with
    | int i =>
      refine iteT ⟨.int i, rfl, _, _, rfl, rfl, _, rfl, ite2 (fun e => ?_) (fun e => ?_)⟩
      · refine ⟨_, _, rfl, rfl, ?_⟩
        have e2 : lotD (.int i) = decide (i ≤ 7) := by
          show (decide (0 ≤ i) && decide (i ≤ 7)) = _
          rw [e]
          rfl
        rw [e2] at q
        exact q
      · have e2 : lotD (.int i) = false := by
          show (decide (0 ≤ i) && decide (i ≤ 7)) = _
          rw [Bool.eq_false_iff.mpr e]
          rfl
        rw [e2] at q
        exact q
    | non => exact iteF q
    | bl b => exact iteF q
    | str z => exact iteF q
    | lst h _ => exact iteF q
    | tup h _ => exact iteF q
/-! ### the program's reading of an entry -/
def Keys : List DictEntry → List Str → Prop
  | [], [] => True
  | e :: r, k :: ks => (∃ t, e.key = .str k t) ∧ Keys r ks
  | _, _ => False
theorem find_keys (z : Str) : ∀ (l : List DictEntry) (ks : List Str), Keys l ks → (l.find? (·.key.isStr z)).isSome = (ks.any fun s => s == z) ∧ l.any (·.refKey) = false
  | [], [], _ => ⟨rfl, rfl⟩
  | e :: r, k :: ks, h => by
    obtain ⟨⟨t, hk⟩, hr⟩ := h
    obtain ⟨i1, i2⟩ := find_keys z r ks hr
    have e1 : e.key.isStr z = (k == z) := by rw [hk]; rfl
    have e2 : e.refKey = false := by unfold DictEntry.refKey; rw [hk]
    constructor
    · rw [List.find?_cons, e1, List.any_cons]
      cases k == z with
      | true => rfl
      | false => exact i1
    · rw [List.any_cons, e2, i2]
      rfl
  | [], _ :: _, h => h.elim
  | _ :: _, [], h => h.elim
theorem ns_keys {K : PySem.W.Frag} {a : Addr} {es : Array DictEntry} {n : Nat} {ks : List Str} (h : K.lookup a = some ⟨.type "dict", none, .dict es n, #[]⟩) (hk : Keys es.toList ks) (z : Str) : ∃ r, PySem.W.nsIn K a z = some r ∧ r.isSome = (ks.any fun s => s == z) := by
  obtain ⟨i1, i2⟩ := find_keys z es.toList ks hk
  unfold PySem.W.nsIn
  rw [h]
  cases e : es.toList.find? (·.key.isStr z) with
  | some x =>
    rw [e] at i1
    refine ⟨some x.val, ?_, i1⟩
    simp only [e]
  | none =>
    rw [e] at i1
    refine ⟨none, ?_, i1⟩
    simp only [e, i2]
    rfl
def spPart (K : PySem.W.Frag) (f : PyData → Bool) : Sp := fun vs H Q _ => ∃ (v : V) (d : PyData), vs = [v] ∧ gp d = true ∧ Dp K H v d ∧ ∀ H', Same H H' → Q (.bl (f d)) H'
theorem ok_is_letter (T : Top w K mg) : FnOk P w K mg base CX0 1 T.a_is_letter T.fd_is_letter ["thing"] (spPart K letD) := by
  refine T.F_is_letter.ok sc_is_letter (fun vs H Q E h => ?_) (fun cdv A outer s H vs Q E hr h => ?_)
  · obtain ⟨v, d, rfl, _⟩ := h
    rfl
  · obtain ⟨v, d, rfl, g, hd, q⟩ := h
    refine ⟨_, (pss_one (ps_ret (pe_and (pe_callB call_isi (by rfl) T.m_isinstance (by decide +kernel) (pa_cons (pv 0) (pa_cons (pe_bltn (v := .ty "str") (by rfl) T.m_str (by decide +kernel) rfl) pa_nil))) (pe_one (pe_cmpR (op_in_kd T.kd_STEPS) (pv 0) (pe_glob (v := .ref T.a_STEPS) (by rfl) T.g_STEPS rfl) (by rfl)))))), ?_⟩
    refine ⟨v, rfl, _, _, _, _, _, rfl, .ty _, ty_dp hd, kit_ty (kit_str d), _, rfl, ?_⟩
    have q := q H (Same.refl H)
    cases hd with
    | str z =>
      obtain ⟨r, h1, h2⟩ := T.ns_STEPS z
      refine iteT ⟨.str z, rfl, z, r, rfl, rfl, h1, ?_⟩
      rw [h2]
      exact q
    | non => exact iteF q
    | bl b => exact iteF q
    | int i => exact iteF q
    | lst h _ => exact iteF q
    | tup h _ => exact iteF q
theorem ok_is_many (T : Top w K mg) : FnOk P w K mg base CX0 2 T.a_is_many T.fd_is_many ["thing"] (spPart K manyD) := by
  have G_is_whole := ok_is_wholeD (P := P) (w := w) (base := base) T
  refine T.F_is_many.ok sc_is_many (fun vs H Q E h => ?_) (fun cdv A outer s H vs Q E hr h => ?_)
  · obtain ⟨v, d, rfl, _⟩ := h
    rfl
  · obtain ⟨v, d, rfl, g, hd, q⟩ := h
    refine ⟨_, (pss_one (ps_ret (pe_and (pe_call G_is_whole hr (by rfl) T.g_is_whole T.F_is_whole.kp T.b_is_whole .nil pass0 (pa_cons (pv 0) pa_nil)) (pe_one (pe_chain op_le op_le pe_int (pv 0) pe_int))))), ?_⟩
    refine ⟨v, rfl, v, d, rfl, hd, _, rfl, ?_⟩
    have q := q H (Same.refl H)
    cases hd with
    | int i =>
      refine iteT ⟨.int i, rfl, _, _, rfl, rfl, _, rfl, ite2 (fun e => ?_) (fun e => ?_)⟩
      · refine ⟨_, _, rfl, rfl, ?_⟩
        have e2 : manyD (.int i) = decide (i ≤ 9) := by
          show (decide (1 ≤ i) && decide (i ≤ 9)) = _
          rw [e]
          rfl
        rw [e2] at q
        exact q
      · have e2 : manyD (.int i) = false := by
          show (decide (1 ≤ i) && decide (i ≤ 9)) = _
          rw [Bool.eq_false_iff.mpr e]
          rfl
        rw [e2] at q
        exact q
    | non => exact iteF q
    | bl b => exact iteF q
    | str z => exact iteF q
    | lst h _ => exact iteF q
    | tup h _ => exact iteF q
def spPair (K : PySem.W.Frag) : Sp := fun vs H Q _ => ∃ (v u : V) (d c : PyData), vs = [v, u] ∧ gp d = true ∧ gp c = true ∧ Dp K H v d ∧ Dp K H u c ∧ ∀ H', Same H H' → Q (.bl (pairD d c)) H'
theorem ok_is_pair_entry (T : Top w K mg) : FnOk P w K mg base CX0 4 T.a_is_pair_entry T.fd_is_pair_entry ["word", "part"] (spPair K) := by
  have G_is_letter := ok_is_letter (P := P) (w := w) (base := base) T
  have G_is_many := ok_is_many (P := P) (w := w) (base := base) T
  have G_is_sign := ok_is_sign (P := P) (w := w) (base := base) T
  refine T.F_is_pair_entry.ok sc_is_pair_entry (fun vs H Q E h => ?_) (fun cdv A outer s H vs Q E hr h => ?_)
  · obtain ⟨v, u, d, c, rfl, _⟩ := h
    rfl
  · obtain ⟨v, u, d, c, rfl, gd, gc, hd, hc, q⟩ := h
    refine ⟨_, (pss_cons (ps_if (pt_cmpR (op_eqA hr.units) (pv 0) pe_str (nomark _)) (pss_one (ps_ret (pe_call G_is_letter (hr.mono (by decide)) (by rfl) T.g_is_letter T.F_is_letter.kp T.b_is_letter .nil pass0 (pa_cons (pv 1) pa_nil)))) pss_nil)
      (pss_cons (ps_if (pt_cmpR (op_eqA hr.units) (pv 0) pe_str (nomark _)) (pss_one (ps_ret (pe_call G_is_many (hr.mono (by decide)) (by rfl) T.g_is_many T.F_is_many.kp T.b_is_many .nil pass0 (pa_cons (pv 1) pa_nil)))) pss_nil)
      (pss_one (ps_ret (pe_and (pe_cmpR (op_eqA hr.units) (pv 0) pe_str (nomark _)) (pe_one (pe_call G_is_sign hr (by rfl) T.g_is_sign T.F_is_sign.kp T.b_is_sign .nil pass0 (pa_cons (pv 1) pa_nil)))))))), ?_⟩
    refine ⟨v, rfl, eqA_of hd gd (by decide +kernel) ⟨_, rfl, ite2 (fun e1 => ?_) (fun e1 => ?_)⟩⟩
    · rw [show pairD d c = letD c from if_pos e1] at q
      exact ⟨u, rfl, u, c, rfl, gc, hc, q⟩
    refine ⟨v, rfl, eqA_of hd gd (by decide +kernel) ⟨_, rfl, ite2 (fun e2 => ?_) (fun e2 => ?_)⟩⟩
    · rw [show pairD d c = manyD c by unfold pairD; rw [if_neg e1, if_pos e2]] at q
      exact ⟨u, rfl, u, c, rfl, gc, hc, q⟩
    rw [show pairD d c = (eqS d "sign" && sgD c) by unfold pairD; rw [if_neg e1, if_neg e2]] at q
    refine ⟨v, rfl, eqA_of hd gd (by decide +kernel) ⟨_, rfl, ite2 (fun e3 => ?_) (fun e3 => ?_)⟩⟩
    · rw [e3] at q
      refine ⟨u, rfl, u, rfl, th_dp hc gc, fun H' sm => ?_⟩
      rw [sg_dp hc]
      exact q H' sm
    · rw [Bool.eq_false_iff.mpr e3] at q
      exact q H (Same.refl H)
theorem ge_parts {d : PyData} {ds : List PyData} (h : ge d = true) (e : seqD d = some ds) : ds.length ≤ 1000 ∧ ∀ x ∈ ds, gp x = true := by
  unfold ge at h
  rw [e] at h
  obtain ⟨h1, h2⟩ := Bool.and_eq_true_iff.mp h
  exact ⟨of_decide_eq_true h1, List.all_eq_true.mp h2⟩
/-- the parts of a list or tuple, whichever it is -/
theorem len1 {α : Type} : ∀ l : List α, l.length = 1 → ∃ a, l = [a]
  | [a], _ => ⟨a, rfl⟩
  | [], h => by cases h
  | _ :: _ :: _, h => by simp at h
theorem len2 {α : Type} : ∀ l : List α, l.length = 2 → ∃ a b, l = [a, b]
  | [a, b], _ => ⟨a, b, rfl⟩
  | [], h => by cases h
  | [_], h => by simp at h
  | _ :: _ :: _ :: _, h => by simp at h
theorem len3 {α : Type} : ∀ l : List α, l.length = 3 → ∃ a b c, l = [a, b, c]
  | [a, b, c], _ => ⟨a, b, c, rfl⟩
  | [], h => by cases h
  | [_], h => by simp at h
  | [_, _], h => by simp at h
  | _ :: _ :: _ :: _ :: _, h => by simp at h
theorem ent_else : ∀ ds : List PyData, ¬ ds.length = 1 → ¬ ds.length = 2 → ¬ ds.length = 3 → entL ds = false
  | [], _, _, _ => rfl
  | [_], h, _, _ => absurd rfl h
  | [_, _], _, h, _ => absurd rfl h
  | [_, _, _], _, _, h => absurd rfl h
  | _ :: _ :: _ :: _ :: _, _, _, _ => rfl
theorem dpa1 {K : PySem.W.Frag} {H : Hp} {xs : List V} {a : PyData} (h : DpAll K H xs [a]) : ∃ x, xs = [x] ∧ Dp K H x a := by
  cases h with
  | cons h1 h2 => cases h2; exact ⟨_, rfl, h1⟩
theorem dpa2 {K : PySem.W.Frag} {H : Hp} {xs : List V} {a b : PyData} (h : DpAll K H xs [a, b]) : ∃ x y, xs = [x, y] ∧ Dp K H x a ∧ Dp K H y b := by
  cases h with
  | cons h1 h2 =>
    obtain ⟨y, rfl, h3⟩ := dpa1 h2
    exact ⟨_, y, rfl, h1, h3⟩
theorem dpa3 {K : PySem.W.Frag} {H : Hp} {xs : List V} {a b c : PyData} (h : DpAll K H xs [a, b, c]) : ∃ x y z, xs = [x, y, z] ∧ Dp K H x a ∧ Dp K H y b ∧ Dp K H z c := by
  cases h with
  | cons h1 h2 =>
    obtain ⟨y, z, rfl, h3, h4⟩ := dpa2 h2
    exact ⟨_, y, z, rfl, h1, h3, h4⟩
def spEntry (K : PySem.W.Frag) : Sp := fun vs H Q _ => ∃ (v : V) (d : PyData), vs = [v] ∧ ge d = true ∧ Dp K H v d ∧ ∀ H', Same H H' → Q (.bl (entD d)) H'
theorem ok_is_entry (T : Top w K mg) : FnOk P w K mg base CX0 5 T.a_is_entry T.fd_is_entry ["thing"] (spEntry K) := by
  have G_is_pair_entry := ok_is_pair_entry (P := P) (w := w) (base := base) T
  have G_is_many := ok_is_many (P := P) (w := w) (base := base) T
  have G_is_sign := ok_is_sign (P := P) (w := w) (base := base) T
  refine T.F_is_entry.ok sc_is_entry (fun vs H Q E h => ?_) (fun cdv A outer s H vs Q E hr h => ?_)
  · obtain ⟨v, d, rfl, _⟩ := h
    rfl
  · obtain ⟨v, d, rfl, g, hd, q⟩ := h
    refine ⟨_, (pss_cons (ps_if (pt_not (pt_val (pe_callB call_isiT (by rfl) T.m_isinstance (by decide +kernel) (pa_cons (pv 0) (pa_cons (pe_tup (pa_cons (pe_bltn (v := .ty "tuple") (by rfl) T.m_tuple (by decide +kernel) rfl) (pa_cons (pe_bltn (v := .ty "list") (by rfl) T.m_list (by decide +kernel) rfl) pa_nil))) pa_nil))))) (pss_one (ps_ret pe_bl)) pss_nil)
      (pss_cons (ps_if (pt_cmpR op_eq (pe_callB call_len_seq (by rfl) T.m_len (by decide +kernel) (pa_cons (pv 0) pa_nil)) pe_int (nomark _)) (pss_one (ps_ret (pe_cmpR (op_inA (units65 hr)) (pe_ix ix_seq (pv 0) pe_int (fun _ _ => rfl)) (pe_glob (v := .ref T.a_WORDS_ALONE) (by rfl) T.g_WORDS_ALONE rfl) (by rfl)))) pss_nil)
      (pss_cons (ps_if (pt_cmpR op_eq (pe_callB call_len_seq (by rfl) T.m_len (by decide +kernel) (pa_cons (pv 0) pa_nil)) pe_int (nomark _)) (pss_one (ps_ret (pe_call G_is_pair_entry hr (by rfl) T.g_is_pair_entry T.F_is_pair_entry.kp T.b_is_pair_entry .nil pass0 (pa_cons (pe_ix ix_seq (pv 0) pe_int (fun _ _ => rfl)) (pa_cons (pe_ix ix_seq (pv 0) pe_int (fun _ _ => rfl)) pa_nil))))) pss_nil)
      (pss_one (ps_ret (pe_and (pe_cmpR op_eq (pe_callB call_len_seq (by rfl) T.m_len (by decide +kernel) (pa_cons (pv 0) pa_nil)) pe_int (nomark _)) (pe_and (pe_cmpR (op_eqA hr.units) (pe_ix ix_seq (pv 0) pe_int (fun _ _ => rfl)) pe_str (nomark _)) (pe_and (pe_call G_is_many (hr.mono (by decide)) (by rfl) T.g_is_many T.F_is_many.kp T.b_is_many .nil pass0 (pa_cons (pe_ix ix_seq (pv 0) pe_int (fun _ _ => rfl)) pa_nil)) (pe_one (pe_call G_is_sign (hr.mono (by decide)) (by rfl) T.g_is_sign T.F_is_sign.kp T.b_is_sign .nil pass0 (pa_cons (pe_ix ix_seq (pv 0) pe_int (fun _ _ => rfl)) pa_nil))))))))))), ?_⟩
    obtain ⟨x, y, k1, k2, exy⟩ := kit_seq d
    refine ⟨v, rfl, by show 2 ≤ sizeLine; decide, fun tp np => ⟨v, tp, _, _, _, _, rfl, upd_same, .cons (.ty _) (.cons (.ty _) .nil), ty_dp (dp_same (same_upd np) d v hd), kit_any2 k1 k2, _, rfl, ?_⟩⟩
    rw [exy]
    have s0 := same_upd (o := .tup [.ty "tuple", .ty "list"]) np
    have hd0 := dp_same s0 d v hd
    cases e : seqD d with
    | none =>
      rw [show entD d = false by unfold entD; rw [e]] at q
      exact iteT (q _ s0)
    | some ds =>
      rw [show entD d = entL ds by unfold entD; rw [e]] at q
      refine iteF ?_
      obtain ⟨hlen, hgp⟩ := ge_parts g e
      obtain ⟨a, xs, rfl, hs, ha⟩ := seq_dp hd0 e
      have lx := dpa_len ds xs ha
      refine ⟨.ref a, rfl, a, xs, rfl, hs, rfl, _, rfl, ?_⟩
      by_cases n1 : ds.length = 1
      · obtain ⟨d1, rfl⟩ := len1 ds n1
        obtain ⟨x1, rfl, h1⟩ := dpa1 ha
        · refine iteDY (decide_eq_true rfl) ⟨.ref a, rfl, ixA (j := 0) hs rfl (inA_of (ws := wAlone) h1 (hgp d1 (by simp)) (T.v_WORDS_ALONE _) (by decide +kernel) (q _ s0))⟩
      refine iteDN (decide_eq_false (fun z => n1 (by have := V.int.inj z; omega))) ?_
      refine ⟨.ref a, rfl, a, xs, rfl, hs, rfl, _, rfl, ?_⟩
      by_cases n2 : ds.length = 2
      · obtain ⟨d1, d2, rfl⟩ := len2 ds n2
        obtain ⟨x1, x2, rfl, h1, h2⟩ := dpa2 ha
        · refine iteDY (decide_eq_true rfl) ⟨.ref a, rfl, ixA (j := 0) hs rfl ⟨.ref a, rfl, ixA (j := 1) hs rfl ⟨x1, x2, d1, d2, rfl, hgp d1 (by simp), hgp d2 (by simp), h1, h2, fun H' sm => q _ (s0.trans sm)⟩⟩⟩
      refine iteDN (decide_eq_false (fun z => n2 (by have := V.int.inj z; omega))) ?_
      refine ⟨.ref a, rfl, a, xs, rfl, hs, rfl, _, rfl, ?_⟩
      by_cases n3 : ds.length = 3
      · obtain ⟨d1, d2, d3, rfl⟩ := len3 ds n3
        obtain ⟨x1, x2, x3, rfl, h1, h2, h3⟩ := dpa3 ha
        · have q : ∀ H', Same H H' → Q (.bl (eqS d1 "spy" && (manyD d2 && sgD d3))) H' := q
          refine iteDY (decide_eq_true rfl) ⟨.ref a, rfl, ixA (j := 0) hs rfl (eqA_of h1 (hgp d1 (by simp)) (by decide +kernel) ⟨_, rfl, ite2 (fun e1 => ?_) (fun e1 => ?_)⟩)⟩
          · rw [e1] at q
            refine ⟨.ref a, rfl, ixA (j := 1) hs rfl ⟨x2, d2, rfl, hgp d2 (by simp), h2, fun H2 s2 => ⟨_, rfl, ite2 (fun e2 => ?_) (fun e2 => ?_)⟩⟩⟩
            · rw [e2] at q
              refine ⟨.ref a, rfl, ixA (j := 2) (hs.same s2) rfl ⟨x3, rfl, th_dp (dp_same s2 _ _ h3) (hgp d3 (by simp)), fun H3 s3 => ?_⟩⟩
              rw [sg_dp h3]
              exact q _ ((s0.trans s2).trans s3)
            · rw [Bool.eq_false_iff.mpr e2] at q
              exact q _ (s0.trans s2)
          · rw [Bool.eq_false_iff.mpr e1] at q
            exact q _ s0
      refine iteDN (decide_eq_false (fun z => n3 (by have := V.int.inj z; omega))) ?_
      rw [ent_else ds n1 n2 n3] at q
      exact q _ s0
theorem many_fin : ∀ n : Fin 9, manyD (.int ((n.val : Int) + 1)) = true := by decide
theorem let_fin : ∀ l : Fin 4, letD (.str (Lt l)) = true := by decide +kernel
theorem ent_L {e : Ent} (h : e.ok) : entL e.parts = true := by
  cases e with
  | face l =>
    show pairD (.str (ws 0)) (.str (Lt l)) = true
    unfold pairD
    rw [if_pos (by decide +kernel)]
    exact let_fin l
  | go n =>
    show pairD (.str (ws 4)) (.int ((n.val : Int) + 1)) = true
    unfold pairD
    rw [if_neg (by decide +kernel), if_pos (by decide +kernel)]
    exact many_fin n
  | sign z =>
    show pairD (.str (ws 6)) (.str z) = true
    unfold pairD
    rw [if_neg (by decide +kernel), if_neg (by decide +kernel)]
    show (eqS (.str (ws 6)) "sign" && Ent.sgS z) = true
    rw [h.2.2, show eqS (.str (ws 6)) "sign" = true by decide +kernel]
    rfl
  | spy n z =>
    show (eqS (.str (ws 8)) "spy" && (manyD (.int ((n.val : Int) + 1)) && Ent.sgS z)) = true
    rw [h.2.2, many_fin n, show eqS (.str (ws 8)) "spy" = true by decide +kernel]
    rfl
  | turn q =>
    have : ∀ q : Fin 3, entL (Ent.turn q).parts = true := by decide +kernel
    exact this q
  | bump => show inW (.str (ws 5)) wAlone = true; decide +kernel
  | bare => show inW (.str (ws 7)) wAlone = true; decide +kernel
  | swap => show inW (.str (ws 9)) wAlone = true; decide +kernel
--@@SPLIT
theorem kit_same {K : PySem.W.Frag} {C : Addr} : PySem.W.kitOne K (.ref C) (.ref C) = some true := by
  unfold PySem.W.kitOne
  rw [if_pos (beq_self_eq_true _)]
theorem kit_other {K : PySem.W.Frag} {D C : Addr} {b : Bool} (hn : (Value.ref D == Value.ref C) = false) (h1 : PySem.W.isClsIn K C = true) (h2 : PySem.W.typeIn K (.ref C) = some (.type "type")) (h3 : PySem.W.subIn K (.ref D) (.ref C) = some b) : PySem.W.kitOne K (.ref D) (.ref C) = some b := by
  unfold PySem.W.kitOne
  rw [hn, if_neg Bool.false_ne_true]
  show (if ((PySem.W.clsIn K C).isSome && PySem.W.typeIn K (.ref C) == some (.type "type")) = true then PySem.W.subIn K (.ref D) (.ref C) else none) = some b
  rw [if_pos (by rw [show (PySem.W.clsIn K C).isSome = true from h1, h2]; rfl)]
  exact h3
theorem kit_ve {K : PySem.W.Frag} {D : Addr} (h : PySem.W.subIn K (.ref D) (.type "ValueError") = some true) : PySem.W.kitOne K (.ref D) (.type "ValueError") = some true := by
  unfold PySem.W.kitOne
  rw [show (Value.ref D == Value.type "ValueError") = false from rfl, if_neg Bool.false_ne_true]
  show (if PySem.W.kitMeta "ValueError" = true then PySem.W.subIn K (.ref D) (.type "ValueError") else none) = some true
  rw [if_pos (by decide +kernel)]
  exact h
/-! ### the refusal of a log -/
def spInit (K : PySem.W.Frag) (C : Addr) : Sp := fun vs H Q _ => ∃ (a : Addr) (z : Str) (i : Int), vs = [.ref a, .str z, .int i] ∧ H a = some (exo a C none) ∧
  ∀ H' dx, (∀ b o, b ≠ a → H b = some o → H' b = some o) → H dx = none → dx ≠ a → H' a = some (exo a C (some dx)) → H' dx = some (exd dx [("at", .int i), ("name", .str z)]) → Q .non H'
theorem ok_init (T : Top w K mg) : FnOk P w K mg base CX0 4 T.a_init T.fd_init ["self", "name", "at"] (spInit K T.a_BadLog) := by
  have G_kept := ok_kept (P := P) (w := w) (base := base) T
  refine T.F_init.ok sc_init (fun vs H Q E h => ?_) (fun cdv A outer s H vs Q E hr h => ?_)
  · obtain ⟨a, z, i, rfl, _⟩ := h
    rfl
  · obtain ⟨a, z, i, rfl, ha, q⟩ := h
    refine ⟨_, (pss_cons (ps_ost (pv 0) (pe_call G_kept (hr.mono (by decide)) (by rfl) T.g_kept T.F_kept.kp T.b_kept .nil pass0 (pa_cons (pv 1) pa_nil)))
      (pss_one (ps_ost (pv 0) (pe_call G_kept (hr.mono (by decide)) (by rfl) T.g_kept T.F_kept.kp T.b_kept .nil pass0 (pa_cons (pv 2) pa_nil))))), ?_⟩
    refine ⟨_, rfl, .str z, .str z, rfl, siz_str _, .str z, fun H1 v' s1 hv' => ?_⟩
    cases hv'
    refine ⟨.ref a, rfl, a, T.a_BadLog, rfl, T.oex, T.no_name, .inl ⟨s1 _ _ ha, fun dx ndx ne => ?_⟩⟩
    refine ⟨_, rfl, .int i, .int i, rfl, siz_int _, .int i, fun H2 v' s2 hv' => ?_⟩
    cases hv'
    have ea := s2 _ _ (upd_same (H := upd H1 dx (exd dx [("name", .str z)])) (a := a) (o := exo a T.a_BadLog (some dx)))
    have ed := s2 dx (exd dx [("name", .str z)]) (by rw [upd_ne ne]; exact upd_same)
    refine ⟨.ref a, rfl, a, T.a_BadLog, rfl, T.oex, T.no_at, .inr ⟨dx, _, ea, ed, by show 1 ≤ 900; decide, ?_⟩⟩
    refine q _ dx (fun b o hb h => ?_) (s1.free ndx) ne ?_ upd_same
    · have hb2 : b ≠ dx := ne_of_none (s1 _ _ h) ndx
      rw [upd_ne hb2]
      refine s2 _ _ ?_
      rw [upd_ne hb, upd_ne hb2]
      exact s1 _ _ h
    · rw [upd_ne (Ne.symm ne)]
      exact ea
--@@SPLIT
/-! ### a log, entry by entry -/
def headL : List PyData → PyData
  | a :: _ => a
  | [] => .none
def headD (d : PyData) : PyData := match seqD d with
  | some ds => headL ds
  | none => .none
def fcD (d : PyData) : Bool := eqS (headD d) "face"
def ndD (d : PyData) : Bool := inW (headD d) wFace
def tupD (d : PyData) : PyData := match seqD d with
  | some ds => .tuple ds
  | none => d
def badAt : Bool → Nat → List PyData → Option Nat
  | _, _, [] => none
  | f, i, d :: r => if entD d = false then some i else if (ndD d && !f) = true then some i else badAt (f || fcD d) (i + 1) r
theorem ent_seq {d : PyData} (h : entD d = true) : ∃ a r, seqD d = some (a :: r) := by
  unfold entD at h
  cases e : seqD d with
  | none => rw [e] at h; cases h
  | some ds =>
    rw [e] at h
    cases ds with
    | nil => cases h
    | cons a r => exact ⟨a, r, rfl⟩
theorem seq_head {K : PySem.W.Frag} {H : Hp} {v : V} {d a : PyData} {r : List PyData} (h : Dp K H v d) (e : seqD d = some (a :: r)) : ∃ p x xs, v = .ref p ∧ SqA K H p (x :: xs) ∧ Dp K H x a ∧ DpAll K H (x :: xs) (a :: r) := by
  obtain ⟨p, xs, rfl, hs, ha⟩ := seq_dp h e
  have ha2 := ha
  cases ha2 with
  | @cons x xs' _ _ h1 h2 => exact ⟨p, x, xs', rfl, hs, h1, ha⟩
theorem head_eq {d a : PyData} {r : List PyData} (e : seqD d = some (a :: r)) : headD d = a := by
  unfold headD
  rw [e]
  rfl
theorem tup_eq {d : PyData} {ds : List PyData} (e : seqD d = some ds) : tupD d = .tuple ds := by
  unfold tupD
  rw [e]
theorem any_more {ds : List PyData} {i : Nat} {d : PyData} (h : ds[i]? = some d) : (ds.take (i + 1)).any fcD = ((ds.take i).any fcD || fcD d) := by
  rw [List.take_add_one, h, List.any_append]
  show ((ds.take i).any fcD || (fcD d || false)) = _
  rw [Bool.or_false]
theorem drop_at {ds : List PyData} {i : Nat} {d : PyData} (h : ds[i]? = some d) : ds.drop i = d :: ds.drop (i + 1) := by
  obtain ⟨hi, e⟩ := List.getElem?_eq_some_iff.mp h
  rw [List.drop_eq_getElem_cons hi, e]
def spHeld (K : PySem.W.Frag) (C : Addr) : Sp := fun vs H Q E => ∃ (e : Addr) (xs : List V) (ds : List PyData), vs = [.ref e] ∧ SqL K H e xs ∧ DpAll K H xs ds ∧ (∀ d ∈ ds, ge d = true) ∧ ds.length ≤ 901 ∧
  (badAt false 0 ds = none → ∀ H' r, Same H H' → Dp K H' (.ref r) (.tuple (ds.map tupD)) → Q (.ref r) H') ∧
  (∀ i, badAt false 0 ds = some i → ∀ H' dd, Same H H' → H dd = none → H' dd = some (.xd [("at", .int (i : Nat)), ("name", .str "")]) → E (.ref C) (some dd) H')
theorem ok_held_log (T : Top w K mg) : FnOk P w K mg base (L2N.CX P w) 8 T.a_held_log T.fd_held_log ["entries"] (spHeld K T.a_BadLog) := by
  have G_is_entry := ok_is_entry (P := P) (w := w) (base := base) T
  have G_init := ok_init (P := P) (w := w) (base := base) T
  refine HotAs.okN T.F_held_log sc_held_log (fun vs H Q E h => ?_) (fun cdv A outer s H vs Q E hr h => ?_)
  · obtain ⟨e, xs, ds, rfl, _⟩ := h
    rfl
  · obtain ⟨e, xs, ds, rfl, hs, ha, hge, hlen, q, bad⟩ := h
    have lx := dpa_len ds xs ha
    refine ⟨_, (pss_cons (ps_set (i := 1) sc_held_log.nd rfl (.inl rfl) pe_bl)
      (pss_cons (ps_set (i := 2) sc_held_log.nd rfl (.inl rfl) (pe_lst pa_nil))
      (pss_cons (ps_for (passes_of rfl) rfl (pi_enum (by rfl) T.m_enumerate (pa_cons (pv 0) pa_nil)) (pg_tup rfl (pgs_cons (pg_name (i := 3) sc_held_log.nd rfl (.inl rfl)) (pgs_cons (pg_name (i := 4) sc_held_log.nd rfl (.inl rfl)) pgs_nil))) (pss_cons (ps_if (pt_not (pt_val (pe_call G_is_entry (hr.mono (by decide)) (by rfl) T.g_is_entry T.F_is_entry.kp T.b_is_entry .nil pass0 (pa_cons (pv 4) pa_nil)))) (pss_one (L2N.ps_raise rfl (L2N.takes_of rfl rfl rfl rfl) (HotAs.pmk_oexN T.oex T.iC T.tI G_init (hr.mono (by decide)) T.b_init pass0 (by rfl) T.g_BadLog (pa_cons pe_str (pa_cons (pv 3) pa_nil))))) pss_nil)
      (Evl.pss_cut (ps_if (PW.pt (pw_and (pt_cmpR (op_inA (units65 hr)) (pe_ix ix_seq (pv 4) pe_int (fun _ _ => rfl)) (pe_glob (v := .ref T.a_WORDS_BEHIND_A_FACE) (by rfl) T.g_WORDS_BEHIND_A_FACE rfl) (by rfl)) (pw_and1 (pt_not (pt_val (pv 1)))))) (pss_one (L2N.ps_raise rfl (L2N.takes_of rfl rfl rfl rfl) (HotAs.pmk_oexN T.oex T.iC T.tI G_init (hr.mono (by decide)) T.b_init pass0 (by rfl) T.g_BadLog (pa_cons pe_str (pa_cons (pv 3) pa_nil))))) pss_nil)
      (Evl.pss_cut (ps_set (i := 1) sc_held_log.nd rfl (.inl rfl) (pe_or (pv 1) (pe_one (pe_cmpR (op_eqA hr.units) (pe_ix ix_seq (pv 4) pe_int (fun _ _ => rfl)) pe_str (nomark _)))))
      (pss_one (ps_expr (pe_bm PySem.F.plainAttrs_list PySem.F.slot_list_append PySem.F.type_list_append mt_append (pv 2) (pa_cons (pe_callTy call_tuple_of (by rfl) T.m_tuple (by decide +kernel) (pa_cons (pv 4) pa_nil)) pa_nil))))))))
      (pss_one (ps_ret (pe_callTy call_tuple_of (by rfl) T.m_tuple (by decide +kernel) (pa_cons (pv 2) pa_nil))))))), ?_⟩
    refine ⟨Nat.zero_le _, fun L nL => ?_⟩
    have s0 := same_upd (o := .lst []) nL
    refine ⟨.ref e, rfl, e, xs, rfl, s0.seq hs, for_it (walk_enum (xs := xs)) (fun i σ H' => Same H H' ∧ ∃ y3 y4 ys, σ = [some (.ref e), some (.bl ((ds.take i).any fcD)), some (.ref L), y3, y4] ∧ H' L = some (.lst ys) ∧ ys.length = i ∧ DpAll K (wo H' (fun b => b = L)) ys ((ds.take i).map tupD) ∧ badAt false 0 ds = badAt ((ds.take i).any fcD) i (ds.drop i))
      ⟨s0, none, none, [], rfl, upd_same, rfl, .nil, rfl⟩ (fun i σ H' _ h => h.1.seq hs) ?_ ?_⟩
    · rintro i v σ H1 H2 hi ⟨sm, y3, y4, ys, rfl, eL, ly, hy, hb⟩ ⟨t, u1, u2, rfl, nt, rfl, e1, e2⟩
      cases e1
      obtain ⟨d, fd, gd⟩ := dpa_at ds xs ha i u2 e2
      have hgd := hge d (List.mem_of_getElem? fd)
      rw [drop_at fd] at hb
      have st := same_upd (o := .tup [.int (i : Nat), u2]) nt
      have sm2 := sm.trans st
      have nLt : L ≠ t := ne_of_none eL nt
      refine ⟨t, _, rfl, .inl (.inl upd_same), rfl, _, _, rfl, _, _, rfl, rfl, ?_⟩
      refine ⟨u2, rfl, u2, d, rfl, hgd, dp_same sm2 d u2 gd, fun H3 s3 => ⟨_, rfl, ?_⟩⟩
      have sm3 := sm2.trans s3
      have raise_ : badAt false 0 ds = some i → ∀ (Hx : Hp), Same H Hx → ∀ a, Hx a = none → spInit K T.a_BadLog (.ref a :: ([.str "", .int (i : Nat)] ++ [])) (upd Hx a (exo a T.a_BadLog none)) (fun v H2 => v = .non ∧ ∃ (d : Addr) (fs : List (Str × V)), H2 a = some (exo a T.a_BadLog (some d)) ∧ H2 d = some (exd d fs) ∧ Hx d = none ∧ E (.ref T.a_BadLog) (some d) (upd (del H2 a) d (.xd fs))) (fun _ _ _ => False) := fun hbi Hx sx a na =>
        ⟨a, _, _, rfl, upd_same, fun H4 dx keep ndx ne ea ed => by
          rw [upd_ne ne] at ndx
          refine ⟨rfl, dx, _, ea, ed, ndx, bad i hbi _ dx (fun b o h => ?_) (sx.free ndx) upd_same⟩
          have h2 := sx _ _ h
          have na2 : b ≠ a := ne_of_none h2 na
          rw [upd_ne (ne_of_none h2 ndx), del_ne na2]
          exact keep b o na2 (by rw [upd_ne na2]; exact h2)⟩
      cases he : entD d with
      | false =>
        have hbi : badAt false 0 ds = some i := by
          rw [hb]
          show (if entD d = false then _ else _) = _
          rw [if_pos he]
        exact iteT ⟨_, rfl, by show 2 ≤ 1000; decide, fun a na => raise_ hbi H3 sm3 a na⟩
      | true =>
        refine iteF ?_
        obtain ⟨a, r, es⟩ := ent_seq he
        have mH : Same H (wo H3 (fun b => b = L)) := fun b o h => by
          rw [wo_in (X := fun b => b = L) (ne_of_none h nL)]
          exact sm3 _ _ h
        obtain ⟨p, x, xs2, rfl, hsqW, hxW, hallW⟩ := seq_head (dp_same mH d u2 gd) es
        have hsq := hsqW.same wo_same
        have hx := dp_same wo_same _ _ hxW
        have ga : gp a = true := (ge_parts hgd es).2 a (by simp)
        have hb2 : badAt false 0 ds = if (ndD d && !((ds.take i).any fcD)) = true then some i else badAt ((ds.take i).any fcD || fcD d) (i + 1) (ds.drop (i + 1)) := by
          rw [hb]
          show (if entD d = false then _ else _) = _
          rw [if_neg (by rw [he]; decide)]
        have hnd : ndD d = inW a wFace := by unfold ndD; rw [head_eq es]
        have hfc : fcD d = eqS a "face" := by unfold fcD; rw [head_eq es]
        refine ⟨fun σ H' => H3 = H' ∧ σ = [some (.ref e), some (.bl ((ds.take i).any fcD)), some (.ref L), some (.int (i : Nat)), some (.ref p)] ∧ badAt false 0 ds = badAt ((ds.take i).any fcD || fcD d) (i + 1) (ds.drop (i + 1)), ?_, ?_⟩
        · refine ⟨.ref p, rfl, ixA (j := 0) hsq rfl (inA_of (ws := wFace) hx ga (T.v_WORDS_BEHIND_A_FACE _) (by decide +kernel) ⟨_, rfl, ite2 (fun e3 => ?_) (fun e3 => ?_)⟩)⟩
          · refine ⟨_, rfl, _, rfl, ?_⟩
            cases hf : (ds.take i).any fcD with
            | false =>
              have hbi : badAt false 0 ds = some i := by
                rw [hb2, hnd, e3, hf]
                rfl
              exact iteT ⟨_, rfl, by show 2 ≤ 1000; decide, fun a na => raise_ hbi H3 sm3 a na⟩
            | true =>
              refine iteF ⟨rfl, rfl, ?_⟩
              rw [hb2, hf, Bool.not_true, Bool.and_false, if_neg Bool.false_ne_true]
          · refine ite2 (fun z => nomatch z) (fun _ => ⟨rfl, rfl, ?_⟩)
            rw [hb2, hnd, Bool.eq_false_iff.mpr e3, Bool.false_and, if_neg Bool.false_ne_true]
        rintro σ H4 ⟨rfl, rfl, hb3⟩
        refine ⟨fun σ H' => H3 = H' ∧ σ = [some (.ref e), some (.bl ((ds.take i).any fcD || fcD d)), some (.ref L), some (.int (i : Nat)), some (.ref p)], ?_, ?_⟩
        · refine ⟨_, rfl, _, rfl, ?_⟩
          cases hf : (ds.take i).any fcD with
          | true => exact iteT ⟨rfl, by rw [Bool.true_or]; rfl⟩
          | false =>
            refine iteF ⟨.ref p, rfl, ixA (j := 0) hsq rfl (eqA_of hx ga (by decide +kernel) ⟨rfl, ?_⟩)⟩
            rw [hfc, Bool.false_or]
            rfl
        rintro σ H4 ⟨rfl, rfl⟩
        have eL3 := s3 _ _ (st _ _ eL)
        have m3 : Same (wo H1 (fun b => b = L)) (wo H3 (fun b => b = L)) := fun b o h => by
          have h2 := wo_some h
          rw [wo_in (X := fun b => b = L) h2.1]
          exact s3 _ _ (st _ _ h2.2)
        have fin : ∀ (H5 : Hp) (q : Addr), Same H3 H5 → Dp K (wo H5 (fun b => b = L)) (.ref q) (tupD d) → (Same H (upd H5 L (.lst (ys ++ [.ref q]))) ∧ ∃ y3 y4 zs, ([some (.ref e), some (.bl ((ds.take i).any fcD || fcD d)), some (.ref L), some (.int (i : Nat)), some (.ref p)] : L2.St) = [some (.ref e), some (.bl ((ds.take (i + 1)).any fcD)), some (.ref L), y3, y4] ∧ (upd H5 L (.lst (ys ++ [.ref q]))) L = some (.lst zs) ∧ zs.length = i + 1 ∧ DpAll K (wo (upd H5 L (.lst (ys ++ [.ref q]))) (fun b => b = L)) zs ((ds.take (i + 1)).map tupD) ∧ badAt false 0 ds = badAt ((ds.take (i + 1)).any fcD) (i + 1) (ds.drop (i + 1))) := fun H5 q s5 hq => by
          have m5 : Same (wo H3 (fun b => b = L)) (wo H5 (fun b => b = L)) := fun b o h => by
            have h2 := wo_some h
            rw [wo_in (X := fun b => b = L) h2.1]
            exact s5 _ _ h2.2
          have m6 : Same (wo H5 (fun b => b = L)) (wo (upd H5 L (.lst (ys ++ [.ref q]))) (fun b => b = L)) := fun b o h => by
            have h2 := wo_some h
            rw [wo_in (X := fun b => b = L) h2.1, upd_ne h2.1]
            exact h2.2
          refine ⟨fun b o h => ?_, some (.int (i : Nat)), some (.ref p), ys ++ [.ref q], ?_, upd_same, ?_, ?_, ?_⟩
          · rw [upd_ne (ne_of_none h nL)]
            exact s5 _ _ (sm3 _ _ h)
          · rw [any_more fd]
          · rw [List.length_append, ly]
            rfl
          · rw [List.take_add_one, fd, List.map_append]
            exact dpa_snoc (dp_same m6 _ _ hq) _ _ (dpa_same ((m3.trans m5).trans m6) _ _ hy)
          · rw [any_more fd]
            exact hb3
        refine ⟨.ref L, rfl, .inl ⟨rfl, _, .inl (.inl eL3)⟩, .ref p, rfl, p, x :: xs2, rfl, ?_⟩
        rcases hsqW with hl | ht
        · refine .inl ⟨wo_same.seq hl, fun r2 nr2 => ?_⟩
          have sr := same_upd (o := .tup (x :: xs2)) nr2
          refine ⟨L, ys, _, rfl, rfl, sr _ _ eL3, small1000 (by omega), fin _ r2 sr ?_⟩
          rw [tup_eq es]
          refine .tup (.inl (.inl ?_)) (dpa_same (fun b o h => ?_) _ _ hallW)
          · rw [wo_in (X := fun b => b = L) (fun z => by rw [z, eL3] at nr2; cases nr2)]
            exact upd_same
          · have h2 := wo_some h
            rw [wo_in (X := fun b => b = L) h2.1]
            exact sr _ _ h2.2
        · refine .inr ⟨sqt_same wo_same ht, ⟨L, ys, _, rfl, rfl, eL3, small1000 (by omega), fin H3 p (Same.refl _) ?_⟩⟩
          rw [tup_eq es]
          exact .tup ht hallW
    · rintro σ H1 ⟨sm, y3, y4, ys, rfl, eL, ly, hy, hb⟩
      rw [lx, List.drop_length] at hb
      rw [lx, List.take_length] at hy
      refine ⟨.ref L, rfl, L, ys, rfl, .inl ⟨.inl (.inl eL), fun r nr => ?_⟩⟩
      exact q hb _ r (sm.trans (same_upd nr)) (.tup (.inl (.inl upd_same)) (dpa_same (wo_same.trans (same_upd nr)) _ _ hy))
--@@SPLIT
/-! ### numbers by figures -/
abbrev FIGs : Str := PySem.Str.ofString "0123456789"
def dgC (c : Nat) : Bool := decide (c ∈ FIGs.cps.toList)
def numOk (cs : List Nat) : Bool := (decide (1 ≤ (cs.length : Int)) && decide ((cs.length : Int) ≤ 30)) && (cs.all dgC && !(decide (cs.head? = some 48) && decide (1 < (cs.length : Int))))
def numIn (cs : List Nat) : Option Nat := if numOk cs = true then some (NumText.digitsVal cs) else none
def numV : Option Nat → V
  | some n => .int (n : Int)
  | none => .non
theorem figs_eq : FIGs.cps.toList = [48, 49, 50, 51, 52, 53, 54, 55, 56, 57] := by decide +kernel
theorem dg_iff (c : Nat) : dgC c = true ↔ 48 ≤ c ∧ c ≤ 57 := by
  unfold dgC
  rw [figs_eq, decide_eq_true_iff]
  simp only [List.mem_cons, List.not_mem_nil, or_false]
  omega
theorem num_all {cs : List Nat} (h : cs.all dgC = true) : NumText.AllDigits cs := fun c hc => by
  have := (dg_iff c).mp (List.all_eq_true.mp h c hc)
  omega
def spNumIn : Sp := fun vs H Q _ => ∃ z : Str, vs = [.str z] ∧ z.length ≤ 1000000 ∧ ∀ H', Same H H' → Q (numV (numIn z.cps.toList)) H'
theorem len_toListN (z : Str) : z.cps.toList.length = z.length := Array.length_toList
theorem all_mapN {f : Nat → Bool} : ∀ xs : List Nat, (xs.map f).all id = xs.all f
  | [] => rfl
  | x :: r => by rw [List.map_cons, List.all_cons, List.all_cons, all_mapN r]; rfl
theorem ok_number_in (T : Top w K mg) : FnOk P w K mg base CX0 1 T.a_number_in T.fd_number_in ["word"] spNumIn := by
  refine T.F_number_in.ok sc_number_in (fun vs H Q E h => ?_) (fun cdv A outer s H vs Q E hr h => ?_)
  · obtain ⟨z, rfl, _⟩ := h
    rfl
  · obtain ⟨z, rfl, hz, q⟩ := h
    refine ⟨_, (pss_cons (ps_if (PW.pt (pw_or (pt_not (pt_chain op_le op_le pe_int (pe_callB call_len_str (by rfl) T.m_len (by decide +kernel) (pa_cons (pv 0) pa_nil)) (pe_glob (v := .int 30) (by rfl) T.g_MOST_FIGURES.choose_spec ⟨_, rfl⟩))) (pw_or1 (pt_not (pt_val (pe_callB (cr_all rfl) (by rfl) T.m_all (by decide +kernel) (pa_cons (pe_lc (own := [("figure", 1)]) (g := gName 1) (by rfl) sc_number_in.nd (pi_str (pv 0)) (blkOk_by (own := [("figure", 1)]) (N := ["word", "figure"]) (sc := defScope s_number_in) (by decide +kernel)) (fun _ _ _ _ _ => (pg_name (i := 1) sc_number_in.nd rfl (Or.inl rfl))) (fun _ _ _ _ _ => pts_nil) (fun _ _ _ _ _ => (pe_cmpR op_in_sign (pv 1) (pe_glob (v := .str "0123456789") (by rfl) T.g_FIGURES.choose_spec ⟨_, rfl⟩) (by rfl)))) pa_nil))))))) (pss_one (ps_ret pe_non)) pss_nil)
      (pss_cons (ps_if (PW.pt (pw_and (pt_cmpR op_eq (pe_ix ix_str (pv 0) pe_int (fun _ _ => rfl)) pe_str (nomark _)) (pw_and1 (pt_cmpR op_gt (pe_callB call_len_str (by rfl) T.m_len (by decide +kernel) (pa_cons (pv 0) pa_nil)) pe_int (nomark _))))) (pss_one (ps_ret pe_non)) pss_nil)
      (pss_one (ps_ret (pe_callTy call_int_str (by rfl) T.m_int (by decide +kernel) (pa_cons (pv 0) pa_nil)))))), ?_⟩
    have hs : z.length ≤ sizeLine := Nat.le_trans hz (by decide)
    have lz : z.cps.toList.length = z.length := len_toListN z
    have no : numOk z.cps.toList = false → ∀ H', Same H H' → Q .non H' := fun e H' s => by
      have h := q H' s
      unfold numIn at h
      rw [e] at h
      exact h
    refine ⟨.str z, rfl, z, rfl, hs, _, _, rfl, rfl, _, rfl, ite2 (fun e1 => ?_) (fun e1 => ?_)⟩
    · refine ⟨_, _, rfl, rfl, _, rfl, ite2 (fun e2 => ?_) (fun e2 => ?_)⟩
      · refine no ?_ H (Same.refl _)
        unfold numOk
        rw [lz, show decide ((z.length : Int) ≤ 30) = false by cases h : decide ((z.length : Int) ≤ 30) with
          | false => rfl
          | true => rw [h] at e2; cases e2]
        simp
      have l30 : decide ((z.length : Int) ≤ 30) = true := by
        cases h : decide ((z.length : Int) ≤ 30) with
          | true => rfl
          | false => rw [h] at e2; exact absurd rfl e2
      refine ⟨.str z, rfl, z, rfl, fun D hD => lc_it walk_str (fun i H' => Same H H' ∧ H' D = some (.lst (((z.cps.toList.take i).map dgC).map V.bl))) ⟨same_upd hD, upd_same⟩ (fun _ _ _ _ => trivial) ?_ ?_⟩
      · rintro i x H1 H2 hi ⟨sm, eD⟩ ⟨rfl, c, hc, rfl⟩
        refine ⟨rfl, ?_⟩
        refine ⟨_, rfl, c, _, rfl, rfl, _, eD, ?_, ?_, ?_⟩
        · rw [List.length_map, List.length_map, List.length_take, lz]
          exact small1000 (by have := of_decide_eq_true l30; omega)
        · exact fun b' o e => by
            rw [upd_ne (ne_of_none e hD)]
            exact sm _ _ e
        · rw [upd_same, List.take_add_one, Array.getElem?_toList, hc, List.map_append, List.map_append]
          rfl
      · rintro H1 ⟨sm, eD⟩
        have e2 : z.cps.toList.take z.cps.size = z.cps.toList := List.take_of_length_le (by rw [Array.length_toList]; exact Nat.le_refl _)
        rw [e2] at eD
        refine ⟨_, z.cps.toList.map dgC, rfl, .inl (.inl eD), ?_⟩
        rw [all_mapN]
        refine ⟨_, rfl, ite2 (fun e3 => ?_) (fun e3 => ?_)⟩
        · refine no ?_ H1 sm
          unfold numOk
          rw [show z.cps.toList.all dgC = false by cases h : z.cps.toList.all dgC with
            | false => rfl
            | true => rw [h] at e3; cases e3]
          simp
        have ad : z.cps.toList.all dgC = true := by
          cases h : z.cps.toList.all dgC with
            | true => rfl
            | false => rw [h] at e3; exact absurd rfl e3
        obtain ⟨c, r, ez⟩ : ∃ c r, z.cps.toList = c :: r := by
          cases h : z.cps.toList with
          | nil =>
            rw [h] at lz
            have : (1 : Int) ≤ (z.length : Int) := of_decide_eq_true e1
            have : ([] : List Nat).length = 0 := rfl
            omega
          | cons c r => exact ⟨c, r, rfl⟩
        have hc : decide (V.str ⟨#[c]⟩ = V.str (PySem.Str.ofString "0")) = decide (c = 48) := by
          by_cases h : c = 48
          · subst h; decide +kernel
          · rw [decide_eq_false h]
            refine decide_eq_false fun z => h ?_
            have z2 := V.str.inj z
            have z3 := congrArg (fun s : Str => s.cps.toList) z2
            rw [show (PySem.Str.ofString "0").cps.toList = [48] by decide +kernel] at z3
            exact (List.cons.inj z3).1
        have ok0 : numOk z.cps.toList = !(decide (c = 48) && decide (1 < (z.length : Int))) := by
          unfold numOk
          rw [lz, ad, l30, show decide (1 ≤ (z.length : Int)) = true from e1, ez]
          show (true && true && (true && !(decide (some c = some 48) && _))) = _
          rw [show decide (some c = some 48) = decide (c = 48) by simp]
          simp
        have yes : numOk z.cps.toList = true → Q (.int (NumText.digitsVal z.cps.toList : Nat)) H1 := fun e => by
          have h := q H1 sm
          unfold numIn at h
          rw [e] at h
          exact h
        have fin : numOk z.cps.toList = true → ∃ a n, [V.str z] = [.str a] ∧ PySem.intText? a = some n ∧ a.length ≤ 640 ∧ Q (.int n) H1 := fun e => by
          have l3 := of_decide_eq_true l30
          exact ⟨z, _, rfl, intText_digits (num_all ad) (by rw [ez]; exact fun h => nomatch h) (by omega), by omega, yes e⟩
        refine ⟨.str z, rfl, z, 0, c, rfl, rfl, hs, by rw [ez]; exact atI_nat (j := 0) rfl, rfl, _, rfl, ?_⟩
        rw [hc]
        refine ite2 (fun e4 => ?_) (fun e4 => ?_)
        · refine ⟨.str z, rfl, z, rfl, hs, _, _, rfl, rfl, _, rfl, ite2 (fun e5 => ?_) (fun e5 => ?_)⟩
          · refine no ?_ H1 sm
            rw [ok0, e4, show decide (1 < (z.length : Int)) = true from e5]
            rfl
          · refine ⟨.str z, rfl, fin ?_⟩
            rw [ok0, show decide (1 < (z.length : Int)) = false from Bool.eq_false_iff.mpr e5]
            simp
        · refine ite2 (fun z => nomatch z) (fun _ => ⟨.str z, rfl, fin ?_⟩)
          rw [ok0, Bool.eq_false_iff.mpr e4]
          rfl
    · refine ⟨_, rfl, iteT (no ?_ H (Same.refl _))⟩
      unfold numOk
      rw [lz, show decide (1 ≤ (z.length : Int)) = false from Bool.eq_false_iff.mpr e1]
      rfl
/-! ### a number written -/
def figT (n : Nat) : Str := PySem.Str.ofString (toString ((n : Nat) : Int))
theorem tl_fig (n : Nat) : (figT n).cps.toList = TL.numL n := TL.tl_num n
theorem fig_len {n : Nat} (h : n < 10 ^ 30) : (figT n).length ≤ 30 := by
  rw [← len_toListN, tl_fig]
  exact TL.numL_len (by decide) h
theorem head0 : ∀ n : Nat, 10 ≤ n → (TL.numL n).head? ≠ some 48 := fun n => by
  induction n using Nat.strongRecOn with
  | _ n ih =>
    intro h
    rw [TL.numL_step h]
    by_cases h2 : n / 10 < 10
    · rw [TL.numL_lt h2]
      show some (48 + n / 10) ≠ some 48
      intro z
      have := Option.some.inj z
      omega
    · have := ih (n / 10) (by omega) (by omega)
      have ne := TL.numL_ne (n / 10)
      cases e : TL.numL (n / 10) with
      | nil => exact absurd e ne
      | cons c r =>
        rw [e] at this
        exact this
theorem numIn_fig {n : Nat} (h : n < 10 ^ 30) : numIn (figT n).cps.toList = some n := by
  have hl : (TL.numL n).length ≤ 30 := TL.numL_len (by decide) h
  have h1 : 1 ≤ (TL.numL n).length := List.length_pos_iff.mpr (TL.numL_ne n)
  have ok : numOk (TL.numL n) = true := by
    unfold numOk
    rw [decide_eq_true (show (1 : Int) ≤ ((TL.numL n).length : Int) by omega), decide_eq_true (show ((TL.numL n).length : Int) ≤ 30 by omega)]
    have ha : (TL.numL n).all dgC = true := List.all_eq_true.mpr fun c hc => (dg_iff c).mpr (by have := TL.numL_digits n c hc; omega)
    rw [ha]
    by_cases h10 : n < 10
    · rw [TL.numL_lt h10]
      simp
    · rw [decide_eq_false (head0 n (by omega))]
      rfl
  unfold numIn
  rw [tl_fig, ok, if_pos rfl, TL.numL_val]
--@@SPLIT
/-! ### entries as texts -/
def rStrA : List V → Hp → VK → Prop := fun xs H Q => (∃ i, xs = [.int i] ∧ i.natAbs.log2 < 1920 ∧ Q (.str (toString i)) H) ∨ (∃ a, xs = [.str a] ∧ Q (.str a) H)
theorem call_strA {X : Cx} : CallR X (.type "str") rStrA := by
  intro pins s σ H xs us Q I r h
  rcases h with h | h
  · exact call_str_int pins s σ H xs us Q I r h
  · exact SkE.call_str_str pins s σ H xs us Q I r h
abbrev blank : Str := PySem.Str.ofString " "
theorem blank_tl : blank.cps.toList = [32] := by decide +kernel
/-- the text of a part -/
def partT : PyData → Str
  | .str z => z
  | .int i => PySem.Str.ofString (toString i)
  | _ => PySem.Str.ofString ""
def partOk : PyData → Bool
  | .str z => decide (z.length ≤ 100)
  | .int i => decide (0 ≤ i) && decide (i < 10 ^ 30)
  | _ => false
def entT (ds : List PyData) : Str := Txt.join blank (ds.map partT)
theorem part_len {d : PyData} (h : partOk d = true) : (partT d).length ≤ 100 := by
  cases d with
  | str z => exact of_decide_eq_true h
  | int i =>
    obtain ⟨h0, h1⟩ := Bool.and_eq_true_iff.mp h
    have h0 := of_decide_eq_true h0
    have h1 := of_decide_eq_true h1
    obtain ⟨n, rfl⟩ : ∃ n : Nat, i = n := ⟨i.toNat, by omega⟩
    have h2 : n < 10 ^ 30 := by omega
    have := fig_len h2
    show (figT n).length ≤ 100
    omega
  | _ => cases h
theorem part_sum : ∀ ds : List PyData, (∀ d ∈ ds, partOk d = true) → ((ds.map partT).map (·.length)).sum ≤ 100 * ds.length
  | [], _ => Nat.zero_le _
  | d :: r, h => by
    rw [List.map_cons, List.map_cons, List.sum_cons, List.length_cons]
    have h1 := part_len (h d List.mem_cons_self)
    have h2 := part_sum r (fun x hx => h x (List.mem_cons_of_mem _ hx))
    omega
def spEntText (K : PySem.W.Frag) : Sp := fun vs H Q _ => ∃ (a : Addr) (xs : List V) (ds : List PyData), vs = [.ref a] ∧ SqA K H a xs ∧ DpAll K H xs ds ∧ (∀ d ∈ ds, partOk d = true) ∧ ds.length ≤ 900 ∧ ∀ H', Same H H' → Q (.str (entT ds)) H'
theorem log2_30 {n : Nat} (h : n < 10 ^ 30) : n.log2 < 1920 := by
  by_cases h0 : n = 0
  · subst h0
    decide
  · refine (Nat.log2_lt h0).mpr (Nat.lt_of_lt_of_le h (by decide +kernel))
/-! ### a text read as an entry -/
abbrev wGS : List Str := [PySem.Str.ofString "go", PySem.Str.ofString "spy"]
def goSpy (s : Str) : Bool := inV (.str s) (wGS.map V.str)
def numD : Option Nat → PyData
  | some n => .int (n : Int)
  | none => .none
def entDs : List Str → List PyData
  | a :: b :: r => .str a :: (if goSpy a = true then numD (numIn b.cps.toList) else .str b) :: r.map PyData.str
  | ws => ws.map PyData.str
theorem spl_ne (S : List Nat) : ∀ (l acc : List Nat) (k : Nat), TL.spl S k acc l ≠ []
  | [], acc, k => by rw [TL.spl_nil]; exact fun h => nomatch h
  | c :: r, acc, 0 => by
    cases e : TL.pre S (c :: r) with
    | true => rw [TL.spl_hit e]; exact fun h => nomatch h
    | false => rw [TL.spl_miss e]; exact spl_ne S r _ 0
  | c :: r, acc, k + 1 => by
    rw [TL.spl_pass]
    exact spl_ne' S _ _
where spl_ne' (S : List Nat) : ∀ (l acc : List Nat), TL.spl S 0 acc l ≠ []
  | [], acc => by rw [TL.spl_nil]; exact fun h => nomatch h
  | c :: r, acc => by
    cases e : TL.pre S (c :: r) with
    | true => rw [TL.spl_hit e]; exact fun h => nomatch h
    | false => rw [TL.spl_miss e]; exact spl_ne' S r _
theorem split_ne (z : Str) : Txt.split z blank ≠ [] := fun h => by
  have e := TL.split_spl z blank (by rw [show TL.tl blank = [32] from blank_tl]; exact fun h => nomatch h) (TL.kind_ok (by decide +kernel))
  rw [h] at e
  exact spl_ne _ _ _ _ e.symm
theorem strs_dp {K : PySem.W.Frag} {H : Hp} : ∀ ws : List Str, DpAll K H (ws.map V.str) (ws.map PyData.str)
  | [] => .nil
  | a :: r => .cons (.str _) (strs_dp r)
theorem numV_dp {K : PySem.W.Frag} {H : Hp} : ∀ o : Option Nat, Dp K H (numV o) (numD o)
  | some n => .int _
  | none => .non
theorem numD_gp : ∀ o : Option Nat, gp (numD o) = true
  | some n => rfl
  | none => rfl
theorem ents_gp {ws : List Str} (h : ∀ x ∈ ws, x.length ≤ 1000) : ∀ d ∈ entDs ws, gp d = true := by
  have hs : ∀ ws : List Str, (∀ x ∈ ws, x.length ≤ 1000) → ∀ d ∈ ws.map PyData.str, gp d = true := fun ws h d hd => by
    obtain ⟨x, hx, rfl⟩ := List.mem_map.mp hd
    exact decide_eq_true (h x hx)
  match ws, h with
  | [], h => exact hs _ h
  | [a], h => exact hs _ h
  | a :: b :: r, h =>
    intro d hd
    rcases List.mem_cons.mp hd with hd | hd
    · rw [hd]
      exact decide_eq_true (h a (by simp))
    rcases List.mem_cons.mp hd with hd | hd
    · rw [hd]
      by_cases g : goSpy a = true
      · rw [if_pos g]
        exact numD_gp _
      · rw [if_neg g]
        exact decide_eq_true (h b (by simp))
    · exact hs r (fun x hx => h x (List.mem_cons_of_mem _ (List.mem_cons_of_mem _ hx))) d hd
theorem ents_len : ∀ ws : List Str, (entDs ws).length = ws.length
  | [] => rfl
  | [a] => rfl
  | a :: b :: r => by
    show (r.map PyData.str).length + 1 + 1 = r.length + 1 + 1
    rw [List.length_map]
def spEntIn (K : PySem.W.Frag) : Sp := fun vs H Q _ => ∃ (z : Str) (ws : List Str), vs = [.str z] ∧ z.length ≤ 1000000 ∧ Txt.split z blank = ws ∧ ws.length ≤ 1000 ∧ (∀ x ∈ ws, x.length ≤ 1000) ∧
  (entL (entDs ws) = true → ∀ H' r xs, Same H H' → H r = none → H' r = some (.tup xs) → DpAll K H' xs (entDs ws) → Q (.ref r) H') ∧ (entL (entDs ws) = false → ∀ H', Same H H' → Q .non H')
theorem ok_entry_in (T : Top w K mg) : FnOk P w K mg base CX0 6 T.a_entry_in T.fd_entry_in ["text"] (spEntIn K) := by
  have G_number_in := ok_number_in (P := P) (w := w) (base := base) T
  have G_is_entry := ok_is_entry (P := P) (w := w) (base := base) T
  refine T.F_entry_in.ok sc_entry_in (fun vs H Q E h => ?_) (fun cdv A outer s H vs Q E hr h => ?_)
  · obtain ⟨z, ws, rfl, _⟩ := h
    rfl
  · obtain ⟨z, ws, rfl, hz, hw, hl, hx, q1, q2⟩ := h
    refine ⟨_, (pss_cons (ps_set (i := 1) sc_entry_in.nd rfl (.inl rfl) (pe_bm PySem.F.plainAttrs_str PySem.F.slot_str_split PySem.F.type_str_split mt_split (pv 0) (pa_cons pe_str pa_nil)))
      (Evl.pss_cut (ps_if (PW.pt (pw_and (pt_cmpR op_in_seq (pe_ix ix_list (pv 1) pe_int (fun _ _ => rfl)) (pe_tup (pa_cons pe_str (pa_cons pe_str pa_nil))) (by rfl)) (pw_and1 (pt_cmpR op_gt (pe_callB call_len_seq (by rfl) T.m_len (by decide +kernel) (pa_cons (pv 1) pa_nil)) pe_int (nomark _))))) (pss_one (ps_asg (pe_call G_number_in (hr.mono (by decide)) (by rfl) T.g_number_in T.F_number_in.kp T.b_number_in .nil pass0 (pa_cons (pe_ix ix_list (pv 1) pe_int (fun _ _ => rfl)) pa_nil)) (pg_sub (pv 1) pe_int set_list))) pss_nil)
      (pss_one (ps_ret (pe_ifExp (pt_val (pe_call G_is_entry hr (by rfl) T.g_is_entry T.F_is_entry.kp T.b_is_entry .nil pass0 (pa_cons (pv 1) pa_nil))) (pe_callTy call_tuple_of (by rfl) T.m_tuple (by decide +kernel) (pa_cons (pv 1) pa_nil)) pe_non))))), ?_⟩
    refine ⟨_, rfl, rfl, _, _, rfl, rfl, by decide +kernel, Nat.le_trans (show z.length + 2 ≤ 1000002 by omega) (by decide), fun W nW => ?_⟩
    rw [hw]
    have sW := same_upd (o := .lst (ws.map V.str)) nW
    obtain ⟨a, r, rfl⟩ : ∃ a r, ws = a :: r := by
      cases e : ws with
      | nil => rw [e] at hw; exact absurd hw (split_ne z)
      | cons a r => exact ⟨a, r, rfl⟩
    refine ⟨fun σ H' => Same H H' ∧ ∃ xs, σ = [some (.str z), some (.ref W)] ∧ H' W = some (.lst xs) ∧ DpAll K H' xs (entDs (a :: r)), ?_, ?_⟩
    · refine ⟨.ref W, rfl, W, _, 0, .str a, rfl, rfl, .inl (.inl upd_same), atI_nat (j := 0) rfl, ?_⟩
      refine ⟨by show 2 ≤ sizeLine; decide, fun tp np => ⟨tp, wGS.map V.str, rfl, .inr (.inl (.inl upd_same)), rfl, by decide +kernel, _, rfl, ?_⟩⟩
      have s1 := same_upd (o := .tup (wGS.map V.str)) np
      have eW := s1 _ _ (upd_same (H := H) (a := W) (o := .lst ((a :: r).map V.str)))
      have nos : ∀ H', Same (upd H W (.lst ((a :: r).map V.str))) H' → entDs (a :: r) = (a :: r).map PyData.str → (Same H H' ∧ ∃ xs, [some (V.str z), some (.ref W)] = [some (.str z), some (.ref W)] ∧ H' W = some (.lst xs) ∧ DpAll K H' xs (entDs (a :: r))) := fun H' s e => ⟨sW.trans s, _, rfl, s _ _ upd_same, by rw [e]; exact strs_dp _⟩
      show if goSpy a = true then _ else _
      refine ite2 (fun e1 => ?_) (fun e1 => ?_)
      · refine ⟨.ref W, rfl, W, _, rfl, .inl (.inl (.inl eW)), _, _, rfl, rfl, _, rfl, ite2 (fun e2 => ?_) (fun e2 => ?_)⟩
        · obtain ⟨b, r, rfl⟩ : ∃ b r', r = b :: r' := by
            cases e : r with
            | nil =>
              rw [e] at e2
              cases e2
            | cons b r' => exact ⟨b, r', rfl⟩
          refine ⟨.ref W, rfl, W, _, 1, .str b, rfl, rfl, .inl (.inl eW), atI_nat (j := 1) rfl, b, rfl, Nat.le_trans (hx b (by simp)) (by decide), fun H3 s3 => ?_⟩
          have eW3 := s3 _ _ eW
          refine ⟨.ref W, rfl, W, _, 1, 1, rfl, rfl, eW3, Evl.ixN_nat (j := 1) (by rw [List.length_map, List.length_cons, List.length_cons]; omega), fun b' o e => ?_, _, rfl, upd_same, ?_⟩
          · rw [upd_ne (ne_of_none e nW)]
            exact s3 _ _ (s1 _ _ (sW _ _ e))
          · show DpAll K _ (.str a :: numV (numIn b.cps.toList) :: r.map V.str) (.str a :: (if goSpy a = true then _ else _) :: r.map PyData.str)
            rw [if_pos e1]
            exact .cons (.str _) (.cons (numV_dp _) (strs_dp r))
        · refine nos _ s1 ?_
          cases e : r with
          | nil => rfl
          | cons b r' =>
            rw [e] at e2
            refine absurd (decide_eq_true ?_) e2
            show (1 : Int) < (((a :: b :: r').map V.str).length : Int)
            rw [List.length_map, List.length_cons, List.length_cons]
            omega
      · refine ite2 (fun z => nomatch z) (fun _ => nos _ s1 ?_)
        cases e : r with
        | nil => rfl
        | cons b r' =>
          show PyData.str a :: (if goSpy a = true then _ else _) :: _ = _
          rw [if_neg e1]
          rfl
    rintro σ H1 ⟨s1, xs, rfl, eW, ha⟩
    refine ⟨.ref W, rfl, .ref W, .list (entDs (a :: r)), rfl, ?_, .lst (.inl (.inl eW)) ha, fun H2 s2 => ⟨_, rfl, ?_⟩⟩
    · show (decide ((entDs (a :: r)).length ≤ 1000) && (entDs (a :: r)).all gp) = true
      rw [decide_eq_true (by rw [ents_len]; exact hl), List.all_eq_true.mpr (ents_gp hx)]
      rfl
    show if entL (entDs (a :: r)) = true then _ else _
    refine ite2 (fun e => ?_) (fun e => q2 (Bool.eq_false_iff.mpr e) _ (s1.trans s2))
    refine ⟨.ref W, rfl, W, xs, rfl, .inl ⟨.inl (.inl (s2 _ _ eW)), fun t nt => ?_⟩⟩
    have s3 := same_upd (o := .tup xs) nt
    exact q1 e _ t xs ((s1.trans s2).trans s3) ((s1.trans s2).free nt) upd_same (dpa_same (s2.trans s3) _ _ ha)
/-! ### how long texts are, joined and split -/
theorem app_lenT (a b : Str) : (a ++ b).length = a.length + b.length := by
  show (a.cps ++ b.cps).size = _
  rw [Array.size_append]
  rfl
theorem join_lenG (m : Str) : ∀ ys : List Str, (Str.join m ys).length = (ys.map (·.length)).sum + (ys.length - 1) * m.length
  | [] => (Nat.zero_mul m.length).symm.trans (Nat.zero_add _).symm
  | [y] => by
    show y.length = y.length + 0 + 0 * m.length
    omega
  | y :: z :: r => by
    have ih := join_lenG m (z :: r)
    have e1 : (Str.join m (y :: z :: r)).length = ((y ++ m) ++ Str.join m (z :: r)).length := rfl
    have e2 : ((y :: z :: r).map (·.length)).sum = y.length + ((z :: r).map (·.length)).sum := by rw [List.map_cons, List.sum_cons]
    have e3 : ((y :: z :: r).length - 1) * m.length = ((z :: r).length - 1) * m.length + m.length := Nat.succ_mul r.length m.length
    rw [e1, app_lenT, app_lenT, ih, e2, e3]
    omega
theorem split_sum (z m : Str) : ((Txt.split z m).map (·.length)).sum + ((Txt.split z m).length - 1) * m.length = z.length := by
  have h := congrArg Str.length (StrLaws.join_split z m)
  rw [join_lenG] at h
  exact h
theorem mem_sum : ∀ {ys : List Str} {y : Str}, y ∈ ys → y.length ≤ (ys.map (·.length)).sum
  | x :: r, y, h => by
    rw [List.map_cons, List.sum_cons]
    rcases List.mem_cons.mp h with h | h
    · rw [h]
      exact Nat.le_add_right _ _
    · exact Nat.le_trans (mem_sum h) (Nat.le_add_left _ _)
theorem split_mem {z m y : Str} (h : y ∈ Txt.split z m) : y.length ≤ z.length := by
  have h1 := mem_sum h
  have h2 := split_sum z m
  omega
theorem split_cnt {z m : Str} (hm : 1 ≤ m.length) : (Txt.split z m).length ≤ z.length + 1 := by
  have h2 := split_sum z m
  have h3 : (Txt.split z m).length - 1 ≤ ((Txt.split z m).length - 1) * m.length := Nat.le_mul_of_pos_right _ hm
  omega
theorem notIn_KT {X : Cx} {K : PySem.W.Frag} (h : X.K = K) : OpR X (compareOp .NotIn) (rIn K true) := h ▸ op_notIn_seq
theorem pi_listK {X : Cx} {K : PySem.W.Frag} {tg l : Expr} {tl : TE} (h : X.K = K) (hl : PE X l tl) : PI X tg l (iList K tl) := h ▸ pi_list hl
/-- parts that are flat stay what they are in any heap -/
def flatD : PyData → Bool
  | .list _ => false
  | .tuple _ => false
  | .dict _ => false
  | _ => true
theorem dpa_flat {K : PySem.W.Frag} {H H' : Hp} : ∀ {ds : List PyData} {xs : List V}, (∀ d ∈ ds, flatD d = true) → DpAll K H xs ds → DpAll K H' xs ds
  | [], _, _, h => by cases h; exact .nil
  | d :: r, _, hf, h => by
    cases h with
    | cons h1 h2 =>
      refine .cons ?_ (dpa_flat (fun x hx => hf x (List.mem_cons_of_mem _ hx)) h2)
      have := hf d List.mem_cons_self
      cases h1 with
      | non => exact .non
      | bl b => exact .bl b
      | int i => exact .int i
      | str z => exact .str z
      | lst h _ => cases this
      | tup h _ => cases this
theorem ents_flat (ws : List Str) : ∀ d ∈ entDs ws, flatD d = true := by
  have hs : ∀ (ws : List Str), ∀ d ∈ ws.map PyData.str, flatD d = true := fun ws d hd => by
    obtain ⟨x, _, rfl⟩ := List.mem_map.mp hd
    rfl
  match ws with
  | [] => exact hs _
  | [a] => exact hs _
  | a :: b :: r =>
    intro d hd
    rcases List.mem_cons.mp hd with hd | hd
    · rw [hd]; rfl
    rcases List.mem_cons.mp hd with hd | hd
    · rw [hd]
      split
      · cases numIn b.cps.toList <;> rfl
      · rfl
    · exact hs r d hd
theorem small1001 {n : Nat} (h : n ≤ 1001) : n < sizeLine := Nat.lt_of_le_of_lt h (by decide)
/-! ### a refusal with one field that is flat -/
def RaV (C : Addr) (H : Hp) (fs : List (Str × V)) (E : XK) : Prop := ∀ H' dd, Same H H' → H dd = none → H' dd = some (.xd fs) → E (.ref C) (some dd) H'
theorem RaV.same {C : Addr} {H H' : Hp} {fs : List (Str × V)} {E : XK} (h : RaV C H fs E) (s : Same H H') : RaV C H' fs E := fun H2 dd s2 n e => h H2 dd (s.trans s2) (s.free n) e
def spIni (C : Addr) (key : Str) (fl : V → Prop) : Sp := fun vs H Q _ => ∃ (a : Addr) (v : V), vs = [.ref a, v] ∧ fl v ∧ H a = some (exo a C none) ∧
  ∀ H' dx, (∀ b o, b ≠ a → H b = some o → H' b = some o) → H dx = none → dx ≠ a → H' a = some (exo a C (some dx)) → H' dx = some (exd dx [(key, v)]) → Q .non H'
theorem raise1 {C : Addr} {key : Str} {fl : V → Prop} {v : V} {H : Hp} {E : XK} (hv : fl v) (bad : RaV C H [(key, v)] E) (a : Addr) (na : H a = none) :
    spIni C key fl (.ref a :: ([v] ++ [])) (upd H a (exo a C none)) (fun v H2 => v = .non ∧ ∃ (d : Addr) (fs : List (Str × V)), H2 a = some (exo a C (some d)) ∧ H2 d = some (exd d fs) ∧ H d = none ∧ E (.ref C) (some d) (upd (del H2 a) d (.xd fs))) (fun _ _ _ => False) :=
  ⟨a, v, rfl, hv, upd_same, fun H4 dx keep ndx ne ea ed => by
    rw [upd_ne ne] at ndx
    refine ⟨rfl, dx, _, ea, ed, ndx, bad _ dx (fun b o h => ?_) ndx upd_same⟩
    have na2 : b ≠ a := ne_of_none h na
    rw [upd_ne (ne_of_none h ndx), del_ne na2]
    exact keep b o na2 (by rw [upd_ne na2]; exact h)⟩
def isIntV (v : V) : Prop := ∃ i : Int, v = .int i
def isStrV (v : V) : Prop := ∃ z : Str, v = .str z
--@@SPLIT
/-! ### texts read, or refused -/
inductive Rd where
  | told (d : PyData)
  | bad (i : Nat)
abbrev semi : Str := PySem.Str.ofString "; "
abbrev stroke : Str := PySem.Str.ofString "-"
theorem semi_len : semi.length = 2 := by decide +kernel
abbrev wordsT (z : Str) : List Str := Txt.split z blank
def entO (z : Str) : PyData := if entL (entDs (wordsT z)) = true then .tuple (entDs (wordsT z)) else .none
def rdEnt (z : Str) : Rd := if entL (entDs (wordsT z)) = true then .told (.tuple (entDs (wordsT z))) else .bad 0
def partsO (z : Str) : List PyData := (Txt.split z semi).map entO
def rdLog (z : Str) : Rd := if z = stroke then .told (.tuple []) else match badAt false 0 (partsO z) with
  | none => .told (.tuple (partsO z))
  | some i => .bad i
def lotO (z : Str) : PyData := numD (numIn z.cps.toList)
def lotsO (z : Str) : List PyData := (wordsT z).map lotO
def badLot : Nat → List PyData → Option Nat
  | _, [] => none
  | i, d :: r => if lotD d = true then badLot (i + 1) r else some i
def rdDeal (z : Str) : Rd := if z = stroke then .told (.tuple []) else match badLot 0 (lotsO z) with
  | none => .told (.tuple (lotsO z))
  | some i => .bad i
theorem words_len {z : Str} (h : z.length ≤ 900) : (wordsT z).length ≤ 1000 ∧ ∀ x ∈ wordsT z, x.length ≤ 1000 := by
  refine ⟨?_, fun x hx => ?_⟩
  · have := split_cnt (z := z) (m := blank) (by decide +kernel)
    show (Txt.split z blank).length ≤ 1000
    omega
  · have := split_mem hx
    omega
theorem entO_ge {z : Str} (h : z.length ≤ 900) : ge (entO z) = true := by
  unfold entO
  obtain ⟨h1, h2⟩ := words_len h
  split
  · show (decide ((entDs (wordsT z)).length ≤ 1000) && (entDs (wordsT z)).all gp) = true
    rw [decide_eq_true (by rw [ents_len]; exact h1), List.all_eq_true.mpr (ents_gp h2)]
    rfl
  · rfl
theorem tupD_entO (z : Str) : tupD (entO z) = entO z := by
  unfold entO
  split <;> rfl
theorem tupD_parts (z : Str) : (partsO z).map tupD = partsO z := by
  unfold partsO
  rw [List.map_map]
  exact List.map_congr_left fun x _ => tupD_entO x
/-- a promise of a text that is read -/
def spRd (K : PySem.W.Frag) (C : Addr) (f : Str → Rd) : Sp := fun vs H Q E => ∃ z : Str, vs = [.str z] ∧ z.length ≤ 900 ∧ (∀ d, f z = .told d → ∀ H' v, Same H H' → Dp K H' v d → Q v H') ∧ (∀ i : Nat, f z = .bad i → RaV C H [("at", .int (i : Int))] E)
theorem ok_init_NoText (T : Top w K mg) : FnOk P w K mg base CX0 4 T.a_init_NoText T.fd_init_NoText ["self", "at"] (spIni T.a_NoText "at" isIntV) := by
  have G_kept := ok_kept (P := P) (w := w) (base := base) T
  refine T.F_init_NoText.ok sc_init_NoText (fun vs H Q E h => ?_) (fun cdv A outer s H vs Q E hr h => ?_)
  · obtain ⟨a, i, rfl, _⟩ := h
    rfl
  · obtain ⟨a, _, rfl, ⟨i, rfl⟩, ha, q⟩ := h
    refine ⟨_, (pss_one (ps_ost (pv 0) (pe_call G_kept (hr.mono (by decide)) (by rfl) T.g_kept T.F_kept.kp T.b_kept .nil pass0 (pa_cons (pv 1) pa_nil)))), ?_⟩
    refine ⟨_, rfl, .int i, .int i, rfl, siz_int _, .int i, fun H1 v' s1 hv' => ?_⟩
    cases hv'
    refine ⟨.ref a, rfl, a, T.a_NoText, rfl, T.oex_NoText, T.no_NoText_at, .inl ⟨s1 _ _ ha, fun dx ndx ne => ?_⟩⟩
    exact q _ dx (fun b o hb h => (upd_ne hb).trans (same_upd ndx _ _ (s1 _ _ h))) (s1.free ndx) ne upd_same ((upd_ne ne).trans upd_same)
theorem okH_init_NoText (T : Top w K mg) : L2H.FnH P w K mg base CX0 4 T.a_init_NoText T.fd_init_NoText ["self", "at"] (spIni T.a_NoText "at" isIntV) := by
  have GH_kept := okH_kept (P := P) (w := w) (base := base) T
  refine HotAs.okH T.F_init_NoText sc_init_NoText (fun vs H Q E h => ?_) (fun cdv A outer s H vs Q E p hr hc h => ?_)
  · obtain ⟨a, i, rfl, _⟩ := h
    rfl
  · obtain ⟨a, _, rfl, ⟨i, rfl⟩, ha, q⟩ := h
    refine ⟨_, (pss_one (ps_ost (pv 0) (L2H.pe_callH (E := fun _ _ _ _ => False) GH_kept (hr.mono (by decide)) hc (by rfl) T.g_kept T.F_kept.kp T.b_kept (fun _ _ _ _ _ _ _ z => z.elim) (pa_cons (pv 1) pa_nil)))), ?_⟩
    refine ⟨_, rfl, .int i, .int i, rfl, rfl, .int i, fun H1 s1 => ?_⟩
    refine ⟨.ref a, rfl, a, T.a_NoText, rfl, T.oex_NoText, T.no_NoText_at, .inl ⟨s1 _ _ ha, fun dx ndx ne => ?_⟩⟩
    exact q _ dx (fun b o hb h => (upd_ne hb).trans (same_upd ndx _ _ (s1 _ _ h))) (s1.free ndx) ne upd_same ((upd_ne ne).trans upd_same)
theorem ok_read_entry (T : Top w K mg) : FnOk P w K mg base (L2.CX P w) 7 T.a_read_entry T.fd_read_entry ["text"] (spRd K T.a_NoText rdEnt) := by
  have G_entry_in := ok_entry_in (P := P) (w := w) (base := base) T
  have G_init_NoText := ok_init_NoText (P := P) (w := w) (base := base) T
  refine T.F_read_entry.okX sc_read_entry (fun vs H Q E h => ?_) (fun cdv A outer s H vs Q E hr h => ?_)
  · obtain ⟨z, rfl, _⟩ := h
    rfl
  · obtain ⟨z, rfl, hz, q, bad⟩ := h
    refine ⟨_, (pss_cons (ps_set (i := 1) sc_read_entry.nd rfl (.inl rfl) (pe_call G_entry_in hr (by rfl) T.g_entry_in T.F_entry_in.kp T.b_entry_in .nil pass0 (pa_cons (pv 0) pa_nil)))
      (pss_cons (ps_if (pt_cmpR op_isN (pv 1) pe_non (nomark _)) (pss_one (ps_raise rfl (takes_of rfl rfl rfl rfl) (pmk_oex T.oex_NoText T.iC_NoText T.tI_NoText G_init_NoText (hr.mono (by decide)) T.b_init_NoText .nil pass0 (by rfl) T.g_NoText (pa_cons pe_int pa_nil)))) pss_nil)
      (pss_one (ps_ret (pv 1))))), ?_⟩
    obtain ⟨w1, w2⟩ := words_len hz
    refine ⟨_, rfl, z, wordsT z, rfl, by omega, rfl, w1, w2, fun e H1 r xs s1 nr er hx => ?_, fun e H1 s1 => ?_⟩
    · refine ⟨.ref r, rfl, rfl, _, rfl, iteDN (decide_eq_false fun z => nomatch z) ⟨.ref r, rfl, ?_⟩⟩
      exact q _ (if_pos e) _ _ s1 (.tup (.inl (.inl er)) hx)
    · refine ⟨.non, rfl, rfl, _, rfl, iteDY (decide_eq_true rfl) ⟨by show 1 ≤ 1000; decide, fun a na => ?_⟩⟩
      exact raise1 ⟨0, rfl⟩ ((bad 0 (if_neg (by rw [e]; decide))).same s1) a na
theorem ok_read_log (T : Top w K mg) : FnOk P w K mg base (L2.CX P w) 9 T.a_read_log T.fd_read_log ["text"] (spRd K T.a_NoText rdLog) := by
  have G_entry_in := ok_entry_in (P := P) (w := w) (base := base) T
  have G_held_log := ok_held_log (P := P) (w := w) (base := base) T
  have GH_init_NoText := okH_init_NoText (P := P) (w := w) (base := base) T
  refine T.F_read_log.okX sc_read_log (fun vs H Q E h => ?_) (fun cdv A outer s H vs Q E hr h => ?_)
  · obtain ⟨z, rfl, _⟩ := h
    rfl
  · obtain ⟨z, rfl, hz, q, bad⟩ := h
    refine ⟨_, (pss_cons (ps_if (pt_cmpR op_eq (pv 0) (pe_glob (v := .str "-") (by rfl) T.g_NONE_AT_ALL.choose_spec ⟨_, rfl⟩) (nomark _)) (pss_one (ps_ret (pe_tup pa_nil))) pss_nil)
      (pss_one (HotAs.ps_try_asX (i := 1) rfl rfl sc_read_log.nd rfl rfl ⟨rfl, by decide, .inl T.g_BadLog⟩ (fun hd => L2H.passesAt_of rfl hd) (takes_of rfl rfl rfl rfl) (fun W pn xe tk _ => (pss_one (ps_ret (pe_callS G_held_log hr (by rfl) T.g_held_log T.F_held_log.kp T.b_held_log (fun σ => L2N.passAt tk σ) (pa_cons (pe_lc (own := [("part", 2)]) (g := gName 2) (by rfl) sc_read_log.nd (pi_listK (K := K) rfl (SeqK.pe_bmK (K := K) rfl PySem.F.plainAttrs_str PySem.F.slot_str_split PySem.F.type_str_split mt_split (pv 0) (pa_cons pe_str pa_nil))) (blkOk_by (own := [("part", 2)]) (N := ["text", "why", "part"]) (sc := defScope s_read_log) (by decide +kernel)) (fun _ _ _ _ _ => (pg_name (i := 2) sc_read_log.nd rfl (Or.inl rfl))) (fun _ _ _ _ _ => pts_nil) (fun _ _ _ _ _ => (pe_call G_entry_in (hr.mono (by decide)) (by rfl) T.g_entry_in T.F_entry_in.kp T.b_entry_in .nil pass0 (pa_cons (pv 2) pa_nil)))) pa_nil))))) (fun a oe cls d pn xe hz hf tk hot => (pss_one (L2H.ps_raiseHN hot tk (L2H.pmk5_oexH T.oex_NoText T.iC_NoText T.tI_NoText GH_init_NoText (L2H.roomH_mark (hr.mono (by decide)) _) hot T.b_init_NoText pass0 (by rfl) T.g_NoText (pa_cons (HotAs.pe_sx (pe_xf T.xf T.no_at (L2N.Zn.zc hz) hf (pv 1))) pa_nil)))))))), ?_⟩
    refine ⟨_, rfl, rfl, _, rfl, ?_⟩
    by_cases e0 : z = stroke
    · refine iteDY (decide_eq_true (congrArg V.str e0)) ⟨Nat.zero_le _, fun r nr => ?_⟩
      exact q _ (if_pos e0) _ _ (same_upd nr) (.tup (.inl (.inl upd_same)) .nil)
    refine iteDN (decide_eq_false fun y => e0 (V.str.inj y)) ?_
    have q : badAt false 0 (partsO z) = none → ∀ H' v, Same H H' → Dp K H' v (.tuple (partsO z)) → Q v H' := fun e => q _ (by unfold rdLog; rw [if_neg e0, e])
    have bad : ∀ i : Nat, badAt false 0 (partsO z) = some i → RaV T.a_NoText H [("at", .int (i : Int))] E := fun i e => bad i (by unfold rdLog; rw [if_neg e0, e])
    have cnt := split_cnt (z := z) (m := semi) (by decide +kernel)
    refine ⟨_, rfl, rfl, _, _, rfl, rfl, by decide +kernel, Nat.le_trans (show z.length + 2 ≤ 1000 by omega) (by decide), fun W nW => ?_⟩
    have sW := same_upd (o := .lst ((Txt.split z semi).map V.str)) nW
    have eW : upd H W (.lst ((Txt.split z semi).map V.str)) W = some (.lst ((Txt.split z semi).map V.str)) := upd_same
    generalize upd H W (.lst ((Txt.split z semi).map V.str)) = H1 at sW eW ⊢
    refine ⟨W, rfl, ⟨_, .inl (.inl eW)⟩, fun D hD => lc_it (walk_list (xs := (Txt.split z semi).map V.str)) (fun i H' => Same H1 H' ∧ ∃ ys, H' D = some (.lst ys) ∧ DpAll K (wo H' (fun c => c = D)) ys ((partsO z).take i)) ⟨same_upd hD, [], upd_same, .nil⟩ (fun i H' _ h => .inl (.inl (h.1 _ _ eW))) ?_ ?_⟩
    · rintro i v H2 H3 hi ⟨sm, ys, eD, hy⟩ ⟨rfl, hx⟩
      rw [List.getElem?_map] at hx
      obtain ⟨x, fx, rfl⟩ : ∃ x, (Txt.split z semi)[i]? = some x ∧ V.str x = v := by
        cases e1 : (Txt.split z semi)[i]? with
        | none => rw [e1] at hx; cases hx
        | some x => rw [e1] at hx; exact ⟨x, rfl, Option.some.inj hx⟩
      have lx := split_mem (List.mem_of_getElem? fx)
      obtain ⟨w1, w2⟩ := words_len (show x.length ≤ 900 by omega)
      have ly := dpa_len _ _ hy
      rw [List.length_take] at ly
      have fp : (partsO z)[i]? = some (entO x) := by unfold partsO; rw [List.getElem?_map, fx]; rfl
      have lp : (partsO z).length = (Txt.split z semi).length := List.length_map _
      have more : ∀ (H4 : Hp) (v : V), Same H3 H4 → Dp K (wo H4 (fun c => c = D)) v (entO x) → ∃ acc, H4 D = some (.lst acc) ∧ acc.length < sizeLine ∧ (Same H1 (upd H4 D (.lst (acc ++ [v]))) ∧ ∃ ys, (upd H4 D (.lst (acc ++ [v]))) D = some (.lst ys) ∧ DpAll K (wo (upd H4 D (.lst (acc ++ [v]))) (fun c => c = D)) ys ((partsO z).take (i + 1))) := fun H4 v s4 hv => by
        have m5 : Same (wo H3 (fun c => c = D)) (wo (upd H4 D (.lst (ys ++ [v]))) (fun c => c = D)) := fun c o h => by
          have h2 := wo_some h
          rw [wo_in (X := fun c => c = D) h2.1, upd_ne h2.1]
          exact s4 _ _ h2.2
        have m6 : Same (wo H4 (fun c => c = D)) (wo (upd H4 D (.lst (ys ++ [v]))) (fun c => c = D)) := fun c o h => by
          have h2 := wo_some h
          rw [wo_in (X := fun c => c = D) h2.1, upd_ne h2.1]
          exact h2.2
        refine ⟨ys, s4 _ _ eD, small1000 (by omega), fun c o h => (upd_ne (ne_of_none h hD)).trans (s4 _ _ (sm _ _ h)), _, upd_same, ?_⟩
        rw [List.take_add_one, fp]
        exact dpa_snoc (dp_same m6 _ _ hv) _ _ (dpa_same m5 _ _ hy)
      refine ⟨rfl, _, rfl, x, wordsT x, rfl, by omega, rfl, w1, w2, fun e H4 r xs s4 nr er hx => more H4 _ s4 ?_, fun e H4 s4 => more H4 _ s4 ?_⟩
      · unfold entO
        rw [if_pos e]
        have nrD : r ≠ D := Ne.symm (ne_of_none eD nr)
        refine .tup (.inl (.inl ((wo_in (X := fun c => c = D) nrD).trans er))) ?_
        exact dpa_flat (ents_flat _) hx
      · unfold entO
        rw [if_neg (by rw [e]; decide)]
        exact .non
    rintro H2 ⟨sm, ys, eD, hy⟩
    have lp : (partsO z).length = (Txt.split z semi).length := List.length_map _
    rw [List.length_map, ← lp, List.take_length] at hy
    refine ⟨D, ys, partsO z, rfl, .inl (.inl eD), dpa_same wo_same _ _ hy, fun d hd => ?_, by omega, fun hn H3 r s3 hr3 => ?_, fun i hi H3 dd s3 nd ed => ?_⟩
    · unfold partsO at hd
      obtain ⟨x, hx, rfl⟩ := List.mem_map.mp hd
      exact entO_ge (by have := split_mem hx; omega)
    · rw [tupD_parts] at hr3
      exact q hn _ _ ((sW.trans sm).trans s3) hr3
    · refine ⟨true, T.exm, (fun _ a0 na0 => ⟨.ref a0, rfl, rfl, rfl, dd, _, .int (i : Nat), rfl, ed, by simp [List.lookup], by show 1 ≤ 1000; decide, fun a na => ?_⟩), fun y => Bool.noConfusion y⟩
      exact raise1 ⟨_, rfl⟩ ((bad i hi).same ((sW.trans sm).trans s3)) a na
theorem ok_read_dealing (T : Top w K mg) : FnOk P w K mg base (L2.CX P w) 6 T.a_read_dealing T.fd_read_dealing ["text"] (spRd K T.a_NoText rdDeal) := by
  have G_number_in := ok_number_in (P := P) (w := w) (base := base) T
  have G_is_lot := ok_is_lotD (P := P) (w := w) (base := base) T
  have G_init_NoText := ok_init_NoText (P := P) (w := w) (base := base) T
  refine T.F_read_dealing.okX sc_read_dealing (fun vs H Q E h => ?_) (fun cdv A outer s H vs Q E hr h => ?_)
  · obtain ⟨z, rfl, _⟩ := h
    rfl
  · obtain ⟨z, rfl, hz, q, bad⟩ := h
    refine ⟨_, (pss_cons (ps_if (pt_cmpR op_eq (pv 0) (pe_glob (v := .str "-") (by rfl) T.g_NONE_AT_ALL.choose_spec ⟨_, rfl⟩) (nomark _)) (pss_one (ps_ret (pe_tup pa_nil))) pss_nil)
      (pss_cons (ps_setLc (i := 1) (own := [("word", 4)]) (g := gName 4) (by rfl) sc_read_dealing.nd rfl rfl (sw_true rfl rfl rfl (by decide +kernel)) (pi_list (pe_bm PySem.F.plainAttrs_str PySem.F.slot_str_split PySem.F.type_str_split mt_split (pv 0) (pa_cons pe_str pa_nil))) (blkOk_by (own := [("word", 4)]) (N := ["text", "lots", "at", "lot", "word"]) (sc := defScope s_read_dealing) (by decide +kernel)) (fun _ _ _ _ _ => (pg_name (i := 4) sc_read_dealing.nd rfl (Or.inl rfl))) (fun _ _ _ _ _ => pts_nil) (fun _ _ _ _ _ => (pe_call G_number_in (hr.mono (by decide)) (by rfl) T.g_number_in T.F_number_in.kp T.b_number_in .nil pass0 (pa_cons (pv 4) pa_nil))))
      (pss_cons (ps_for (passes_of rfl) rfl (pi_enum (by rfl) T.m_enumerate (pa_cons (pv 1) pa_nil)) (pg_tup rfl (pgs_cons (pg_name (i := 2) sc_read_dealing.nd rfl (.inl rfl)) (pgs_cons (pg_name (i := 3) sc_read_dealing.nd rfl (.inl rfl)) pgs_nil))) (pss_one (ps_if (pt_not (pt_val (pe_call G_is_lot (hr.mono (by decide)) (by rfl) T.g_is_lot T.F_is_lot.kp T.b_is_lot .nil pass0 (pa_cons (pv 3) pa_nil)))) (pss_one (ps_raise rfl (takes_of rfl rfl rfl rfl) (pmk_oex T.oex_NoText T.iC_NoText T.tI_NoText G_init_NoText (hr.mono (by decide)) T.b_init_NoText .nil pass0 (by rfl) T.g_NoText (pa_cons (pv 2) pa_nil)))) pss_nil)))
      (pss_one (ps_ret (pe_callTy call_tuple_of (by rfl) T.m_tuple (by decide +kernel) (pa_cons (pv 1) pa_nil))))))), ?_⟩
    refine ⟨_, rfl, rfl, _, rfl, ?_⟩
    by_cases e0 : z = stroke
    · refine iteDY (decide_eq_true (congrArg V.str e0)) ⟨Nat.zero_le _, fun r nr => ?_⟩
      exact q _ (if_pos e0) _ _ (same_upd nr) (.tup (.inl (.inl upd_same)) .nil)
    refine iteDN (decide_eq_false fun y => e0 (V.str.inj y)) ?_
    have q : badLot 0 (lotsO z) = none → ∀ H' v, Same H H' → Dp K H' v (.tuple (lotsO z)) → Q v H' := fun e => q _ (by unfold rdDeal; rw [if_neg e0, e])
    have bad : ∀ i : Nat, badLot 0 (lotsO z) = some i → RaV T.a_NoText H [("at", .int (i : Int))] E := fun i e => bad i (by unfold rdDeal; rw [if_neg e0, e])
    obtain ⟨w1, w2⟩ := words_len hz
    refine ⟨_, rfl, rfl, _, _, rfl, rfl, by decide +kernel, Nat.le_trans (show z.length + 2 ≤ 1000 by omega) (by decide), fun W nW => ?_⟩
    have sW := same_upd (o := .lst ((wordsT z).map V.str)) nW
    have eW : upd H W (.lst ((wordsT z).map V.str)) W = some (.lst ((wordsT z).map V.str)) := upd_same

    generalize upd H W (.lst ((wordsT z).map V.str)) = H1 at sW eW ⊢
    refine ⟨W, rfl, ⟨_, .inl (.inl eW)⟩, fun D hD => lc_it (walk_list (xs := (wordsT z).map V.str)) (fun i H' => Same H1 H' ∧ H' D = some (.lst (((wordsT z).take i).map fun x => numV (numIn x.cps.toList)))) ⟨same_upd hD, upd_same⟩ (fun i H' _ h => .inl (.inl (h.1 _ _ eW))) ?_ ?_⟩
    · rintro i v H2 H3 hi ⟨sm, eD⟩ ⟨rfl, hx⟩
      rw [List.getElem?_map] at hx
      obtain ⟨x, fx, rfl⟩ : ∃ x, (wordsT z)[i]? = some x ∧ V.str x = v := by
        cases e1 : (wordsT z)[i]? with
        | none => rw [e1] at hx; cases hx
        | some x => rw [e1] at hx; exact ⟨x, rfl, Option.some.inj hx⟩
      have lx := w2 x (List.mem_of_getElem? fx)
      refine ⟨rfl, _, rfl, x, rfl, by omega, fun H4 s4 => ⟨_, s4 _ _ eD, ?_, fun c o h => (upd_ne (ne_of_none h hD)).trans (s4 _ _ (sm _ _ h)), ?_⟩⟩
      · rw [List.length_map, List.length_take]
        exact small1001 (by omega)
      · rw [upd_same, List.take_add_one, fx, List.map_append]
        rfl
    rintro H2 ⟨sm, eD⟩
    rw [List.length_map, List.take_length] at eD
    have hd : ∀ H' , DpAll K H' ((wordsT z).map fun x => numV (numIn x.cps.toList)) (lotsO z) := fun H' => by
      unfold lotsO
      generalize wordsT z = ws
      induction ws with
      | nil => exact .nil
      | cons a r ih => exact .cons (numV_dp _) ih
    have s2 := sW.trans sm
    refine ⟨_, rfl, D, _, rfl, .inl (.inl eD), for_it (walk_enum (xs := (wordsT z).map fun x => numV (numIn x.cps.toList))) (fun i σ H' => Same H2 H' ∧ badLot 0 (lotsO z) = badLot i ((lotsO z).drop i) ∧ ∃ y2 y3 y4, σ = [some (.str z), some (.ref D), y2, y3, y4]) ⟨Same.refl _, rfl, _, _, _, rfl⟩ (fun i σ H' _ h => .inl (.inl (h.1 _ _ eD))) ?_ ?_⟩
    · rintro i v σ H3 H4 hi ⟨sm3, hb, y2, y3, y4, rfl⟩ ⟨t, u1, u2, rfl, nt, rfl, e1, e2⟩
      cases e1
      have st := same_upd (o := .tup [.int (i : Nat), u2]) nt
      obtain ⟨d, fd, gd⟩ := dpa_at _ _ (hd (upd H3 t (.tup [.int (i : Nat), u2]))) i u2 e2
      have dr : (lotsO z).drop i = d :: (lotsO z).drop (i + 1) := by
        obtain ⟨h1, h2⟩ := List.getElem?_eq_some_iff.mp fd
        rw [List.drop_eq_getElem_cons h1, h2]
      rw [dr] at hb
      refine ⟨t, _, rfl, .inl (.inl upd_same), rfl, _, _, rfl, _, _, rfl, rfl, ?_⟩
      refine ⟨u2, rfl, u2, d, rfl, gd, _, rfl, ?_⟩
      cases hl : lotD d with
      | true =>
        refine iteF ⟨sm3.trans st, ?_, _, _, _, rfl⟩
        rw [hb]
        exact if_pos hl
      | false =>
        have hbi : badLot 0 (lotsO z) = some i := hb.trans (if_neg (by rw [hl]; decide))
        exact iteT ⟨_, rfl, by show 1 ≤ 1000; decide, fun a na => raise1 ⟨_, rfl⟩ ((bad i hbi).same ((s2.trans sm3).trans st)) a na⟩
    · rintro σ H3 ⟨sm3, hb, y2, y3, y4, rfl⟩
      have hn : badLot 0 (lotsO z) = none := by
        rw [hb, List.drop_of_length_le (by unfold lotsO; rw [List.length_map, List.length_map]; exact Nat.le_refl _)]
        rfl
      refine ⟨.ref D, rfl, D, _, rfl, .inl ⟨.inl (.inl (sm3 _ _ eD)), fun r nr => ?_⟩⟩
      exact q hn _ _ ((s2.trans sm3).trans (same_upd nr)) (.tup (.inl (.inl upd_same)) (hd _))
--@@SPLIT
/-! ### one figure, by the law's own look -/
theorem sgs_in {b : Str} {cs : List Nat} : inV (.str b) (LsT.sgs cs) = (cs.any fun c => (⟨#[c]⟩ : Str) == b) := by
  unfold inV LsT.sgs
  rw [List.any_map]
  rfl
theorem sgs_flat (cs : List Nat) : (LsT.sgs cs).all flatV = true := by
  unfold LsT.sgs
  rw [List.all_map]
  exact List.all_eq_true.mpr fun _ _ => rfl
abbrev N19 : Str := PySem.Str.ofString "123456789"
abbrev N07 : Str := PySem.Str.ofString "01234567"
def nineF (b : Str) : Bool := inV (.str b) (LsT.sgs N19.cps.toList)
def sevenF (b : Str) : Bool := inV (.str b) (LsT.sgs N07.cps.toList)
theorem n19 : N19.cps.toList = [49, 50, 51, 52, 53, 54, 55, 56, 57] := by decide +kernel
theorem n07 : N07.cps.toList = [48, 49, 50, 51, 52, 53, 54, 55] := by decide +kernel
theorem nineF_iff (b : Str) : nineF b = true ↔ ∃ c, 49 ≤ c ∧ c ≤ 57 ∧ b = ⟨#[c]⟩ := by
  unfold nineF
  rw [sgs_in, n19, List.any_eq_true]
  constructor
  · rintro ⟨c, hc, e⟩
    refine ⟨c, ?_, ?_, (beq_iff_eq.mp e).symm⟩ <;> · simp only [List.mem_cons, List.not_mem_nil, or_false] at hc; omega
  · rintro ⟨c, h1, h2, rfl⟩
    refine ⟨c, ?_, beq_self_eq_true _⟩
    simp only [List.mem_cons, List.not_mem_nil, or_false]
    omega
theorem seven_iff (b : Str) : sevenF b = true ↔ ∃ c, 48 ≤ c ∧ c ≤ 55 ∧ b = ⟨#[c]⟩ := by
  unfold sevenF
  rw [sgs_in, n07, List.any_eq_true]
  constructor
  · rintro ⟨c, hc, e⟩
    refine ⟨c, ?_, ?_, (beq_iff_eq.mp e).symm⟩ <;> · simp only [List.mem_cons, List.not_mem_nil, or_false] at hc; omega
  · rintro ⟨c, h1, h2, rfl⟩
    refine ⟨c, ?_, beq_self_eq_true _⟩
    simp only [List.mem_cons, List.not_mem_nil, or_false]
    omega
theorem num_one {c : Nat} (h0 : 48 ≤ c) (h1 : c ≤ 57) : numIn (⟨#[c]⟩ : Str).cps.toList = some (c - 48) := by
  unfold numIn
  have ok : numOk [c] = true := by
    unfold numOk
    rw [List.all_cons, (dg_iff c).mpr ⟨h0, h1⟩]
    simp
  rw [show (⟨#[c]⟩ : Str).cps.toList = [c] from rfl, if_pos ok]
  show some (0 * 10 + (c - 48)) = _
  rw [Nat.zero_mul, Nat.zero_add]
theorem val_ge (cs : List Nat) : ∀ acc : Nat, acc ≤ cs.foldl (fun acc c => acc * 10 + (c - 48)) acc := by
  induction cs with
  | nil => exact fun _ => Nat.le_refl _
  | cons c r ih =>
    intro acc
    exact Nat.le_trans (by omega) (ih (acc * 10 + (c - 48)))
theorem num_small {b : Str} {n : Nat} (h : numIn b.cps.toList = some n) (hn : n ≤ 9) : ∃ c, 48 ≤ c ∧ c ≤ 57 ∧ b = ⟨#[c]⟩ ∧ n = c - 48 := by
  unfold numIn at h
  by_cases ok : numOk b.cps.toList = true
  · rw [if_pos ok] at h
    have hv := Option.some.inj h
    obtain ⟨⟨cs⟩⟩ := b
    have e0 : (⟨⟨cs⟩⟩ : Str).cps.toList = cs := rfl
    rw [e0] at ok hv
    unfold numOk at ok
    obtain ⟨o1, o2⟩ := Bool.and_eq_true_iff.mp ok
    obtain ⟨o3, o4⟩ := Bool.and_eq_true_iff.mp o2
    obtain ⟨o5, _⟩ := Bool.and_eq_true_iff.mp o1
    match cs, o3, o4, o5, hv with
    | [], _, _, o5, _ => cases o5
    | [c], o3, _, _, hv =>
      have hc := (dg_iff c).mp (List.all_eq_true.mp o3 c (by simp))
      refine ⟨c, hc.1, hc.2, rfl, ?_⟩
      rw [← hv]
      show 0 * 10 + (c - 48) = _
      omega
    | c :: d :: r, o3, o4, _, hv =>
      have hc := (dg_iff c).mp (List.all_eq_true.mp o3 c (by simp))
      have c0 : c ≠ 48 := fun z => by
        subst z
        have e1 : decide ((48 :: d :: r).head? = some 48) = true := decide_eq_true rfl
        have e2 : decide (1 < (((48 :: d :: r).length : Nat) : Int)) = true := decide_eq_true (by rw [List.length_cons, List.length_cons]; omega)
        rw [e1, e2] at o4
        cases o4
      have g := val_ge r ((0 * 10 + (c - 48)) * 10 + (d - 48))
      have hv : r.foldl (fun acc c => acc * 10 + (c - 48)) ((0 * 10 + (c - 48)) * 10 + (d - 48)) = n := hv
      omega
  · rw [if_neg ok] at h
    cases h
theorem nine_many {b : Str} (h : nineF b = false) : manyD (numD (numIn b.cps.toList)) = false := by
  cases e : numIn b.cps.toList with
  | none => rfl
  | some n =>
    show (decide (1 ≤ (n : Int)) && decide ((n : Int) ≤ 9)) = false
    by_cases h9 : n ≤ 9
    · obtain ⟨c, c0, c1, eb, en⟩ := num_small e h9
      by_cases hc : 49 ≤ c
      · rw [(nineF_iff b).mpr ⟨c, hc, c1, eb⟩] at h
        cases h
      · rw [decide_eq_false (show ¬ 1 ≤ (n : Int) by omega)]
        rfl
    · rw [decide_eq_false (show ¬ (n : Int) ≤ 9 by omega), Bool.and_false]
theorem seven_lot (b : Str) : lotD (lotO b) = sevenF b := by
  unfold lotO
  cases h : sevenF b with
  | true =>
    obtain ⟨c, c0, c1, rfl⟩ := (seven_iff b).mp h
    rw [num_one c0 (by omega)]
    show (decide (0 ≤ ((c - 48 : Nat) : Int)) && decide (((c - 48 : Nat) : Int) ≤ 7)) = true
    rw [decide_eq_true (by omega), decide_eq_true (by omega)]
    rfl
  | false =>
    cases e : numIn b.cps.toList with
    | none => rfl
    | some n =>
      show (decide (0 ≤ (n : Int)) && decide ((n : Int) ≤ 7)) = false
      by_cases h9 : n ≤ 7
      · obtain ⟨c, c0, c1, eb, en⟩ := num_small e (by omega)
        rw [(seven_iff b).mpr ⟨c, c0, by omega, eb⟩] at h
        cases h
      · rw [decide_eq_false (show ¬ (n : Int) ≤ 7 by omega), Bool.and_false]
theorem int_one {c : Nat} (h0 : 48 ≤ c) (h1 : c ≤ 57) : PySem.intText? (⟨#[c]⟩ : Str) = some ((c - 48 : Nat) : Int) := by
  have e := intText_digits (x := ⟨#[c]⟩) (fun d hd => by
    have : d = c := List.mem_singleton.mp hd
    omega) (fun z => nomatch z) (show (1 : Nat) ≤ 4300 by decide)
  rw [e]
  show some (((0 * 10 + (c - 48) : Nat)) : Int) = _
  rw [Nat.zero_mul, Nat.zero_add]
/-- the law's own reading of the words -/
def entLw : List Str → List PyData
  | a :: b :: r => .str a :: (if (goSpy a && nineF b) = true then numD (numIn b.cps.toList) else .str b) :: r.map PyData.str
  | ws => ws.map PyData.str
theorem go_no {a : Str} (h : goSpy a = true) : a = PySem.Str.ofString "go" ∨ a = PySem.Str.ofString "spy" := by
  obtain ⟨s, hs, e⟩ := List.any_eq_true.mp (show (wGS.map V.str).any (fun y => eqV y (.str a)) = true from h)
  obtain ⟨x, hx, rfl⟩ := List.mem_map.mp hs
  have e2 : x = a := beq_iff_eq.mp (show (x == a) = true from e)
  subst e2
  simpa [wGS] using hx
theorem ent_at1 {a : Str} {x y : PyData} {r : List PyData} (h : goSpy a = true) (hx : manyD x = false) (hy : manyD y = false) : entL (.str a :: x :: r) = false := by
  rcases go_no h with rfl | rfl
  · match r with
    | [] => exact hx
    | [_] => rfl
    | _ :: _ :: _ => rfl
  · match r with
    | [] => rfl
    | [c] => show (eqS (.str (PySem.Str.ofString "spy")) (PySem.Str.ofString "spy") && (manyD x && sgD c)) = false; rw [hx, Bool.false_and, Bool.and_false]
    | _ :: _ :: _ => rfl
theorem ent_two (ws : List Str) : entL (entLw ws) = entL (entDs ws) ∧ (entL (entDs ws) = true → entLw ws = entDs ws) := by
  match ws with
  | [] => exact ⟨rfl, fun _ => rfl⟩
  | [a] => exact ⟨rfl, fun _ => rfl⟩
  | a :: b :: r =>
    have e1 : entLw (a :: b :: r) = .str a :: (if (goSpy a && nineF b) = true then numD (numIn b.cps.toList) else .str b) :: r.map PyData.str := rfl
    have e2 : entDs (a :: b :: r) = .str a :: (if goSpy a = true then numD (numIn b.cps.toList) else .str b) :: r.map PyData.str := rfl
    rw [e1, e2]
    cases h : goSpy a with
    | false => exact ⟨rfl, fun _ => rfl⟩
    | true =>
      cases h2 : nineF b with
      | true => exact ⟨rfl, fun _ => rfl⟩
      | false =>
        have f1 : entL (.str a :: PyData.str b :: r.map PyData.str) = false := ent_at1 (y := .none) h rfl rfl
        have f2 : entL (.str a :: numD (numIn b.cps.toList) :: r.map PyData.str) = false := ent_at1 (y := .none) h (nine_many h2) rfl
        exact ⟨f1.trans f2.symm, fun z => absurd (f2.symm.trans z) Bool.false_ne_true⟩
theorem entO_law (z : Str) : entO z = if entL (entLw (wordsT z)) = true then .tuple (entLw (wordsT z)) else .none := by
  obtain ⟨h1, h2⟩ := ent_two (wordsT z)
  unfold entO
  rw [h1]
  by_cases h : entL (entDs (wordsT z)) = true
  · rw [if_pos h, if_pos h, h2 h]
  · rw [if_neg h, if_neg h]
theorem lws_len : ∀ ws : List Str, (entLw ws).length = ws.length
  | [] => rfl
  | [a] => rfl
  | a :: b :: r => by
    show (r.map PyData.str).length + 1 + 1 = r.length + 1 + 1
    rw [List.length_map]
theorem lws_gp {ws : List Str} (h : ∀ x ∈ ws, x.length ≤ 1000) : ∀ d ∈ entLw ws, gp d = true := by
  have hs : ∀ ws : List Str, (∀ x ∈ ws, x.length ≤ 1000) → ∀ d ∈ ws.map PyData.str, gp d = true := fun ws h d hd => by
    obtain ⟨x, hx, rfl⟩ := List.mem_map.mp hd
    exact decide_eq_true (h x hx)
  match ws, h with
  | [], h => exact hs _ h
  | [a], h => exact hs _ h
  | a :: b :: r, h =>
    intro d hd
    rcases List.mem_cons.mp hd with hd | hd
    · rw [hd]
      exact decide_eq_true (h a (by simp))
    rcases List.mem_cons.mp hd with hd | hd
    · rw [hd]
      split
      · exact numD_gp _
      · exact decide_eq_true (h b (by simp))
    · exact hs r (fun x hx => h x (List.mem_cons_of_mem _ (List.mem_cons_of_mem _ hx))) d hd
/-- what is due, as data -/
def dueR : Rd → PyData
  | .told d => .tuple [.str "told", d]
  | .bad i => .tuple [.str "NoText", .int (i : Int)]
def rdOf (way : Nat) : Str → Rd := if way = 0 then rdEnt else if way = 1 then rdLog else rdDeal
theorem ents_ok (ws : List Str) (h : ws.length ≤ 1000) : okD 1 (.tuple (entDs ws)) = true := by
  refine Bool.and_eq_true_iff.mpr ⟨decide_eq_true (by rw [ents_len]; exact h), List.all_eq_true.mpr fun d hd => ?_⟩
  have := ents_flat ws d hd
  cases d <;> first | rfl | cases this
theorem okD_mono : ∀ {n : Nat} {d : PyData}, okD n d = true → okD (n + 1) d = true
  | n, .none, _ => by cases n <;> rfl
  | n, .bool _, _ => by cases n <;> rfl
  | n, .int _, _ => by cases n <;> rfl
  | n, .str _, _ => by cases n <;> rfl
  | n + 1, .tuple ds, h => by
    obtain ⟨h1, h2⟩ := Bool.and_eq_true_iff.mp (show (decide (ds.length ≤ 1000) && ds.all fun d => okD n d) = true from h)
    exact Bool.and_eq_true_iff.mpr ⟨h1, List.all_eq_true.mpr fun d hd => okD_mono (List.all_eq_true.mp h2 d hd)⟩
  | 0, .tuple ds, h => by cases h
  | n, .list ds, h => by cases n <;> cases h
  | n, .dict ds, h => by cases n <;> cases h
theorem entO_ok {z : Str} (h : z.length ≤ 900) : okD 1 (entO z) = true := by
  unfold entO
  split
  · exact ents_ok _ (words_len h).1
  · rfl
theorem told_ok {n : Nat} {d : PyData} (h : okD n d = true) : okD (n + 1) (dueR (.told d)) = true := by
  show (decide (2 ≤ 1000) && (okD n (.str "told") && (okD n d && true))) = true
  rw [h]
  cases n <;> rfl
theorem bad_ok (n : Nat) (i : Nat) : okD (n + 1) (dueR (.bad i)) = true := by
  cases n <;> rfl
theorem due_ok {way : Nat} {z : Str} (h : z.length ≤ 900) : okD 3 (dueR (rdOf way z)) = true := by
  have cnt := split_cnt (z := z) (m := semi) (by decide +kernel)
  obtain ⟨w1, w2⟩ := words_len h
  unfold rdOf
  split
  · unfold rdEnt
    split
    · exact told_ok (okD_mono (ents_ok _ w1))
    · exact bad_ok 2 0
  split
  · unfold rdLog
    split
    · exact told_ok (n := 2) rfl
    split
    · refine told_ok (n := 2) (Bool.and_eq_true_iff.mpr ⟨decide_eq_true ?_, List.all_eq_true.mpr fun d hd => ?_⟩)
      · unfold partsO
        rw [List.length_map]
        omega
      · unfold partsO at hd
        obtain ⟨x, hx, rfl⟩ := List.mem_map.mp hd
        exact entO_ok (by have := split_mem hx; omega)
    · exact bad_ok 2 _
  · unfold rdDeal
    split
    · exact told_ok (n := 2) rfl
    split
    · refine told_ok (n := 2) (Bool.and_eq_true_iff.mpr ⟨decide_eq_true ?_, List.all_eq_true.mpr fun d hd => ?_⟩)
      · unfold lotsO
        rw [List.length_map]
        exact w1
      · unfold lotsO at hd
        obtain ⟨x, hx, rfl⟩ := List.mem_map.mp hd
        unfold lotO
        cases numIn x.cps.toList <;> rfl
    · exact bad_ok 2 _
--@@SPLIT
/-! ### drawn texts, drawn things -/
theorem op_mulS {X : Cx} : OpR X (binaryOp .Mult) (fun x y H Q => ∃ (z : Str) (n : Int), x = .str z ∧ y = .int n ∧ z.length ≤ 16 ∧ 0 ≤ n ∧ n ≤ 1048576 ∧ ∀ z' : Str, (z'.length : Int) = (z.length : Int) * n → Q (.str z') H) := by
  intro pins s σ H x y v u Q I rx ry h
  obtain ⟨z, n, rfl, rfl, hz, h0, h1, q⟩ := h
  obtain ⟨t, rfl⟩ := rx
  obtain ⟨t', rfl⟩ := ry
  exact PySem.W.KXi.mul rfl hz (by omega) (by omega) fun t' k _ h2 => ⟨.str _, H, I.tok _, ⟨_, rfl⟩, q _ (h2 h0)⟩
theorem cut_len (z : Str) (lo hi : Option Int) : (cutS z lo hi).length ≤ z.length := by
  show (((z.cps.toList.drop (HT.sIx z.length 0 lo)).take (HT.sIx z.length z.length hi - HT.sIx z.length 0 lo)).toArray).size ≤ z.length
  rw [List.size_toArray, List.length_take, List.length_drop, len_toList]
  omega
theorem app_len (a b : Str) : (a ++ b).length = a.length + b.length := by
  show (a.cps ++ b.cps).size = _
  rw [Array.size_append]
  rfl
theorem str_at {z : Str} {i : Int} (h0 : 0 ≤ i) (h1 : i < (z.length : Int)) : ∃ c, atI z.cps.toList i = some c := by
  obtain ⟨j, rfl⟩ : ∃ j : Nat, i = j := ⟨i.toNat, by omega⟩
  have hj : j < z.cps.toList.length := by
    rw [len_toList]
    omega
  exact ⟨z.cps.toList[j], atI_nat (List.getElem?_eq_getElem hj)⟩
def spText (lo hi : Nat) : Sp := fun vs H Q _ => ∃ p, vs = [.ref p] ∧ Pool H p ∧ ∀ H' (z : Str), But p H H' → Pool H' p → lo ≤ z.length → z.length ≤ hi → (∀ c ∈ z.cps.toList, c ∈ SMALLs.cps.toList) → Q (.str z) H'
theorem app_mem {a b : Str} {c : Nat} (h : c ∈ (a ++ b).cps.toList) : c ∈ a.cps.toList ∨ c ∈ b.cps.toList := by
  have h2 : c ∈ (a.cps ++ b.cps).toList := h
  rw [Array.toList_append] at h2
  exact List.mem_append.mp h2
theorem join_mem {S : List Nat} : ∀ ys : List Str, (∀ y ∈ ys, ∀ c ∈ y.cps.toList, c ∈ S) → ∀ c ∈ (Str.join (PySem.Str.ofString "") ys).cps.toList, c ∈ S
  | [], _, c, h => by
    have h2 : c ∈ ([] : List Nat) := h
    cases h2
  | [y], hy, c, h => hy y (by simp) c h
  | y :: z :: r, hy, c, h => by
    have h2 : c ∈ ((y ++ PySem.Str.ofString "") ++ Str.join (PySem.Str.ofString "") (z :: r)).cps.toList := h
    rcases app_mem h2 with h3 | h3
    · rcases app_mem h3 with h4 | h4
      · exact hy y (by simp) c h4
      · have h5 : c ∈ ([] : List Nat) := by
          rw [show (PySem.Str.ofString "").cps.toList = [] by decide +kernel] at h4
          exact h4
        cases h5
    · exact join_mem (z :: r) (fun x hx => hy x (List.mem_cons_of_mem _ hx)) c h3
theorem ok_of_mem {z : Str} (h : ∀ c ∈ z.cps.toList, c < 0x110000) : PyData.strOk z = true := by
  show z.cps.all (fun c => decide (c < 0x110000)) = true
  rw [Array.all_eq_true_iff_forall_mem]
  intro c hc
  exact decide_eq_true (h c (Array.mem_toList_iff.mpr hc))
theorem small_ok : ∀ c ∈ SMALLs.cps.toList, c < 0x110000 := by decide +kernel
theorem cut_mem {z : Str} {lo hi : Option Int} {c : Nat} (h : c ∈ (cutS z lo hi).cps.toList) : c ∈ z.cps.toList := by
  have h2 : c ∈ (z.cps.toList.drop (HT.sIx z.length 0 lo)).take (HT.sIx z.length z.length hi - HT.sIx z.length 0 lo) := h
  exact List.mem_of_mem_drop (List.mem_of_mem_take h2)
theorem at_mem {z : Str} {i : Int} {c : Nat} (h : atI z.cps.toList i = some c) : c ∈ z.cps.toList := by
  obtain ⟨j, _, h2, _⟩ := atI_get h
  exact List.mem_of_getElem? h2
theorem join_len : ∀ ys : List Str, (∀ y ∈ ys, y.length = 1) → (Str.join (PySem.Str.ofString "") ys).length = ys.length
  | [], _ => rfl
  | [y], h => by
    show y.length = 1
    exact h y (by simp)
  | y :: z :: r, h => by
    show ((y ++ PySem.Str.ofString "") ++ Str.join (PySem.Str.ofString "") (z :: r)).length = _
    rw [app_len, app_len, join_len (z :: r) (fun x hx => h x (List.mem_cons_of_mem _ hx)), h y (by simp), s0]
    show 1 + 0 + (z :: r).length = (z :: r).length + 1
    omega
theorem sum_ones : ∀ ys : List Str, (∀ y ∈ ys, y.length = 1) → (ys.map (·.length)).sum = ys.length
  | [], _ => rfl
  | y :: r, h => by
    rw [List.map_cons, List.sum_cons, sum_ones r (fun x hx => h x (List.mem_cons_of_mem _ hx)), h y (by simp), List.length_cons]
    omega
theorem ok_Lname (T : Top w K mg) : FnOk P w K mg base CX0 2 T.a_Lname T.fd_Lname ["_law_pool_here"] (spText 1 8) := by
  have G_Ltake := ok_Ltake (P := P) (w := w) (base := base) T
  refine T.F_Lname.ok sc_Lname (fun vs H Q E h => ?_) (fun cdv A outer s H vs Q E hr h => ?_)
  · obtain ⟨p, rfl, _⟩ := h
    rfl
  · obtain ⟨p, rfl, hp, q⟩ := h
    refine ⟨_, (pss_cons (ps_set (i := 1) sc_Lname.nd rfl (.inr rfl) pe_str)
      (pss_one (ps_ret (pe_bm PySem.F.plainAttrs_str PySem.F.slot_str_join PySem.F.type_str_join mt_join pe_str (pa_cons (pe_lc (own := [("_law_k", 2)]) (g := gName 2) (by rfl) sc_Lname.nd (pi_range1 (by rfl) T.m_range (pa_cons (pe_op op_add pe_int (pe_call G_Ltake hr (by rfl) T.g_Ltake T.F_Ltake.kp T.b_Ltake .nil pass0 (pa_cons (pv 0) (pa_cons pe_int pa_nil)))) pa_nil)) (blkOk_by (own := [("_law_k", 2)]) (N := ["_law_pool_here", "_law_letters", "_law_k"]) (sc := defScope s_Lname) (by decide +kernel)) (fun _ _ _ _ _ => (pg_name (i := 2) sc_Lname.nd rfl (Or.inl rfl))) (fun _ _ _ _ _ => pts_nil) (fun _ _ _ _ _ => (pe_ix ix_str (pv 1) (pe_call G_Ltake hr (by rfl) T.g_Ltake T.F_Ltake.kp T.b_Ltake .nil pass0 (pa_cons (pv 0) (pa_cons pe_int pa_nil))) (fun _ _ => rfl)))) pa_nil))))), ?_⟩
    refine ⟨rfl, .ref p, rfl, p, 8, rfl, by decide, by decide, hp, fun H1 r b1 hp1 r0 r1 => ?_⟩
    have l26 : SMALLs.length = 26 := by decide +kernel
    refine ⟨_, _, rfl, rfl, 1 + r, rfl, by omega, by omega, fun D hD => lc_range (lo := 0) (n := (1 + r).toNat) (fun i H' => Pool H' p ∧ But p H H' ∧ ∃ ys : List Str, ys.length = i ∧ (∀ y ∈ ys, y.length = 1) ∧ (∀ y ∈ ys, ∀ c ∈ y.cps.toList, c ∈ SMALLs.cps.toList) ∧ H' D = some (.lst (ys.map V.str))) ⟨hp1.upd (hp1.ne_new hD), b1.mut (b1.free (hp1.ne_new hD) hD), [], rfl, (fun _ h => nomatch h), (fun _ h => nomatch h), upd_same⟩ ?_ ?_⟩
    · rintro i H2 hi ⟨hp2, b2, ys, hl, h1, hm, eD⟩
      have nD : D ≠ p := hp1.ne_new hD
      refine ⟨rfl, ?_⟩
      refine ⟨_, rfl, .ref p, rfl, p, 26, rfl, by decide, by decide, hp2, fun H3 k b3 hp3 k0 k1 => ?_⟩
      obtain ⟨c, hc⟩ := str_at (z := SMALLs) k0 (by rw [l26]; omega)
      refine ⟨_, k, c, rfl, rfl, by decide +kernel, hc, _, b3 _ _ nD eD, ?_, hp3.upd nD, (b2.trans b3).mut (b1.free nD hD), ys ++ [⟨#[c]⟩], ?_, ?_, ?_, ?_⟩
      · rw [List.length_map]
        exact small1000 (by omega)
      · rw [List.length_append, hl]
        rfl
      · intro y hy
        rcases List.mem_append.mp hy with h | h
        · exact h1 y h
        · rw [List.mem_singleton.mp h]
          rfl
      · intro y hy c2 hc2
        rcases List.mem_append.mp hy with h | h
        · exact hm y h c2 hc2
        · rw [List.mem_singleton.mp h] at hc2
          have h3 : c2 ∈ [c] := hc2
          rw [List.mem_singleton.mp h3]
          exact at_mem hc
      · rw [upd_same, List.map_append]
        rfl
    · rintro H2 ⟨hp2, b2, ys, hl, h1, hm, eD⟩
      have e := join_len ys h1
      refine ⟨_, D, ys, rfl, rfl, .inl (.inl (.inl eD)), ?_, ?_⟩
      · rw [sum_ones ys h1, s0]
        show ys.length + ys.length * 0 ≤ 16777216
        omega
      · rw [TL.join_eq]
        exact q H2 _ b2 hp2 (by omega) (by omega) (join_mem ys hm)
theorem up_gr : ∀ c ∈ SMALLs.cps.toList, (Txt.upper ⟨#[c]⟩).cps.toList = [c - 32] ∧ grC (c - 32) = true ∧ c - 32 < 0x110000 := by decide +kernel
theorem all_sm {cs : List Nat} (h : ∀ c ∈ cs, c ∈ SMALLs.cps.toList) : cs.all smC = true := List.all_eq_true.mpr fun c hc => decide_eq_true (h c hc)
theorem nm_of {z : Str} (h1 : 1 ≤ z.length) (h8 : z.length ≤ 8) (hm : ∀ c ∈ z.cps.toList, c ∈ SMALLs.cps.toList) : nmL z.cps.toList = true := by
  unfold nmL shL
  rw [all_sm hm, len_toList, decide_eq_true (show (1 : Int) ≤ (z.length : Int) by omega), decide_eq_true (show (z.length : Int) ≤ 8 by omega)]
  rfl
theorem cut1_tl (z : Str) (h : 1 ≤ z.length) : (cutS z (some 1) none).cps.toList = z.cps.toList.drop 1 := by
  show (z.cps.toList.drop (HT.sIx z.length 0 (some 1))).take (HT.sIx z.length z.length none - HT.sIx z.length 0 (some 1)) = _
  have e1 : HT.sIx z.length 0 (some 1) = 1 := by
    unfold HT.sIx
    simp
    omega
  have e2 : HT.sIx z.length z.length none = z.length := rfl
  rw [e1, e2]
  exact List.take_of_length_le (by rw [List.length_drop, len_toList]; exact Nat.le_refl _)
theorem lo_of {z : Str} {c : Nat} (h1 : 1 ≤ z.length) (h8 : z.length ≤ 8) (hm : ∀ c ∈ z.cps.toList, c ∈ SMALLs.cps.toList) (hc : c ∈ SMALLs.cps.toList) : (Txt.upper ⟨#[c]⟩ ++ cutS z (some 1) none).cps.toList = (c - 32) :: z.cps.toList.drop 1 ∧ loL ((c - 32) :: z.cps.toList.drop 1) = true := by
  obtain ⟨u1, u2, _⟩ := up_gr c hc
  refine ⟨?_, ?_⟩
  · show ((Txt.upper ⟨#[c]⟩).cps ++ (cutS z (some 1) none).cps).toList = _
    rw [Array.toList_append, u1, cut1_tl z h1]
    rfl
  · show (shL ((c - 32) :: z.cps.toList.drop 1) && (grC (c - 32) && (z.cps.toList.drop 1).all smC)) = true
    have l : ((c - 32) :: z.cps.toList.drop 1).length = z.length := by
      rw [List.length_cons, List.length_drop, len_toList]
      omega
    unfold shL
    rw [u2, all_sm (fun d hd => hm d (List.mem_of_mem_drop hd)), l, decide_eq_true (show (1 : Int) ≤ (z.length : Int) by omega), decide_eq_true (show (z.length : Int) ≤ 8 by omega)]
    rfl
/-- a sign that is drawn: lone, or as a name -/
def spSign : Sp := fun vs H Q _ => ∃ (p : Addr) (b : Bool), vs = [.ref p, .bl b] ∧ Pool H p ∧ ∀ H' (z : Str), But p H H' → Pool H' p → z.length ≤ 12 → (PyData.strOk z = true ∧ Ent.sgS z = true) → Q (.str z) H'
theorem ok_Lsign (T : Top w K mg) : FnOk P w K mg base CX0 3 T.a_Lsign T.fd_Lsign ["_law_pool_here", "_law_lone"] spSign := by
  have G_Lname := ok_Lname (P := P) (w := w) (base := base) T
  refine T.F_Lsign.ok sc_Lsign (fun vs H Q E h => ?_) (fun cdv A outer s H vs Q E hr h => ?_)
  · obtain ⟨p, b, rfl, _⟩ := h
    rfl
  · obtain ⟨p, b, rfl, hp, q⟩ := h
    refine ⟨_, (pss_cons (ps_set (i := 2) sc_Lsign.nd rfl (.inl rfl) (pe_call G_Lname hr (by rfl) T.g_Lname T.F_Lname.kp T.b_Lname .nil pass0 (pa_cons (pv 0) pa_nil)))
      (pss_cons (ps_if (pt_val (pv 1)) (pss_one (ps_ret (pe_op op_add_str (pe_bm0 PySem.F.plainAttrs_str PySem.F.slot_str_upper PySem.F.type_str_upper mt_upper (pe_ix ix_str (pv 2) pe_int (fun _ _ => rfl))) (pe_slice sl_str (pv 2) (po_some pe_int) po_none)))) pss_nil)
      (pss_one (ps_ret (pv 2))))), ?_⟩
    refine ⟨.ref p, rfl, p, rfl, hp, fun H1 z b1 hp1 z0 z1 zm => ?_⟩
    refine ⟨.bl b, rfl, b, rfl, ite2 (fun e => ?_) (fun e => ?_)⟩
    · obtain ⟨c, hc⟩ := str_at (z := z) (i := 0) (by decide) (by omega)
      have hu1 : (⟨#[c]⟩ : Str).length = 1 := rfl
      have hcut := cut_len z (some 1) none
      have cm := zm c (at_mem hc)
      obtain ⟨el, lo⟩ := lo_of (c := c) z0 z1 zm cm
      have hl : (Txt.upper ⟨#[c]⟩ ++ cutS z (some 1) none).length ≤ 12 := by
        rw [← len_toList, el, List.length_cons, List.length_drop, len_toList]
        omega
      refine ⟨.str z, rfl, z, 0, c, rfl, rfl, thou (by omega), hc, rfl, _, rfl, rfl, (by rw [hu1]; decide), .str z, rfl, 1, rfl, z, rfl, thou (by omega), _, _, rfl, rfl, ?_, ?_⟩
      · have h3 := app_len (Txt.upper ⟨#[c]⟩) (cutS z (some 1) none)
        exact thou (by omega)
      exact q H1 _ b1 hp1 hl ⟨ok_of_mem fun c2 h2 => by
        rw [el] at h2
        rcases List.mem_cons.mp h2 with h3 | h3
        · rw [h3]
          exact (up_gr c cm).2.2
        · exact small_ok c2 (zm c2 (List.mem_of_mem_drop h3)), by unfold Ent.sgS; rw [el, lo, Bool.or_true]⟩
    · exact ⟨.str z, rfl, q H1 z b1 hp1 (by omega) ⟨ok_of_mem fun c2 h2 => small_ok c2 (zm c2 h2), by unfold Ent.sgS; rw [nm_of z0 z1 zm]; rfl⟩⟩
/-! ### the law's own reading of names and signs -/
theorem ok_Lis_name (T : Top w K mg) : FnOk P w K mg base CX0 1 T.a_Lis_name T.fd_Lis_name ["_law_thing"] (spIsV K nmV) := by
  refine T.F_Lis_name.ok sc_Lis_name (fun vs H Q E h => ?_) (fun cdv A outer s H vs Q E hr h => ?_)
  · obtain ⟨v, rfl, _⟩ := h
    rfl
  · obtain ⟨v, rfl, hv, q⟩ := h
    refine ⟨_, (pss_cons (ps_if (PW.pt (pw_or (pt_not (pt_val (pe_callB call_isi (by rfl) T.m_isinstance (by decide +kernel) (pa_cons (pv 0) (pa_cons (pe_bltn (v := .ty "str") (by rfl) T.m_str (by decide +kernel) rfl) pa_nil))))) (pw_or1 (pt_not (pt_chain op_lt op_lt pe_int (pe_callB call_len_str (by rfl) T.m_len (by decide +kernel) (pa_cons (pv 0) pa_nil)) pe_int))))) (pss_one (ps_ret pe_bl)) pss_nil)
      (pss_one (ps_ret (pe_callB (cr_all rfl) (by rfl) T.m_all (by decide +kernel) (pa_cons (pe_lc (own := [("_law_letter", 1)]) (g := gName 1) (by rfl) sc_Lis_name.nd (pi_str (pv 0)) (blkOk_by (own := [("_law_letter", 1)]) (N := ["_law_thing", "_law_letter"]) (sc := defScope s_Lis_name) (by decide +kernel)) (fun _ _ _ _ _ => (pg_name (i := 1) sc_Lis_name.nd rfl (Or.inl rfl))) (fun _ _ _ _ _ => pts_nil) (fun _ _ _ _ _ => (pe_cmpR op_in_sign (pv 1) pe_str (by rfl)))) pa_nil))))), ?_⟩
    rcases hv with ⟨z, rfl, hz⟩ | ⟨no, t, ty, k⟩
    · refine ⟨.str z, rfl, _, _, _, _, true, rfl, .ty _, .base (.str z), kit_ty (by decide +kernel), _, rfl, iteF ?_⟩
      have e0 : shV (.str z) = (decide (0 < (z.length : Int)) && decide ((z.length : Int) < 9)) := by
        show (decide (1 ≤ (z.cps.toList.length : Int)) && decide ((z.cps.toList.length : Int) ≤ 8)) = _
        rw [len_toList]
        by_cases h1 : 0 < (z.length : Int)
        · rw [decide_eq_true h1, decide_eq_true (show 1 ≤ (z.length : Int) by omega)]
          by_cases h2 : (z.length : Int) < 9
          · rw [decide_eq_true h2, decide_eq_true (show (z.length : Int) ≤ 8 by omega)]
          · rw [decide_eq_false h2, decide_eq_false (show ¬ (z.length : Int) ≤ 8 by omega)]
        · rw [decide_eq_false h1, decide_eq_false (show ¬ 1 ≤ (z.length : Int) by omega)]
          rfl
      have no : shV (.str z) = false → Q (.bl false) H := fun e => by
        have h := q H (Same.refl H)
        rw [show nmV (.str z) = false by show (shV (.str z) && z.cps.toList.all smC) = _; rw [e]; rfl] at h
        exact h
      refine ⟨.str z, rfl, z, rfl, thou hz, _, _, rfl, rfl, _, rfl, ite2 (fun e => ?_) (fun e => ?_)⟩
      · refine ⟨_, _, rfl, rfl, _, rfl, ?_⟩
        by_cases h2 : (z.length : Int) < 9
        · refine iteDN (by rw [decide_eq_true h2]; rfl) ?_
          refine ⟨.str z, rfl, z, rfl, fun D hD => lc_it walk_str (fun i H' => Same H H' ∧ H' D = some (.lst (((z.cps.toList.take i).map smC).map V.bl))) ⟨same_upd hD, upd_same⟩ (fun _ _ _ _ => trivial) ?_ ?_⟩
          · rintro i x H1 H2 hi ⟨sm, eD⟩ ⟨rfl, c, hc, rfl⟩
            refine ⟨rfl, ?_⟩
            refine ⟨_, rfl, c, _, rfl, rfl, _, eD, ?_, ?_, ?_⟩
            · rw [List.length_map, List.length_map, List.length_take, len_toList]
              exact small1000 (by omega)
            · exact fun b' o e => by
                rw [upd_ne (ne_of_none e hD)]
                exact sm _ _ e
            · rw [upd_same, List.take_add_one, Array.getElem?_toList, hc, List.map_append, List.map_append]
              rfl
          · rintro H1 ⟨sm, eD⟩
            have e2 : z.cps.toList.take z.cps.size = z.cps.toList := List.take_of_length_le (by rw [Array.length_toList]; exact Nat.le_refl _)
            rw [e2] at eD
            refine ⟨_, z.cps.toList.map smC, rfl, .inl (.inl eD), ?_⟩
            rw [all_map]
            have h := q _ sm
            rw [show nmV (.str z) = z.cps.toList.all smC by show (shV (.str z) && z.cps.toList.all smC) = _; rw [e0, e, decide_eq_true h2]; rfl] at h
            exact h
        · refine iteDY (by rw [decide_eq_false h2]; rfl) (no ?_)
          rw [e0, decide_eq_false h2, Bool.and_false]
      · refine ⟨_, rfl, no ?_⟩
        rw [e0, Bool.eq_false_iff.mpr e]
        rfl
    · have h := q H (Same.refl H)
      rw [(nmV_no no).1] at h
      exact ⟨v, rfl, _, _, _, _, false, rfl, .ty _, ty, kit_ty k, _, rfl, iteT h⟩
theorem app_one (c : Nat) (r : List Nat) : (⟨#[c]⟩ : Str) ++ (⟨⟨r⟩⟩ : Str) = ⟨⟨c :: r⟩⟩ := by
  show (⟨#[c] ++ (⟨r⟩ : Array Nat)⟩ : Str) = ⟨⟨c :: r⟩⟩
  rw [show (#[c] ++ (⟨r⟩ : Array Nat)) = ⟨c :: r⟩ from Array.ext' (by rw [Array.toList_append]; rfl)]
theorem sm97 : smC 97 = true := by decide +kernel
theorem gr_sm : ∀ c, grC c = true → smC c = false := by
  intro c h
  have h1 : c ∈ GREATs.cps.toList := of_decide_eq_true h
  have h2 : ∀ x ∈ GREATs.cps.toList, smC x = false := by decide +kernel
  exact h2 c h1
theorem sg_cons (c : Nat) (r : List Nat) : (nmL (c :: r) || loL (c :: r)) = nmL ((if grC c = true then 97 else c) :: r) := by
  show (shL (c :: r) && (c :: r).all smC || shL (c :: r) && (grC c && r.all smC)) = (shL ((if grC c = true then 97 else c) :: r) && ((if grC c = true then 97 else c) :: r).all smC)
  by_cases h : grC c = true
  · rw [if_pos h, List.all_cons, List.all_cons, gr_sm c h, sm97, h]
    rw [Bool.false_and, Bool.and_false, Bool.false_or]
    rfl
  · rw [if_neg h, Bool.eq_false_iff.mpr h, Bool.false_and, Bool.and_false, Bool.or_false]
theorem sA : PySem.Str.ofString "a" = (⟨#[97]⟩ : Str) := by decide +kernel
theorem ok_Lis_sign (T : Top w K mg) : FnOk P w K mg base CX0 2 T.a_Lis_sign T.fd_Lis_sign ["_law_thing"] (spIsV K sgV) := by
  have G_Lis_name := ok_Lis_name (P := P) (w := w) (base := base) T
  refine T.F_Lis_sign.ok sc_Lis_sign (fun vs H Q E h => ?_) (fun cdv A outer s H vs Q E hr h => ?_)
  · obtain ⟨v, rfl, _⟩ := h
    rfl
  · obtain ⟨v, rfl, hv, q⟩ := h
    refine ⟨_, (pss_cons (ps_if (PW.pt (pw_or (pt_not (pt_val (pe_callB call_isi (by rfl) T.m_isinstance (by decide +kernel) (pa_cons (pv 0) (pa_cons (pe_bltn (v := .ty "str") (by rfl) T.m_str (by decide +kernel) rfl) pa_nil))))) (pw_or1 (pt_cmpR op_eq (pv 0) pe_str (nomark _))))) (pss_one (ps_ret pe_bl)) pss_nil)
      (pss_cons (ps_set (i := 1) sc_Lis_sign.nd rfl (.inl rfl) (pe_ix ix_str (pv 0) pe_int (fun _ _ => rfl)))
      (pss_cons (ps_if (pt_cmpR op_in_sign (pv 1) pe_str (by rfl)) (pss_one (ps_set (i := 1) sc_Lis_sign.nd rfl (.inl rfl) pe_str)) pss_nil)
      (pss_one (ps_ret (pe_call G_Lis_name hr (by rfl) T.g_Lis_name T.F_Lis_name.kp T.b_Lis_name .nil pass0 (pa_cons (pe_op op_add_str (pv 1) (pe_slice sl_str (pv 0) (po_some pe_int) po_none)) pa_nil))))))), ?_⟩
    rcases hv with ⟨⟨⟨cs⟩⟩, rfl, hz⟩ | ⟨no, t, ty, k⟩
    · refine ⟨_, rfl, _, _, _, _, true, rfl, .ty _, .base (.str _), kit_ty (by decide +kernel), _, rfl, iteF ?_⟩
      refine ⟨_, rfl, rfl, _, rfl, ?_⟩
      match cs, hz, q with
      | [], _, q =>
        refine iteDY (by rw [s0]; exact decide_eq_true rfl) (q H (Same.refl H))
      | c :: r, hz, q =>
        have hz2 : r.length + 1 ≤ 1000 := hz
        refine iteDN (decide_eq_false (by rw [s0]; intro z; cases z)) ?_
        refine ⟨_, rfl, _, 0, c, rfl, rfl, thou hz, atI_nat (j := 0) rfl, ?_⟩
        have fin : ∀ (d : Nat) (H' : Hp), Same H H' → d = (if grC c = true then 97 else c) → Q (.bl (nmL (d :: r))) H' := fun d H' sm e => by
          have h := q H' sm
          rw [show sgV (.str ⟨⟨c :: r⟩⟩) = nmL (d :: r) by rw [e]; exact sg_cons c r] at h
          exact h
        refine ⟨_, rfl, c, _, rfl, rfl, _, rfl, ite2 (fun e => ?_) (fun e => ?_)⟩
        · rw [sA]
          refine ⟨_, rfl, _, rfl, 1, rfl, _, rfl, thou hz, ?_⟩
          rw [cut_tail]
          refine ⟨_, _, rfl, rfl, thou (by show 1 + r.length ≤ 1000; omega), _, rfl, .inl ⟨_, rfl, by rw [app_one]; exact hz⟩, fun H' sm => ?_⟩
          rw [app_one]
          exact fin 97 H' sm (if_pos e).symm
        · refine ⟨_, rfl, _, rfl, 1, rfl, _, rfl, thou hz, ?_⟩
          rw [cut_tail]
          refine ⟨_, _, rfl, rfl, thou (by show 1 + r.length ≤ 1000; omega), _, rfl, .inl ⟨_, rfl, by rw [app_one]; exact hz⟩, fun H' sm => ?_⟩
          rw [app_one]
          exact fin c H' sm (if_neg e).symm
    · have h := q H (Same.refl H)
      rw [show sgV v = false by unfold sgV; rw [(nmV_no no).1, (nmV_no no).2.1]; rfl] at h
      exact ⟨v, rfl, _, _, _, _, false, rfl, .ty _, ty, kit_ty k, _, rfl, iteT h⟩
/-! ### the law's reading of an entry -/
theorem ok_LwholeD (T : Top w K mg) : FnOk P w K mg base CX0 1 T.a_Lwhole T.fd_Lwhole ["_law_thing"] (spWholeD K) := by
  refine T.F_Lwhole.ok sc_Lwhole (fun vs H Q E h => ?_) (fun cdv A outer s H vs Q E hr h => ?_)
  · obtain ⟨v, d, rfl, _⟩ := h
    rfl
  · obtain ⟨v, d, rfl, hd, q⟩ := h
    refine ⟨_, (pss_one (ps_ret (pe_and (pe_callB call_isi (by rfl) T.m_isinstance (by decide +kernel) (pa_cons (pv 0) (pa_cons (pe_bltn (v := .ty "int") (by rfl) T.m_int (by decide +kernel) rfl) pa_nil))) (pe_one (pe_not (pe_callB call_isi (by rfl) T.m_isinstance (by decide +kernel) (pa_cons (pv 0) (pa_cons (pe_bltn (v := .ty "bool") (by rfl) T.m_bool (by decide +kernel) rfl) pa_nil)))))))), ?_⟩
    cases hd with
    | non => exact ⟨.non, rfl, _, _, _, _, false, rfl, .ty _, .base .non, kit_ty (by decide +kernel), _, rfl, iteF q⟩
    | bl b => exact ⟨.bl b, rfl, _, _, _, _, true, rfl, .ty _, .base (.bl b), kit_ty (by decide +kernel), _, rfl, iteT ⟨.bl b, rfl, _, _, _, _, true, rfl, .ty _, .base (.bl b), kit_ty (by decide +kernel), _, rfl, q⟩⟩
    | int i => exact ⟨.int i, rfl, _, _, _, _, true, rfl, .ty _, .base (.int i), kit_ty (by decide +kernel), _, rfl, iteT ⟨.int i, rfl, _, _, _, _, false, rfl, .ty _, .base (.int i), kit_ty (by decide +kernel), _, rfl, q⟩⟩
    | str z => exact ⟨.str z, rfl, _, _, _, _, false, rfl, .ty _, .base (.str z), kit_ty (by decide +kernel), _, rfl, iteF q⟩
    | lst h _ => exact ⟨_, rfl, _, _, _, _, false, rfl, .ty _, ty_lst h, kit_ty (by decide +kernel), _, rfl, iteF q⟩
    | tup h _ => exact ⟨_, rfl, _, _, _, _, false, rfl, .ty _, ty_tup h, kit_ty (by decide +kernel), _, rfl, iteF q⟩
theorem many10 (i : Int) : manyD (.int i) = (decide (0 < i) && decide (i < 10)) := by
  show (decide (1 ≤ i) && decide (i ≤ 9)) = _
  by_cases h : i < 10
  · rw [decide_eq_true h, decide_eq_true (show i ≤ 9 by omega)]
    by_cases h2 : 0 < i
    · rw [decide_eq_true h2, decide_eq_true (show 1 ≤ i by omega)]
    · rw [decide_eq_false h2, decide_eq_false (show ¬ 1 ≤ i by omega)]
  · rw [decide_eq_false h, decide_eq_false (show ¬ i ≤ 9 by omega), Bool.and_false, Bool.and_false]
theorem ok_Lis_many (T : Top w K mg) : FnOk P w K mg base CX0 2 T.a_Lis_many T.fd_Lis_many ["_law_thing"] (spPart K manyD) := by
  have G_Lwhole := ok_LwholeD (P := P) (w := w) (base := base) T
  refine T.F_Lis_many.ok sc_Lis_many (fun vs H Q E h => ?_) (fun cdv A outer s H vs Q E hr h => ?_)
  · obtain ⟨v, d, rfl, _⟩ := h
    rfl
  · obtain ⟨v, d, rfl, g, hd, q⟩ := h
    refine ⟨_, (pss_one (ps_ret (pe_and (pe_call G_Lwhole hr (by rfl) T.g_Lwhole T.F_Lwhole.kp T.b_Lwhole .nil pass0 (pa_cons (pv 0) pa_nil)) (pe_one (pe_chain op_lt op_lt pe_int (pv 0) pe_int))))), ?_⟩
    refine ⟨v, rfl, v, d, rfl, hd, _, rfl, ?_⟩
    have q := q H (Same.refl H)
    cases hd with
    | int i =>
      rw [many10] at q
      refine iteT ⟨.int i, rfl, _, _, rfl, rfl, _, rfl, ite2 (fun e => ?_) (fun e => ?_)⟩
      · refine ⟨_, _, rfl, rfl, ?_⟩
        rw [e] at q
        exact q
      · rw [Bool.eq_false_iff.mpr e] at q
        exact q
    | non => exact iteF q
    | bl b => exact iteF q
    | str z => exact iteF q
    | lst h _ => exact iteF q
    | tup h _ => exact iteF q
--@@SPLIT
theorem inW_str {z : Str} {ws : List Str} (h : inW (.str z) ws = true) : z ∈ ws := by
  obtain ⟨s, hs, e⟩ := List.any_eq_true.mp h
  have e2 : s = z := beq_iff_eq.mp e
  subst e2
  exact hs
theorem eqS_str {d : PyData} {s : Str} (h : eqS d s = true) : d = .str s := by
  cases d with
  | str z =>
    have e2 : s = z := beq_iff_eq.mp h
    rw [e2]
  | _ => cases h
theorem alone_no {a : PyData} (h : inW a wAlone = true) : eqS a "face" = false ∧ eqS a "go" = false ∧ eqS a "sign" = false ∧ eqS a "spy" = false := by
  cases a with
  | str z =>
    have all : ∀ z ∈ wAlone, eqS (.str z) "face" = false ∧ eqS (.str z) "go" = false ∧ eqS (.str z) "sign" = false ∧ eqS (.str z) "spy" = false := by decide +kernel
    exact all z (inW_str h)
  | _ => exact ⟨rfl, rfl, rfl, rfl⟩
def at1 (f : PyData → Bool) : List PyData → Bool
  | [_, b] => f b
  | _ => false
def at12 (f g : PyData → Bool) : List PyData → Bool
  | [_, b, c] => f b && g c
  | _ => false
def lawE (a : PyData) (ds : List PyData) : Bool :=
  if inW a wAlone = true then decide (V.int (ds.length : Int) = V.int 1) else if eqS a "face" = true then at1 letD ds else if eqS a "go" = true then at1 manyD ds else if eqS a "sign" = true then at1 sgD ds else eqS a "spy" && at12 manyD sgD ds
theorem ent_law (a : PyData) (r : List PyData) : entL (a :: r) = lawE a (a :: r) := by
  unfold lawE
  by_cases h0 : inW a wAlone = true
  · obtain ⟨n1, n2, n3, n4⟩ := alone_no h0
    rw [if_pos h0]
    match r with
    | [] => exact h0
    | [b] => show pairD a b = false; unfold pairD; rw [n1, n2, n3]; rfl
    | [b, c] => show (eqS a "spy" && _) = false; rw [n4]; rfl
    | b :: c :: d :: e =>
      show false = _
      rw [decide_eq_false]
      intro z
      have := V.int.inj z
      simp at this
      omega
  · rw [if_neg h0]
    by_cases h1 : eqS a "face" = true
    · rw [if_pos h1]
      have e := eqS_str h1
      subst e
      match r with
      | [] => exact Bool.eq_false_iff.mpr h0
      | [b] => rfl
      | [b, c] => rfl
      | b :: c :: d :: e => rfl
    · rw [if_neg h1]
      by_cases h2 : eqS a "go" = true
      · rw [if_pos h2]
        have e := eqS_str h2
        subst e
        match r with
        | [] => exact Bool.eq_false_iff.mpr h0
        | [b] => rfl
        | [b, c] => rfl
        | b :: c :: d :: e => rfl
      · rw [if_neg h2]
        by_cases h3 : eqS a "sign" = true
        · rw [if_pos h3]
          have e := eqS_str h3
          subst e
          match r with
          | [] => exact Bool.eq_false_iff.mpr h0
          | [b] => rfl
          | [b, c] => rfl
          | b :: c :: d :: e => rfl
        · rw [if_neg h3]
          match r with
          | [] => show inW a wAlone = (eqS a "spy" && false); rw [Bool.eq_false_iff.mpr h0, Bool.and_false]
          | [b] => show pairD a b = (eqS a "spy" && false); unfold pairD; rw [Bool.eq_false_iff.mpr h1, Bool.eq_false_iff.mpr h2, Bool.eq_false_iff.mpr h3, Bool.and_false]; rfl
          | [b, c] => rfl
          | b :: c :: d :: e => show false = (eqS a "spy" && false); rw [Bool.and_false]
theorem ent_nostr {a : PyData} {r : List PyData} (h : strD a = false) : entL (a :: r) = false := by
  rw [ent_law]
  have n : ∀ s, eqS a s = false := fun s => by cases a <;> first | rfl | cases h
  have i : inW a wAlone = false := by
    show (eqS a _ || (eqS a _ || (eqS a _ || (eqS a _ || (eqS a _ || (eqS a _ || false)))))) = false
    rw [n, n, n, n, n, n]
    rfl
  unfold lawE
  rw [i, n, n, n, n]
  rfl
theorem let_str {b : PyData} (h : strD b = false) : letD b = false := by
  cases b <;> first | rfl | cases h
theorem ok_Lis_entry (T : Top w K mg) : FnOk P w K mg base CX0 3 T.a_Lis_entry T.fd_Lis_entry ["_law_thing"] (spEntry K) := by
  have G_Lis_many := ok_Lis_many (P := P) (w := w) (base := base) T
  have G_Lis_sign := ok_Lis_sign (P := P) (w := w) (base := base) T
  refine T.F_Lis_entry.ok sc_Lis_entry (fun vs H Q E h => ?_) (fun cdv A outer s H vs Q E hr h => ?_)
  · obtain ⟨v, d, rfl, _⟩ := h
    rfl
  · obtain ⟨v, d, rfl, g, hd, q⟩ := h
    refine ⟨_, (pss_cons (ps_if (PW.pt (pw_or (pt_not (pt_val (pe_callB call_isiT (by rfl) T.m_isinstance (by decide +kernel) (pa_cons (pv 0) (pa_cons (pe_tup (pa_cons (pe_bltn (v := .ty "tuple") (by rfl) T.m_tuple (by decide +kernel) rfl) (pa_cons (pe_bltn (v := .ty "list") (by rfl) T.m_list (by decide +kernel) rfl) pa_nil))) pa_nil))))) (pw_or (pt_cmpR op_eq (pe_callB call_len_seq (by rfl) T.m_len (by decide +kernel) (pa_cons (pv 0) pa_nil)) pe_int (nomark _)) (pw_or1 (pt_not (pt_val (pe_callB call_isi (by rfl) T.m_isinstance (by decide +kernel) (pa_cons (pe_ix ix_seq (pv 0) pe_int (fun _ _ => rfl)) (pa_cons (pe_bltn (v := .ty "str") (by rfl) T.m_str (by decide +kernel) rfl) pa_nil))))))))) (pss_one (ps_ret pe_bl)) pss_nil)
      (pss_cons (ps_if (pt_cmpR (op_inA (units65 hr)) (pe_ix ix_seq (pv 0) pe_int (fun _ _ => rfl)) (pe_tup (pa_cons pe_str (pa_cons pe_str (pa_cons pe_str (pa_cons pe_str (pa_cons pe_str (pa_cons pe_str pa_nil))))))) (by rfl)) (pss_one (ps_ret (pe_cmpR op_eq (pe_callB call_len_seq (by rfl) T.m_len (by decide +kernel) (pa_cons (pv 0) pa_nil)) pe_int (nomark _)))) pss_nil)
      (pss_cons (ps_if (pt_cmpR (op_eqA hr.units) (pe_ix ix_seq (pv 0) pe_int (fun _ _ => rfl)) pe_str (nomark _)) (pss_one (ps_ret (pe_and (pe_cmpR op_eq (pe_callB call_len_seq (by rfl) T.m_len (by decide +kernel) (pa_cons (pv 0) pa_nil)) pe_int (nomark _)) (pe_and (pe_callB call_isi (by rfl) T.m_isinstance (by decide +kernel) (pa_cons (pe_ix ix_seq (pv 0) pe_int (fun _ _ => rfl)) (pa_cons (pe_bltn (v := .ty "str") (by rfl) T.m_str (by decide +kernel) rfl) pa_nil))) (pe_one (pe_cmpR (op_inA (units65 hr)) (pe_ix ix_seq (pv 0) pe_int (fun _ _ => rfl)) (pe_tup (pa_cons pe_str (pa_cons pe_str (pa_cons pe_str (pa_cons pe_str pa_nil))))) (by rfl))))))) pss_nil)
      (pss_cons (ps_if (pt_cmpR (op_eqA hr.units) (pe_ix ix_seq (pv 0) pe_int (fun _ _ => rfl)) pe_str (nomark _)) (pss_one (ps_ret (pe_and (pe_cmpR op_eq (pe_callB call_len_seq (by rfl) T.m_len (by decide +kernel) (pa_cons (pv 0) pa_nil)) pe_int (nomark _)) (pe_one (pe_call G_Lis_many hr (by rfl) T.g_Lis_many T.F_Lis_many.kp T.b_Lis_many .nil pass0 (pa_cons (pe_ix ix_seq (pv 0) pe_int (fun _ _ => rfl)) pa_nil)))))) pss_nil)
      (pss_cons (ps_if (pt_cmpR (op_eqA hr.units) (pe_ix ix_seq (pv 0) pe_int (fun _ _ => rfl)) pe_str (nomark _)) (pss_one (ps_ret (pe_and (pe_cmpR op_eq (pe_callB call_len_seq (by rfl) T.m_len (by decide +kernel) (pa_cons (pv 0) pa_nil)) pe_int (nomark _)) (pe_one (pe_call G_Lis_sign hr (by rfl) T.g_Lis_sign T.F_Lis_sign.kp T.b_Lis_sign .nil pass0 (pa_cons (pe_ix ix_seq (pv 0) pe_int (fun _ _ => rfl)) pa_nil)))))) pss_nil)
      (pss_one (ps_ret (pe_and (pe_cmpR (op_eqA hr.units) (pe_ix ix_seq (pv 0) pe_int (fun _ _ => rfl)) pe_str (nomark _)) (pe_and (pe_cmpR op_eq (pe_callB call_len_seq (by rfl) T.m_len (by decide +kernel) (pa_cons (pv 0) pa_nil)) pe_int (nomark _)) (pe_and (pe_call G_Lis_many hr (by rfl) T.g_Lis_many T.F_Lis_many.kp T.b_Lis_many .nil pass0 (pa_cons (pe_ix ix_seq (pv 0) pe_int (fun _ _ => rfl)) pa_nil)) (pe_one (pe_call G_Lis_sign hr (by rfl) T.g_Lis_sign T.F_Lis_sign.kp T.b_Lis_sign .nil pass0 (pa_cons (pe_ix ix_seq (pv 0) pe_int (fun _ _ => rfl)) pa_nil))))))))))))), ?_⟩
    obtain ⟨x, y, k1, k2, exy⟩ := kit_seq d
    refine ⟨v, rfl, by show 2 ≤ sizeLine; decide, fun tp np => ⟨v, tp, _, _, _, _, rfl, upd_same, .cons (.ty _) (.cons (.ty _) .nil), ty_dp (dp_same (same_upd np) d v hd), kit_any2 k1 k2, _, rfl, ?_⟩⟩
    rw [exy]
    have s0 := same_upd (o := .tup [.ty "tuple", .ty "list"]) np
    have hd0 := dp_same s0 d v hd
    cases e : seqD d with
    | none =>
      rw [show entD d = false by unfold entD; rw [e]] at q
      exact iteT (q _ s0)
    | some ds =>
      rw [show entD d = entL ds by unfold entD; rw [e]] at q
      refine iteF ?_
      obtain ⟨hlen, hgp⟩ := ge_parts g e
      cases ds with
      | nil =>
        obtain ⟨a, xs, rfl, hs, ha⟩ := seq_dp hd0 e
        cases ha
        exact ⟨.ref a, rfl, a, _, rfl, hs, rfl, _, rfl, iteDY (decide_eq_true rfl) (q _ s0)⟩
      | cons a r =>
        obtain ⟨p, x1, xs, rfl, hs, h1, ha⟩ := seq_head hd0 e
        have lx := dpa_len _ _ ha
        have ga := hgp a (by simp)
        refine ⟨.ref p, rfl, p, _, rfl, hs, rfl, _, rfl, iteDN (decide_eq_false (fun z => by have := V.int.inj z; simp at this; omega)) ?_⟩
        refine ⟨.ref p, rfl, ixA (j := 0) hs rfl ⟨_, _, _, _, _, rfl, .ty _, ty_dp h1, kit_ty (kit_str a), _, rfl, ?_⟩⟩
        cases hst : strD a with
        | false =>
          rw [ent_nostr hst] at q
          exact iteT (q _ s0)
        | true =>
          refine iteF ?_
          rw [ent_law] at q
          unfold lawE at q
          have rl : ∀ r : List PyData, ¬ (a :: r).length = 2 → ∀ f, at1 f (a :: r) = false := fun r h f => by
            match r, h with
            | [], _ => rfl
            | [_], h => exact absurd rfl h
            | _ :: _ :: _, _ => rfl
          refine ⟨.ref p, rfl, ixA (j := 0) hs rfl ⟨by show 6 ≤ sizeLine; decide, fun t1 n1 => ?_⟩⟩
          have s1 := same_upd (o := .tup (wAlone.map V.str)) n1
          have s01 := s0.trans s1
          have hs := hs.same s1
          have h1 := dp_same s1 _ _ h1
          have ha := dpa_same s1 _ _ ha
          refine inA_of (ws := wAlone) h1 ga (.inl (.inl upd_same)) (by decide +kernel) ⟨_, rfl, ite2 (fun e0 => ?_) (fun e0 => ?_)⟩
          · rw [if_pos e0, ← lx] at q
            exact ⟨.ref p, rfl, p, _, rfl, hs, rfl, q _ s01⟩
          rw [if_neg e0] at q
          refine ⟨.ref p, rfl, ixA (j := 0) hs rfl (eqA_of h1 ga (by decide +kernel) ⟨_, rfl, ite2 (fun e1 => ?_) (fun e1 => ?_)⟩)⟩
          · rw [if_pos e1] at q
            refine ⟨.ref p, rfl, p, _, rfl, hs, rfl, _, rfl, ?_⟩
            by_cases n2 : (a :: r).length = 2
            · obtain ⟨a', b, eab⟩ := len2 _ n2
              cases eab
              obtain ⟨x', y', exy2, _, hb⟩ := dpa2 ha
              cases exy2
              have gb := hgp b (by simp)
              refine iteDY (decide_eq_true rfl) ⟨.ref p, rfl, ixA (j := 1) hs rfl ⟨_, _, _, _, _, rfl, .ty _, ty_dp hb, kit_ty (kit_str b), _, rfl, ?_⟩⟩
              cases hsb : strD b with
              | false =>
                rw [show at1 letD [a, b] = letD b from rfl, let_str hsb] at q
                exact iteF (q _ s01)
              | true =>
                refine iteT ⟨.ref p, rfl, ixA (j := 1) hs rfl ⟨by show 4 ≤ sizeLine; decide, fun t2 n2 => ?_⟩⟩
                have s2 := same_upd (o := .tup (lets.map V.str)) n2
                exact inA_of (ws := lets) (dp_same s2 _ _ hb) gb (.inl (.inl upd_same)) (by decide +kernel) (q _ (s01.trans s2))
            · rw [rl r n2] at q
              exact iteDN (decide_eq_false (fun z => n2 (by have := V.int.inj z; rw [lx] at this; omega))) (q _ s01)
          rw [if_neg e1] at q
          refine ⟨.ref p, rfl, ixA (j := 0) hs rfl (eqA_of h1 ga (by decide +kernel) ⟨_, rfl, ite2 (fun e2 => ?_) (fun e2 => ?_)⟩)⟩
          · rw [if_pos e2] at q
            refine ⟨.ref p, rfl, p, _, rfl, hs, rfl, _, rfl, ?_⟩
            by_cases n2 : (a :: r).length = 2
            · obtain ⟨a', b, eab⟩ := len2 _ n2
              cases eab
              obtain ⟨x', y', exy2, _, hb⟩ := dpa2 ha
              cases exy2
              exact iteDY (decide_eq_true rfl) ⟨.ref p, rfl, ixA (j := 1) hs rfl ⟨y', b, rfl, hgp b (by simp), hb, fun H' sm => q _ (s01.trans sm)⟩⟩
            · rw [rl r n2] at q
              exact iteDN (decide_eq_false (fun z => n2 (by have := V.int.inj z; rw [lx] at this; omega))) (q _ s01)
          rw [if_neg e2] at q
          refine ⟨.ref p, rfl, ixA (j := 0) hs rfl (eqA_of h1 ga (by decide +kernel) ⟨_, rfl, ite2 (fun e3 => ?_) (fun e3 => ?_)⟩)⟩
          · rw [if_pos e3] at q
            refine ⟨.ref p, rfl, p, _, rfl, hs, rfl, _, rfl, ?_⟩
            by_cases n2 : (a :: r).length = 2
            · obtain ⟨a', b, eab⟩ := len2 _ n2
              cases eab
              obtain ⟨x', y', exy2, _, hb⟩ := dpa2 ha
              cases exy2
              refine iteDY (decide_eq_true rfl) ⟨.ref p, rfl, ixA (j := 1) hs rfl ⟨y', rfl, th_dp hb (hgp b (by simp)), fun H' sm => ?_⟩⟩
              rw [sg_dp hb]
              exact q _ (s01.trans sm)
            · rw [rl r n2] at q
              exact iteDN (decide_eq_false (fun z => n2 (by have := V.int.inj z; rw [lx] at this; omega))) (q _ s01)
          rw [if_neg e3] at q
          refine ⟨.ref p, rfl, ixA (j := 0) hs rfl (eqA_of h1 ga (by decide +kernel) ⟨_, rfl, ite2 (fun e4 => ?_) (fun e4 => ?_)⟩)⟩
          · rw [e4, Bool.true_and] at q
            refine ⟨.ref p, rfl, p, _, rfl, hs, rfl, _, rfl, ?_⟩
            by_cases n3 : (a :: r).length = 3
            · obtain ⟨a', b, c, eab⟩ := len3 _ n3
              cases eab
              obtain ⟨x', y', z', exy2, _, hb, hc⟩ := dpa3 ha
              cases exy2
              have q : ∀ H', Same H H' → Q (.bl (manyD b && sgD c)) H' := q
              refine iteDY (decide_eq_true rfl) ⟨.ref p, rfl, ixA (j := 1) hs rfl ⟨y', b, rfl, hgp b (by simp), hb, fun H2 s2 => ⟨_, rfl, ite2 (fun e5 => ?_) (fun e5 => ?_)⟩⟩⟩
              · rw [e5, Bool.true_and] at q
                refine ⟨.ref p, rfl, ixA (j := 2) (hs.same s2) rfl ⟨z', rfl, th_dp (dp_same s2 _ _ hc) (hgp c (by simp)), fun H' sm => ?_⟩⟩
                rw [sg_dp hc]
                exact q _ ((s01.trans s2).trans sm)
              · rw [Bool.eq_false_iff.mpr e5, Bool.false_and] at q
                exact q _ (s01.trans s2)
            · have e12 : at12 manyD sgD (a :: r) = false := by
                match r, n3 with
                | [], _ => rfl
                | [_], _ => rfl
                | [_, _], h => exact absurd rfl h
                | _ :: _ :: _ :: _, _ => rfl
              rw [e12] at q
              exact iteDN (decide_eq_false (fun z => n3 (by have := V.int.inj z; rw [lx] at this; omega))) (q _ s01)
          · rw [Bool.eq_false_iff.mpr e4, Bool.false_and] at q
            exact q _ s01
--@@SPLIT
/-! ### the first thing amiss, by the law's own reading -/
def spBadAt (K : PySem.W.Frag) : Sp := fun vs H Q _ => ∃ (e : Addr) (xs : List V) (ds : List PyData), vs = [.ref e] ∧ SqL K H e xs ∧ DpAll K H xs ds ∧ (∀ d ∈ ds, ge d = true) ∧ ds.length ≤ 901 ∧
  ∀ H', Same H H' → Q (match badAt false 0 ds with | some i => .int (i : Nat) | none => .non) H'
theorem face_no {a : PyData} (h : eqS a "face" = true) : inW a wFace = false := by
  rw [eqS_str h]
  decide +kernel
theorem ok_Lbad_at (T : Top w K mg) : FnOk P w K mg base CX0 4 T.a_Lbad_at T.fd_Lbad_at ["_law_entries"] (spBadAt K) := by
  have G_Lis_entry := ok_Lis_entry (P := P) (w := w) (base := base) T
  refine T.F_Lbad_at.ok sc_Lbad_at (fun vs H Q E h => ?_) (fun cdv A outer s H vs Q E hr h => ?_)
  · obtain ⟨e, xs, ds, rfl, _⟩ := h
    rfl
  · obtain ⟨e, xs, ds, rfl, hs, ha, hge, hlen, q⟩ := h
    have lx := dpa_len ds xs ha
    refine ⟨_, (pss_cons (ps_set (i := 1) sc_Lbad_at.nd rfl (.inl rfl) pe_bl)
      (pss_cons (ps_for PassesOwn.never rfl (pi_enum (by rfl) T.m_enumerate (pa_cons (pv 0) pa_nil)) (pg_tup rfl (pgs_cons (pg_name (i := 2) sc_Lbad_at.nd rfl (.inl rfl)) (pgs_cons (pg_name (i := 3) sc_Lbad_at.nd rfl (.inl rfl)) pgs_nil))) (pss_cons (ps_if (pt_not (pt_val (pe_call G_Lis_entry hr (by rfl) T.g_Lis_entry T.F_Lis_entry.kp T.b_Lis_entry .nil pass0 (pa_cons (pv 3) pa_nil)))) (pss_one (ps_ret (pv 2))) pss_nil)
      (Evl.pss_cut (ps_set (i := 1) sc_Lbad_at.nd rfl (.inl rfl) (pe_or (pv 1) (pe_one (pe_cmpR (op_eqA hr.units) (pe_ix ix_seq (pv 3) pe_int (fun _ _ => rfl)) pe_str (nomark _)))))
      (pss_one (ps_if (PW.pt (pw_and (pt_not (pt_val (pv 1))) (pw_and1 (pt_cmpR (op_inA (units65 hr)) (pe_ix ix_seq (pv 3) pe_int (fun _ _ => rfl)) (pe_tup (pa_cons pe_str (pa_cons pe_str (pa_cons pe_str (pa_cons pe_str (pa_cons pe_str (pa_cons pe_str pa_nil))))))) (by rfl))))) (pss_one (ps_ret (pv 2))) pss_nil)))))
      (pss_one (ps_ret pe_non)))), ?_⟩
    refine ⟨.ref e, rfl, e, xs, rfl, hs, for_it (walk_enum (xs := xs)) (fun i σ H' => Same H H' ∧ ∃ y2 y3, σ = [some (.ref e), some (.bl ((ds.take i).any fcD)), y2, y3] ∧ badAt false 0 ds = badAt ((ds.take i).any fcD) i (ds.drop i)) ⟨Same.refl _, none, none, rfl, rfl⟩ (fun i σ H' _ h => h.1.seq hs) ?_ ?_⟩
    · rintro i v σ H1 H2 hi ⟨sm, y2, y3, rfl, hb⟩ ⟨t, u1, u2, rfl, nt, rfl, e1, e2⟩
      cases e1
      obtain ⟨d, fd, gd⟩ := dpa_at ds xs ha i u2 e2
      have hgd := hge d (List.mem_of_getElem? fd)
      rw [drop_at fd] at hb
      have st := same_upd (o := .tup [.int (i : Nat), u2]) nt
      have sm2 := sm.trans st
      refine ⟨t, _, rfl, .inl (.inl upd_same), rfl, _, _, rfl, _, _, rfl, rfl, ?_⟩
      refine ⟨u2, rfl, u2, d, rfl, hgd, dp_same sm2 d u2 gd, fun H3 s3 => ⟨_, rfl, ?_⟩⟩
      have sm3 := sm2.trans s3
      cases he : entD d with
      | false =>
        have hbi : badAt false 0 ds = some i := by
          rw [hb]
          show (if entD d = false then _ else _) = _
          rw [if_pos he]
        rw [hbi] at q
        exact iteT ⟨_, rfl, q _ sm3⟩
      | true =>
        refine iteF ?_
        obtain ⟨a, r, es⟩ := ent_seq he
        obtain ⟨p, x, xs2, rfl, hsq, hx, hall⟩ := seq_head (dp_same sm3 d u2 gd) es
        have ga : gp a = true := (ge_parts hgd es).2 a (by simp)
        have hb2 : badAt false 0 ds = if (ndD d && !((ds.take i).any fcD)) = true then some i else badAt ((ds.take i).any fcD || fcD d) (i + 1) (ds.drop (i + 1)) := by
          rw [hb]
          show (if entD d = false then _ else _) = _
          rw [if_neg (by rw [he]; decide)]
        have hnd : ndD d = inW a wFace := by unfold ndD; rw [head_eq es]
        have hfc : fcD d = eqS a "face" := by unfold fcD; rw [head_eq es]
        refine ⟨fun σ H' => H3 = H' ∧ σ = [some (.ref e), some (.bl ((ds.take i).any fcD || fcD d)), some (.int (i : Nat)), some (.ref p)], ?_, ?_⟩
        · refine ⟨_, rfl, _, rfl, ?_⟩
          cases hf : (ds.take i).any fcD with
          | true => exact iteT ⟨rfl, by rw [Bool.true_or]; rfl⟩
          | false =>
            refine iteF ⟨.ref p, rfl, ixA (j := 0) hsq rfl (eqA_of hx ga (by decide +kernel) ⟨rfl, ?_⟩)⟩
            rw [hfc, Bool.false_or]
            rfl
        rintro σ H4 ⟨rfl, rfl⟩
        refine ⟨_, rfl, _, rfl, ?_⟩
        cases hg : ((ds.take i).any fcD || fcD d) with
        | true =>
          refine iteF (ite2 (fun z => nomatch z) (fun _ => ⟨sm3, _, _, by rw [any_more fd, hg], ?_⟩))
          rw [any_more fd, hb2]
          rw [if_neg]
          intro z
          obtain ⟨z1, z2⟩ := Bool.and_eq_true_iff.mp z
          rw [hnd] at z1
          have zf : (ds.take i).any fcD = false := by
            cases hq : (ds.take i).any fcD with
            | false => rfl
            | true => rw [hq] at z2; cases z2
          rw [zf, Bool.false_or, hfc] at hg
          rw [face_no hg] at z1
          cases z1
        | false =>
          obtain ⟨g1, g2⟩ := Bool.or_eq_false_iff.mp hg
          refine iteT ⟨.ref p, rfl, ixA (j := 0) hsq rfl ⟨by show 6 ≤ sizeLine; decide, fun t2 n2 => ?_⟩⟩
          have s2 := same_upd (o := .tup (wFace.map V.str)) n2
          refine inA_of (ws := wFace) (dp_same s2 _ _ hx) ga (.inl (.inl upd_same)) (by decide +kernel) ⟨_, rfl, ite2 (fun e5 => ?_) (fun e5 => ?_)⟩
          · have hbi : badAt false 0 ds = some i := by
              rw [hb2, hnd, e5, g1]
              rfl
            rw [hbi] at q
            exact ⟨_, rfl, q _ (sm3.trans s2)⟩
          · refine ⟨sm3.trans s2, _, _, by rw [any_more fd, hg], ?_⟩
            rw [any_more fd, hb2, hnd, Bool.eq_false_iff.mpr e5, Bool.false_and, if_neg Bool.false_ne_true]
    · rintro σ H1 ⟨sm, y2, y3, rfl, hb⟩
      rw [lx, List.drop_length] at hb
      rw [hb] at q
      exact q _ sm
--@@SPLIT
/-! ### an entry drawn -/
/-- places that are left out of sight: the spring is one, all of them are known -/
def HX (p : Addr) (X : Addr → Prop) (H : Hp) : Prop := X p ∧ ∀ b, X b → H b ≠ none
theorem HX.same {p : Addr} {X : Addr → Prop} {H H' : Hp} (x : HX p X H) (e : Same H H') : HX p X H' := ⟨x.1, fun b h => by
  cases o : H b with
  | none => exact absurd o (x.2 b h)
  | some o' => rw [e b o' o]; exact fun z => nomatch z⟩
theorem Pool.known {H : Hp} {p : Addr} (h : Pool H p) : H p ≠ none := by
  obtain ⟨l, c, k, n, h0, h1⟩ := h
  rw [h1]
  exact fun z => nomatch z
theorem HX.but {p : Addr} {X : Addr → Prop} {H H' : Hp} (x : HX p X H) (e : But p H H') (hp : Pool H' p) : HX p X H' := ⟨x.1, fun b h => by
  by_cases eb : b = p
  · rw [eb]
    exact hp.known
  · cases o : H b with
    | none => exact absurd o (x.2 b h)
    | some o' => rw [e b o' eb o]; exact fun z => nomatch z⟩
theorem HX.fresh {p t : Addr} {X : Addr → Prop} {H : Hp} (x : HX p X H) (n : H t = none) : ¬ X t := fun z => x.2 t z n
theorem But.wo {p : Addr} {X : Addr → Prop} {H H' : Hp} (xp : X p) (e : But p H H') : Same (M.wo H X) (M.wo H' X) := fun b o h => by
  have h2 := wo_some h
  rw [wo_in (X := X) h2.1]
  exact e _ _ (fun z => h2.1 (z ▸ xp)) h2.2
theorem tupW {K : PySem.W.Frag} {H : Hp} {p t : Addr} {X : Addr → Prop} {vs : List V} {ds : List PyData} (x : HX p X H) (nt : H t = none) (h : DpAll K (wo H X) vs ds) : Dp K (wo (upd H t (.tup vs)) X) (.ref t) (.tuple ds) :=
  .tup (.inl (.inl ((wo_in (X := X) (x.fresh nt)).trans upd_same))) (dpa_same ((But.of (same_upd nt)).wo x.1) ds vs h)
theorem lstW {K : PySem.W.Frag} {H : Hp} {p t : Addr} {X : Addr → Prop} {vs : List V} {ds : List PyData} (x : HX p X H) (nt : H t = none) (h : DpAll K (wo H X) vs ds) : Dp K (wo (upd H t (.lst vs)) X) (.ref t) (.list ds) :=
  .lst (.inl (.inl ((wo_in (X := X) (x.fresh nt)).trans upd_same))) (dpa_same ((But.of (same_upd nt)).wo x.1) ds vs h)
theorem nesw_lt {r : Int} (h0 : 0 ≤ r) (h1 : r < 4) : ∃ l : Fin 4, atI (PySem.Str.ofString "nesw").cps.toList r = some (cd l) := by
  obtain rfl | rfl | rfl | rfl : r = 0 ∨ r = 1 ∨ r = 2 ∨ r = 3 := by omega
  · exact ⟨0, by decide +kernel⟩
  · exact ⟨1, by decide +kernel⟩
  · exact ⟨2, by decide +kernel⟩
  · exact ⟨3, by decide +kernel⟩
theorem nine {r : Int} (h0 : 0 ≤ r) (h1 : r < 9) : ∃ n : Fin 9, 1 + r = ((n.val : Nat) : Int) + 1 := ⟨⟨r.toNat, by omega⟩, by show 1 + r = ((r.toNat : Nat) : Int) + 1; omega⟩
def spAnyEntry (K : PySem.W.Frag) : Sp := fun vs H Q _ => ∃ (p : Addr) (b : Bool) (X : Addr → Prop), vs = [.ref p, .bl b] ∧ Pool H p ∧ HX p X H ∧ ∀ H' t e, But p H H' → Pool H' p → Dp K (wo H' X) (.ref t) (Ent.tup e) → e.ok → (e.need = true → b = true) → Q (.ref t) H'
theorem ok_Lany_entry (T : Top w K mg) : FnOk P w K mg base CX0 4 T.a_Lany_entry T.fd_Lany_entry ["_law_pool_here", "_law_looks"] (spAnyEntry K) := by
  have G_Ltake := ok_Ltake (P := P) (w := w) (base := base) T
  have G_Lsign := ok_Lsign (P := P) (w := w) (base := base) T
  refine T.F_Lany_entry.ok sc_Lany_entry (fun vs H Q E h => ?_) (fun cdv A outer s H vs Q E hr h => ?_)
  · obtain ⟨p, b, X, rfl, _⟩ := h
    rfl
  · obtain ⟨p, b, X, rfl, hp, x, q⟩ := h
    refine ⟨_, (pss_cons (ps_set (i := 2) sc_Lany_entry.nd rfl (.inl rfl) (pe_call G_Ltake (hr.mono (by decide)) (by rfl) T.g_Ltake T.F_Ltake.kp T.b_Ltake .nil pass0 (pa_cons (pv 0) (pa_cons pe_int pa_nil))))
      (pss_cons (ps_set (i := 3) sc_Lany_entry.nd rfl (.inl rfl) (pe_call G_Lsign hr (by rfl) T.g_Lsign T.F_Lsign.kp T.b_Lsign .nil pass0 (pa_cons (pv 0) (pa_cons (pe_cmpR op_eq (pe_call G_Ltake (hr.mono (by decide)) (by rfl) T.g_Ltake T.F_Ltake.kp T.b_Ltake .nil pass0 (pa_cons (pv 0) (pa_cons pe_int pa_nil))) pe_int (nomark _)) pa_nil))))
      (Evl.pss_cut (ps_if (PW.pt (pw_and (pt_not (pt_val (pv 1))) (pw_and1 (pt_cmpR op_gt (pv 2) pe_int (nomark _))))) (pss_one (ps_set (i := 2) sc_Lany_entry.nd rfl (.inl rfl) (pe_op op_mod (pv 2) pe_int))) pss_nil)
      (pss_cons (ps_if (PW.pt (pw_or (pt_cmpR op_eq (pv 2) pe_int (nomark _)) (pw_or1 (pt_cmpR op_gt (pv 2) pe_int (nomark _))))) (pss_one (ps_ret (pe_tup (pa_cons pe_str (pa_cons (pe_ix ix_str pe_str (pe_call G_Ltake (hr.mono (by decide)) (by rfl) T.g_Ltake T.F_Ltake.kp T.b_Ltake .nil pass0 (pa_cons (pv 0) (pa_cons pe_int pa_nil))) (fun _ _ => rfl)) pa_nil))))) pss_nil)
      (pss_cons (ps_if (pt_cmpR op_lt (pv 2) pe_int (nomark _)) (pss_one (ps_ret (pe_ix ix_tup (pe_tup (pa_cons (pe_tup (pa_cons pe_str (pa_cons (pv 3) pa_nil))) (pa_cons (pe_tup (pa_cons pe_str pa_nil)) (pa_cons (pe_tup (pa_cons pe_str pa_nil)) pa_nil)))) (pe_op op_sub (pv 2) pe_int) (fun _ _ => rfl)))) pss_nil)
      (pss_cons (ps_if (pt_cmpR op_eq (pv 2) pe_int (nomark _)) (pss_one (ps_ret (pe_ix ix_tup (pe_tup (pa_cons (pe_tup (pa_cons pe_str pa_nil)) (pa_cons (pe_tup (pa_cons pe_str pa_nil)) (pa_cons (pe_tup (pa_cons pe_str pa_nil)) pa_nil)))) (pe_call G_Ltake (hr.mono (by decide)) (by rfl) T.g_Ltake T.F_Ltake.kp T.b_Ltake .nil pass0 (pa_cons (pv 0) (pa_cons pe_int pa_nil))) (fun _ _ => rfl)))) pss_nil)
      (pss_cons (ps_if (pt_cmpR op_eq (pv 2) pe_int (nomark _)) (pss_one (ps_ret (pe_tup (pa_cons pe_str pa_nil)))) pss_nil)
      (pss_cons (ps_if (pt_cmpR op_eq (pv 2) pe_int (nomark _)) (pss_one (ps_ret (pe_tup (pa_cons pe_str (pa_cons (pe_op op_add pe_int (pe_call G_Ltake (hr.mono (by decide)) (by rfl) T.g_Ltake T.F_Ltake.kp T.b_Ltake .nil pass0 (pa_cons (pv 0) (pa_cons pe_int pa_nil)))) (pa_cons (pv 3) pa_nil)))))) pss_nil)
      (pss_one (ps_ret (pe_tup (pa_cons pe_str (pa_cons (pe_op op_add pe_int (pe_call G_Ltake (hr.mono (by decide)) (by rfl) T.g_Ltake T.F_Ltake.kp T.b_Ltake .nil pass0 (pa_cons (pv 0) (pa_cons pe_int pa_nil)))) pa_nil))))))))))))), ?_⟩
    refine ⟨.ref p, rfl, p, 12, rfl, by decide, by decide, hp, fun H1 k b1 hp1 k0 k1 => ?_⟩
    refine ⟨.ref p, rfl, .ref p, rfl, p, 2, rfl, by decide, by decide, hp1, fun H2 j b2 hp2 _ _ => ?_⟩
    refine ⟨rfl, p, _, rfl, hp2, fun H3 z b3 hp3 hz hk => ?_⟩
    have bt := (b1.trans b2).trans b3
    have x3 := x.but bt hp3
    refine ⟨fun σ H' => H3 = H' ∧ ∃ k : Int, 0 ≤ k ∧ k ≤ 11 ∧ (3 < k → b = true) ∧ σ = [some (.ref p), some (.bl b), some (.int k), some (.str z)], ?_, ?_⟩
    · refine ⟨.bl b, rfl, b, rfl, ?_⟩
      cases b with
      | true => exact ite2 (fun z => nomatch z) (fun _ => ⟨rfl, k, k0, by omega, fun _ => rfl, rfl⟩)
      | false =>
        refine iteT ⟨.int k, rfl, _, _, rfl, rfl, _, rfl, ite2 (fun e => ?_) (fun e => ?_)⟩
        · have := Int.emod_lt_of_pos k (show (0 : Int) < 4 by decide)
          exact ⟨.int k, rfl, _, _, rfl, rfl, (by show (0 : Int) < 4; decide), rfl, k % 4, Int.emod_nonneg k (by decide), by omega, fun z => by omega, rfl⟩
        · have : ¬ 3 < k := fun z => e (decide_eq_true z)
          exact ⟨rfl, k, k0, by omega, fun z => absurd z this, rfl⟩
    rintro σ H4 ⟨rfl, k, k0, k1, kb, rfl⟩
    have face : ∀ H5 (r : Int), But p H3 H5 → Pool H5 p → 0 ≤ r → r < 4 → ∃ c, atI (PySem.Str.ofString "nesw").cps.toList r = some c ∧ ∀ t, H5 t = none → Q (.ref t) (upd H5 t (.tup [.str "face", .str ⟨#[c]⟩])) := fun H5 r b5 hp5 r0 r1 => by
      obtain ⟨l, hc⟩ := nesw_lt r0 r1
      exact ⟨cd l, hc, fun t nt => q _ t (.face l) ((bt.trans b5).trans (But.of (same_upd nt))) (hp5.upd (hp5.ne_new nt)) (tupW (x.but (bt.trans b5) hp5) nt (.cons (.str _) (.cons (.str _) .nil))) trivial (fun z => nomatch z)⟩
    refine ⟨.int k, rfl, rfl, _, rfl, ite2 (fun e => ?_) (fun e => ?_)⟩
    · refine iteT ⟨.ref p, rfl, p, 4, rfl, by decide, by decide, hp3, fun H5 r b5 hp5 r0 r1 => ?_⟩
      obtain ⟨c, hc, qq⟩ := face H5 r b5 hp5 r0 r1
      exact ⟨_, r, c, rfl, rfl, by decide +kernel, hc, by show 2 ≤ sizeLine; decide, qq⟩
    refine ⟨.int k, rfl, _, _, rfl, rfl, _, rfl, ite2 (fun e2 => ?_) (fun e2 => ?_)⟩
    · refine ⟨.ref p, rfl, p, 4, rfl, by decide, by decide, hp3, fun H5 r b5 hp5 r0 r1 => ?_⟩
      obtain ⟨c, hc, qq⟩ := face H5 r b5 hp5 r0 r1
      exact ⟨_, r, c, rfl, rfl, by decide +kernel, hc, by show 2 ≤ sizeLine; decide, qq⟩
    have kn : k ≠ 0 := fun z => e (by rw [z]; exact decide_eq_true rfl)
    refine ⟨.int k, rfl, _, _, rfl, rfl, _, rfl, ite2 (fun e3 => ?_) (fun e3 => ?_)⟩
    · have k4 : k < 4 := of_decide_eq_true e3
      refine ⟨.str z, rfl, by show 2 ≤ sizeLine; decide, fun m1 n1 => ⟨by show 1 ≤ sizeLine; decide, fun m2 n2 => ⟨by show 1 ≤ sizeLine; decide, fun m3 n3 => ⟨by show 3 ≤ sizeLine; decide, fun t nt => ?_⟩⟩⟩⟩
      have s1 := same_upd (o := .tup [.str "sign", .str z]) n1
      have s2 := same_upd (o := .tup [.str "bare"]) n2
      have s3 := same_upd (o := .tup [.str "swap"]) n3
      have s4 := same_upd (o := .tup [.ref m1, .ref m2, .ref m3]) nt
      have d1 := tupW (K := K) (vs := [.str "sign", .str z]) (ds := [.str "sign", .str z]) x3 n1 (.cons (.str _) (.cons (.str _) .nil))
      have p1 := hp3.same s1
      have d2 := tupW (K := K) (vs := [.str "bare"]) (ds := [.str "bare"]) (x3.same s1) n2 (.cons (.str _) .nil)
      have p2 := p1.same s2
      have d3 := tupW (K := K) (vs := [.str "swap"]) (ds := [.str "swap"]) ((x3.same s1).same s2) n3 (.cons (.str _) .nil)
      have p3 := p2.same s3
      have p4 := p3.same s4
      have bz := bt.trans (But.of (((s1.trans s2).trans s3).trans s4))
      obtain rfl | rfl | rfl : k = 1 ∨ k = 2 ∨ k = 3 := by omega
      · exact ⟨_, rfl, _, _, rfl, rfl, t, _, 0, _, rfl, rfl, .inl (.inl upd_same), rfl, q _ m1 (.sign z) bz p4 (dp_same ((But.of ((s2.trans s3).trans s4)).wo x.1) _ _ d1) ⟨hz, hk⟩ (fun z => nomatch z)⟩
      · exact ⟨_, rfl, _, _, rfl, rfl, t, _, 1, _, rfl, rfl, .inl (.inl upd_same), rfl, q _ m2 .bare bz p4 (dp_same ((But.of (s3.trans s4)).wo x.1) _ _ d2) trivial (fun z => nomatch z)⟩
      · exact ⟨_, rfl, _, _, rfl, rfl, t, _, 2, _, rfl, rfl, .inl (.inl upd_same), rfl, q _ m3 .swap bz p4 (dp_same ((But.of s4).wo x.1) _ _ d3) trivial (fun z => nomatch z)⟩
    have kb := kb (by have : ¬ k < 4 := fun z => e3 (decide_eq_true z)
                      omega)
    refine ⟨.int k, rfl, rfl, _, rfl, ite2 (fun e4 => ?_) (fun e4 => ?_)⟩
    · refine ⟨by show 1 ≤ sizeLine; decide, fun m1 n1 => ⟨by show 1 ≤ sizeLine; decide, fun m2 n2 => ⟨by show 1 ≤ sizeLine; decide, fun m3 n3 => ⟨by show 3 ≤ sizeLine; decide, fun t nt => ?_⟩⟩⟩⟩
      have s1 := same_upd (o := .tup [.str "left"]) n1
      have s2 := same_upd (o := .tup [.str "right"]) n2
      have s3 := same_upd (o := .tup [.str "back"]) n3
      have s4 := same_upd (o := .tup [.ref m1, .ref m2, .ref m3]) nt
      have d1 := tupW (K := K) (vs := [.str "left"]) (ds := [.str "left"]) x3 n1 (.cons (.str _) .nil)
      have p1 := hp3.same s1
      have d2 := tupW (K := K) (vs := [.str "right"]) (ds := [.str "right"]) (x3.same s1) n2 (.cons (.str _) .nil)
      have p2 := p1.same s2
      have d3 := tupW (K := K) (vs := [.str "back"]) (ds := [.str "back"]) ((x3.same s1).same s2) n3 (.cons (.str _) .nil)
      have p3 := p2.same s3
      have p4 := p3.same s4
      refine ⟨.ref p, rfl, p, 3, rfl, by decide, by decide, p4, fun H5 r b5 hp5 r0 r1 => ?_⟩
      have et := b5 _ _ (p3.ne_new nt) upd_same
      have bz := (bt.trans (But.of (((s1.trans s2).trans s3).trans s4))).trans b5
      obtain rfl | rfl | rfl : r = 0 ∨ r = 1 ∨ r = 2 := by omega
      · exact ⟨t, _, 0, _, rfl, rfl, .inl (.inl et), rfl, q _ m1 (.turn 0) bz hp5 (dp_same (((But.of ((s2.trans s3).trans s4)).trans b5).wo x.1) _ _ d1) trivial (fun _ => kb)⟩
      · exact ⟨t, _, 1, _, rfl, rfl, .inl (.inl et), rfl, q _ m2 (.turn 1) bz hp5 (dp_same (((But.of (s3.trans s4)).trans b5).wo x.1) _ _ d2) trivial (fun _ => kb)⟩
      · exact ⟨t, _, 2, _, rfl, rfl, .inl (.inl et), rfl, q _ m3 (.turn 2) bz hp5 (dp_same (((But.of s4).trans b5).wo x.1) _ _ d3) trivial (fun _ => kb)⟩
    refine ⟨.int k, rfl, rfl, _, rfl, ite2 (fun e5 => ?_) (fun e5 => ?_)⟩
    · exact ⟨by show 1 ≤ sizeLine; decide, fun t nt => q _ t .bump (bt.trans (But.of (same_upd nt))) (hp3.upd (hp3.ne_new nt)) (tupW x3 nt (.cons (.str _) .nil)) trivial (fun _ => kb)⟩
    refine ⟨.int k, rfl, rfl, _, rfl, ite2 (fun e6 => ?_) (fun e6 => ?_)⟩
    · refine ⟨.ref p, rfl, p, 9, rfl, by decide, by decide, hp3, fun H5 r b5 hp5 r0 r1 => ⟨_, _, rfl, rfl, .str z, rfl, by show 3 ≤ sizeLine; decide, fun t nt => ?_⟩⟩
      obtain ⟨n, hn⟩ := nine r0 r1
      have ed : Ent.tup (.spy n z) = .tuple [.str "spy", .int (1 + r), .str z] := by rw [hn]; rfl
      exact q _ t (.spy n z) ((bt.trans b5).trans (But.of (same_upd nt))) (hp5.upd (hp5.ne_new nt)) (by rw [ed]; exact tupW (x.but (bt.trans b5) hp5) nt (.cons (.str _) (.cons (.int _) (.cons (.str _) .nil)))) ⟨hz, hk⟩ (fun _ => kb)
    refine ⟨.ref p, rfl, p, 9, rfl, by decide, by decide, hp3, fun H5 r b5 hp5 r0 r1 => ⟨_, _, rfl, rfl, by show 2 ≤ sizeLine; decide, fun t nt => ?_⟩⟩
    obtain ⟨n, hn⟩ := nine r0 r1
    have ed : Ent.tup (.go n) = .tuple [.str "go", .int (1 + r)] := by rw [hn]; rfl
    exact q _ t (.go n) ((bt.trans b5).trans (But.of (same_upd nt))) (hp5.upd (hp5.ne_new nt)) (by rw [ed]; exact tupW (x.but (bt.trans b5) hp5) nt (.cons (.str _) (.cons (.int _) .nil))) trivial (fun _ => kb)
--@@SPLIT
/-! ### a log drawn -/
theorem dpa_len2 {K : PySem.W.Frag} {H : Hp} {ds : List PyData} {vs : List V} (h : DpAll K H vs ds) : vs.length = ds.length := dpa_len ds vs h
theorem tup_at {K : PySem.W.Frag} {H : Hp} {t : Addr} {e : Ent} (h : Dp K H (.ref t) (Ent.tup e)) : ∃ xs, SqT K H t (.str (ws e.kind) :: xs) ∧ DpAll K H xs e.rest := by
  cases h with
  | @tup _ ys _ hs ha =>
    cases ha with
    | cons h1 h2 =>
      cases h1
      exact ⟨_, hs, h2⟩
theorem HX.or {p D : Addr} {X : Addr → Prop} {H : Hp} (x : HX p X H) (h : H D ≠ none) : HX p (fun b => X b ∨ b = D) H := ⟨.inl x.1, fun c z => z.elim (x.2 c) (fun e => by rw [e]; exact h)⟩
theorem some_ne {H : Hp} {b : Addr} {o : HO} (h : H b = some o) : H b ≠ none := by rw [h]; exact fun z => nomatch z
theorem wo_less {H : Hp} {X Y : Addr → Prop} (h : ∀ b, X b → Y b) : Same (wo H Y) (wo H X) := fun c o z => by
  have h2 := wo_some z
  rw [wo_in (X := X) (fun z => h2.1 (h c z))]
  exact h2.2
theorem wo_mut {H : Hp} {X : Addr → Prop} {D : Addr} {o : HO} (h : X D) : Same (wo H X) (wo (upd H D o) X) := fun c u z => by
  have h2 := wo_some z
  rw [wo_in (X := X) h2.1, upd_ne (fun z : c = D => h2.1 (by rw [z]; exact h))]
  exact h2.2
def spAnyLog (K : PySem.W.Frag) : Sp := fun vs H Q _ => ∃ (p : Addr) (m s : Int) (X : Addr → Prop), vs = [.ref p, .int m, .int s] ∧ 0 ≤ m ∧ m ≤ 100 ∧ Pool H p ∧ HX p X H ∧ ∀ H' t xs es, But p H H' → Pool H' p → H t = none → SqT K (wo H' X) t xs → DpAll K (wo H' X) xs (es.map Ent.tup) → (es.length : Int) = m → (∀ e ∈ es, e.ok) → Right es → ((swaps es : Int) ≤ s ∨ s < 0) → Q (.ref t) H'
theorem ok_Lany_log (T : Top w K mg) : FnOk P w K mg base CX0 5 T.a_Lany_log T.fd_Lany_log ["_law_pool_here", "_law_many", "_law_swaps"] (spAnyLog K) := by
  have G_Lany_entry := ok_Lany_entry (P := P) (w := w) (base := base) T
  refine T.F_Lany_log.ok sc_Lany_log (fun vs H Q E h => ?_) (fun cdv A outer s H vs Q E hr h => ?_)
  · obtain ⟨p, m, s, X, rfl, _⟩ := h
    rfl
  · obtain ⟨p, m, sw, X, rfl, m0, m1, hp, x, q⟩ := h
    refine ⟨_, (pss_cons (ps_set (i := 3) sc_Lany_log.nd rfl (.inl rfl) (pe_lst pa_nil))
      (pss_cons (ps_set (i := 4) sc_Lany_log.nd rfl (.inl rfl) pe_bl)
      (pss_cons (ps_set (i := 5) sc_Lany_log.nd rfl (.inl rfl) (pv 2))
      (pss_cons (ps_for PassesOwn.never rfl (pi_range1 (by rfl) T.m_range (pa_cons (pv 1) pa_nil)) (pg_name (i := 6) sc_Lany_log.nd rfl (.inl rfl)) (pss_cons (ps_set (i := 7) sc_Lany_log.nd rfl (.inl rfl) (pe_call G_Lany_entry hr (by rfl) T.g_Lany_entry T.F_Lany_entry.kp T.b_Lany_entry .nil pass0 (pa_cons (pv 0) (pa_cons (pv 4) pa_nil))))
      (Evl.pss_cut (ps_if (PW.pt (pw_and (pt_cmpR op_eq (pe_ix ix_tup (pv 7) pe_int (fun _ _ => rfl)) pe_str (nomark _)) (pw_and1 (pt_cmpR op_eq (pv 5) pe_int (nomark _))))) (pss_one (ps_set (i := 7) sc_Lany_log.nd rfl (.inl rfl) (pe_tup (pa_cons pe_str pa_nil)))) pss_nil)
      (Evl.pss_cut (ps_set (i := 5) sc_Lany_log.nd rfl (.inl rfl) (pe_op op_sub (pv 5) (pe_callTy call_int1 (by rfl) T.m_int (by decide +kernel) (pa_cons (pe_cmpR op_eq (pe_ix ix_tup (pv 7) pe_int (fun _ _ => rfl)) pe_str (nomark _)) pa_nil))))
      (Evl.pss_cut (ps_set (i := 4) sc_Lany_log.nd rfl (.inl rfl) (pe_or (pv 4) (pe_one (pe_cmpR op_eq (pe_ix ix_tup (pv 7) pe_int (fun _ _ => rfl)) pe_str (nomark _)))))
      (pss_one (ps_expr (pe_bm PySem.F.plainAttrs_list PySem.F.slot_list_append PySem.F.type_list_append mt_append (pv 3) (pa_cons (pv 7) pa_nil)))))))))
      (pss_one (ps_ret (pe_callTy call_tuple_of (by rfl) T.m_tuple (by decide +kernel) (pa_cons (pv 3) pa_nil)))))))), ?_⟩
    refine ⟨Nat.zero_le _, fun L nL => ?_⟩
    have nLp : L ≠ p := hp.ne_new nL
    have s0 := same_upd (o := .lst []) nL
    obtain ⟨n, rfl⟩ : ∃ n : Nat, m = n := ⟨m.toNat, by omega⟩
    refine ⟨_, rfl, .int n, rfl, n, rfl, by omega, by omega, for_range (n := n) (fun i σ H' => But p H H' ∧ Pool H' p ∧ ∃ (l : Int) (y6 y7 : Option V) (ys : List V) (es : List Ent), σ = [some (.ref p), some (.int n), some (.int sw), some (.ref L), some (.bl (es.any Ent.isFace)), some (.int l), y6, y7] ∧ H' L = some (.lst ys) ∧ es.length = i ∧ DpAll K (wo H' (fun b => X b ∨ b = L)) ys (es.map Ent.tup) ∧ (∀ e ∈ es, e.ok) ∧ Right es ∧ l = sw - swaps es ∧ (0 ≤ l ∨ sw < 0))
      ⟨But.of s0, hp.same s0, sw, none, none, [], [], rfl, upd_same, rfl, .nil, (fun d h => nomatch h), Right.nil, by show sw = sw - ((0 : Nat) : Int); omega, by omega⟩ ?_ ?_⟩
    · rintro i σ H1 hi ⟨b1, hp1, l, y6, y7, ys, es, rfl, eL, hl, ha, hg, hR, hl1, hl2⟩
      have x1 : HX p (fun b => X b ∨ b = L) H1 := (x.but b1 hp1).or (some_ne eL)
      refine ⟨.ref p, rfl, .bl _, rfl, p, _, _, rfl, hp1, x1, fun H2 t e b2 hp2 hd gd hn => ?_⟩
      have eL2 := b2 _ _ nLp eL
      have x2 := x1.but b2 hp2
      refine ⟨fun σ H' => Same H2 H' ∧ ∃ (y6 : Option V) (t : Addr) (e : Ent), σ = [some (.ref p), some (.int n), some (.int sw), some (.ref L), some (.bl (es.any Ent.isFace)), some (.int l), y6, some (.ref t)] ∧ Dp K (wo H' (fun b => X b ∨ b = L)) (.ref t) (Ent.tup e) ∧ e.ok ∧ (e.need = true → es.any Ent.isFace = true) ∧ (e.isSwap = true → l ≠ 0), ?_, ?_⟩
      · obtain ⟨us, hs, _⟩ := tup_at hd
        refine ⟨.ref t, rfl, t, _, 0, _, rfl, rfl, sqt_same wo_same hs, atI_nat (j := 0) rfl, rfl, _, rfl, ?_⟩
        have dw : decide (V.str (ws e.kind) = V.str (PySem.Str.ofString "swap")) = e.isSwap := (wsd e.kind 9).trans e.swap_iff.symm
        rw [dw]
        refine ite2 (fun e1 => ?_) (fun e1 => ?_)
        · refine ⟨.int l, rfl, rfl, _, rfl, ite2 (fun e2 => ?_) (fun e2 => ?_)⟩
          · exact ⟨by show 1 ≤ sizeLine; decide, fun t2 n2 => ⟨same_upd n2, _, t2, .bare, rfl, tupW x2 n2 (.cons (.str "bare") .nil), trivial, (fun z => nomatch z), fun z => nomatch z⟩⟩
          · exact ⟨Same.refl _, _, t, e, rfl, hd, gd, hn, fun _ z => e2 (by rw [z]; exact decide_eq_true rfl)⟩
        · exact ite2 (fun z => nomatch z) (fun _ => ⟨Same.refl _, _, t, e, rfl, hd, gd, hn, fun z => absurd z e1⟩)
      rintro σ H3 ⟨s3, y6, t, e, rfl, hd, gd, hn, hsw⟩
      obtain ⟨us, hs, _⟩ := tup_at hd
      have hs3 := sqt_same wo_same hs
      have dw : decide (V.str (ws e.kind) = V.str (PySem.Str.ofString "swap")) = e.isSwap := (wsd e.kind 9).trans e.swap_iff.symm
      have df : decide (V.str (ws e.kind) = V.str (PySem.Str.ofString "face")) = e.isFace := (wsd e.kind 0).trans e.face_iff.symm
      refine ⟨fun σ H' => H3 = H' ∧ σ = [some (.ref p), some (.int n), some (.int sw), some (.ref L), some (.bl (es.any Ent.isFace)), some (.int (l - (if e.isSwap = true then 1 else 0))), y6, some (.ref t)], ?_, ?_⟩
      · refine ⟨.int l, rfl, .ref t, rfl, t, _, 0, _, rfl, rfl, hs3, atI_nat (j := 0) rfl, rfl, .inr ⟨_, rfl, _, _, rfl, rfl, rfl, ?_⟩⟩
        show _ = _
        rw [dw]
        cases e.isSwap <;> rfl
      rintro σ H4 ⟨rfl, rfl⟩
      refine ⟨fun σ H' => H3 = H' ∧ σ = [some (.ref p), some (.int n), some (.int sw), some (.ref L), some (.bl ((es ++ [e]).any Ent.isFace)), some (.int (l - (if e.isSwap = true then 1 else 0))), y6, some (.ref t)], ?_, ?_⟩
      · have ea : (es ++ [e]).any Ent.isFace = (es.any Ent.isFace || e.isFace) := by
          rw [List.any_append]
          show (_ || (e.isFace || false)) = _
          rw [Bool.or_false]
        refine ⟨_, rfl, _, rfl, ?_⟩
        cases eb : es.any Ent.isFace with
        | true =>
          rw [ea, eb]
          exact iteT ⟨rfl, rfl⟩
        | false =>
          rw [ea, eb]
          refine iteF ⟨.ref t, rfl, t, _, 0, _, rfl, rfl, hs3, atI_nat (j := 0) rfl, rfl, rfl, ?_⟩
          show _ = _
          rw [df]
          rfl
      rintro σ H4 ⟨rfl, rfl⟩
      have eL3 := s3 _ _ eL2
      have lx := dpa_len2 ha
      rw [List.length_map] at lx
      refine ⟨.ref L, rfl, .inl ⟨rfl, _, .inl (.inl eL3)⟩, .ref t, rfl, L, ys, _, rfl, rfl, eL3, small1000 (by omega), ?_⟩
      have b3 := b2.trans (But.of s3)
      have m6 : Same (wo H3 (fun b => X b ∨ b = L)) (wo (upd H3 L (.lst (ys ++ [.ref t]))) (fun b => X b ∨ b = L)) := wo_mut (.inr rfl)
      refine ⟨(b1.trans b3).mut nL, (hp2.same s3).upd nLp, _, _, _, ys ++ [.ref t], es ++ [e], rfl, upd_same, ?_, ?_, ?_, hR.snoc hn, ?_, ?_⟩
      · rw [List.length_append, hl]
        rfl
      · rw [List.map_append]
        exact dpa_snoc (dp_same m6 _ _ hd) _ _ (dpa_same ((b3.wo (.inl x.1)).trans m6) _ _ ha)
      · intro d h
        rcases List.mem_append.mp h with h | h
        · exact hg d h
        · rw [List.mem_singleton.mp h]
          exact gd
      · rw [swaps_snoc]
        split <;> omega
      · cases es1 : e.isSwap with
        | false => rw [if_neg Bool.false_ne_true]; omega
        | true =>
          have := hsw es1
          rw [if_pos rfl]
          omega
    · rintro σ H1 ⟨b1, hp1, l, y6, y7, ys, es, rfl, eL, hl, ha, hg, hR, hl1, hl2⟩
      refine ⟨.ref L, rfl, L, ys, rfl, .inl ⟨.inl (.inl eL), fun r nr => ?_⟩⟩
      have x1 := x.but b1 hp1
      have sr := same_upd (o := .tup ys) nr
      have nr0 : H r = none := by
        cases e : H r with
        | none => rfl
        | some o =>
          by_cases z : r = p
          · rw [z] at nr
            exact absurd nr hp1.known
          · rw [b1 r o z e] at nr
            cases nr
      exact q _ r ys es (b1.trans (But.of sr)) (hp1.same sr) nr0 (.inl (.inl ((wo_in (X := X) (x1.fresh nr)).trans upd_same))) (dpa_same ((wo_less (fun b z => .inl z)).trans ((But.of sr).wo x.1)) _ _ ha) (by rw [hl]) hg hR (by omega)
def spSpoilt : Sp := fun vs H Q _ => ∃ (p : Addr) (z : Str), vs = [.ref p, .str z] ∧ z.length ≤ 400 ∧ Pool H p ∧ ∀ H' (z : Str), But p H H' → Pool H' p → z.length ≤ 820 → Q (.str z) H'
theorem ok_Lspoilt_text (T : Top w K mg) : FnOk P w K mg base CX0 2 T.a_Lspoilt_text T.fd_Lspoilt_text ["_law_pool_here", "_law_text"] spSpoilt := by
  have G_Ltake := ok_Ltake (P := P) (w := w) (base := base) T
  refine T.F_Lspoilt_text.ok sc_Lspoilt_text (fun vs H Q E h => ?_) (fun cdv A outer s H vs Q E hr h => ?_)
  · obtain ⟨p, z, rfl, _⟩ := h
    rfl
  · obtain ⟨p, z, rfl, hz, hp, q⟩ := h
    refine ⟨_, (pss_cons (ps_set (i := 2) sc_Lspoilt_text.nd rfl (.inl rfl) pe_str)
      (pss_cons (ps_set (i := 3) sc_Lspoilt_text.nd rfl (.inl rfl) (pe_ix ix_str (pv 2) (pe_call G_Ltake hr (by rfl) T.g_Ltake T.F_Ltake.kp T.b_Ltake .nil pass0 (pa_cons (pv 0) (pa_cons (pe_callB call_len_str (by rfl) T.m_len (by decide +kernel) (pa_cons (pv 2) pa_nil)) pa_nil))) (fun _ _ => rfl)))
      (pss_cons (ps_set (i := 4) sc_Lspoilt_text.nd rfl (.inl rfl) (pe_call G_Ltake hr (by rfl) T.g_Ltake T.F_Ltake.kp T.b_Ltake .nil pass0 (pa_cons (pv 0) (pa_cons (pe_op op_add (pe_callB call_len_str (by rfl) T.m_len (by decide +kernel) (pa_cons (pv 1) pa_nil)) pe_int) pa_nil))))
      (pss_cons (ps_set (i := 5) sc_Lspoilt_text.nd rfl (.inl rfl) (pe_call G_Ltake hr (by rfl) T.g_Ltake T.F_Ltake.kp T.b_Ltake .nil pass0 (pa_cons (pv 0) (pa_cons pe_int pa_nil))))
      (pss_cons (ps_if (pt_cmpR op_eq (pv 5) pe_int (nomark _)) (pss_one (ps_ret (pe_op op_add_str (pe_op op_add_str (pe_slice sl_str (pv 1) po_none (po_some (pv 4))) (pv 3)) (pe_slice sl_str (pv 1) (po_some (pv 4)) po_none)))) pss_nil)
      (pss_cons (ps_if (pt_cmpR op_eq (pv 5) pe_int (nomark _)) (pss_one (ps_ret (pe_op op_add_str (pe_op op_add_str (pe_slice sl_str (pv 1) po_none (po_some (pv 4))) (pv 3)) (pe_slice sl_str (pv 1) (po_some (pe_op op_add (pv 4) pe_int)) po_none)))) pss_nil)
      (pss_cons (ps_if (pt_cmpR op_eq (pv 5) pe_int (nomark _)) (pss_one (ps_ret (pe_op op_add_str (pe_slice sl_str (pv 1) po_none (po_some (pv 4))) (pe_slice sl_str (pv 1) (po_some (pe_op op_add (pv 4) pe_int)) po_none)))) pss_nil)
      (pss_one (ps_ret (pe_op op_add_str (pv 1) (pe_op op_mulS pe_str (pe_op op_add pe_int (pe_call G_Ltake hr (by rfl) T.g_Ltake T.F_Ltake.kp T.b_Ltake .nil pass0 (pa_cons (pv 0) (pa_cons pe_int pa_nil))))))))))))))), ?_⟩
    generalize hS : (PySem.Str.ofString " !\"#$&'()*+,-./0123456789:;<=>?@ABCDEFGHIJKLMNOPQRSTUVWXYZ[\\]^_`abcdefghijklmnopqrstuvwxyz{|}~") = S
    have lS : S.length = 94 := by
      rw [← hS]
      decide +kernel
    refine ⟨_, rfl, .ref p, rfl, _, rfl, S, rfl, thou (by omega), p, _, rfl, by omega, by omega, hp, fun H1 r b1 hp1 r0 r1 => ?_⟩
    obtain ⟨c, hc⟩ := str_at (z := S) r0 r1
    refine ⟨S, r, c, rfl, rfl, thou (by omega), hc, ?_⟩
    refine ⟨.ref p, rfl, .str z, rfl, z, rfl, thou (by omega), _, _, rfl, rfl, p, _, rfl, by omega, by omega, hp1, fun H2 k b2 hp2 k0 k1 => ?_⟩
    refine ⟨.ref p, rfl, p, 4, rfl, by decide, by decide, hp2, fun H3 i b3 hp3 i0 i1 => ?_⟩
    have bt := (b1.trans b2).trans b3
    have c1 : (⟨#[c]⟩ : Str).length = 1 := rfl
    have l1 := cut_len z none (some k)
    have l2 := cut_len z (some k) none
    have l3 := cut_len z (some (k + 1)) none
    refine ⟨.int i, rfl, rfl, _, rfl, ite2 (fun e => ?_) (fun e => ?_)⟩
    · refine ⟨.str z, rfl, .int k, rfl, k, rfl, z, rfl, thou (by omega), .str _, rfl, _, _, rfl, rfl, thou (by omega), .str z, rfl, .int k, rfl, k, rfl, z, rfl, thou (by omega), _, _, rfl, rfl, thou (by rw [app_len]; omega), ?_⟩
      exact q H3 _ bt hp3 (by rw [app_len, app_len]; omega)
    refine ⟨.int i, rfl, rfl, _, rfl, ite2 (fun e => ?_) (fun e => ?_)⟩
    · refine ⟨.str z, rfl, .int k, rfl, k, rfl, z, rfl, thou (by omega), .str _, rfl, _, _, rfl, rfl, thou (by omega), .str z, rfl, .int k, rfl, k, 1, rfl, rfl, k + 1, rfl, z, rfl, thou (by omega), _, _, rfl, rfl, thou (by rw [app_len]; omega), ?_⟩
      exact q H3 _ bt hp3 (by rw [app_len, app_len]; omega)
    refine ⟨.int i, rfl, rfl, _, rfl, ite2 (fun e => ?_) (fun e => ?_)⟩
    · refine ⟨.str z, rfl, .int k, rfl, k, rfl, z, rfl, thou (by omega), .str z, rfl, .int k, rfl, k, 1, rfl, rfl, k + 1, rfl, z, rfl, thou (by omega), _, _, rfl, rfl, thou (by omega), ?_⟩
      exact q H3 _ bt hp3 (by rw [app_len]; omega)
    refine ⟨.str z, rfl, .ref p, rfl, p, 9, rfl, by decide, by decide, hp3, fun H4 j b4 hp4 j0 j1 => ?_⟩
    have lA : (PySem.Str.ofString "a").length = 1 := by decide +kernel
    refine ⟨1, j, rfl, rfl, _, 1 + j, rfl, rfl, by omega, by omega, by omega, fun z' hz' => ?_⟩
    rw [lA] at hz'
    refine ⟨z, z', rfl, rfl, thou (by omega), ?_⟩
    exact q H4 _ (bt.trans b4) hp4 (by rw [app_len]; omega)
--@@SPLIT
/-! ### the law's own reading of texts -/
theorem cut_2 (xs : List V) (h : 2 ≤ xs.length) : cutV xs (some 2) none = xs.drop 2 := by
  unfold cutV
  have e1 : HT.sIx xs.length 0 (some (2 : Int)) = 2 := by
    unfold HT.sIx
    simp only []
    split <;> omega
  have e2 : HT.sIx xs.length xs.length none = xs.length := rfl
  rw [e1, e2, List.take_of_length_le (by rw [List.length_drop]; exact Nat.le_refl _)]
def spEntOf (K : PySem.W.Frag) : Sp := fun vs H Q _ => ∃ z : Str, vs = [.str z] ∧ z.length ≤ 900 ∧ ∀ H' v, Same H H' → (∀ H'', Same H' H'' → Dp K H'' v (entO z)) → (∀ X : Addr → Prop, (∀ c, X c → H c ≠ none) → Dp K (wo H' X) v (entO z)) → Q v H'
theorem ok_Lentry_of (T : Top w K mg) : FnOk P w K mg base CX0 4 T.a_Lentry_of T.fd_Lentry_of ["_law_text"] (spEntOf K) := by
  have G_Lis_entry := ok_Lis_entry (P := P) (w := w) (base := base) T
  refine T.F_Lentry_of.ok sc_Lentry_of (fun vs H Q E h => ?_) (fun cdv A outer s H vs Q E hr h => ?_)
  · obtain ⟨z, rfl, _⟩ := h
    rfl
  · obtain ⟨z, rfl, hz, q⟩ := h
    refine ⟨_, (pss_cons (ps_set (i := 1) sc_Lentry_of.nd rfl (.inl rfl) (pe_bm PySem.F.plainAttrs_str PySem.F.slot_str_split PySem.F.type_str_split mt_split (pv 0) (pa_cons pe_str pa_nil)))
      (pss_cons (ps_set (i := 2) sc_Lentry_of.nd rfl (.inl rfl) (pe_callTy call_tuple_of (by rfl) T.m_tuple (by decide +kernel) (pa_cons (pv 1) pa_nil)))
      (Evl.pss_cut (ps_if (PW.pt (pw_and (pt_cmpR op_gt (pe_callB call_len_seq (by rfl) T.m_len (by decide +kernel) (pa_cons (pv 1) pa_nil)) pe_int (nomark _)) (pw_and (pt_cmpR op_in_seq (pe_ix ix_list (pv 1) pe_int (fun _ _ => rfl)) (pe_tup (pa_cons pe_str (pa_cons pe_str pa_nil))) (by rfl)) (pw_and1 (pt_cmpR op_in_seq (pe_ix ix_list (pv 1) pe_int (fun _ _ => rfl)) (pe_callTy (LsT.call_listS rfl) (by rfl) T.m_list (by decide +kernel) (pa_cons pe_str pa_nil)) (by rfl)))))) (pss_one (ps_set (i := 2) sc_Lentry_of.nd rfl (.inl rfl) (pe_op op_catT (pe_tup (pa_cons (pe_ix ix_list (pv 1) pe_int (fun _ _ => rfl)) (pa_cons (pe_callTy call_int_str (by rfl) T.m_int (by decide +kernel) (pa_cons (pe_ix ix_list (pv 1) pe_int (fun _ _ => rfl)) pa_nil)) pa_nil))) (pe_callTy call_tuple_of (by rfl) T.m_tuple (by decide +kernel) (pa_cons (pe_slice sl_list (pv 1) (po_some pe_int) po_none) pa_nil))))) pss_nil)
      (pss_one (ps_ret (pe_ifExp (pt_val (pe_call G_Lis_entry hr (by rfl) T.g_Lis_entry T.F_Lis_entry.kp T.b_Lis_entry .nil pass0 (pa_cons (pv 2) pa_nil))) (pv 2) pe_non)))))), ?_⟩
    obtain ⟨w1, w2⟩ := words_len hz
    refine ⟨_, rfl, rfl, _, _, rfl, rfl, by decide +kernel, Nat.le_trans (show z.length + 2 ≤ 1000 by omega) (by decide), fun W nW => ?_⟩
    rw [show Txt.split z (PySem.Str.ofString " ") = wordsT z from rfl]
    have q : ∀ H' v, Same H H' → (∀ H'', Same H' H'' → Dp K H'' v (if entL (entLw (wordsT z)) = true then .tuple (entLw (wordsT z)) else .none)) → (∀ X : Addr → Prop, (∀ c, X c → H c ≠ none) → Dp K (wo H' X) v (if entL (entLw (wordsT z)) = true then .tuple (entLw (wordsT z)) else .none)) → Q v H' := fun H' v s1 h1 h2 => q H' v s1 (by rw [entO_law]; exact h1) (by rw [entO_law]; exact h2)
    have nz : wordsT z ≠ [] := split_ne z
    generalize wordsT z = ws at w1 w2 q nz ⊢
    have sW := same_upd (o := .lst (ws.map V.str)) nW
    have eW : upd H W (.lst (ws.map V.str)) W = some (.lst (ws.map V.str)) := upd_same
    generalize upd H W (.lst (ws.map V.str)) = H1 at sW eW ⊢
    refine ⟨.ref W, rfl, W, _, rfl, .inl ⟨.inl (.inl eW), fun t nt => ?_⟩⟩
    have st := same_upd (o := .tup (ws.map V.str)) nt
    have eW2 := st _ _ eW
    have et : upd H1 t (.tup (ws.map V.str)) t = some (.tup (ws.map V.str)) := upd_same
    have nt0 : H t = none := sW.free nt
    have s2 := sW.trans st
    generalize upd H1 t (.tup (ws.map V.str)) = H2 at st eW2 et s2 ⊢
    refine ⟨fun σ H' => Same H H' ∧ ∃ t xs, σ = [some (.str z), some (.ref W), some (.ref t)] ∧ H t = none ∧ H' t = some (.tup xs) ∧ ∀ H'', DpAll K H'' xs (entLw ws), ?_, ?_⟩
    · have plain : (∀ (a b : Str) (r : List Str), ws = a :: b :: r → (goSpy a && nineF b) = false) → ∀ H'', DpAll K H'' (ws.map V.str) (entLw ws) := fun h H'' => by
        match ws, h with
        | [], _ => exact .nil
        | [a], _ => exact strs_dp _
        | a :: b :: r, h =>
          have e1 : entLw (a :: b :: r) = (a :: b :: r).map PyData.str := by
            show .str a :: (if (goSpy a && nineF b) = true then _ else PyData.str b) :: _ = _
            rw [h a b r rfl]
            rfl
          rw [e1]
          exact strs_dp _
      refine ⟨.ref W, rfl, W, _, rfl, .inl (.inl (.inl eW2)), _, _, rfl, rfl, _, rfl, ite2 (fun e1 => ?_) (fun e1 => ?_)⟩
      · obtain ⟨a, b, r, rfl⟩ : ∃ a b r, ws = a :: b :: r := by
          match ws, e1 with
          | [], e1 => cases e1
          | [_], e1 => cases e1
          | a :: b :: r, _ => exact ⟨a, b, r, rfl⟩
        refine ⟨.ref W, rfl, W, _, 0, .str a, rfl, rfl, .inl (.inl eW2), atI_nat (j := 0) rfl, by show 2 ≤ sizeLine; decide, fun tp np => ⟨tp, wGS.map V.str, rfl, .inr (.inl (.inl upd_same)), rfl, by decide +kernel, _, rfl, ?_⟩⟩
        have s3 := same_upd (o := .tup [V.str (PySem.Str.ofString "go"), V.str (PySem.Str.ofString "spy")]) np
        have no : (goSpy a && nineF b) = false → ∀ H', Same H2 H' → (Same H H' ∧ ∃ t' xs, [some (V.str z), some (.ref W), some (.ref t)] = [some (.str z), some (.ref W), some (.ref t')] ∧ H t' = none ∧ H' t' = some (.tup xs) ∧ ∀ H'', DpAll K H'' xs (entLw (a :: b :: r))) := fun hn H' s' => ⟨s2.trans s', t, _, rfl, nt0, s' _ _ et, plain fun a' b' r' e => by cases e; exact hn⟩
        show if goSpy a = true then _ else _
        refine ite2 (fun e2 => ?_) (fun e2 => ite2 (fun z => nomatch z) (fun _ => no (by rw [Bool.eq_false_iff.mpr e2]; rfl) _ s3))
        refine ⟨.ref W, rfl, W, _, 1, .str b, rfl, rfl, .inl (.inl (s3 _ _ eW2)), atI_nat (j := 1) rfl, N19, rfl, by decide +kernel, fun l nl => ⟨l, LsT.sgs N19.cps.toList, rfl, .inl (.inl (.inl upd_same)), rfl, sgs_flat _, _, rfl, ?_⟩⟩
        have s4 := s3.trans (same_upd (o := .lst (LsT.sgs N19.cps.toList)) nl)
        show if nineF b = true then _ else _
        refine ite2 (fun e3 => ?_) (fun e3 => no (by rw [Bool.eq_false_iff.mpr e3, Bool.and_false]) _ s4)
        obtain ⟨c, c0, c1, eb⟩ := (nineF_iff b).mp e3
        generalize upd (upd H2 tp (.tup [V.str (PySem.Str.ofString "go"), V.str (PySem.Str.ofString "spy")])) l (.lst (LsT.sgs N19.cps.toList)) = H4 at s4 ⊢
        have eW4 := s4 _ _ eW2
        refine ⟨.ref W, rfl, W, _, 0, .str a, rfl, rfl, .inl (.inl eW4), atI_nat (j := 0) rfl, .ref W, rfl, W, _, 1, .str b, rfl, rfl, .inl (.inl eW4), atI_nat (j := 1) rfl, b, ((c - 48 : Nat) : Int), rfl, by rw [eb]; exact int_one (by omega) c1, by rw [eb]; exact (by decide : (1 : Nat) ≤ 640), by show 2 ≤ sizeLine; decide, fun t1 n1 => ?_⟩
        have s5 := same_upd (o := .tup [.str a, .int ((c - 48 : Nat) : Int)]) n1
        have d1 : ∀ H'', DpAll K H'' (V.str a :: .int ((c - 48 : Nat) : Int) :: r.map V.str) (entLw (a :: b :: r)) := fun H'' => by
          show DpAll K H'' _ (.str a :: (if (goSpy a && nineF b) = true then numD (numIn b.cps.toList) else .str b) :: r.map PyData.str)
          rw [e2, e3, if_pos (show (true && true) = true from rfl), eb, num_one (by omega) c1]
          exact .cons (.str _) (.cons (.int _) (strs_dp r))
        have n10 : H t1 = none := (s2.trans s4).free n1
        refine ⟨.ref W, rfl, 2, rfl, W, _, rfl, .inl (.inl (s5 _ _ eW4)), fun cc nc => ⟨cc, _, rfl, .inl ⟨.inl (.inl upd_same), fun t2 n2 => ?_⟩⟩⟩
        rw [cut_2 _ (by rw [List.length_map, List.length_cons, List.length_cons]; omega)] at n2 ⊢
        have s6 := s5.trans (same_upd (o := .lst (((a :: b :: r).map V.str).drop 2)) nc)
        have s7 := s6.trans (same_upd (o := .tup (((a :: b :: r).map V.str).drop 2)) n2)
        have et1 : upd (upd (upd H4 t1 (.tup [.str a, .int ((c - 48 : Nat) : Int)])) cc (.lst (((a :: b :: r).map V.str).drop 2))) t2 (.tup (((a :: b :: r).map V.str).drop 2)) t1 = some (.tup [.str a, .int ((c - 48 : Nat) : Int)]) := same_upd n2 _ _ (same_upd nc _ _ upd_same)
        refine ⟨t1, t2, _, _, rfl, rfl, .inl (.inl et1), .inl (.inl upd_same), (fun z => nomatch z), ?_, fun er => ?_, fun er p np => ?_⟩
        · show 2 + (r.map V.str).length ≤ sizeLine
          rw [List.length_map, Nat.add_comm]
          exact Nat.le_trans w1 (by decide)
        · refine ⟨(s2.trans s4).trans s7, t1, _, rfl, n10, et1, fun H'' => ?_⟩
          have er : r.map V.str = [] := er
          have d2 := d1 H''
          rw [er] at d2
          exact d2
        · refine ⟨((s2.trans s4).trans s7).trans (same_upd np), p, _, rfl, ((s2.trans s4).trans s7).free np, upd_same, fun H'' => d1 H''⟩
      · refine ite2 (fun z => nomatch z) (fun _ => ⟨s2, t, _, rfl, nt0, et, plain fun a b r e => ?_⟩)
        subst e
        exact absurd (decide_eq_true (by rw [List.length_map, List.length_cons, List.length_cons]; omega)) e1
    rintro σ H3 ⟨s3, t3, xs, rfl, n3, e3, hd⟩
    refine ⟨.ref t3, rfl, .ref t3, .tuple (entLw ws), rfl, ?_, .tup (.inl (.inl e3)) (hd _), fun H4 s4 => ⟨_, rfl, ?_⟩⟩
    · show (decide ((entLw ws).length ≤ 1000) && (entLw ws).all gp) = true
      rw [decide_eq_true (by rw [lws_len]; exact w1), List.all_eq_true.mpr (lws_gp w2)]
      rfl
    show if entL (entLw ws) = true then _ else _
    refine ite2 (fun e => ⟨.ref t3, rfl, q _ _ (s3.trans s4) (fun H'' s'' => ?_) (fun X hX => ?_)⟩) (fun e => q _ _ (s3.trans s4) (fun H'' s'' => ?_) (fun X hX => ?_))
    · rw [if_pos e]
      exact .tup (.inl (.inl (s'' _ _ (s4 _ _ e3)))) (hd _)
    · rw [if_pos e]
      exact .tup (.inl (.inl ((wo_in (X := X) (fun z => hX t3 z n3)).trans (s4 _ _ e3)))) (hd _)
    · rw [if_neg e]
      exact .non
    · rw [if_neg e]
      exact .non
--@@SPLIT
/-! ### what is due of a text -/
theorem nats_lay (bs : List Nat) : PyData.canLayAll0 (bs.map fun n => PyData.int (n : Nat)) = true ∧ PyData.depthAll (bs.map fun n => PyData.int (n : Nat)) ≤ 1 := by
  induction bs with
  | nil => exact ⟨rfl, Nat.zero_le _⟩
  | cons b r ih => exact ⟨Bool.and_eq_true_iff.mpr ⟨rfl, ih.1⟩, Nat.max_le.mpr ⟨Nat.zero_le _, ih.2⟩⟩
theorem nats_shaped (bs : List Nat) : SeqAt.shaped (.list (bs.map fun n => PyData.int (n : Nat))) = true := by
  have l := nats_lay bs
  refine Bool.and_eq_true_iff.mpr ⟨l.1, decide_eq_true ?_⟩
  have := l.2
  show PyData.depthAll _ + 1 ≤ 64
  omega
theorem badLot_all : ∀ {i : Nat} {ds : List PyData}, badLot i ds = none → ∀ d ∈ ds, lotD d = true
  | _, [], _, d, hd => nomatch hd
  | i, x :: r, h, d, hd => by
    have h : (if lotD x = true then badLot (i + 1) r else some i) = none := h
    by_cases hx : lotD x = true
    · rw [if_pos hx] at h
      rcases List.mem_cons.mp hd with e | e
      · rw [e]
        exact hx
      · exact badLot_all h d e
    · rw [if_neg hx] at h
      cases h
theorem nums_dp {K : PySem.W.Frag} {H : Hp} : ∀ ws : List Str, DpAll K H (ws.map fun x => numV (numIn x.cps.toList)) (ws.map lotO)
  | [] => .nil
  | _ :: r => .cons (numV_dp _) (nums_dp r)
def natV (n : Nat) : V := .int (n : Int)
def spDueT (K : PySem.W.Frag) : Sp := fun vs H Q _ => ∃ (way : Nat) (z : Str), vs = [.int (way : Nat), .str z] ∧ way ≤ 2 ∧ z.length ≤ 900 ∧ ∀ H' v, Same H H' → Dp K H' v (dueR (rdOf way z)) → Q v H'
theorem ok_Ldue (T : Top w K mg) : FnOk P w K mg base CX0 5 T.a_Ldue T.fd_Ldue ["_law_way", "_law_text"] (spDueT K) := by
  have G_Lentry_of := ok_Lentry_of (P := P) (w := w) (base := base) T
  have G_Lbad_at := ok_Lbad_at (P := P) (w := w) (base := base) T
  refine T.F_Ldue.ok sc_Ldue (fun vs H Q E h => ?_) (fun cdv A outer s H vs Q E hr h => ?_)
  · obtain ⟨way, z, rfl, _⟩ := h
    rfl
  · obtain ⟨way, z, rfl, hw, hz, q⟩ := h
    refine ⟨_, (pss_cons (ps_if (pt_cmpR op_eq (pv 0) pe_int (nomark _)) (pss_cons (ps_set (i := 2) sc_Ldue.nd rfl (.inl rfl) (pe_call G_Lentry_of hr (by rfl) T.g_Lentry_of T.F_Lentry_of.kp T.b_Lentry_of .nil pass0 (pa_cons (pv 1) pa_nil)))
      (pss_one (ps_ret (pe_ifExp (pt_cmpR op_isN (pv 2) pe_non (nomark _)) (pe_tup (pa_cons pe_str (pa_cons pe_int pa_nil))) (pe_tup (pa_cons pe_str (pa_cons (pv 2) pa_nil))))))) pss_nil)
      (pss_cons (ps_if (pt_cmpR op_eq (pv 1) pe_str (nomark _)) (pss_one (ps_ret (pe_tup (pa_cons pe_str (pa_cons (pe_tup pa_nil) pa_nil))))) pss_nil)
      (pss_cons (ps_if (pt_cmpR op_eq (pv 0) pe_int (nomark _)) (pss_cons (ps_setLc (i := 3) (own := [("_law_part", 8)]) (g := gName 8) (by rfl) sc_Ldue.nd rfl rfl (sw_true rfl rfl rfl (by decide +kernel)) (pi_list (pe_bm PySem.F.plainAttrs_str PySem.F.slot_str_split PySem.F.type_str_split mt_split (pv 1) (pa_cons pe_str pa_nil))) (blkOk_by (own := [("_law_part", 8)]) (N := ["_law_way", "_law_text", "_law_entry", "_law_log", "_law_at", "_law_words", "_law_bad", "_law_word", "_law_part"]) (sc := defScope s_Ldue) (by decide +kernel)) (fun _ _ _ _ _ => (pg_name (i := 8) sc_Ldue.nd rfl (Or.inl rfl))) (fun _ _ _ _ _ => pts_nil) (fun _ _ _ _ _ => (pe_call G_Lentry_of hr (by rfl) T.g_Lentry_of T.F_Lentry_of.kp T.b_Lentry_of .nil pass0 (pa_cons (pv 8) pa_nil))))
      (pss_cons (ps_set (i := 4) sc_Ldue.nd rfl (.inl rfl) (pe_call G_Lbad_at hr (by rfl) T.g_Lbad_at T.F_Lbad_at.kp T.b_Lbad_at .nil pass0 (pa_cons (pv 3) pa_nil)))
      (pss_one (ps_ret (pe_ifExp (pt_cmpR op_isN (pv 4) pe_non (nomark _)) (pe_tup (pa_cons pe_str (pa_cons (pe_callTy call_tuple_of (by rfl) T.m_tuple (by decide +kernel) (pa_cons (pv 3) pa_nil)) pa_nil))) (pe_tup (pa_cons pe_str (pa_cons (pv 4) pa_nil)))))))) pss_nil)
      (pss_cons (ps_set (i := 5) sc_Ldue.nd rfl (.inl rfl) (pe_bm PySem.F.plainAttrs_str PySem.F.slot_str_split PySem.F.type_str_split mt_split (pv 1) (pa_cons pe_str pa_nil)))
      (pss_cons (ps_setLc (i := 6) (own := [("_law_at", 4), ("_law_word", 7)]) (g := gTup K 2 (gCons (gName 4) (gCons (gName 7) gNil))) (by rfl) sc_Ldue.nd rfl rfl (sw_true rfl rfl rfl (by decide +kernel)) (pi_enum (by rfl) T.m_enumerate (pa_cons (pv 5) pa_nil)) (blkOk_by (own := [("_law_at", 4), ("_law_word", 7)]) (N := ["_law_way", "_law_text", "_law_entry", "_law_log", "_law_at", "_law_words", "_law_bad", "_law_word", "_law_part"]) (sc := defScope s_Ldue) (by decide +kernel)) (fun _ _ _ _ _ => (pg_tup rfl (pgs_cons (pg_name (i := 4) sc_Ldue.nd rfl (Or.inl rfl)) (pgs_cons (pg_name (i := 7) sc_Ldue.nd rfl (Or.inl rfl)) pgs_nil)))) (fun _ _ _ _ _ => (pts_one (pt_cmpR (r := rIn K true) (notIn_KT rfl) (pv 7) (pe_callTy (LsT.call_listS rfl) (by rfl) T.m_list (by decide +kernel) (pa_cons pe_str pa_nil)) (by rfl)))) (fun _ _ _ _ _ => (pv 4)))
      (pss_one (ps_ret (pe_ifExp (pt_cmpR (op_eqD hr.units) (pv 6) (pe_lst pa_nil) (nomark _)) (pe_tup (pa_cons pe_str (pa_cons (pe_callTy call_tuple_of (by rfl) T.m_tuple (by decide +kernel) (pa_cons (pe_lc (own := [("_law_word", 7)]) (g := gName 7) (by rfl) sc_Ldue.nd (pi_list (pv 5)) (blkOk_by (own := [("_law_word", 7)]) (N := ["_law_way", "_law_text", "_law_entry", "_law_log", "_law_at", "_law_words", "_law_bad", "_law_word", "_law_part"]) (sc := defScope s_Ldue) (by decide +kernel)) (fun _ _ _ _ _ => (pg_name (i := 7) sc_Ldue.nd rfl (Or.inl rfl))) (fun _ _ _ _ _ => pts_nil) (fun _ _ _ _ _ => (pe_callTy call_int_str (by rfl) T.m_int (by decide +kernel) (pa_cons (pv 7) pa_nil)))) pa_nil)) pa_nil))) (pe_tup (pa_cons pe_str (pa_cons (pe_ix ix_list (pv 6) pe_int (fun _ _ => rfl)) pa_nil))))))))))), ?_⟩
    have told : ∀ (d : PyData), rdOf way z = .told d → ∀ H' v, Same H H' → (∀ H'', Same H' H'' → Dp K H'' v d) → ∀ r, H' r = none → Q (.ref r) (upd H' r (.tup [.str "told", v])) := fun d hd H' v s' hv r nr => q _ _ (s'.trans (same_upd nr)) (by rw [hd]; exact .tup (.inl (.inl upd_same)) (.cons (.str _) (.cons (hv _ (same_upd nr)) .nil)))
    have bad : ∀ (i : Nat), rdOf way z = .bad i → ∀ H', Same H H' → ∀ r, H' r = none → Q (.ref r) (upd H' r (.tup [.str "NoText", .int (i : Nat)])) := fun i hi H' s' r nr => q _ _ (s'.trans (same_upd nr)) (by rw [hi]; exact .tup (.inl (.inl upd_same)) (.cons (.str _) (.cons (.int _) .nil)))
    refine ⟨.int (way : Nat), rfl, rfl, _, rfl, ?_⟩
    by_cases w0 : way = 0
    · subst w0
      refine iteDY (decide_eq_true rfl) ⟨_, rfl, z, rfl, hz, fun H1 v s1 hv _ => ?_⟩
      by_cases e : entL (entDs (wordsT z)) = true
      · have eO : entO z = .tuple (entDs (wordsT z)) := if_pos e
        rw [eO] at hv
        have hv0 := hv _ (Same.refl _)
        cases hv0 with
        | @tup p xs _ hs ha => exact ⟨_, rfl, rfl, _, rfl, iteDN (decide_eq_false fun y => nomatch y) ⟨_, rfl, by show 2 ≤ sizeLine; decide, told _ (if_pos e) H1 _ s1 hv⟩⟩
      · have eO : entO z = .none := if_neg e
        rw [eO] at hv
        have hv0 := hv _ (Same.refl _)
        cases hv0
        exact ⟨_, rfl, rfl, _, rfl, iteDY (decide_eq_true rfl) ⟨by show 2 ≤ sizeLine; decide, bad 0 (if_neg e) H1 s1⟩⟩
    refine iteDN (decide_eq_false fun y => w0 (by have := V.int.inj y; omega)) ?_
    refine ⟨.str z, rfl, rfl, _, rfl, ?_⟩
    by_cases e0 : z = stroke
    · have hd : rdOf way z = .told (.tuple []) := by
        unfold rdOf
        rw [if_neg w0]
        split
        · exact if_pos e0
        · exact if_pos e0
      refine iteDY (decide_eq_true (congrArg V.str e0)) ⟨Nat.zero_le _, fun t nt => ⟨by show 2 ≤ sizeLine; decide, fun r nr => ?_⟩⟩
      exact told _ hd _ _ (same_upd nt) (fun H'' s'' => .tup (.inl (.inl (s'' _ _ upd_same))) .nil) r nr
    refine iteDN (decide_eq_false fun y => e0 (V.str.inj y)) ⟨.int (way : Nat), rfl, rfl, _, rfl, ?_⟩
    by_cases w1 : way = 1
    · subst w1
      have q1 : rdOf 1 z = (match badAt false 0 (partsO z) with | none => .told (.tuple (partsO z)) | some i => .bad i) := by
        show rdLog z = _
        unfold rdLog
        rw [if_neg e0]
        all_goals (cases badAt false 0 (partsO z) <;> rfl)
      have cnt := split_cnt (z := z) (m := semi) (by decide +kernel)
      refine iteDY (decide_eq_true rfl) ⟨_, rfl, rfl, _, _, rfl, rfl, by decide +kernel, Nat.le_trans (show z.length + 2 ≤ 1000 by omega) (by decide), fun W nW => ?_⟩
      have sW := same_upd (o := .lst ((Txt.split z semi).map V.str)) nW
      have eW : upd H W (.lst ((Txt.split z semi).map V.str)) W = some (.lst ((Txt.split z semi).map V.str)) := upd_same
      generalize upd H W (.lst ((Txt.split z semi).map V.str)) = H1 at sW eW ⊢
      refine ⟨W, rfl, ⟨_, .inl (.inl eW)⟩, fun D hD => lc_it (walk_list (xs := (Txt.split z semi).map V.str)) (fun i H' => Same H1 H' ∧ ∃ ys, H' D = some (.lst ys) ∧ DpAll K (wo H' (fun c => c = D)) ys ((partsO z).take i)) ⟨same_upd hD, [], upd_same, .nil⟩ (fun i H' _ h => .inl (.inl (h.1 _ _ eW))) ?_ ?_⟩
      · rintro i v H2 H3 hi ⟨sm, ys, eD, hy⟩ ⟨rfl, hx⟩
        rw [List.getElem?_map] at hx
        obtain ⟨x, fx, rfl⟩ : ∃ x, (Txt.split z semi)[i]? = some x ∧ V.str x = v := by
          cases e1 : (Txt.split z semi)[i]? with
          | none => rw [e1] at hx; cases hx
          | some x => rw [e1] at hx; exact ⟨x, rfl, Option.some.inj hx⟩
        have lx := split_mem (List.mem_of_getElem? fx)
        have ly := dpa_len _ _ hy
        rw [List.length_take] at ly
        have fp : (partsO z)[i]? = some (entO x) := by unfold partsO; rw [List.getElem?_map, fx]; rfl
        have lp : (partsO z).length = (Txt.split z semi).length := List.length_map _
        refine ⟨rfl, _, rfl, x, rfl, by omega, fun H4 v s4 _ hv => ⟨ys, s4 _ _ eD, small1000 (by omega), fun c o h => (upd_ne (ne_of_none h hD)).trans (s4 _ _ (sm _ _ h)), _, upd_same, ?_⟩⟩
        have m5 : Same (wo H3 (fun c => c = D)) (wo (upd H4 D (.lst (ys ++ [v]))) (fun c => c = D)) := fun c o h => by
          have h2 := wo_some h
          rw [wo_in (X := fun c => c = D) h2.1, upd_ne h2.1]
          exact s4 _ _ h2.2
        have m6 : Same (wo H4 (fun c => c = D)) (wo (upd H4 D (.lst (ys ++ [v]))) (fun c => c = D)) := fun c o h => by
          have h2 := wo_some h
          rw [wo_in (X := fun c => c = D) h2.1, upd_ne h2.1]
          exact h2.2
        rw [List.take_add_one, fp]
        exact dpa_snoc (dp_same m6 _ _ (hv (fun c => c = D) (fun c hc => by rw [hc, eD]; exact fun y => nomatch y))) _ _ (dpa_same m5 _ _ hy)
      rintro H2 ⟨sm, ys, eD, hy⟩
      have lp : (partsO z).length = (Txt.split z semi).length := List.length_map _
      rw [List.length_map, ← lp, List.take_length] at hy
      have hy2 := dpa_same wo_same _ _ hy
      refine ⟨.ref D, rfl, D, ys, partsO z, rfl, .inl (.inl eD), hy2, fun d hd => ?_, by omega, fun H3 s3 => ?_⟩
      · unfold partsO at hd
        obtain ⟨x, hx, rfl⟩ := List.mem_map.mp hd
        exact entO_ge (by have := split_mem hx; omega)
      have s03 := (sW.trans sm).trans s3
      cases eb : badAt false 0 (partsO z) with
      | none =>
        rw [eb] at q1
        refine ⟨.non, rfl, rfl, _, rfl, iteDY (decide_eq_true rfl) ⟨.ref D, rfl, D, ys, rfl, .inl ⟨.inl (.inl (s3 _ _ eD)), fun t nt => ⟨by show 2 ≤ sizeLine; decide, fun r nr => ?_⟩⟩⟩⟩
        have st := same_upd (o := .tup ys) nt
        exact told _ q1 _ _ (s03.trans st) (fun H'' s'' => .tup (.inl (.inl (s'' _ _ upd_same))) (dpa_same ((s3.trans st).trans s'') _ _ hy2)) r nr
      | some i =>
        rw [eb] at q1
        exact ⟨.int (i : Nat), rfl, rfl, _, rfl, iteDN (decide_eq_false fun y => nomatch y) ⟨_, rfl, by show 2 ≤ sizeLine; decide, bad i q1 H3 s03⟩⟩
    refine iteDN (decide_eq_false fun y => w1 (by have := V.int.inj y; omega)) ?_
    have q1 : rdOf way z = (match badLot 0 (lotsO z) with | none => .told (.tuple (lotsO z)) | some i => .bad i) := by
      unfold rdOf
      rw [if_neg w0, if_neg w1]
      unfold rdDeal
      rw [if_neg e0]
      all_goals (cases badLot 0 (lotsO z) <;> rfl)
    obtain ⟨l1, l2⟩ := words_len hz
    refine ⟨_, rfl, rfl, _, _, rfl, rfl, by decide +kernel, Nat.le_trans (show z.length + 2 ≤ 1000 by omega) (by decide), fun W nW => ?_⟩
    rw [show Txt.split z (PySem.Str.ofString " ") = wordsT z from rfl]
    have lo : lotsO z = (wordsT z).map lotO := rfl
    generalize wordsT z = ws at l1 l2 lo ⊢
    have sW := same_upd (o := .lst (ws.map V.str)) nW
    have eW : upd H W (.lst (ws.map V.str)) W = some (.lst (ws.map V.str)) := upd_same
    generalize upd H W (.lst (ws.map V.str)) = H1 at sW eW ⊢
    have at_ : ∀ {i : Nat} {v : V}, (ws.map V.str)[i]? = some v → ∃ x, ws[i]? = some x ∧ V.str x = v := fun {i v} hx => by
      rw [List.getElem?_map] at hx
      cases e1 : ws[i]? with
      | none => rw [e1] at hx; cases hx
      | some x => rw [e1] at hx; exact ⟨x, rfl, Option.some.inj hx⟩
    refine ⟨.ref W, rfl, W, _, rfl, .inl (.inl eW), fun D hD => lc_it (walk_enum (xs := ws.map V.str)) (fun i H' => Same H1 H' ∧ ∃ bs : List Nat, H' D = some (.lst (bs.map natV)) ∧ bs.length ≤ i ∧ (bs = [] ∧ badLot 0 (lotsO z) = badLot i ((lotsO z).drop i) ∨ ∃ b r, bs = b :: r ∧ badLot 0 (lotsO z) = some b)) ⟨same_upd hD, [], upd_same, Nat.zero_le _, .inl ⟨rfl, rfl⟩⟩ (fun i H' _ h => .inl (.inl (h.1 _ _ eW))) ?_ ?_⟩
    · rintro i v H2 H3 hi ⟨sm, bs, eD, lb, hb⟩ ⟨t, u1, u2, rfl, nt, rfl, e1, e2⟩
      cases e1
      obtain ⟨x, fx, rfl⟩ := at_ e2
      have st := same_upd (o := .tup [.int (i : Nat), .str x]) nt
      have il : i < ws.length := (List.getElem?_eq_some_iff.mp fx).1
      have fd : (lotsO z)[i]? = some (lotO x) := by rw [lo, List.getElem?_map, fx]; rfl
      have dr : (lotsO z).drop i = lotO x :: (lotsO z).drop (i + 1) := by
        obtain ⟨h1, h2⟩ := List.getElem?_eq_some_iff.mp fd
        rw [List.drop_eq_getElem_cons h1, h2]
      refine ⟨t, _, rfl, .inl (.inl upd_same), rfl, _, _, rfl, _, _, rfl, rfl, rfl, ?_⟩
      refine ⟨.str x, rfl, N07, rfl, by decide +kernel, fun l nl => ⟨l, LsT.sgs N07.cps.toList, rfl, .inl (.inl (.inl upd_same)), rfl, sgs_flat _, _, rfl, ?_⟩⟩
      have s4 := (sm.trans st).trans (same_upd (o := .lst (LsT.sgs N07.cps.toList)) nl)
      have s24 := st.trans (same_upd (o := .lst (LsT.sgs N07.cps.toList)) nl)
      show if (!sevenF x) = true then _ else _
      have hl := seven_lot x
      cases h7 : sevenF x with
      | true =>
        rw [h7] at hl
        refine iteF ⟨s4, bs, s24 _ _ eD, by omega, ?_⟩
        rcases hb with ⟨rfl, hb⟩ | hb
        · refine .inl ⟨rfl, ?_⟩
          rw [hb, dr]
          exact if_pos hl
        · exact .inr hb
      | false =>
        rw [h7] at hl
        refine iteT ⟨_, rfl, _, s24 _ _ eD, ?_, fun c o h => (upd_ne (ne_of_none h hD)).trans (s4 _ _ h), bs ++ [i], ?_, ?_, ?_⟩
        · rw [List.length_map]
          exact small1001 (by omega)
        · rw [upd_same, List.map_append]
          rfl
        · rw [List.length_append]
          show bs.length + 1 ≤ i + 1
          omega
        · rcases hb with ⟨rfl, hb⟩ | ⟨b, r, rfl, hb⟩
          · refine .inr ⟨i, [], rfl, ?_⟩
            rw [hb, dr]
            exact if_neg (by rw [hl]; decide)
          · exact .inr ⟨b, r ++ [i], rfl, hb⟩
    rintro H2 ⟨sm, bs, eD, lb, hb⟩
    have hd2 : ∀ H', SqL K H' D (bs.map natV) → Dp K H' (.ref D) (.list (bs.map fun n => PyData.int (n : Nat))) := fun H' h => by
      refine .lst h ?_
      clear h lb hb eD
      induction bs with
      | nil => exact .nil
      | cons b r ih => exact .cons (.int _) ih
    refine ⟨.ref D, rfl, Nat.zero_le _, fun l nl => ?_⟩
    have sl := same_upd (o := .lst []) nl
    refine ⟨_, .list [], hd2 _ (.inl (.inl (sl _ _ eD))), .lst (.inl (.inl upd_same)) .nil, nats_shaped bs, by decide +kernel, _, rfl, ?_⟩
    have s0 := sW.trans sm
    have s0l := s0.trans sl
    rcases hb with ⟨rfl, hb⟩ | ⟨b, r, rfl, hb⟩
    · have hn : badLot 0 (lotsO z) = none := by
        rw [hb, lo, List.drop_of_length_le (by rw [List.length_map, List.length_map]; exact Nat.le_refl _)]
        rfl
      rw [hn] at q1
      have all7 : ∀ x ∈ ws, sevenF x = true := fun x hx => by
        rw [← seven_lot x]
        refine badLot_all hn _ ?_
        rw [lo]
        exact List.mem_map.mpr ⟨x, hx, rfl⟩
      refine iteDY rfl ⟨.ref W, rfl, W, rfl, ⟨_, .inl (.inl (sl _ _ (sm _ _ eW)))⟩, fun D2 hD2 => lc_it (walk_list (xs := ws.map V.str)) (fun i H' => Same (upd H2 l (.lst [])) H' ∧ H' D2 = some (.lst ((ws.take i).map fun x => numV (numIn x.cps.toList)))) ⟨same_upd hD2, upd_same⟩ (fun i H' _ h => .inl (.inl (h.1 _ _ (sl _ _ (sm _ _ eW))))) ?_ ?_⟩
      · rintro i v H3 H4 hi ⟨sm4, eD2⟩ ⟨rfl, hx⟩
        obtain ⟨x, fx, rfl⟩ := at_ hx
        obtain ⟨c, c0, c1, ex⟩ := (seven_iff x).mp (all7 x (List.mem_of_getElem? fx))
        refine ⟨rfl, _, rfl, x, ((c - 48 : Nat) : Int), rfl, by rw [ex]; exact int_one c0 (by omega), by rw [ex]; exact (by decide : (1 : Nat) ≤ 640), _, eD2, ?_, fun c o h => (upd_ne (ne_of_none h hD2)).trans (sm4 _ _ h), ?_⟩
        · rw [List.length_map, List.length_take]
          exact small1001 (by omega)
        · rw [upd_same, List.take_add_one, fx, List.map_append]
          show _ = some (HO.lst (_ ++ [numV (numIn x.cps.toList)]))
          rw [ex, num_one c0 (by omega)]
          rfl
      rintro H3 ⟨sm3, eD2⟩
      rw [List.length_map, List.take_length] at eD2
      refine ⟨D2, _, rfl, .inl ⟨.inl (.inl eD2), fun t nt => ⟨by show 2 ≤ sizeLine; decide, fun r nr => ?_⟩⟩⟩
      refine told _ q1 _ _ ((s0l.trans sm3).trans (same_upd nt)) (fun H'' s'' => .tup (.inl (.inl (s'' _ _ upd_same))) ?_) r nr
      rw [lo]
      exact nums_dp ws
    · rw [hb] at q1
      refine iteDN rfl ⟨.ref D, rfl, D, _, 0, .int (b : Nat), rfl, rfl, .inl (.inl (sl _ _ eD)), atI_nat (j := 0) rfl, by show 2 ≤ sizeLine; decide, bad b q1 _ s0l⟩
--@@SPLIT
/-! ### a text read by the program, or refused -/
theorem kit_three {K : PySem.W.Frag} {t a b c : Value} (h1 : PySem.W.kitOne K t a = some false) (h2 : PySem.W.kitOne K t b = some false) (h3 : PySem.W.kitOne K t c = some false) : PySem.W.kitAny K t [a, b, c] = some false := by
  simp only [PySem.W.kitAny, h1, h2, h3]
theorem ok_Lread (T : Top w K mg) : FnOk P w K mg base CX0 10 T.a_Lread T.fd_Lread ["_law_way", "_law_text"] (spDueT K) := by
  have G_read_entry := ok_read_entry (P := P) (w := w) (base := base) T
  have G_read_log := ok_read_log (P := P) (w := w) (base := base) T
  have G_read_dealing := ok_read_dealing (P := P) (w := w) (base := base) T
  refine T.F_Lread.ok sc_Lread (fun vs H Q E h => ?_) (fun cdv A outer s H vs Q E hr h => ?_)
  · obtain ⟨way, z, rfl, _⟩ := h
    rfl
  · obtain ⟨way, z, rfl, hw, hz, q⟩ := h
    refine ⟨_, (pss_cons (ps_set (i := 2) sc_Lread.nd rfl (.inl rfl) (pe_tup (pa_cons pe_str (pa_cons pe_non pa_nil))))
      (pss_cons (ps_try_as (i := 3) rfl rfl sc_Lread.nd rfl rfl ⟨rfl, by decide, .inl T.g_NoText⟩ takes0 (fun W pn xe tk _ => (pss_one (ps_if (pt_cmpR op_eq (pv 0) pe_int (nomark _)) (pss_one (ps_set (i := 2) sc_Lread.nd rfl (.inl rfl) (pe_tup (pa_cons pe_str (pa_cons (pe_callS G_read_entry (hr.mono (by decide)) (by rfl) T.g_read_entry T.F_read_entry.kp T.b_read_entry (fun σ => passAt tk σ) (pa_cons (pv 1) pa_nil)) pa_nil))))) (pss_one (ps_set (i := 2) sc_Lread.nd rfl (.inl rfl) (pe_tup (pa_cons pe_str (pa_cons (pe_ifExp (pt_cmpR op_eq (pv 0) pe_int (nomark _)) (pe_callS G_read_log hr (by rfl) T.g_read_log T.F_read_log.kp T.b_read_log (fun σ => passAt tk σ) (pa_cons (pv 1) pa_nil)) (pe_callS G_read_dealing (hr.mono (by decide)) (by rfl) T.g_read_dealing T.F_read_dealing.kp T.b_read_dealing (fun σ => passAt tk σ) (pa_cons (pv 1) pa_nil))) pa_nil)))))))) (fun a oe cls d pn hz hf => (pss_cons (ps_set (i := 4) sc_Lread.nd rfl (.inl rfl) (pe_and (pe_callB (r := LsT.rIsS K a T.a_NoText cls d) (LsT.call_isS rfl T.exc_NoText List.mem_cons_self hz hf) (by rfl) T.m_isinstance (by decide +kernel) (pa_cons (pv 3) (pa_cons (pe_glob (v := .ref T.a_NeedleError) (by rfl) T.g_NeedleError rfl) pa_nil))) (pe_one (pe_not (pe_callB (r := LsT.rIsT K a T.a_NoText cls d) (LsT.call_isT rfl T.exc_NoText List.mem_cons_self hz hf) (by rfl) T.m_isinstance (by decide +kernel) (pa_cons (pv 3) (pa_cons (pe_tup (pa_cons (pe_glob (v := .ref T.a_BadLog) (by rfl) T.g_BadLog rfl) (pa_cons (pe_glob (v := .ref T.a_NoDealing) (by rfl) T.g_NoDealing rfl) (pa_cons (pe_glob (v := .ref T.a_NoLot) (by rfl) T.g_NoLot rfl) pa_nil)))) pa_nil)))))))
      (pss_one (ps_set (i := 2) sc_Lread.nd rfl (.inl rfl) (pe_tup (pa_cons (pe_ifExp (pt_val (pv 4)) pe_str pe_str) (pa_cons (pe_xf T.xf_NoText T.no_NoText_at hz hf (pv 3)) pa_nil))))))))
      (pss_one (ps_ret (pv 2))))), ?_⟩
    refine ⟨by show 2 ≤ sizeLine; decide, fun t0 n0 => ?_⟩
    have s0 := same_upd (o := .tup [.str "odd", .non]) n0
    generalize upd H t0 (.tup [.str "odd", .non]) = H0 at s0 ⊢
    have told : ∀ (d : PyData), rdOf way z = .told d → ∀ H' v, Same H0 H' → Dp K H' v d → ∀ r, H' r = none → Q (.ref r) (upd H' r (.tup [.str "told", v])) := fun d hd H' v s' hv r nr => q _ _ ((s0.trans s').trans (same_upd nr)) (by rw [hd]; exact .tup (.inl (.inl upd_same)) (.cons (.str _) (.cons (dp_same (same_upd nr) _ _ hv) .nil)))
    have bad : ∀ (i : Nat), rdOf way z = .bad i → ∀ H', Same H0 H' → ∀ r, H' r = none → Q (.ref r) (upd H' r (.tup [.str "NoText", .int (i : Nat)])) := fun i hi H' s' r nr => q _ _ ((s0.trans s').trans (same_upd nr)) (by rw [hi]; exact .tup (.inl (.inl upd_same)) (.cons (.str _) (.cons (.int _) .nil)))
    refine ⟨.int (way : Nat), rfl, rfl, _, rfl, ?_⟩
    by_cases w0 : way = 0
    · subst w0
      refine iteDY (decide_eq_true rfl) ⟨.str z, rfl, z, rfl, hz, fun d hd H' v s' hv => ⟨by show 2 ≤ sizeLine; decide, fun r nr => ⟨_, rfl, told d hd H' v s' hv r nr⟩⟩, fun i hi H' dd s' nd ed => ?_⟩
      refine ⟨true, T.exm_NoText, (fun _ a0 _ => ?_), fun y => Bool.noConfusion y⟩
      refine ⟨.ref a0, rfl, .ref T.a_NeedleError, _, true, dd, _, rfl, rfl, rfl, (fun u h => h), ed, T.kit_NoText_NeedleError, true, rfl, iteT ?_⟩
      refine ⟨.ref a0, rfl, by show 3 ≤ sizeLine; decide, fun tp np => ?_⟩
      have st := same_upd (o := .tup [.ref T.a_BadLog, .ref T.a_NoDealing, .ref T.a_NoLot]) np
      refine ⟨tp, _, _, false, dd, _, rfl, rfl, rfl, upd_same, .cons (.own _) (.cons (.own _) (.cons (.own _) .nil)), st _ _ ed, kit_three T.kit_NoText_BadLog T.kit_NoText_NoDealing T.kit_NoText_NoLot, false, rfl, ?_⟩
      refine ⟨.bl true, rfl, true, rfl, iteT ⟨.ref a0, rfl, rfl, rfl, dd, _, .int (i : Nat), rfl, st _ _ ed, by simp [List.lookup], by show 2 ≤ sizeLine; decide, fun r nr => ⟨_, rfl, bad i hi _ (s'.trans st) r nr⟩⟩⟩
    refine iteDN (decide_eq_false fun y => w0 (by have := V.int.inj y; omega)) ⟨.int (way : Nat), rfl, rfl, _, rfl, ?_⟩
    by_cases w1 : way = 1
    · subst w1
      refine iteDY (decide_eq_true rfl) ⟨.str z, rfl, z, rfl, hz, fun d hd H' v s' hv => ⟨by show 2 ≤ sizeLine; decide, fun r nr => ⟨_, rfl, told d hd H' v s' hv r nr⟩⟩, fun i hi H' dd s' nd ed => ?_⟩
      refine ⟨true, T.exm_NoText, (fun _ a0 _ => ?_), fun y => Bool.noConfusion y⟩
      refine ⟨.ref a0, rfl, .ref T.a_NeedleError, _, true, dd, _, rfl, rfl, rfl, (fun u h => h), ed, T.kit_NoText_NeedleError, true, rfl, iteT ?_⟩
      refine ⟨.ref a0, rfl, by show 3 ≤ sizeLine; decide, fun tp np => ?_⟩
      have st := same_upd (o := .tup [.ref T.a_BadLog, .ref T.a_NoDealing, .ref T.a_NoLot]) np
      refine ⟨tp, _, _, false, dd, _, rfl, rfl, rfl, upd_same, .cons (.own _) (.cons (.own _) (.cons (.own _) .nil)), st _ _ ed, kit_three T.kit_NoText_BadLog T.kit_NoText_NoDealing T.kit_NoText_NoLot, false, rfl, ?_⟩
      refine ⟨.bl true, rfl, true, rfl, iteT ⟨.ref a0, rfl, rfl, rfl, dd, _, .int (i : Nat), rfl, st _ _ ed, by simp [List.lookup], by show 2 ≤ sizeLine; decide, fun r nr => ⟨_, rfl, bad i hi _ (s'.trans st) r nr⟩⟩⟩
    have w2 : way = 2 := by omega
    subst w2
    refine iteDN (decide_eq_false fun y => w1 (by have := V.int.inj y; omega)) ⟨.str z, rfl, z, rfl, hz, fun d hd H' v s' hv => ⟨by show 2 ≤ sizeLine; decide, fun r nr => ⟨_, rfl, told d hd H' v s' hv r nr⟩⟩, fun i hi H' dd s' nd ed => ?_⟩
    refine ⟨true, T.exm_NoText, (fun _ a0 _ => ?_), fun y => Bool.noConfusion y⟩
    refine ⟨.ref a0, rfl, .ref T.a_NeedleError, _, true, dd, _, rfl, rfl, rfl, (fun u h => h), ed, T.kit_NoText_NeedleError, true, rfl, iteT ?_⟩
    refine ⟨.ref a0, rfl, by show 3 ≤ sizeLine; decide, fun tp np => ?_⟩
    have st := same_upd (o := .tup [.ref T.a_BadLog, .ref T.a_NoDealing, .ref T.a_NoLot]) np
    refine ⟨tp, _, _, false, dd, _, rfl, rfl, rfl, upd_same, .cons (.own _) (.cons (.own _) (.cons (.own _) .nil)), st _ _ ed, kit_three T.kit_NoText_BadLog T.kit_NoText_NoDealing T.kit_NoText_NoLot, false, rfl, ?_⟩
    refine ⟨.bl true, rfl, true, rfl, iteT ⟨.ref a0, rfl, rfl, rfl, dd, _, .int (i : Nat), rfl, st _ _ ed, by simp [List.lookup], by show 2 ≤ sizeLine; decide, fun r nr => ⟨_, rfl, bad i hi _ (s'.trans st) r nr⟩⟩⟩
--@@SPLIT
/-! ### a text drawn, a text bent -/
theorem sum_le {k : Nat} : ∀ ts : List Str, (∀ t ∈ ts, t.length ≤ k) → (ts.map (·.length)).sum ≤ k * ts.length
  | [], _ => Nat.zero_le _
  | t :: r, h => by
    rw [List.map_cons, List.sum_cons, List.length_cons, Nat.mul_succ]
    have h1 := h t List.mem_cons_self
    have h2 := sum_le r fun x hx => h x (List.mem_cons_of_mem _ hx)
    omega
theorem join_le {m : Str} {k : Nat} {ts : List Str} (h : ∀ t ∈ ts, t.length ≤ k) : (Txt.join m ts).length ≤ k * ts.length + ts.length * m.length := by
  rw [TL.join_eq, join_lenG]
  have h1 := sum_le ts h
  have h2 : (ts.length - 1) * m.length ≤ ts.length * m.length := Nat.mul_le_mul_right _ (Nat.sub_le _ _)
  omega
theorem ws12 : ∀ i : Fin 10, (ws i).length ≤ 12 := by decide +kernel
theorem lt12 : ∀ l : Fin 4, (Lt l).length ≤ 12 := by decide +kernel
theorem int12 : ∀ n : Fin 9, (partT (.int ((n.val : Int) + 1))).length ≤ 12 := by decide +kernel
theorem part12 {e : Ent} (ok : e.ok) : ∀ d ∈ e.parts, (partT d).length ≤ 12 ∧ ((∃ z, d = .str z) ∨ ∃ n : Nat, d = .int (n : Int) ∧ n ≤ 9) := by
  intro d hd
  rcases List.mem_cons.mp hd with hd | hd
  · rw [hd]
    exact ⟨ws12 _, .inl ⟨_, rfl⟩⟩
  have num : ∀ n : Fin 9, (partT (.int ((n.val : Int) + 1))).length ≤ 12 ∧ ((∃ z, PyData.int ((n.val : Int) + 1) = .str z) ∨ ∃ m : Nat, PyData.int ((n.val : Int) + 1) = .int (m : Int) ∧ m ≤ 9) := fun n => ⟨int12 n, .inr ⟨n.val + 1, by rw [Int.natCast_add]; rfl, by omega⟩⟩
  cases e with
  | face l => rw [List.mem_singleton.mp hd]; exact ⟨lt12 l, .inl ⟨_, rfl⟩⟩
  | go n => rw [List.mem_singleton.mp hd]; exact num n
  | sign z => rw [List.mem_singleton.mp hd]; exact ⟨ok.1, .inl ⟨_, rfl⟩⟩
  | spy n z =>
    rcases List.mem_cons.mp hd with hd | hd
    · rw [hd]; exact num n
    · rw [List.mem_singleton.mp hd]; exact ⟨ok.1, .inl ⟨_, rfl⟩⟩
  | turn q => cases hd
  | bump => cases hd
  | bare => cases hd
  | swap => cases hd
theorem three (e : Ent) : e.parts.length ≤ 3 := by
  cases e <;> first | exact (by decide : 1 ≤ 3) | exact (by decide : 2 ≤ 3) | exact (by decide : 3 ≤ 3)
theorem ent38 {e : Ent} (ok : e.ok) : (entT e.parts).length ≤ 39 := by
  have h := join_le (m := blank) (k := 12) (ts := e.parts.map partT) (fun t ht => by
    obtain ⟨d, hd, rfl⟩ := List.mem_map.mp ht
    exact (part12 ok d hd).1)
  rw [List.length_map, show blank.length = 1 by decide +kernel] at h
  have h3 := three e
  unfold entT
  omega
def spSomeText : Sp := fun vs H Q _ => ∃ p, vs = [.ref p] ∧ Pool H p ∧ ∀ H' (z : Str), But p H H' → Pool H' p → z.length ≤ 250 → Q (.str z) H'
theorem ok_Lsome_text (T : Top w K mg) : FnOk P w K mg base CX0 6 T.a_Lsome_text T.fd_Lsome_text ["_law_pool_here"] spSomeText := by
  have G_Ltake := ok_Ltake (P := P) (w := w) (base := base) T
  have G_Lany_entry := ok_Lany_entry (P := P) (w := w) (base := base) T
  have G_Lany_log := ok_Lany_log (P := P) (w := w) (base := base) T
  refine T.F_Lsome_text.ok sc_Lsome_text (fun vs H Q E h => ?_) (fun cdv A outer s H vs Q E hr h => ?_)
  · obtain ⟨p, rfl, _⟩ := h
    rfl
  · obtain ⟨p, rfl, hp, q⟩ := h
    refine ⟨_, (pss_cons (ps_set (i := 1) sc_Lsome_text.nd rfl (.inl rfl) (pe_call G_Ltake (hr.mono (by decide)) (by rfl) T.g_Ltake T.F_Ltake.kp T.b_Ltake .nil pass0 (pa_cons (pv 0) (pa_cons pe_int pa_nil))))
      (pss_cons (ps_if (pt_cmpR op_eq (pv 1) pe_int (nomark _)) (pss_one (ps_ret (pe_bm PySem.F.plainAttrs_str PySem.F.slot_str_join PySem.F.type_str_join mt_join pe_str (pa_cons (pe_lc (own := [("_law_part", 4)]) (g := gName 4) (by rfl) sc_Lsome_text.nd (pi_tup (pe_call G_Lany_entry (hr.mono (by decide)) (by rfl) T.g_Lany_entry T.F_Lany_entry.kp T.b_Lany_entry .nil pass0 (pa_cons (pv 0) (pa_cons pe_bl pa_nil)))) (blkOk_by (own := [("_law_part", 4)]) (N := ["_law_pool_here", "_law_way", "_law_log", "_law_some", "_law_part", "_law_entry", "_law_k"]) (sc := defScope s_Lsome_text) (by decide +kernel)) (fun _ _ _ _ _ => (pg_name (i := 4) sc_Lsome_text.nd rfl (Or.inl rfl))) (fun _ _ _ _ _ => pts_nil) (fun _ _ _ _ _ => (pe_callTy call_strA (by rfl) T.m_str (by decide +kernel) (pa_cons (pv 4) pa_nil)))) pa_nil)))) pss_nil)
      (pss_cons (ps_if (pt_cmpR op_eq (pv 1) pe_int (nomark _)) (pss_cons (ps_set (i := 2) sc_Lsome_text.nd rfl (.inl rfl) (pe_call G_Lany_log hr (by rfl) T.g_Lany_log T.F_Lany_log.kp T.b_Lany_log .nil pass0 (pa_cons (pv 0) (pa_cons (pe_call G_Ltake (hr.mono (by decide)) (by rfl) T.g_Ltake T.F_Ltake.kp T.b_Ltake .nil pass0 (pa_cons (pv 0) (pa_cons pe_int pa_nil))) (pa_cons pe_int pa_nil)))))
      (pss_one (ps_ret (pe_bm PySem.F.plainAttrs_str PySem.F.slot_str_join PySem.F.type_str_join mt_join pe_str (pa_cons (pe_lc (own := [("_law_entry", 5)]) (g := gName 5) (by rfl) sc_Lsome_text.nd (pi_tup (pv 2)) (blkOk_by (own := [("_law_entry", 5)]) (N := ["_law_pool_here", "_law_way", "_law_log", "_law_some", "_law_part", "_law_entry", "_law_k"]) (sc := defScope s_Lsome_text) (by decide +kernel)) (fun _ _ _ _ _ => (pg_name (i := 5) sc_Lsome_text.nd rfl (Or.inl rfl))) (fun _ _ _ _ _ => pts_nil) (fun _ _ _ _ _ => (SeqK.pe_bmK (K := K) rfl PySem.F.plainAttrs_str PySem.F.slot_str_join PySem.F.type_str_join (r := SeqK.rJoin K) (SeqK.joinK rfl) pe_str (pa_cons (pe_lc (own := [("_law_part", 4)]) (g := gName 4) (by rfl) sc_Lsome_text.nd (SeqK.pi_seqK (K := K) rfl (pv 5)) (blkOk_by (own := [("_law_part", 4)]) (N := ["_law_pool_here", "_law_way", "_law_log", "_law_some", "_law_part", "_law_entry", "_law_k"]) (sc := ({ kind := PySem.ScopeKind.function, names := [(PySem.Str.ofString ".0", PySem.NameKind.local), (PySem.Str.ofString "_law_entry", PySem.NameKind.local)], isGenerator := false, isCoroutine := false, more := [] : PySem.Scope })) (by decide +kernel)) (fun _ _ _ _ _ => (pg_name (i := 4) sc_Lsome_text.nd rfl (Or.inl rfl))) (fun _ _ _ _ _ => pts_nil) (fun _ _ _ _ _ => (pe_callTy call_strA (by rfl) T.m_str (by decide +kernel) (pa_cons (pv 4) pa_nil)))) pa_nil)))) pa_nil))))) pss_nil)
      (pss_cons (ps_if (pt_cmpR op_eq (pv 1) pe_int (nomark _)) (pss_one (ps_ret (pe_bm PySem.F.plainAttrs_str PySem.F.slot_str_join PySem.F.type_str_join mt_join pe_str (pa_cons (pe_lc (own := [("_law_k", 6)]) (g := gName 6) (by rfl) sc_Lsome_text.nd (pi_range1 (by rfl) T.m_range (pa_cons (pe_call G_Ltake (hr.mono (by decide)) (by rfl) T.g_Ltake T.F_Ltake.kp T.b_Ltake .nil pass0 (pa_cons (pv 0) (pa_cons pe_int pa_nil))) pa_nil)) (blkOk_by (own := [("_law_k", 6)]) (N := ["_law_pool_here", "_law_way", "_law_log", "_law_some", "_law_part", "_law_entry", "_law_k"]) (sc := defScope s_Lsome_text) (by decide +kernel)) (fun _ _ _ _ _ => (pg_name (i := 6) sc_Lsome_text.nd rfl (Or.inl rfl))) (fun _ _ _ _ _ => pts_nil) (fun _ _ _ _ _ => (pe_callTy call_strA (by rfl) T.m_str (by decide +kernel) (pa_cons (pe_call G_Ltake (hr.mono (by decide)) (by rfl) T.g_Ltake T.F_Ltake.kp T.b_Ltake .nil pass0 (pa_cons (pv 0) (pa_cons pe_int pa_nil))) pa_nil)))) pa_nil)))) pss_nil)
      (pss_cons (ps_set (i := 3) sc_Lsome_text.nd rfl (.inl rfl) (pe_tup (pa_cons pe_str (pa_cons pe_str (pa_cons pe_str (pa_cons pe_str (pa_cons pe_str (pa_cons pe_str (pa_cons pe_str (pa_cons pe_str (pa_cons pe_str (pa_cons pe_str (pa_cons pe_str (pa_cons pe_str pa_nil))))))))))))))
      (pss_one (ps_ret (pe_ix ix_tup (pv 3) (pe_call G_Ltake (hr.mono (by decide)) (by rfl) T.g_Ltake T.F_Ltake.kp T.b_Ltake .nil pass0 (pa_cons (pv 0) (pa_cons pe_int pa_nil))) (fun _ _ => rfl))))))))), ?_⟩
    refine ⟨.ref p, rfl, p, 4, rfl, by decide, by decide, hp, fun H1 k b1 hp1 k0 k1 => ?_⟩
    have x1 : HX p (fun b => b = p) H1 := ⟨rfl, fun b h => h ▸ hp1.known⟩
    refine ⟨.int k, rfl, rfl, _, rfl, ite2 (fun e => ?_) (fun e => ?_)⟩
    · refine ⟨rfl, .ref p, rfl, p, true, _, rfl, hp1, x1, fun H2 t en b2 hp2 hd ok _ => ?_⟩
      have hd2 := dp_same wo_same _ _ hd
      cases hd2 with
      | @tup _ xs _ hs ha =>
        have lx := dpa_len _ _ ha
        have l3 := three en
        refine ⟨t, rfl, ⟨_, hs⟩, fun D hD => lc_it (walk_tup (xs := xs)) (fun i H' => Same H2 H' ∧ H' D = some (.lst (((en.parts.take i).map partT).map V.str))) ⟨same_upd hD, upd_same⟩ (fun i H' _ h => sqt_same h.1 hs) ?_ ?_⟩
        · rintro i v H3 H4 hi ⟨sm, eD⟩ ⟨rfl, hx⟩
          obtain ⟨d, fd, gd⟩ := dpa_at en.parts xs ha i v hx
          refine ⟨rfl, v, rfl, ?_⟩
          have fin : ∃ acc, H4 D = some (.lst acc) ∧ acc.length < sizeLine ∧ (Same H2 (upd H4 D (.lst (acc ++ [.str (partT d)]))) ∧ (upd H4 D (.lst (acc ++ [.str (partT d)]))) D = some (.lst (((en.parts.take (i + 1)).map partT).map V.str))) := by
            refine ⟨_, eD, ?_, fun c o h => (upd_ne (ne_of_none h hD)).trans (sm _ _ h), ?_⟩
            · rw [List.length_map, List.length_map, List.length_take]
              exact small1000 (by omega)
            · rw [upd_same, List.take_add_one, fd, List.map_append, List.map_append]
              rfl
          rcases (part12 ok d (List.mem_of_getElem? fd)).2 with ⟨z, rfl⟩ | ⟨n, rfl, hn⟩
          · cases gd
            exact .inr ⟨z, rfl, fin⟩
          · cases gd
            exact .inl ⟨_, rfl, log2_30 (by omega), fin⟩
        · rintro H3 ⟨sm, eD⟩
          rw [lx, List.take_length] at eD
          refine ⟨_, D, en.parts.map partT, rfl, rfl, .inl (.inl (.inl eD)), ?_, q H3 _ ((b1.trans b2).trans (But.of sm)) (hp2.same sm) ?_⟩
          · have h1 := sum_le (k := 12) (en.parts.map partT) (fun t ht => by
              obtain ⟨d, hd, rfl⟩ := List.mem_map.mp ht
              exact (part12 ok d hd).1)
            rw [List.length_map] at h1
            rw [List.length_map, show (PySem.Str.ofString " ").length = 1 by decide +kernel]
            omega
          · have := ent38 ok
            show (entT en.parts).length ≤ 250
            omega
    refine ⟨.int k, rfl, rfl, _, rfl, ite2 (fun e => ?_) (fun e => ?_)⟩
    · refine ⟨.ref p, rfl, .ref p, rfl, p, 7, rfl, by decide, by decide, hp1, fun H2 n b2 hp2 n0 n1 => ?_⟩
      refine ⟨p, n, 2, (fun b => b = p), rfl, n0, by omega, hp2, ⟨rfl, fun b h => h ▸ hp2.known⟩, fun H3 t xs es b3 hp3 nt hs ha hl hok _ _ => ?_⟩
      have hs3 := sqt_same wo_same hs
      have ha3 := dpa_same wo_same _ _ ha
      have lx := dpa_len2 ha
      rw [List.length_map] at lx
      have les : es.length ≤ 6 := by omega
      refine ⟨rfl, .ref t, rfl, t, rfl, ⟨xs, hs3⟩, fun D hD => lc_it (walk_tup (xs := xs)) (fun j H' => Same H3 H' ∧ H' D = some (.lst (((es.take j).map fun e => entT e.parts).map V.str))) ⟨same_upd hD, upd_same⟩ (fun j H' _ h => sqt_same h.1 hs3) ?_ ?_⟩
      · rintro j v H4 H5 hj ⟨sm, eD⟩ ⟨rfl, hx⟩
        obtain ⟨d, fd, gd⟩ := dpa_at _ _ ha3 j v hx
        rw [List.getElem?_map] at fd
        obtain ⟨en, fe, rfl⟩ : ∃ en, es[j]? = some en ∧ Ent.tup en = d := by
          cases e1 : es[j]? with
          | none => rw [e1] at fd; cases fd
          | some en => rw [e1] at fd; exact ⟨en, rfl, Option.some.inj fd⟩
        have ok := hok en (List.mem_of_getElem? fe)
        have gd5 := dp_same sm _ _ gd
        cases gd5 with
        | @tup b us _ hb hu =>
          have lu := dpa_len _ _ hu
          have l3 := three en
          refine ⟨rfl, rfl, .ref b, rfl, b, us, rfl, (fun H' => Same H5 H'), kpA (.inr hb), Same.refl _, fun J G wk hG D2 hD2 => lc_it wk (fun k H' => Same H5 H' ∧ H' D2 = some (.lst (((en.parts.take k).map partT).map V.str))) ⟨same_upd hD2, upd_same⟩ (fun k H' _ h => hG _ h.1) ?_ ?_⟩
          · rintro k v H6 H7 hk ⟨sm7, eD2⟩ ⟨rfl, hx2⟩
            obtain ⟨d, fd2, gd2⟩ := dpa_at en.parts us hu k v hx2
            refine ⟨rfl, v, rfl, ?_⟩
            have fin : ∃ acc, H7 D2 = some (.lst acc) ∧ acc.length < sizeLine ∧ (Same H5 (upd H7 D2 (.lst (acc ++ [.str (partT d)]))) ∧ (upd H7 D2 (.lst (acc ++ [.str (partT d)]))) D2 = some (.lst (((en.parts.take (k + 1)).map partT).map V.str))) := by
              refine ⟨_, eD2, ?_, fun c o h => (upd_ne (ne_of_none h hD2)).trans (sm7 _ _ h), ?_⟩
              · rw [List.length_map, List.length_map, List.length_take]
                exact small1000 (by omega)
              · rw [upd_same, List.take_add_one, fd2, List.map_append, List.map_append]
                rfl
            rcases (part12 ok d (List.mem_of_getElem? fd2)).2 with ⟨z, rfl⟩ | ⟨n, rfl, hn⟩
            · cases gd2
              exact .inr ⟨z, rfl, fin⟩
            · cases gd2
              exact .inl ⟨_, rfl, log2_30 (by omega), fin⟩
          · rintro H6 ⟨sm6, eD2⟩
            rw [lu, List.take_length] at eD2
            have h1 := sum_le (k := 12) (en.parts.map partT) (fun t ht => by
              obtain ⟨d, hd, rfl⟩ := List.mem_map.mp ht
              exact (part12 ok d hd).1)
            rw [List.length_map] at h1
            refine ⟨_, D2, en.parts.map partT, rfl, rfl, .inl (.inl (.inl eD2)), ?_, _, sm6 _ _ eD, ?_, fun c o h => (upd_ne (ne_of_none h hD)).trans (sm6 _ _ (sm _ _ h)), ?_⟩
            · rw [List.length_map, show (PySem.Str.ofString " ").length = 1 by decide +kernel]
              omega
            · rw [List.length_map, List.length_map, List.length_take]
              exact small1000 (by omega)
            · rw [upd_same, List.take_add_one, fe, List.map_append, List.map_append]
              rfl
      · rintro H4 ⟨sm, eD⟩
        rw [lx, List.take_length] at eD
        have h39 : ∀ t ∈ es.map (fun e => entT e.parts), t.length ≤ 39 := fun t ht => by
          obtain ⟨e, he, rfl⟩ := List.mem_map.mp ht
          exact ent38 (hok e he)
        have h1 := sum_le _ h39
        have h2 := join_le (m := semi) h39
        rw [List.length_map] at h1 h2
        rw [semi_len] at h2
        refine ⟨_, D, es.map (fun e => entT e.parts), rfl, rfl, .inl (.inl (.inl eD)), ?_, q H4 _ (((b1.trans b2).trans b3).trans (But.of sm)) (hp3.same sm) (by show (Txt.join semi (es.map fun e => entT e.parts)).length ≤ 250; omega)⟩
        rw [List.length_map, show (PySem.Str.ofString "; ").length = 2 from semi_len]
        omega
    refine ⟨.int k, rfl, rfl, _, rfl, ite2 (fun e => ?_) (fun e => ?_)⟩
    · refine ⟨rfl, .ref p, rfl, p, 9, rfl, by decide, by decide, hp1, fun H2 n b2 hp2 n0 n1 => ?_⟩
      refine ⟨n, rfl, by omega, by omega, fun D hD => lc_range (lo := 0) (n := n.toNat) (fun i H' => Pool H' p ∧ But p H H' ∧ ∃ ys : List Str, ys.length = i ∧ (∀ y ∈ ys, y.length ≤ 12) ∧ H' D = some (.lst (ys.map V.str))) ⟨hp2.upd (hp2.ne_new hD), (b1.trans b2).mut ((b1.trans b2).free (hp2.ne_new hD) hD), [], rfl, (fun _ h => nomatch h), upd_same⟩ ?_ ?_⟩
      · rintro i H3 hi ⟨hp3, b3, ys, hl, h12, eD⟩
        have nD : D ≠ p := hp2.ne_new hD
        refine ⟨rfl, .ref p, rfl, p, 9, rfl, by decide, by decide, hp3, fun H4 j b4 hp4 j0 j1 => ?_⟩
        obtain ⟨m, rfl⟩ : ∃ m : Nat, j = m := ⟨j.toNat, by omega⟩
        refine .inl ⟨_, rfl, log2_30 (by omega), _, b4 _ _ nD eD, ?_, hp4.upd nD, (b3.trans b4).mut ((b1.trans b2).free nD hD), ys ++ [figT m], ?_, ?_, ?_⟩
        · rw [List.length_map]
          exact small1000 (by omega)
        · rw [List.length_append, hl]
          rfl
        · intro y hy
          rcases List.mem_append.mp hy with h | h
          · exact h12 y h
          · rw [List.mem_singleton.mp h]
            have : ∀ m : Fin 9, (figT m.val).length ≤ 12 := by decide +kernel
            exact this ⟨m, by omega⟩
        · rw [upd_same, List.map_append]
          rfl
      · rintro H3 ⟨hp3, b3, ys, hl, h12, eD⟩
        have h1 := sum_le _ h12
        have h2 := join_le (m := blank) h12
        rw [show blank.length = 1 by decide +kernel] at h2
        refine ⟨_, D, ys, rfl, rfl, .inl (.inl (.inl eD)), ?_, q H3 _ b3 hp3 (by show (Txt.join blank ys).length ≤ 250; omega)⟩
        rw [show (PySem.Str.ofString " ").length = 1 by decide +kernel]
        omega
    refine ⟨by show 12 ≤ sizeLine; decide, fun t nt => ?_⟩
    generalize hxs : ([V.str "", .str "-", .str " ", .str "- ", .str "--", .str "; ", .str "0 ", .str "go", .str "go 10", .str "face n;left", .str "left; face n", .str "-; -"] : List V) = xs
    have st := same_upd (o := .tup xs) nt
    have all : ∀ j : Fin 12, ∃ z : Str, xs[j.val]? = some (.str z) ∧ z.length ≤ 250 := by
      rw [← hxs]
      intro j
      have h : ∀ j : Fin 12, (["", "-", " ", "- ", "--", "; ", "0 ", "go", "go 10", "face n;left", "left; face n", "-; -"] : List String)[j.val]?.any (fun z => decide ((PySem.Str.ofString z).length ≤ 250)) = true := by decide +kernel
      match j with
      | ⟨0, _⟩ => exact ⟨_, rfl, by decide +kernel⟩
      | ⟨1, _⟩ => exact ⟨_, rfl, by decide +kernel⟩
      | ⟨2, _⟩ => exact ⟨_, rfl, by decide +kernel⟩
      | ⟨3, _⟩ => exact ⟨_, rfl, by decide +kernel⟩
      | ⟨4, _⟩ => exact ⟨_, rfl, by decide +kernel⟩
      | ⟨5, _⟩ => exact ⟨_, rfl, by decide +kernel⟩
      | ⟨6, _⟩ => exact ⟨_, rfl, by decide +kernel⟩
      | ⟨7, _⟩ => exact ⟨_, rfl, by decide +kernel⟩
      | ⟨8, _⟩ => exact ⟨_, rfl, by decide +kernel⟩
      | ⟨9, _⟩ => exact ⟨_, rfl, by decide +kernel⟩
      | ⟨10, _⟩ => exact ⟨_, rfl, by decide +kernel⟩
      | ⟨11, _⟩ => exact ⟨_, rfl, by decide +kernel⟩
    refine ⟨.ref t, rfl, .ref p, rfl, p, 12, rfl, by decide, by decide, hp1.same st, fun H2 r b2 hp2 r0 r1 => ?_⟩
    obtain ⟨m, rfl⟩ : ∃ m : Nat, r = m := ⟨r.toNat, by omega⟩
    obtain ⟨z, ez, lz⟩ := all ⟨m, by omega⟩
    exact ⟨t, xs, _, .str z, rfl, rfl, .inl (.inl (b2 _ _ (hp1.ne_new nt) upd_same)), atI_nat ez, q _ z ((b1.trans (But.of st)).trans b2) hp2 lz⟩
def spBent : Sp := fun vs H Q _ => ∃ (p : Addr) (z : Str), vs = [.ref p, .str z] ∧ z.length ≤ 250 ∧ Pool H p ∧ ∀ H' (z : Str), But p H H' → Pool H' p → z.length ≤ 900 → Q (.str z) H'
theorem sum_set : ∀ (l : List Str) (i : Nat) (x : Str), ((l.set i x).map (·.length)).sum ≤ (l.map (·.length)).sum + x.length
  | [], _, _ => Nat.le_add_right _ _
  | a :: r, 0, x => by
    rw [List.set_cons_zero, List.map_cons, List.sum_cons, List.map_cons, List.sum_cons]
    omega
  | a :: r, i + 1, x => by
    have := sum_set r i x
    rw [List.set_cons_succ, List.map_cons, List.sum_cons, List.map_cons, List.sum_cons]
    omega
theorem sum_app (a b : List Str) : ((a ++ b).map (·.length)).sum = (a.map (·.length)).sum + (b.map (·.length)).sum := by
  rw [List.map_append, List.sum_append]
theorem semi_tl : semi.cps.toList = [59, 32] := by decide +kernel
theorem splitS_ne (z : Str) : Txt.split z semi ≠ [] := fun h => by
  have e := TL.split_spl z semi (by rw [show TL.tl semi = [59, 32] from semi_tl]; exact fun y => nomatch y) (TL.kind_ok (by decide +kernel))
  rw [h] at e
  exact spl_ne _ _ _ _ e.symm
theorem ok_Lbent (T : Top w K mg) : FnOk P w K mg base CX0 3 T.a_Lbent T.fd_Lbent ["_law_pool_here", "_law_text"] spBent := by
  have G_Ltake := ok_Ltake (P := P) (w := w) (base := base) T
  have G_Lspoilt_text := ok_Lspoilt_text (P := P) (w := w) (base := base) T
  refine T.F_Lbent.ok sc_Lbent (fun vs H Q E h => ?_) (fun cdv A outer s H vs Q E hr h => ?_)
  · obtain ⟨p, z, rfl, _⟩ := h
    rfl
  · obtain ⟨p, z, rfl, hz, hp, q⟩ := h
    refine ⟨_, (pss_cons (ps_set (i := 2) sc_Lbent.nd rfl (.inl rfl) (pe_call G_Ltake (hr.mono (by decide)) (by rfl) T.g_Ltake T.F_Ltake.kp T.b_Ltake .nil pass0 (pa_cons (pv 0) (pa_cons pe_int pa_nil))))
      (pss_cons (ps_if (pt_cmpR op_lt (pv 2) pe_int (nomark _)) (pss_one (ps_ret (pe_call G_Lspoilt_text hr (by rfl) T.g_Lspoilt_text T.F_Lspoilt_text.kp T.b_Lspoilt_text .nil pass0 (pa_cons (pv 0) (pa_cons (pv 1) pa_nil))))) pss_nil)
      (pss_cons (ps_set (i := 3) sc_Lbent.nd rfl (.inl rfl) (pe_ix ix_tup (pe_tup (pa_cons pe_str (pa_cons pe_str pa_nil))) (pe_call G_Ltake (hr.mono (by decide)) (by rfl) T.g_Ltake T.F_Ltake.kp T.b_Ltake .nil pass0 (pa_cons (pv 0) (pa_cons pe_int pa_nil))) (fun _ _ => rfl)))
      (pss_cons (ps_set (i := 4) sc_Lbent.nd rfl (.inl rfl) (pe_bm PySem.F.plainAttrs_str PySem.F.slot_str_split PySem.F.type_str_split mt_split (pv 1) (pa_cons (pv 3) pa_nil)))
      (pss_cons (ps_par (i := 5) (j := 6) (by rfl) sc_Lbent.nd rfl rfl (by decide) rfl rfl (pa_cons (pe_call G_Ltake (hr.mono (by decide)) (by rfl) T.g_Ltake T.F_Ltake.kp T.b_Ltake .nil pass0 (pa_cons (pv 0) (pa_cons (pe_callB call_len_seq (by rfl) T.m_len (by decide +kernel) (pa_cons (pv 4) pa_nil)) pa_nil))) (pa_cons (pe_call G_Ltake (hr.mono (by decide)) (by rfl) T.g_Ltake T.F_Ltake.kp T.b_Ltake .nil pass0 (pa_cons (pv 0) (pa_cons (pe_callB call_len_seq (by rfl) T.m_len (by decide +kernel) (pa_cons (pv 4) pa_nil)) pa_nil))) pa_nil)) (by rfl))
      (Evl.pss_cut (ps_if (pt_cmpR op_eq (pv 2) pe_int (nomark _)) (pss_one (ps_asg (pe_tup (pa_cons (pe_ix ix_list (pv 4) (pv 6) (fun _ _ => rfl)) (pa_cons (pe_ix ix_list (pv 4) (pv 5) (fun _ _ => rfl)) pa_nil))) (pg_tup rfl (pgs_cons (pg_sub (pv 4) (pv 5) set_list) (pgs_cons (pg_sub (pv 4) (pv 6) set_list) pgs_nil))))) pss_nil)
      (Evl.pss_cut (ps_if (pt_cmpR op_eq (pv 2) pe_int (nomark _)) (pss_one (ps_expr (pe_bm PySem.F.plainAttrs_list PySem.F.slot_list_insert PySem.F.type_list_insert mt_insert (pv 4) (pa_cons (pv 6) (pa_cons (pe_ix ix_list (pv 4) (pv 5) (fun _ _ => rfl)) pa_nil))))) pss_nil)
      (pss_one (ps_ret (pe_bm PySem.F.plainAttrs_str PySem.F.slot_str_join PySem.F.type_str_join mt_join (pv 3) (pa_cons (pv 4) pa_nil))))))))))), ?_⟩
    refine ⟨.ref p, rfl, p, 6, rfl, by decide, by decide, hp, fun H1 k b1 hp1 k0 k1 => ?_⟩
    refine ⟨.int k, rfl, _, _, rfl, rfl, _, rfl, ite2 (fun e => ?_) (fun e => ?_)⟩
    · exact ⟨.ref p, rfl, .str z, rfl, p, z, rfl, by omega, hp1, fun H2 z2 b2 hp2 lz => q H2 z2 (b1.trans b2) hp2 (by omega)⟩
    refine ⟨by show 2 ≤ sizeLine; decide, fun tm nm => ?_⟩
    have sm := same_upd (o := .tup [.str "; ", .str " "]) nm
    refine ⟨.ref p, rfl, p, 2, rfl, by decide, by decide, hp1.same sm, fun H2 m b2 hp2 m0 m1 => ?_⟩
    have etm := b2 _ _ (hp1.ne_new nm) upd_same
    have b02 := (b1.trans (But.of sm)).trans b2
    obtain ⟨mk, emk, lmk, nmk, ne0⟩ : ∃ mk : Str, atI [V.str "; ", .str " "] m = some (.str mk) ∧ 1 ≤ mk.length ∧ mk.length ≤ 2 ∧ ∀ z, Txt.split z mk ≠ [] := by
      obtain rfl | rfl : m = 0 ∨ m = 1 := by omega
      · exact ⟨_, rfl, by decide +kernel, by decide +kernel, splitS_ne⟩
      · exact ⟨_, rfl, by decide +kernel, by decide +kernel, split_ne⟩
    refine ⟨tm, _, m, .str mk, rfl, rfl, .inl (.inl etm), emk, ?_⟩
    have ssum := split_sum z mk
    have scnt := split_cnt (z := z) lmk
    have smem : ∀ {y : Str}, y ∈ Txt.split z mk → y.length ≤ z.length := fun h => split_mem h
    have sne : Txt.split z mk ≠ [] := ne0 z
    refine ⟨.str z, rfl, rfl, .str mk, rfl, _, _, rfl, rfl, beq_eq_false_iff_ne.mpr (by omega), Nat.le_trans (show z.length + 2 ≤ 1000 by omega) (by decide), fun W nW => ?_⟩
    generalize Txt.split z mk = ps at ssum scnt smem sne ⊢
    have sW := same_upd (o := .lst (ps.map V.str)) nW
    have eW : upd H2 W (.lst (ps.map V.str)) W = some (.lst (ps.map V.str)) := upd_same
    have hpW := hp2.same sW
    have nWp : W ≠ p := hp2.ne_new nW
    generalize upd H2 W (.lst (ps.map V.str)) = H3 at sW eW hpW ⊢
    have lp : 1 ≤ ps.length := List.length_pos_iff.mpr sne
    have nW0 : H W = none := b02.free nWp nW
    refine ⟨.ref p, rfl, .ref W, rfl, W, _, rfl, .inl (.inl (.inl eW)), p, _, rfl, by rw [List.length_map]; omega, by rw [List.length_map]; omega, hpW, fun H4 a b4 hp4 a0 a1 => ?_⟩
    have eW4 := b4 _ _ nWp eW
    refine ⟨.ref p, rfl, .ref W, rfl, W, _, rfl, .inl (.inl (.inl eW4)), p, _, rfl, by rw [List.length_map]; omega, by rw [List.length_map]; omega, hp4, fun H5 t b5 hp5 t0 t1 => ?_⟩
    have eW5 := b5 _ _ nWp eW4
    have b05 := ((b02.trans (But.of sW)).trans b4).trans b5
    rw [List.length_map] at a1 t1
    obtain ⟨ai, rfl⟩ : ∃ ai : Nat, a = ai := ⟨a.toNat, by omega⟩
    obtain ⟨ti, rfl⟩ : ∃ ti : Nat, t = ti := ⟨t.toNat, by omega⟩
    obtain ⟨xa, fa⟩ : ∃ xa, ps[ai]? = some xa := ⟨_, List.getElem?_eq_getElem (by omega)⟩
    obtain ⟨xt, ft⟩ : ∃ xt, ps[ti]? = some xt := ⟨_, List.getElem?_eq_getElem (by omega)⟩
    have la := smem (List.mem_of_getElem? fa)
    have lt := smem (List.mem_of_getElem? ft)
    have va : (ps.map V.str)[ai]? = some (.str xa) := by rw [List.getElem?_map, fa]; rfl
    have vt : (ps.map V.str)[ti]? = some (.str xt) := by rw [List.getElem?_map, ft]; rfl
    refine ⟨_, _, rfl, ?_⟩
    refine ⟨fun σ H' => But p H H' ∧ Pool H' p ∧ ∃ ys : List Str, σ = [some (.ref p), some (.str z), some (.int k), some (.str mk), some (.ref W), some (.int ai), some (.int ti)] ∧ H' W = some (.lst (ys.map V.str)) ∧ ys.length = ps.length ∧ (ys.map (·.length)).sum ≤ (ps.map (·.length)).sum + 500 ∧ (k ≠ 3 → ys = ps), ?_, ?_⟩
    · have keepS : (ps.map (·.length)).sum ≤ 250 := by omega
      refine ⟨.int k, rfl, rfl, _, rfl, ite2 (fun e3 => ?_) (fun e3 => ⟨b05, hp5, ps, rfl, eW5, rfl, by omega, fun _ => rfl⟩)⟩
      refine ⟨.ref W, rfl, .int ti, rfl, W, _, _, .str xt, rfl, rfl, .inl (.inl eW5), atI_nat vt, .ref W, rfl, .int ai, rfl, W, _, _, .str xa, rfl, rfl, .inl (.inl eW5), atI_nat va, by show 2 ≤ sizeLine; decide, fun tt ntt => ?_⟩
      have stt := same_upd (o := .tup [.str xt, .str xa]) ntt
      have eW6 := stt _ _ eW5
      have nWt : W ≠ tt := ne_of_none eW5 ntt
      refine ⟨tt, _, rfl, .inl (.inl upd_same), rfl, _, _, rfl, ?_⟩
      refine ⟨.ref W, rfl, .int ai, rfl, W, _, _, ai, rfl, rfl, eW6, Evl.ixN_nat (by rw [List.length_map]; omega), _, _, rfl, ?_⟩
      refine ⟨.ref W, rfl, .int ti, rfl, W, _, _, ti, rfl, rfl, upd_same, Evl.ixN_nat (by rw [List.length_set, List.length_map]; omega), rfl, ?_⟩
      refine ⟨?_, ?_, (ps.set ai xt).set ti xa, rfl, ?_, ?_, ?_, fun y => absurd (of_decide_eq_true e3) (fun y2 => y (V.int.inj y2))⟩
      · exact ((b05.trans (But.of stt)).mut nW0).mut nW0
      · exact ((hp5.same stt).upd nWp).upd nWp
      · rw [upd_same, List.map_set, List.map_set]
      · rw [List.length_set, List.length_set]
      · have h1 := sum_set ps ai xt
        have h2 := sum_set (ps.set ai xt) ti xa
        omega
    rintro σ H6 ⟨b06, hp6, ys, rfl, eW6, ly, sy, yk⟩
    refine ⟨fun σ H' => But p H H' ∧ Pool H' p ∧ ∃ ys : List Str, σ = [some (.ref p), some (.str z), some (.int k), some (.str mk), some (.ref W), some (.int ai), some (.int ti)] ∧ H' W = some (.lst (ys.map V.str)) ∧ (ys.map (·.length)).sum + (ys.length - 1) * mk.length ≤ 900 ∧ ys.length ≤ 400, ?_, ?_⟩
    · have hm : (ps.length - 1) * mk.length ≤ 250 := by omega
      refine ⟨.int k, rfl, rfl, _, rfl, ite2 (fun e4 => ?_) (fun e4 => ?_)⟩
      · have k4 : k = 4 := V.int.inj (of_decide_eq_true e4)
        have ey := yk (by omega)
        subst ey
        refine ⟨.ref W, rfl, .inl ⟨rfl, _, .inl (.inl eW6)⟩, .int ti, rfl, .ref W, rfl, .int ai, rfl, W, _, _, .str xa, rfl, rfl, .inl (.inl eW6), atI_nat va, W, _, _, _, rfl, rfl, eW6, by rw [List.length_map]; exact small1000 (by omega), by omega, by omega, b06.mut nW0, hp6.upd nWp, ys.take ti ++ [xa] ++ ys.drop ti, rfl, ?_, ?_, ?_⟩
        · rw [upd_same, Int.toNat_natCast, List.map_append, List.map_append, List.map_take, List.map_drop]
          rfl
        · have e1 := sum_app (ys.take ti) (ys.drop ti)
          rw [List.take_append_drop] at e1
          rw [sum_app, sum_app]
          have e2 : (([xa] : List Str).map (·.length)).sum = xa.length := rfl
          have e3 : (ys.take ti ++ [xa] ++ ys.drop ti).length = ys.length + 1 := by
            rw [List.length_append, List.length_append, List.length_take, List.length_drop]
            show min ti ys.length + 1 + (ys.length - ti) = _
            omega
          have e4 : (ys.length + 1 - 1) * mk.length ≤ (ys.length - 1) * mk.length + mk.length := by
            rw [Nat.add_sub_cancel]
            obtain ⟨y, hy⟩ : ∃ y, ys.length = y + 1 := ⟨ys.length - 1, by omega⟩
            rw [hy, Nat.add_sub_cancel, Nat.succ_mul]
            exact Nat.le_refl _
          rw [e2, e3]
          omega
        · rw [List.length_append, List.length_append, List.length_take, List.length_drop]
          show min ti ys.length + 1 + (ys.length - ti) ≤ 400
          omega
      · refine ⟨b06, hp6, ys, rfl, eW6, ?_, by omega⟩
        rw [ly]
        by_cases k3 : k = 3
        · omega
        · have ey := yk k3
          subst ey
          omega
    rintro σ H7 ⟨b07, hp7, ys, rfl, eW7, sy, ly7⟩
    refine ⟨.str mk, rfl, rfl, .ref W, rfl, mk, W, ys, rfl, rfl, .inl (.inl (.inl eW7)), ?_, q H7 _ b07 hp7 ?_⟩
    · have : ys.length * mk.length ≤ 400 * 2 := Nat.mul_le_mul ly7 nmk
      omega
    · rw [TL.join_eq, join_lenG]
      exact sy
--@@SPLIT
def spLaw (K : PySem.W.Frag) : Sp := fun vs H Q _ => ∃ (a : Addr) (ns : List Int), vs = [.ref a] ∧ SqL K H a (ns.map V.int) ∧ ns.length ≤ 63 ∧ ∀ H', Q (.bl true) H'
theorem ok_law (T : Top w K mg) : FnOk P w K mg base CX0 11 T.a_law T.fd_law ["_law_script"] (spLaw K) := by
  have G_Lpool := ok_Lpool (P := P) (w := w) (base := base) T
  have G_Ltake := ok_Ltake (P := P) (w := w) (base := base) T
  have G_Lsome_text := ok_Lsome_text (P := P) (w := w) (base := base) T
  have G_Lbent := ok_Lbent (P := P) (w := w) (base := base) T
  have G_Ldue := ok_Ldue (P := P) (w := w) (base := base) T
  have G_Lread := ok_Lread (P := P) (w := w) (base := base) T
  have G_Lsame := ok_Lsame (P := P) (w := w) (base := base) T 3
  refine T.F_law.ok sc_law (fun vs H Q E h => ?_) (fun cdv A outer s H vs Q E hr h => ?_)
  · obtain ⟨a, ns, rfl, _⟩ := h
    rfl
  · obtain ⟨a, ns, rfl, hS, hlen, q⟩ := h
    refine ⟨_, (pss_cons (ps_set (i := 1) sc_law.nd rfl (.inl rfl) (pe_call G_Lpool (hr.mono (by decide)) (by rfl) T.g_Lpool T.F_Lpool.kp T.b_Lpool .nil pass0 (pa_cons (pv 0) (pa_cons pe_int pa_nil))))
      (pss_cons (ps_for PassesOwn.never rfl (pi_range1 (by rfl) T.m_range (pa_cons (pe_op op_add pe_int (pe_call G_Ltake (hr.mono (by decide)) (by rfl) T.g_Ltake T.F_Ltake.kp T.b_Ltake .nil pass0 (pa_cons (pv 1) (pa_cons pe_int pa_nil)))) pa_nil)) (pg_name (i := 2) sc_law.nd rfl (.inl rfl)) (pss_cons (ps_set (i := 3) sc_law.nd rfl (.inl rfl) (pe_call G_Lpool (hr.mono (by decide)) (by rfl) T.g_Lpool T.F_Lpool.kp T.b_Lpool .nil pass0 (pa_cons (pv 0) (pa_cons (pe_op op_add pe_int (pv 2)) pa_nil))))
      (pss_cons (ps_set (i := 4) sc_law.nd rfl (.inl rfl) (pe_call G_Lsome_text (hr.mono (by decide)) (by rfl) T.g_Lsome_text T.F_Lsome_text.kp T.b_Lsome_text .nil pass0 (pa_cons (pv 3) pa_nil)))
      (Evl.pss_cut (ps_if (pt_cmpR op_gt (pe_call G_Ltake (hr.mono (by decide)) (by rfl) T.g_Ltake T.F_Ltake.kp T.b_Ltake .nil pass0 (pa_cons (pv 3) (pa_cons pe_int pa_nil))) pe_int (nomark _)) (pss_one (ps_set (i := 4) sc_law.nd rfl (.inl rfl) (pe_call G_Lbent (hr.mono (by decide)) (by rfl) T.g_Lbent T.F_Lbent.kp T.b_Lbent .nil pass0 (pa_cons (pv 3) (pa_cons (pv 4) pa_nil))))) pss_nil)
      (pss_one (ps_for PassesOwn.never rfl (pi_range1 (by rfl) T.m_range (pa_cons pe_int pa_nil)) (pg_name (i := 5) sc_law.nd rfl (.inl rfl)) (pss_cons (ps_set (i := 6) sc_law.nd rfl (.inl rfl) (pe_call G_Ldue (hr.mono (by decide)) (by rfl) T.g_Ldue T.F_Ldue.kp T.b_Ldue .nil pass0 (pa_cons (pv 5) (pa_cons (pv 4) pa_nil))))
      (pss_one (ps_if (PW.pt (pw_or (pt_not (pt_val (pe_call G_Lsame (hr.mono (by decide)) (by rfl) T.g_Lsame T.F_Lsame.kp T.b_Lsame .nil pass0 (pa_cons (pe_call G_Lread hr (by rfl) T.g_Lread T.F_Lread.kp T.b_Lread .nil pass0 (pa_cons (pv 5) (pa_cons (pv 4) pa_nil))) (pa_cons (pv 6) pa_nil))))) (pw_or1 (pt_not (pt_val (pe_call G_Lsame (hr.mono (by decide)) (by rfl) T.g_Lsame T.F_Lsame.kp T.b_Lsame .nil pass0 (pa_cons (pe_call G_Lread hr (by rfl) T.g_Lread T.F_Lread.kp T.b_Lread .nil pass0 (pa_cons (pv 5) (pa_cons (pv 4) pa_nil))) (pa_cons (pv 6) pa_nil)))))))) (pss_one (ps_ret pe_bl)) pss_nil)))))))))
      (pss_one (ps_ret pe_bl)))), ?_⟩
    refine ⟨.ref a, rfl, a, ns, 0, rfl, hS, hlen, by decide, fun H1 p sm np hp => ?_⟩
    refine ⟨.ref p, rfl, p, 15, rfl, by decide, by decide, hp, fun H2 k b2 hp2 k0 k1 => ?_⟩
    have b02 : Same H H2 := fun c o h => b2 _ _ (ne_of_none h np) (sm _ _ h)
    have hS2 : SqL K H2 a (ns.map V.int) := b02.seq hS
    obtain ⟨m, rfl⟩ : ∃ m : Nat, k = m := ⟨k.toNat, by omega⟩
    refine ⟨_, _, rfl, rfl, 6 + (m : Int), rfl, by omega, by omega, for_range (n := (6 + (m : Int)).toNat) (fun i σ H' => Same H2 H' ∧ ∃ y2 y3 y4 y5 y6, σ = [some (.ref a), some (.ref p), y2, y3, y4, y5, y6]) ⟨Same.refl _, _, _, _, _, _, rfl⟩ ?_ (fun σ H' _ => q H')⟩
    rintro i σ H3 hi ⟨s3, y2, y3, y4, y5, y6, rfl⟩
    refine ⟨.ref a, rfl, _, rfl, _, _, rfl, rfl, a, ns, _, rfl, s3.seq hS2, hlen, by omega, fun H4 t0 s4 nt0 hp4 => ?_⟩
    refine ⟨.ref t0, rfl, t0, rfl, hp4, fun H5 z b5 hp5 lz => ?_⟩
    have b25 : Same H2 H5 := fun c o h => b5 _ _ (ne_of_none (s3 _ _ h) nt0) (s4 _ _ (s3 _ _ h))
    have nt2 : H2 t0 = none := s3.free nt0
    refine ⟨fun σ H' => Same H2 H' ∧ ∃ z : Str, z.length ≤ 900 ∧ σ = [some (.ref a), some (.ref p), some (.int (0 + (i : Int))), some (.ref t0), some (.str z), y5, y6], ?_, ?_⟩
    · refine ⟨.ref t0, rfl, t0, 4, rfl, by decide, by decide, hp5, fun H6 r b6 hp6 r0 r1 => ⟨_, _, rfl, rfl, _, rfl, ite2 (fun e => ?_) (fun e => ?_)⟩⟩
      · refine ⟨.ref t0, rfl, .str z, rfl, t0, z, rfl, lz, hp6, fun H7 z2 b7 hp7 lz2 => ⟨fun c o h => ?_, z2, lz2, rfl⟩⟩
        have ct : c ≠ t0 := ne_of_none h nt2
        exact b7 _ _ ct (b6 _ _ ct (b25 _ _ h))
      · exact ⟨fun c o h => b6 _ _ (ne_of_none h nt2) (b25 _ _ h), z, by omega, rfl⟩
    rintro σ H6 ⟨s6, z, lz, rfl⟩
    refine ⟨3, rfl, by decide, by decide, for_range (n := 3) (fun j σ H' => Same H2 H' ∧ ∃ y5 y6, σ = [some (.ref a), some (.ref p), some (.int (0 + (i : Int))), some (.ref t0), some (.str z), y5, y6]) ⟨s6, _, _, rfl⟩ ?_ (fun σ H' h => ?_)⟩
    · rintro j σ H7 hj ⟨s7, y5, y6, rfl⟩
      have ej : V.int (0 + (j : Int)) = .int ((j : Nat) : Int) := by rw [Int.zero_add]
      refine ⟨_, rfl, .str z, rfl, j, z, by rw [ej]; rfl, by omega, lz, fun H8 v s8 hv => ?_⟩
      refine ⟨_, rfl, .str z, rfl, j, z, by rw [ej]; rfl, by omega, lz, fun H9 u s9 hu => ?_⟩
      have ok := due_ok (way := j) lz
      refine ⟨v, rfl, u, v, _, rfl, hu, dp_same s9 _ _ hv, ok, fun H10 s10 => ⟨_, rfl, iteF ?_⟩⟩
      refine ⟨_, rfl, .str z, rfl, j, z, by rw [ej]; rfl, by omega, lz, fun H11 u2 s11 hu2 => ?_⟩
      refine ⟨v, rfl, u2, v, _, rfl, hu2, dp_same ((s9.trans s10).trans s11) _ _ hv, ok, fun H12 s12 => ⟨_, rfl, iteF ?_⟩⟩
      exact ⟨((((s7.trans s8).trans s9).trans s10).trans s11).trans s12, _, _, rfl⟩
    · obtain ⟨s7, y5, y6, rfl⟩ := h
      exact ⟨s7, _, _, _, _, _, rfl⟩
--@@SPLIT
end
theorem all_mk {l : PySem.W.OpenLaw} {w : World} {K : PySem.W.Frag} {h : Heap} {mg : Str → Option Value} {fa : Addr} (X : K.In h) (G : h.Ns mainGlobals mg) (hfa : mg "law" = some (.ref fa))
    {f_is_whole : Addr} {od_is_whole an_is_whole : Option Addr} {sl_is_whole : Array (Option Value)} {oc_is_whole kV_is_whole dc_is_whole pm_is_whole cd_is_whole ct_is_whole : Value}
    {f_is_row : Addr} {od_is_row an_is_row : Option Addr} {sl_is_row : Array (Option Value)} {oc_is_row kV_is_row dc_is_row pm_is_row cd_is_row ct_is_row : Value}
    {f_laid_out : Addr} {od_laid_out an_laid_out : Option Addr} {sl_laid_out : Array (Option Value)} {oc_laid_out kV_laid_out dc_laid_out pm_laid_out cd_laid_out ct_laid_out : Value}
    {f_kept : Addr} {od_kept an_kept : Option Addr} {sl_kept : Array (Option Value)} {oc_kept kV_kept dc_kept pm_kept cd_kept ct_kept : Value}
    {f_is_letter : Addr} {od_is_letter an_is_letter : Option Addr} {sl_is_letter : Array (Option Value)} {oc_is_letter kV_is_letter dc_is_letter pm_is_letter cd_is_letter ct_is_letter : Value}
    {f_is_lot : Addr} {od_is_lot an_is_lot : Option Addr} {sl_is_lot : Array (Option Value)} {oc_is_lot kV_is_lot dc_is_lot pm_is_lot cd_is_lot ct_is_lot : Value}
    {f_is_short_text : Addr} {od_is_short_text an_is_short_text : Option Addr} {sl_is_short_text : Array (Option Value)} {oc_is_short_text kV_is_short_text dc_is_short_text pm_is_short_text cd_is_short_text ct_is_short_text : Value}
    {f_are_small : Addr} {od_are_small an_are_small : Option Addr} {sl_are_small : Array (Option Value)} {oc_are_small kV_are_small dc_are_small pm_are_small cd_are_small ct_are_small : Value}
    {f_is_name : Addr} {od_is_name an_is_name : Option Addr} {sl_is_name : Array (Option Value)} {oc_is_name kV_is_name dc_is_name pm_is_name cd_is_name ct_is_name : Value}
    {f_is_lone : Addr} {od_is_lone an_is_lone : Option Addr} {sl_is_lone : Array (Option Value)} {oc_is_lone kV_is_lone dc_is_lone pm_is_lone cd_is_lone ct_is_lone : Value}
    {f_is_sign : Addr} {od_is_sign an_is_sign : Option Addr} {sl_is_sign : Array (Option Value)} {oc_is_sign kV_is_sign dc_is_sign pm_is_sign cd_is_sign ct_is_sign : Value}
    {f_is_many : Addr} {od_is_many an_is_many : Option Addr} {sl_is_many : Array (Option Value)} {oc_is_many kV_is_many dc_is_many pm_is_many cd_is_many ct_is_many : Value}
    {f_is_pair_entry : Addr} {od_is_pair_entry an_is_pair_entry : Option Addr} {sl_is_pair_entry : Array (Option Value)} {oc_is_pair_entry kV_is_pair_entry dc_is_pair_entry pm_is_pair_entry cd_is_pair_entry ct_is_pair_entry : Value}
    {f_is_entry : Addr} {od_is_entry an_is_entry : Option Addr} {sl_is_entry : Array (Option Value)} {oc_is_entry kV_is_entry dc_is_entry pm_is_entry cd_is_entry ct_is_entry : Value}
    {f_held_log : Addr} {od_held_log an_held_log : Option Addr} {sl_held_log : Array (Option Value)} {oc_held_log kV_held_log dc_held_log pm_held_log cd_held_log ct_held_log : Value}
    {f_number_in : Addr} {od_number_in an_number_in : Option Addr} {sl_number_in : Array (Option Value)} {oc_number_in kV_number_in dc_number_in pm_number_in cd_number_in ct_number_in : Value}
    {f_entry_in : Addr} {od_entry_in an_entry_in : Option Addr} {sl_entry_in : Array (Option Value)} {oc_entry_in kV_entry_in dc_entry_in pm_entry_in cd_entry_in ct_entry_in : Value}
    {f_read_entry : Addr} {od_read_entry an_read_entry : Option Addr} {sl_read_entry : Array (Option Value)} {oc_read_entry kV_read_entry dc_read_entry pm_read_entry cd_read_entry ct_read_entry : Value}
    {f_read_log : Addr} {od_read_log an_read_log : Option Addr} {sl_read_log : Array (Option Value)} {oc_read_log kV_read_log dc_read_log pm_read_log cd_read_log ct_read_log : Value}
    {f_read_dealing : Addr} {od_read_dealing an_read_dealing : Option Addr} {sl_read_dealing : Array (Option Value)} {oc_read_dealing kV_read_dealing dc_read_dealing pm_read_dealing cd_read_dealing ct_read_dealing : Value}
    {f_Lany_entry : Addr} {od_Lany_entry an_Lany_entry : Option Addr} {sl_Lany_entry : Array (Option Value)} {oc_Lany_entry kV_Lany_entry dc_Lany_entry pm_Lany_entry cd_Lany_entry ct_Lany_entry : Value}
    {f_Lany_log : Addr} {od_Lany_log an_Lany_log : Option Addr} {sl_Lany_log : Array (Option Value)} {oc_Lany_log kV_Lany_log dc_Lany_log pm_Lany_log cd_Lany_log ct_Lany_log : Value}
    {f_Lis_name : Addr} {od_Lis_name an_Lis_name : Option Addr} {sl_Lis_name : Array (Option Value)} {oc_Lis_name kV_Lis_name dc_Lis_name pm_Lis_name cd_Lis_name ct_Lis_name : Value}
    {f_Lis_sign : Addr} {od_Lis_sign an_Lis_sign : Option Addr} {sl_Lis_sign : Array (Option Value)} {oc_Lis_sign kV_Lis_sign dc_Lis_sign pm_Lis_sign cd_Lis_sign ct_Lis_sign : Value}
    {f_Lis_many : Addr} {od_Lis_many an_Lis_many : Option Addr} {sl_Lis_many : Array (Option Value)} {oc_Lis_many kV_Lis_many dc_Lis_many pm_Lis_many cd_Lis_many ct_Lis_many : Value}
    {f_Lis_entry : Addr} {od_Lis_entry an_Lis_entry : Option Addr} {sl_Lis_entry : Array (Option Value)} {oc_Lis_entry kV_Lis_entry dc_Lis_entry pm_Lis_entry cd_Lis_entry ct_Lis_entry : Value}
    {f_Lbad_at : Addr} {od_Lbad_at an_Lbad_at : Option Addr} {sl_Lbad_at : Array (Option Value)} {oc_Lbad_at kV_Lbad_at dc_Lbad_at pm_Lbad_at cd_Lbad_at ct_Lbad_at : Value}
    {f_Lspoilt_text : Addr} {od_Lspoilt_text an_Lspoilt_text : Option Addr} {sl_Lspoilt_text : Array (Option Value)} {oc_Lspoilt_text kV_Lspoilt_text dc_Lspoilt_text pm_Lspoilt_text cd_Lspoilt_text ct_Lspoilt_text : Value}
    {f_Lpool : Addr} {od_Lpool an_Lpool : Option Addr} {sl_Lpool : Array (Option Value)} {oc_Lpool kV_Lpool dc_Lpool pm_Lpool cd_Lpool ct_Lpool : Value}
    {f_Ltake : Addr} {od_Ltake an_Ltake : Option Addr} {sl_Ltake : Array (Option Value)} {oc_Ltake kV_Ltake dc_Ltake pm_Ltake cd_Ltake ct_Ltake : Value}
    {f_Lwhole : Addr} {od_Lwhole an_Lwhole : Option Addr} {sl_Lwhole : Array (Option Value)} {oc_Lwhole kV_Lwhole dc_Lwhole pm_Lwhole cd_Lwhole ct_Lwhole : Value}
    {f_Lsame : Addr} {od_Lsame an_Lsame : Option Addr} {sl_Lsame : Array (Option Value)} {oc_Lsame kV_Lsame dc_Lsame pm_Lsame cd_Lsame ct_Lsame : Value}
    {f_Lname : Addr} {od_Lname an_Lname : Option Addr} {sl_Lname : Array (Option Value)} {oc_Lname kV_Lname dc_Lname pm_Lname cd_Lname ct_Lname : Value}
    {f_Lsign : Addr} {od_Lsign an_Lsign : Option Addr} {sl_Lsign : Array (Option Value)} {oc_Lsign kV_Lsign dc_Lsign pm_Lsign cd_Lsign ct_Lsign : Value}
    {f_Lentry_of : Addr} {od_Lentry_of an_Lentry_of : Option Addr} {sl_Lentry_of : Array (Option Value)} {oc_Lentry_of kV_Lentry_of dc_Lentry_of pm_Lentry_of cd_Lentry_of ct_Lentry_of : Value}
    {f_Ldue : Addr} {od_Ldue an_Ldue : Option Addr} {sl_Ldue : Array (Option Value)} {oc_Ldue kV_Ldue dc_Ldue pm_Ldue cd_Ldue ct_Ldue : Value}
    {f_Lread : Addr} {od_Lread an_Lread : Option Addr} {sl_Lread : Array (Option Value)} {oc_Lread kV_Lread dc_Lread pm_Lread cd_Lread ct_Lread : Value}
    {f_Lsome_text : Addr} {od_Lsome_text an_Lsome_text : Option Addr} {sl_Lsome_text : Array (Option Value)} {oc_Lsome_text kV_Lsome_text dc_Lsome_text pm_Lsome_text cd_Lsome_text ct_Lsome_text : Value}
    {f_Lbent : Addr} {od_Lbent an_Lbent : Option Addr} {sl_Lbent : Array (Option Value)} {oc_Lbent kV_Lbent dc_Lbent pm_Lbent cd_Lbent ct_Lbent : Value}
    {f_law : Addr} {od_law an_law : Option Addr} {sl_law : Array (Option Value)} {oc_law kV_law dc_law pm_law cd_law ct_law : Value}
    {f_STEPS : Addr}
    {es_STEPS : Array DictEntry} {n_STEPS : Nat}
    
    
    
    {q_STEPS_0 : Addr}
    {dd_STEPS_0 : Option Addr} {sl_STEPS_0 : Array (Option Value)} {nn_STEPS_0 : Nat} {tk_STEPS_0_0 : Tok} {tk_STEPS_0_1 : Tok}
    {q_STEPS_1 : Addr}
    {dd_STEPS_1 : Option Addr} {sl_STEPS_1 : Array (Option Value)} {nn_STEPS_1 : Nat} {tk_STEPS_1_0 : Tok} {tk_STEPS_1_1 : Tok}
    {q_STEPS_2 : Addr}
    {dd_STEPS_2 : Option Addr} {sl_STEPS_2 : Array (Option Value)} {nn_STEPS_2 : Nat} {tk_STEPS_2_0 : Tok} {tk_STEPS_2_1 : Tok}
    {q_STEPS_3 : Addr}
    {dd_STEPS_3 : Option Addr} {sl_STEPS_3 : Array (Option Value)} {nn_STEPS_3 : Nat} {tk_STEPS_3_0 : Tok} {tk_STEPS_3_1 : Tok}
    {t_SMALL : Tok}
    {t_GREAT : Tok}
    {t_LONGEST : Tok}
    {f_WORDS_ALONE : Addr}
    {dd_WORDS_ALONE : Option Addr} {sl_WORDS_ALONE : Array (Option Value)} {nn_WORDS_ALONE : Nat} {tk_WORDS_ALONE_0 : Tok} {tk_WORDS_ALONE_1 : Tok} {tk_WORDS_ALONE_2 : Tok} {tk_WORDS_ALONE_3 : Tok} {tk_WORDS_ALONE_4 : Tok} {tk_WORDS_ALONE_5 : Tok}
    {f_WORDS_BEHIND_A_FACE : Addr}
    {dd_WORDS_BEHIND_A_FACE : Option Addr} {sl_WORDS_BEHIND_A_FACE : Array (Option Value)} {nn_WORDS_BEHIND_A_FACE : Nat} {tk_WORDS_BEHIND_A_FACE_0 : Tok} {tk_WORDS_BEHIND_A_FACE_1 : Tok} {tk_WORDS_BEHIND_A_FACE_2 : Tok} {tk_WORDS_BEHIND_A_FACE_3 : Tok} {tk_WORDS_BEHIND_A_FACE_4 : Tok} {tk_WORDS_BEHIND_A_FACE_5 : Tok}
    {t_FIGURES : Tok}
    {t_MOST_FIGURES : Tok}
    {t_NONE_AT_ALL : Tok}
    {f_NoLot : Addr}
    {f_BadLog : Addr}
    {f_NoDealing : Addr}
    {f_NeedleError : Addr}
    {f_NoText : Addr}
    {nm_D qn_D : Str} {ns_D : Addr} {bs_D bm_D : List Value} {sn_D : List Str} {sub_D : List Value} {ab_D : Bool} {col_D : Option Bool} {dd_D : Option Addr} {m0_D m1_D m2_D m3_D m5_D : Option Value}
    {f_init : Addr} {od_init an_init : Option Addr} {sl_init : Array (Option Value)} {oc_init kV_init dc_init pm_init cd_init ct_init : Value}
    {nm_D_NoText qn_D_NoText : Str} {ns_D_NoText : Addr} {bs_D_NoText bm_D_NoText : List Value} {sn_D_NoText : List Str} {sub_D_NoText : List Value} {ab_D_NoText : Bool} {col_D_NoText : Option Bool} {dd_D_NoText : Option Addr} {m0_D_NoText m1_D_NoText m2_D_NoText m3_D_NoText m5_D_NoText : Option Value}
    {f_init_NoText : Addr} {od_init_NoText an_init_NoText : Option Addr} {sl_init_NoText : Array (Option Value)} {oc_init_NoText kV_init_NoText dc_init_NoText pm_init_NoText cd_init_NoText ct_init_NoText : Value}
    (A_is_whole : PySem.W.nsIn K mainGlobals "is_whole" = some (some (.ref f_is_whole))) (L_is_whole : K.lookup f_is_whole = some ⟨oc_is_whole, od_is_whole, .func (PySem.W.fnOf "is_whole" "is_whole" (defArgs s_is_whole) (defBody s_is_whole) (defScope s_is_whole) .none kV_is_whole dc_is_whole pm_is_whole an_is_whole cd_is_whole ct_is_whole), sl_is_whole⟩) (C_is_whole : PySem.W.codeIn K cd_is_whole "is_whole" = true) (K_is_whole : PySem.W.keepIn K (.ref f_is_whole) = true)
    (A_is_row : PySem.W.nsIn K mainGlobals "is_row" = some (some (.ref f_is_row))) (L_is_row : K.lookup f_is_row = some ⟨oc_is_row, od_is_row, .func (PySem.W.fnOf "is_row" "is_row" (defArgs s_is_row) (defBody s_is_row) (defScope s_is_row) .none kV_is_row dc_is_row pm_is_row an_is_row cd_is_row ct_is_row), sl_is_row⟩) (C_is_row : PySem.W.codeIn K cd_is_row "is_row" = true) (K_is_row : PySem.W.keepIn K (.ref f_is_row) = true)
    (A_laid_out : PySem.W.nsIn K mainGlobals "laid_out" = some (some (.ref f_laid_out))) (L_laid_out : K.lookup f_laid_out = some ⟨oc_laid_out, od_laid_out, .func (PySem.W.fnOf "laid_out" "laid_out" (defArgs s_laid_out) (defBody s_laid_out) (defScope s_laid_out) .none kV_laid_out dc_laid_out pm_laid_out an_laid_out cd_laid_out ct_laid_out), sl_laid_out⟩) (C_laid_out : PySem.W.codeIn K cd_laid_out "laid_out" = true) (K_laid_out : PySem.W.keepIn K (.ref f_laid_out) = true)
    (A_kept : PySem.W.nsIn K mainGlobals "kept" = some (some (.ref f_kept))) (L_kept : K.lookup f_kept = some ⟨oc_kept, od_kept, .func (PySem.W.fnOf "kept" "kept" (defArgs s_kept) (defBody s_kept) (defScope s_kept) .none kV_kept dc_kept pm_kept an_kept cd_kept ct_kept), sl_kept⟩) (C_kept : PySem.W.codeIn K cd_kept "kept" = true) (K_kept : PySem.W.keepIn K (.ref f_kept) = true)
    (A_is_letter : PySem.W.nsIn K mainGlobals "is_letter" = some (some (.ref f_is_letter))) (L_is_letter : K.lookup f_is_letter = some ⟨oc_is_letter, od_is_letter, .func (PySem.W.fnOf "is_letter" "is_letter" (defArgs s_is_letter) (defBody s_is_letter) (defScope s_is_letter) .none kV_is_letter dc_is_letter pm_is_letter an_is_letter cd_is_letter ct_is_letter), sl_is_letter⟩) (C_is_letter : PySem.W.codeIn K cd_is_letter "is_letter" = true) (K_is_letter : PySem.W.keepIn K (.ref f_is_letter) = true)
    (A_is_lot : PySem.W.nsIn K mainGlobals "is_lot" = some (some (.ref f_is_lot))) (L_is_lot : K.lookup f_is_lot = some ⟨oc_is_lot, od_is_lot, .func (PySem.W.fnOf "is_lot" "is_lot" (defArgs s_is_lot) (defBody s_is_lot) (defScope s_is_lot) .none kV_is_lot dc_is_lot pm_is_lot an_is_lot cd_is_lot ct_is_lot), sl_is_lot⟩) (C_is_lot : PySem.W.codeIn K cd_is_lot "is_lot" = true) (K_is_lot : PySem.W.keepIn K (.ref f_is_lot) = true)
    (A_is_short_text : PySem.W.nsIn K mainGlobals "is_short_text" = some (some (.ref f_is_short_text))) (L_is_short_text : K.lookup f_is_short_text = some ⟨oc_is_short_text, od_is_short_text, .func (PySem.W.fnOf "is_short_text" "is_short_text" (defArgs s_is_short_text) (defBody s_is_short_text) (defScope s_is_short_text) .none kV_is_short_text dc_is_short_text pm_is_short_text an_is_short_text cd_is_short_text ct_is_short_text), sl_is_short_text⟩) (C_is_short_text : PySem.W.codeIn K cd_is_short_text "is_short_text" = true) (K_is_short_text : PySem.W.keepIn K (.ref f_is_short_text) = true)
    (A_are_small : PySem.W.nsIn K mainGlobals "are_small" = some (some (.ref f_are_small))) (L_are_small : K.lookup f_are_small = some ⟨oc_are_small, od_are_small, .func (PySem.W.fnOf "are_small" "are_small" (defArgs s_are_small) (defBody s_are_small) (defScope s_are_small) .none kV_are_small dc_are_small pm_are_small an_are_small cd_are_small ct_are_small), sl_are_small⟩) (C_are_small : PySem.W.codeIn K cd_are_small "are_small" = true) (K_are_small : PySem.W.keepIn K (.ref f_are_small) = true)
    (A_is_name : PySem.W.nsIn K mainGlobals "is_name" = some (some (.ref f_is_name))) (L_is_name : K.lookup f_is_name = some ⟨oc_is_name, od_is_name, .func (PySem.W.fnOf "is_name" "is_name" (defArgs s_is_name) (defBody s_is_name) (defScope s_is_name) .none kV_is_name dc_is_name pm_is_name an_is_name cd_is_name ct_is_name), sl_is_name⟩) (C_is_name : PySem.W.codeIn K cd_is_name "is_name" = true) (K_is_name : PySem.W.keepIn K (.ref f_is_name) = true)
    (A_is_lone : PySem.W.nsIn K mainGlobals "is_lone" = some (some (.ref f_is_lone))) (L_is_lone : K.lookup f_is_lone = some ⟨oc_is_lone, od_is_lone, .func (PySem.W.fnOf "is_lone" "is_lone" (defArgs s_is_lone) (defBody s_is_lone) (defScope s_is_lone) .none kV_is_lone dc_is_lone pm_is_lone an_is_lone cd_is_lone ct_is_lone), sl_is_lone⟩) (C_is_lone : PySem.W.codeIn K cd_is_lone "is_lone" = true) (K_is_lone : PySem.W.keepIn K (.ref f_is_lone) = true)
    (A_is_sign : PySem.W.nsIn K mainGlobals "is_sign" = some (some (.ref f_is_sign))) (L_is_sign : K.lookup f_is_sign = some ⟨oc_is_sign, od_is_sign, .func (PySem.W.fnOf "is_sign" "is_sign" (defArgs s_is_sign) (defBody s_is_sign) (defScope s_is_sign) .none kV_is_sign dc_is_sign pm_is_sign an_is_sign cd_is_sign ct_is_sign), sl_is_sign⟩) (C_is_sign : PySem.W.codeIn K cd_is_sign "is_sign" = true) (K_is_sign : PySem.W.keepIn K (.ref f_is_sign) = true)
    (A_is_many : PySem.W.nsIn K mainGlobals "is_many" = some (some (.ref f_is_many))) (L_is_many : K.lookup f_is_many = some ⟨oc_is_many, od_is_many, .func (PySem.W.fnOf "is_many" "is_many" (defArgs s_is_many) (defBody s_is_many) (defScope s_is_many) .none kV_is_many dc_is_many pm_is_many an_is_many cd_is_many ct_is_many), sl_is_many⟩) (C_is_many : PySem.W.codeIn K cd_is_many "is_many" = true) (K_is_many : PySem.W.keepIn K (.ref f_is_many) = true)
    (A_is_pair_entry : PySem.W.nsIn K mainGlobals "is_pair_entry" = some (some (.ref f_is_pair_entry))) (L_is_pair_entry : K.lookup f_is_pair_entry = some ⟨oc_is_pair_entry, od_is_pair_entry, .func (PySem.W.fnOf "is_pair_entry" "is_pair_entry" (defArgs s_is_pair_entry) (defBody s_is_pair_entry) (defScope s_is_pair_entry) .none kV_is_pair_entry dc_is_pair_entry pm_is_pair_entry an_is_pair_entry cd_is_pair_entry ct_is_pair_entry), sl_is_pair_entry⟩) (C_is_pair_entry : PySem.W.codeIn K cd_is_pair_entry "is_pair_entry" = true) (K_is_pair_entry : PySem.W.keepIn K (.ref f_is_pair_entry) = true)
    (A_is_entry : PySem.W.nsIn K mainGlobals "is_entry" = some (some (.ref f_is_entry))) (L_is_entry : K.lookup f_is_entry = some ⟨oc_is_entry, od_is_entry, .func (PySem.W.fnOf "is_entry" "is_entry" (defArgs s_is_entry) (defBody s_is_entry) (defScope s_is_entry) .none kV_is_entry dc_is_entry pm_is_entry an_is_entry cd_is_entry ct_is_entry), sl_is_entry⟩) (C_is_entry : PySem.W.codeIn K cd_is_entry "is_entry" = true) (K_is_entry : PySem.W.keepIn K (.ref f_is_entry) = true)
    (A_held_log : PySem.W.nsIn K mainGlobals "held_log" = some (some (.ref f_held_log))) (L_held_log : K.lookup f_held_log = some ⟨oc_held_log, od_held_log, .func (PySem.W.fnOf "held_log" "held_log" (defArgs s_held_log) (defBody s_held_log) (defScope s_held_log) .none kV_held_log dc_held_log pm_held_log an_held_log cd_held_log ct_held_log), sl_held_log⟩) (C_held_log : PySem.W.codeIn K cd_held_log "held_log" = true) (K_held_log : PySem.W.keepIn K (.ref f_held_log) = true)
    (A_number_in : PySem.W.nsIn K mainGlobals "number_in" = some (some (.ref f_number_in))) (L_number_in : K.lookup f_number_in = some ⟨oc_number_in, od_number_in, .func (PySem.W.fnOf "number_in" "number_in" (defArgs s_number_in) (defBody s_number_in) (defScope s_number_in) .none kV_number_in dc_number_in pm_number_in an_number_in cd_number_in ct_number_in), sl_number_in⟩) (C_number_in : PySem.W.codeIn K cd_number_in "number_in" = true) (K_number_in : PySem.W.keepIn K (.ref f_number_in) = true)
    (A_entry_in : PySem.W.nsIn K mainGlobals "entry_in" = some (some (.ref f_entry_in))) (L_entry_in : K.lookup f_entry_in = some ⟨oc_entry_in, od_entry_in, .func (PySem.W.fnOf "entry_in" "entry_in" (defArgs s_entry_in) (defBody s_entry_in) (defScope s_entry_in) .none kV_entry_in dc_entry_in pm_entry_in an_entry_in cd_entry_in ct_entry_in), sl_entry_in⟩) (C_entry_in : PySem.W.codeIn K cd_entry_in "entry_in" = true) (K_entry_in : PySem.W.keepIn K (.ref f_entry_in) = true)
    (A_read_entry : PySem.W.nsIn K mainGlobals "read_entry" = some (some (.ref f_read_entry))) (L_read_entry : K.lookup f_read_entry = some ⟨oc_read_entry, od_read_entry, .func (PySem.W.fnOf "read_entry" "read_entry" (defArgs s_read_entry) (defBody s_read_entry) (defScope s_read_entry) .none kV_read_entry dc_read_entry pm_read_entry an_read_entry cd_read_entry ct_read_entry), sl_read_entry⟩) (C_read_entry : PySem.W.codeIn K cd_read_entry "read_entry" = true) (K_read_entry : PySem.W.keepIn K (.ref f_read_entry) = true)
    (A_read_log : PySem.W.nsIn K mainGlobals "read_log" = some (some (.ref f_read_log))) (L_read_log : K.lookup f_read_log = some ⟨oc_read_log, od_read_log, .func (PySem.W.fnOf "read_log" "read_log" (defArgs s_read_log) (defBody s_read_log) (defScope s_read_log) .none kV_read_log dc_read_log pm_read_log an_read_log cd_read_log ct_read_log), sl_read_log⟩) (C_read_log : PySem.W.codeIn K cd_read_log "read_log" = true) (K_read_log : PySem.W.keepIn K (.ref f_read_log) = true)
    (A_read_dealing : PySem.W.nsIn K mainGlobals "read_dealing" = some (some (.ref f_read_dealing))) (L_read_dealing : K.lookup f_read_dealing = some ⟨oc_read_dealing, od_read_dealing, .func (PySem.W.fnOf "read_dealing" "read_dealing" (defArgs s_read_dealing) (defBody s_read_dealing) (defScope s_read_dealing) .none kV_read_dealing dc_read_dealing pm_read_dealing an_read_dealing cd_read_dealing ct_read_dealing), sl_read_dealing⟩) (C_read_dealing : PySem.W.codeIn K cd_read_dealing "read_dealing" = true) (K_read_dealing : PySem.W.keepIn K (.ref f_read_dealing) = true)
    (A_Lany_entry : PySem.W.nsIn K mainGlobals "_law_any_entry" = some (some (.ref f_Lany_entry))) (L_Lany_entry : K.lookup f_Lany_entry = some ⟨oc_Lany_entry, od_Lany_entry, .func (PySem.W.fnOf "_law_any_entry" "_law_any_entry" (defArgs s_Lany_entry) (defBody s_Lany_entry) (defScope s_Lany_entry) .none kV_Lany_entry dc_Lany_entry pm_Lany_entry an_Lany_entry cd_Lany_entry ct_Lany_entry), sl_Lany_entry⟩) (C_Lany_entry : PySem.W.codeIn K cd_Lany_entry "_law_any_entry" = true) (K_Lany_entry : PySem.W.keepIn K (.ref f_Lany_entry) = true)
    (A_Lany_log : PySem.W.nsIn K mainGlobals "_law_any_log" = some (some (.ref f_Lany_log))) (L_Lany_log : K.lookup f_Lany_log = some ⟨oc_Lany_log, od_Lany_log, .func (PySem.W.fnOf "_law_any_log" "_law_any_log" (defArgs s_Lany_log) (defBody s_Lany_log) (defScope s_Lany_log) .none kV_Lany_log dc_Lany_log pm_Lany_log an_Lany_log cd_Lany_log ct_Lany_log), sl_Lany_log⟩) (C_Lany_log : PySem.W.codeIn K cd_Lany_log "_law_any_log" = true) (K_Lany_log : PySem.W.keepIn K (.ref f_Lany_log) = true)
    (A_Lis_name : PySem.W.nsIn K mainGlobals "_law_is_name" = some (some (.ref f_Lis_name))) (L_Lis_name : K.lookup f_Lis_name = some ⟨oc_Lis_name, od_Lis_name, .func (PySem.W.fnOf "_law_is_name" "_law_is_name" (defArgs s_Lis_name) (defBody s_Lis_name) (defScope s_Lis_name) .none kV_Lis_name dc_Lis_name pm_Lis_name an_Lis_name cd_Lis_name ct_Lis_name), sl_Lis_name⟩) (C_Lis_name : PySem.W.codeIn K cd_Lis_name "_law_is_name" = true) (K_Lis_name : PySem.W.keepIn K (.ref f_Lis_name) = true)
    (A_Lis_sign : PySem.W.nsIn K mainGlobals "_law_is_sign" = some (some (.ref f_Lis_sign))) (L_Lis_sign : K.lookup f_Lis_sign = some ⟨oc_Lis_sign, od_Lis_sign, .func (PySem.W.fnOf "_law_is_sign" "_law_is_sign" (defArgs s_Lis_sign) (defBody s_Lis_sign) (defScope s_Lis_sign) .none kV_Lis_sign dc_Lis_sign pm_Lis_sign an_Lis_sign cd_Lis_sign ct_Lis_sign), sl_Lis_sign⟩) (C_Lis_sign : PySem.W.codeIn K cd_Lis_sign "_law_is_sign" = true) (K_Lis_sign : PySem.W.keepIn K (.ref f_Lis_sign) = true)
    (A_Lis_many : PySem.W.nsIn K mainGlobals "_law_is_many" = some (some (.ref f_Lis_many))) (L_Lis_many : K.lookup f_Lis_many = some ⟨oc_Lis_many, od_Lis_many, .func (PySem.W.fnOf "_law_is_many" "_law_is_many" (defArgs s_Lis_many) (defBody s_Lis_many) (defScope s_Lis_many) .none kV_Lis_many dc_Lis_many pm_Lis_many an_Lis_many cd_Lis_many ct_Lis_many), sl_Lis_many⟩) (C_Lis_many : PySem.W.codeIn K cd_Lis_many "_law_is_many" = true) (K_Lis_many : PySem.W.keepIn K (.ref f_Lis_many) = true)
    (A_Lis_entry : PySem.W.nsIn K mainGlobals "_law_is_entry" = some (some (.ref f_Lis_entry))) (L_Lis_entry : K.lookup f_Lis_entry = some ⟨oc_Lis_entry, od_Lis_entry, .func (PySem.W.fnOf "_law_is_entry" "_law_is_entry" (defArgs s_Lis_entry) (defBody s_Lis_entry) (defScope s_Lis_entry) .none kV_Lis_entry dc_Lis_entry pm_Lis_entry an_Lis_entry cd_Lis_entry ct_Lis_entry), sl_Lis_entry⟩) (C_Lis_entry : PySem.W.codeIn K cd_Lis_entry "_law_is_entry" = true) (K_Lis_entry : PySem.W.keepIn K (.ref f_Lis_entry) = true)
    (A_Lbad_at : PySem.W.nsIn K mainGlobals "_law_bad_at" = some (some (.ref f_Lbad_at))) (L_Lbad_at : K.lookup f_Lbad_at = some ⟨oc_Lbad_at, od_Lbad_at, .func (PySem.W.fnOf "_law_bad_at" "_law_bad_at" (defArgs s_Lbad_at) (defBody s_Lbad_at) (defScope s_Lbad_at) .none kV_Lbad_at dc_Lbad_at pm_Lbad_at an_Lbad_at cd_Lbad_at ct_Lbad_at), sl_Lbad_at⟩) (C_Lbad_at : PySem.W.codeIn K cd_Lbad_at "_law_bad_at" = true) (K_Lbad_at : PySem.W.keepIn K (.ref f_Lbad_at) = true)
    (A_Lspoilt_text : PySem.W.nsIn K mainGlobals "_law_spoilt_text" = some (some (.ref f_Lspoilt_text))) (L_Lspoilt_text : K.lookup f_Lspoilt_text = some ⟨oc_Lspoilt_text, od_Lspoilt_text, .func (PySem.W.fnOf "_law_spoilt_text" "_law_spoilt_text" (defArgs s_Lspoilt_text) (defBody s_Lspoilt_text) (defScope s_Lspoilt_text) .none kV_Lspoilt_text dc_Lspoilt_text pm_Lspoilt_text an_Lspoilt_text cd_Lspoilt_text ct_Lspoilt_text), sl_Lspoilt_text⟩) (C_Lspoilt_text : PySem.W.codeIn K cd_Lspoilt_text "_law_spoilt_text" = true) (K_Lspoilt_text : PySem.W.keepIn K (.ref f_Lspoilt_text) = true)
    (A_Lpool : PySem.W.nsIn K mainGlobals "_law_pool" = some (some (.ref f_Lpool))) (L_Lpool : K.lookup f_Lpool = some ⟨oc_Lpool, od_Lpool, .func (PySem.W.fnOf "_law_pool" "_law_pool" (defArgs s_Lpool) (defBody s_Lpool) (defScope s_Lpool) .none kV_Lpool dc_Lpool pm_Lpool an_Lpool cd_Lpool ct_Lpool), sl_Lpool⟩) (C_Lpool : PySem.W.codeIn K cd_Lpool "_law_pool" = true) (K_Lpool : PySem.W.keepIn K (.ref f_Lpool) = true)
    (A_Ltake : PySem.W.nsIn K mainGlobals "_law_take" = some (some (.ref f_Ltake))) (L_Ltake : K.lookup f_Ltake = some ⟨oc_Ltake, od_Ltake, .func (PySem.W.fnOf "_law_take" "_law_take" (defArgs s_Ltake) (defBody s_Ltake) (defScope s_Ltake) .none kV_Ltake dc_Ltake pm_Ltake an_Ltake cd_Ltake ct_Ltake), sl_Ltake⟩) (C_Ltake : PySem.W.codeIn K cd_Ltake "_law_take" = true) (K_Ltake : PySem.W.keepIn K (.ref f_Ltake) = true)
    (A_Lwhole : PySem.W.nsIn K mainGlobals "_law_whole" = some (some (.ref f_Lwhole))) (L_Lwhole : K.lookup f_Lwhole = some ⟨oc_Lwhole, od_Lwhole, .func (PySem.W.fnOf "_law_whole" "_law_whole" (defArgs s_Lwhole) (defBody s_Lwhole) (defScope s_Lwhole) .none kV_Lwhole dc_Lwhole pm_Lwhole an_Lwhole cd_Lwhole ct_Lwhole), sl_Lwhole⟩) (C_Lwhole : PySem.W.codeIn K cd_Lwhole "_law_whole" = true) (K_Lwhole : PySem.W.keepIn K (.ref f_Lwhole) = true)
    (A_Lsame : PySem.W.nsIn K mainGlobals "_law_same" = some (some (.ref f_Lsame))) (L_Lsame : K.lookup f_Lsame = some ⟨oc_Lsame, od_Lsame, .func (PySem.W.fnOf "_law_same" "_law_same" (defArgs s_Lsame) (defBody s_Lsame) (defScope s_Lsame) .none kV_Lsame dc_Lsame pm_Lsame an_Lsame cd_Lsame ct_Lsame), sl_Lsame⟩) (C_Lsame : PySem.W.codeIn K cd_Lsame "_law_same" = true) (K_Lsame : PySem.W.keepIn K (.ref f_Lsame) = true)
    (A_Lname : PySem.W.nsIn K mainGlobals "_law_name" = some (some (.ref f_Lname))) (L_Lname : K.lookup f_Lname = some ⟨oc_Lname, od_Lname, .func (PySem.W.fnOf "_law_name" "_law_name" (defArgs s_Lname) (defBody s_Lname) (defScope s_Lname) .none kV_Lname dc_Lname pm_Lname an_Lname cd_Lname ct_Lname), sl_Lname⟩) (C_Lname : PySem.W.codeIn K cd_Lname "_law_name" = true) (K_Lname : PySem.W.keepIn K (.ref f_Lname) = true)
    (A_Lsign : PySem.W.nsIn K mainGlobals "_law_sign" = some (some (.ref f_Lsign))) (L_Lsign : K.lookup f_Lsign = some ⟨oc_Lsign, od_Lsign, .func (PySem.W.fnOf "_law_sign" "_law_sign" (defArgs s_Lsign) (defBody s_Lsign) (defScope s_Lsign) .none kV_Lsign dc_Lsign pm_Lsign an_Lsign cd_Lsign ct_Lsign), sl_Lsign⟩) (C_Lsign : PySem.W.codeIn K cd_Lsign "_law_sign" = true) (K_Lsign : PySem.W.keepIn K (.ref f_Lsign) = true)
    (A_Lentry_of : PySem.W.nsIn K mainGlobals "_law_entry_of" = some (some (.ref f_Lentry_of))) (L_Lentry_of : K.lookup f_Lentry_of = some ⟨oc_Lentry_of, od_Lentry_of, .func (PySem.W.fnOf "_law_entry_of" "_law_entry_of" (defArgs s_Lentry_of) (defBody s_Lentry_of) (defScope s_Lentry_of) .none kV_Lentry_of dc_Lentry_of pm_Lentry_of an_Lentry_of cd_Lentry_of ct_Lentry_of), sl_Lentry_of⟩) (C_Lentry_of : PySem.W.codeIn K cd_Lentry_of "_law_entry_of" = true) (K_Lentry_of : PySem.W.keepIn K (.ref f_Lentry_of) = true)
    (A_Ldue : PySem.W.nsIn K mainGlobals "_law_due" = some (some (.ref f_Ldue))) (L_Ldue : K.lookup f_Ldue = some ⟨oc_Ldue, od_Ldue, .func (PySem.W.fnOf "_law_due" "_law_due" (defArgs s_Ldue) (defBody s_Ldue) (defScope s_Ldue) .none kV_Ldue dc_Ldue pm_Ldue an_Ldue cd_Ldue ct_Ldue), sl_Ldue⟩) (C_Ldue : PySem.W.codeIn K cd_Ldue "_law_due" = true) (K_Ldue : PySem.W.keepIn K (.ref f_Ldue) = true)
    (A_Lread : PySem.W.nsIn K mainGlobals "_law_read" = some (some (.ref f_Lread))) (L_Lread : K.lookup f_Lread = some ⟨oc_Lread, od_Lread, .func (PySem.W.fnOf "_law_read" "_law_read" (defArgs s_Lread) (defBody s_Lread) (defScope s_Lread) .none kV_Lread dc_Lread pm_Lread an_Lread cd_Lread ct_Lread), sl_Lread⟩) (C_Lread : PySem.W.codeIn K cd_Lread "_law_read" = true) (K_Lread : PySem.W.keepIn K (.ref f_Lread) = true)
    (A_Lsome_text : PySem.W.nsIn K mainGlobals "_law_some_text" = some (some (.ref f_Lsome_text))) (L_Lsome_text : K.lookup f_Lsome_text = some ⟨oc_Lsome_text, od_Lsome_text, .func (PySem.W.fnOf "_law_some_text" "_law_some_text" (defArgs s_Lsome_text) (defBody s_Lsome_text) (defScope s_Lsome_text) .none kV_Lsome_text dc_Lsome_text pm_Lsome_text an_Lsome_text cd_Lsome_text ct_Lsome_text), sl_Lsome_text⟩) (C_Lsome_text : PySem.W.codeIn K cd_Lsome_text "_law_some_text" = true) (K_Lsome_text : PySem.W.keepIn K (.ref f_Lsome_text) = true)
    (A_Lbent : PySem.W.nsIn K mainGlobals "_law_bent" = some (some (.ref f_Lbent))) (L_Lbent : K.lookup f_Lbent = some ⟨oc_Lbent, od_Lbent, .func (PySem.W.fnOf "_law_bent" "_law_bent" (defArgs s_Lbent) (defBody s_Lbent) (defScope s_Lbent) .none kV_Lbent dc_Lbent pm_Lbent an_Lbent cd_Lbent ct_Lbent), sl_Lbent⟩) (C_Lbent : PySem.W.codeIn K cd_Lbent "_law_bent" = true) (K_Lbent : PySem.W.keepIn K (.ref f_Lbent) = true)
    (A_law : PySem.W.nsIn K mainGlobals "law" = some (some (.ref f_law))) (L_law : K.lookup f_law = some ⟨oc_law, od_law, .func (PySem.W.fnOf "law" "law" (defArgs s_law) (defBody s_law) (defScope s_law) .none kV_law dc_law pm_law an_law cd_law ct_law), sl_law⟩) (C_law : PySem.W.codeIn K cd_law "law" = true) (K_law : PySem.W.keepIn K (.ref f_law) = true)
    (A_STEPS : PySem.W.nsIn K mainGlobals "STEPS" = some (some (.ref f_STEPS)))
    (D_STEPS : K.lookup f_STEPS = some ⟨.type "dict", none, .dict es_STEPS n_STEPS, #[]⟩)
    (Y_STEPS : PySem.W.KeysLit w.params es_STEPS.toList)
    (lo_STEPS : (f_STEPS == sysModules) = false)
    (ke_STEPS : Keys es_STEPS.toList ["n", "e", "s", "w"])
    (N_STEPS_0 : PySem.W.nsIn K f_STEPS "n" = some (some (.ref q_STEPS_0)))
    (V_STEPS_0 : K.lookup q_STEPS_0 = some ⟨.type "tuple", dd_STEPS_0, .seq #[.int (0) tk_STEPS_0_0, .int (1) tk_STEPS_0_1] nn_STEPS_0, sl_STEPS_0⟩)
    (N_STEPS_1 : PySem.W.nsIn K f_STEPS "e" = some (some (.ref q_STEPS_1)))
    (V_STEPS_1 : K.lookup q_STEPS_1 = some ⟨.type "tuple", dd_STEPS_1, .seq #[.int (1) tk_STEPS_1_0, .int (0) tk_STEPS_1_1] nn_STEPS_1, sl_STEPS_1⟩)
    (N_STEPS_2 : PySem.W.nsIn K f_STEPS "s" = some (some (.ref q_STEPS_2)))
    (V_STEPS_2 : K.lookup q_STEPS_2 = some ⟨.type "tuple", dd_STEPS_2, .seq #[.int (0) tk_STEPS_2_0, .int (-1) tk_STEPS_2_1] nn_STEPS_2, sl_STEPS_2⟩)
    (N_STEPS_3 : PySem.W.nsIn K f_STEPS "w" = some (some (.ref q_STEPS_3)))
    (V_STEPS_3 : K.lookup q_STEPS_3 = some ⟨.type "tuple", dd_STEPS_3, .seq #[.int (-1) tk_STEPS_3_0, .int (0) tk_STEPS_3_1] nn_STEPS_3, sl_STEPS_3⟩)
    (A_SMALL : PySem.W.nsIn K mainGlobals "SMALL" = some (some (.str "abcdefghijklmnopqrstuvwxyz" t_SMALL)))
    (A_GREAT : PySem.W.nsIn K mainGlobals "GREAT" = some (some (.str "ABCDEFGHIJKLMNOPQRSTUVWXYZ" t_GREAT)))
    (A_LONGEST : PySem.W.nsIn K mainGlobals "LONGEST" = some (some (.int 8 t_LONGEST)))
    (A_WORDS_ALONE : PySem.W.nsIn K mainGlobals "WORDS_ALONE" = some (some (.ref f_WORDS_ALONE)))
    (V_WORDS_ALONE : K.lookup f_WORDS_ALONE = some ⟨.type "tuple", dd_WORDS_ALONE, .seq #[.str "left" tk_WORDS_ALONE_0, .str "right" tk_WORDS_ALONE_1, .str "back" tk_WORDS_ALONE_2, .str "bump" tk_WORDS_ALONE_3, .str "bare" tk_WORDS_ALONE_4, .str "swap" tk_WORDS_ALONE_5] nn_WORDS_ALONE, sl_WORDS_ALONE⟩)
    (A_WORDS_BEHIND_A_FACE : PySem.W.nsIn K mainGlobals "WORDS_BEHIND_A_FACE" = some (some (.ref f_WORDS_BEHIND_A_FACE)))
    (V_WORDS_BEHIND_A_FACE : K.lookup f_WORDS_BEHIND_A_FACE = some ⟨.type "tuple", dd_WORDS_BEHIND_A_FACE, .seq #[.str "left" tk_WORDS_BEHIND_A_FACE_0, .str "right" tk_WORDS_BEHIND_A_FACE_1, .str "back" tk_WORDS_BEHIND_A_FACE_2, .str "go" tk_WORDS_BEHIND_A_FACE_3, .str "bump" tk_WORDS_BEHIND_A_FACE_4, .str "spy" tk_WORDS_BEHIND_A_FACE_5] nn_WORDS_BEHIND_A_FACE, sl_WORDS_BEHIND_A_FACE⟩)
    (A_FIGURES : PySem.W.nsIn K mainGlobals "FIGURES" = some (some (.str "0123456789" t_FIGURES)))
    (A_MOST_FIGURES : PySem.W.nsIn K mainGlobals "MOST_FIGURES" = some (some (.int 30 t_MOST_FIGURES)))
    (A_NONE_AT_ALL : PySem.W.nsIn K mainGlobals "NONE_AT_ALL" = some (some (.str "-" t_NONE_AT_ALL)))
    (Z_abs : PySem.W.nsIn K mainGlobals "abs" = some none)
    (Z_all : PySem.W.nsIn K mainGlobals "all" = some none)
    (Z_any : PySem.W.nsIn K mainGlobals "any" = some none)
    (Z_bool : PySem.W.nsIn K mainGlobals "bool" = some none)
    (Z_enumerate : PySem.W.nsIn K mainGlobals "enumerate" = some none)
    (Z_int : PySem.W.nsIn K mainGlobals "int" = some none)
    (Z_isinstance : PySem.W.nsIn K mainGlobals "isinstance" = some none)
    (Z_len : PySem.W.nsIn K mainGlobals "len" = some none)
    (Z_list : PySem.W.nsIn K mainGlobals "list" = some none)
    (Z_range : PySem.W.nsIn K mainGlobals "range" = some none)
    (Z_str : PySem.W.nsIn K mainGlobals "str" = some none)
    (Z_tuple : PySem.W.nsIn K mainGlobals "tuple" = some none)
    (Z_zip : PySem.W.nsIn K mainGlobals "zip" = some none)
    (A_NoLot : PySem.W.nsIn K mainGlobals "NoLot" = some (some (.ref f_NoLot)))
    (A_BadLog : PySem.W.nsIn K mainGlobals "BadLog" = some (some (.ref f_BadLog)))
    (A_NoDealing : PySem.W.nsIn K mainGlobals "NoDealing" = some (some (.ref f_NoDealing)))
    (A_NeedleError : PySem.W.nsIn K mainGlobals "NeedleError" = some (some (.ref f_NeedleError)))
    (A_NoText : PySem.W.nsIn K mainGlobals "NoText" = some (some (.ref f_NoText)))
    (ic_NoLot : PySem.W.isClsIn K f_NoLot = true) (ty_NoLot : PySem.W.typeIn K (.ref f_NoLot) = some (.type "type")) (su_NoLot : PySem.W.subIn K (.ref f_BadLog) (.ref f_NoLot) = some false)
    (ne_NoLot : (Value.ref f_BadLog == Value.ref f_NoLot) = false)
    (ic_BadLog : PySem.W.isClsIn K f_BadLog = true) (ty_BadLog : PySem.W.typeIn K (.ref f_BadLog) = some (.type "type")) (su_BadLog : PySem.W.subIn K (.ref f_BadLog) (.ref f_BadLog) = some true)
    (ic_NoDealing : PySem.W.isClsIn K f_NoDealing = true) (ty_NoDealing : PySem.W.typeIn K (.ref f_NoDealing) = some (.type "type")) (su_NoDealing : PySem.W.subIn K (.ref f_BadLog) (.ref f_NoDealing) = some false)
    (ne_NoDealing : (Value.ref f_BadLog == Value.ref f_NoDealing) = false)
    (ic_NeedleError : PySem.W.isClsIn K f_NeedleError = true) (ty_NeedleError : PySem.W.typeIn K (.ref f_NeedleError) = some (.type "type")) (su_NeedleError : PySem.W.subIn K (.ref f_BadLog) (.ref f_NeedleError) = some true)
    (ne_NeedleError : (Value.ref f_BadLog == Value.ref f_NeedleError) = false)
    (ic_NoText : PySem.W.isClsIn K f_NoText = true) (ty_NoText : PySem.W.typeIn K (.ref f_NoText) = some (.type "type")) (su_NoText : PySem.W.subIn K (.ref f_BadLog) (.ref f_NoText) = some false)
    (ne_NoText : (Value.ref f_BadLog == Value.ref f_NoText) = false)
    (su_NoText_NoLot : PySem.W.subIn K (.ref f_NoText) (.ref f_NoLot) = some false)
    (ne_NoText_NoLot : (Value.ref f_NoText == Value.ref f_NoLot) = false)
    (su_NoText_BadLog : PySem.W.subIn K (.ref f_NoText) (.ref f_BadLog) = some false)
    (ne_NoText_BadLog : (Value.ref f_NoText == Value.ref f_BadLog) = false)
    (su_NoText_NoDealing : PySem.W.subIn K (.ref f_NoText) (.ref f_NoDealing) = some false)
    (ne_NoText_NoDealing : (Value.ref f_NoText == Value.ref f_NoDealing) = false)
    (su_NoText_NeedleError : PySem.W.subIn K (.ref f_NoText) (.ref f_NeedleError) = some true)
    (ne_NoText_NeedleError : (Value.ref f_NoText == Value.ref f_NeedleError) = false)
    (su_NoText_NoText : PySem.W.subIn K (.ref f_NoText) (.ref f_NoText) = some true)
    (Z_ValueError : PySem.W.nsIn K mainGlobals "ValueError" = some none)
    (su_VE : PySem.W.subIn K (.ref f_BadLog) (.type "ValueError") = some true)
    (X_D : K.lookup f_BadLog = some (excClassObj nm_D qn_D f_BadLog ns_D bs_D bm_D true sn_D sub_D ab_D col_D dd_D m0_D m1_D m2_D m3_D m5_D "ValueError.__new__")) (bm_ok : PySem.HandSPX.refsVE bm_D = true)
    (sa_D : PySem.W.findIn K (.ref f_BadLog) "__setattr__" = some (some (.builtin "object.__setattr__"))) (ga_D : PySem.W.findIn K (.ref f_BadLog) "__getattribute__" = some (some (.builtin "BaseException.__getattribute__"))) (gg_D : PySem.W.findIn K (.ref f_BadLog) "__getattr__" = some none)
    (no_name : PySem.W.findIn K (.ref f_BadLog) "name" = some none)
    (no_at : PySem.W.findIn K (.ref f_BadLog) "at" = some none)
    (I_D : PySem.W.findIn K (.ref f_BadLog) "__init__" = some (some (.ref f_init))) (t_init : PySem.W.typeIn K (.ref f_init) = some (.type "function"))
    (L_init : K.lookup f_init = some ⟨oc_init, od_init, .func (PySem.W.fnOf "__init__" "BadLog.__init__" (defArgs s_init) (defBody s_init) (defScope s_init) .none kV_init dc_init pm_init an_init cd_init ct_init), sl_init⟩) (C_init : PySem.W.codeIn K cd_init "BadLog.__init__" = true) (K_init : PySem.W.keepIn K (.ref f_init) = true)
    (k_D : PySem.W.keepIn K (.ref f_BadLog) = true) (e_D : PySem.W.subIn K (.ref f_BadLog) (.type "BaseException") = some true) (h_D : PySem.W.hasDictIn K f_BadLog = true)
    (ca_D : PySem.W.findIn K (.ref f_BadLog) "__class__" = some (some (.builtin "object.__class__"))) (cn_D : PySem.W.specialIn K (.builtin "object.__class__") "__get__" = some (some (.builtin "getset_descriptor.__get__"))) (ct_D : PySem.W.takesIn K (.builtin "object.__class__") = some true) (cm_D : PySem.W.mroIn K f_BadLog (.type "object") = some true)
    (su_VE_NoText : PySem.W.subIn K (.ref f_NoText) (.type "ValueError") = some true)
    (X_D_NoText : K.lookup f_NoText = some (excClassObj nm_D_NoText qn_D_NoText f_NoText ns_D_NoText bs_D_NoText bm_D_NoText true sn_D_NoText sub_D_NoText ab_D_NoText col_D_NoText dd_D_NoText m0_D_NoText m1_D_NoText m2_D_NoText m3_D_NoText m5_D_NoText "ValueError.__new__")) (bm_ok_NoText : PySem.HandSPX.refsVE bm_D_NoText = true)
    (sa_D_NoText : PySem.W.findIn K (.ref f_NoText) "__setattr__" = some (some (.builtin "object.__setattr__"))) (ga_D_NoText : PySem.W.findIn K (.ref f_NoText) "__getattribute__" = some (some (.builtin "BaseException.__getattribute__"))) (gg_D_NoText : PySem.W.findIn K (.ref f_NoText) "__getattr__" = some none)
    (no_NoText_at : PySem.W.findIn K (.ref f_NoText) "at" = some none)
    (I_D_NoText : PySem.W.findIn K (.ref f_NoText) "__init__" = some (some (.ref f_init_NoText))) (t_init_NoText : PySem.W.typeIn K (.ref f_init_NoText) = some (.type "function"))
    (L_init_NoText : K.lookup f_init_NoText = some ⟨oc_init_NoText, od_init_NoText, .func (PySem.W.fnOf "__init__" "NoText.__init__" (defArgs s_init_NoText) (defBody s_init_NoText) (defScope s_init_NoText) .none kV_init_NoText dc_init_NoText pm_init_NoText an_init_NoText cd_init_NoText ct_init_NoText), sl_init_NoText⟩) (C_init_NoText : PySem.W.codeIn K cd_init_NoText "NoText.__init__" = true) (K_init_NoText : PySem.W.keepIn K (.ref f_init_NoText) = true)
    (k_D_NoText : PySem.W.keepIn K (.ref f_NoText) = true) (e_D_NoText : PySem.W.subIn K (.ref f_NoText) (.type "BaseException") = some true) (h_D_NoText : PySem.W.hasDictIn K f_NoText = true)
    (ca_D_NoText : PySem.W.findIn K (.ref f_NoText) "__class__" = some (some (.builtin "object.__class__"))) (cn_D_NoText : PySem.W.specialIn K (.builtin "object.__class__") "__get__" = some (some (.builtin "getset_descriptor.__get__"))) (ct_D_NoText : PySem.W.takesIn K (.builtin "object.__class__") = some true) (cm_D_NoText : PySem.W.mroIn K f_NoText (.type "object") = some true) :
    ∃ fd : FuncData, (∀ (s : Shared) (v : Value), BindsTo s fd ⟨[v], []⟩ [("_law_script", v)]) ∧ ∀ base : Heap, K.In base → base.Ns mainGlobals mg → FnOk l.prog w K mg base CX0 11 fa fd ["_law_script"] (spLaw K) := by
  have e := hfa.symm.trans (PySem.W.mg_of X G A_law)
  cases e
  let T : Top w K mg := {
    a_is_whole := f_is_whole, fd_is_whole := _, F_is_whole := fun_mk (st := s_is_whole) L_is_whole C_is_whole K_is_whole,
    b_is_whole := (fun_mk (st := s_is_whole) L_is_whole C_is_whole K_is_whole).binds (ps := ["thing"]) fun _ _ _ _ _ _ us hl => match us, hl with | [_], _ => rfl,
    g_is_whole := PySem.W.mg_of X G A_is_whole,
    a_is_row := f_is_row, fd_is_row := _, F_is_row := fun_mk (st := s_is_row) L_is_row C_is_row K_is_row,
    b_is_row := (fun_mk (st := s_is_row) L_is_row C_is_row K_is_row).binds (ps := ["thing"]) fun _ _ _ _ _ _ us hl => match us, hl with | [_], _ => rfl,
    g_is_row := PySem.W.mg_of X G A_is_row,
    a_laid_out := f_laid_out, fd_laid_out := _, F_laid_out := fun_mk (st := s_laid_out) L_laid_out C_laid_out K_laid_out,
    b_laid_out := (fun_mk (st := s_laid_out) L_laid_out C_laid_out K_laid_out).binds (ps := ["thing"]) fun _ _ _ _ _ _ us hl => match us, hl with | [_], _ => rfl,
    g_laid_out := PySem.W.mg_of X G A_laid_out,
    a_kept := f_kept, fd_kept := _, F_kept := fun_mk (st := s_kept) L_kept C_kept K_kept,
    b_kept := (fun_mk (st := s_kept) L_kept C_kept K_kept).binds (ps := ["thing"]) fun _ _ _ _ _ _ us hl => match us, hl with | [_], _ => rfl,
    g_kept := PySem.W.mg_of X G A_kept,
    a_is_letter := f_is_letter, fd_is_letter := _, F_is_letter := fun_mk (st := s_is_letter) L_is_letter C_is_letter K_is_letter,
    b_is_letter := (fun_mk (st := s_is_letter) L_is_letter C_is_letter K_is_letter).binds (ps := ["thing"]) fun _ _ _ _ _ _ us hl => match us, hl with | [_], _ => rfl,
    g_is_letter := PySem.W.mg_of X G A_is_letter,
    a_is_lot := f_is_lot, fd_is_lot := _, F_is_lot := fun_mk (st := s_is_lot) L_is_lot C_is_lot K_is_lot,
    b_is_lot := (fun_mk (st := s_is_lot) L_is_lot C_is_lot K_is_lot).binds (ps := ["thing"]) fun _ _ _ _ _ _ us hl => match us, hl with | [_], _ => rfl,
    g_is_lot := PySem.W.mg_of X G A_is_lot,
    a_is_short_text := f_is_short_text, fd_is_short_text := _, F_is_short_text := fun_mk (st := s_is_short_text) L_is_short_text C_is_short_text K_is_short_text,
    b_is_short_text := (fun_mk (st := s_is_short_text) L_is_short_text C_is_short_text K_is_short_text).binds (ps := ["thing"]) fun _ _ _ _ _ _ us hl => match us, hl with | [_], _ => rfl,
    g_is_short_text := PySem.W.mg_of X G A_is_short_text,
    a_are_small := f_are_small, fd_are_small := _, F_are_small := fun_mk (st := s_are_small) L_are_small C_are_small K_are_small,
    b_are_small := (fun_mk (st := s_are_small) L_are_small C_are_small K_are_small).binds (ps := ["text"]) fun _ _ _ _ _ _ us hl => match us, hl with | [_], _ => rfl,
    g_are_small := PySem.W.mg_of X G A_are_small,
    a_is_name := f_is_name, fd_is_name := _, F_is_name := fun_mk (st := s_is_name) L_is_name C_is_name K_is_name,
    b_is_name := (fun_mk (st := s_is_name) L_is_name C_is_name K_is_name).binds (ps := ["thing"]) fun _ _ _ _ _ _ us hl => match us, hl with | [_], _ => rfl,
    g_is_name := PySem.W.mg_of X G A_is_name,
    a_is_lone := f_is_lone, fd_is_lone := _, F_is_lone := fun_mk (st := s_is_lone) L_is_lone C_is_lone K_is_lone,
    b_is_lone := (fun_mk (st := s_is_lone) L_is_lone C_is_lone K_is_lone).binds (ps := ["thing"]) fun _ _ _ _ _ _ us hl => match us, hl with | [_], _ => rfl,
    g_is_lone := PySem.W.mg_of X G A_is_lone,
    a_is_sign := f_is_sign, fd_is_sign := _, F_is_sign := fun_mk (st := s_is_sign) L_is_sign C_is_sign K_is_sign,
    b_is_sign := (fun_mk (st := s_is_sign) L_is_sign C_is_sign K_is_sign).binds (ps := ["thing"]) fun _ _ _ _ _ _ us hl => match us, hl with | [_], _ => rfl,
    g_is_sign := PySem.W.mg_of X G A_is_sign,
    a_is_many := f_is_many, fd_is_many := _, F_is_many := fun_mk (st := s_is_many) L_is_many C_is_many K_is_many,
    b_is_many := (fun_mk (st := s_is_many) L_is_many C_is_many K_is_many).binds (ps := ["thing"]) fun _ _ _ _ _ _ us hl => match us, hl with | [_], _ => rfl,
    g_is_many := PySem.W.mg_of X G A_is_many,
    a_is_pair_entry := f_is_pair_entry, fd_is_pair_entry := _, F_is_pair_entry := fun_mk (st := s_is_pair_entry) L_is_pair_entry C_is_pair_entry K_is_pair_entry,
    b_is_pair_entry := (fun_mk (st := s_is_pair_entry) L_is_pair_entry C_is_pair_entry K_is_pair_entry).binds (ps := ["word", "part"]) fun _ _ _ _ _ _ us hl => match us, hl with | [_, _], _ => rfl,
    g_is_pair_entry := PySem.W.mg_of X G A_is_pair_entry,
    a_is_entry := f_is_entry, fd_is_entry := _, F_is_entry := fun_mk (st := s_is_entry) L_is_entry C_is_entry K_is_entry,
    b_is_entry := (fun_mk (st := s_is_entry) L_is_entry C_is_entry K_is_entry).binds (ps := ["thing"]) fun _ _ _ _ _ _ us hl => match us, hl with | [_], _ => rfl,
    g_is_entry := PySem.W.mg_of X G A_is_entry,
    a_held_log := f_held_log, fd_held_log := _, F_held_log := fun_mk (st := s_held_log) L_held_log C_held_log K_held_log,
    b_held_log := (fun_mk (st := s_held_log) L_held_log C_held_log K_held_log).binds (ps := ["entries"]) fun _ _ _ _ _ _ us hl => match us, hl with | [_], _ => rfl,
    g_held_log := PySem.W.mg_of X G A_held_log,
    a_number_in := f_number_in, fd_number_in := _, F_number_in := fun_mk (st := s_number_in) L_number_in C_number_in K_number_in,
    b_number_in := (fun_mk (st := s_number_in) L_number_in C_number_in K_number_in).binds (ps := ["word"]) fun _ _ _ _ _ _ us hl => match us, hl with | [_], _ => rfl,
    g_number_in := PySem.W.mg_of X G A_number_in,
    a_entry_in := f_entry_in, fd_entry_in := _, F_entry_in := fun_mk (st := s_entry_in) L_entry_in C_entry_in K_entry_in,
    b_entry_in := (fun_mk (st := s_entry_in) L_entry_in C_entry_in K_entry_in).binds (ps := ["text"]) fun _ _ _ _ _ _ us hl => match us, hl with | [_], _ => rfl,
    g_entry_in := PySem.W.mg_of X G A_entry_in,
    a_read_entry := f_read_entry, fd_read_entry := _, F_read_entry := fun_mk (st := s_read_entry) L_read_entry C_read_entry K_read_entry,
    b_read_entry := (fun_mk (st := s_read_entry) L_read_entry C_read_entry K_read_entry).binds (ps := ["text"]) fun _ _ _ _ _ _ us hl => match us, hl with | [_], _ => rfl,
    g_read_entry := PySem.W.mg_of X G A_read_entry,
    a_read_log := f_read_log, fd_read_log := _, F_read_log := fun_mk (st := s_read_log) L_read_log C_read_log K_read_log,
    b_read_log := (fun_mk (st := s_read_log) L_read_log C_read_log K_read_log).binds (ps := ["text"]) fun _ _ _ _ _ _ us hl => match us, hl with | [_], _ => rfl,
    g_read_log := PySem.W.mg_of X G A_read_log,
    a_read_dealing := f_read_dealing, fd_read_dealing := _, F_read_dealing := fun_mk (st := s_read_dealing) L_read_dealing C_read_dealing K_read_dealing,
    b_read_dealing := (fun_mk (st := s_read_dealing) L_read_dealing C_read_dealing K_read_dealing).binds (ps := ["text"]) fun _ _ _ _ _ _ us hl => match us, hl with | [_], _ => rfl,
    g_read_dealing := PySem.W.mg_of X G A_read_dealing,
    a_Lany_entry := f_Lany_entry, fd_Lany_entry := _, F_Lany_entry := fun_mk (st := s_Lany_entry) L_Lany_entry C_Lany_entry K_Lany_entry,
    b_Lany_entry := (fun_mk (st := s_Lany_entry) L_Lany_entry C_Lany_entry K_Lany_entry).binds (ps := ["_law_pool_here", "_law_looks"]) fun _ _ _ _ _ _ us hl => match us, hl with | [_, _], _ => rfl,
    g_Lany_entry := PySem.W.mg_of X G A_Lany_entry,
    a_Lany_log := f_Lany_log, fd_Lany_log := _, F_Lany_log := fun_mk (st := s_Lany_log) L_Lany_log C_Lany_log K_Lany_log,
    b_Lany_log := (fun_mk (st := s_Lany_log) L_Lany_log C_Lany_log K_Lany_log).binds (ps := ["_law_pool_here", "_law_many", "_law_swaps"]) fun _ _ _ _ _ _ us hl => match us, hl with | [_, _, _], _ => rfl,
    g_Lany_log := PySem.W.mg_of X G A_Lany_log,
    a_Lis_name := f_Lis_name, fd_Lis_name := _, F_Lis_name := fun_mk (st := s_Lis_name) L_Lis_name C_Lis_name K_Lis_name,
    b_Lis_name := (fun_mk (st := s_Lis_name) L_Lis_name C_Lis_name K_Lis_name).binds (ps := ["_law_thing"]) fun _ _ _ _ _ _ us hl => match us, hl with | [_], _ => rfl,
    g_Lis_name := PySem.W.mg_of X G A_Lis_name,
    a_Lis_sign := f_Lis_sign, fd_Lis_sign := _, F_Lis_sign := fun_mk (st := s_Lis_sign) L_Lis_sign C_Lis_sign K_Lis_sign,
    b_Lis_sign := (fun_mk (st := s_Lis_sign) L_Lis_sign C_Lis_sign K_Lis_sign).binds (ps := ["_law_thing"]) fun _ _ _ _ _ _ us hl => match us, hl with | [_], _ => rfl,
    g_Lis_sign := PySem.W.mg_of X G A_Lis_sign,
    a_Lis_many := f_Lis_many, fd_Lis_many := _, F_Lis_many := fun_mk (st := s_Lis_many) L_Lis_many C_Lis_many K_Lis_many,
    b_Lis_many := (fun_mk (st := s_Lis_many) L_Lis_many C_Lis_many K_Lis_many).binds (ps := ["_law_thing"]) fun _ _ _ _ _ _ us hl => match us, hl with | [_], _ => rfl,
    g_Lis_many := PySem.W.mg_of X G A_Lis_many,
    a_Lis_entry := f_Lis_entry, fd_Lis_entry := _, F_Lis_entry := fun_mk (st := s_Lis_entry) L_Lis_entry C_Lis_entry K_Lis_entry,
    b_Lis_entry := (fun_mk (st := s_Lis_entry) L_Lis_entry C_Lis_entry K_Lis_entry).binds (ps := ["_law_thing"]) fun _ _ _ _ _ _ us hl => match us, hl with | [_], _ => rfl,
    g_Lis_entry := PySem.W.mg_of X G A_Lis_entry,
    a_Lbad_at := f_Lbad_at, fd_Lbad_at := _, F_Lbad_at := fun_mk (st := s_Lbad_at) L_Lbad_at C_Lbad_at K_Lbad_at,
    b_Lbad_at := (fun_mk (st := s_Lbad_at) L_Lbad_at C_Lbad_at K_Lbad_at).binds (ps := ["_law_entries"]) fun _ _ _ _ _ _ us hl => match us, hl with | [_], _ => rfl,
    g_Lbad_at := PySem.W.mg_of X G A_Lbad_at,
    a_Lspoilt_text := f_Lspoilt_text, fd_Lspoilt_text := _, F_Lspoilt_text := fun_mk (st := s_Lspoilt_text) L_Lspoilt_text C_Lspoilt_text K_Lspoilt_text,
    b_Lspoilt_text := (fun_mk (st := s_Lspoilt_text) L_Lspoilt_text C_Lspoilt_text K_Lspoilt_text).binds (ps := ["_law_pool_here", "_law_text"]) fun _ _ _ _ _ _ us hl => match us, hl with | [_, _], _ => rfl,
    g_Lspoilt_text := PySem.W.mg_of X G A_Lspoilt_text,
    a_Lpool := f_Lpool, fd_Lpool := _, F_Lpool := fun_mk (st := s_Lpool) L_Lpool C_Lpool K_Lpool,
    b_Lpool := (fun_mk (st := s_Lpool) L_Lpool C_Lpool K_Lpool).binds (ps := ["_law_script", "_law_k"]) fun _ _ _ _ _ _ us hl => match us, hl with | [_, _], _ => rfl,
    g_Lpool := PySem.W.mg_of X G A_Lpool,
    a_Ltake := f_Ltake, fd_Ltake := _, F_Ltake := fun_mk (st := s_Ltake) L_Ltake C_Ltake K_Ltake,
    b_Ltake := (fun_mk (st := s_Ltake) L_Ltake C_Ltake K_Ltake).binds (ps := ["_law_pool_here", "_law_wide"]) fun _ _ _ _ _ _ us hl => match us, hl with | [_, _], _ => rfl,
    g_Ltake := PySem.W.mg_of X G A_Ltake,
    a_Lwhole := f_Lwhole, fd_Lwhole := _, F_Lwhole := fun_mk (st := s_Lwhole) L_Lwhole C_Lwhole K_Lwhole,
    b_Lwhole := (fun_mk (st := s_Lwhole) L_Lwhole C_Lwhole K_Lwhole).binds (ps := ["_law_thing"]) fun _ _ _ _ _ _ us hl => match us, hl with | [_], _ => rfl,
    g_Lwhole := PySem.W.mg_of X G A_Lwhole,
    a_Lsame := f_Lsame, fd_Lsame := _, F_Lsame := fun_mk (st := s_Lsame) L_Lsame C_Lsame K_Lsame,
    b_Lsame := (fun_mk (st := s_Lsame) L_Lsame C_Lsame K_Lsame).binds (ps := ["_law_found", "_law_due_here"]) fun _ _ _ _ _ _ us hl => match us, hl with | [_, _], _ => rfl,
    g_Lsame := PySem.W.mg_of X G A_Lsame,
    a_Lname := f_Lname, fd_Lname := _, F_Lname := fun_mk (st := s_Lname) L_Lname C_Lname K_Lname,
    b_Lname := (fun_mk (st := s_Lname) L_Lname C_Lname K_Lname).binds (ps := ["_law_pool_here"]) fun _ _ _ _ _ _ us hl => match us, hl with | [_], _ => rfl,
    g_Lname := PySem.W.mg_of X G A_Lname,
    a_Lsign := f_Lsign, fd_Lsign := _, F_Lsign := fun_mk (st := s_Lsign) L_Lsign C_Lsign K_Lsign,
    b_Lsign := (fun_mk (st := s_Lsign) L_Lsign C_Lsign K_Lsign).binds (ps := ["_law_pool_here", "_law_lone"]) fun _ _ _ _ _ _ us hl => match us, hl with | [_, _], _ => rfl,
    g_Lsign := PySem.W.mg_of X G A_Lsign,
    a_Lentry_of := f_Lentry_of, fd_Lentry_of := _, F_Lentry_of := fun_mk (st := s_Lentry_of) L_Lentry_of C_Lentry_of K_Lentry_of,
    b_Lentry_of := (fun_mk (st := s_Lentry_of) L_Lentry_of C_Lentry_of K_Lentry_of).binds (ps := ["_law_text"]) fun _ _ _ _ _ _ us hl => match us, hl with | [_], _ => rfl,
    g_Lentry_of := PySem.W.mg_of X G A_Lentry_of,
    a_Ldue := f_Ldue, fd_Ldue := _, F_Ldue := fun_mk (st := s_Ldue) L_Ldue C_Ldue K_Ldue,
    b_Ldue := (fun_mk (st := s_Ldue) L_Ldue C_Ldue K_Ldue).binds (ps := ["_law_way", "_law_text"]) fun _ _ _ _ _ _ us hl => match us, hl with | [_, _], _ => rfl,
    g_Ldue := PySem.W.mg_of X G A_Ldue,
    a_Lread := f_Lread, fd_Lread := _, F_Lread := fun_mk (st := s_Lread) L_Lread C_Lread K_Lread,
    b_Lread := (fun_mk (st := s_Lread) L_Lread C_Lread K_Lread).binds (ps := ["_law_way", "_law_text"]) fun _ _ _ _ _ _ us hl => match us, hl with | [_, _], _ => rfl,
    g_Lread := PySem.W.mg_of X G A_Lread,
    a_Lsome_text := f_Lsome_text, fd_Lsome_text := _, F_Lsome_text := fun_mk (st := s_Lsome_text) L_Lsome_text C_Lsome_text K_Lsome_text,
    b_Lsome_text := (fun_mk (st := s_Lsome_text) L_Lsome_text C_Lsome_text K_Lsome_text).binds (ps := ["_law_pool_here"]) fun _ _ _ _ _ _ us hl => match us, hl with | [_], _ => rfl,
    g_Lsome_text := PySem.W.mg_of X G A_Lsome_text,
    a_Lbent := f_Lbent, fd_Lbent := _, F_Lbent := fun_mk (st := s_Lbent) L_Lbent C_Lbent K_Lbent,
    b_Lbent := (fun_mk (st := s_Lbent) L_Lbent C_Lbent K_Lbent).binds (ps := ["_law_pool_here", "_law_text"]) fun _ _ _ _ _ _ us hl => match us, hl with | [_, _], _ => rfl,
    g_Lbent := PySem.W.mg_of X G A_Lbent,
    a_law := fa, fd_law := _, F_law := fun_mk (st := s_law) L_law C_law K_law,
    b_law := (fun_mk (st := s_law) L_law C_law K_law).binds (ps := ["_law_script"]) fun _ _ _ _ _ _ us hl => match us, hl with | [_], _ => rfl,
    g_law := PySem.W.mg_of X G A_law,
    a_STEPS := f_STEPS, g_STEPS := PySem.W.mg_of X G A_STEPS,
    es_STEPS := _, n_STEPS := _, kd_STEPS := ⟨D_STEPS, Y_STEPS, lo_STEPS⟩,
    ns_STEPS := ns_keys D_STEPS ke_STEPS,
    v_STEPS_0 := ⟨_, ⟨_, _, _, D_STEPS, Y_STEPS, N_STEPS_0, rfl⟩, fun H => .inr ⟨_, _, _, V_STEPS_0, rfl, rfl, by show 2 ≤ sizeLine; decide, (.cons ⟨_, rfl⟩ (.cons ⟨_, rfl⟩ .nil))⟩⟩,
    v_STEPS_1 := ⟨_, ⟨_, _, _, D_STEPS, Y_STEPS, N_STEPS_1, rfl⟩, fun H => .inr ⟨_, _, _, V_STEPS_1, rfl, rfl, by show 2 ≤ sizeLine; decide, (.cons ⟨_, rfl⟩ (.cons ⟨_, rfl⟩ .nil))⟩⟩,
    v_STEPS_2 := ⟨_, ⟨_, _, _, D_STEPS, Y_STEPS, N_STEPS_2, rfl⟩, fun H => .inr ⟨_, _, _, V_STEPS_2, rfl, rfl, by show 2 ≤ sizeLine; decide, (.cons ⟨_, rfl⟩ (.cons ⟨_, rfl⟩ .nil))⟩⟩,
    v_STEPS_3 := ⟨_, ⟨_, _, _, D_STEPS, Y_STEPS, N_STEPS_3, rfl⟩, fun H => .inr ⟨_, _, _, V_STEPS_3, rfl, rfl, by show 2 ≤ sizeLine; decide, (.cons ⟨_, rfl⟩ (.cons ⟨_, rfl⟩ .nil))⟩⟩,
    g_SMALL := ⟨_, PySem.W.mg_of X G A_SMALL⟩,
    g_GREAT := ⟨_, PySem.W.mg_of X G A_GREAT⟩,
    g_LONGEST := ⟨_, PySem.W.mg_of X G A_LONGEST⟩,
    a_WORDS_ALONE := f_WORDS_ALONE, g_WORDS_ALONE := PySem.W.mg_of X G A_WORDS_ALONE,
    v_WORDS_ALONE := fun H => .inr ⟨_, _, _, V_WORDS_ALONE, rfl, rfl, by show 6 ≤ sizeLine; decide, (.cons ⟨_, rfl⟩ (.cons ⟨_, rfl⟩ (.cons ⟨_, rfl⟩ (.cons ⟨_, rfl⟩ (.cons ⟨_, rfl⟩ (.cons ⟨_, rfl⟩ .nil))))))⟩,
    a_WORDS_BEHIND_A_FACE := f_WORDS_BEHIND_A_FACE, g_WORDS_BEHIND_A_FACE := PySem.W.mg_of X G A_WORDS_BEHIND_A_FACE,
    v_WORDS_BEHIND_A_FACE := fun H => .inr ⟨_, _, _, V_WORDS_BEHIND_A_FACE, rfl, rfl, by show 6 ≤ sizeLine; decide, (.cons ⟨_, rfl⟩ (.cons ⟨_, rfl⟩ (.cons ⟨_, rfl⟩ (.cons ⟨_, rfl⟩ (.cons ⟨_, rfl⟩ (.cons ⟨_, rfl⟩ .nil))))))⟩,
    g_FIGURES := ⟨_, PySem.W.mg_of X G A_FIGURES⟩,
    g_MOST_FIGURES := ⟨_, PySem.W.mg_of X G A_MOST_FIGURES⟩,
    g_NONE_AT_ALL := ⟨_, PySem.W.mg_of X G A_NONE_AT_ALL⟩,
    a_NoLot := f_NoLot,
    g_NoLot := PySem.W.mg_of X G A_NoLot,
    a_BadLog := f_BadLog,
    g_BadLog := PySem.W.mg_of X G A_BadLog,
    a_NoDealing := f_NoDealing,
    g_NoDealing := PySem.W.mg_of X G A_NoDealing,
    a_NeedleError := f_NeedleError,
    g_NeedleError := PySem.W.mg_of X G A_NeedleError,
    a_NoText := f_NoText,
    g_NoText := PySem.W.mg_of X G A_NoText,
    kit_NoLot := kit_other ne_NoLot ic_NoLot ty_NoLot su_NoLot,
    kit_BadLog := kit_same,
    kit_NoDealing := kit_other ne_NoDealing ic_NoDealing ty_NoDealing su_NoDealing,
    kit_NeedleError := kit_other ne_NeedleError ic_NeedleError ty_NeedleError su_NeedleError,
    kit_NoText := kit_other ne_NoText ic_NoText ty_NoText su_NoText,
    kit_NoText_NoLot := kit_other ne_NoText_NoLot ic_NoLot ty_NoLot su_NoText_NoLot,
    kit_NoText_BadLog := kit_other ne_NoText_BadLog ic_BadLog ty_BadLog su_NoText_BadLog,
    kit_NoText_NoDealing := kit_other ne_NoText_NoDealing ic_NoDealing ty_NoDealing su_NoText_NoDealing,
    kit_NoText_NeedleError := kit_other ne_NoText_NeedleError ic_NeedleError ty_NeedleError su_NoText_NeedleError,
    kit_NoText_NoText := kit_same,
    m_ValueError := PySem.W.mg_none_of X G Z_ValueError,
    kit_VE := kit_ve su_VE,
    no_name := no_name,
    no_at := no_at,
    oex := ⟨⟨_, _, _, _, _, _, _, _, _, _, _, _, _, _, _, X_D, bm_ok⟩, sa_D, e_D, ty_BadLog, k_D⟩,
    a_init := f_init,
    fd_init := _,
    F_init := fun_mk (st := s_init) L_init C_init K_init,
    b_init := (fun_mk (st := s_init) L_init C_init K_init).binds (ps := ["self", "name", "at"]) fun _ _ _ _ _ _ us hl => match us, hl with | [_, _, _], _ => rfl,
    iC := I_D,
    tI := t_init,
    xf := ⟨ga_D, gg_D, e_D, h_D⟩,
    exc := ⟨ga_D, gg_D, e_D, h_D, ca_D, cn_D, ct_D, cm_D⟩,
    exm := PySem.W.exm_ref e_D h_D ty_BadLog su_BadLog,
    kit_VE_NoText := kit_ve su_VE_NoText,
    no_NoText_at := no_NoText_at,
    oex_NoText := ⟨⟨_, _, _, _, _, _, _, _, _, _, _, _, _, _, _, X_D_NoText, bm_ok_NoText⟩, sa_D_NoText, e_D_NoText, ty_NoText, k_D_NoText⟩,
    a_init_NoText := f_init_NoText,
    fd_init_NoText := _,
    F_init_NoText := fun_mk (st := s_init_NoText) L_init_NoText C_init_NoText K_init_NoText,
    b_init_NoText := (fun_mk (st := s_init_NoText) L_init_NoText C_init_NoText K_init_NoText).binds (ps := ["self", "at"]) fun _ _ _ _ _ _ us hl => match us, hl with | [_, _], _ => rfl,
    iC_NoText := I_D_NoText,
    tI_NoText := t_init_NoText,
    xf_NoText := ⟨ga_D_NoText, gg_D_NoText, e_D_NoText, h_D_NoText⟩,
    exc_NoText := ⟨ga_D_NoText, gg_D_NoText, e_D_NoText, h_D_NoText, ca_D_NoText, cn_D_NoText, ct_D_NoText, cm_D_NoText⟩,
    exm_NoText := PySem.W.exm_ref e_D_NoText h_D_NoText ty_NoText su_NoText_NoText,
    exn_BadLog_NoText := PySem.W.exm_ref e_D_NoText h_D_NoText ty_NoText su_NoText,
    exn_NoText_BadLog := PySem.W.exm_ref e_D h_D ty_BadLog su_NoText_BadLog,
    m_abs := PySem.W.mg_none_of X G Z_abs, m_all := PySem.W.mg_none_of X G Z_all, m_any := PySem.W.mg_none_of X G Z_any, m_bool := PySem.W.mg_none_of X G Z_bool, m_enumerate := PySem.W.mg_none_of X G Z_enumerate, m_int := PySem.W.mg_none_of X G Z_int, m_isinstance := PySem.W.mg_none_of X G Z_isinstance, m_len := PySem.W.mg_none_of X G Z_len, m_list := PySem.W.mg_none_of X G Z_list, m_range := PySem.W.mg_none_of X G Z_range, m_str := PySem.W.mg_none_of X G Z_str, m_tuple := PySem.W.mg_none_of X G Z_tuple, m_zip := PySem.W.mg_none_of X G Z_zip }
  exact ⟨T.fd_law, fun s v => .of_eq rfl, fun base _ _ => ok_law T⟩
end M
open PySem PySem.W PyProof.Rows
set_option maxHeartbeats 0 in
theorem PySem.Challenge.cw_wayneedle_k82_texts_nearly_right_holds : PySem.Challenge.rw_wayneedle_k82_texts_nearly_right.Holds := by
  w_on; o_law; k_head; (case hw => w_witness2)
  k_fill
  refine L2.walk_of (l := PySem.Challenge.rw_wayneedle_k82_texts_nearly_right) (n := 63) (k := 11) (x := "_law_script") (CX := fun _ => L2.CX0) (sp := fun w => M.spLaw _) rfl (by decide) rfl ⟨rfl, by decide, by decide⟩ (fun w h Y => PySem.W.kIn_of Y) ?F (fun _ _ a ns hl _ hS => ⟨a, ns, rfl, hS, hl, fun _ => rfl⟩) (fun _ _ _ _ _ h => h)
  case F =>
    intro w mg fa h KX G hmg
    refine' M.all_mk KX G hmg ?A_is_whole ?L_is_whole ?C_is_whole ?K_is_whole ?A_is_row ?L_is_row ?C_is_row ?K_is_row ?A_laid_out ?L_laid_out ?C_laid_out ?K_laid_out ?A_kept ?L_kept ?C_kept ?K_kept ?A_is_letter ?L_is_letter ?C_is_letter ?K_is_letter ?A_is_lot ?L_is_lot ?C_is_lot ?K_is_lot ?A_is_short_text ?L_is_short_text ?C_is_short_text ?K_is_short_text ?A_are_small ?L_are_small ?C_are_small ?K_are_small ?A_is_name ?L_is_name ?C_is_name ?K_is_name ?A_is_lone ?L_is_lone ?C_is_lone ?K_is_lone ?A_is_sign ?L_is_sign ?C_is_sign ?K_is_sign ?A_is_many ?L_is_many ?C_is_many ?K_is_many ?A_is_pair_entry ?L_is_pair_entry ?C_is_pair_entry ?K_is_pair_entry ?A_is_entry ?L_is_entry ?C_is_entry ?K_is_entry ?A_held_log ?L_held_log ?C_held_log ?K_held_log ?A_number_in ?L_number_in ?C_number_in ?K_number_in ?A_entry_in ?L_entry_in ?C_entry_in ?K_entry_in ?A_read_entry ?L_read_entry ?C_read_entry ?K_read_entry ?A_read_log ?L_read_log ?C_read_log ?K_read_log ?A_read_dealing ?L_read_dealing ?C_read_dealing ?K_read_dealing ?A_Lany_entry ?L_Lany_entry ?C_Lany_entry ?K_Lany_entry ?A_Lany_log ?L_Lany_log ?C_Lany_log ?K_Lany_log ?A_Lis_name ?L_Lis_name ?C_Lis_name ?K_Lis_name ?A_Lis_sign ?L_Lis_sign ?C_Lis_sign ?K_Lis_sign ?A_Lis_many ?L_Lis_many ?C_Lis_many ?K_Lis_many ?A_Lis_entry ?L_Lis_entry ?C_Lis_entry ?K_Lis_entry ?A_Lbad_at ?L_Lbad_at ?C_Lbad_at ?K_Lbad_at ?A_Lspoilt_text ?L_Lspoilt_text ?C_Lspoilt_text ?K_Lspoilt_text ?A_Lpool ?L_Lpool ?C_Lpool ?K_Lpool ?A_Ltake ?L_Ltake ?C_Ltake ?K_Ltake ?A_Lwhole ?L_Lwhole ?C_Lwhole ?K_Lwhole ?A_Lsame ?L_Lsame ?C_Lsame ?K_Lsame ?A_Lname ?L_Lname ?C_Lname ?K_Lname ?A_Lsign ?L_Lsign ?C_Lsign ?K_Lsign ?A_Lentry_of ?L_Lentry_of ?C_Lentry_of ?K_Lentry_of ?A_Ldue ?L_Ldue ?C_Ldue ?K_Ldue ?A_Lread ?L_Lread ?C_Lread ?K_Lread ?A_Lsome_text ?L_Lsome_text ?C_Lsome_text ?K_Lsome_text ?A_Lbent ?L_Lbent ?C_Lbent ?K_Lbent ?A_law ?L_law ?C_law ?K_law ?A_STEPS ?D_STEPS ?Y_STEPS ?lo_STEPS ?ke_STEPS ?N_STEPS_0 ?V_STEPS_0 ?N_STEPS_1 ?V_STEPS_1 ?N_STEPS_2 ?V_STEPS_2 ?N_STEPS_3 ?V_STEPS_3 ?A_SMALL ?A_GREAT ?A_LONGEST ?A_WORDS_ALONE ?V_WORDS_ALONE ?A_WORDS_BEHIND_A_FACE ?V_WORDS_BEHIND_A_FACE ?A_FIGURES ?A_MOST_FIGURES ?A_NONE_AT_ALL ?Z_abs ?Z_all ?Z_any ?Z_bool ?Z_enumerate ?Z_int ?Z_isinstance ?Z_len ?Z_list ?Z_range ?Z_str ?Z_tuple ?Z_zip ?A_NoLot ?A_BadLog ?A_NoDealing ?A_NeedleError ?A_NoText ?ic_NoLot ?ty_NoLot ?su_NoLot ?ne_NoLot ?ic_BadLog ?ty_BadLog ?su_BadLog ?ic_NoDealing ?ty_NoDealing ?su_NoDealing ?ne_NoDealing ?ic_NeedleError ?ty_NeedleError ?su_NeedleError ?ne_NeedleError ?ic_NoText ?ty_NoText ?su_NoText ?ne_NoText ?su_NoText_NoLot ?ne_NoText_NoLot ?su_NoText_BadLog ?ne_NoText_BadLog ?su_NoText_NoDealing ?ne_NoText_NoDealing ?su_NoText_NeedleError ?ne_NoText_NeedleError ?su_NoText_NoText ?Z_ValueError ?su_VE ?X_D ?bm_ok ?sa_D ?ga_D ?gg_D ?no_name ?no_at ?I_D ?t_init ?L_init ?C_init ?K_init ?k_D ?e_D ?h_D ?ca_D ?cn_D ?ct_D ?cm_D ?su_VE_NoText ?X_D_NoText ?bm_ok_NoText ?sa_D_NoText ?ga_D_NoText ?gg_D_NoText ?no_NoText_at ?I_D_NoText ?t_init_NoText ?L_init_NoText ?C_init_NoText ?K_init_NoText ?k_D_NoText ?e_D_NoText ?h_D_NoText ?ca_D_NoText ?cn_D_NoText ?ct_D_NoText ?cm_D_NoText
    (case A_is_whole => k_is); (case L_is_whole => k_is); (case C_is_whole => k_is); (case K_is_whole => k_is); (case A_is_row => k_is); (case L_is_row => k_is); (case C_is_row => k_is); (case K_is_row => k_is); (case A_laid_out => k_is); (case L_laid_out => k_is); (case C_laid_out => k_is); (case K_laid_out => k_is); (case A_kept => k_is); (case L_kept => k_is); (case C_kept => k_is); (case K_kept => k_is); (case A_is_letter => k_is); (case L_is_letter => k_is); (case C_is_letter => k_is); (case K_is_letter => k_is); (case A_is_lot => k_is); (case L_is_lot => k_is); (case C_is_lot => k_is); (case K_is_lot => k_is); (case A_is_short_text => k_is); (case L_is_short_text => k_is); (case C_is_short_text => k_is); (case K_is_short_text => k_is); (case A_are_small => k_is); (case L_are_small => k_is); (case C_are_small => k_is); (case K_are_small => k_is); (case A_is_name => k_is); (case L_is_name => k_is); (case C_is_name => k_is); (case K_is_name => k_is); (case A_is_lone => k_is); (case L_is_lone => k_is); (case C_is_lone => k_is); (case K_is_lone => k_is); (case A_is_sign => k_is); (case L_is_sign => k_is); (case C_is_sign => k_is); (case K_is_sign => k_is); (case A_is_many => k_is); (case L_is_many => k_is); (case C_is_many => k_is); (case K_is_many => k_is); (case A_is_pair_entry => k_is); (case L_is_pair_entry => k_is); (case C_is_pair_entry => k_is); (case K_is_pair_entry => k_is); (case A_is_entry => k_is); (case L_is_entry => k_is); (case C_is_entry => k_is); (case K_is_entry => k_is); (case A_held_log => k_is); (case L_held_log => k_is); (case C_held_log => k_is); (case K_held_log => k_is); (case A_number_in => k_is); (case L_number_in => k_is); (case C_number_in => k_is); (case K_number_in => k_is); (case A_entry_in => k_is); (case L_entry_in => k_is); (case C_entry_in => k_is); (case K_entry_in => k_is); (case A_read_entry => k_is); (case L_read_entry => k_is); (case C_read_entry => k_is); (case K_read_entry => k_is); (case A_read_log => k_is); (case L_read_log => k_is); (case C_read_log => k_is); (case K_read_log => k_is); (case A_read_dealing => k_is); (case L_read_dealing => k_is); (case C_read_dealing => k_is); (case K_read_dealing => k_is); (case A_Lany_entry => k_is); (case L_Lany_entry => k_is); (case C_Lany_entry => k_is); (case K_Lany_entry => k_is); (case A_Lany_log => k_is); (case L_Lany_log => k_is); (case C_Lany_log => k_is); (case K_Lany_log => k_is); (case A_Lis_name => k_is); (case L_Lis_name => k_is); (case C_Lis_name => k_is); (case K_Lis_name => k_is); (case A_Lis_sign => k_is); (case L_Lis_sign => k_is); (case C_Lis_sign => k_is); (case K_Lis_sign => k_is); (case A_Lis_many => k_is); (case L_Lis_many => k_is); (case C_Lis_many => k_is); (case K_Lis_many => k_is); (case A_Lis_entry => k_is); (case L_Lis_entry => k_is); (case C_Lis_entry => k_is); (case K_Lis_entry => k_is); (case A_Lbad_at => k_is); (case L_Lbad_at => k_is); (case C_Lbad_at => k_is); (case K_Lbad_at => k_is); (case A_Lspoilt_text => k_is); (case L_Lspoilt_text => k_is); (case C_Lspoilt_text => k_is); (case K_Lspoilt_text => k_is); (case A_Lpool => k_is); (case L_Lpool => k_is); (case C_Lpool => k_is); (case K_Lpool => k_is); (case A_Ltake => k_is); (case L_Ltake => k_is); (case C_Ltake => k_is); (case K_Ltake => k_is); (case A_Lwhole => k_is); (case L_Lwhole => k_is); (case C_Lwhole => k_is); (case K_Lwhole => k_is); (case A_Lsame => k_is); (case L_Lsame => k_is); (case C_Lsame => k_is); (case K_Lsame => k_is); (case A_Lname => k_is); (case L_Lname => k_is); (case C_Lname => k_is); (case K_Lname => k_is); (case A_Lsign => k_is); (case L_Lsign => k_is); (case C_Lsign => k_is); (case K_Lsign => k_is); (case A_Lentry_of => k_is); (case L_Lentry_of => k_is); (case C_Lentry_of => k_is); (case K_Lentry_of => k_is); (case A_Ldue => k_is); (case L_Ldue => k_is); (case C_Ldue => k_is); (case K_Ldue => k_is); (case A_Lread => k_is); (case L_Lread => k_is); (case C_Lread => k_is); (case K_Lread => k_is); (case A_Lsome_text => k_is); (case L_Lsome_text => k_is); (case C_Lsome_text => k_is); (case K_Lsome_text => k_is); (case A_Lbent => k_is); (case L_Lbent => k_is); (case C_Lbent => k_is); (case K_Lbent => k_is); (case A_law => k_is); (case L_law => k_is); (case C_law => k_is); (case K_law => k_is); (case A_STEPS => k_is); (case D_STEPS => k_is); (case Y_STEPS => k_keys); (case lo_STEPS => first | rfl | decide +kernel); (case ke_STEPS => exact ⟨⟨_, rfl⟩, ⟨_, rfl⟩, ⟨_, rfl⟩, ⟨_, rfl⟩, True.intro⟩); (case N_STEPS_0 => k_is); (case V_STEPS_0 => k_is); (case N_STEPS_1 => k_is); (case V_STEPS_1 => k_is); (case N_STEPS_2 => k_is); (case V_STEPS_2 => k_is); (case N_STEPS_3 => k_is); (case V_STEPS_3 => k_is); (case A_SMALL => k_is); (case A_GREAT => k_is); (case A_LONGEST => k_is); (case A_WORDS_ALONE => k_is); (case V_WORDS_ALONE => k_is); (case A_WORDS_BEHIND_A_FACE => k_is); (case V_WORDS_BEHIND_A_FACE => k_is); (case A_FIGURES => k_is); (case A_MOST_FIGURES => k_is); (case A_NONE_AT_ALL => k_is); (case Z_abs => k_is); (case Z_all => k_is); (case Z_any => k_is); (case Z_bool => k_is); (case Z_enumerate => k_is); (case Z_int => k_is); (case Z_isinstance => k_is); (case Z_len => k_is); (case Z_list => k_is); (case Z_range => k_is); (case Z_str => k_is); (case Z_tuple => k_is); (case Z_zip => k_is); (case A_NoLot => k_is); (case A_BadLog => k_is); (case A_NoDealing => k_is); (case A_NeedleError => k_is); (case A_NoText => k_is); (case ic_NoLot => k_is); (case ty_NoLot => k_is); (case su_NoLot => first | rfl | k_is); (case ne_NoLot => first | rfl | decide +kernel); (case ic_BadLog => k_is); (case ty_BadLog => k_is); (case su_BadLog => first | rfl | k_is); (case ic_NoDealing => k_is); (case ty_NoDealing => k_is); (case su_NoDealing => first | rfl | k_is); (case ne_NoDealing => first | rfl | decide +kernel); (case ic_NeedleError => k_is); (case ty_NeedleError => k_is); (case su_NeedleError => first | rfl | k_is); (case ne_NeedleError => first | rfl | decide +kernel); (case ic_NoText => k_is); (case ty_NoText => k_is); (case su_NoText => first | rfl | k_is); (case ne_NoText => first | rfl | decide +kernel); (case su_NoText_NoLot => first | rfl | k_is); (case ne_NoText_NoLot => first | rfl | decide +kernel); (case su_NoText_BadLog => first | rfl | k_is); (case ne_NoText_BadLog => first | rfl | decide +kernel); (case su_NoText_NoDealing => first | rfl | k_is); (case ne_NoText_NoDealing => first | rfl | decide +kernel); (case su_NoText_NeedleError => first | rfl | k_is); (case ne_NoText_NeedleError => first | rfl | decide +kernel); (case su_NoText_NoText => first | rfl | k_is); (case Z_ValueError => k_is); (case su_VE => k_is); (case X_D => k_is); (case bm_ok => decide +kernel); (case sa_D => k_is); (case ga_D => k_is); (case gg_D => k_is); (case no_name => k_is); (case no_at => k_is); (case I_D => k_is); (case t_init => k_is); (case L_init => k_is); (case C_init => k_is); (case K_init => k_is); (case k_D => k_is); (case e_D => k_is); (case h_D => k_is); (case ca_D => k_is); (case cn_D => k_is); (case ct_D => k_is); (case cm_D => k_is); (case su_VE_NoText => k_is); (case X_D_NoText => k_is); (case bm_ok_NoText => decide +kernel); (case sa_D_NoText => k_is); (case ga_D_NoText => k_is); (case gg_D_NoText => k_is); (case no_NoText_at => k_is); (case I_D_NoText => k_is); (case t_init_NoText => k_is); (case L_init_NoText => k_is); (case C_init_NoText => k_is); (case K_init_NoText => k_is); (case k_D_NoText => k_is); (case e_D_NoText => k_is); (case h_D_NoText => k_is); (case ca_D_NoText => k_is); (case cn_D_NoText => k_is); (case ct_D_NoText => k_is); (case cm_D_NoText => k_is)
