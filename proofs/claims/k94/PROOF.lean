import PyProof.Rows.All
import Wide.All
import OpenK.AllK
import Wide.FinOn
import HandS.ForMost
import HandS.ForExc
import HandS.HotCalls
import HandS.ExcIs
import HandS.ExcInit
import HandS.ExcField
import HandS.Defaults
import HandS.CallSlots
import HandS.Deep
import KE.GoesEnum
import KE.GoesNew
import HandS.IsInst
import HandS.Replace
import HandS.Wide
import HandS.NoneIn
import HandS.Walk
import HandS.Evl
import HandS.More
import HandS.Zip
import HandS.Conv
import KE.KxIndex
import HandS.ExcValue
import PySem.Challenge.RW_wayneedle_k94_refusals_made
import HandS.TupMul
import HandS.Star
import HandS.TupAny
import HandS.Flow
import HandS.RaiseMore
import HandS.ListItems
import HandS.SortRule
import HandS.Strs
import KE.GoesEnumKw
import HandS.Iter
import HandS.OwnEq
import HandS.FStr
import KE.DataCmp
import HandS.SuiteRaise
import HandS.RaiseFrom
import HandS.ExcInitHot
import PyProof.ListStr
set_option Elab.async false
set_option linter.all false
set_option maxRecDepth 100000
set_option maxHeartbeats 4000000

namespace ExcM
open PySem PySem.W PySem.Spec PySem.Calls PyProof.Rows L2
section
variable {prog : Program} {w : World} {A : Around} {E : Value → Shared → Prop} {s : Shared} {K : PySem.W.Frag} {x D : Addr} {ox od : Obj}
/-- the way of a test that fails -/
theorem not_so {α : Type} {b : Bool} {x y : Sem α} {Q : α → Shared → Prop} (hb : b = false) (q : wpAny (model prog w) A y Q E s) : wpAny (model prog w) A (if b = true then x else y) Q E s := by
  subst hb
  exact q
/-- the class of an own exception that has a dict, asked of its instance -/
theorem asked_class {Q : Option Value → Shared → Prop} (C : ExcC K D) (X : K.In s.heap) (I : PySem.W.InstAt s.heap x ox D (some od)) (h : Q (some (.ref D)) { s with toks := s.toks + 1 }) :
    wpAny (model prog w) A (getAttr? (.ref x) "__class__") Q E s := by
  have found := findObj_data (K := K) (C := D) (od := od) (name := "__class__") (by obtain ⟨q, hq, _⟩ := any_some C.hd; rw [hq]; rfl) C.ha C.hn C.ht
  obtain ⟨hp, g, d, t, os⟩ := s
  have lType := I.type (M := model prog w)
  have lGa := looks_findIn (M := model prog w) X C.hg
  have lGt := looks_findIn (M := model prog w) X C.hk
  have lFind := looks_find (M := model prog w) X I found
  have isB : Looks (model prog w) hp (isInstance (.ref x) (.type "BaseException")) true := lType.andThen (looks_subIn X C.hs)
  have n1 : (false && onTheHeap (Value.builtin "BaseException.__getattribute__")) = false := rfl
  have n2 : (onTheHeap (Value.ref D) && Value.builtin "BaseException.__getattribute__" == Value.builtin "object.__getattribute__") = false := by
    rw [show (Value.builtin "BaseException.__getattribute__" == Value.builtin "object.__getattribute__") = false by decide +kernel]; rfl
  unfold getAttr? getAttrBy?; unfold getAttrBy
  refine wpAny_bind (wpAny_mkText (wpAny_bind (wpAny_attempt (wpAny_holding (wpAny_bind (lType.at (wpAny_bind (lGa.at ?_))))))))
  refine not_so n2 ?_; unfold getAttrByItsOwn hookBefore
  refine wpAny_bind ?_; rw [if_pos (show onTheHeap (Value.ref D) = true from rfl)]
  refine lGt.at ?_; refine wpAny_bind (wpAny_attempt (wpAny_holding ?_))
  unfold callGetattribute; rw [n1, if_neg Bool.false_ne_true]; unfold boundAndCalled
  rw [PySem.F.excAttr_ValueError.ga.bind (.ref x)]; refine wpAny_bind (wpAny_pure ?_)
  refine show wpAny _ _ (call (.builtin "BaseException.__getattribute__") [.ref x, .str "__class__" t]) _ _ _ from wpAny_call (codeAny_call_builtin PySem.F.excAttr_ValueError.ga.plain PySem.F.entry_bexc_ga ?_)
  refine @check_slot (model prog w) _ _ ⟨hp, g, d, t + 1, os⟩ "BaseException.__getattribute__" "BaseException" "__getattribute__" (.ref x) [.str "__class__" t] [] _ (by decide +kernel) (by decide +kernel) isB (PySem.F.args_bexc_ga (.ref x) (.str "__class__" t)) ?_
  unfold Builtin.«object.__getattribute__»; refine wpAny_bind (wpAny_of_eq (a := ((Value.ref x : Value), [Value.str "__class__" t])) (by first | rfl | (simp only [slotArgs]; rfl)) ?_)
  refine wpAny_bind (wpAny_pure (wpAny_bind (lType.at (wpAny_bind (lFind.at ?_)))))
  refine show wpAny _ _ (holding [Value.builtin "object.__class__"] (call (.builtin "getset_descriptor.__get__") [.builtin "object.__class__", .ref x, .ref D]) >>= ret) _ _ _ from wpAny_bind (wpAny_holding (wpAny_call (class_get (s := ⟨hp, g, d, t + 1, os⟩) (ox := ox) (od := some od) X I C.hm ?_)))
  refine wpAny_pure ?_; show wpAny _ _ (handedOut (.ref D)) _ _ _; rw [handedOut_of (v := .ref D) rfl]
  first | exact wpAny_pure (wpAny_pure h) | exact wpAny_pure h | exact wpAny_pure (wpAny_bind (wpAny_pure (wpAny_pure h)))
theorem kit_exc (C : ExcC K D) : KitX K (.ref x) (.ref D) (fun h => PySem.W.InstAt h x ox D (some od)) where
  ty := fun _ _ _ I => I.type
  it := fun _ _ X _ => by
    obtain ⟨q, hq, _⟩ := any_some C.hd
    unfold clsIn at hq; split at hq
    · rename_i c1 d1 q1 l1 ho
      intro A1 Q1 E1 s1 k z; unfold isType loadHead
      exact wpAny_bind (wpAny_loadPart (k _ _ (X _ _ ho)) (wpAny_pure z))
    · cases hq
  ne := fun hh tp tdd tis tn tsl X htp => by
    obtain ⟨q, hq, _⟩ := any_some C.hd
    refine Bool.eq_false_iff.mpr fun z => ?_
    have e : D = tp := Value.ref.inj (beq_iff_eq.mp z)
    subst e; unfold clsIn at hq; split at hq
    · rename_i c1 d1 q1 l1 ho
      cases (X _ _ ho).symm.trans htp
    · cases hq
  ca := fun X I k => asked_class C X I k
end
section
variable {X : Cx}
/-- isinstance of a pinned exception of the class at D, its dict tracked -/
theorem call_isP {D a : Addr} {oe : Obj} {d : Addr} (C : ExcC X.K D) (hp : (a, oe) ∈ X.pn) (hz : Zc (.ref D) (some d) oe) (hf : ∃ vs, oe.data = .fields vs) :
    CallR X (.builtin "isinstance") (fun xs H Q => ∃ (c : V) (cv : Value) (b : Bool) (fs : List (Str × V)), xs = [.ref a, c] ∧ (∀ u, RelV c u → u = cv) ∧ H d = some (.xd fs) ∧ PySem.W.kitOne X.K (.ref D) cv = some b ∧ Q (.bl b) H) := by
  intro pins s σ H xs us Q I rel ask
  obtain ⟨c, cv, b, fs, rfl, hcv, hd, e, q1⟩ := ask
  obtain ⟨w1, w2, rfl, l1, l2⟩ := vals2 rel
  cases (l1 : w1 = Value.ref a)
  cases hcv _ l2
  have P1 := I.pin (a, oe) (List.mem_append_left _ hp)
  obtain ⟨vs, hv⟩ := hf
  obtain ⟨mA, hns, _⟩ := (show ObjOk X.prog X.w H s.heap d (.xd fs) from I.hok d _ hd)
  obtain ⟨od, ho, _⟩ := lookIn_ns hns
  have J : PySem.W.InstAt s.heap a oe D (some od) := ⟨P1.1, hz.1, by unfold PySem.W.notCls; rw [hv] <;> rfl, by rw [hz.2]; exact ho⟩
  exact PySem.W.kia_one (kit_exc C) I.kIn J e (fun z => nomatch z) fun tk => ⟨.bl b, H, I.tok tk, rfl, q1⟩
end
end ExcM
/-! ### own exceptions as values: made by places or by names, asked of their class, their fields read -/
namespace PySem.HandSPX
open PySem.Calls PySem.W PyProof.Rows
section
variable {w : World} {prog : Program} {A : Around} {E : Value → Shared → Prop} {R : Result → Shared → Prop} {h : Heap} {g : Array GenState} {d : Drawn} {t : Nat} {os : OsState}
variable {nm q : Str} {C N : Addr} {bs bm bmB : List Value} {hdct : Bool} {sn : List Str} {sub : List Value} {ab : Bool} {col : Option Bool} {dd : Option Addr} {k0 k1 k2 k3 k5 : Option Value} {B newId initId : String} {us : List Value} {kw : List (Str × Value)}
/-- BaseException.__new__ may be asked, with whatever keywords -/
theorem kw_check {M : Model} (F : ExcBaseFacts B newId initId bmB) (hT : ∀ X : String, bm.contains (.type X) = bmB.contains (.type X)) {Q : Unit → Shared → Prop} (hC : h.get? C = some (excClassObj nm q C N bs bm hdct sn sub ab col dd k0 k1 k2 k3 k5 newId)) (z : Q () ⟨h, g, d, t, os⟩) :
    wpAny M A (checkBuiltinCall newId ⟨.ref C :: us, kw⟩) Q E ⟨h, g, d, t, os⟩ := by
  have among : (Value.ref C :: bm).contains (.type B) = true := by rw [List.contains_cons, hT, F.hasB, Bool.or_true]
  have star := F.noStar; simp only [checkBuiltinCall, F.newKind, F.newSplit, F.newRow]
  repeat (first | refine wpAny_loadPart_at hC ?_ | (refine wpAny_isSubtype_exc hC ?_; rw [among]) | refine wpAny_staticBase_exc hC ?_ | refine wpAny_madeBy_exc hC ?_ | simp only [bne_self_eq_false, Bool.false_eq_true, if_false] | wp_step)
  exact z
theorem kw_new (F : ExcBaseFacts B newId initId bmB) (hT : ∀ X : String, bm.contains (.type X) = bmB.contains (.type X)) (hC : h.get? C = some (excClassObj nm q C N bs bm hdct sn sub ab col dd k0 k1 k2 k3 k5 newId)) (few : us.length ≤ sizeLine)
    (z : R (.ok (.ret (.ref (h.objs.size + 1)))) ⟨(h.push (W.kdv_tup us)).push (excO C h.objs.size), g, d, t, os⟩) : codeAny (model prog w) A (.builtin newId ⟨.ref C :: us, kw⟩) R ⟨h, g, d, t, os⟩ := by
  have ends := F.ends; have base := F.owner
  have b1 : (Value.ref C :: bm).contains (.type B) = true := by rw [List.contains_cons, hT, F.hasB, Bool.or_true]
  have b2 : (Value.ref C :: bm).contains (.type "AttributeError") = false := by rw [List.contains_cons, hT, F.noAttr]; rfl
  have b3 : (Value.ref C :: bm).contains (.type "NameError") = false := by rw [List.contains_cons, hT, F.noName]; rfl
  refine codeAny_builtinAt F.entry ?_; unfold Builtin.«BaseException.__new__»
  refine wpAt_bind (show wpAt _ _ _ (stack >>= _) _ _ _ from wpAt_bind (wpAt_stack fun p below => wpAt_of_wpAny ?_)); wp_walk
  refine wpAt_of_wpAny ?_; rw [base]
  repeat (first | with_reducible refine wpAny_madeHere_exc F.canon hC ?_ | with_reducible refine wpAny_loadPart_at hC ?_ | (with_reducible refine wpAny_isSubtype_exc hC ?_; first | rw [b1] | rw [b2] | rw [b3]) | wp_step)
  show R _ _; rw [Heap.size_push]; exact z
theorem kw_type (F : ExcBaseFacts B newId initId bmB) (hT : ∀ X : String, bm.contains (.type X) = bmB.contains (.type X)) {fI : Addr} {Q : Fin → Shared → Prop} (hC : h.get? C = some (excClassObj nm q C N bs bm hdct sn sub ab col dd k0 k1 k2 k3 k5 newId)) (few : us.length ≤ sizeLine)
    (hi : W.Looks (model prog w) h (typeLookup (.ref C) "__init__") (some (.ref fI))) (hb : ∀ self, W.Looks (model prog w) h (bindSpecial (.ref fI) self) (.ref fI, [self]))
    (z : codeAny (model prog w) A (.call (.ref fI) ⟨.ref (h.objs.size + 1) :: us, kw⟩) (fun r s' => match r with | .ok (.ret v) => v = .none ∧ Q (.done (.ret (.ref (h.objs.size + 1)))) s' | .ok _ => False | .error e => E e s') ⟨(h.push (W.kdv_tup us)).push (excO C h.objs.size), g, d, t, os⟩) :
    wpAny (model prog w) A (Builtin.«type.__call__» ⟨.ref C :: us, kw⟩) Q E ⟨h, g, d, t, os⟩ := by
  repeat (first | with_reducible refine wpAny_madeBy_exc hC ?_ | with_reducible refine wpAny_loadPart_at hC ?_ | wp_step)
  refine codeAny_call_builtin_code (Code.quiet_builtin _ F.quiet) (kw_check F hT hC (kw_new F hT hC few (show wpAny _ _ _ _ _ _ from ?_)))
  have old : ∀ b o, h.get? b = some o → ((h.push (W.kdv_tup us)).push (excO C h.objs.size)).get? b = some o := fun b o e => Heap.get?_push_of_some _ (Heap.get?_push_of_some _ e)
  have mine : ((h.push (W.kdv_tup us)).push (excO C h.objs.size)).get? (h.objs.size + 1) = some (excO C h.objs.size) := by heap_get
  have self : (Value.ref C :: bm).contains (.ref C) = true := by simp
  unfold isInstance
  repeat (first | with_reducible refine wpAny_loadPart_at mine ?_ | (with_reducible refine wpAny_isSubtype_exc (old _ _ hC) ?_; rw [self]) | wp_step)
  refine show wpAny _ _ (typeLookup (.ref C) _) _ _ _ from (hi.keeps old).at (wpAny_holding (wpAny_bind (((hb (.ref (h.objs.size + 1))).keeps old).at (wpAny_bind (wpAny_call (codeAny_mono z fun r s' y => ?_))))))
  match r, y with
  | .error _, y => exact y
  | .ok (.ret _), ⟨rfl, y⟩ => first | exact wpAny_pure (wpAny_pure y) | (wp_walk; exact y)
  | .ok .next, y => exact y.elim
  | .ok .brk, y => exact y.elim
  | .ok .cont, y => exact y.elim
theorem kw_call (F : ExcBaseFacts B newId initId bmB) (hT : ∀ X : String, bm.contains (.type X) = bmB.contains (.type X)) {fI : Addr} (hC : h.get? C = some (excClassObj nm q C N bs bm hdct sn sub ab col dd k0 k1 k2 k3 k5 newId)) (few : us.length ≤ sizeLine)
    (hi : W.Looks (model prog w) h (typeLookup (.ref C) "__init__") (some (.ref fI))) (hb : ∀ self, W.Looks (model prog w) h (bindSpecial (.ref fI) self) (.ref fI, [self]))
    (z : codeAny (model prog w) (A.under (.builtin "type.__call__" ⟨.ref C :: us, kw⟩)) (.call (.ref fI) ⟨.ref (h.objs.size + 1) :: us, kw⟩) (W.InitBack (h.objs.size + 1) R) ⟨(h.push (W.kdv_tup us)).push (excO C h.objs.size), g, d, t, os⟩) :
    codeAny (model prog w) A (.call (.ref C) ⟨us, kw⟩) R ⟨h, g, d, t, os⟩ := by
  have e1 := tc_lookup; have e2 := tc_bind (.ref C)
  have is : (⟨h, g, d, t, os⟩ : Shared).TypeIs (.ref C) "type" := ⟨_, hC, rfl⟩
  refine codeAny_of_tree (show wpAny _ _ (callAny (.ref C) _) _ _ _ from ?_)
  repeat (any_goals (first | with_reducible refine wpAny_loadPart_at hC ?_ | assumption | wp_step))
  refine ⟨rfl, codeAny_call_builtin_at (Code.quiet_builtin _ (by decide +kernel)) entry_typeCall (wpAny_check_type_call_sub hC (kw_type F hT hC few hi hb (codeAny_mono z fun r s' y => ?_)))⟩
  match r, y with
  | .error _, y => exact y
  | .ok (.ret _), y => exact y
  | .ok .next, y => exact y
  | .ok .brk, y => exact y
  | .ok .cont, y => exact y
end
end PySem.HandSPX
namespace ExcV
open PySem PySem.W PySem.Spec PyProof.Rows L2
/-- how C(..) binds what it is handed, the new exception ahead: the places us, the names with their values ws -/
structure Bd (K : PySem.W.Frag) (fd : FuncData) (ps : List Str) (n : Nat) (ks : List Str) (g : List Value → List Value → List Value) (gV : List V → List V → List V) : Prop where
  to : ∀ (s : Shared) (us ws : List Value), us.length = n → ws.length = ks.length → BindsTo s fd ⟨us, ks.zip ws⟩ (ps.zip (g us ws))
  rel : ∀ {as : List V} {bs : List Value} {cs : List V} {ds : List Value}, Vals as bs → Vals cs ds → Vals (gV as cs) (g bs ds)
section
variable {X : Cx} {CX : CXT} {x : Str} {C fI : Addr} {k n : Nat} {fd : FuncData} {ps ks : List Str} {sp : Sp} {g : List Value → List Value → List Value} {gV : List V → List V → List V} {e : Expr} {es : List Expr} {kws : List Keyword} {ta tk : TA} {p pos : Pos}
/-- C(..): a new exception object, told of in its own __init__, then the value -/
def Made (C : Addr) (sp : Sp) (gV : List V → List V → List V) (vs zs : List V) (H : Hp) (Q : VK) : Prop := vs.length ≤ 1000 ∧ ∀ a, H a = none → sp (gV (.ref a :: vs) zs) (upd H a (exo a C none)) (fun v H2 => v = .non ∧ Q (.ref a) H2) E0
theorem run_exc {pins : List (Addr × Obj)} {σ : L2.St} {H : Hp} {s : Shared} {Q : VK} {us ws : List Value} {vs zs : List V} (T : OexC X.K C) (iC : PySem.W.findIn X.K (.ref C) "__init__" = some (some (.ref fI))) (tI : PySem.W.typeIn X.K (.ref fI) = some (.type "function"))
    (F1 : FnOk X.prog X.w X.K X.mg X.base CX k fI fd ps sp) (room : Room (k + 1) X.A) (hb : Bd X.K fd ps (n + 1) ks g gV) (pass : Passes CX X E0) (I : Inv X pins σ H s) (r : Vals vs us) (rz : Vals zs ws) (l1 : vs.length = n) (l2 : zs.length = ks.length) (ask : Made C sp gV vs zs H Q) :
    wpAny (model X.prog X.w) X.A (call (Value.ref C) us (ks.zip ws)) (EP X pins σ Q) X.xe s := by
  obtain ⟨nm, q, N, bs, bm, sn, sub, ab, col, dd, k0, k1, k2, k3, k5, hC, hbm⟩ := T.cls
  obtain ⟨lv, q1⟩ := ask
  obtain ⟨hp, gs, dr, tk, os⟩ := s
  have room2 : hp.objs.size ≤ hp.objs.size + 1 := Nat.le_succ _
  have new := I.hok.fresh room2
  have told := q1 (hp.objs.size + 1) new
  have old : ∀ b o, hp.get? b = some o → ((hp.push (PySem.W.kdv_tup us)).push (PySem.HandSPX.excO C hp.objs.size)).get? b = some o := fun b o z => Heap.get?_push_of_some _ (Heap.get?_push_of_some _ z)
  have mine : ((hp.push (PySem.W.kdv_tup us)).push (PySem.HandSPX.excO C hp.objs.size)).get? (hp.objs.size + 1) = some (PySem.HandSPX.excO C hp.objs.size) := by heap_get
  have J : Inv X pins σ (upd H (hp.objs.size + 1) (exo (hp.objs.size + 1) C none)) ⟨(hp.push (PySem.W.kdv_tup us)).push (PySem.HandSPX.excO C hp.objs.size), gs, dr, tk, os⟩ := I.laid old room2 (exo_ok mine)
  have first : Vals (V.ref (hp.objs.size + 1) :: vs) (Value.ref (hp.objs.size + 1) :: us) := .cons rfl r
  have all := hb.rel first rz
  have many : us.length ≤ sizeLine := by
    rw [← Paired.length r, sizeLine_eq]; omega
  have bound := hb.to ⟨(hp.push (PySem.W.kdv_tup us)).push (PySem.HandSPX.excO C hp.objs.size), gs, dr, tk, os⟩ (Value.ref (hp.objs.size + 1) :: us) ws (congrArg Nat.succ (r.length.symm.trans l1)) (rz.length.symm.trans l2)
  refine wpAny_call (PySem.HandSPX.kw_call F.excBase_ValueError (fun Y => PySem.HandSPX.refsVE_contains Y bm hbm) (I.kIn _ _ hC) many (PySem.W.looks_findIn I.kIn iC) (fun self => PySem.W.bind_fn I.kIn self tI)
    (codeAny_mono (F1.run _ X.stack _ _ ⟨Value.ref (hp.objs.size + 1) :: us, ks.zip ws⟩ _ _ _ E0 (room.make C us (ks.zip ws)) (J.env0.make C us (ks.zip ws)) bound all told) fun r s' got => ?_))
  match r, got with
  | .error er, got => exact pass pins σ _ _ er s' J got
  | .ok (.ret u), got =>
    obtain ⟨v, H', J', rv, ev, q3⟩ := J.after got
    subst ev
    exact ⟨rv, .ref (hp.objs.size + 1), H', J', rfl, q3⟩
  | .ok .next, got => exact got.elim
  | .ok .brk, got => exact got.elim
  | .ok .cont, got => exact got.elim
/-- an exception made, as a value -/
def ExAt (H : Hp) (a C : Addr) (fs : List (Str × V)) : Prop := (∃ dx, H a = some (exo a C (some dx)) ∧ H dx = some (exd dx fs)) ∨ (fs = [] ∧ H a = some (ExO (.ref C) a))
theorem ExAt.same {H H' : Hp} {a C : Addr} {fs : List (Str × V)} (h : ExAt H a C fs) (s : ∀ b o, H b = some o → H' b = some o) : ExAt H' a C fs := by
  rcases h with ⟨dx, h1, h2⟩ | ⟨e, h⟩
  · exact .inl ⟨dx, s _ _ h1, s _ _ h2⟩
  · exact .inr ⟨e, s _ _ h⟩
/-- isinstance(e, c) -/
def rIsV (K : PySem.W.Frag) : List V → Hp → VK → Prop := fun xs H Q => ∃ (a C : Addr) (fs : List (Str × V)) (c : V) (cv : Value) (b : Bool), xs = [.ref a, c] ∧ ExAt H a C fs ∧ ExcC K C ∧ (∀ u, RelV c u → u = cv) ∧ PySem.W.kitOne K (.ref C) cv = some b ∧ Q (.bl b) H
theorem call_isV : CallR X (.builtin "isinstance") (rIsV X.K) := by
  intro pins s σ H xs us Q I rel ask
  obtain ⟨a, C, fs, c, cv, b, rfl, ex, own, hcv, kit, q⟩ := ask
  obtain ⟨w1, w2, rfl, l1, l2⟩ := vals2 rel
  cases (l1 : w1 = Value.ref a)
  cases hcv _ l2
  rcases ex with ⟨dx, h1, h2⟩ | ⟨_, h1⟩
  · obtain ⟨t1, ho⟩ := exo_at I.hok h1
    obtain ⟨mA, hns, _⟩ := exd_at I.hok h2
    obtain ⟨od, hd, _⟩ := lookIn_ns (hns.at fun o z => z)
    have J : PySem.W.InstAt s.heap a _ C (some od) := ⟨ho, rfl, rfl, hd⟩
    exact PySem.W.kia_one (ExcM.kit_exc own) I.kIn J kit (fun z => nomatch z) fun tk => ⟨.bl b, H, I.tok tk, rfl, q⟩
  · obtain ⟨⟨oe, vs, ho, ⟨z1, z2⟩, hd, _⟩, _, _⟩ := I.hok a _ h1
    obtain ⟨oc, dc, da, sl⟩ := oe
    dsimp only at z1 z2 hd
    subst z1 z2 hd
    have J : PySem.W.InstAt s.heap a _ C none := ⟨ho, rfl, rfl, trivial⟩
    exact PySem.W.kia_one (PySem.W.handS_kitx_exc own.hg own.hk own.hs own.hd own.ha own.hn own.ht own.hm) I.kIn J kit (fun z => nomatch z) fun tk => ⟨.bl b, H, I.tok tk, rfl, q⟩
/-- e.f -/
def tXv (K : PySem.W.Frag) (f : Str) (te : TE) : TE := fun σ H Q => te σ H fun x H1 => ∃ (a C dx : Addr) (fs : List (Str × V)) (v : V), x = .ref a ∧ H1 a = some (exo a C (some dx)) ∧ H1 dx = some (exd dx fs) ∧ XfC K C ∧ PySem.W.findIn K (.ref C) f = some none ∧ fs.lookup f = some v ∧ Q v H1
theorem pe_xv {te : TE} {f : Str} (he : PE X e te) (hb : attributeBase e f X.env (eval e X.env) = eval e X.env := by rfl) : PE X (.Attribute e f pos) (tXv X.K f te) where
  run := fun pins s σ H Q I h => attr_of hb (thn (he.run pins s σ H _ I h) fun u s1 ⟨x, H1, I1, rx, a, C, dx, fs, v, ex, h1, h2, T, no, l, q⟩ => by
    subst ex
    obtain rfl : u = Value.ref a := rx
    obtain ⟨t1, ho⟩ := exo_at I1.hok h1
    obtain ⟨mA, hns, rel⟩ := exd_at I1.hok h2
    obtain ⟨od, hd, look⟩ := lookIn_ns (hns.at fun o z => z)
    obtain ⟨u, hu, ru⟩ := RelO.some_of (v := v) (o := mA f) (by rw [← l]; exact rel f)
    have J : PySem.W.InstAt s1.heap a _ C (some od) := ⟨ho, rfl, rfl, hd⟩
    exact HandSPX.exc_get I1.kIn J T.ga T.gg T.exC (PySem.W.findObj_own T.hdC no rfl (by rw [look, hu])) (handed_of ru) ⟨v, H1, I1.tok _, ru, q⟩)
def tMkV (C : Addr) (n : Nat) (sp : Sp) (gV : List V → List V → List V) (ta : TA) : TE := fun σ H Q => ta σ H fun vs H1 => vs.length = n ∧ Made C sp gV vs [] H1 Q
def tMkK (C : Addr) (m : Nat) (sp : Sp) (gV : List V → List V → List V) (tk : TA) : TE := fun σ H Q => tk σ H fun zs H1 => zs.length = m ∧ Made C sp gV [] zs H1 Q
/-- C(e, ..) -/
theorem pe_excV (T : OexC X.K C) (iC : PySem.W.findIn X.K (.ref C) "__init__" = some (some (.ref fI))) (tI : PySem.W.typeIn X.K (.ref fI) = some (.type "function")) (F1 : FnOk X.prog X.w X.K X.mg X.base CX k fI fd ps sp) (room : Room (k + 1) X.A) (hb : Bd X.K fd ps (n + 1) [] g gV)
    (pass : Passes CX X E0) (hg : Gl X x) (hm : X.mg x = some (.ref C)) (ha : PA X (e :: es) ta) (hdb : (x == ("__debug__" : Str)) = false := by decide) (he : starEach (e :: es) X.env = (false, eval e X.env) :: starEach es X.env := by rfl)
    (hpl : (backTo pos (starEach es X.env)).any (·.1) = false := by rfl) : PE X (.Call (.Name x p) (e :: es) [] pos) (tMkV C n sp gV ta) where
  run := fun pins s σ H Q I h => wpAny_Call_Name_kw (ld_glob I hg hm (PySem.W.callWith_K (h₀ := X.base) I.ok.mod.kin T.kC (thn (ha.run pos pins s σ H _ I h) fun us s1 ⟨vs, H1, I1, r1, l1, q1⟩ => ⟨I1.kIn, run_exc (ks := []) (ws := []) T iC tI F1 room hb pass I1 r1 .nil l1 rfl q1⟩) he hpl) hdb)
/-- C(k = e, ..) -/
theorem pe_excK (T : OexC X.K C) (iC : PySem.W.findIn X.K (.ref C) "__init__" = some (some (.ref fI))) (tI : PySem.W.typeIn X.K (.ref fI) = some (.type "function")) (F1 : FnOk X.prog X.w X.K X.mg X.base CX k fI fd ps sp) (room : Room (k + 1) X.A) (hb : Bd X.K fd ps 1 ks g gV)
    (pass : Passes CX X E0) (hg : Gl X x) (hm : X.mg x = some (.ref C)) (hkw : PK X kws tk) (hall : (backToKw pos (keywordEach kws X.env)).all (·.1.isSome) = true := by rfl) (hks : (backToKw pos (keywordEach kws X.env)).filterMap (·.1) = ks := by rfl)
    (hdb : (x == ("__debug__" : Str)) = false := by decide) (hpl : ((backTo pos (starEach [] X.env)).any (·.1) || (backToKw pos (keywordEach kws X.env)).any (·.1.isNone)) = false := by rfl) : PE X (.Call (.Name x p) [] kws pos) (tMkK C ks.length sp gV tk) where
  run := fun pins s σ H Q I h => wpAny_Call_Name_kw (ld_glob I hg hm (PySem.W.callWith_KW0 (h₀ := X.base) I.ok.mod.kin T.kC hall (thn (hkw.run pos pins s σ H _ I h) fun ws s1 ⟨zs, H1, I1, rz, l1, q1⟩ => ⟨I1.kIn, by rw [hks]; exact run_exc (us := []) T iC tI F1 room hb pass I1 .nil rz rfl l1 q1⟩) hpl) hdb)
end
end ExcV
namespace ExcV
open PySem PySem.W PySem.Spec PyProof.Rows L2
/-- names handed in in the order of the fields, and the other way about -/
def gA {α : Type} (us ws : List α) : List α := us ++ ws
def gS {α : Type} (us ws : List α) : List α := us ++ ws.reverse
theorem vals_rev : ∀ {vs : List V} {us : List Value}, Vals vs us → Vals vs.reverse us.reverse
  | _, _, .nil => .nil
  | _, _, .cons r rs => by
    simp only [List.reverse_cons]
    exact (vals_rev rs).append (.cons r .nil)
theorem gA_rel {vs : List V} {us : List Value} {zs : List V} {ws : List Value} (r : Vals vs us) (z : Vals zs ws) : Vals (gA vs zs) (gA us ws) := r.append z
theorem gS_rel {vs : List V} {us : List Value} {zs : List V} {ws : List Value} (r : Vals vs us) (z : Vals zs ws) : Vals (gS vs zs) (gS us ws) := r.append (vals_rev z)
/-- each of these classes is beneath N and ValueError, and beneath no other of these -/
structure Tab (K : PySem.W.Frag) (fs : List Addr) (N : Addr) : Prop where
  kit : ∀ (i j : Nat) (a b : Addr), fs[i]? = some a → fs[j]? = some b → PySem.W.kitOne K (.ref a) (.ref b) = some (decide (i = j))
  needle : ∀ (i : Nat) (a : Addr), fs[i]? = some a → PySem.W.kitOne K (.ref a) (.ref N) = some true
  value : ∀ (i : Nat) (a : Addr), fs[i]? = some a → PySem.W.kitOne K (.ref a) (.type "ValueError") = some true
def rowB (fs : List Addr) (N : Addr) (i : Nat) (a : Addr) (c : ClassData) : Bool :=
  !c.mro.isEmpty && (c.mro.contains (.ref N) && (c.mro.contains (.type "ValueError") && (!(a == N) && fs.zipIdx.all fun q => decide (i = q.2) || (!(a == q.1) && !c.mro.contains (.ref q.1)))))
def tabB (fs : List Addr) (cs : List ClassData) (N : Addr) : Bool := (fs.zip cs).zipIdx.all fun q => rowB fs N q.2 q.1.1 q.1.2
theorem sub_cls {K : PySem.W.Frag} {a : Addr} {c : ClassData} {v : Value} (h : PySem.W.clsIn K a = some c) (ne : c.mro.isEmpty = false) : PySem.W.subIn K (.ref a) v = some (c.mro.contains v) := by
  show (PySem.W.clsIn K a).bind _ = _
  rw [h]
  show (if c.mro.isEmpty = true then none else some (c.mro.contains v)) = _
  rw [ne, if_neg Bool.false_ne_true]
theorem kit_far {K : PySem.W.Frag} {a b : Addr} {c d : ClassData} (hc : PySem.W.clsIn K a = some c) (hd : PySem.W.clsIn K b = some d) (ne : c.mro.isEmpty = false) (ty : PySem.W.typeIn K (.ref b) = some (.type "type")) (n : (a == b) = false) : PySem.W.kitOne K (.ref a) (.ref b) = some (c.mro.contains (.ref b)) := by
  unfold PySem.W.kitOne
  rw [show (Value.ref a == Value.ref b) = false from beq_eq_false_iff_ne.mpr fun z => beq_eq_false_iff_ne.mp n (Value.ref.inj z), if_neg Bool.false_ne_true]
  show (if ((PySem.W.clsIn K b).isSome && PySem.W.typeIn K (.ref b) == some (.type "type")) = true then PySem.W.subIn K (.ref a) (.ref b) else none) = _
  rw [hd, ty, if_pos (by simp), sub_cls hc ne]
theorem at_of {α β : Type} {R : α → β → Prop} : ∀ {as : List α} {bs : List β}, Paired R as bs → ∀ {i : Nat} {a : α}, as[i]? = some a → ∃ b, bs[i]? = some b ∧ R a b
  | _, _, .cons r _, 0, _, h => by cases h; exact ⟨_, rfl, r⟩
  | _, _, .cons _ rs, i + 1, _, h => at_of rs (i := i) h
theorem tab_mk {K : PySem.W.Frag} {fs : List Addr} {cs : List ClassData} {N : Addr} {cN : ClassData} (h : tabB fs cs N = true) (hc : Paired (fun f c => PySem.W.clsIn K f = some c) fs cs) (ht : Paired (fun f (_ : ClassData) => PySem.W.typeIn K (.ref f) = some (.type "type")) fs cs)
    (hN : PySem.W.clsIn K N = some cN ∧ PySem.W.typeIn K (.ref N) = some (.type "type")) : Tab K fs N := by
  have row : ∀ (i : Nat) (a : Addr), fs[i]? = some a → ∃ c, PySem.W.clsIn K a = some c ∧ PySem.W.typeIn K (.ref a) = some (.type "type") ∧ rowB fs N i a c = true := fun i a ha => by
    obtain ⟨c, e, r⟩ := at_of hc ha
    obtain ⟨_, _, t⟩ := at_of ht ha
    refine ⟨c, r, t, List.all_eq_true.mp h ((a, c), i) ?_⟩
    refine List.mem_iff_getElem?.mpr ⟨i, ?_⟩
    rw [List.getElem?_zipIdx, show (fs.zip cs)[i]? = some (a, c) from List.getElem?_zip_eq_some.mpr ⟨ha, e⟩]
    simp
  have parts : ∀ {i : Nat} {a : Addr} {c : ClassData}, rowB fs N i a c = true → c.mro.isEmpty = false ∧ c.mro.contains (.ref N) = true ∧ c.mro.contains (.type "ValueError") = true ∧ (a == N) = false ∧ ∀ (j : Nat) (b : Addr), fs[j]? = some b → i = j ∨ ((a == b) = false ∧ c.mro.contains (.ref b) = false) := fun {i a c} z => by
    obtain ⟨z1, z⟩ := Bool.and_eq_true_iff.mp z
    obtain ⟨z2, z⟩ := Bool.and_eq_true_iff.mp z
    obtain ⟨z3, z⟩ := Bool.and_eq_true_iff.mp z
    obtain ⟨z4, z⟩ := Bool.and_eq_true_iff.mp z
    refine ⟨by simpa using z1, z2, z3, by simpa using z4, fun j b hb => ?_⟩
    have z5 := List.all_eq_true.mp z (b, j) (List.mem_iff_getElem?.mpr ⟨j, by rw [List.getElem?_zipIdx, hb]; simp⟩)
    rcases Bool.or_eq_true_iff.mp z5 with y | y
    · exact .inl (of_decide_eq_true y)
    · obtain ⟨y1, y2⟩ := Bool.and_eq_true_iff.mp y
      exact .inr ⟨by simpa using y1, by simpa using y2⟩
  refine ⟨fun i j a b ha hb => ?_, fun i a ha => ?_, fun i a ha => ?_⟩
  · obtain ⟨c, hc1, _, r⟩ := row i a ha
    obtain ⟨d, hd1, td, _⟩ := row j b hb
    obtain ⟨p1, _, _, _, p5⟩ := parts r
    by_cases e : i = j
    · subst e
      cases ha.symm.trans hb
      rw [decide_eq_true rfl]
      unfold PySem.W.kitOne
      exact if_pos (beq_self_eq_true _)
    · rcases p5 j b hb with z | ⟨z1, z2⟩
      · exact absurd z e
      · rw [kit_far hc1 hd1 p1 td z1, z2, decide_eq_false e]
  · obtain ⟨c, hc1, _, r⟩ := row i a ha
    obtain ⟨p1, p2, _, p4, _⟩ := parts r
    rw [kit_far hc1 hN.1 p1 hN.2 p4, p2]
  · obtain ⟨c, hc1, _, r⟩ := row i a ha
    obtain ⟨p1, _, p3, _, _⟩ := parts r
    unfold PySem.W.kitOne
    rw [show (Value.ref a == Value.type "ValueError") = false from rfl, if_neg Bool.false_ne_true]
    show (if PySem.W.kitMeta "ValueError" = true then PySem.W.subIn K (.ref a) (.type "ValueError") else none) = some true
    rw [if_pos (by decide +kernel), sub_cls hc1 p1, p3]
end ExcV
/-! ### iterators that hand out pairs (enumerate, zip), over what is a list or a tuple: one turn for all of them, by GoesN -/
namespace PairW
open PySem PySem.Spec PyProof.Rows L2
/-- a sequence and an iterator over it: a tuple (true) or a list (false) -/
def SqB (t : Bool) (h : Heap) (l : Addr) (xs : Array Value) : Prop := match t with
  | true => h.IsTuple l xs
  | false => h.IsList l xs
def ItB (t : Bool) (h : Heap) (it l : Addr) (k : Nat) : Prop := match t with
  | true => h.IsTupleIter it l k
  | false => h.IsListIter it l k
def SqV (t : Bool) (K : PySem.W.Frag) (H : Hp) (a : Addr) (xs : List V) : Prop := match t with
  | true => SqT K H a xs
  | false => SqL K H a xs
def itO (t : Bool) (l : Addr) : Obj := match t with
  | true => { cls := .type "tuple_iterator", data := .fields #[.ref l, .int 0 0] }
  | false => { cls := .type "list_iterator", data := .fields #[.ref l, .int 0 0] }
theorem SqB.lt {t : Bool} {h : Heap} {a : Addr} {xs : Array Value} (q : SqB t h a xs) : a < h.objs.size := by
  cases t <;> (obtain ⟨o, e, _⟩ := q; exact Heap.lt_size e)
theorem ItB.at {t : Bool} {h h' : Heap} {a l : Addr} {k : Nat} (x : ItB t h a l k) (e : ∀ o, h.get? a = some o → h'.get? a = some o) : ItB t h' a l k := by
  cases t
  · exact Heap.IsListIter.at x e
  · exact Heap.IsTupleIter.at x e
theorem ItB.obj {t : Bool} {h : Heap} {a l : Addr} {k : Nat} (x : ItB t h a l k) : ∃ o, h.get? a = some o ∧ ∀ v, o.data ≠ .cell v := by
  cases t <;> (obtain ⟨o, e, _, d⟩ := x; exact ⟨o, e, fun v q => by rw [d] at q; cases q⟩)
theorem itO_is {t : Bool} {h : Heap} {a l : Addr} (e : h.get? a = some (itO t l)) : ItB t h a l 0 := by
  cases t <;> exact ⟨_, e, rfl, rfl⟩
theorem sqv_get {X : Cx} {pins : List (Addr × Obj)} {σ : L2.St} {H : Hp} {s : Shared} {t : Bool} {a : Addr} {xs : List V} (I : Inv X pins σ H s) (h : SqV t X.K H a xs) : ∃ its, Vals xs its ∧ SqB t s.heap a its.toArray := by
  cases t
  · obtain ⟨its, rv, there, _⟩ := I.list h
    exact ⟨its, rv, there.isList⟩
  · obtain ⟨its, rv, there, _⟩ := I.tuple h
    exact ⟨its, rv, there⟩
theorem sqv_inj {X : Cx} {pins : List (Addr × Obj)} {σ : L2.St} {H : Hp} {s : Shared} {t : Bool} {a : Addr} {xs ys : List V} (I : Inv X pins σ H s) (h : SqV t X.K H a xs) (h' : SqV t X.K H a ys) : xs = ys := by
  cases t
  · exact I.list_inj h h'
  · exact I.tuple_inj h h'
theorem draws {prog : Program} {w : World} {A : Around} (hh : A.handled = none) (t : Bool) {it l : Addr} (ne : l ≠ it) (items : Array Value) :
    Draws prog w A it [it, l] items.size (fun i v => items[i]? = some v) (fun i h => ItB t h it l i ∧ SqB t h l items) := by
  cases t
  · exact Draws.list hh it l ne items
  · exact Draws.tuple hh it l ne items
theorem begins (t : Bool) (l : Addr) (items : Array Value) : Begins (.ref l) (itO t l) (fun h => SqB t h l items) := by
  cases t
  · exact begins_list l items
  · exact begins_tuple l items
/-- an iterator stands, made of new cells alone -/
theorem begun {X : Cx} {pins : List (Addr × Obj)} {σ : L2.St} {H : Hp} {s : Shared} {tg : Expr} {J : It} {fp : List Addr} {it : Addr} {tn : Nat → Heap → Prop} {R : It → Hp → Prop} {h' : Heap} (I : Inv X pins σ H s)
    (old : ∀ b o, s.heap.get? b = some o → h'.get? b = some o) (T : Turn X.prog X.w X.K tg J fp it tn) (st : tn 0 h') (new : ∀ b ∈ fp, s.heap.objs.size ≤ b) (q : R J H) : PIE X pins σ tg R (.ref it) { s with heap := h' } :=
  ⟨it, fp, tn, J, H, rfl, I.kept (t' := s.toks) old, T, st, fun b m => I.fpOk (new b m) (I.hok.fresh (new b m)), q⟩
/-- pairs: when there is one, of what it is, when there is none any more -/
structure Prs where
  go : Nat → Hp → Prop
  are : Nat → Hp → V → V → Prop
  stop : Nat → Hp → Prop
def Prs.it (p : Prs) : It where
  go := p.go
  yld := fun i H v H' => ∃ T x y, v = .ref T ∧ H T = none ∧ H' = upd H T (.tup [x, y]) ∧ p.are i H x y
  stop := p.stop
/-- what the iterator that stands at i over the sequences as they are now does: the library's GoesN, with what its pairs are -/
def Does (P : Program) (w : World) (X : Cx) (tg : Expr) (p : Prs) (it : Addr) (wr : List Addr) (tn : Nat → Heap → Prop) (i : Nat) (H : Hp) (s : Shared) : Prop :=
  ∃ (n : Nat) (fp : List Addr) (Y : Nat → Heap → Value → Heap → Prop) (St : Nat → Heap → Prop), GoesN P w X.A tg it fp wr n Y St ∧ St i s.heap ∧ (∀ h, St (i + 1) h → tn (i + 1) h) ∧ (p.stop i H → i = n) ∧
    (p.go i H → i < n ∧ ∀ h0 v h, Y i h0 v h → ∃ T a b x y, v = .ref T ∧ h0.objs.size ≤ T ∧ h.IsTuple T #[a, b] ∧ RelV x a ∧ RelV y b ∧ p.are i H x y)
theorem turn_prs {P : Program} {w : World} {K : PySem.W.Frag} {tg : Expr} {it : Addr} {fp wr : List Addr} {tn : Nat → Heap → Prop} (p : Prs) (mine : it ∈ fp) (hwr : ∀ b ∈ wr, b ∈ fp)
    (obj : ∀ i h, tn i h → ∀ b ∈ fp, ∃ o, h.get? b = some o ∧ ∀ v, o.data ≠ .cell v) (keep : ∀ i h h', tn i h → (∀ b ∈ fp, ∀ o, h.get? b = some o → h'.get? b = some o) → tn i h')
    (self : ∀ (A : Around) (i : Nat) (s : Shared) (Q : Value → Shared → Prop) (E : Value → Shared → Prop), tn i s.heap → Q (.ref it) s → wpAny (model P w) A (pyIter (.ref it)) Q E s)
    (does : ∀ (X : Cx), X.prog = P → X.w = w → X.K = K → X.calm = true → ∀ i pins s σ H, Inv X pins σ H s → tn i s.heap → (p.go i H ∨ p.stop i H) → Does P w X tg p it wr tn i H s) : Turn P w K tg p.it fp it tn where
  mem := mine
  obj := obj
  keep := keep
  self := self
  item := fun X e1 e2 e3 calm i pins s σ H E I free st more => by
    obtain ⟨n, fp', Y, St, W, here, next, _, far⟩ := does X e1 e2 e3 calm i pins s σ H I st (.inl more)
    obtain ⟨lt, pair⟩ := far more
    refine W.goes i s (fun u s2 => ∃ x H', Inv X pins σ H' s2 ∧ RelV x u ∧ p.it.yld i H x H' ∧ tn (i + 1) s2.heap ∧ ∀ b ∈ fp, H' b = none) E lt here fun v h' tk told st' old _ => ?_
    obtain ⟨T, a, b, x, y, rfl, new, tup, ra, rb, are⟩ := pair _ _ _ told
    refine ⟨.ref T, upd H T (.tup [x, y]), I.turnedNew (ch := wr) old (fun c m => free c (hwr c m)) new ⟨by show 2 ≤ sizeLine; decide, [a, b], .cons ra (.cons rb .nil), tup⟩, rfl, ⟨T, x, y, rfl, I.hok.fresh new, rfl, are⟩, next _ st', fun c m => ?_⟩
    obtain ⟨o, ho, _⟩ := obj i _ st c m
    exact (upd_ne (Nat.ne_of_lt (Nat.lt_of_lt_of_le (Heap.lt_size ho) new))).trans (free c m).1
  done := fun X e1 e2 e3 calm i pins s σ H E I free st none => by
    obtain ⟨n, fp', Y, St, W, here, _, last, _⟩ := does X e1 e2 e3 calm i pins s σ H I st (.inr none)
    rw [last none] at here
    exact W.stops s (fun s1 => Inv X pins σ H s1) E here fun h' tk old _ => I.turnedL (ch := wr) old fun c m => free c (hwr c m)
/-! enumerate, from k0 on -/
def PrE (t : Bool) (k0 : Int) (K : PySem.W.Frag) (a : Addr) : Prs where
  go := fun i H => ∃ xs : List V, SqV t K H a xs ∧ i < xs.length
  are := fun i H x y => x = .int (k0 + (i : Nat)) ∧ ∀ xs, SqV t K H a xs → xs[i]? = some y
  stop := fun i H => ∃ xs : List V, SqV t K H a xs ∧ i = xs.length
def TnE (t : Bool) (k0 : Int) (a e it : Addr) (i : Nat) (h : Heap) : Prop := (∃ old, IsEnum h e it (k0 + (i : Int)) old) ∧ ItB t h it a i
theorem turn_e {P : Program} {w : World} {K : PySem.W.Frag} {elts : List Expr} {kk : Nat} {tpos : Pos} {t : Bool} {k0 : Int} {a e it : Addr} (hai : a ≠ it) (hae : a ≠ e) (hei : e ≠ it) :
    Turn P w K (.Tuple elts kk tpos) (PrE t k0 K a).it [e, it] e (TnE t k0 a e it) := by
  refine turn_prs (wr := [e, it]) _ (by simp) (fun _ m => m) (fun i h st b m => ?_) (fun i h h' st k => ?_) (fun A i s Q E st q => ?_) fun X e1 e2 e3 calm i pins s σ H I st told => ?_
  · obtain ⟨⟨_, he⟩, hi⟩ := st
    rcases List.mem_cons.mp m with z | m
    · exact z ▸ ⟨_, he, fun _ q => nomatch q⟩
    · exact List.mem_singleton.mp m ▸ hi.obj
  · obtain ⟨⟨old, he⟩, hi⟩ := st
    exact ⟨⟨old, k e (by simp) _ he⟩, hi.at fun o => k it (by simp) o⟩
  · exact wpAny_pyIter_enum st.1.choose_spec q
  · subst e1 e2 e3
    obtain ⟨xs, hq⟩ : ∃ xs : List V, SqV t X.K H a xs := told.elim (fun ⟨xs, q, _⟩ => ⟨xs, q⟩) fun ⟨xs, q, _⟩ => ⟨xs, q⟩
    obtain ⟨its, rv, there⟩ := sqv_get I hq
    have many : xs.length = its.toArray.size := by rw [List.size_toArray]; exact rv.length
    have D := draws (prog := X.prog) (w := X.w) (A := X.A.in1) (I.ok.hd calm) t hai its.toArray
    refine ⟨_, _, _, _, GoesN.enumFrom k0 D e hei (by simp; exact ⟨hei, Ne.symm hae⟩) (by simp), ⟨st.1, st.2, there⟩, fun h q => ⟨q.1, q.2.1⟩, fun ⟨ys, q, n⟩ => by rw [n, sqv_inj I q hq, many], fun ⟨ys, q, n⟩ => ⟨?_, ?_⟩⟩
    · rw [sqv_inj I q hq, many] at n; exact n
    · rintro h0 v h ⟨T, tk, u, rfl, new, hu, tup⟩
      have ix : i < xs.length := by rw [← sqv_inj I q hq]; exact n
      obtain ⟨u', hu', ru⟩ := rv.get (List.getElem?_eq_getElem ix)
      have same : u' = u := Option.some.inj (hu'.symm.trans (by simpa using hu))
      exact ⟨T, _, u, .int (k0 + (i : Nat)), xs[i], rfl, new, tup, ⟨tk, rfl⟩, same ▸ ru, rfl, fun zs hz => by rw [sqv_inj I hz hq]; exact List.getElem?_eq_getElem ix⟩
theorem walk_e {t : Bool} {k0 : Int} {K : PySem.W.Frag} {a : Addr} {xs : List V} : Walk (PrE t k0 K a).it xs.length (fun H => SqV t K H a xs) (YPair (fun i => some (.int (k0 + (i : Nat)))) (fun i => xs[i]?)) where
  goes := fun i H lt q => ⟨xs, q, lt⟩
  stops := fun H q => ⟨xs, q, rfl⟩
  yields := fun i H v H' _ q ⟨T, x, y, e1, e2, e3, e4, e5⟩ => ⟨T, x, y, e1, e2, e3, by rw [e4], e5 xs q⟩
/-- the two cells of an enumerate that was made just now -/
theorem pie_e {X : Cx} {pins : List (Addr × Obj)} {σ : L2.St} {H : Hp} {s : Shared} {elts : List Expr} {kk : Nat} {tpos : Pos} {t : Bool} {k0 : Int} {a : Addr} {xs : List V} {R : It → Hp → Prop} {h' : Heap} (I : Inv X pins σ H s) (hq : SqV t X.K H a xs)
    (he : IsEnum h' (s.heap.objs.size + 1) s.heap.objs.size k0 .none) (hi : h'.get? s.heap.objs.size = some (itO t a)) (old : ∀ b o, s.heap.get? b = some o → h'.get? b = some o) (q : R (PrE t k0 X.K a).it H) :
    wpAny (model X.prog X.w) X.A (pyIter (.ref (s.heap.objs.size + 1))) (PIE X pins σ (.Tuple elts kk tpos) R) X.xe { s with heap := h' } := by
  obtain ⟨its, _, there⟩ := sqv_get I hq
  have lt := there.lt
  refine wpAny_pyIter_enum he (begun I old (turn_e (t := t) (k0 := k0) (Nat.ne_of_lt lt) (Nat.ne_of_lt (Nat.lt_succ_of_lt lt)) (Nat.succ_ne_self _)) ⟨⟨.none, ?_⟩, itO_is hi⟩ (fun b m => ?_) q)
  · show IsEnum h' _ _ (k0 + 0) _
    rw [Int.add_zero]; exact he
  · rcases List.mem_cons.mp m with z | m
    · exact z ▸ Nat.le_succ _
    · exact Nat.le_of_eq (List.mem_singleton.mp m).symm
/-- enumerate of one thing, whatever its iterator is -/
theorem made_one {v : Value} {o : Obj} {G : Heap → Prop} (B : Begins v o G) : Meets (Builtin.«enumerate.__new__» ⟨[.type "enumerate", v], []⟩) (fun _ R s => G s.heap ∧
    R (.ok (.ret (.ref (s.heap.push o).objs.size))) { s with heap := (s.heap.push o).push { cls := .type "enumerate", data := .fields #[.none, .bool false, .ref s.heap.objs.size, rawInt 0, .none, .none] } }) := .of_wp fun prog w A R ⟨hp, g, dr, tk, os⟩ ⟨stands, ends⟩ => by
  have known := sub_enumerate
  have first : ∀ {A' : Around} {E Q : Value → Shared → Prop}, Q (.ref hp.objs.size) ⟨hp.push o, g, dr, tk, os⟩ → wpAny (model prog w) A' (pyIter v) Q E ⟨hp, g, dr, tk, os⟩ := fun q => B.iter prog w _ _ ⟨hp, g, dr, tk, os⟩ _ stands q
  wp_walk using first
  refine wpAny_stack_any (fun _ => wpAny_pure ?_)
  split
  next c _ _ _ _ _ => cases (c == Value.type "enumerate") <;> (wp_walk using first; exact ⟨_, rfl, ends⟩)
  next => wp_walk using first; exact ⟨_, rfl, ends⟩
theorem call_one {prog : Program} {w : World} {A : Around} {E : Value → Shared → Prop} {s : Shared} {v : Value} {o : Obj} {G : Heap → Prop} {Q : Value → Shared → Prop} (B : Begins v o G) (stands : G s.heap)
    (then_ : ∀ h', IsEnum h' (s.heap.objs.size + 1) s.heap.objs.size 0 .none → h'.get? s.heap.objs.size = some o → (∀ b o, s.heap.get? b = some o → h'.get? b = some o) → Q (.ref (s.heap.objs.size + 1)) { s with heap := h' }) :
    wpAny (model prog w) A (call (.type "enumerate") [v]) Q E s := by
  refine callType_new F.called_enumerate (by decide) (F.typeCall_enumerate_1 _) (F.newCall_enumerate_1 _) (fun obj => F.args_object_init_2 obj _) F.entry_enumerate_new (made_one B) ⟨stands, ?_⟩
  have n1 := Heap.size_push s.heap o
  have last : IsEnum ((s.heap.push o).push { cls := .type "enumerate", data := .fields #[.none, .bool false, .ref s.heap.objs.size, rawInt 0, .none, .none] }) (s.heap.objs.size + 1) s.heap.objs.size 0 .none := n1 ▸ Heap.get?_push_size (s.heap.push o) rfl
  refine n1.symm ▸ ⟨⟨_, last, rfl⟩, then_ _ last ?_ fun b u z => ?_⟩
  · exact Heap.get?_push_of_some _ (Heap.get?_push_size _ B.free)
  · exact Heap.get?_push_of_some _ (Heap.get?_push_of_some _ z)
end PairW
namespace EnumT
open PySem PySem.Spec PyProof.Rows L2 PairW
theorem walk_enumT {K : PySem.W.Frag} {a : Addr} {xs : List V} : Walk (PrE true 0 K a).it xs.length (fun H => SqT K H a xs) (YPair (fun i => some (.int (i : Nat))) (fun i => xs[i]?)) := by
  have w := walk_e (t := true) (k0 := 0) (K := K) (a := a) (xs := xs)
  simp only [Int.zero_add] at w
  exact w
def iEnumT (K : PySem.W.Frag) (ta : TA) : TI := fun σ H R => ta σ H fun vs H1 => ∃ a xs, vs = [.ref a] ∧ SqT K H1 a xs ∧ R (PrE true 0 K a).it H1
theorem pi_enumT {X : Cx} {e : Expr} {ta : TA} {p pos tpos : Pos} {elts : List Expr} {kk : Nat} (hg : Gl X "enumerate") (hm : X.mg "enumerate" = none) (ha : PA X [e] ta)
    (hs : starEach [e] X.env = [(false, eval e X.env)] := by rfl) : PI X (.Tuple elts kk tpos) (.Call (.Name "enumerate" p) [e] [] pos) (iEnumT X.K ta) where
  run := fun pins s σ H R I h => Call_ (ld_blt I hg hm boot_enumerate (PyProof.Rows.callWith_type1 (thn (ha.run pos pins s σ H _ I h) fun us s1 ⟨vs, H1, I1, rv, a, xs, e, hq, q⟩ => by
    subst e
    obtain ⟨_, rfl, rfl⟩ := vals1 rv
    obtain ⟨its, _, there⟩ := sqv_get (t := true) I1 hq
    exact call_one (begins true a its.toArray) there fun h' he hi old => pie_e (t := true) (xs := xs) I1 hq he hi old q) hs rfl))
end EnumT
/-! ### walks over what is a list or a tuple -/
namespace SeqW
open PySem PySem.Spec PySem.Calls PyProof.Rows L2
/-- what stands at a is as it was -/
def Keeps (a : Addr) (H H' : Hp) : Prop := ∀ o, H a = some o → H' a = some o
theorem keeps_v {t : Bool} {K : PySem.W.Frag} {H H' : Hp} {a : Addr} {xs : List V} (k : Keeps a H H') (h : PairW.SqV t K H a xs) : PairW.SqV t K H' a xs := by
  cases t <;> exact h.elim (fun h => .inl (h.elim (fun h => .inl (k _ h)) fun ⟨o, h⟩ => .inr ⟨o, k _ h⟩)) .inr
theorem keeps_l {K : PySem.W.Frag} {H H' : Hp} {a : Addr} {xs : List V} (k : Keeps a H H') (h : SqL K H a xs) : SqL K H' a xs := keeps_v (t := false) k h
theorem keeps_t {K : PySem.W.Frag} {H H' : Hp} {a : Addr} {xs : List V} (k : Keeps a H H') (h : SqT K H a xs) : SqT K H' a xs := keeps_v (t := true) k h
theorem keeps_same {a : Addr} {H H' : Hp} (s : Same H H') : Keeps a H H' := fun o h => s a o h
theorem ix_seqK {X : Cx} {K : PySem.W.Frag} (h : X.K = K) : IxR X (rIx K) := by
  subst h
  exact ix_seq
def iSeq (K : PySem.W.Frag) (tl : TE) : TI := fun σ H R => tl σ H fun x H1 => ∃ a xs, x = .ref a ∧ ∃ Kp : Hp → Prop, ((∀ H', Kp H' → SqL K H' a xs) ∨ (∀ H', Kp H' → SqT K H' a xs)) ∧ Kp H1 ∧ ∀ (J : It) (G : Hp → Prop), Walk J xs.length G (YAt xs) → (∀ H', Kp H' → G H') → R J H1
theorem pi_seq {X : Cx} {tg l : Expr} {tl : TE} (hl : PE X l tl) : PI X tg l (iSeq X.K tl) where
  run := fun pins s σ H R I h => thn (hl.run pins s σ H _ I h) fun v s1 ⟨x, H1, I1, rv, a, xs, e, Kp, side, kp, q⟩ => by
    subst e
    cases rv
    have new : ∀ b ∈ [s1.heap.objs.size], s1.heap.objs.size ≤ b := fun b m => Nat.le_of_eq (List.mem_singleton.mp m).symm
    rcases side with is | is
    · obtain ⟨its, _, there, _⟩ := I1.list (is _ kp)
      exact wpAny_pyIter_list there.isList (PairW.begun I1 (fun _ _ => Heap.get?_push_of_some _) (turn_list a _) ⟨_, Heap.get?_push_size _ rfl, rfl, rfl⟩ new (q _ _ walk_list is))
    · obtain ⟨its, _, there, _⟩ := I1.tuple (is _ kp)
      exact wpAny_pyIter_tuple (show s1.heap.IsTuple a its.toArray from there) (PairW.begun I1 (fun _ _ => Heap.get?_push_of_some _) (turn_tuple a _) ⟨_, Heap.get?_push_size _ rfl, rfl, rfl⟩ new (q _ _ walk_tup is))
def iEnumA (K : PySem.W.Frag) (ta : TA) : TI := fun σ H R => ta σ H fun vs H1 => ∃ a xs, vs = [.ref a] ∧ ∃ Kp : Hp → Prop, ((∀ H', Kp H' → SqL K H' a xs) ∨ (∀ H', Kp H' → SqT K H' a xs)) ∧ Kp H1 ∧ ∀ (J : It) (G : Hp → Prop), Walk J xs.length G (YPair (fun i => some (.int (i : Nat))) (fun i => xs[i]?)) → (∀ H', Kp H' → G H') → R J H1
theorem pi_enumA {X : Cx} {e : Expr} {ta : TA} {p pos tpos : Pos} {elts : List Expr} {kk : Nat} (hg : Gl X "enumerate") (hm : X.mg "enumerate" = none) (ha : PA X [e] ta)
    (hs : starEach [e] X.env = [(false, eval e X.env)] := by rfl) : PI X (.Tuple elts kk tpos) (.Call (.Name "enumerate" p) [e] [] pos) (iEnumA X.K ta) where
  run := fun pins s σ H R I h => Call_ (ld_blt I hg hm boot_enumerate (PyProof.Rows.callWith_type1 (thn (ha.run pos pins s σ H _ I h) fun us s1 ⟨vs, H1, I1, rv, a, xs, e, Kp, side, kp, q⟩ => by
    subst e
    obtain ⟨_, rfl, rfl⟩ := vals1 rv
    have go : ∀ t : Bool, (∀ H', Kp H' → PairW.SqV t X.K H' a xs) → wpAny (model X.prog X.w) X.A (call (.type "enumerate") [.ref a]) (fun v s2 => wpAny (model X.prog X.w) X.A (pyIter v) (PIE X pins σ (.Tuple elts kk tpos) R) X.xe s2) X.xe s1 := fun t is => by
      obtain ⟨its, _, there⟩ := PairW.sqv_get I1 (is _ kp)
      have w := PairW.walk_e (t := t) (k0 := 0) (K := X.K) (a := a) (xs := xs)
      simp only [Int.zero_add] at w
      exact PairW.call_one (PairW.begins t a its.toArray) there fun h' he hi old => PairW.pie_e (xs := xs) I1 (is _ kp) he hi old (q _ _ w is)
    exact side.elim (go false) (go true)) hs rfl))
end SeqW
/-! ### names unpacked from a list or a tuple; comprehensions with two fors -/
namespace SeqW
open PySem PySem.Spec PySem.Calls PyProof.Rows L2
def gAny (K : PySem.W.Frag) (n : Nat) (t : TGs) : TG := fun v σ H Q => ∃ a xs, v = .ref a ∧ (SqL K H a xs ∨ SqT K H a xs) ∧ xs.length = n ∧ t xs σ H Q
theorem pg_any {X : Cx} {pos : Pos} {es : List Expr} {k : Nat} {t : TGs} {n : Nat} (hc : X.calm = true) (h : PGs X es t)
    (hn : (assignEach es X.env).length = n := by rfl) (hst : (assignEach es X.env).findIdx? (·.1) = none := by rfl) : PG X (.Tuple es k pos) (gAny X.K n t) := by
  refine ⟨fun pins s σ H v u Q I r hw => ?_⟩
  obtain ⟨a, xs, e1, hq, hl, hw⟩ := hw
  rcases hq with hq | hq
  · exact (pg_unl hc h hn hst).run pins s σ H v u Q I r ⟨a, xs, e1, hq, hl, hw⟩
  · exact (pg_tup hc h hn hst).run pins s σ H v u Q I r ⟨a, xs, e1, hq, hl, hw⟩
section
variable {J J1 : It} {n n1 : Nat} {G G1 : Hp → Prop} {Y Y1 : Nat → Hp → V → Hp → Prop} {g g1 : TG} {tt tt1 : TT} {te : TE} {wi1 : TI} {vs vs1 : List Nat} {σ σ2 : L2.St} {H1 H4 : Hp} {D : Addr} {Qd : Hp → Prop}
theorem lc2_it (w : Walk J n G Y) (Pv : Nat → Hp → Prop) (h0 : Pv 0 (upd H1 D (.lst []))) (hG : ∀ i H, i ≤ n → Pv i H → G H)
    (hs : ∀ i x H H', i < n → Pv i H → Y i H x H' → g x (wipe σ vs) H' fun σ2 H2 => wipe σ2 vs = wipe σ vs ∧ tt σ2 H2 fun b H3 =>
      if b = true then wi1 σ2 H3 fun J1 H4 => ∃ W1 : Nat → Nat → Hp → Prop, (∃ m, W1 0 m H4) ∧ ∀ j k H, W1 j k H →
      (J1.stop j H ∧ Pv (i + 1) H) ∨ (J1.go j H ∧ ∃ Nx1 : Hp → Prop, (∀ H', Nx1 H' → ∃ k', k' < k ∧ W1 (j + 1) k' H') ∧ ∀ x H', J1.yld j H x H' → g1 x (wipe σ2 vs1) H' fun σ3 H5 => wipe σ3 vs1 = wipe σ2 vs1 ∧ tt1 σ3 H5 fun b H6 =>
        if b = true then te σ3 H6 fun y H7 => ∃ acc, H7 D = some (.lst acc) ∧ acc.length < sizeLine ∧ Nx1 (upd H7 D (.lst (acc ++ [y]))) else Nx1 H6)
      else Pv (i + 1) H3) (hd : ∀ H, Pv n H → Qd H) :
    ∃ W : Nat → Nat → Hp → Prop, (∃ m, W 0 m (upd H1 D (.lst []))) ∧ ∀ i m H, W i m H →
  (J.stop i H ∧ Qd H) ∨ (J.go i H ∧ ∃ Nx : Hp → Prop, (∀ H', Nx H' → ∃ m', m' < m ∧ W (i + 1) m' H') ∧ ∀ x H', J.yld i H x H' → g x (wipe σ vs) H' fun σ2 H2 => wipe σ2 vs = wipe σ vs ∧ tt σ2 H2 fun b H3 =>
    if b = true then wi1 σ2 H3 fun J1 H4 => ∃ W1 : Nat → Nat → Hp → Prop, (∃ m, W1 0 m H4) ∧ ∀ j k H, W1 j k H →
      (J1.stop j H ∧ Nx H) ∨ (J1.go j H ∧ ∃ Nx1 : Hp → Prop, (∀ H', Nx1 H' → ∃ k', k' < k ∧ W1 (j + 1) k' H') ∧ ∀ x H', J1.yld j H x H' → g1 x (wipe σ2 vs1) H' fun σ3 H5 => wipe σ3 vs1 = wipe σ2 vs1 ∧ tt1 σ3 H5 fun b H6 =>
        if b = true then te σ3 H6 fun y H7 => ∃ acc, H7 D = some (.lst acc) ∧ acc.length < sizeLine ∧ Nx1 (upd H7 D (.lst (acc ++ [y]))) else Nx1 H6)
    else Nx H3) := by
  refine ⟨fun i m H => m = n - i ∧ i ≤ n ∧ Pv i H, ⟨n, by simp, Nat.zero_le _, h0⟩, ?_⟩
  rintro i m H ⟨rfl, hi, p⟩
  have q := hG i H hi p
  by_cases hlt : i < n
  · exact .inr ⟨w.goes i H hlt q, Pv (i + 1), fun H' p' => ⟨n - (i + 1), by omega, rfl, hlt, p'⟩, fun x H' y => hs i x H H' hlt p (w.yields i H x H' hlt q y)⟩
  · have e : i = n := by omega
    subst e
    exact .inl ⟨w.stops H q, hd H p⟩
theorem lc2_in (w : Walk J1 n1 G1 Y1) (Pv : Nat → Hp → Prop) (h0 : Pv 0 H4) (hG : ∀ i H, i ≤ n1 → Pv i H → G1 H)
    (hs : ∀ j x H H', j < n1 → Pv j H → Y1 j H x H' → g1 x (wipe σ2 vs1) H' fun σ3 H5 => wipe σ3 vs1 = wipe σ2 vs1 ∧ tt1 σ3 H5 fun b H6 =>
        if b = true then te σ3 H6 fun y H7 => ∃ acc, H7 D = some (.lst acc) ∧ acc.length < sizeLine ∧ Pv (j + 1) (upd H7 D (.lst (acc ++ [y]))) else Pv (j + 1) H6) (hd : ∀ H, Pv n1 H → Qd H) :
    ∃ W1 : Nat → Nat → Hp → Prop, (∃ m, W1 0 m H4) ∧ ∀ j k H, W1 j k H →
      (J1.stop j H ∧ Qd H) ∨ (J1.go j H ∧ ∃ Nx1 : Hp → Prop, (∀ H', Nx1 H' → ∃ k', k' < k ∧ W1 (j + 1) k' H') ∧ ∀ x H', J1.yld j H x H' → g1 x (wipe σ2 vs1) H' fun σ3 H5 => wipe σ3 vs1 = wipe σ2 vs1 ∧ tt1 σ3 H5 fun b H6 =>
        if b = true then te σ3 H6 fun y H7 => ∃ acc, H7 D = some (.lst acc) ∧ acc.length < sizeLine ∧ Nx1 (upd H7 D (.lst (acc ++ [y]))) else Nx1 H6) := by
  refine ⟨fun i m H => m = n1 - i ∧ i ≤ n1 ∧ Pv i H, ⟨n1, by simp, Nat.zero_le _, h0⟩, ?_⟩
  rintro i m H ⟨rfl, hi, p⟩
  have q := hG i H hi p
  by_cases hlt : i < n1
  · exact .inr ⟨w.goes i H hlt q, Pv (i + 1), fun H' p' => ⟨n1 - (i + 1), by omega, rfl, hlt, p'⟩, fun x H' y => hs i x H H' hlt p (w.yields i H x H' hlt q y)⟩
  · have e : i = n1 := by omega
    subst e
    exact .inl ⟨w.stops H q, hd H p⟩
end
end SeqW
namespace SeqW
open PySem PySem.Spec PySem.Calls PyProof.Rows L2
/-- xs[i], as xs[i] += e reads it -/
theorem get_list {X : Cx} : PGet X (fun x y H Q => ∃ p xs i v, x = .ref p ∧ y = .int (i : Nat) ∧ SqL X.K H p xs ∧ xs[i]? = some v ∧ Q v H) := by
  intro pins s σ H x y v u Q I rx ry h
  obtain ⟨p, xs, i, z, rfl, rfl, hq, he, q⟩ := h
  cases rx
  obtain ⟨t, rfl⟩ := ry
  obtain ⟨its, r, pl, hz⟩ := I.list hq
  obtain ⟨w, ew, rw'⟩ := r.get he
  have hl := r.length
  have hn := line63
  have hi := (List.getElem?_eq_some_iff.mp he).1
  exact wpAny_getItem_list pl.isList (Int.natCast_nonneg i) (by omega) (by rw [Int.toNat_natCast]; simpa using ew) ⟨z, H, I, rw', q⟩
end SeqW
namespace SeqW
open PySem PySem.Spec PySem.Calls PyProof.Rows L2
theorem notIn_K {X : Cx} {K : PySem.W.Frag} (h : X.K = K) : OpR X (compareOp .NotIn) (rIn K true) := by
  subst h
  exact op_notIn_seq
theorem in_K {X : Cx} {K : PySem.W.Frag} (h : X.K = K) : OpR X (compareOp .In) (rIn K false) := by
  subst h
  exact op_in_seq
end SeqW
namespace M
open PySem PySem.Spec PyProof.Rows L2
def topS (i : Nat) : Stmt := PySem.Challenge.pw_wayneedle_k94_refusals_made.main.body.getD i (.Pass ⟨0, 0, 0, 0⟩)
abbrev s_is_row : Stmt := topS 1
theorem sc_is_row : FnScope ["thing"] ["thing"] (defScope s_is_row) := ⟨rfl, rfl, rfl, by decide +kernel, rfl, by decide +kernel, by decide +kernel⟩
abbrev s_laid_out : Stmt := topS 2
theorem sc_laid_out : FnScope ["thing", "things", "begins", "whole"] ["thing"] (defScope s_laid_out) := ⟨rfl, rfl, rfl, by decide +kernel, rfl, by decide +kernel, by decide +kernel⟩
abbrev s_kept : Stmt := topS 3
theorem sc_kept : FnScope ["thing", "things", "begins", "at", "anew", "whole", "begin", "end"] ["thing"] (defScope s_kept) := ⟨rfl, rfl, rfl, by decide +kernel, rfl, by decide +kernel, by decide +kernel⟩
abbrev s_Lpool : Stmt := topS 25
theorem sc_Lpool : FnScope ["_law_script", "_law_k", "_law_cell", "_law_left"] ["_law_script", "_law_k"] (defScope s_Lpool) := ⟨rfl, rfl, rfl, by decide +kernel, rfl, by decide +kernel, by decide +kernel⟩
abbrev s_Ltake : Stmt := topS 26
theorem sc_Ltake : FnScope ["_law_pool_here", "_law_wide", "_law_found", "_law_primes", "_law_one", "_law_two"] ["_law_pool_here", "_law_wide"] (defScope s_Ltake) := ⟨rfl, rfl, rfl, by decide +kernel, rfl, by decide +kernel, by decide +kernel⟩
abbrev s_Lwhole : Stmt := topS 27
theorem sc_Lwhole : FnScope ["_law_thing"] ["_law_thing"] (defScope s_Lwhole) := ⟨rfl, rfl, rfl, by decide +kernel, rfl, by decide +kernel, by decide +kernel⟩
abbrev s_Lsame : Stmt := topS 28
theorem sc_Lsame : FnScope ["_law_found", "_law_due", "_law_one", "_law_other"] ["_law_found", "_law_due"] (defScope s_Lsame) := ⟨rfl, rfl, rfl, by decide +kernel, rfl, by decide +kernel, by decide +kernel⟩
abbrev s_Lsorts : Stmt := topS 29
theorem sc_Lsorts : FnScope ["_law_e", "_law_some", "_law_k"] ["_law_e"] (defScope s_Lsorts) := ⟨rfl, rfl, rfl, by decide +kernel, rfl, by decide +kernel, by decide +kernel⟩
abbrev s_Lmade : Stmt := topS 30
theorem sc_Lmade : FnScope ["_law_nth", "_law_one", "_law_other"] ["_law_nth", "_law_one", "_law_other"] (defScope s_Lmade) := ⟨rfl, rfl, rfl, by decide +kernel, rfl, by decide +kernel, by decide +kernel⟩
abbrev s_Lnamed : Stmt := topS 31
theorem sc_Lnamed : FnScope ["_law_nth", "_law_one", "_law_other"] ["_law_nth", "_law_one", "_law_other"] (defScope s_Lnamed) := ⟨rfl, rfl, rfl, by decide +kernel, rfl, by decide +kernel, by decide +kernel⟩
abbrev s_Lfields : Stmt := topS 32
theorem sc_Lfields : FnScope ["_law_nth", "_law_made_here"] ["_law_nth", "_law_made_here"] (defScope s_Lfields) := ⟨rfl, rfl, rfl, by decide +kernel, rfl, by decide +kernel, by decide +kernel⟩
abbrev s_law : Stmt := topS 33
theorem sc_law : FnScope ["_law_script", "_law_nth", "_law_there", "_law_some", "_law_one", "_law_other", "_law_due", "_law_made_here"] ["_law_script"] (defScope s_law) := ⟨rfl, rfl, rfl, by decide +kernel, rfl, by decide +kernel, by decide +kernel⟩
abbrev s_init_NoLot : Stmt := inClass (topS 6) 0
theorem sc_init_NoLot : FnScope ["self", "lot"] ["self", "lot"] (defScope s_init_NoLot) := ⟨rfl, rfl, rfl, by decide +kernel, rfl, by decide +kernel, by decide +kernel⟩
abbrev s_init_BadLog : Stmt := inClass (topS 7) 0
theorem sc_init_BadLog : FnScope ["self", "name", "at"] ["self", "name", "at"] (defScope s_init_BadLog) := ⟨rfl, rfl, rfl, by decide +kernel, rfl, by decide +kernel, by decide +kernel⟩
abbrev s_init_NoDealing : Stmt := inClass (topS 8) 0
theorem sc_init_NoDealing : FnScope ["self", "at"] ["self", "at"] (defScope s_init_NoDealing) := ⟨rfl, rfl, rfl, by decide +kernel, rfl, by decide +kernel, by decide +kernel⟩
abbrev s_init_BadBox : Stmt := inClass (topS 9) 0
theorem sc_init_BadBox : FnScope ["self", "at"] ["self", "at"] (defScope s_init_BadBox) := ⟨rfl, rfl, rfl, by decide +kernel, rfl, by decide +kernel, by decide +kernel⟩
abbrev s_init_NoName : Stmt := inClass (topS 10) 0
theorem sc_init_NoName : FnScope ["self", "name"] ["self", "name"] (defScope s_init_NoName) := ⟨rfl, rfl, rfl, by decide +kernel, rfl, by decide +kernel, by decide +kernel⟩
abbrev s_init_Twice : Stmt := inClass (topS 11) 0
theorem sc_init_Twice : FnScope ["self", "name"] ["self", "name"] (defScope s_init_Twice) := ⟨rfl, rfl, rfl, by decide +kernel, rfl, by decide +kernel, by decide +kernel⟩
abbrev s_init_NoWalker : Stmt := inClass (topS 12) 0
theorem sc_init_NoWalker : FnScope ["self", "name"] ["self", "name"] (defScope s_init_NoWalker) := ⟨rfl, rfl, rfl, by decide +kernel, rfl, by decide +kernel, by decide +kernel⟩
abbrev s_init_NoSign : Stmt := inClass (topS 13) 0
theorem sc_init_NoSign : FnScope ["self", "sign"] ["self", "sign"] (defScope s_init_NoSign) := ⟨rfl, rfl, rfl, by decide +kernel, rfl, by decide +kernel, by decide +kernel⟩
abbrev s_init_NoLeg : Stmt := inClass (topS 14) 0
theorem sc_init_NoLeg : FnScope ["self", "name", "leg"] ["self", "name", "leg"] (defScope s_init_NoLeg) := ⟨rfl, rfl, rfl, by decide +kernel, rfl, by decide +kernel, by decide +kernel⟩
abbrev s_init_TooMany : Stmt := inClass (topS 15) 0
theorem sc_init_TooMany : FnScope ["self", "many"] ["self", "many"] (defScope s_init_TooMany) := ⟨rfl, rfl, rfl, by decide +kernel, rfl, by decide +kernel, by decide +kernel⟩
abbrev s_init_NoWatch : Stmt := inClass (topS 16) 0
theorem sc_init_NoWatch : FnScope ["self", "number"] ["self", "number"] (defScope s_init_NoWatch) := ⟨rfl, rfl, rfl, by decide +kernel, rfl, by decide +kernel, by decide +kernel⟩
abbrev s_init_NoText : Stmt := inClass (topS 17) 0
theorem sc_init_NoText : FnScope ["self", "at"] ["self", "at"] (defScope s_init_NoText) := ⟨rfl, rfl, rfl, by decide +kernel, rfl, by decide +kernel, by decide +kernel⟩
abbrev s_init_NoLine : Stmt := inClass (topS 18) 0
theorem sc_init_NoLine : FnScope ["self", "line"] ["self", "line"] (defScope s_init_NoLine) := ⟨rfl, rfl, rfl, by decide +kernel, rfl, by decide +kernel, by decide +kernel⟩
abbrev s_init_NoBook : Stmt := inClass (topS 19) 0
theorem sc_init_NoBook : FnScope ["self", "name"] ["self", "name"] (defScope s_init_NoBook) := ⟨rfl, rfl, rfl, by decide +kernel, rfl, by decide +kernel, by decide +kernel⟩
/-- what the top has left -/
structure Top (w : World) (K : PySem.W.Frag) (mg : Str → Option Value) where
  a_is_row : Addr
  fd_is_row : FuncData
  F_is_row : Fun K "is_row" "is_row" s_is_row a_is_row fd_is_row
  b_is_row : Binds K fd_is_row ["thing"] []
  g_is_row : mg "is_row" = some (.ref a_is_row)
  a_laid_out : Addr
  fd_laid_out : FuncData
  F_laid_out : Fun K "laid_out" "laid_out" s_laid_out a_laid_out fd_laid_out
  b_laid_out : Binds K fd_laid_out ["thing"] []
  g_laid_out : mg "laid_out" = some (.ref a_laid_out)
  a_kept : Addr
  fd_kept : FuncData
  F_kept : Fun K "kept" "kept" s_kept a_kept fd_kept
  b_kept : Binds K fd_kept ["thing"] []
  g_kept : mg "kept" = some (.ref a_kept)
  a_Lpool : Addr
  fd_Lpool : FuncData
  F_Lpool : Fun K "_law_pool" "_law_pool" s_Lpool a_Lpool fd_Lpool
  b_Lpool : Binds K fd_Lpool ["_law_script", "_law_k"] []
  g_Lpool : mg "_law_pool" = some (.ref a_Lpool)
  a_Ltake : Addr
  fd_Ltake : FuncData
  F_Ltake : Fun K "_law_take" "_law_take" s_Ltake a_Ltake fd_Ltake
  b_Ltake : Binds K fd_Ltake ["_law_pool_here", "_law_wide"] []
  g_Ltake : mg "_law_take" = some (.ref a_Ltake)
  a_Lwhole : Addr
  fd_Lwhole : FuncData
  F_Lwhole : Fun K "_law_whole" "_law_whole" s_Lwhole a_Lwhole fd_Lwhole
  b_Lwhole : Binds K fd_Lwhole ["_law_thing"] []
  g_Lwhole : mg "_law_whole" = some (.ref a_Lwhole)
  a_Lsame : Addr
  fd_Lsame : FuncData
  F_Lsame : Fun K "_law_same" "_law_same" s_Lsame a_Lsame fd_Lsame
  b_Lsame : Binds K fd_Lsame ["_law_found", "_law_due"] []
  g_Lsame : mg "_law_same" = some (.ref a_Lsame)
  a_Lsorts : Addr
  fd_Lsorts : FuncData
  F_Lsorts : Fun K "_law_sorts" "_law_sorts" s_Lsorts a_Lsorts fd_Lsorts
  b_Lsorts : Binds K fd_Lsorts ["_law_e"] []
  g_Lsorts : mg "_law_sorts" = some (.ref a_Lsorts)
  a_Lmade : Addr
  fd_Lmade : FuncData
  F_Lmade : Fun K "_law_made" "_law_made" s_Lmade a_Lmade fd_Lmade
  b_Lmade : Binds K fd_Lmade ["_law_nth", "_law_one", "_law_other"] []
  g_Lmade : mg "_law_made" = some (.ref a_Lmade)
  a_Lnamed : Addr
  fd_Lnamed : FuncData
  F_Lnamed : Fun K "_law_named" "_law_named" s_Lnamed a_Lnamed fd_Lnamed
  b_Lnamed : Binds K fd_Lnamed ["_law_nth", "_law_one", "_law_other"] []
  g_Lnamed : mg "_law_named" = some (.ref a_Lnamed)
  a_Lfields : Addr
  fd_Lfields : FuncData
  F_Lfields : Fun K "_law_fields" "_law_fields" s_Lfields a_Lfields fd_Lfields
  b_Lfields : Binds K fd_Lfields ["_law_nth", "_law_made_here"] []
  g_Lfields : mg "_law_fields" = some (.ref a_Lfields)
  a_law : Addr
  fd_law : FuncData
  F_law : Fun K "law" "law" s_law a_law fd_law
  b_law : Binds K fd_law ["_law_script"] []
  g_law : mg "law" = some (.ref a_law)
  m_abs : mg "abs" = none
  m_all : mg "all" = none
  m_any : mg "any" = none
  m_bool : mg "bool" = none
  m_int : mg "int" = none
  m_isinstance : mg "isinstance" = none
  m_len : mg "len" = none
  m_list : mg "list" = none
  m_range : mg "range" = none
  m_str : mg "str" = none
  m_tuple : mg "tuple" = none
  m_zip : mg "zip" = none
  a_NoLot : Addr
  g_NoLot : mg "NoLot" = some (.ref a_NoLot)
  exc_NoLot : ExcC K a_NoLot
  oex_NoLot : OexC K a_NoLot
  a_init_NoLot : Addr
  fd_init_NoLot : FuncData
  F_init_NoLot : Fun K "__init__" "NoLot.__init__" s_init_NoLot a_init_NoLot fd_init_NoLot
  iC_NoLot : PySem.W.findIn K (.ref a_NoLot) "__init__" = some (some (.ref a_init_NoLot))
  tI_NoLot : PySem.W.typeIn K (.ref a_init_NoLot) = some (.type "function")
  xf_NoLot : XfC K a_NoLot
  bp_NoLot : ExcV.Bd K fd_init_NoLot ["self", "lot"] 2 [] (fun us _ => us) (fun vs _ => vs)
  bk_NoLot : ExcV.Bd K fd_init_NoLot ["self", "lot"] 1 ["lot"] ExcV.gA ExcV.gA
  no_NoLot_lot : PySem.W.findIn K (.ref a_NoLot) "lot" = some none
  a_BadLog : Addr
  g_BadLog : mg "BadLog" = some (.ref a_BadLog)
  exc_BadLog : ExcC K a_BadLog
  oex_BadLog : OexC K a_BadLog
  a_init_BadLog : Addr
  fd_init_BadLog : FuncData
  F_init_BadLog : Fun K "__init__" "BadLog.__init__" s_init_BadLog a_init_BadLog fd_init_BadLog
  iC_BadLog : PySem.W.findIn K (.ref a_BadLog) "__init__" = some (some (.ref a_init_BadLog))
  tI_BadLog : PySem.W.typeIn K (.ref a_init_BadLog) = some (.type "function")
  xf_BadLog : XfC K a_BadLog
  bp_BadLog : ExcV.Bd K fd_init_BadLog ["self", "name", "at"] 3 [] (fun us _ => us) (fun vs _ => vs)
  bk_BadLog : ExcV.Bd K fd_init_BadLog ["self", "name", "at"] 1 ["at", "name"] ExcV.gS ExcV.gS
  no_BadLog_name : PySem.W.findIn K (.ref a_BadLog) "name" = some none
  no_BadLog_at : PySem.W.findIn K (.ref a_BadLog) "at" = some none
  a_NoDealing : Addr
  g_NoDealing : mg "NoDealing" = some (.ref a_NoDealing)
  exc_NoDealing : ExcC K a_NoDealing
  oex_NoDealing : OexC K a_NoDealing
  a_init_NoDealing : Addr
  fd_init_NoDealing : FuncData
  F_init_NoDealing : Fun K "__init__" "NoDealing.__init__" s_init_NoDealing a_init_NoDealing fd_init_NoDealing
  iC_NoDealing : PySem.W.findIn K (.ref a_NoDealing) "__init__" = some (some (.ref a_init_NoDealing))
  tI_NoDealing : PySem.W.typeIn K (.ref a_init_NoDealing) = some (.type "function")
  xf_NoDealing : XfC K a_NoDealing
  bp_NoDealing : ExcV.Bd K fd_init_NoDealing ["self", "at"] 2 [] (fun us _ => us) (fun vs _ => vs)
  bk_NoDealing : ExcV.Bd K fd_init_NoDealing ["self", "at"] 1 ["at"] ExcV.gA ExcV.gA
  no_NoDealing_at : PySem.W.findIn K (.ref a_NoDealing) "at" = some none
  a_BadBox : Addr
  g_BadBox : mg "BadBox" = some (.ref a_BadBox)
  exc_BadBox : ExcC K a_BadBox
  oex_BadBox : OexC K a_BadBox
  a_init_BadBox : Addr
  fd_init_BadBox : FuncData
  F_init_BadBox : Fun K "__init__" "BadBox.__init__" s_init_BadBox a_init_BadBox fd_init_BadBox
  iC_BadBox : PySem.W.findIn K (.ref a_BadBox) "__init__" = some (some (.ref a_init_BadBox))
  tI_BadBox : PySem.W.typeIn K (.ref a_init_BadBox) = some (.type "function")
  xf_BadBox : XfC K a_BadBox
  bp_BadBox : ExcV.Bd K fd_init_BadBox ["self", "at"] 2 [] (fun us _ => us) (fun vs _ => vs)
  bk_BadBox : ExcV.Bd K fd_init_BadBox ["self", "at"] 1 ["at"] ExcV.gA ExcV.gA
  no_BadBox_at : PySem.W.findIn K (.ref a_BadBox) "at" = some none
  a_NoName : Addr
  g_NoName : mg "NoName" = some (.ref a_NoName)
  exc_NoName : ExcC K a_NoName
  oex_NoName : OexC K a_NoName
  a_init_NoName : Addr
  fd_init_NoName : FuncData
  F_init_NoName : Fun K "__init__" "NoName.__init__" s_init_NoName a_init_NoName fd_init_NoName
  iC_NoName : PySem.W.findIn K (.ref a_NoName) "__init__" = some (some (.ref a_init_NoName))
  tI_NoName : PySem.W.typeIn K (.ref a_init_NoName) = some (.type "function")
  xf_NoName : XfC K a_NoName
  bp_NoName : ExcV.Bd K fd_init_NoName ["self", "name"] 2 [] (fun us _ => us) (fun vs _ => vs)
  bk_NoName : ExcV.Bd K fd_init_NoName ["self", "name"] 1 ["name"] ExcV.gA ExcV.gA
  no_NoName_name : PySem.W.findIn K (.ref a_NoName) "name" = some none
  a_Twice : Addr
  g_Twice : mg "Twice" = some (.ref a_Twice)
  exc_Twice : ExcC K a_Twice
  oex_Twice : OexC K a_Twice
  a_init_Twice : Addr
  fd_init_Twice : FuncData
  F_init_Twice : Fun K "__init__" "Twice.__init__" s_init_Twice a_init_Twice fd_init_Twice
  iC_Twice : PySem.W.findIn K (.ref a_Twice) "__init__" = some (some (.ref a_init_Twice))
  tI_Twice : PySem.W.typeIn K (.ref a_init_Twice) = some (.type "function")
  xf_Twice : XfC K a_Twice
  bp_Twice : ExcV.Bd K fd_init_Twice ["self", "name"] 2 [] (fun us _ => us) (fun vs _ => vs)
  bk_Twice : ExcV.Bd K fd_init_Twice ["self", "name"] 1 ["name"] ExcV.gA ExcV.gA
  no_Twice_name : PySem.W.findIn K (.ref a_Twice) "name" = some none
  a_NoWalker : Addr
  g_NoWalker : mg "NoWalker" = some (.ref a_NoWalker)
  exc_NoWalker : ExcC K a_NoWalker
  oex_NoWalker : OexC K a_NoWalker
  a_init_NoWalker : Addr
  fd_init_NoWalker : FuncData
  F_init_NoWalker : Fun K "__init__" "NoWalker.__init__" s_init_NoWalker a_init_NoWalker fd_init_NoWalker
  iC_NoWalker : PySem.W.findIn K (.ref a_NoWalker) "__init__" = some (some (.ref a_init_NoWalker))
  tI_NoWalker : PySem.W.typeIn K (.ref a_init_NoWalker) = some (.type "function")
  xf_NoWalker : XfC K a_NoWalker
  bp_NoWalker : ExcV.Bd K fd_init_NoWalker ["self", "name"] 2 [] (fun us _ => us) (fun vs _ => vs)
  bk_NoWalker : ExcV.Bd K fd_init_NoWalker ["self", "name"] 1 ["name"] ExcV.gA ExcV.gA
  no_NoWalker_name : PySem.W.findIn K (.ref a_NoWalker) "name" = some none
  a_NoSign : Addr
  g_NoSign : mg "NoSign" = some (.ref a_NoSign)
  exc_NoSign : ExcC K a_NoSign
  oex_NoSign : OexC K a_NoSign
  a_init_NoSign : Addr
  fd_init_NoSign : FuncData
  F_init_NoSign : Fun K "__init__" "NoSign.__init__" s_init_NoSign a_init_NoSign fd_init_NoSign
  iC_NoSign : PySem.W.findIn K (.ref a_NoSign) "__init__" = some (some (.ref a_init_NoSign))
  tI_NoSign : PySem.W.typeIn K (.ref a_init_NoSign) = some (.type "function")
  xf_NoSign : XfC K a_NoSign
  bp_NoSign : ExcV.Bd K fd_init_NoSign ["self", "sign"] 2 [] (fun us _ => us) (fun vs _ => vs)
  bk_NoSign : ExcV.Bd K fd_init_NoSign ["self", "sign"] 1 ["sign"] ExcV.gA ExcV.gA
  no_NoSign_sign : PySem.W.findIn K (.ref a_NoSign) "sign" = some none
  a_NoLeg : Addr
  g_NoLeg : mg "NoLeg" = some (.ref a_NoLeg)
  exc_NoLeg : ExcC K a_NoLeg
  oex_NoLeg : OexC K a_NoLeg
  a_init_NoLeg : Addr
  fd_init_NoLeg : FuncData
  F_init_NoLeg : Fun K "__init__" "NoLeg.__init__" s_init_NoLeg a_init_NoLeg fd_init_NoLeg
  iC_NoLeg : PySem.W.findIn K (.ref a_NoLeg) "__init__" = some (some (.ref a_init_NoLeg))
  tI_NoLeg : PySem.W.typeIn K (.ref a_init_NoLeg) = some (.type "function")
  xf_NoLeg : XfC K a_NoLeg
  bp_NoLeg : ExcV.Bd K fd_init_NoLeg ["self", "name", "leg"] 3 [] (fun us _ => us) (fun vs _ => vs)
  bk_NoLeg : ExcV.Bd K fd_init_NoLeg ["self", "name", "leg"] 1 ["leg", "name"] ExcV.gS ExcV.gS
  no_NoLeg_name : PySem.W.findIn K (.ref a_NoLeg) "name" = some none
  no_NoLeg_leg : PySem.W.findIn K (.ref a_NoLeg) "leg" = some none
  a_TooMany : Addr
  g_TooMany : mg "TooMany" = some (.ref a_TooMany)
  exc_TooMany : ExcC K a_TooMany
  oex_TooMany : OexC K a_TooMany
  a_init_TooMany : Addr
  fd_init_TooMany : FuncData
  F_init_TooMany : Fun K "__init__" "TooMany.__init__" s_init_TooMany a_init_TooMany fd_init_TooMany
  iC_TooMany : PySem.W.findIn K (.ref a_TooMany) "__init__" = some (some (.ref a_init_TooMany))
  tI_TooMany : PySem.W.typeIn K (.ref a_init_TooMany) = some (.type "function")
  xf_TooMany : XfC K a_TooMany
  bp_TooMany : ExcV.Bd K fd_init_TooMany ["self", "many"] 2 [] (fun us _ => us) (fun vs _ => vs)
  bk_TooMany : ExcV.Bd K fd_init_TooMany ["self", "many"] 1 ["many"] ExcV.gA ExcV.gA
  no_TooMany_many : PySem.W.findIn K (.ref a_TooMany) "many" = some none
  a_NoWatch : Addr
  g_NoWatch : mg "NoWatch" = some (.ref a_NoWatch)
  exc_NoWatch : ExcC K a_NoWatch
  oex_NoWatch : OexC K a_NoWatch
  a_init_NoWatch : Addr
  fd_init_NoWatch : FuncData
  F_init_NoWatch : Fun K "__init__" "NoWatch.__init__" s_init_NoWatch a_init_NoWatch fd_init_NoWatch
  iC_NoWatch : PySem.W.findIn K (.ref a_NoWatch) "__init__" = some (some (.ref a_init_NoWatch))
  tI_NoWatch : PySem.W.typeIn K (.ref a_init_NoWatch) = some (.type "function")
  xf_NoWatch : XfC K a_NoWatch
  bp_NoWatch : ExcV.Bd K fd_init_NoWatch ["self", "number"] 2 [] (fun us _ => us) (fun vs _ => vs)
  bk_NoWatch : ExcV.Bd K fd_init_NoWatch ["self", "number"] 1 ["number"] ExcV.gA ExcV.gA
  no_NoWatch_number : PySem.W.findIn K (.ref a_NoWatch) "number" = some none
  a_NoText : Addr
  g_NoText : mg "NoText" = some (.ref a_NoText)
  exc_NoText : ExcC K a_NoText
  oex_NoText : OexC K a_NoText
  a_init_NoText : Addr
  fd_init_NoText : FuncData
  F_init_NoText : Fun K "__init__" "NoText.__init__" s_init_NoText a_init_NoText fd_init_NoText
  iC_NoText : PySem.W.findIn K (.ref a_NoText) "__init__" = some (some (.ref a_init_NoText))
  tI_NoText : PySem.W.typeIn K (.ref a_init_NoText) = some (.type "function")
  xf_NoText : XfC K a_NoText
  bp_NoText : ExcV.Bd K fd_init_NoText ["self", "at"] 2 [] (fun us _ => us) (fun vs _ => vs)
  bk_NoText : ExcV.Bd K fd_init_NoText ["self", "at"] 1 ["at"] ExcV.gA ExcV.gA
  no_NoText_at : PySem.W.findIn K (.ref a_NoText) "at" = some none
  a_NoLine : Addr
  g_NoLine : mg "NoLine" = some (.ref a_NoLine)
  exc_NoLine : ExcC K a_NoLine
  oex_NoLine : OexC K a_NoLine
  a_init_NoLine : Addr
  fd_init_NoLine : FuncData
  F_init_NoLine : Fun K "__init__" "NoLine.__init__" s_init_NoLine a_init_NoLine fd_init_NoLine
  iC_NoLine : PySem.W.findIn K (.ref a_NoLine) "__init__" = some (some (.ref a_init_NoLine))
  tI_NoLine : PySem.W.typeIn K (.ref a_init_NoLine) = some (.type "function")
  xf_NoLine : XfC K a_NoLine
  bp_NoLine : ExcV.Bd K fd_init_NoLine ["self", "line"] 2 [] (fun us _ => us) (fun vs _ => vs)
  bk_NoLine : ExcV.Bd K fd_init_NoLine ["self", "line"] 1 ["line"] ExcV.gA ExcV.gA
  no_NoLine_line : PySem.W.findIn K (.ref a_NoLine) "line" = some none
  a_NoBook : Addr
  g_NoBook : mg "NoBook" = some (.ref a_NoBook)
  exc_NoBook : ExcC K a_NoBook
  oex_NoBook : OexC K a_NoBook
  a_init_NoBook : Addr
  fd_init_NoBook : FuncData
  F_init_NoBook : Fun K "__init__" "NoBook.__init__" s_init_NoBook a_init_NoBook fd_init_NoBook
  iC_NoBook : PySem.W.findIn K (.ref a_NoBook) "__init__" = some (some (.ref a_init_NoBook))
  tI_NoBook : PySem.W.typeIn K (.ref a_init_NoBook) = some (.type "function")
  xf_NoBook : XfC K a_NoBook
  bp_NoBook : ExcV.Bd K fd_init_NoBook ["self", "name"] 2 [] (fun us _ => us) (fun vs _ => vs)
  bk_NoBook : ExcV.Bd K fd_init_NoBook ["self", "name"] 1 ["name"] ExcV.gA ExcV.gA
  no_NoBook_name : PySem.W.findIn K (.ref a_NoBook) "name" = some none
  a_NoFit : Addr
  g_NoFit : mg "NoFit" = some (.ref a_NoFit)
  exc_NoFit : ExcC K a_NoFit
  xq_NoFit : PySem.W.excIn K a_NoFit [.type "ValueError", .type "Exception", .type "BaseException", .type "object"] "ValueError.__new__" = true
  kp_NoFit : PySem.W.keepIn K (.ref a_NoFit) = true
  a_NoLink : Addr
  g_NoLink : mg "NoLink" = some (.ref a_NoLink)
  exc_NoLink : ExcC K a_NoLink
  xq_NoLink : PySem.W.excIn K a_NoLink [.type "ValueError", .type "Exception", .type "BaseException", .type "object"] "ValueError.__new__" = true
  kp_NoLink : PySem.W.keepIn K (.ref a_NoLink) = true
  a_NothingDone : Addr
  g_NothingDone : mg "NothingDone" = some (.ref a_NothingDone)
  exc_NothingDone : ExcC K a_NothingDone
  xq_NothingDone : PySem.W.excIn K a_NothingDone [.type "ValueError", .type "Exception", .type "BaseException", .type "object"] "ValueError.__new__" = true
  kp_NothingDone : PySem.W.keepIn K (.ref a_NothingDone) = true
  a_NothingUndone : Addr
  g_NothingUndone : mg "NothingUndone" = some (.ref a_NothingUndone)
  exc_NothingUndone : ExcC K a_NothingUndone
  xq_NothingUndone : PySem.W.excIn K a_NothingUndone [.type "ValueError", .type "Exception", .type "BaseException", .type "object"] "ValueError.__new__" = true
  kp_NothingUndone : PySem.W.keepIn K (.ref a_NothingUndone) = true
  a_NeedleError : Addr
  g_NeedleError : mg "NeedleError" = some (.ref a_NeedleError)
  tab : ExcV.Tab K [a_NoLot, a_BadLog, a_NoDealing, a_BadBox, a_NoName, a_Twice, a_NoWalker, a_NoSign, a_NoLeg, a_TooMany, a_NoWatch, a_NoText, a_NoLine, a_NoBook, a_NoFit, a_NoLink, a_NothingDone, a_NothingUndone] a_NeedleError
  m_ValueError : mg "ValueError" = none
/-! ### heaps, pools -/
/-- all but what stands at p is as it was -/
def But (p : Addr) (H H' : Hp) : Prop := ∀ b o, b ≠ p → H b = some o → H' b = some o
theorem But.refl (p : Addr) (H : Hp) : But p H H := fun _ _ _ h => h
theorem But.trans {p : Addr} {H H1 H2 : Hp} (a : But p H H1) (b : But p H1 H2) : But p H H2 := fun c o hc h => b c o hc (a c o hc h)
theorem But.of {p : Addr} {H H' : Hp} (a : Same H H') : But p H H' := fun b o _ h => a b o h
theorem But.upd {p : Addr} {H H' : Hp} {o : HO} (a : But p H H') : But p H (upd H' p o) := fun b u hb h => by
  rw [upd_ne hb]
  exact a b u hb h
theorem same_upd {H : Hp} {p : Addr} {o : HO} (h : H p = none) : Same H (upd H p o) := fun b x e => by
  rw [upd_ne (ne_of_none e h)]
  exact e
/-- changed at a new place alone -/
theorem But.same {p : Addr} {H H1 H2 : Hp} (n : H p = none) (a : Same H H1) (b : But p H1 H2) : Same H H2 := fun c o h => b c o (ne_of_none h n) (a c o h)
theorem But.free {p l : Addr} {H H1 : Hp} (a : But p H H1) (n : l ≠ p) (h : H1 l = none) : H l = none := by
  cases e : H l with
  | none => rfl
  | some o =>
    rw [a l o n e] at h
    cases h
/-- a change at a place that H doesn't know -/
theorem But.mut {p l : Addr} {H H1 : Hp} {o : HO} (a : But p H H1) (n : H l = none) : But p H (L2.upd H1 l o) := fun b u hb h => by
  rw [upd_ne (ne_of_none h n)]
  exact a b u hb h
/-- the spring of draws: four whole numbers, the first not below nought -/
def Pool (H : Hp) (p : Addr) : Prop := ∃ l c k n : Int, 0 ≤ l ∧ H p = some (.lst [.int l, .int c, .int k, .int n])
theorem Pool.same {H H' : Hp} {p : Addr} (h : Pool H p) (e : Same H H') : Pool H' p := by
  obtain ⟨l, c, k, n, h0, h1⟩ := h
  exact ⟨l, c, k, n, h0, e _ _ h1⟩
theorem Pool.ne_tup {H : Hp} {p q : Addr} {xs : List V} (h : Pool H p) (e : H q = some (.tup xs)) : q ≠ p := by
  obtain ⟨l, c, k, n, h0, h1⟩ := h
  exact ne_of e h1 (by intro z; cases z)
theorem Pool.ne_new {H : Hp} {p q : Addr} (h : Pool H p) (e : H q = none) : q ≠ p := by
  obtain ⟨l, c, k, n, h0, h1⟩ := h
  intro z
  rw [z, h1] at e
  cases e
theorem Pool.upd {H : Hp} {p q : Addr} {o : HO} (h : Pool H p) (e : q ≠ p) : Pool (L2.upd H q o) p := by
  obtain ⟨l, c, k, n, h0, h1⟩ := h
  refine ⟨l, c, k, n, h0, ?_⟩
  rw [upd_ne (Ne.symm e)]
  exact h1
theorem seq_but {K : PySem.W.Frag} {H H' : Hp} {p a : Addr} {xs : List V} (e : But p H H') (n : a ≠ p) (h : SqL K H a xs) : SqL K H' a xs := by
  rcases h with (h | ⟨o, h⟩) | h
  · exact .inl (.inl (e _ _ n h))
  · exact .inl (.inr ⟨o, e _ _ n h⟩)
  · exact .inr h
theorem abs_if (n : Int) : 0 ≤ (if n < 0 then -n else n) := by
  split <;> omega
local macro_rules | `(tactic| walk_at "go") => `(tactic| repeat (first
  | (with_reducible exact rfl)
  | (refine ⟨_, _, rfl, rfl, ?_⟩)
  | (refine ⟨_, rfl, ?_⟩)
  | (refine ⟨rfl, ?_⟩)))
def spPool (K : PySem.W.Frag) : Sp := fun vs H Q _ => ∃ (a : Addr) (ns : List Int) (k : Int), vs = [.ref a, .int k] ∧ SqL K H a (ns.map V.int) ∧ ns.length ≤ 63 ∧ 0 ≤ k ∧ ∀ H' p, Same H H' → H p = none → Pool H' p → Q (.ref p) H'
def spTake : Sp := fun vs H Q _ => ∃ (p : Addr) (m : Int), vs = [.ref p, .int m] ∧ 0 < m ∧ m < 2 ^ 200 ∧ Pool H p ∧ ∀ H' (r : Int), But p H H' → Pool H' p → 0 ≤ r → r < m → Q (.int r) H'
theorem iteY {c A B : Prop} [Decidable c] (hc : c) (h : A) : if decide c = true then A else B := by
  rw [if_pos (decide_eq_true hc)]
  exact h
theorem iteYn {c A B : Prop} [Decidable c] (hc : c) (h : B) : if (!decide c) = true then A else B := by
  rw [decide_eq_true hc]
  exact h
theorem iteDN {b : Bool} {A B : Prop} (hb : b = false) (h : B) : if b = true then A else B := by
  rw [hb]
  exact h
theorem iteDY {b : Bool} {A B : Prop} (hb : b = true) (h : A) : if b = true then A else B := by
  rw [hb]
  exact h
theorem iteNE {d e : PyData} {A B : Prop} (h : d = e) (hs : SeqAt.shaped d = true) (hB : B) : if (!PyData.eqv d e) = true then A else B := by
  subst h
  rw [SeqAt.eqv_refl d (SeqAt.canLay_of_shaped hs)]
  exact hB
theorem ne_no {x y : V} (e : x = y) : (!decide (x = y)) = false := by
  rw [decide_eq_true e]
  rfl
theorem iteN {x y : V} {A B : Prop} (e : x = y) (h : B) : if (!decide (x = y)) = true then A else B := by
  rw [ne_no e, if_neg Bool.false_ne_true]
  exact h
section
variable {P : Program} {w : World} {K : PySem.W.Frag} {mg : Str → Option Value} {base : Heap}
theorem ok_Lpool (T : Top w K mg) : FnOk P w K mg base CX0 1 T.a_Lpool T.fd_Lpool ["_law_script", "_law_k"] (spPool K) := by
  refine T.F_Lpool.ok sc_Lpool (fun vs H Q E h => ?_) (fun cdv A outer s H vs Q E hr h => ?_)
  · obtain ⟨a, ns, k, rfl, _⟩ := h
    rfl
  · obtain ⟨a, ns, k, rfl, hS, hlen, hk, q⟩ := h
    refine ⟨_, (pss_cons (ps_set (i := 2) sc_Lpool.nd rfl (.inl rfl) pe_int)
      (Evl.pss_cut (ps_if (pt_cmpR op_gt (pe_callB call_len_seq (by rfl) T.m_len (by decide +kernel) (pa_cons (pv 0) pa_nil)) pe_int (nomark _)) (pss_one (ps_set (i := 2) sc_Lpool.nd rfl (.inl rfl) (pe_ix ix_list (pv 0) (pe_op op_mod (pv 1) (pe_callB call_len_seq (by rfl) T.m_len (by decide +kernel) (pa_cons (pv 0) pa_nil))) (fun _ _ => rfl)))) pss_nil)
      (pss_cons (ps_set (i := 3) sc_Lpool.nd rfl (.inl rfl) pe_int)
      (pss_cons (ps_if (PW.pt (pw_and (pt_cmpR op_lt (pv 1) (pe_callB call_len_seq (by rfl) T.m_len (by decide +kernel) (pa_cons (pv 0) pa_nil)) (nomark _)) (pw_and1 (pt_cmpR op_ge (pe_callB call_abs (by rfl) T.m_abs (by decide +kernel) (pa_cons (pv 2) pa_nil)) (pe_op op_pow pe_int pe_int) (nomark _))))) (pss_one (ps_set (i := 3) sc_Lpool.nd rfl (.inl rfl) (pe_callB call_abs (by rfl) T.m_abs (by decide +kernel) (pa_cons (pv 2) pa_nil)))) pss_nil)
      (pss_one (ps_ret (pe_lst (pa_cons (pv 3) (pa_cons (pv 2) (pa_cons (pv 1) (pa_cons pe_int pa_nil))))))))))), ?_⟩
    have hL : ((ns.map V.int).length : Int) = ns.length := by rw [List.length_map]
    have fin : ∀ (l c : Int), 0 ≤ l → ∀ p, H p = none → Q (.ref p) (upd H p (.lst [.int l, .int c, .int k, .int 0])) := fun l c hl p hp =>
      q _ p (same_upd hp) hp ⟨l, c, k, 0, hl, upd_same⟩
    refine ⟨fun σ H' => H' = H ∧ ∃ c : Int, σ = [some (.ref a), some (.int k), some (.int c), none], ?_, ?_⟩
    · refine ⟨.ref a, rfl, a, ns.map V.int, rfl, .inl hS, _, _, rfl, rfl, _, rfl, ite2 (fun e => ?_) (fun e => ?_)⟩
      · have e0 : (0 : Int) < ((ns.map V.int).length : Int) := of_decide_eq_true e
        refine ⟨.ref a, rfl, .int k, rfl, .ref a, rfl, a, ns.map V.int, rfl, .inl hS, k, _, rfl, rfl, e0, ?_⟩
        have h1 := Int.emod_nonneg k (show ((ns.map V.int).length : Int) ≠ 0 by omega)
        have h2 := Int.emod_lt_of_pos k e0
        obtain ⟨j, hj⟩ : ∃ j : Nat, k % ((ns.map V.int).length : Int) = j := ⟨(k % ((ns.map V.int).length : Int)).toNat, by omega⟩
        have hj2 : j < ns.length := by omega
        have g : (ns.map V.int)[j]? = some (.int ns[j]) := by
          rw [List.getElem?_map, List.getElem?_eq_getElem hj2]
          rfl
        have gi : atI (ns.map V.int) (k % ((ns.map V.int).length : Int)) = some (.int ns[j]) := by
          rw [hj]
          exact atI_nat g
        exact ⟨a, _, _, _, rfl, rfl, hS, gi, rfl, _, rfl⟩
      · exact ⟨rfl, 0, rfl⟩
    · rintro σ H' ⟨rfl, c, rfl⟩
      refine ⟨.int k, rfl, .ref a, rfl, a, ns.map V.int, rfl, .inl hS, _, _, rfl, rfl, _, rfl, ite2 (fun e => ?_) (fun e => ?_)⟩
      · refine ⟨.int c, rfl, c, rfl, _, _, rfl, rfl, ⟨by decide, by decide, by decide⟩, _, _, rfl, rfl, _, rfl, ite2 (fun e => ?_) (fun e => ?_)⟩
        · exact ⟨.int c, rfl, c, rfl, _, rfl, _, rfl, _, rfl, by show 4 ≤ sizeLine; decide, fin _ c (abs_if c)⟩
        · exact ⟨_, rfl, _, rfl, _, rfl, by show 4 ≤ sizeLine; decide, fin 0 c (by decide)⟩
      · refine ite2 (fun e2 => by cases e2) (fun _ => ?_)
        exact ⟨_, rfl, _, rfl, _, rfl, by show 4 ≤ sizeLine; decide, fin 0 c (by decide)⟩
def primes : List Int := [2147483629, 2147483587, 2147483579, 2147483563, 2147483549, 2147483543, 2147483497, 2147483489]
theorem primes_at {i : Int} (h0 : 0 ≤ i) (h1 : i < 8) : ∃ p : Int, atI (primes.map V.int) i = some (.int p) ∧ 0 < p ∧ p < 2147483647 := by
  obtain rfl | rfl | rfl | rfl | rfl | rfl | rfl | rfl : i = 0 ∨ i = 1 ∨ i = 2 ∨ i = 3 ∨ i = 4 ∨ i = 5 ∨ i = 6 ∨ i = 7 := by omega
  all_goals exact ⟨_, rfl, by decide, by decide⟩
theorem pow_ok (a : Int) : CPow (a % 2147483647) 5 := by
  have h1 := Int.emod_nonneg a (show (2147483647 : Int) ≠ 0 by decide)
  have h2 := Int.emod_lt_of_pos a (show (0 : Int) < 2147483647 by decide)
  exact ⟨by decide, by decide, by omega⟩
theorem ok_Ltake (T : Top w K mg) : FnOk P w K mg base CX0 1 T.a_Ltake T.fd_Ltake ["_law_pool_here", "_law_wide"] spTake := by
  refine T.F_Ltake.ok sc_Ltake (fun vs H Q E h => ?_) (fun cdv A outer s H vs Q E hr h => ?_)
  · obtain ⟨p, m, rfl, _⟩ := h
    rfl
  · obtain ⟨p, m, rfl, hm, hb, ⟨l, c, k, n, hl, hp⟩, q⟩ := h
    refine ⟨_, (pss_cons (ps_if (pt_cmpR op_gt (pe_ix ix_list (pv 0) pe_int (fun _ _ => rfl)) pe_int (nomark _)) (pss_cons (ps_set (i := 2) sc_Ltake.nd rfl (.inl rfl) (pe_op op_mod (pe_ix ix_list (pv 0) pe_int (fun _ _ => rfl)) (pv 1)))
      (pss_cons (ps_asg (pe_op op_fdivW (pe_ix ix_list (pv 0) pe_int (fun _ _ => rfl)) (pv 1)) (pg_sub (pv 0) pe_int set_list))
      (pss_one (ps_ret (pv 2))))) pss_nil)
      (pss_cons (ps_asg (pe_op op_add (pe_ix ix_list (pv 0) pe_int (fun _ _ => rfl)) pe_int) (pg_sub (pv 0) pe_int set_list))
      (pss_cons (ps_set (i := 3) sc_Ltake.nd rfl (.inl rfl) (pe_lst (pa_cons pe_int (pa_cons pe_int (pa_cons pe_int (pa_cons pe_int (pa_cons pe_int (pa_cons pe_int (pa_cons pe_int (pa_cons pe_int pa_nil))))))))))
      (pss_cons (ps_set (i := 4) sc_Ltake.nd rfl (.inl rfl) (pe_op op_mod (pe_op op_add (pe_op op_add (pe_op op_add (pe_ix ix_list (pv 0) pe_int (fun _ _ => rfl)) (pe_op op_mul pe_int (pe_ix ix_list (pv 0) pe_int (fun _ _ => rfl)))) (pe_op op_mul pe_int (pe_ix ix_list (pv 0) pe_int (fun _ _ => rfl)))) pe_int) pe_int))
      (pss_cons (ps_set (i := 4) sc_Ltake.nd rfl (.inl rfl) (pe_op op_mod (pe_op op_pow (pv 4) pe_int) (pe_ix ix_list (pv 3) (pe_op op_mod (pe_ix ix_list (pv 0) pe_int (fun _ _ => rfl)) pe_int) (fun _ _ => rfl))))
      (pss_cons (ps_set (i := 5) sc_Ltake.nd rfl (.inl rfl) (pe_op op_mod (pe_op op_add (pe_op op_add (pv 4) (pe_op op_mul pe_int (pe_ix ix_list (pv 0) pe_int (fun _ _ => rfl)))) (pe_ix ix_list (pv 0) pe_int (fun _ _ => rfl))) pe_int))
      (pss_one (ps_ret (pe_op op_mod (pe_op op_add (pe_op op_mul (pe_op op_mod (pe_op op_pow (pv 5) pe_int) pe_int) pe_int) (pv 4)) (pv 1)))))))))), ?_⟩
    refine ⟨.ref p, rfl, p, _, 0, .int l, rfl, rfl, .inl (.inl hp), rfl, _, _, rfl, rfl, _, rfl, ite2 (fun e => ?_) (fun e => ?_)⟩
    · refine ⟨.ref p, rfl, p, _, 0, .int l, rfl, rfl, .inl (.inl hp), rfl, .int m, rfl, l, m, rfl, rfl, hm, ?_⟩
      refine ⟨.ref p, rfl, p, _, 0, .int l, rfl, rfl, .inl (.inl hp), rfl, .int m, rfl, l, m, rfl, rfl, wide_div (b := 200) hm (by omega) (by decide) (by decide), ?_⟩
      refine ⟨.ref p, rfl, p, _, 0, 0, rfl, rfl, hp, rfl, ?_⟩
      refine ⟨_, rfl, q _ _ (But.refl p H).upd ⟨l / m, c, k, n, Int.ediv_nonneg hl (by omega), ?_⟩ (Int.emod_nonneg l (by omega)) (Int.emod_lt_of_pos l hm)⟩
      exact upd_same
    · refine ⟨.ref p, rfl, p, _, 3, .int n, rfl, rfl, .inl (.inl hp), rfl, n, 1, rfl, rfl, .ref p, rfl, p, _, 3, 3, rfl, rfl, hp, rfl, ?_⟩
      refine ⟨by show 8 ≤ sizeLine; decide, fun o no => ?_⟩
      have hop : o ≠ p := fun z => by
        rw [z, upd_same] at no
        cases no
      have h3 : (upd (upd H p (.lst [.int l, .int c, .int k, .int (n + 1)])) o (.lst (primes.map V.int))) p = some (.lst [.int l, .int c, .int k, .int (n + 1)]) := by
        rw [upd_ne (Ne.symm hop), upd_same]
      have h4 : (upd (upd H p (.lst [.int l, .int c, .int k, .int (n + 1)])) o (.lst (primes.map V.int))) o = some (.lst (primes.map V.int)) := upd_same
      have bt : But p H (upd (upd H p (.lst [.int l, .int c, .int k, .int (n + 1)])) o (.lst (primes.map V.int))) := fun b u hb h => by
        have nb : b ≠ o := fun z => by
          have : (upd H p (.lst [.int l, .int c, .int k, .int (n + 1)])) b = some u := by
            rw [upd_ne hb]
            exact h
          rw [z] at this
          exact absurd (this.symm.trans no) (by intro z; cases z)
        rw [upd_ne nb, upd_ne hb]
        exact h
      have i8 : 0 ≤ (n + 1) % 8 := Int.emod_nonneg _ (by decide)
      have j8 : (n + 1) % 8 < 8 := Int.emod_lt_of_pos _ (by decide)
      obtain ⟨pr, hpr, pr0, pr1⟩ := primes_at i8 j8
      refine ⟨.ref p, rfl, p, _, 1, .int c, rfl, rfl, .inl (.inl h3), rfl, .ref p, rfl, p, _, 2, .int k, rfl, rfl, .inl (.inl h3), rfl, 7919, k, rfl, rfl, .inl ⟨by decide, by decide⟩, _, _, rfl, rfl, .ref p, rfl, p, _, 3, .int (n + 1), rfl, rfl, .inl (.inl h3), rfl, 104729, n + 1, rfl, rfl, .inl ⟨by decide, by decide⟩, _, _, rfl, rfl, _, _, rfl, rfl, _, _, rfl, rfl, (by show (0 : Int) < 2147483647; decide), ?_⟩
      refine ⟨_, rfl, _, _, rfl, rfl, pow_ok _, .ref o, rfl, .ref p, rfl, p, _, 3, .int (n + 1), rfl, rfl, .inl (.inl h3), rfl, _, _, rfl, rfl, (by show (0 : Int) < 8; decide), o, _, _, .int pr, rfl, rfl, .inl (.inl h4), hpr, _, _, rfl, rfl, pr0, ?_⟩
      refine ⟨_, rfl, .ref p, rfl, p, _, 2, .int k, rfl, rfl, .inl (.inl h3), rfl, 40692, k, rfl, rfl, .inl ⟨by decide, by decide⟩, _, _, rfl, rfl, .ref p, rfl, p, _, 3, .int (n + 1), rfl, rfl, .inl (.inl h3), rfl, _, _, rfl, rfl, _, _, rfl, rfl, (by show (0 : Int) < 2147483647; decide), ?_⟩
      refine ⟨_, rfl, _, _, rfl, rfl, pow_ok _, _, _, rfl, rfl, (by show (0 : Int) < 2147483647; decide), _, _, rfl, rfl, .inr ⟨by decide, by decide⟩, _, rfl, _, _, rfl, rfl, .int m, rfl, _, _, rfl, rfl, hm, ?_⟩
      exact q _ _ bt ⟨l, c, k, n + 1, hl, h3⟩ (Int.emod_nonneg _ (by omega)) (Int.emod_lt_of_pos _ hm)
/-! ### data alike -/
theorem sqt_same {K : PySem.W.Frag} {H H' : Hp} {a : Addr} {xs : List V} (e : Same H H') (h : SqT K H a xs) : SqT K H' a xs := Evl.ex_t (show Evl.Ex H H' from e) h
mutual
theorem dp_same {K : PySem.W.Frag} {H H' : Hp} (e : Same H H') : ∀ (d : PyData) (v : V), Dp K H v d → Dp K H' v d
  | .none, _, h => by cases h; exact .non
  | .bool b, _, h => by cases h; exact .bl b
  | .int i, _, h => by cases h; exact .int i
  | .str x, _, h => by cases h; exact .str x
  | .list ds, _, h => by
    cases h with
    | lst hs ha => exact .lst (e.seq hs) (dpa_same e ds _ ha)
  | .tuple ds, _, h => by
    cases h with
    | tup hs ha => exact .tup (sqt_same e hs) (dpa_same e ds _ ha)
  | .dict _, _, h => by cases h
theorem dpa_same {K : PySem.W.Frag} {H H' : Hp} (e : Same H H') : ∀ (ds : List PyData) (vs : List V), DpAll K H vs ds → DpAll K H' vs ds
  | [], _, h => by cases h; exact .nil
  | d :: ds, _, h => by
    cases h with
    | cons h1 h2 => exact .cons (dp_same e d _ h1) (dpa_same e ds _ h2)
end
theorem dpa_len {K : PySem.W.Frag} {H : Hp} : ∀ (ds : List PyData) (vs : List V), DpAll K H vs ds → vs.length = ds.length
  | [], _, h => by cases h; rfl
  | d :: ds, _, h => by
    cases h with
    | cons h1 h2 =>
      rw [List.length_cons, List.length_cons, dpa_len ds _ h2]
theorem dpa_at {K : PySem.W.Frag} {H : Hp} : ∀ (ds : List PyData) (vs : List V), DpAll K H vs ds → ∀ (i : Nat) (v : V), vs[i]? = some v → ∃ d, ds[i]? = some d ∧ Dp K H v d
  | [], _, h, i, v, e => by cases h; cases e
  | d :: ds, _, h, i, v, e => by
    cases h with
    | cons h1 h2 =>
      cases i with
      | zero =>
        cases e
        exact ⟨d, rfl, h1⟩
      | succ j => exact dpa_at ds _ h2 j v e
theorem ty_tup {K : PySem.W.Frag} {H : Hp} {a : Addr} {xs : List V} (h : SqT K H a xs) : TyX K H (.ref a) (.type "tuple") := by
  rcases h with (h | ⟨o, h⟩) | ⟨o, its, n, lk, hc, _⟩
  · exact .base (.tup h)
  · exact .fTuple h
  · exact .kTuple lk hc
/-- none, truths, whole numbers, texts, and tuples of these, at most n deep -/
def okD : Nat → PyData → Bool
  | _, .none => true
  | _, .bool _ => true
  | _, .int _ => true
  | _, .str _ => true
  | n + 1, .tuple ds => decide (ds.length ≤ 1000) && ds.all fun d => okD n d
  | _, _ => false
theorem walk_zipT {K : PySem.W.Frag} {a b : Addr} {xs ys : List V} {n : Nat} (hn : n = min xs.length ys.length) : Walk (RZ.ItzT K a b) n (fun H => SqT K H a xs ∧ SqT K H b ys) (YPair (fun i => xs[i]?) (fun i => ys[i]?)) where
  goes := fun i H lt ⟨p, q⟩ => ⟨xs, ys, _, _, p, q, List.getElem?_eq_getElem (by omega), List.getElem?_eq_getElem (by omega)⟩
  stops := fun H ⟨p, q⟩ => ⟨xs, ys, p, q, by omega⟩
  yields := fun i H v H' _ ⟨p, q⟩ ⟨T, x, y, e1, e2, e3, e4, e5⟩ => ⟨T, x, y, e1, e2, e3, e4 xs p, e5 ys q⟩
theorem all_true : ∀ n : Nat, (List.replicate n true).all id = true
  | 0 => rfl
  | n + 1 => by rw [List.replicate_succ, List.all_cons, all_true n]; rfl
def spWhole : Sp := fun vs H Q _ => ∃ i : Int, vs = [.int i] ∧ Q (.bl true) H
theorem ok_Lwhole (T : Top w K mg) : FnOk P w K mg base CX0 1 T.a_Lwhole T.fd_Lwhole ["_law_thing"] spWhole := by
  refine T.F_Lwhole.ok sc_Lwhole (fun vs H Q E h => ?_) (fun cdv A outer s H vs Q E hr h => ?_)
  · obtain ⟨i, rfl, _⟩ := h
    rfl
  · obtain ⟨i, rfl, q⟩ := h
    refine ⟨_, (pss_one (ps_ret (pe_and (pe_callB call_isi (by rfl) T.m_isinstance (by decide +kernel) (pa_cons (pv 0) (pa_cons (pe_bltn (v := .ty "int") (by rfl) T.m_int (by decide +kernel) rfl) pa_nil))) (pe_one (pe_not (pe_callB call_isi (by rfl) T.m_isinstance (by decide +kernel) (pa_cons (pv 0) (pa_cons (pe_bltn (v := .ty "bool") (by rfl) T.m_bool (by decide +kernel) rfl) pa_nil)))))))), ?_⟩
    refine ⟨.int i, rfl, _, _, _, _, true, rfl, .ty _, .base (.int i), kit_ty (by decide +kernel), _, rfl, iteT ?_⟩
    exact ⟨.int i, rfl, _, _, _, _, false, rfl, .ty _, .base (.int i), kit_ty (by decide +kernel), _, rfl, q⟩
def spSame (K : PySem.W.Frag) (n : Nat) : Sp := fun vs H Q _ => ∃ (x y : V) (d : PyData), vs = [x, y] ∧ Dp K H x d ∧ Dp K H y d ∧ okD n d = true ∧ ∀ H', Same H H' → Q (.bl true) H'
theorem ok_Lsame0 (T : Top w K mg) : FnOk P w K mg base CX0 2 T.a_Lsame T.fd_Lsame ["_law_found", "_law_due"] (spSame K 0) := by
  have G_Lwhole := ok_Lwhole (P := P) (w := w) (base := base) T
  refine T.F_Lsame.ok sc_Lsame (fun vs H Q E h => ?_) (fun cdv A outer s H vs Q E hr h => ?_)
  · obtain ⟨x, y, d, rfl, _⟩ := h
    rfl
  · obtain ⟨x, y, d, rfl, hx, hy, ok, q⟩ := h
    refine ⟨_, (pss_cons (ps_if (pt_val (pe_callB call_isi (by rfl) T.m_isinstance (by decide +kernel) (pa_cons (pv 1) (pa_cons (pe_bltn (v := .ty "tuple") (by rfl) T.m_tuple (by decide +kernel) rfl) pa_nil)))) pss_never pss_nil)
      (pss_cons (ps_if (pt_cmpR op_isN (pv 1) pe_non (nomark _)) (pss_one (ps_ret (pe_cmpR op_isN (pv 0) pe_non (nomark _)))) pss_nil)
      (pss_cons (ps_if (pt_val (pe_callB call_isi (by rfl) T.m_isinstance (by decide +kernel) (pa_cons (pv 1) (pa_cons (pe_bltn (v := .ty "bool") (by rfl) T.m_bool (by decide +kernel) rfl) pa_nil)))) (pss_one (ps_ret (pe_and (pe_callB call_isi (by rfl) T.m_isinstance (by decide +kernel) (pa_cons (pv 0) (pa_cons (pe_bltn (v := .ty "bool") (by rfl) T.m_bool (by decide +kernel) rfl) pa_nil))) (pe_one (pe_cmpR op_eq (pv 0) (pv 1) (nomark _)))))) pss_nil)
      (pss_cons (ps_if (pt_val (pe_callB call_isi (by rfl) T.m_isinstance (by decide +kernel) (pa_cons (pv 1) (pa_cons (pe_bltn (v := .ty "str") (by rfl) T.m_str (by decide +kernel) rfl) pa_nil)))) (pss_one (ps_ret (pe_and (pe_callB call_isi (by rfl) T.m_isinstance (by decide +kernel) (pa_cons (pv 0) (pa_cons (pe_bltn (v := .ty "str") (by rfl) T.m_str (by decide +kernel) rfl) pa_nil))) (pe_one (pe_cmpR op_eq (pv 0) (pv 1) (nomark _)))))) pss_nil)
      (pss_one (ps_ret (pe_and (pe_call G_Lwhole (hr.mono (by omega)) (by rfl) T.g_Lwhole T.F_Lwhole.kp T.b_Lwhole .nil pass0 (pa_cons (pv 0) pa_nil)) (pe_one (pe_cmpR op_eq (pv 0) (pv 1) (nomark _)))))))))), ?_⟩
    have Q0 := q H (Same.refl H)
    cases d with
    | none =>
      cases hx
      cases hy
      exact ⟨.non, rfl, _, _, _, _, false, rfl, .ty _, .base .non, kit_ty (by decide +kernel), _, rfl, iteF ⟨.non, rfl, rfl, _, rfl, iteT ⟨.non, rfl, rfl, Q0⟩⟩⟩
    | bool b =>
      cases hx
      cases hy
      refine ⟨.bl b, rfl, _, _, _, _, false, rfl, .ty _, .base (.bl b), kit_ty (by decide +kernel), _, rfl, iteF ⟨.bl b, rfl, rfl, _, rfl, iteF ?_⟩⟩
      refine ⟨.bl b, rfl, _, _, _, _, true, rfl, .ty _, .base (.bl b), kit_ty (by decide +kernel), _, rfl, iteT ?_⟩
      refine ⟨.bl b, rfl, _, _, _, _, true, rfl, .ty _, .base (.bl b), kit_ty (by decide +kernel), _, rfl, iteT ⟨.bl b, rfl, .bl b, rfl, rfl, ?_⟩⟩
      rw [decide_eq_true rfl]
      exact Q0
    | int i =>
      cases hx
      cases hy
      refine ⟨.int i, rfl, _, _, _, _, false, rfl, .ty _, .base (.int i), kit_ty (by decide +kernel), _, rfl, iteF ⟨.int i, rfl, rfl, _, rfl, iteF ?_⟩⟩
      refine ⟨.int i, rfl, _, _, _, _, false, rfl, .ty _, .base (.int i), kit_ty (by decide +kernel), _, rfl, iteF ?_⟩
      refine ⟨.int i, rfl, _, _, _, _, false, rfl, .ty _, .base (.int i), kit_ty (by decide +kernel), _, rfl, iteF ?_⟩
      refine ⟨.int i, rfl, i, rfl, _, rfl, iteT ⟨.int i, rfl, .int i, rfl, rfl, ?_⟩⟩
      rw [decide_eq_true rfl]
      exact Q0
    | str z =>
      cases hx
      cases hy
      refine ⟨.str z, rfl, _, _, _, _, false, rfl, .ty _, .base (.str z), kit_ty (by decide +kernel), _, rfl, iteF ⟨.str z, rfl, rfl, _, rfl, iteF ?_⟩⟩
      refine ⟨.str z, rfl, _, _, _, _, false, rfl, .ty _, .base (.str z), kit_ty (by decide +kernel), _, rfl, iteF ?_⟩
      refine ⟨.str z, rfl, _, _, _, _, true, rfl, .ty _, .base (.str z), kit_ty (by decide +kernel), _, rfl, iteT ?_⟩
      refine ⟨.str z, rfl, _, _, _, _, true, rfl, .ty _, .base (.str z), kit_ty (by decide +kernel), _, rfl, iteT ⟨.str z, rfl, .str z, rfl, rfl, ?_⟩⟩
      rw [decide_eq_true rfl]
      exact Q0
    | list ds => cases ok
    | tuple ds => cases ok
    | dict ds => cases ok
theorem ok_LsameS (T : Top w K mg) {n : Nat} (G_Lsame : FnOk P w K mg base CX0 (n + 2) T.a_Lsame T.fd_Lsame ["_law_found", "_law_due"] (spSame K n)) : FnOk P w K mg base CX0 (n + 3) T.a_Lsame T.fd_Lsame ["_law_found", "_law_due"] (spSame K (n + 1)) := by
  have G_Lwhole := ok_Lwhole (P := P) (w := w) (base := base) T
  refine T.F_Lsame.ok sc_Lsame (fun vs H Q E h => ?_) (fun cdv A outer s H vs Q E hr h => ?_)
  · obtain ⟨x, y, d, rfl, _⟩ := h
    rfl
  · obtain ⟨x, y, d, rfl, hx, hy, ok, q⟩ := h
    refine ⟨_, (pss_cons (ps_if (pt_val (pe_callB call_isi (by rfl) T.m_isinstance (by decide +kernel) (pa_cons (pv 1) (pa_cons (pe_bltn (v := .ty "tuple") (by rfl) T.m_tuple (by decide +kernel) rfl) pa_nil)))) (pss_cons (ps_if (PW.pt (pw_or (pt_not (pt_val (pe_callB call_isi (by rfl) T.m_isinstance (by decide +kernel) (pa_cons (pv 0) (pa_cons (pe_bltn (v := .ty "tuple") (by rfl) T.m_tuple (by decide +kernel) rfl) pa_nil))))) (pw_or1 (pt_cmpR op_ne (pe_callB call_len_seq (by rfl) T.m_len (by decide +kernel) (pa_cons (pv 0) pa_nil)) (pe_callB call_len_seq (by rfl) T.m_len (by decide +kernel) (pa_cons (pv 1) pa_nil)) (nomark _))))) (pss_one (ps_ret pe_bl)) pss_nil)
      (pss_one (ps_ret (pe_callB (cr_all rfl) (by rfl) T.m_all (by decide +kernel) (pa_cons (pe_lc (own := [("_law_one", 2), ("_law_other", 3)]) (g := gTup K 2 (gCons (gName 2) (gCons (gName 3) gNil))) (by rfl) sc_Lsame.nd (RZ.pi_zipA (by rfl) T.m_zip (pa_cons (pv 0) (pa_cons (pv 1) pa_nil))) (blkOk_by (own := [("_law_one", 2), ("_law_other", 3)]) (N := ["_law_found", "_law_due", "_law_one", "_law_other"]) (sc := defScope s_Lsame) (by decide +kernel)) (fun _ _ _ _ _ => (pg_tup rfl (pgs_cons (pg_name (i := 2) sc_Lsame.nd rfl (Or.inl rfl)) (pgs_cons (pg_name (i := 3) sc_Lsame.nd rfl (Or.inl rfl)) pgs_nil)))) (fun _ _ _ _ _ => pts_nil) (fun _ _ _ _ _ => (pe_call G_Lsame hr (by rfl) T.g_Lsame T.F_Lsame.kp T.b_Lsame .nil pass0 (pa_cons (pv 2) (pa_cons (pv 3) pa_nil))))) pa_nil))))) pss_nil)
      (pss_cons (ps_if (pt_cmpR op_isN (pv 1) pe_non (nomark _)) (pss_one (ps_ret (pe_cmpR op_isN (pv 0) pe_non (nomark _)))) pss_nil)
      (pss_cons (ps_if (pt_val (pe_callB call_isi (by rfl) T.m_isinstance (by decide +kernel) (pa_cons (pv 1) (pa_cons (pe_bltn (v := .ty "bool") (by rfl) T.m_bool (by decide +kernel) rfl) pa_nil)))) (pss_one (ps_ret (pe_and (pe_callB call_isi (by rfl) T.m_isinstance (by decide +kernel) (pa_cons (pv 0) (pa_cons (pe_bltn (v := .ty "bool") (by rfl) T.m_bool (by decide +kernel) rfl) pa_nil))) (pe_one (pe_cmpR op_eq (pv 0) (pv 1) (nomark _)))))) pss_nil)
      (pss_cons (ps_if (pt_val (pe_callB call_isi (by rfl) T.m_isinstance (by decide +kernel) (pa_cons (pv 1) (pa_cons (pe_bltn (v := .ty "str") (by rfl) T.m_str (by decide +kernel) rfl) pa_nil)))) (pss_one (ps_ret (pe_and (pe_callB call_isi (by rfl) T.m_isinstance (by decide +kernel) (pa_cons (pv 0) (pa_cons (pe_bltn (v := .ty "str") (by rfl) T.m_str (by decide +kernel) rfl) pa_nil))) (pe_one (pe_cmpR op_eq (pv 0) (pv 1) (nomark _)))))) pss_nil)
      (pss_one (ps_ret (pe_and (pe_call G_Lwhole (hr.mono (by omega)) (by rfl) T.g_Lwhole T.F_Lwhole.kp T.b_Lwhole .nil pass0 (pa_cons (pv 0) pa_nil)) (pe_one (pe_cmpR op_eq (pv 0) (pv 1) (nomark _)))))))))), ?_⟩
    have Q0 := q H (Same.refl H)
    cases d with
    | none =>
      cases hx
      cases hy
      exact ⟨.non, rfl, _, _, _, _, false, rfl, .ty _, .base .non, kit_ty (by decide +kernel), _, rfl, iteF ⟨.non, rfl, rfl, _, rfl, iteT ⟨.non, rfl, rfl, Q0⟩⟩⟩
    | bool b =>
      cases hx
      cases hy
      refine ⟨.bl b, rfl, _, _, _, _, false, rfl, .ty _, .base (.bl b), kit_ty (by decide +kernel), _, rfl, iteF ⟨.bl b, rfl, rfl, _, rfl, iteF ?_⟩⟩
      refine ⟨.bl b, rfl, _, _, _, _, true, rfl, .ty _, .base (.bl b), kit_ty (by decide +kernel), _, rfl, iteT ?_⟩
      refine ⟨.bl b, rfl, _, _, _, _, true, rfl, .ty _, .base (.bl b), kit_ty (by decide +kernel), _, rfl, iteT ⟨.bl b, rfl, .bl b, rfl, rfl, ?_⟩⟩
      rw [decide_eq_true rfl]
      exact Q0
    | int i =>
      cases hx
      cases hy
      refine ⟨.int i, rfl, _, _, _, _, false, rfl, .ty _, .base (.int i), kit_ty (by decide +kernel), _, rfl, iteF ⟨.int i, rfl, rfl, _, rfl, iteF ?_⟩⟩
      refine ⟨.int i, rfl, _, _, _, _, false, rfl, .ty _, .base (.int i), kit_ty (by decide +kernel), _, rfl, iteF ?_⟩
      refine ⟨.int i, rfl, _, _, _, _, false, rfl, .ty _, .base (.int i), kit_ty (by decide +kernel), _, rfl, iteF ?_⟩
      refine ⟨.int i, rfl, i, rfl, _, rfl, iteT ⟨.int i, rfl, .int i, rfl, rfl, ?_⟩⟩
      rw [decide_eq_true rfl]
      exact Q0
    | str z =>
      cases hx
      cases hy
      refine ⟨.str z, rfl, _, _, _, _, false, rfl, .ty _, .base (.str z), kit_ty (by decide +kernel), _, rfl, iteF ⟨.str z, rfl, rfl, _, rfl, iteF ?_⟩⟩
      refine ⟨.str z, rfl, _, _, _, _, false, rfl, .ty _, .base (.str z), kit_ty (by decide +kernel), _, rfl, iteF ?_⟩
      refine ⟨.str z, rfl, _, _, _, _, true, rfl, .ty _, .base (.str z), kit_ty (by decide +kernel), _, rfl, iteT ?_⟩
      refine ⟨.str z, rfl, _, _, _, _, true, rfl, .ty _, .base (.str z), kit_ty (by decide +kernel), _, rfl, iteT ⟨.str z, rfl, .str z, rfl, rfl, ?_⟩⟩
      rw [decide_eq_true rfl]
      exact Q0
    | list ds => cases ok
    | dict ds => cases ok
    | tuple ds =>
      cases hx with
      | @tup a xs _ sx ax =>
        cases hy with
        | @tup b ys _ sy ay =>
          have lx := dpa_len ds xs ax
          have ly := dpa_len ds ys ay
          obtain ⟨okL, okA⟩ := Bool.and_eq_true_iff.mp (show (decide (ds.length ≤ 1000) && ds.all fun d => okD n d) = true from ok)
          have okl : ds.length ≤ 1000 := of_decide_eq_true okL
          refine ⟨.ref b, rfl, _, _, _, _, true, rfl, .ty _, ty_tup sy, kit_ty (by decide +kernel), _, rfl, iteT ?_⟩
          refine ⟨.ref a, rfl, _, _, _, _, true, rfl, .ty _, ty_tup sx, kit_ty (by decide +kernel), _, rfl, iteF ?_⟩
          refine ⟨.ref a, rfl, a, xs, rfl, .inr sx, .ref b, rfl, b, ys, rfl, .inr sy, rfl, _, rfl, iteN (by rw [lx, ly]) ?_⟩
          refine ⟨.ref a, rfl, .ref b, rfl, a, b, xs, ys, rfl, .inr ⟨sx, sy, fun D hD => lc_it (walk_zipT (xs := xs) (ys := ys) (n := ds.length) (by omega)) (fun i H' => Same H H' ∧ H' D = some (.lst ((List.replicate i true).map V.bl))) ⟨same_upd hD, upd_same⟩ (fun i H' _ h => ⟨sqt_same h.1 sx, sqt_same h.1 sy⟩) ?_ ?_⟩⟩
          · rintro i v H1 H2 hi ⟨sm, eD⟩ ⟨t, u1, u2, rfl, nt, rfl, e1, e2⟩
            have st : Same H1 (upd H1 t (.tup [u1, u2])) := same_upd nt
            obtain ⟨d1, f1, g1⟩ := dpa_at ds xs ax i u1 e1
            obtain ⟨d2, f2, g2⟩ := dpa_at ds ys ay i u2 e2
            have ed : d2 = d1 := Option.some.inj (f2.symm.trans f1)
            subst ed
            have okd : okD n d2 = true := List.all_eq_true.mp okA d2 (List.mem_of_getElem? f1)
            refine ⟨t, [u1, u2], rfl, .inl (.inl upd_same), rfl, u1, [u2], rfl, u2, [], rfl, rfl, rfl, ?_⟩
            refine ⟨u1, rfl, u2, rfl, u1, u2, d2, rfl, dp_same (sm.trans st) d2 u1 g1, dp_same (sm.trans st) d2 u2 g2, okd, fun H3 s3 => ?_⟩
            refine ⟨_, s3 _ _ (st _ _ eD), ?_, ?_, ?_⟩
            · rw [List.length_map, List.length_replicate]
              exact small1000 (by omega)
            · exact fun b' o e => by
                rw [upd_ne (ne_of_none e hD)]
                exact s3 _ _ (st _ _ (sm _ _ e))
            · rw [upd_same, List.replicate_succ', List.map_append]
              rfl
          · rintro H1 ⟨sm, eD⟩
            refine ⟨_, List.replicate ds.length true, rfl, .inl (.inl eD), ?_⟩
            rw [all_true]
            exact q _ sm
theorem ok_Lsame (T : Top w K mg) : ∀ n : Nat, FnOk P w K mg base CX0 (n + 2) T.a_Lsame T.fd_Lsame ["_law_found", "_law_due"] (spSame K n)
  | 0 => ok_Lsame0 T
  | n + 1 => ok_LsameS T (ok_Lsame T n)
/-! ### data, whatever else stands in the heap -/
def isSeq : HO → Bool
  | .lst _ => true
  | .tup _ => true
  | .frz _ _ => true
  | _ => false
/-- all lists and tuples as they were -/
def Seqs (H H' : Hp) : Prop := ∀ b o, isSeq o = true → H b = some o → H' b = some o
theorem Seqs.of {H H' : Hp} (e : Same H H') : Seqs H H' := fun b o _ h => e b o h
theorem Seqs.trans {H H1 H2 : Hp} (a : Seqs H H1) (b : Seqs H1 H2) : Seqs H H2 := fun c o z h => b c o z (a c o z h)
theorem Seqs.upd {H : Hp} {a : Addr} {o u : HO} (e : H a = some u) (n : isSeq u = false) : Seqs H (L2.upd H a o) := fun b v z h => by
  rw [upd_ne (fun y => by rw [y, e] at h; cases h; rw [n] at z; cases z)]
  exact h
theorem Seqs.new {H : Hp} {a : Addr} {o : HO} (e : H a = none) : Seqs H (L2.upd H a o) := Seqs.of (same_upd e)
theorem seqs_l {K : PySem.W.Frag} {H H' : Hp} {a : Addr} {xs : List V} (e : Seqs H H') (h : SqL K H a xs) : SqL K H' a xs := by
  rcases h with (h | ⟨o, h⟩) | h
  · exact .inl (.inl (e _ _ rfl h))
  · exact .inl (.inr ⟨o, e _ _ rfl h⟩)
  · exact .inr h
theorem seqs_t {K : PySem.W.Frag} {H H' : Hp} {a : Addr} {xs : List V} (e : Seqs H H') (h : SqT K H a xs) : SqT K H' a xs := by
  rcases h with (h | ⟨o, h⟩) | h
  · exact .inl (.inl (e _ _ rfl h))
  · exact .inl (.inr ⟨o, e _ _ rfl h⟩)
  · exact .inr h
mutual
theorem dp_seqs {K : PySem.W.Frag} {H H' : Hp} (e : Seqs H H') : ∀ (d : PyData) (v : V), Dp K H v d → Dp K H' v d
  | .none, _, h => by cases h; exact .non
  | .bool b, _, h => by cases h; exact .bl b
  | .int i, _, h => by cases h; exact .int i
  | .str x, _, h => by cases h; exact .str x
  | .list ds, _, h => by
    cases h with
    | lst hs ha => exact .lst (seqs_l e hs) (dpa_seqs e ds _ ha)
  | .tuple ds, _, h => by
    cases h with
    | tup hs ha => exact .tup (seqs_t e hs) (dpa_seqs e ds _ ha)
  | .dict _, _, h => by cases h
theorem dpa_seqs {K : PySem.W.Frag} {H H' : Hp} (e : Seqs H H') : ∀ (ds : List PyData) (vs : List V), DpAll K H vs ds → DpAll K H' vs ds
  | [], _, h => by cases h; exact .nil
  | d :: ds, _, h => by
    cases h with
    | cons h1 h2 => exact .cons (dp_seqs e d _ h1) (dpa_seqs e ds _ h2)
end
theorem dpa_snoc {K : PySem.W.Frag} {H : Hp} {v : V} {d : PyData} (h : Dp K H v d) : ∀ (ds : List PyData) (vs : List V), DpAll K H vs ds → DpAll K H (vs ++ [v]) (ds ++ [d])
  | [], _, a => by cases a; exact .cons h .nil
  | x :: ds, _, a => by
    cases a with
    | cons h1 h2 => exact .cons h1 (dpa_snoc h ds _ h2)
/-- the heap without the places of X -/
noncomputable def wo (H : Hp) (X : Addr → Prop) : Hp := fun b => by
  classical
  exact if X b then none else H b
theorem wo_in {H : Hp} {X : Addr → Prop} {b : Addr} (h : ¬ X b) : wo H X b = H b := by
  unfold wo
  exact if_neg h
theorem wo_some {H : Hp} {X : Addr → Prop} {b : Addr} {o : HO} (h : wo H X b = some o) : ¬ X b ∧ H b = some o := by
  unfold wo at h
  by_cases hx : X b
  · rw [if_pos hx] at h
    cases h
  · rw [if_neg hx] at h
    exact ⟨hx, h⟩
theorem wo_same {H : Hp} {X : Addr → Prop} : Same (wo H X) H := fun b o h => (wo_some h).2
theorem wo_none {H : Hp} : wo H (fun _ => False) = H := by
  funext b
  exact wo_in (fun h => h)
--@@SPLIT
/-! ### kinds of things -/
theorem ty_lst {K : PySem.W.Frag} {H : Hp} {a : Addr} {xs : List V} (h : SqL K H a xs) : TyX K H (.ref a) (.type "list") := by
  rcases h with (h | ⟨o, h⟩) | ⟨o, its, n, lk, hc, _⟩
  · exact .base (.lst h)
  · exact .base (.frz h)
  · exact .kList lk hc
theorem kit_any2 {K : PySem.W.Frag} {t a b : String} {x y : Bool} (h1 : kitB t a = some x) (h2 : kitB t b = some y) : PySem.W.kitAny K (.type t) [.type a, .type b] = some (x || y) := by
  unfold PySem.W.kitAny
  rw [kit_ty h1]
  cases x with
  | true => rfl
  | false =>
    unfold PySem.W.kitAny
    rw [kit_ty h2]
    cases y <;> rfl
/-- the type's name -/
def tyD : PyData → String
  | .none => "NoneType"
  | .bool _ => "bool"
  | .int _ => "int"
  | .str _ => "str"
  | .list _ => "list"
  | .tuple _ => "tuple"
  | .dict _ => "dict"
theorem ty_dp {K : PySem.W.Frag} {H : Hp} {v : V} {d : PyData} (h : Dp K H v d) : TyX K H v (.type (tyD d)) := by
  cases h with
  | non => exact .base .non
  | bl b => exact .base (.bl b)
  | int i => exact .base (.int i)
  | str z => exact .base (.str z)
  | lst h _ => exact ty_lst h
  | tup h _ => exact ty_tup h
def seqD : PyData → Option (List PyData)
  | .list ds => some ds
  | .tuple ds => some ds
  | _ => none
def strD : PyData → Bool
  | .str _ => true
  | _ => false
theorem kit_seq (d : PyData) : ∃ x y, kitB (tyD d) "tuple" = some x ∧ kitB (tyD d) "list" = some y ∧ (x || y) = (seqD d).isSome := by
  cases d with
  | list ds => exact ⟨false, true, by show kitB "list" "tuple" = some false; decide +kernel, by show kitB "list" "list" = some true; decide +kernel, rfl⟩
  | tuple ds => exact ⟨true, false, by show kitB "tuple" "tuple" = some true; decide +kernel, by show kitB "tuple" "list" = some false; decide +kernel, rfl⟩
  | none => exact ⟨false, false, by show kitB "NoneType" "tuple" = some false; decide +kernel, by show kitB "NoneType" "list" = some false; decide +kernel, rfl⟩
  | bool b => exact ⟨false, false, by show kitB "bool" "tuple" = some false; decide +kernel, by show kitB "bool" "list" = some false; decide +kernel, rfl⟩
  | int i => exact ⟨false, false, by show kitB "int" "tuple" = some false; decide +kernel, by show kitB "int" "list" = some false; decide +kernel, rfl⟩
  | str z => exact ⟨false, false, by show kitB "str" "tuple" = some false; decide +kernel, by show kitB "str" "list" = some false; decide +kernel, rfl⟩
  | dict z => exact ⟨false, false, by show kitB "dict" "tuple" = some false; decide +kernel, by show kitB "dict" "list" = some false; decide +kernel, rfl⟩
theorem kit_str (d : PyData) : kitB (tyD d) "str" = some (strD d) := by
  cases d with
  | list ds => show kitB "list" "str" = some false; decide +kernel
  | tuple ds => show kitB "tuple" "str" = some false; decide +kernel
  | none => show kitB "NoneType" "str" = some false; decide +kernel
  | bool b => show kitB "bool" "str" = some false; decide +kernel
  | int i => show kitB "int" "str" = some false; decide +kernel
  | str z => show kitB "str" "str" = some true; decide +kernel
  | dict z => show kitB "dict" "str" = some false; decide +kernel
def SqA (K : PySem.W.Frag) (H : Hp) (a : Addr) (xs : List V) : Prop := SqL K H a xs ∨ SqT K H a xs
theorem SqA.same {K : PySem.W.Frag} {H H' : Hp} {a : Addr} {xs : List V} (e : Same H H') (h : SqA K H a xs) : SqA K H' a xs := h.elim (fun h => .inl (e.seq h)) (fun h => .inr (sqt_same e h))
theorem seq_dp {K : PySem.W.Frag} {H : Hp} {v : V} {d : PyData} {ds : List PyData} (h : Dp K H v d) (e : seqD d = some ds) : ∃ a xs, v = .ref a ∧ SqA K H a xs ∧ DpAll K H xs ds := by
  cases h with
  | lst h a => cases e; exact ⟨_, _, rfl, .inl h, a⟩
  | tup h a => cases e; exact ⟨_, _, rfl, .inr h, a⟩
  | _ => cases e
theorem ixA {K : PySem.W.Frag} {H : Hp} {a : Addr} {xs : List V} {j : Nat} {v : V} {Q : VK} (h : SqA K H a xs) (hj : xs[j]? = some v) (q : Q v H) : rIx K (.ref a) (.int (j : Int)) H Q :=
  h.elim (fun h => .inl ⟨a, xs, j, v, rfl, rfl, h, atI_nat hj, q⟩) (fun h => .inr (.inl ⟨a, xs, j, v, rfl, rfl, h, atI_nat hj, q⟩))
theorem kpA {K : PySem.W.Frag} {H : Hp} {a : Addr} {xs : List V} (h : SqA K H a xs) : (∀ H', Same H H' → SqL K H' a xs) ∨ (∀ H', Same H H' → SqT K H' a xs) := h.elim (fun h => .inl fun _ s => s.seq h) (fun h => .inr fun _ s => sqt_same s h)
/-! ### what is kept: things laid out, then made anew from the end on -/
mutual
def siz : PyData → Nat
  | .list ds => 1 + sizs ds
  | .tuple ds => 1 + sizs ds
  | _ => 1
def sizs : List PyData → Nat
  | [] => 0
  | d :: ds => siz d + sizs ds
end
theorem siz_pos : ∀ d : PyData, 1 ≤ siz d
  | .list ds => by unfold siz; omega
  | .tuple ds => by unfold siz; omega
  | .none => by unfold siz; omega
  | .bool _ => by unfold siz; omega
  | .int _ => by unfold siz; omega
  | .str _ => by unfold siz; omega
  | .dict _ => by unfold siz; omega
theorem sizs_len : ∀ ds : List PyData, ds.length ≤ sizs ds
  | [] => by unfold sizs; exact Nat.le_refl _
  | d :: ds => by
    have := siz_pos d
    have := sizs_len ds
    unfold sizs
    rw [List.length_cons]
    omega
theorem sizs_app : ∀ (a b : List PyData), sizs (a ++ b) = sizs a + sizs b
  | [], b => by
    show sizs b = sizs [] + sizs b
    have : sizs [] = 0 := by unfold sizs; rfl
    omega
  | d :: a, b => by
    have := sizs_app a b
    show sizs (d :: (a ++ b)) = sizs (d :: a) + sizs b
    have e1 : sizs (d :: (a ++ b)) = siz d + sizs (a ++ b) := by rw [sizs]
    have e2 : sizs (d :: a) = siz d + sizs a := by rw [sizs]
    omega
theorem siz_seq {d : PyData} {cs : List PyData} (h : seqD d = some cs) : siz d = 1 + sizs cs := by
  cases d with
  | list ds => cases h; rw [siz]
  | tuple ds => cases h; rw [siz]
  | _ => cases h
theorem siz_flat {d : PyData} (h : seqD d = none) : siz d = 1 := by
  cases d with
  | list ds => cases h
  | tuple ds => cases h
  | _ => simp [siz]
theorem siz_int (i : Int) : siz (.int i) ≤ 1000 := by simp [siz]
theorem siz_str (z : Str) : siz (.str z) ≤ 1000 := by simp [siz]
theorem dpa_app {K : PySem.W.Frag} {H : Hp} : ∀ (ds es : List PyData) (xs ys : List V), DpAll K H xs ds → DpAll K H ys es → DpAll K H (xs ++ ys) (ds ++ es)
  | [], _, _, _, h, g => by cases h; exact g
  | d :: ds, es, _, ys, h, g => by
    cases h with
    | cons h1 h2 => exact .cons h1 (dpa_app ds es _ ys h2 g)
theorem dpa_dropK {K : PySem.W.Frag} {H : Hp} : ∀ (n : Nat) (ds : List PyData) (xs : List V), DpAll K H xs ds → DpAll K H (xs.drop n) (ds.drop n)
  | 0, _, _, h => h
  | n + 1, [], _, h => by cases h; exact .nil
  | n + 1, d :: ds, _, h => by
    cases h with
    | cons h1 h2 => exact dpa_dropK n ds _ h2
theorem dpa_takeK {K : PySem.W.Frag} {H : Hp} : ∀ (n : Nat) (ds : List PyData) (xs : List V), DpAll K H xs ds → DpAll K H (xs.take n) (ds.take n)
  | 0, _, _, _ => .nil
  | n + 1, [], _, h => by cases h; exact .nil
  | n + 1, d :: ds, _, h => by
    cases h with
    | cons h1 h2 => exact .cons h1 (dpa_takeK n ds _ h2)
theorem dpa_setK {K : PySem.W.Frag} {H : Hp} {v : V} {d : PyData} (hv : Dp K H v d) : ∀ (n : Nat) (ds : List PyData) (xs : List V), DpAll K H xs ds → ds[n]? = some d → DpAll K H (xs.set n v) ds
  | _, [], _, h, e => by cases e
  | 0, d' :: ds, _, h, e => by
    cases e
    cases h with
    | cons h1 h2 => exact .cons hv h2
  | n + 1, d' :: ds, _, h, e => by
    cases h with
    | cons h1 h2 => exact .cons h1 (dpa_setK hv n ds _ h2 e)
/-- where the parts of each of the first ones begin -/
def LaidTo (i : Nat) (ds : List PyData) (bs : List Int) : Prop := ∀ (j : Nat) (d : PyData) (cs : List PyData), j < i → ds[j]? = some d → seqD d = some cs → ∃ b : Nat, bs[j]? = some (b : Int) ∧ (ds.drop b).take cs.length = cs
theorem laid_more {i : Nat} {ds : List PyData} {bs : List Int} (hi : i ≤ ds.length) (h : LaidTo i ds bs) (es : List PyData) : LaidTo i (ds ++ es) bs := fun j d cs hj hd hs => by
  have l : j < ds.length := by omega
  · rw [List.getElem?_append_left l] at hd
    obtain ⟨b, h1, h2⟩ := h j d cs hj hd hs
    refine ⟨b, h1, ?_⟩
    have hl : cs.length ≤ (ds.drop b).length := by
      have := congrArg List.length h2
      rw [List.length_take] at this
      omega
    by_cases hb : b ≤ ds.length
    · rw [List.drop_append_of_le_length hb, List.take_append_of_le_length hl]
      exact h2
    · have h0 : (ds.drop b).length = 0 := by rw [List.length_drop]; omega
      have : cs = [] := List.eq_nil_of_length_eq_zero (by omega)
      rw [this]
      rfl
def spRowD (K : PySem.W.Frag) : Sp := fun vs H Q _ => ∃ (v : V) (d : PyData), vs = [v] ∧ Dp K H v d ∧ ∀ H', Same H H' → Q (.bl (seqD d).isSome) H'
theorem ok_is_row (T : Top w K mg) : FnOk P w K mg base CX0 1 T.a_is_row T.fd_is_row ["thing"] (spRowD K) := by
  refine T.F_is_row.ok sc_is_row (fun vs H Q E h => ?_) (fun cdv A outer s H vs Q E hr h => ?_)
  · obtain ⟨v, d, rfl, _⟩ := h
    rfl
  · obtain ⟨v, d, rfl, hd, q⟩ := h
    refine ⟨_, (pss_one (ps_ret (pe_callB call_isiT (by rfl) T.m_isinstance (by decide +kernel) (pa_cons (pv 0) (pa_cons (pe_tup (pa_cons (pe_bltn (v := .ty "tuple") (by rfl) T.m_tuple (by decide +kernel) rfl) (pa_cons (pe_bltn (v := .ty "list") (by rfl) T.m_list (by decide +kernel) rfl) pa_nil))) pa_nil))))), ?_⟩
    obtain ⟨x, y, k1, k2, exy⟩ := kit_seq d
    refine ⟨v, rfl, by show 2 ≤ sizeLine; decide, fun tp np => ⟨v, tp, _, _, _, _, rfl, upd_same, .cons (.ty _) (.cons (.ty _) .nil), ty_dp (dp_same (same_upd np) d v hd), kit_any2 k1 k2, ?_⟩⟩
    rw [exy]
    exact q _ (same_upd np)
theorem cut_nat (xs : List V) (b n : Nat) (h : b + n ≤ xs.length) : cutV xs (some (b : Int)) (some ((b : Int) + (n : Int))) = (xs.drop b).take n := by
  unfold cutV
  have e1 : HT.sIx xs.length 0 (some (b : Int)) = b := by
    unfold HT.sIx
    simp only []
    split <;> omega
  have e2 : HT.sIx xs.length xs.length (some ((b : Int) + (n : Int))) = b + n := by
    unfold HT.sIx
    simp only []
    split <;> omega
  rw [e1, e2, Nat.add_sub_cancel_left]
theorem cut_bl (as : List Bool) (lo hi : Option Int) : ∃ cs : List Bool, cutV (as.map V.bl) lo hi = cs.map V.bl := by
  unfold cutV
  exact ⟨_, by rw [← List.map_drop, ← List.map_take]⟩
def spKept (K : PySem.W.Frag) : Sp := fun vs H Q _ => ∃ (v : V) (d : PyData), vs = [v] ∧ siz d ≤ 1000 ∧ Dp K H v d ∧ ∀ H' v', Same H H' → Dp K H' v' d → Q v' H'
def spLaid (K : PySem.W.Frag) : Sp := fun vs H Q _ => ∃ (v : V) (d : PyData), vs = [v] ∧ siz d ≤ 1000 ∧ Dp K H v d ∧
  ∀ H' r t b xs ds bs, Same H H' → H t = none → H b = none → t ≠ b → H' t = some (.lst xs) → H' b = some (.lst (bs.map V.int)) → H' r = some (.tup [.ref t, .ref b]) → DpAll K H xs ds → LaidTo ds.length ds bs → bs.length = ds.length → ds[0]? = some d → ds.length ≤ 1000 → Q (.ref r) H'
theorem ok_laid_out (T : Top w K mg) : FnOk P w K mg base CX0 2 T.a_laid_out T.fd_laid_out ["thing"] (spLaid K) := by
  have G_is_row := ok_is_row (P := P) (w := w) (base := base) T
  refine T.F_laid_out.ok sc_laid_out (fun vs H Q E h => ?_) (fun cdv A outer s H vs Q E hr h => ?_)
  · obtain ⟨v, d, rfl, _⟩ := h
    rfl
  · obtain ⟨v, d, rfl, hz, hd, q⟩ := h
    refine ⟨_, (pss_cons (ps_set (i := 1) sc_laid_out.nd rfl (.inl rfl) (pe_lst (pa_cons (pv 0) pa_nil)))
      (pss_cons (ps_set (i := 2) sc_laid_out.nd rfl (.inl rfl) (pe_lst pa_nil))
      (pss_cons (ps_while PassesOwn.never (pt_cmpR op_lt (pe_callB call_len_seq (by rfl) T.m_len (by decide +kernel) (pa_cons (pv 2) pa_nil)) (pe_callB call_len_seq (by rfl) T.m_len (by decide +kernel) (pa_cons (pv 1) pa_nil)) (nomark _)) (pss_cons (ps_set (i := 3) sc_laid_out.nd rfl (.inl rfl) (pe_ix ix_list (pv 1) (pe_callB call_len_seq (by rfl) T.m_len (by decide +kernel) (pa_cons (pv 2) pa_nil)) (fun _ _ => rfl)))
      (pss_cons (ps_expr (pe_bm PySem.F.plainAttrs_list PySem.F.slot_list_append PySem.F.type_list_append mt_append (pv 2) (pa_cons (pe_callB call_len_seq (by rfl) T.m_len (by decide +kernel) (pa_cons (pv 1) pa_nil)) pa_nil)))
      (pss_one (ps_if (pt_val (pe_call G_is_row hr (by rfl) T.g_is_row T.F_is_row.kp T.b_is_row .nil pass0 (pa_cons (pv 3) pa_nil))) (pss_one (ps_expr (pe_bm PySem.F.plainAttrs_list PySem.F.slot_list_extend PySem.F.type_list_extend mt_extend (pv 1) (pa_cons (pe_callTy call_list_of (by rfl) T.m_list (by decide +kernel) (pa_cons (pv 3) pa_nil)) pa_nil)))) pss_nil)))))
      (pss_one (ps_ret (pe_tup (pa_cons (pv 1) (pa_cons (pv 2) pa_nil)))))))), ?_⟩
    refine ⟨v, rfl, by show 1 ≤ sizeLine; decide, fun t nt => ?_⟩
    refine ⟨Nat.zero_le _, fun b nb => ?_⟩
    have s1 := same_upd (o := .lst [v]) nt
    have s2 := same_upd (o := .lst []) nb
    have tb : t ≠ b := fun z => by
      rw [← z, upd_same] at nb
      cases nb
    have nb0 : H b = none := s1.free nb
    refine ⟨fun m σ H1 => ∃ xs ds bs y, σ = [some v, some (.ref t), some (.ref b), y] ∧ Same H H1 ∧ H1 t = some (.lst xs) ∧ H1 b = some (.lst (bs.map V.int)) ∧ DpAll K H xs ds ∧ bs.length ≤ ds.length ∧ LaidTo bs.length ds bs ∧ ds[0]? = some d ∧ m = sizs (ds.drop bs.length) ∧ bs.length + m = siz d, ⟨siz d, [v], [d], [], none, rfl, s1.trans s2, s2 _ _ upd_same, upd_same, .cons hd .nil, Nat.zero_le _, (fun j d cs hj => absurd hj (Nat.not_lt_zero j)), rfl, ?_, Nat.zero_add _⟩, ?_⟩
    · show siz d = sizs [d]
      rw [sizs, sizs]
      rfl
    · rintro m σ H1 ⟨xs, ds, bs, y, rfl, sm, et, eb, ha, hl, hlaid, h0, hm, hsum⟩
      have lx := dpa_len ds xs ha
      refine ⟨.ref b, rfl, b, _, rfl, .inl (.inl (.inl eb)), .ref t, rfl, t, _, rfl, .inl (.inl (.inl et)), _, _, rfl, rfl, _, rfl, ite2 (fun e => ?_) (fun e => ?_)⟩
      · have hi : bs.length < ds.length := by
          have := of_decide_eq_true e
          rw [List.length_map] at this
          omega
        obtain ⟨di, fi⟩ : ∃ di, ds[bs.length]? = some di := ⟨_, List.getElem?_eq_getElem hi⟩
        obtain ⟨x, gx⟩ : ∃ x, xs[bs.length]? = some x := ⟨_, List.getElem?_eq_getElem (by omega)⟩
        have hx : Dp K H x di := by
          obtain ⟨d', e1, e2⟩ := dpa_at ds xs ha _ x gx
          rw [fi] at e1
          cases e1
          exact e2
        have dr : ds.drop bs.length = di :: ds.drop (bs.length + 1) := by
          obtain ⟨h1, h2⟩ := List.getElem?_eq_some_iff.mp fi
          rw [List.drop_eq_getElem_cons h1, h2]
        have m1 : m = siz di + sizs (ds.drop (bs.length + 1)) := by rw [hm, dr, sizs]
        have lds : ds.length ≤ siz d := by
          have := sizs_len (ds.drop bs.length)
          rw [List.length_drop] at this
          omega
        refine ⟨fun σ' H' => ∃ m', m' < m ∧ _, fun _ _ h => h, ?_⟩
        refine ⟨.ref t, rfl, .ref b, rfl, b, _, rfl, .inl (.inl (.inl eb)), t, xs, _, x, rfl, rfl, .inl (.inl et), atI_nat (by rw [List.length_map]; exact gx), ?_⟩
        refine ⟨.ref b, rfl, .inl ⟨rfl, _, .inl (.inl eb)⟩, .ref t, rfl, t, _, rfl, .inl (.inl (.inl et)), b, _, _, rfl, rfl, eb, small1000 (by rw [List.length_map]; omega), ?_⟩
        have sb := same_upd (o := .lst (bs.map V.int ++ [.int (xs.length : Nat)])) nb0
        have s3 : Same H (upd H1 b (.lst (bs.map V.int ++ [.int (xs.length : Nat)]))) := fun c o h => by
          rw [upd_ne (ne_of_none h nb0)]
          exact sm _ _ h
        have eb2 : (bs ++ [((xs.length : Nat) : Int)]).map V.int = bs.map V.int ++ [.int (xs.length : Nat)] := by rw [List.map_append]; rfl
        have lb2 : (bs ++ [((xs.length : Nat) : Int)]).length = bs.length + 1 := by rw [List.length_append]; rfl
        have old : ∀ es, LaidTo bs.length (ds ++ es) (bs ++ [((xs.length : Nat) : Int)]) := fun es j d' cs hj h1 h2 => by
          obtain ⟨b0, g1, g2⟩ := laid_more hl hlaid es j d' cs hj h1 h2
          exact ⟨b0, by rw [List.getElem?_append_left hj]; exact g1, g2⟩
        refine ⟨x, rfl, x, di, rfl, dp_same s3 di x hx, fun H4 s4 => ⟨_, rfl, ?_⟩⟩
        cases e : seqD di with
        | none =>
          refine iteF ⟨sizs (ds.drop (bs.length + 1)), by have := siz_pos di; omega, xs, ds, bs ++ [((xs.length : Nat) : Int)], _, rfl, s3.trans s4, s4 _ _ (by rw [upd_ne tb]; exact et), s4 _ _ (by rw [eb2]; exact upd_same), ha, by omega, fun j d' cs hj h1 h2 => ?_, h0, by rw [lb2], ?_⟩
          · rw [lb2] at hj
            by_cases ej : j = bs.length
            · rw [ej, fi] at h1
              cases h1
              rw [e] at h2
              cases h2
            · have := old [] j d' cs (by omega) (by rw [List.append_nil]; exact h1) h2
              rw [List.append_nil] at this
              exact this
          · have := siz_flat e
            omega
        | some cs =>
          obtain ⟨p, ys, rfl, hs, hc⟩ := seq_dp hx e
          have lc := dpa_len cs ys hc
          have zc := siz_seq e
          have lcs := sizs_len cs
          have ldr := sizs_len (ds.drop (bs.length + 1))
          rw [List.length_drop] at ldr
          refine iteT ⟨.ref t, rfl, .inl ⟨rfl, _, .inl (.inl (s4 _ _ (by rw [upd_ne tb]; exact et)))⟩, .ref p, rfl, p, ys, rfl, hs.elim (fun h => .inl ((s3.trans s4).seq h)) (fun h => .inr (sqt_same (s3.trans s4) h)), fun l nl => ?_⟩
          have et4 := s4 _ _ (show upd H1 b (.lst (bs.map V.int ++ [.int (xs.length : Nat)])) t = some (.lst xs) by rw [upd_ne tb]; exact et)
          have eb4 := s4 b _ upd_same
          have lt : t ≠ l := ne_of_none et4 nl
          have lb : b ≠ l := ne_of_none eb4 nl
          refine ⟨t, l, xs, ys, rfl, rfl, by rw [upd_ne lt]; exact et4, upd_same, Nat.le_of_lt (small1000 (by omega)), ?_⟩
          refine ⟨sizs ((ds ++ cs).drop (bs.length + 1)), ?_, xs ++ ys, ds ++ cs, bs ++ [((xs.length : Nat) : Int)], _, rfl, fun c o h => ?_, upd_same, ?_, dpa_app ds cs xs ys ha hc, ?_, fun j d' cs' hj h1 h2 => ?_, ?_, by rw [lb2], ?_⟩
          · rw [List.drop_append_of_le_length (by omega), sizs_app]
            omega
          · rw [upd_ne (ne_of_none h nt), upd_ne (ne_of_none ((s3.trans s4) _ _ h) nl)]
            exact (s3.trans s4) _ _ h
          · rw [upd_ne (Ne.symm tb), upd_ne lb, eb2]
            exact eb4
          · rw [lb2, List.length_append]
            omega
          · rw [lb2] at hj
            by_cases ej : j = bs.length
            · rw [ej, List.getElem?_append_left hi, fi] at h1
              cases h1
              rw [e] at h2
              cases h2
              refine ⟨ds.length, ?_, ?_⟩
              · rw [ej, List.getElem?_append_right (Nat.le_refl _), Nat.sub_self, lx]
                rfl
              · rw [List.drop_left, List.take_of_length_le (Nat.le_refl _)]
            · exact old cs j d' cs' (by omega) h1 h2
          · rw [List.getElem?_append_left (by omega)]
            exact h0
          · rw [List.drop_append_of_le_length (by omega), sizs_app]
            omega
      · have hi : bs.length = ds.length := by
          have : ¬ ((bs.map V.int).length : Int) < (xs.length : Int) := fun z => e (decide_eq_true z)
          rw [List.length_map] at this
          omega
        refine ⟨.ref t, rfl, .ref b, rfl, by show 2 ≤ sizeLine; decide, fun r nr => ?_⟩
        have sr := same_upd (o := .tup [.ref t, .ref b]) nr
        exact q _ r t b xs ds bs (sm.trans sr) nt nb0 tb (sr _ _ et) (sr _ _ eb) upd_same ha (by rw [← hi]; exact hlaid) hi h0 (by omega)
theorem ok_kept (T : Top w K mg) : FnOk P w K mg base CX0 3 T.a_kept T.fd_kept ["thing"] (spKept K) := by
  have G_is_row := ok_is_row (P := P) (w := w) (base := base) T
  have G_laid_out := ok_laid_out (P := P) (w := w) (base := base) T
  refine T.F_kept.ok sc_kept (fun vs H Q E h => ?_) (fun cdv A outer s H vs Q E hr h => ?_)
  · obtain ⟨v, d, rfl, _⟩ := h
    rfl
  · obtain ⟨v, d, rfl, hz, hd, q⟩ := h
    refine ⟨_, (pss_cons (ps_asg (pe_call G_laid_out hr (by rfl) T.g_laid_out T.F_laid_out.kp T.b_laid_out .nil pass0 (pa_cons (pv 0) pa_nil)) (pg_tup rfl (pgs_cons (pg_name (i := 1) sc_kept.nd rfl (.inl rfl)) (pgs_cons (pg_name (i := 2) sc_kept.nd rfl (.inl rfl)) pgs_nil))))
      (pss_cons (ps_set (i := 3) sc_kept.nd rfl (.inl rfl) (pe_callB call_len_seq (by rfl) T.m_len (by decide +kernel) (pa_cons (pv 1) pa_nil)))
      (pss_cons (ps_set (i := 4) sc_kept.nd rfl (.inl rfl) (pe_op op_rep (pe_lst (pa_cons pe_bl pa_nil)) (pv 3)))
      (pss_cons (ps_while PassesOwn.never (pt_cmpR op_gt (pv 3) pe_int (nomark _)) (pss_cons (ps_aug (i := 3) sc_kept.nd rfl (.inl rfl) pe_int ip_sub)
      (pss_cons (ps_set (i := 5) sc_kept.nd rfl (.inl rfl) (pe_ix ix_list (pv 1) (pv 3) (fun _ _ => rfl)))
      (pss_one (ps_if (pt_val (pe_call G_is_row (hr.mono (by decide)) (by rfl) T.g_is_row T.F_is_row.kp T.b_is_row .nil pass0 (pa_cons (pv 5) pa_nil))) (pss_cons (ps_par (i := 6) (j := 7) (by rfl) sc_kept.nd rfl rfl (by decide) rfl rfl (pa_cons (pe_ix ix_list (pv 2) (pv 3) (fun _ _ => rfl)) (pa_cons (pe_op op_add (pe_ix ix_list (pv 2) (pv 3) (fun _ _ => rfl)) (pe_callB call_len_seq (by rfl) T.m_len (by decide +kernel) (pa_cons (pv 5) pa_nil))) pa_nil)) (by rfl))
      (Evl.pss_cut (ps_asg (pe_or (pe_callB call_isi (by rfl) T.m_isinstance (by decide +kernel) (pa_cons (pv 5) (pa_cons (pe_bltn (v := .ty "list") (by rfl) T.m_list (by decide +kernel) rfl) pa_nil))) (pe_one (pe_callB (cr_any rfl) (by rfl) T.m_any (by decide +kernel) (pa_cons (pe_slice sl_list (pv 4) (po_some (pv 6)) (po_some (pv 7))) pa_nil)))) (pg_sub (pv 4) (pv 3) set_list))
      (pss_one (ps_if (pt_val (pe_ix ix_list (pv 4) (pv 3) (fun _ _ => rfl))) (pss_one (ps_asg (pe_ifExp (pt_val (pe_callB call_isi (by rfl) T.m_isinstance (by decide +kernel) (pa_cons (pv 5) (pa_cons (pe_bltn (v := .ty "list") (by rfl) T.m_list (by decide +kernel) rfl) pa_nil)))) (pe_slice sl_list (pv 1) (po_some (pv 6)) (po_some (pv 7))) (pe_callTy call_tuple_of (by rfl) T.m_tuple (by decide +kernel) (pa_cons (pe_slice sl_list (pv 1) (po_some (pv 6)) (po_some (pv 7))) pa_nil))) (pg_sub (pv 1) (pv 3) set_list))) pss_nil)))) pss_nil)))))
      (pss_one (ps_ret (pe_ix ix_list (pv 1) pe_int (fun _ _ => rfl)))))))), ?_⟩
    refine ⟨v, rfl, v, d, rfl, hz, hd, fun H1 r t b xs ds bs sm nt nb tb et eb er ha hlaid hlb h0 hl => ?_⟩
    have lx := dpa_len ds xs ha
    refine ⟨r, _, rfl, .inl (.inl er), rfl, _, _, rfl, _, _, rfl, rfl, ?_⟩
    refine ⟨.ref t, rfl, t, xs, rfl, .inl (.inl (.inl et)), ?_⟩
    have sl : xs.length ≤ sizeLine := Nat.le_of_lt (small1000 (by omega))
    refine ⟨by show 1 ≤ sizeLine; decide, fun l nl => ?_⟩
    have s1 := same_upd (o := .lst [.bl false]) nl
    refine ⟨.int (xs.length : Nat), rfl, l, _, _, rfl, rfl, upd_same, by omega, by have : sizeLine < 2 ^ 63 := by decide
                                                                                   omega, ?_, fun a na => ?_⟩
    · show 1 * (xs.length : Int).toNat ≤ sizeLine
      omega
    have s2 := same_upd (o := .lst (List.replicate (xs.length : Int).toNat [V.bl false]).flatten) na
    have ea : ∃ as : List Bool, (List.replicate (xs.length : Int).toNat [V.bl false]).flatten = as.map V.bl ∧ as.length = ds.length := ⟨List.replicate ds.length false, by simp [lx], by simp⟩
    obtain ⟨as, ea1, ea2⟩ := ea
    have ma : upd (upd H1 l (.lst [.bl false])) a (.lst (List.replicate (xs.length : Int).toNat [V.bl false]).flatten) a = some (.lst (as.map V.bl)) := by rw [upd_same, ea1]
    have ta : t ≠ a := ne_of_none (s1 _ _ et) na
    have ba : b ≠ a := ne_of_none (s1 _ _ eb) na
    have na0 : H a = none := sm.free (s1.free na)
    refine ⟨fun m σ H2 => ∃ xs as y5 y6 y7, σ = [some v, some (.ref t), some (.ref b), some (.int (m : Nat)), some (.ref a), y5, y6, y7] ∧ m ≤ ds.length ∧ Same H H2 ∧ H2 t = some (.lst xs) ∧ H2 b = some (.lst (bs.map V.int)) ∧ H2 a = some (.lst (as.map V.bl)) ∧ as.length = ds.length ∧ DpAll K (wo H2 (fun c => c = t ∨ c = b ∨ c = a)) xs ds, ⟨ds.length, xs, as, none, none, none, by rw [lx]; rfl, Nat.le_refl _, (sm.trans s1).trans s2, (s1.trans s2) _ _ et, (s1.trans s2) _ _ eb, ma, ea2, ?_⟩, ?_⟩
    · refine dpa_same (fun c o h => ?_) _ _ ha
      rw [wo_in (fun z => by
        rcases z with z | z | z
        · rw [z, nt] at h; cases h
        · rw [z, nb] at h; cases h
        · rw [z, na0] at h; cases h)]
      exact ((sm.trans s1).trans s2) _ _ h
    · rintro m σ H2 ⟨xs, as, y5, y6, y7, rfl, hm, sm2, et2, eb2, ea2, la, ha2⟩
      have lx := dpa_len ds xs ha2
      refine ⟨.int (m : Nat), rfl, _, _, rfl, rfl, _, rfl, ite2 (fun e => ?_) (fun e => ?_)⟩
      · have mp : 0 < m := by
          have := of_decide_eq_true e
          omega
        obtain ⟨j, rfl⟩ : ∃ j, m = j + 1 := ⟨m - 1, by omega⟩
        refine ⟨fun σ' H' => ∃ m', m' < j + 1 ∧ _, fun _ _ h => h, ?_⟩
        refine ⟨_, rfl, _, _, rfl, rfl, ?_⟩
        have ej : ((j + 1 : Nat) : Int) - 1 = (j : Nat) := by omega
        obtain ⟨dj, fj⟩ : ∃ dj, ds[j]? = some dj := ⟨_, List.getElem?_eq_getElem (by omega)⟩
        obtain ⟨x, gx⟩ : ∃ x, xs[j]? = some x := ⟨_, List.getElem?_eq_getElem (by omega)⟩
        have hx : Dp K (wo H2 (fun c => c = t ∨ c = b ∨ c = a)) x dj := by
          obtain ⟨d', e1, e2⟩ := dpa_at ds xs ha2 _ x gx
          rw [fj] at e1
          cases e1
          exact e2
        have hx2 := dp_same wo_same dj x hx
        have atj : ∀ {α : Type} {l : List α} {y : α}, l[j]? = some y → atI l (((j + 1 : Nat) : Int) - 1) = some y := fun h => by
          rw [ej]
          exact atI_nat h
        refine ⟨.ref t, rfl, _, rfl, t, xs, _, x, rfl, rfl, .inl (.inl et2), atj gx, ?_⟩
        refine ⟨x, rfl, x, dj, rfl, hx2, fun H3 s3 => ⟨_, rfl, ?_⟩⟩
        have keep : ∀ {H4 : Hp}, Same H2 H4 → Same (wo H2 (fun c => c = t ∨ c = b ∨ c = a)) (wo H4 (fun c => c = t ∨ c = b ∨ c = a)) := fun {H4} s4 c o h => by
          have h2 := wo_some h
          rw [wo_in h2.1]
          exact s4 _ _ h2.2
        cases e : seqD dj with
        | none => exact iteF ⟨j, Nat.lt_succ_self j, xs, as, some x, y6, y7, by rw [← ej]; rfl, by omega, sm2.trans s3, s3 _ _ et2, s3 _ _ eb2, s3 _ _ ea2, la, dpa_same (keep s3) _ _ ha2⟩
        | some cs =>
          obtain ⟨p, ys, rfl, hs, hc⟩ := seq_dp hx2 e
          have lc := dpa_len cs ys hc
          obtain ⟨b0, g1, g2⟩ := hlaid j dj cs (by omega) fj e
          have lcs : b0 + cs.length ≤ ds.length ∨ cs.length = 0 := by
            have := congrArg List.length g2
            rw [List.length_take, List.length_drop] at this
            omega
          have gb : (bs.map V.int)[j]? = some (.int (b0 : Int)) := by rw [List.getElem?_map, g1]; rfl
          have ty3 := ty_dp (dp_same s3 dj _ hx2)
          obtain ⟨x1, y1, k1, k2, exy⟩ := kit_seq dj
          refine iteT ⟨.ref b, rfl, _, rfl, b, _, _, _, rfl, rfl, .inl (.inl (s3 _ _ eb2)), atj gb, .ref b, rfl, _, rfl, b, _, _, _, rfl, rfl, .inl (.inl (s3 _ _ eb2)), atj gb, .ref p, rfl, p, ys, rfl, hs.elim (fun h => .inl (s3.seq h)) (fun h => .inr (sqt_same s3 h)), _, _, rfl, rfl, _, _, rfl, ?_⟩
          refine ⟨fun σ' H4 => ∃ as' : List Bool, σ' = [some v, some (.ref t), some (.ref b), some (.int (((j + 1 : Nat) : Int) - 1)), some (.ref a), some (.ref p), some (.int (b0 : Int)), some (.int ((b0 : Int) + (ys.length : Nat)))] ∧ as'.length = ds.length ∧ H4 a = some (.lst (as'.map V.bl)) ∧ ∀ c o, c ≠ a → H2 c = some o → H4 c = some o, ?_, ?_⟩
          · have put : ∀ (z : Bool) (H4 : Hp), Same H3 H4 → ∃ p xs k j', V.ref a = .ref p ∧ V.int (((j + 1 : Nat) : Int) - 1) = .int k ∧ H4 p = some (.lst xs) ∧ ixN xs.length k = some j' ∧ ∃ as' : List Bool, as'.length = ds.length ∧ upd H4 p (.lst (xs.set j' (.bl z))) a = some (.lst (as'.map V.bl)) ∧ ∀ c o, c ≠ a → H2 c = some o → upd H4 p (.lst (xs.set j' (.bl z))) c = some o := fun z H4 s4 => by
              refine ⟨a, as.map V.bl, _, j, rfl, rfl, s4 _ _ (s3 _ _ ea2), by rw [ej]; exact Evl.ixN_nat (by rw [List.length_map]; omega), as.set j z, by rw [List.length_set]; exact la, by rw [upd_same, List.map_set], fun c o hc h => ?_⟩
              rw [upd_ne hc]
              exact s4 _ _ (s3 _ _ h)
            refine ⟨.ref p, rfl, _, _, _, _, y1, rfl, .ty _, ty3, kit_ty k2, _, rfl, ?_⟩
            cases y1 with
            | true =>
              refine iteT ⟨.ref a, rfl, _, rfl, ?_⟩
              obtain ⟨p', xs', k', j', h1, h2, h3, h4, as', h5, h6, h7⟩ := put true H3 (Same.refl _)
              exact ⟨p', xs', k', j', h1, h2, h3, h4, as', rfl, h5, h6, h7⟩
            | false =>
              obtain ⟨cs', ec⟩ := cut_bl as (some (b0 : Int)) (some ((b0 : Int) + (ys.length : Nat)))
              refine iteF ⟨.ref a, rfl, _, rfl, _, rfl, _, rfl, _, rfl, a, _, rfl, .inl (.inl (s3 _ _ ea2)), fun c nc => ⟨c, cs', rfl, .inl (.inl (by rw [upd_same, ec])), .ref a, rfl, _, rfl, ?_⟩⟩
              obtain ⟨p', xs', k', j', h1, h2, h3, h4, as', h5, h6, h7⟩ := put (cs'.any id) _ (same_upd nc)
              exact ⟨p', xs', k', j', h1, h2, h3, h4, as', rfl, h5, h6, h7⟩
          · rintro σ' H4 ⟨as', rfl, la', ea4, k4⟩
            have na2 : H a = none := na0
            have sm4 : Same H H4 := fun c o h => k4 _ _ (ne_of_none h na0) (sm2 _ _ h)
            have et4 := k4 t _ ta et2
            have eb4 := k4 b _ ba eb2
            have keep4 : Same (wo H2 (fun c => c = t ∨ c = b ∨ c = a)) (wo H4 (fun c => c = t ∨ c = b ∨ c = a)) := fun c o h => by
              have h2 := wo_some h
              rw [wo_in h2.1]
              exact k4 _ _ (fun z => h2.1 (.inr (.inr z))) h2.2
            obtain ⟨z, gz⟩ : ∃ z, as'[j]? = some z := ⟨_, List.getElem?_eq_getElem (by omega)⟩
            refine ⟨.ref a, rfl, _, rfl, a, _, _, .bl z, rfl, rfl, .inl (.inl ea4), atj (by rw [List.getElem?_map, gz]; rfl), z, rfl, ?_⟩
            cases z with
            | false => exact iteF ⟨j, Nat.lt_succ_self j, xs, as', some (.ref p), _, _, by rw [← ej], by omega, sm4, et4, eb4, ea4, la', dpa_same keep4 _ _ ha2⟩
            | true =>
              refine iteT ⟨.ref p, rfl, _, _, _, _, y1, rfl, .ty _, ty_dp (dp_same keep4 dj _ hx |> dp_same wo_same dj _), kit_ty k2, _, rfl, ?_⟩
              have hcut : DpAll K (wo H4 (fun c => c = t ∨ c = b ∨ c = a)) (cutV xs (some (b0 : Int)) (some ((b0 : Int) + (ys.length : Nat)))) cs := by
                have h1 := dpa_takeK cs.length _ _ (dpa_dropK b0 _ _ (dpa_same keep4 _ _ ha2))
                rw [g2] at h1
                rcases lcs with h | h
                · rw [cut_nat xs b0 ys.length (by omega), lc]
                  exact h1
                · have e0 : cs = [] := List.eq_nil_of_length_eq_zero h
                  have e1 : ys.length = 0 := by omega
                  have e2 : cutV xs (some (b0 : Int)) (some ((b0 : Int) + (ys.length : Nat))) = [] := by
                    rw [e1]
                    unfold cutV
                    rw [show ((b0 : Int) + ((0 : Nat) : Int)) = (b0 : Int) by omega]
                    apply List.eq_nil_of_length_eq_zero
                    rw [List.length_take, List.length_drop]
                    unfold HT.sIx
                    simp only []
                    split <;> omega
                  rw [e2, e0]
                  exact .nil
              have fin : ∀ (H6 : Hp) (y' : V), Same H4 H6 → Dp K (wo H6 (fun c => c = t ∨ c = b ∨ c = a)) y' dj → Same H (upd H6 t (.lst (xs.set j y'))) ∧ upd H6 t (.lst (xs.set j y')) b = some (.lst (bs.map V.int)) ∧ upd H6 t (.lst (xs.set j y')) a = some (.lst (as'.map V.bl)) ∧ DpAll K (wo (upd H6 t (.lst (xs.set j y'))) (fun c => c = t ∨ c = b ∨ c = a)) (xs.set j y') ds := fun H6 y' s6 hy => by
                have k6 : Same (wo H6 (fun c => c = t ∨ c = b ∨ c = a)) (wo (upd H6 t (.lst (xs.set j y'))) (fun c => c = t ∨ c = b ∨ c = a)) := fun c o h => by
                  have h2 := wo_some h
                  rw [wo_in h2.1, upd_ne (fun z => h2.1 (.inl z))]
                  exact h2.2
                have k46 : Same (wo H4 (fun c => c = t ∨ c = b ∨ c = a)) (wo H6 (fun c => c = t ∨ c = b ∨ c = a)) := fun c o h => by
                  have h2 := wo_some h
                  rw [wo_in h2.1]
                  exact s6 _ _ h2.2
                refine ⟨fun c o h => ?_, ?_, ?_, dpa_setK (dp_same k6 dj y' hy) j ds xs (dpa_same (keep4.trans (k46.trans k6)) _ _ ha2) fj⟩
                · rw [upd_ne (ne_of_none h nt)]
                  exact s6 _ _ (sm4 _ _ h)
                · rw [upd_ne (Ne.symm tb)]
                  exact s6 _ _ eb4
                · rw [upd_ne (Ne.symm ta)]
                  exact s6 _ _ ea4
              have newX : ∀ {H6 : Hp} {c : Addr}, Same H4 H6 → H6 c = none → ¬ (c = t ∨ c = b ∨ c = a) := fun {H6 c} s6 nc z => by
                rcases z with z | z | z
                · rw [z, s6 _ _ et4] at nc; cases nc
                · rw [z, s6 _ _ eb4] at nc; cases nc
                · rw [z, s6 _ _ ea4] at nc; cases nc
              have keep6 : ∀ {H6 : Hp}, Same H4 H6 → Same (wo H4 (fun c => c = t ∨ c = b ∨ c = a)) (wo H6 (fun c => c = t ∨ c = b ∨ c = a)) := fun {H6} s6 c o h => by
                have h2 := wo_some h
                rw [wo_in h2.1]
                exact s6 _ _ h2.2
              have hk : (y1 = true → dj = .list cs) ∧ (y1 = false → dj = .tuple cs) := by
                cases dj with
                | list ds =>
                  cases e
                  have : kitB (tyD (.list cs)) "list" = some true := by show kitB "list" "list" = some true; decide +kernel
                  rw [this] at k2
                  cases k2
                  exact ⟨fun _ => rfl, fun z => by cases z⟩
                | tuple ds =>
                  cases e
                  have : kitB (tyD (.tuple cs)) "list" = some false := by show kitB "tuple" "list" = some false; decide +kernel
                  rw [this] at k2
                  cases k2
                  exact ⟨fun z => (by cases z), fun _ => rfl⟩
                | _ => cases e
              have ixj : ixN xs.length (((j + 1 : Nat) : Int) - 1) = some j := by rw [ej]; exact Evl.ixN_nat (by omega)
              cases y1 with
              | true =>
                refine iteT ⟨.ref t, rfl, _, rfl, _, rfl, _, rfl, _, rfl, t, xs, rfl, .inl (.inl et4), fun c nc => ?_⟩
                have sc := same_upd (o := .lst (cutV xs (some (b0 : Int)) (some ((b0 : Int) + (ys.length : Nat))))) nc
                obtain ⟨h1, h2, h3, h4⟩ := fin _ (.ref c) sc (by
                  rw [hk.1 rfl]
                  exact .lst (.inl (.inl (by rw [wo_in (newX (Same.refl _) nc)]; exact upd_same))) (dpa_same (keep6 sc) _ _ hcut))
                exact ⟨.ref t, rfl, _, rfl, t, xs, _, j, rfl, rfl, sc _ _ et4, ixj, j, Nat.lt_succ_self j, xs.set j (.ref c), as', some (.ref p), _, _, by rw [← ej], by omega, h1, upd_same, h2, h3, la', h4⟩
              | false =>
                refine iteF ⟨.ref t, rfl, _, rfl, _, rfl, _, rfl, _, rfl, t, xs, rfl, .inl (.inl et4), fun c nc => ⟨c, _, rfl, .inl ⟨.inl (.inl upd_same), fun l nl => ?_⟩⟩⟩
                have sc := same_upd (o := .lst (cutV xs (some (b0 : Int)) (some ((b0 : Int) + (ys.length : Nat))))) nc
                have sl := sc.trans (same_upd (o := .tup (cutV xs (some (b0 : Int)) (some ((b0 : Int) + (ys.length : Nat))))) nl)
                obtain ⟨h1, h2, h3, h4⟩ := fin _ (.ref l) sl (by
                  rw [hk.2 rfl]
                  exact .tup (.inl (.inl (by rw [wo_in (newX sc nl)]; exact upd_same))) (dpa_same (keep6 sl) _ _ hcut))
                exact ⟨.ref t, rfl, _, rfl, t, xs, _, j, rfl, rfl, sl _ _ et4, ixj, j, Nat.lt_succ_self j, xs.set j (.ref l), as', some (.ref p), _, _, by rw [← ej], by omega, h1, upd_same, h2, h3, la', h4⟩
      · have m0 : m = 0 := by
          have : ¬ (0 : Int) < (m : Int) := fun z => e (decide_eq_true z)
          omega
        subst m0
        cases xs with
        | nil => cases ha2; cases h0
        | cons x xs' =>
          obtain ⟨d', e1, e2⟩ := dpa_at ds _ ha2 0 x rfl
          rw [h0] at e1
          cases e1
          exact ⟨.ref t, rfl, t, _, 0, x, rfl, rfl, .inl (.inl et2), atI_nat (j := 0) rfl, q H2 x sm2 (dp_same wo_same _ x e2)⟩
--@@SPLIT
/-! ### a refusal with one field that is flat -/
def RaV (C : Addr) (H : Hp) (fs : List (Str × V)) (E : XK) : Prop := ∀ H' dd, Same H H' → H dd = none → H' dd = some (.xd fs) → E (.ref C) (some dd) H'
theorem RaV.same {C : Addr} {H H' : Hp} {fs : List (Str × V)} {E : XK} (h : RaV C H fs E) (s : Same H H') : RaV C H' fs E := fun H2 dd s2 n e => h H2 dd (s.trans s2) (s.free n) e
def spIni (C : Addr) (key : Str) (fl : V → Prop) : Sp := fun vs H Q _ => ∃ (a : Addr) (v : V), vs = [.ref a, v] ∧ fl v ∧ H a = some (exo a C none) ∧
  ∀ H' dx, (∀ b o, b ≠ a → H b = some o → H' b = some o) → H dx = none → dx ≠ a → H' a = some (exo a C (some dx)) → H' dx = some (exd dx [(key, v)]) → Q .non H'
theorem raise1 {C : Addr} {key : Str} {fl : V → Prop} {v : V} {H : Hp} {E : XK} (hv : fl v) (bad : RaV C H [(key, v)] E) (a : Addr) (na : H a = none) :
    spIni C key fl (.ref a :: ([v] ++ [])) (upd H a (exo a C none)) (fun v H2 => v = .non ∧ ∃ (d : Addr) (fs : List (Str × V)), H2 a = some (exo a C (some d)) ∧ H2 d = some (exd d fs) ∧ H d = none ∧ E (.ref C) (some d) (upd (del H2 a) d (.xd fs))) (fun _ _ _ => False) :=
  ⟨a, v, rfl, hv, upd_same, fun H4 dx keep ndx ne ea ed => by
    rw [upd_ne ne] at ndx
    refine ⟨rfl, dx, _, ea, ed, ndx, bad _ dx (fun b o h => ?_) ndx upd_same⟩
    have na2 : b ≠ a := ne_of_none h na
    rw [upd_ne (ne_of_none h ndx), del_ne na2]
    exact keep b o na2 (by rw [upd_ne na2]; exact h)⟩
def isIntV (v : V) : Prop := ∃ i : Int, v = .int i
def isStrV (v : V) : Prop := ∃ z : Str, v = .str z
/-! ### a number or a text -/
inductive Lf where
  | i (n : Int)
  | s (z : Str)
def Lf.v : Lf → V
  | .i n => .int n
  | .s z => .str z
def Lf.d : Lf → PyData
  | .i n => .int n
  | .s z => .str z
theorem Lf.siz : ∀ l : Lf, M.siz l.d ≤ 1000
  | .i n => siz_int n
  | .s z => siz_str z
theorem Lf.dp {K : PySem.W.Frag} {H : Hp} : ∀ l : Lf, Dp K H l.v l.d
  | .i n => .int n
  | .s z => .str z
theorem Lf.dp_eq {K : PySem.W.Frag} {H : Hp} {v : V} : ∀ {l : Lf}, Dp K H v l.d → v = l.v
  | .i _, h => by cases h; rfl
  | .s _, h => by cases h; rfl
def isLf (v : V) : Prop := ∃ l : Lf, v = l.v
def spIni2 (C : Addr) (f g : Str) : Sp := fun vs H Q _ => ∃ (a : Addr) (l m : Lf), vs = [.ref a, l.v, m.v] ∧ H a = some (exo a C none) ∧
  ∀ H' dx, (∀ b o, b ≠ a → H b = some o → H' b = some o) → H dx = none → dx ≠ a → H' a = some (exo a C (some dx)) → H' dx = some (exd dx [(g, m.v), (f, l.v)]) → Q .non H'
theorem made1 {C : Addr} {f : Str} {l : Lf} {H : Hp} {Q : VK} {gV : List V → List V → List V} {vs zs : List V} (hn : vs.length ≤ 1000) (hg : ∀ a, gV (.ref a :: vs) zs = [.ref a, l.v]) (q : ∀ a H', Same H H' → H a = none → ExcV.ExAt H' a C [(f, l.v)] → Q (.ref a) H') : ExcV.Made C (spIni C f isLf) gV vs zs H Q :=
  ⟨hn, fun a na => by
    rw [hg]
    refine ⟨a, l.v, rfl, ⟨l, rfl⟩, upd_same, fun H' dx keep ndx ne ea ed => ⟨rfl, q a H' (fun b o h => ?_) na (.inl ⟨dx, ea, ed⟩)⟩⟩
    have hb : b ≠ a := ne_of_none h na
    exact keep b o hb (by rw [upd_ne hb]; exact h)⟩
theorem made2 {C : Addr} {f g : Str} {l m : Lf} {H : Hp} {Q : VK} {gV : List V → List V → List V} {vs zs : List V} (hn : vs.length ≤ 1000) (hg : ∀ a, gV (.ref a :: vs) zs = [.ref a, l.v, m.v]) (q : ∀ a H', Same H H' → H a = none → ExcV.ExAt H' a C [(g, m.v), (f, l.v)] → Q (.ref a) H') : ExcV.Made C (spIni2 C f g) gV vs zs H Q :=
  ⟨hn, fun a na => by
    rw [hg]
    refine ⟨a, l, m, rfl, upd_same, fun H' dx keep ndx ne ea ed => ⟨rfl, q a H' (fun b o h => ?_) na (.inl ⟨dx, ea, ed⟩)⟩⟩
    have hb : b ≠ a := ne_of_none h na
    exact keep b o hb (by rw [upd_ne hb]; exact h)⟩
/-! ### each refusal is made -/
theorem ok_init_NoLot (T : Top w K mg) : FnOk P w K mg base CX0 4 T.a_init_NoLot T.fd_init_NoLot ["self", "lot"] (spIni T.a_NoLot "lot" isLf) := by
  have G_kept := ok_kept (P := P) (w := w) (base := base) T
  refine T.F_init_NoLot.ok sc_init_NoLot (fun vs H Q E h => ?_) (fun cdv A outer s H vs Q E hr h => ?_)
  · obtain ⟨a, i, rfl, _⟩ := h
    rfl
  · obtain ⟨a, _, rfl, ⟨l, rfl⟩, ha, q⟩ := h
    refine ⟨_, (pss_one (ps_ost (pv 0) (pe_call G_kept (hr.mono (by decide)) (by rfl) T.g_kept T.F_kept.kp T.b_kept .nil pass0 (pa_cons (pv 1) pa_nil)))), ?_⟩
    refine ⟨_, rfl, l.v, l.d, rfl, l.siz, l.dp, fun H1 v' s1 hv' => ?_⟩
    cases l.dp_eq hv'
    refine ⟨.ref a, rfl, a, T.a_NoLot, rfl, T.oex_NoLot, T.no_NoLot_lot, .inl ⟨s1 _ _ ha, fun dx ndx ne => ?_⟩⟩
    exact q _ dx (fun b o hb h => (upd_ne hb).trans (same_upd ndx _ _ (s1 _ _ h))) (s1.free ndx) ne upd_same ((upd_ne ne).trans upd_same)
theorem ok_init_BadLog (T : Top w K mg) : FnOk P w K mg base CX0 4 T.a_init_BadLog T.fd_init_BadLog ["self", "name", "at"] (spIni2 T.a_BadLog "name" "at") := by
  have G_kept := ok_kept (P := P) (w := w) (base := base) T
  refine T.F_init_BadLog.ok sc_init_BadLog (fun vs H Q E h => ?_) (fun cdv A outer s H vs Q E hr h => ?_)
  · obtain ⟨a, l1, l2, rfl, _⟩ := h
    rfl
  · obtain ⟨a, l1, l2, rfl, ha, q⟩ := h
    refine ⟨_, (pss_cons (ps_ost (pv 0) (pe_call G_kept (hr.mono (by decide)) (by rfl) T.g_kept T.F_kept.kp T.b_kept .nil pass0 (pa_cons (pv 1) pa_nil)))
      (pss_one (ps_ost (pv 0) (pe_call G_kept (hr.mono (by decide)) (by rfl) T.g_kept T.F_kept.kp T.b_kept .nil pass0 (pa_cons (pv 2) pa_nil))))), ?_⟩
    refine ⟨_, rfl, l1.v, l1.d, rfl, l1.siz, l1.dp, fun H1 v' s1 hv' => ?_⟩
    cases l1.dp_eq hv'
    refine ⟨.ref a, rfl, a, T.a_BadLog, rfl, T.oex_BadLog, T.no_BadLog_name, .inl ⟨s1 _ _ ha, fun dx ndx ne => ?_⟩⟩
    refine ⟨_, rfl, l2.v, l2.d, rfl, l2.siz, l2.dp, fun H2 v' s2 hv' => ?_⟩
    cases l2.dp_eq hv'
    have ea := s2 _ _ (upd_same (H := upd H1 dx (exd dx [("name", l1.v)])) (a := a) (o := exo a T.a_BadLog (some dx)))
    have ed := s2 dx (exd dx [("name", l1.v)]) ((upd_ne ne).trans upd_same)
    refine ⟨.ref a, rfl, a, T.a_BadLog, rfl, T.oex_BadLog, T.no_BadLog_at, .inr ⟨dx, _, ea, ed, by show 1 ≤ 900; decide, ?_⟩⟩
    refine q _ dx (fun b o hb h => ?_) (s1.free ndx) ne ((upd_ne (Ne.symm ne)).trans ea) upd_same
    have hb2 : b ≠ dx := ne_of_none (s1 _ _ h) ndx
    rw [upd_ne hb2]
    refine s2 _ _ ?_
    rw [upd_ne hb, upd_ne hb2]
    exact s1 _ _ h
theorem ok_init_NoDealing (T : Top w K mg) : FnOk P w K mg base CX0 4 T.a_init_NoDealing T.fd_init_NoDealing ["self", "at"] (spIni T.a_NoDealing "at" isLf) := by
  have G_kept := ok_kept (P := P) (w := w) (base := base) T
  refine T.F_init_NoDealing.ok sc_init_NoDealing (fun vs H Q E h => ?_) (fun cdv A outer s H vs Q E hr h => ?_)
  · obtain ⟨a, i, rfl, _⟩ := h
    rfl
  · obtain ⟨a, _, rfl, ⟨l, rfl⟩, ha, q⟩ := h
    refine ⟨_, (pss_one (ps_ost (pv 0) (pe_call G_kept (hr.mono (by decide)) (by rfl) T.g_kept T.F_kept.kp T.b_kept .nil pass0 (pa_cons (pv 1) pa_nil)))), ?_⟩
    refine ⟨_, rfl, l.v, l.d, rfl, l.siz, l.dp, fun H1 v' s1 hv' => ?_⟩
    cases l.dp_eq hv'
    refine ⟨.ref a, rfl, a, T.a_NoDealing, rfl, T.oex_NoDealing, T.no_NoDealing_at, .inl ⟨s1 _ _ ha, fun dx ndx ne => ?_⟩⟩
    exact q _ dx (fun b o hb h => (upd_ne hb).trans (same_upd ndx _ _ (s1 _ _ h))) (s1.free ndx) ne upd_same ((upd_ne ne).trans upd_same)
theorem ok_init_BadBox (T : Top w K mg) : FnOk P w K mg base CX0 4 T.a_init_BadBox T.fd_init_BadBox ["self", "at"] (spIni T.a_BadBox "at" isLf) := by
  have G_kept := ok_kept (P := P) (w := w) (base := base) T
  refine T.F_init_BadBox.ok sc_init_BadBox (fun vs H Q E h => ?_) (fun cdv A outer s H vs Q E hr h => ?_)
  · obtain ⟨a, i, rfl, _⟩ := h
    rfl
  · obtain ⟨a, _, rfl, ⟨l, rfl⟩, ha, q⟩ := h
    refine ⟨_, (pss_one (ps_ost (pv 0) (pe_call G_kept (hr.mono (by decide)) (by rfl) T.g_kept T.F_kept.kp T.b_kept .nil pass0 (pa_cons (pv 1) pa_nil)))), ?_⟩
    refine ⟨_, rfl, l.v, l.d, rfl, l.siz, l.dp, fun H1 v' s1 hv' => ?_⟩
    cases l.dp_eq hv'
    refine ⟨.ref a, rfl, a, T.a_BadBox, rfl, T.oex_BadBox, T.no_BadBox_at, .inl ⟨s1 _ _ ha, fun dx ndx ne => ?_⟩⟩
    exact q _ dx (fun b o hb h => (upd_ne hb).trans (same_upd ndx _ _ (s1 _ _ h))) (s1.free ndx) ne upd_same ((upd_ne ne).trans upd_same)
theorem ok_init_NoName (T : Top w K mg) : FnOk P w K mg base CX0 4 T.a_init_NoName T.fd_init_NoName ["self", "name"] (spIni T.a_NoName "name" isLf) := by
  have G_kept := ok_kept (P := P) (w := w) (base := base) T
  refine T.F_init_NoName.ok sc_init_NoName (fun vs H Q E h => ?_) (fun cdv A outer s H vs Q E hr h => ?_)
  · obtain ⟨a, i, rfl, _⟩ := h
    rfl
  · obtain ⟨a, _, rfl, ⟨l, rfl⟩, ha, q⟩ := h
    refine ⟨_, (pss_one (ps_ost (pv 0) (pe_call G_kept (hr.mono (by decide)) (by rfl) T.g_kept T.F_kept.kp T.b_kept .nil pass0 (pa_cons (pv 1) pa_nil)))), ?_⟩
    refine ⟨_, rfl, l.v, l.d, rfl, l.siz, l.dp, fun H1 v' s1 hv' => ?_⟩
    cases l.dp_eq hv'
    refine ⟨.ref a, rfl, a, T.a_NoName, rfl, T.oex_NoName, T.no_NoName_name, .inl ⟨s1 _ _ ha, fun dx ndx ne => ?_⟩⟩
    exact q _ dx (fun b o hb h => (upd_ne hb).trans (same_upd ndx _ _ (s1 _ _ h))) (s1.free ndx) ne upd_same ((upd_ne ne).trans upd_same)
theorem ok_init_Twice (T : Top w K mg) : FnOk P w K mg base CX0 4 T.a_init_Twice T.fd_init_Twice ["self", "name"] (spIni T.a_Twice "name" isLf) := by
  have G_kept := ok_kept (P := P) (w := w) (base := base) T
  refine T.F_init_Twice.ok sc_init_Twice (fun vs H Q E h => ?_) (fun cdv A outer s H vs Q E hr h => ?_)
  · obtain ⟨a, i, rfl, _⟩ := h
    rfl
  · obtain ⟨a, _, rfl, ⟨l, rfl⟩, ha, q⟩ := h
    refine ⟨_, (pss_one (ps_ost (pv 0) (pe_call G_kept (hr.mono (by decide)) (by rfl) T.g_kept T.F_kept.kp T.b_kept .nil pass0 (pa_cons (pv 1) pa_nil)))), ?_⟩
    refine ⟨_, rfl, l.v, l.d, rfl, l.siz, l.dp, fun H1 v' s1 hv' => ?_⟩
    cases l.dp_eq hv'
    refine ⟨.ref a, rfl, a, T.a_Twice, rfl, T.oex_Twice, T.no_Twice_name, .inl ⟨s1 _ _ ha, fun dx ndx ne => ?_⟩⟩
    exact q _ dx (fun b o hb h => (upd_ne hb).trans (same_upd ndx _ _ (s1 _ _ h))) (s1.free ndx) ne upd_same ((upd_ne ne).trans upd_same)
theorem ok_init_NoWalker (T : Top w K mg) : FnOk P w K mg base CX0 4 T.a_init_NoWalker T.fd_init_NoWalker ["self", "name"] (spIni T.a_NoWalker "name" isLf) := by
  have G_kept := ok_kept (P := P) (w := w) (base := base) T
  refine T.F_init_NoWalker.ok sc_init_NoWalker (fun vs H Q E h => ?_) (fun cdv A outer s H vs Q E hr h => ?_)
  · obtain ⟨a, i, rfl, _⟩ := h
    rfl
  · obtain ⟨a, _, rfl, ⟨l, rfl⟩, ha, q⟩ := h
    refine ⟨_, (pss_one (ps_ost (pv 0) (pe_call G_kept (hr.mono (by decide)) (by rfl) T.g_kept T.F_kept.kp T.b_kept .nil pass0 (pa_cons (pv 1) pa_nil)))), ?_⟩
    refine ⟨_, rfl, l.v, l.d, rfl, l.siz, l.dp, fun H1 v' s1 hv' => ?_⟩
    cases l.dp_eq hv'
    refine ⟨.ref a, rfl, a, T.a_NoWalker, rfl, T.oex_NoWalker, T.no_NoWalker_name, .inl ⟨s1 _ _ ha, fun dx ndx ne => ?_⟩⟩
    exact q _ dx (fun b o hb h => (upd_ne hb).trans (same_upd ndx _ _ (s1 _ _ h))) (s1.free ndx) ne upd_same ((upd_ne ne).trans upd_same)
theorem ok_init_NoSign (T : Top w K mg) : FnOk P w K mg base CX0 4 T.a_init_NoSign T.fd_init_NoSign ["self", "sign"] (spIni T.a_NoSign "sign" isLf) := by
  have G_kept := ok_kept (P := P) (w := w) (base := base) T
  refine T.F_init_NoSign.ok sc_init_NoSign (fun vs H Q E h => ?_) (fun cdv A outer s H vs Q E hr h => ?_)
  · obtain ⟨a, i, rfl, _⟩ := h
    rfl
  · obtain ⟨a, _, rfl, ⟨l, rfl⟩, ha, q⟩ := h
    refine ⟨_, (pss_one (ps_ost (pv 0) (pe_call G_kept (hr.mono (by decide)) (by rfl) T.g_kept T.F_kept.kp T.b_kept .nil pass0 (pa_cons (pv 1) pa_nil)))), ?_⟩
    refine ⟨_, rfl, l.v, l.d, rfl, l.siz, l.dp, fun H1 v' s1 hv' => ?_⟩
    cases l.dp_eq hv'
    refine ⟨.ref a, rfl, a, T.a_NoSign, rfl, T.oex_NoSign, T.no_NoSign_sign, .inl ⟨s1 _ _ ha, fun dx ndx ne => ?_⟩⟩
    exact q _ dx (fun b o hb h => (upd_ne hb).trans (same_upd ndx _ _ (s1 _ _ h))) (s1.free ndx) ne upd_same ((upd_ne ne).trans upd_same)
theorem ok_init_NoLeg (T : Top w K mg) : FnOk P w K mg base CX0 4 T.a_init_NoLeg T.fd_init_NoLeg ["self", "name", "leg"] (spIni2 T.a_NoLeg "name" "leg") := by
  have G_kept := ok_kept (P := P) (w := w) (base := base) T
  refine T.F_init_NoLeg.ok sc_init_NoLeg (fun vs H Q E h => ?_) (fun cdv A outer s H vs Q E hr h => ?_)
  · obtain ⟨a, l1, l2, rfl, _⟩ := h
    rfl
  · obtain ⟨a, l1, l2, rfl, ha, q⟩ := h
    refine ⟨_, (pss_cons (ps_ost (pv 0) (pe_call G_kept (hr.mono (by decide)) (by rfl) T.g_kept T.F_kept.kp T.b_kept .nil pass0 (pa_cons (pv 1) pa_nil)))
      (pss_one (ps_ost (pv 0) (pe_call G_kept (hr.mono (by decide)) (by rfl) T.g_kept T.F_kept.kp T.b_kept .nil pass0 (pa_cons (pv 2) pa_nil))))), ?_⟩
    refine ⟨_, rfl, l1.v, l1.d, rfl, l1.siz, l1.dp, fun H1 v' s1 hv' => ?_⟩
    cases l1.dp_eq hv'
    refine ⟨.ref a, rfl, a, T.a_NoLeg, rfl, T.oex_NoLeg, T.no_NoLeg_name, .inl ⟨s1 _ _ ha, fun dx ndx ne => ?_⟩⟩
    refine ⟨_, rfl, l2.v, l2.d, rfl, l2.siz, l2.dp, fun H2 v' s2 hv' => ?_⟩
    cases l2.dp_eq hv'
    have ea := s2 _ _ (upd_same (H := upd H1 dx (exd dx [("name", l1.v)])) (a := a) (o := exo a T.a_NoLeg (some dx)))
    have ed := s2 dx (exd dx [("name", l1.v)]) ((upd_ne ne).trans upd_same)
    refine ⟨.ref a, rfl, a, T.a_NoLeg, rfl, T.oex_NoLeg, T.no_NoLeg_leg, .inr ⟨dx, _, ea, ed, by show 1 ≤ 900; decide, ?_⟩⟩
    refine q _ dx (fun b o hb h => ?_) (s1.free ndx) ne ((upd_ne (Ne.symm ne)).trans ea) upd_same
    have hb2 : b ≠ dx := ne_of_none (s1 _ _ h) ndx
    rw [upd_ne hb2]
    refine s2 _ _ ?_
    rw [upd_ne hb, upd_ne hb2]
    exact s1 _ _ h
theorem ok_init_TooMany (T : Top w K mg) : FnOk P w K mg base CX0 4 T.a_init_TooMany T.fd_init_TooMany ["self", "many"] (spIni T.a_TooMany "many" isLf) := by
  have G_kept := ok_kept (P := P) (w := w) (base := base) T
  refine T.F_init_TooMany.ok sc_init_TooMany (fun vs H Q E h => ?_) (fun cdv A outer s H vs Q E hr h => ?_)
  · obtain ⟨a, i, rfl, _⟩ := h
    rfl
  · obtain ⟨a, _, rfl, ⟨l, rfl⟩, ha, q⟩ := h
    refine ⟨_, (pss_one (ps_ost (pv 0) (pe_call G_kept (hr.mono (by decide)) (by rfl) T.g_kept T.F_kept.kp T.b_kept .nil pass0 (pa_cons (pv 1) pa_nil)))), ?_⟩
    refine ⟨_, rfl, l.v, l.d, rfl, l.siz, l.dp, fun H1 v' s1 hv' => ?_⟩
    cases l.dp_eq hv'
    refine ⟨.ref a, rfl, a, T.a_TooMany, rfl, T.oex_TooMany, T.no_TooMany_many, .inl ⟨s1 _ _ ha, fun dx ndx ne => ?_⟩⟩
    exact q _ dx (fun b o hb h => (upd_ne hb).trans (same_upd ndx _ _ (s1 _ _ h))) (s1.free ndx) ne upd_same ((upd_ne ne).trans upd_same)
theorem ok_init_NoWatch (T : Top w K mg) : FnOk P w K mg base CX0 4 T.a_init_NoWatch T.fd_init_NoWatch ["self", "number"] (spIni T.a_NoWatch "number" isLf) := by
  have G_kept := ok_kept (P := P) (w := w) (base := base) T
  refine T.F_init_NoWatch.ok sc_init_NoWatch (fun vs H Q E h => ?_) (fun cdv A outer s H vs Q E hr h => ?_)
  · obtain ⟨a, i, rfl, _⟩ := h
    rfl
  · obtain ⟨a, _, rfl, ⟨l, rfl⟩, ha, q⟩ := h
    refine ⟨_, (pss_one (ps_ost (pv 0) (pe_call G_kept (hr.mono (by decide)) (by rfl) T.g_kept T.F_kept.kp T.b_kept .nil pass0 (pa_cons (pv 1) pa_nil)))), ?_⟩
    refine ⟨_, rfl, l.v, l.d, rfl, l.siz, l.dp, fun H1 v' s1 hv' => ?_⟩
    cases l.dp_eq hv'
    refine ⟨.ref a, rfl, a, T.a_NoWatch, rfl, T.oex_NoWatch, T.no_NoWatch_number, .inl ⟨s1 _ _ ha, fun dx ndx ne => ?_⟩⟩
    exact q _ dx (fun b o hb h => (upd_ne hb).trans (same_upd ndx _ _ (s1 _ _ h))) (s1.free ndx) ne upd_same ((upd_ne ne).trans upd_same)
theorem ok_init_NoText (T : Top w K mg) : FnOk P w K mg base CX0 4 T.a_init_NoText T.fd_init_NoText ["self", "at"] (spIni T.a_NoText "at" isLf) := by
  have G_kept := ok_kept (P := P) (w := w) (base := base) T
  refine T.F_init_NoText.ok sc_init_NoText (fun vs H Q E h => ?_) (fun cdv A outer s H vs Q E hr h => ?_)
  · obtain ⟨a, i, rfl, _⟩ := h
    rfl
  · obtain ⟨a, _, rfl, ⟨l, rfl⟩, ha, q⟩ := h
    refine ⟨_, (pss_one (ps_ost (pv 0) (pe_call G_kept (hr.mono (by decide)) (by rfl) T.g_kept T.F_kept.kp T.b_kept .nil pass0 (pa_cons (pv 1) pa_nil)))), ?_⟩
    refine ⟨_, rfl, l.v, l.d, rfl, l.siz, l.dp, fun H1 v' s1 hv' => ?_⟩
    cases l.dp_eq hv'
    refine ⟨.ref a, rfl, a, T.a_NoText, rfl, T.oex_NoText, T.no_NoText_at, .inl ⟨s1 _ _ ha, fun dx ndx ne => ?_⟩⟩
    exact q _ dx (fun b o hb h => (upd_ne hb).trans (same_upd ndx _ _ (s1 _ _ h))) (s1.free ndx) ne upd_same ((upd_ne ne).trans upd_same)
theorem ok_init_NoLine (T : Top w K mg) : FnOk P w K mg base CX0 4 T.a_init_NoLine T.fd_init_NoLine ["self", "line"] (spIni T.a_NoLine "line" isLf) := by
  have G_kept := ok_kept (P := P) (w := w) (base := base) T
  refine T.F_init_NoLine.ok sc_init_NoLine (fun vs H Q E h => ?_) (fun cdv A outer s H vs Q E hr h => ?_)
  · obtain ⟨a, i, rfl, _⟩ := h
    rfl
  · obtain ⟨a, _, rfl, ⟨l, rfl⟩, ha, q⟩ := h
    refine ⟨_, (pss_one (ps_ost (pv 0) (pe_call G_kept (hr.mono (by decide)) (by rfl) T.g_kept T.F_kept.kp T.b_kept .nil pass0 (pa_cons (pv 1) pa_nil)))), ?_⟩
    refine ⟨_, rfl, l.v, l.d, rfl, l.siz, l.dp, fun H1 v' s1 hv' => ?_⟩
    cases l.dp_eq hv'
    refine ⟨.ref a, rfl, a, T.a_NoLine, rfl, T.oex_NoLine, T.no_NoLine_line, .inl ⟨s1 _ _ ha, fun dx ndx ne => ?_⟩⟩
    exact q _ dx (fun b o hb h => (upd_ne hb).trans (same_upd ndx _ _ (s1 _ _ h))) (s1.free ndx) ne upd_same ((upd_ne ne).trans upd_same)
theorem ok_init_NoBook (T : Top w K mg) : FnOk P w K mg base CX0 4 T.a_init_NoBook T.fd_init_NoBook ["self", "name"] (spIni T.a_NoBook "name" isLf) := by
  have G_kept := ok_kept (P := P) (w := w) (base := base) T
  refine T.F_init_NoBook.ok sc_init_NoBook (fun vs H Q E h => ?_) (fun cdv A outer s H vs Q E hr h => ?_)
  · obtain ⟨a, i, rfl, _⟩ := h
    rfl
  · obtain ⟨a, _, rfl, ⟨l, rfl⟩, ha, q⟩ := h
    refine ⟨_, (pss_one (ps_ost (pv 0) (pe_call G_kept (hr.mono (by decide)) (by rfl) T.g_kept T.F_kept.kp T.b_kept .nil pass0 (pa_cons (pv 1) pa_nil)))), ?_⟩
    refine ⟨_, rfl, l.v, l.d, rfl, l.siz, l.dp, fun H1 v' s1 hv' => ?_⟩
    cases l.dp_eq hv'
    refine ⟨.ref a, rfl, a, T.a_NoBook, rfl, T.oex_NoBook, T.no_NoBook_name, .inl ⟨s1 _ _ ha, fun dx ndx ne => ?_⟩⟩
    exact q _ dx (fun b o hb h => (upd_ne hb).trans (same_upd ndx _ _ (s1 _ _ h))) (s1.free ndx) ne upd_same ((upd_ne ne).trans upd_same)
--@@SPLIT
def clsL {w : World} {K : PySem.W.Frag} {mg : Str → Option Value} (T : Top w K mg) : List Addr := [T.a_NoLot, T.a_BadLog, T.a_NoDealing, T.a_BadBox, T.a_NoName, T.a_Twice, T.a_NoWalker, T.a_NoSign, T.a_NoLeg, T.a_TooMany, T.a_NoWatch, T.a_NoText, T.a_NoLine, T.a_NoBook, T.a_NoFit, T.a_NoLink, T.a_NothingDone, T.a_NothingUndone]
def fldsL (l m : Lf) : List (List (Str × V)) := [[("lot", l.v)], [("at", m.v), ("name", l.v)], [("at", l.v)], [("at", l.v)], [("name", l.v)], [("name", l.v)], [("name", l.v)], [("sign", l.v)], [("leg", m.v), ("name", l.v)], [("many", l.v)], [("number", l.v)], [("at", l.v)], [("line", l.v)], [("name", l.v)], [], [], [], []]
def dueN : List Nat := [1, 2, 1, 1, 1, 1, 1, 1, 2, 1, 1, 1, 1, 1, 0, 0, 0, 0]
theorem Top.own {w : World} {K : PySem.W.Frag} {mg : Str → Option Value} (T : Top w K mg) {i : Nat} {C : Addr} (h : (clsL T)[i]? = some C) : i < 18 ∧ ExcC K C := by
  match i, h with
  | 0, h => cases h; exact ⟨by decide, T.exc_NoLot⟩
  | 1, h => cases h; exact ⟨by decide, T.exc_BadLog⟩
  | 2, h => cases h; exact ⟨by decide, T.exc_NoDealing⟩
  | 3, h => cases h; exact ⟨by decide, T.exc_BadBox⟩
  | 4, h => cases h; exact ⟨by decide, T.exc_NoName⟩
  | 5, h => cases h; exact ⟨by decide, T.exc_Twice⟩
  | 6, h => cases h; exact ⟨by decide, T.exc_NoWalker⟩
  | 7, h => cases h; exact ⟨by decide, T.exc_NoSign⟩
  | 8, h => cases h; exact ⟨by decide, T.exc_NoLeg⟩
  | 9, h => cases h; exact ⟨by decide, T.exc_TooMany⟩
  | 10, h => cases h; exact ⟨by decide, T.exc_NoWatch⟩
  | 11, h => cases h; exact ⟨by decide, T.exc_NoText⟩
  | 12, h => cases h; exact ⟨by decide, T.exc_NoLine⟩
  | 13, h => cases h; exact ⟨by decide, T.exc_NoBook⟩
  | 14, h => cases h; exact ⟨by decide, T.exc_NoFit⟩
  | 15, h => cases h; exact ⟨by decide, T.exc_NoLink⟩
  | 16, h => cases h; exact ⟨by decide, T.exc_NothingDone⟩
  | 17, h => cases h; exact ⟨by decide, T.exc_NothingUndone⟩
  | _ + 18, h => cases h
/-! ### of which classes -/
theorem isK {K : PySem.W.Frag} {al : List Addr} {N a C D : Addr} {fs : List (Str × V)} {i j : Nat} {H : Hp} {Q : VK} (tb : ExcV.Tab K al N) (ex : ExcV.ExAt H a C fs) (own : ExcC K C) (hi : al[i]? = some C) (hj : al[j]? = some D) (q : Q (.bl (decide (i = j))) H) : ExcV.rIsV K [.ref a, .ref D] H Q :=
  ⟨a, C, fs, .ref D, .ref D, _, rfl, ex, own, fun _ h => h, tb.kit i j C D hi hj, q⟩
def spSorts (K : PySem.W.Frag) (al : List Addr) : Sp := fun vs H Q _ => ∃ (a C : Addr) (fs : List (Str × V)) (i : Nat), vs = [.ref a] ∧ ExcV.ExAt H a C fs ∧ al[i]? = some C ∧ ∀ H' q, Same H H' → H q = none → H' q = some (.lst [.int (i : Nat)]) → Q (.ref q) H'
def bls (i k n : Nat) : List V := (List.range' k n).map fun j => V.bl (decide (i = j))
def onesV (i k : Nat) : List V := ((List.range k).filter fun j => decide (i = j)).map fun j => V.int (j : Nat)
theorem onesV_succ (i k : Nat) : onesV i (k + 1) = onesV i k ++ (if decide (i = k) = true then [V.int (k : Nat)] else []) := by
  unfold onesV
  rw [List.range_succ, List.filter_append, List.map_append]
  congr 1
  by_cases e : i = k
  · rw [List.filter_cons, if_pos (decide_eq_true e), if_pos (decide_eq_true e)]; rfl
  · rw [List.filter_cons, if_neg (by simpa using e), if_neg (by simpa using e)]; rfl
theorem onesV_len (i k : Nat) : (onesV i k).length ≤ k := by
  unfold onesV
  rw [List.length_map]
  exact Nat.le_trans (List.length_filter_le _ _) (by rw [List.length_range]; exact Nat.le_refl _)
theorem onesV_all : ∀ i : Nat, i < 18 → onesV i 18 = [V.int (i : Nat)] := by decide +kernel
theorem ok_Lsorts (T : Top w K mg) : FnOk P w K mg base CX0 1 T.a_Lsorts T.fd_Lsorts ["_law_e"] (spSorts K (clsL T)) := by
  refine T.F_Lsorts.ok sc_Lsorts (fun vs H Q E h => ?_) (fun cdv A outer s H vs Q E hr h => ?_)
  · obtain ⟨a, C, fs, i, rfl, _⟩ := h
    rfl
  · obtain ⟨a, C, fs, i, rfl, ex, hi, q⟩ := h
    obtain ⟨lt, own⟩ := T.own hi
    refine ⟨_, (pss_cons (ps_set (i := 1) sc_Lsorts.nd rfl (.inr rfl) (pe_lst (pa_cons (pe_callB ExcV.call_isV (by rfl) T.m_isinstance (by decide +kernel) (pa_cons (pv 0) (pa_cons (pe_glob (v := .ref T.a_NoLot) (by rfl) T.g_NoLot rfl) pa_nil))) (pa_cons (pe_callB ExcV.call_isV (by rfl) T.m_isinstance (by decide +kernel) (pa_cons (pv 0) (pa_cons (pe_glob (v := .ref T.a_BadLog) (by rfl) T.g_BadLog rfl) pa_nil))) (pa_cons (pe_callB ExcV.call_isV (by rfl) T.m_isinstance (by decide +kernel) (pa_cons (pv 0) (pa_cons (pe_glob (v := .ref T.a_NoDealing) (by rfl) T.g_NoDealing rfl) pa_nil))) (pa_cons (pe_callB ExcV.call_isV (by rfl) T.m_isinstance (by decide +kernel) (pa_cons (pv 0) (pa_cons (pe_glob (v := .ref T.a_BadBox) (by rfl) T.g_BadBox rfl) pa_nil))) pa_nil))))))
      (pss_cons (ps_set (i := 1) sc_Lsorts.nd rfl (.inr rfl) (pe_op op_cat (pv 1) (pe_lst (pa_cons (pe_callB ExcV.call_isV (by rfl) T.m_isinstance (by decide +kernel) (pa_cons (pv 0) (pa_cons (pe_glob (v := .ref T.a_NoName) (by rfl) T.g_NoName rfl) pa_nil))) (pa_cons (pe_callB ExcV.call_isV (by rfl) T.m_isinstance (by decide +kernel) (pa_cons (pv 0) (pa_cons (pe_glob (v := .ref T.a_Twice) (by rfl) T.g_Twice rfl) pa_nil))) (pa_cons (pe_callB ExcV.call_isV (by rfl) T.m_isinstance (by decide +kernel) (pa_cons (pv 0) (pa_cons (pe_glob (v := .ref T.a_NoWalker) (by rfl) T.g_NoWalker rfl) pa_nil))) (pa_cons (pe_callB ExcV.call_isV (by rfl) T.m_isinstance (by decide +kernel) (pa_cons (pv 0) (pa_cons (pe_glob (v := .ref T.a_NoSign) (by rfl) T.g_NoSign rfl) pa_nil))) pa_nil)))))))
      (pss_cons (ps_set (i := 1) sc_Lsorts.nd rfl (.inr rfl) (pe_op op_cat (pv 1) (pe_lst (pa_cons (pe_callB ExcV.call_isV (by rfl) T.m_isinstance (by decide +kernel) (pa_cons (pv 0) (pa_cons (pe_glob (v := .ref T.a_NoLeg) (by rfl) T.g_NoLeg rfl) pa_nil))) (pa_cons (pe_callB ExcV.call_isV (by rfl) T.m_isinstance (by decide +kernel) (pa_cons (pv 0) (pa_cons (pe_glob (v := .ref T.a_TooMany) (by rfl) T.g_TooMany rfl) pa_nil))) (pa_cons (pe_callB ExcV.call_isV (by rfl) T.m_isinstance (by decide +kernel) (pa_cons (pv 0) (pa_cons (pe_glob (v := .ref T.a_NoWatch) (by rfl) T.g_NoWatch rfl) pa_nil))) (pa_cons (pe_callB ExcV.call_isV (by rfl) T.m_isinstance (by decide +kernel) (pa_cons (pv 0) (pa_cons (pe_glob (v := .ref T.a_NoText) (by rfl) T.g_NoText rfl) pa_nil))) pa_nil)))))))
      (pss_cons (ps_set (i := 1) sc_Lsorts.nd rfl (.inr rfl) (pe_op op_cat (pv 1) (pe_lst (pa_cons (pe_callB ExcV.call_isV (by rfl) T.m_isinstance (by decide +kernel) (pa_cons (pv 0) (pa_cons (pe_glob (v := .ref T.a_NoLine) (by rfl) T.g_NoLine rfl) pa_nil))) (pa_cons (pe_callB ExcV.call_isV (by rfl) T.m_isinstance (by decide +kernel) (pa_cons (pv 0) (pa_cons (pe_glob (v := .ref T.a_NoBook) (by rfl) T.g_NoBook rfl) pa_nil))) (pa_cons (pe_callB ExcV.call_isV (by rfl) T.m_isinstance (by decide +kernel) (pa_cons (pv 0) (pa_cons (pe_glob (v := .ref T.a_NoFit) (by rfl) T.g_NoFit rfl) pa_nil))) (pa_cons (pe_callB ExcV.call_isV (by rfl) T.m_isinstance (by decide +kernel) (pa_cons (pv 0) (pa_cons (pe_glob (v := .ref T.a_NoLink) (by rfl) T.g_NoLink rfl) pa_nil))) pa_nil)))))))
      (pss_cons (ps_set (i := 1) sc_Lsorts.nd rfl (.inr rfl) (pe_op op_cat (pv 1) (pe_lst (pa_cons (pe_callB ExcV.call_isV (by rfl) T.m_isinstance (by decide +kernel) (pa_cons (pv 0) (pa_cons (pe_glob (v := .ref T.a_NothingDone) (by rfl) T.g_NothingDone rfl) pa_nil))) (pa_cons (pe_callB ExcV.call_isV (by rfl) T.m_isinstance (by decide +kernel) (pa_cons (pv 0) (pa_cons (pe_glob (v := .ref T.a_NothingUndone) (by rfl) T.g_NothingUndone rfl) pa_nil))) pa_nil)))))
      (pss_one (ps_ret (pe_lc (own := [("_law_k", 2)]) (g := gName 2) (by rfl) sc_Lsorts.nd (pi_range1 (by rfl) T.m_range (pa_cons pe_int pa_nil)) (blkOk_by (own := [("_law_k", 2)]) (N := ["_law_e", "_law_some", "_law_k"]) (sc := defScope s_Lsorts) (by decide +kernel)) (fun _ _ _ _ _ => (pg_name (i := 2) sc_Lsorts.nd rfl (Or.inl rfl))) (fun _ _ _ _ _ => (pts_one (pt_val (pe_ix (r := rIx K) (SeqW.ix_seqK rfl) (pv 1) (pv 2) (fun _ _ => rfl))))) (fun _ _ _ _ _ => (pv 2)))))))))), ?_⟩
    have tb := T.tab
    refine ⟨.ref a, rfl, a, C, fs, _, _, _, rfl, ex, own, fun _ h => h, tb.kit i 0 C _ hi rfl, ?_⟩
    refine ⟨.ref a, rfl, a, C, fs, _, _, _, rfl, ex, own, fun _ h => h, tb.kit i 1 C _ hi rfl, ?_⟩
    refine ⟨.ref a, rfl, a, C, fs, _, _, _, rfl, ex, own, fun _ h => h, tb.kit i 2 C _ hi rfl, ?_⟩
    refine ⟨.ref a, rfl, a, C, fs, _, _, _, rfl, ex, own, fun _ h => h, tb.kit i 3 C _ hi rfl, ?_⟩
    refine ⟨by show 4 ≤ sizeLine; decide, fun p0 n0 => ?_⟩
    have s0 : Same H (upd H p0 (.lst (bls i 0 4))) := same_upd n0
    have e0 : (upd H p0 (.lst (bls i 0 4))) p0 = some (.lst (bls i 0 4)) := upd_same
    refine ⟨.ref p0, rfl, ?_⟩
    refine ⟨.ref a, rfl, a, C, fs, _, _, _, rfl, (ex.same s0), own, fun _ h => h, tb.kit i 4 C _ hi rfl, ?_⟩
    refine ⟨.ref a, rfl, a, C, fs, _, _, _, rfl, (ex.same s0), own, fun _ h => h, tb.kit i 5 C _ hi rfl, ?_⟩
    refine ⟨.ref a, rfl, a, C, fs, _, _, _, rfl, (ex.same s0), own, fun _ h => h, tb.kit i 6 C _ hi rfl, ?_⟩
    refine ⟨.ref a, rfl, a, C, fs, _, _, _, rfl, (ex.same s0), own, fun _ h => h, tb.kit i 7 C _ hi rfl, ?_⟩
    refine ⟨by show 4 ≤ sizeLine; decide, fun r1 m1 => ⟨p0, r1, bls i 0 4, bls i 4 4, rfl, rfl, same_upd m1 _ _ e0, upd_same, by show 8 ≤ sizeLine; decide, fun p1 n1 => ?_⟩⟩
    have s1 : Same H (upd (upd (upd H p0 (.lst (bls i 0 4))) r1 (.lst (bls i 4 4))) p1 (.lst (bls i 0 8))) := (s0.trans (same_upd m1)).trans (same_upd n1)
    have e1 : (upd (upd (upd H p0 (.lst (bls i 0 4))) r1 (.lst (bls i 4 4))) p1 (.lst (bls i 0 8))) p1 = some (.lst (bls i 0 8)) := upd_same
    refine ⟨.ref p1, rfl, ?_⟩
    refine ⟨.ref a, rfl, a, C, fs, _, _, _, rfl, (ex.same s1), own, fun _ h => h, tb.kit i 8 C _ hi rfl, ?_⟩
    refine ⟨.ref a, rfl, a, C, fs, _, _, _, rfl, (ex.same s1), own, fun _ h => h, tb.kit i 9 C _ hi rfl, ?_⟩
    refine ⟨.ref a, rfl, a, C, fs, _, _, _, rfl, (ex.same s1), own, fun _ h => h, tb.kit i 10 C _ hi rfl, ?_⟩
    refine ⟨.ref a, rfl, a, C, fs, _, _, _, rfl, (ex.same s1), own, fun _ h => h, tb.kit i 11 C _ hi rfl, ?_⟩
    refine ⟨by show 4 ≤ sizeLine; decide, fun r2 m2 => ⟨p1, r2, bls i 0 8, bls i 8 4, rfl, rfl, same_upd m2 _ _ e1, upd_same, by show 12 ≤ sizeLine; decide, fun p2 n2 => ?_⟩⟩
    have s2 : Same H (upd (upd (upd (upd (upd H p0 (.lst (bls i 0 4))) r1 (.lst (bls i 4 4))) p1 (.lst (bls i 0 8))) r2 (.lst (bls i 8 4))) p2 (.lst (bls i 0 12))) := (s1.trans (same_upd m2)).trans (same_upd n2)
    have e2 : (upd (upd (upd (upd (upd H p0 (.lst (bls i 0 4))) r1 (.lst (bls i 4 4))) p1 (.lst (bls i 0 8))) r2 (.lst (bls i 8 4))) p2 (.lst (bls i 0 12))) p2 = some (.lst (bls i 0 12)) := upd_same
    refine ⟨.ref p2, rfl, ?_⟩
    refine ⟨.ref a, rfl, a, C, fs, _, _, _, rfl, (ex.same s2), own, fun _ h => h, tb.kit i 12 C _ hi rfl, ?_⟩
    refine ⟨.ref a, rfl, a, C, fs, _, _, _, rfl, (ex.same s2), own, fun _ h => h, tb.kit i 13 C _ hi rfl, ?_⟩
    refine ⟨.ref a, rfl, a, C, fs, _, _, _, rfl, (ex.same s2), own, fun _ h => h, tb.kit i 14 C _ hi rfl, ?_⟩
    refine ⟨.ref a, rfl, a, C, fs, _, _, _, rfl, (ex.same s2), own, fun _ h => h, tb.kit i 15 C _ hi rfl, ?_⟩
    refine ⟨by show 4 ≤ sizeLine; decide, fun r3 m3 => ⟨p2, r3, bls i 0 12, bls i 12 4, rfl, rfl, same_upd m3 _ _ e2, upd_same, by show 16 ≤ sizeLine; decide, fun p3 n3 => ?_⟩⟩
    have s3 : Same H (upd (upd (upd (upd (upd (upd (upd H p0 (.lst (bls i 0 4))) r1 (.lst (bls i 4 4))) p1 (.lst (bls i 0 8))) r2 (.lst (bls i 8 4))) p2 (.lst (bls i 0 12))) r3 (.lst (bls i 12 4))) p3 (.lst (bls i 0 16))) := (s2.trans (same_upd m3)).trans (same_upd n3)
    have e3 : (upd (upd (upd (upd (upd (upd (upd H p0 (.lst (bls i 0 4))) r1 (.lst (bls i 4 4))) p1 (.lst (bls i 0 8))) r2 (.lst (bls i 8 4))) p2 (.lst (bls i 0 12))) r3 (.lst (bls i 12 4))) p3 (.lst (bls i 0 16))) p3 = some (.lst (bls i 0 16)) := upd_same
    refine ⟨.ref p3, rfl, ?_⟩
    refine ⟨.ref a, rfl, a, C, fs, _, _, _, rfl, (ex.same s3), own, fun _ h => h, tb.kit i 16 C _ hi rfl, ?_⟩
    refine ⟨.ref a, rfl, a, C, fs, _, _, _, rfl, (ex.same s3), own, fun _ h => h, tb.kit i 17 C _ hi rfl, ?_⟩
    refine ⟨by show 2 ≤ sizeLine; decide, fun r4 m4 => ⟨p3, r4, bls i 0 16, bls i 16 2, rfl, rfl, same_upd m4 _ _ e3, upd_same, by show 18 ≤ sizeLine; decide, fun p4 n4 => ?_⟩⟩
    have s4 : Same H (upd (upd (upd (upd (upd (upd (upd (upd (upd H p0 (.lst (bls i 0 4))) r1 (.lst (bls i 4 4))) p1 (.lst (bls i 0 8))) r2 (.lst (bls i 8 4))) p2 (.lst (bls i 0 12))) r3 (.lst (bls i 12 4))) p3 (.lst (bls i 0 16))) r4 (.lst (bls i 16 2))) p4 (.lst (bls i 0 18))) := (s3.trans (same_upd m4)).trans (same_upd n4)
    have e4 : (upd (upd (upd (upd (upd (upd (upd (upd (upd H p0 (.lst (bls i 0 4))) r1 (.lst (bls i 4 4))) p1 (.lst (bls i 0 8))) r2 (.lst (bls i 8 4))) p2 (.lst (bls i 0 12))) r3 (.lst (bls i 12 4))) p3 (.lst (bls i 0 16))) r4 (.lst (bls i 16 2))) p4 (.lst (bls i 0 18))) p4 = some (.lst (bls i 0 18)) := upd_same
    refine ⟨_, rfl, by decide, by decide, fun D hD => lc_it (walk_range (n := 18)) (fun k H' => Same H H' ∧ H' p4 = some (.lst (bls i 0 18)) ∧ H' D = some (.lst (onesV i k))) ⟨s4.trans (same_upd hD), same_upd hD _ _ e4, upd_same⟩ (fun k H' _ h => trivial) ?_ ?_⟩
    · rintro k v H1 H2 hk ⟨sm, e, eD⟩ ⟨rfl, rfl⟩
      have e0 : (0 : Int) + (k : Int) = ((k : Nat) : Int) := by omega
      simp only [e0]
      have at_ : (bls i 0 18)[k]? = some (V.bl (decide (i = k))) := by
        unfold bls
        rw [List.getElem?_map, List.getElem?_range' hk]
        simp
      have nd : D ≠ p4 := fun z => by rw [z, upd_same] at hD; cases hD
      have ll := onesV_len i k
      refine ⟨rfl, .ref p4, rfl, _, rfl, ixA (.inl (.inl (.inl e))) at_ ⟨_, rfl, ?_⟩⟩
      rw [onesV_succ]
      refine ite2 (fun z => ?_) (fun z => ?_)
      · rw [if_pos z]
        refine ⟨_, rfl, _, eD, small1000 (by omega), fun c o h => ?_, (upd_ne (Ne.symm nd)).trans e, upd_same⟩
        rw [upd_ne (ne_of_none h (s4.free hD))]
        exact sm _ _ h
      · rw [if_neg z, List.append_nil]
        exact ⟨sm, e, eD⟩
    · rintro H1 ⟨sm, e, eD⟩
      exact q _ D sm (s4.free hD) (by rw [eD, onesV_all i lt])
/-! ### a refusal by places, by names -/
def spMade {w : World} {K : PySem.W.Frag} {mg : Str → Option Value} (T : Top w K mg) : Sp := fun vs H Q _ => ∃ (n : Nat) (l m : Lf), vs = [.int (n : Nat), l.v, m.v] ∧ n < 18 ∧ ∀ H' a C fs, Same H H' → (clsL T)[n]? = some C → (fldsL l m)[n]? = some fs → ExcV.ExAt H' a C fs → Q (.ref a) H'
theorem ok_Lmade (T : Top w K mg) : FnOk P w K mg base CX0 6 T.a_Lmade T.fd_Lmade ["_law_nth", "_law_one", "_law_other"] (spMade T) := by
  have G_init_NoLot := ok_init_NoLot (P := P) (w := w) (base := base) T
  have G_init_BadLog := ok_init_BadLog (P := P) (w := w) (base := base) T
  have G_init_NoDealing := ok_init_NoDealing (P := P) (w := w) (base := base) T
  have G_init_BadBox := ok_init_BadBox (P := P) (w := w) (base := base) T
  have G_init_NoName := ok_init_NoName (P := P) (w := w) (base := base) T
  have G_init_Twice := ok_init_Twice (P := P) (w := w) (base := base) T
  have G_init_NoWalker := ok_init_NoWalker (P := P) (w := w) (base := base) T
  have G_init_NoSign := ok_init_NoSign (P := P) (w := w) (base := base) T
  have G_init_NoLeg := ok_init_NoLeg (P := P) (w := w) (base := base) T
  have G_init_TooMany := ok_init_TooMany (P := P) (w := w) (base := base) T
  have G_init_NoWatch := ok_init_NoWatch (P := P) (w := w) (base := base) T
  have G_init_NoText := ok_init_NoText (P := P) (w := w) (base := base) T
  have G_init_NoLine := ok_init_NoLine (P := P) (w := w) (base := base) T
  have G_init_NoBook := ok_init_NoBook (P := P) (w := w) (base := base) T
  refine T.F_Lmade.ok sc_Lmade (fun vs H Q E h => ?_) (fun cdv A outer s H vs Q E hr h => ?_)
  · obtain ⟨n, l, m, rfl, _⟩ := h
    rfl
  · obtain ⟨n, l, m, rfl, lt, q⟩ := h
    refine ⟨_, (pss_cons (ps_if (pt_cmpR op_lt (pv 0) pe_int (nomark _)) (pss_one (ps_ret (pe_ix ix_tup (pe_tup (pa_cons (ExcV.pe_excV T.oex_NoLot T.iC_NoLot T.tI_NoLot G_init_NoLot (hr.mono (by decide)) T.bp_NoLot pass0 (by rfl) T.g_NoLot (pa_cons (pv 1) pa_nil)) (pa_cons (ExcV.pe_excV T.oex_BadLog T.iC_BadLog T.tI_BadLog G_init_BadLog (hr.mono (by decide)) T.bp_BadLog pass0 (by rfl) T.g_BadLog (pa_cons (pv 1) (pa_cons (pv 2) pa_nil))) (pa_cons (ExcV.pe_excV T.oex_NoDealing T.iC_NoDealing T.tI_NoDealing G_init_NoDealing (hr.mono (by decide)) T.bp_NoDealing pass0 (by rfl) T.g_NoDealing (pa_cons (pv 1) pa_nil)) (pa_cons (ExcV.pe_excV T.oex_BadBox T.iC_BadBox T.tI_BadBox G_init_BadBox (hr.mono (by decide)) T.bp_BadBox pass0 (by rfl) T.g_BadBox (pa_cons (pv 1) pa_nil)) pa_nil))))) (pv 0) (fun _ _ => rfl)))) pss_nil)
      (pss_cons (ps_if (pt_cmpR op_lt (pv 0) pe_int (nomark _)) (pss_one (ps_ret (pe_ix ix_tup (pe_tup (pa_cons (ExcV.pe_excV T.oex_NoName T.iC_NoName T.tI_NoName G_init_NoName (hr.mono (by decide)) T.bp_NoName pass0 (by rfl) T.g_NoName (pa_cons (pv 1) pa_nil)) (pa_cons (ExcV.pe_excV T.oex_Twice T.iC_Twice T.tI_Twice G_init_Twice (hr.mono (by decide)) T.bp_Twice pass0 (by rfl) T.g_Twice (pa_cons (pv 1) pa_nil)) (pa_cons (ExcV.pe_excV T.oex_NoWalker T.iC_NoWalker T.tI_NoWalker G_init_NoWalker (hr.mono (by decide)) T.bp_NoWalker pass0 (by rfl) T.g_NoWalker (pa_cons (pv 1) pa_nil)) (pa_cons (ExcV.pe_excV T.oex_NoSign T.iC_NoSign T.tI_NoSign G_init_NoSign (hr.mono (by decide)) T.bp_NoSign pass0 (by rfl) T.g_NoSign (pa_cons (pv 1) pa_nil)) pa_nil))))) (pe_op op_sub (pv 0) pe_int) (fun _ _ => rfl)))) pss_nil)
      (pss_cons (ps_if (pt_cmpR op_lt (pv 0) pe_int (nomark _)) (pss_one (ps_ret (pe_ix ix_tup (pe_tup (pa_cons (ExcV.pe_excV T.oex_NoLeg T.iC_NoLeg T.tI_NoLeg G_init_NoLeg (hr.mono (by decide)) T.bp_NoLeg pass0 (by rfl) T.g_NoLeg (pa_cons (pv 1) (pa_cons (pv 2) pa_nil))) (pa_cons (ExcV.pe_excV T.oex_TooMany T.iC_TooMany T.tI_TooMany G_init_TooMany (hr.mono (by decide)) T.bp_TooMany pass0 (by rfl) T.g_TooMany (pa_cons (pv 1) pa_nil)) (pa_cons (ExcV.pe_excV T.oex_NoWatch T.iC_NoWatch T.tI_NoWatch G_init_NoWatch (hr.mono (by decide)) T.bp_NoWatch pass0 (by rfl) T.g_NoWatch (pa_cons (pv 1) pa_nil)) pa_nil)))) (pe_op op_sub (pv 0) pe_int) (fun _ _ => rfl)))) pss_nil)
      (pss_cons (ps_if (pt_cmpR op_lt (pv 0) pe_int (nomark _)) (pss_one (ps_ret (pe_ix ix_tup (pe_tup (pa_cons (ExcV.pe_excV T.oex_NoText T.iC_NoText T.tI_NoText G_init_NoText (hr.mono (by decide)) T.bp_NoText pass0 (by rfl) T.g_NoText (pa_cons (pv 1) pa_nil)) (pa_cons (ExcV.pe_excV T.oex_NoLine T.iC_NoLine T.tI_NoLine G_init_NoLine (hr.mono (by decide)) T.bp_NoLine pass0 (by rfl) T.g_NoLine (pa_cons (pv 1) pa_nil)) (pa_cons (ExcV.pe_excV T.oex_NoBook T.iC_NoBook T.tI_NoBook G_init_NoBook (hr.mono (by decide)) T.bp_NoBook pass0 (by rfl) T.g_NoBook (pa_cons (pv 1) pa_nil)) pa_nil)))) (pe_op op_sub (pv 0) pe_int) (fun _ _ => rfl)))) pss_nil)
      (pss_one (ps_ret (pe_ix ix_tup (pe_tup (pa_cons (pe_exc1 PySem.F.excBase_ValueError T.xq_NoFit T.g_NoFit T.kp_NoFit (by rfl) pe_str) (pa_cons (pe_exc1 PySem.F.excBase_ValueError T.xq_NoLink T.g_NoLink T.kp_NoLink (by rfl) pe_str) (pa_cons (pe_exc1 PySem.F.excBase_ValueError T.xq_NothingDone T.g_NothingDone T.kp_NothingDone (by rfl) pe_str) (pa_cons (pe_exc1 PySem.F.excBase_ValueError T.xq_NothingUndone T.g_NothingUndone T.kp_NothingUndone (by rfl) pe_str) pa_nil))))) (pe_op op_sub (pv 0) pe_int) (fun _ _ => rfl)))))))), ?_⟩
    refine ⟨_, rfl, _, _, rfl, rfl, _, rfl, ?_⟩
    refine ite2 (fun z0 => ?_) (fun z0 => ?_)
    · refine ⟨_, rfl, rfl, made1 (l := l) (by simp) (fun _ => rfl) fun a0 H0 t0 n0 x0 => ?_⟩
      have s0 := (Same.refl H).trans t0
      refine ⟨_, rfl, _, rfl, rfl, made2 (l := l) (m := m) (by simp) (fun _ => rfl) fun a1 H1 t1 n1 x1 => ?_⟩
      have s1 := s0.trans t1
      refine ⟨_, rfl, rfl, made1 (l := l) (by simp) (fun _ => rfl) fun a2 H2 t2 n2 x2 => ?_⟩
      have s2 := s1.trans t2
      refine ⟨_, rfl, rfl, made1 (l := l) (by simp) (fun _ => rfl) fun a3 H3 t3 n3 x3 => ?_⟩
      have s3 := s2.trans t3
      refine ⟨by show 4 ≤ sizeLine; decide, fun p np => ?_⟩
      have cs : n = 0 ∨ n = 1 ∨ n = 2 ∨ n = 3 := by
        have y0 := of_decide_eq_true z0
        omega
      rcases cs with rfl | rfl | rfl | rfl
      · exact ⟨_, rfl, p, [.ref a0, .ref a1, .ref a2, .ref a3], _, _, rfl, rfl, .inl (.inl upd_same), rfl, q _ a0 T.a_NoLot _ (s3.trans (same_upd np)) rfl rfl ((((x0.same t1).same t2).same t3).same (same_upd np))⟩
      · exact ⟨_, rfl, p, [.ref a0, .ref a1, .ref a2, .ref a3], _, _, rfl, rfl, .inl (.inl upd_same), rfl, q _ a1 T.a_BadLog _ (s3.trans (same_upd np)) rfl rfl (((x1.same t2).same t3).same (same_upd np))⟩
      · exact ⟨_, rfl, p, [.ref a0, .ref a1, .ref a2, .ref a3], _, _, rfl, rfl, .inl (.inl upd_same), rfl, q _ a2 T.a_NoDealing _ (s3.trans (same_upd np)) rfl rfl ((x2.same t3).same (same_upd np))⟩
      · exact ⟨_, rfl, p, [.ref a0, .ref a1, .ref a2, .ref a3], _, _, rfl, rfl, .inl (.inl upd_same), rfl, q _ a3 T.a_BadBox _ (s3.trans (same_upd np)) rfl rfl (x3.same (same_upd np))⟩
    · skip
      refine ⟨_, rfl, _, _, rfl, rfl, _, rfl, ?_⟩
      refine ite2 (fun z1 => ?_) (fun z1 => ?_)
      · refine ⟨_, rfl, rfl, made1 (l := l) (by simp) (fun _ => rfl) fun a4 H4 t4 n4 x4 => ?_⟩
        have s4 := (Same.refl H).trans t4
        refine ⟨_, rfl, rfl, made1 (l := l) (by simp) (fun _ => rfl) fun a5 H5 t5 n5 x5 => ?_⟩
        have s5 := s4.trans t5
        refine ⟨_, rfl, rfl, made1 (l := l) (by simp) (fun _ => rfl) fun a6 H6 t6 n6 x6 => ?_⟩
        have s6 := s5.trans t6
        refine ⟨_, rfl, rfl, made1 (l := l) (by simp) (fun _ => rfl) fun a7 H7 t7 n7 x7 => ?_⟩
        have s7 := s6.trans t7
        refine ⟨by show 4 ≤ sizeLine; decide, fun p np => ?_⟩
        have cs : n = 4 ∨ n = 5 ∨ n = 6 ∨ n = 7 := by
          have y0 : ¬ ((n : Int) < 4) := fun y => z0 (decide_eq_true y)
          have y1 := of_decide_eq_true z1
          omega
        rcases cs with rfl | rfl | rfl | rfl
        · exact ⟨_, rfl, _, _, rfl, rfl, p, [.ref a4, .ref a5, .ref a6, .ref a7], _, _, rfl, rfl, .inl (.inl upd_same), rfl, q _ a4 T.a_NoName _ (s7.trans (same_upd np)) rfl rfl ((((x4.same t5).same t6).same t7).same (same_upd np))⟩
        · exact ⟨_, rfl, _, _, rfl, rfl, p, [.ref a4, .ref a5, .ref a6, .ref a7], _, _, rfl, rfl, .inl (.inl upd_same), rfl, q _ a5 T.a_Twice _ (s7.trans (same_upd np)) rfl rfl (((x5.same t6).same t7).same (same_upd np))⟩
        · exact ⟨_, rfl, _, _, rfl, rfl, p, [.ref a4, .ref a5, .ref a6, .ref a7], _, _, rfl, rfl, .inl (.inl upd_same), rfl, q _ a6 T.a_NoWalker _ (s7.trans (same_upd np)) rfl rfl ((x6.same t7).same (same_upd np))⟩
        · exact ⟨_, rfl, _, _, rfl, rfl, p, [.ref a4, .ref a5, .ref a6, .ref a7], _, _, rfl, rfl, .inl (.inl upd_same), rfl, q _ a7 T.a_NoSign _ (s7.trans (same_upd np)) rfl rfl (x7.same (same_upd np))⟩
      · skip
        refine ⟨_, rfl, _, _, rfl, rfl, _, rfl, ?_⟩
        refine ite2 (fun z2 => ?_) (fun z2 => ?_)
        · refine ⟨_, rfl, _, rfl, rfl, made2 (l := l) (m := m) (by simp) (fun _ => rfl) fun a8 H8 t8 n8 x8 => ?_⟩
          have s8 := (Same.refl H).trans t8
          refine ⟨_, rfl, rfl, made1 (l := l) (by simp) (fun _ => rfl) fun a9 H9 t9 n9 x9 => ?_⟩
          have s9 := s8.trans t9
          refine ⟨_, rfl, rfl, made1 (l := l) (by simp) (fun _ => rfl) fun a10 H10 t10 n10 x10 => ?_⟩
          have s10 := s9.trans t10
          refine ⟨by show 3 ≤ sizeLine; decide, fun p np => ?_⟩
          have cs : n = 8 ∨ n = 9 ∨ n = 10 := by
            have y0 : ¬ ((n : Int) < 4) := fun y => z0 (decide_eq_true y)
            have y1 : ¬ ((n : Int) < 8) := fun y => z1 (decide_eq_true y)
            have y2 := of_decide_eq_true z2
            omega
          rcases cs with rfl | rfl | rfl
          · exact ⟨_, rfl, _, _, rfl, rfl, p, [.ref a8, .ref a9, .ref a10], _, _, rfl, rfl, .inl (.inl upd_same), rfl, q _ a8 T.a_NoLeg _ (s10.trans (same_upd np)) rfl rfl (((x8.same t9).same t10).same (same_upd np))⟩
          · exact ⟨_, rfl, _, _, rfl, rfl, p, [.ref a8, .ref a9, .ref a10], _, _, rfl, rfl, .inl (.inl upd_same), rfl, q _ a9 T.a_TooMany _ (s10.trans (same_upd np)) rfl rfl ((x9.same t10).same (same_upd np))⟩
          · exact ⟨_, rfl, _, _, rfl, rfl, p, [.ref a8, .ref a9, .ref a10], _, _, rfl, rfl, .inl (.inl upd_same), rfl, q _ a10 T.a_NoWatch _ (s10.trans (same_upd np)) rfl rfl (x10.same (same_upd np))⟩
        · skip
          refine ⟨_, rfl, _, _, rfl, rfl, _, rfl, ?_⟩
          refine ite2 (fun z3 => ?_) (fun z3 => ?_)
          · refine ⟨_, rfl, rfl, made1 (l := l) (by simp) (fun _ => rfl) fun a11 H11 t11 n11 x11 => ?_⟩
            have s11 := (Same.refl H).trans t11
            refine ⟨_, rfl, rfl, made1 (l := l) (by simp) (fun _ => rfl) fun a12 H12 t12 n12 x12 => ?_⟩
            have s12 := s11.trans t12
            refine ⟨_, rfl, rfl, made1 (l := l) (by simp) (fun _ => rfl) fun a13 H13 t13 n13 x13 => ?_⟩
            have s13 := s12.trans t13
            refine ⟨by show 3 ≤ sizeLine; decide, fun p np => ?_⟩
            have cs : n = 11 ∨ n = 12 ∨ n = 13 := by
              have y0 : ¬ ((n : Int) < 4) := fun y => z0 (decide_eq_true y)
              have y1 : ¬ ((n : Int) < 8) := fun y => z1 (decide_eq_true y)
              have y2 : ¬ ((n : Int) < 11) := fun y => z2 (decide_eq_true y)
              have y3 := of_decide_eq_true z3
              omega
            rcases cs with rfl | rfl | rfl
            · exact ⟨_, rfl, _, _, rfl, rfl, p, [.ref a11, .ref a12, .ref a13], _, _, rfl, rfl, .inl (.inl upd_same), rfl, q _ a11 T.a_NoText _ (s13.trans (same_upd np)) rfl rfl (((x11.same t12).same t13).same (same_upd np))⟩
            · exact ⟨_, rfl, _, _, rfl, rfl, p, [.ref a11, .ref a12, .ref a13], _, _, rfl, rfl, .inl (.inl upd_same), rfl, q _ a12 T.a_NoLine _ (s13.trans (same_upd np)) rfl rfl ((x12.same t13).same (same_upd np))⟩
            · exact ⟨_, rfl, _, _, rfl, rfl, p, [.ref a11, .ref a12, .ref a13], _, _, rfl, rfl, .inl (.inl upd_same), rfl, q _ a13 T.a_NoBook _ (s13.trans (same_upd np)) rfl rfl (x13.same (same_upd np))⟩
          · skip
            refine fun a14 n14 => ?_
            have s14 := (Same.refl H).trans (same_upd (o := ExO (.ref T.a_NoFit) a14) n14)
            refine fun a15 n15 => ?_
            have s15 := s14.trans (same_upd (o := ExO (.ref T.a_NoLink) a15) n15)
            refine fun a16 n16 => ?_
            have s16 := s15.trans (same_upd (o := ExO (.ref T.a_NothingDone) a16) n16)
            refine fun a17 n17 => ?_
            have s17 := s16.trans (same_upd (o := ExO (.ref T.a_NothingUndone) a17) n17)
            refine ⟨by show 4 ≤ sizeLine; decide, fun p np => ?_⟩
            have cs : n = 14 ∨ n = 15 ∨ n = 16 ∨ n = 17 := by
              have y0 : ¬ ((n : Int) < 4) := fun y => z0 (decide_eq_true y)
              have y1 : ¬ ((n : Int) < 8) := fun y => z1 (decide_eq_true y)
              have y2 : ¬ ((n : Int) < 11) := fun y => z2 (decide_eq_true y)
              have y3 : ¬ ((n : Int) < 14) := fun y => z3 (decide_eq_true y)
              omega
            rcases cs with rfl | rfl | rfl | rfl
            · exact ⟨_, rfl, _, _, rfl, rfl, p, [.ref a14, .ref a15, .ref a16, .ref a17], _, _, rfl, rfl, .inl (.inl upd_same), rfl, q _ a14 T.a_NoFit _ (s17.trans (same_upd np)) rfl rfl (ExcV.ExAt.same (ExcV.ExAt.same (ExcV.ExAt.same (ExcV.ExAt.same (.inr ⟨rfl, upd_same⟩ : ExcV.ExAt _ a14 T.a_NoFit []) (same_upd n15)) (same_upd n16)) (same_upd n17)) (same_upd np))⟩
            · exact ⟨_, rfl, _, _, rfl, rfl, p, [.ref a14, .ref a15, .ref a16, .ref a17], _, _, rfl, rfl, .inl (.inl upd_same), rfl, q _ a15 T.a_NoLink _ (s17.trans (same_upd np)) rfl rfl (ExcV.ExAt.same (ExcV.ExAt.same (ExcV.ExAt.same (.inr ⟨rfl, upd_same⟩ : ExcV.ExAt _ a15 T.a_NoLink []) (same_upd n16)) (same_upd n17)) (same_upd np))⟩
            · exact ⟨_, rfl, _, _, rfl, rfl, p, [.ref a14, .ref a15, .ref a16, .ref a17], _, _, rfl, rfl, .inl (.inl upd_same), rfl, q _ a16 T.a_NothingDone _ (s17.trans (same_upd np)) rfl rfl (ExcV.ExAt.same (ExcV.ExAt.same (.inr ⟨rfl, upd_same⟩ : ExcV.ExAt _ a16 T.a_NothingDone []) (same_upd n17)) (same_upd np))⟩
            · exact ⟨_, rfl, _, _, rfl, rfl, p, [.ref a14, .ref a15, .ref a16, .ref a17], _, _, rfl, rfl, .inl (.inl upd_same), rfl, q _ a17 T.a_NothingUndone _ (s17.trans (same_upd np)) rfl rfl (ExcV.ExAt.same (.inr ⟨rfl, upd_same⟩ : ExcV.ExAt _ a17 T.a_NothingUndone []) (same_upd np))⟩
theorem ok_Lnamed (T : Top w K mg) : FnOk P w K mg base CX0 6 T.a_Lnamed T.fd_Lnamed ["_law_nth", "_law_one", "_law_other"] (spMade T) := by
  have G_init_NoLot := ok_init_NoLot (P := P) (w := w) (base := base) T
  have G_init_BadLog := ok_init_BadLog (P := P) (w := w) (base := base) T
  have G_init_NoDealing := ok_init_NoDealing (P := P) (w := w) (base := base) T
  have G_init_BadBox := ok_init_BadBox (P := P) (w := w) (base := base) T
  have G_init_NoName := ok_init_NoName (P := P) (w := w) (base := base) T
  have G_init_Twice := ok_init_Twice (P := P) (w := w) (base := base) T
  have G_init_NoWalker := ok_init_NoWalker (P := P) (w := w) (base := base) T
  have G_init_NoSign := ok_init_NoSign (P := P) (w := w) (base := base) T
  have G_init_NoLeg := ok_init_NoLeg (P := P) (w := w) (base := base) T
  have G_init_TooMany := ok_init_TooMany (P := P) (w := w) (base := base) T
  have G_init_NoWatch := ok_init_NoWatch (P := P) (w := w) (base := base) T
  have G_init_NoText := ok_init_NoText (P := P) (w := w) (base := base) T
  have G_init_NoLine := ok_init_NoLine (P := P) (w := w) (base := base) T
  have G_init_NoBook := ok_init_NoBook (P := P) (w := w) (base := base) T
  refine T.F_Lnamed.ok sc_Lnamed (fun vs H Q E h => ?_) (fun cdv A outer s H vs Q E hr h => ?_)
  · obtain ⟨n, l, m, rfl, _⟩ := h
    rfl
  · obtain ⟨n, l, m, rfl, lt, q⟩ := h
    refine ⟨_, (pss_cons (ps_if (pt_cmpR op_lt (pv 0) pe_int (nomark _)) (pss_one (ps_ret (pe_ix ix_tup (pe_tup (pa_cons (ExcV.pe_excK T.oex_NoLot T.iC_NoLot T.tI_NoLot G_init_NoLot (hr.mono (by decide)) T.bk_NoLot pass0 (by rfl) T.g_NoLot (pk_cons (pv 1) pk_nil)) (pa_cons (ExcV.pe_excK T.oex_BadLog T.iC_BadLog T.tI_BadLog G_init_BadLog (hr.mono (by decide)) T.bk_BadLog pass0 (by rfl) T.g_BadLog (pk_cons (pv 2) (pk_cons (pv 1) pk_nil))) (pa_cons (ExcV.pe_excK T.oex_NoDealing T.iC_NoDealing T.tI_NoDealing G_init_NoDealing (hr.mono (by decide)) T.bk_NoDealing pass0 (by rfl) T.g_NoDealing (pk_cons (pv 1) pk_nil)) (pa_cons (ExcV.pe_excK T.oex_BadBox T.iC_BadBox T.tI_BadBox G_init_BadBox (hr.mono (by decide)) T.bk_BadBox pass0 (by rfl) T.g_BadBox (pk_cons (pv 1) pk_nil)) pa_nil))))) (pv 0) (fun _ _ => rfl)))) pss_nil)
      (pss_cons (ps_if (pt_cmpR op_lt (pv 0) pe_int (nomark _)) (pss_one (ps_ret (pe_ix ix_tup (pe_tup (pa_cons (ExcV.pe_excK T.oex_NoName T.iC_NoName T.tI_NoName G_init_NoName (hr.mono (by decide)) T.bk_NoName pass0 (by rfl) T.g_NoName (pk_cons (pv 1) pk_nil)) (pa_cons (ExcV.pe_excK T.oex_Twice T.iC_Twice T.tI_Twice G_init_Twice (hr.mono (by decide)) T.bk_Twice pass0 (by rfl) T.g_Twice (pk_cons (pv 1) pk_nil)) (pa_cons (ExcV.pe_excK T.oex_NoWalker T.iC_NoWalker T.tI_NoWalker G_init_NoWalker (hr.mono (by decide)) T.bk_NoWalker pass0 (by rfl) T.g_NoWalker (pk_cons (pv 1) pk_nil)) (pa_cons (ExcV.pe_excK T.oex_NoSign T.iC_NoSign T.tI_NoSign G_init_NoSign (hr.mono (by decide)) T.bk_NoSign pass0 (by rfl) T.g_NoSign (pk_cons (pv 1) pk_nil)) pa_nil))))) (pe_op op_sub (pv 0) pe_int) (fun _ _ => rfl)))) pss_nil)
      (pss_cons (ps_if (pt_cmpR op_lt (pv 0) pe_int (nomark _)) (pss_one (ps_ret (pe_ix ix_tup (pe_tup (pa_cons (ExcV.pe_excK T.oex_NoLeg T.iC_NoLeg T.tI_NoLeg G_init_NoLeg (hr.mono (by decide)) T.bk_NoLeg pass0 (by rfl) T.g_NoLeg (pk_cons (pv 2) (pk_cons (pv 1) pk_nil))) (pa_cons (ExcV.pe_excK T.oex_TooMany T.iC_TooMany T.tI_TooMany G_init_TooMany (hr.mono (by decide)) T.bk_TooMany pass0 (by rfl) T.g_TooMany (pk_cons (pv 1) pk_nil)) (pa_cons (ExcV.pe_excK T.oex_NoWatch T.iC_NoWatch T.tI_NoWatch G_init_NoWatch (hr.mono (by decide)) T.bk_NoWatch pass0 (by rfl) T.g_NoWatch (pk_cons (pv 1) pk_nil)) pa_nil)))) (pe_op op_sub (pv 0) pe_int) (fun _ _ => rfl)))) pss_nil)
      (pss_cons (ps_if (pt_cmpR op_lt (pv 0) pe_int (nomark _)) (pss_one (ps_ret (pe_ix ix_tup (pe_tup (pa_cons (ExcV.pe_excK T.oex_NoText T.iC_NoText T.tI_NoText G_init_NoText (hr.mono (by decide)) T.bk_NoText pass0 (by rfl) T.g_NoText (pk_cons (pv 1) pk_nil)) (pa_cons (ExcV.pe_excK T.oex_NoLine T.iC_NoLine T.tI_NoLine G_init_NoLine (hr.mono (by decide)) T.bk_NoLine pass0 (by rfl) T.g_NoLine (pk_cons (pv 1) pk_nil)) (pa_cons (ExcV.pe_excK T.oex_NoBook T.iC_NoBook T.tI_NoBook G_init_NoBook (hr.mono (by decide)) T.bk_NoBook pass0 (by rfl) T.g_NoBook (pk_cons (pv 1) pk_nil)) pa_nil)))) (pe_op op_sub (pv 0) pe_int) (fun _ _ => rfl)))) pss_nil)
      (pss_one (ps_ret (pe_ix ix_tup (pe_tup (pa_cons (pe_exc1 PySem.F.excBase_ValueError T.xq_NoFit T.g_NoFit T.kp_NoFit (by rfl) pe_str) (pa_cons (pe_exc1 PySem.F.excBase_ValueError T.xq_NoLink T.g_NoLink T.kp_NoLink (by rfl) pe_str) (pa_cons (pe_exc1 PySem.F.excBase_ValueError T.xq_NothingDone T.g_NothingDone T.kp_NothingDone (by rfl) pe_str) (pa_cons (pe_exc1 PySem.F.excBase_ValueError T.xq_NothingUndone T.g_NothingUndone T.kp_NothingUndone (by rfl) pe_str) pa_nil))))) (pe_op op_sub (pv 0) pe_int) (fun _ _ => rfl)))))))), ?_⟩
    refine ⟨_, rfl, _, _, rfl, rfl, _, rfl, ?_⟩
    refine ite2 (fun z0 => ?_) (fun z0 => ?_)
    · refine ⟨_, rfl, rfl, made1 (l := l) (by simp) (fun _ => rfl) fun a0 H0 t0 n0 x0 => ?_⟩
      have s0 := (Same.refl H).trans t0
      refine ⟨_, rfl, _, rfl, rfl, made2 (l := l) (m := m) (by simp) (fun _ => rfl) fun a1 H1 t1 n1 x1 => ?_⟩
      have s1 := s0.trans t1
      refine ⟨_, rfl, rfl, made1 (l := l) (by simp) (fun _ => rfl) fun a2 H2 t2 n2 x2 => ?_⟩
      have s2 := s1.trans t2
      refine ⟨_, rfl, rfl, made1 (l := l) (by simp) (fun _ => rfl) fun a3 H3 t3 n3 x3 => ?_⟩
      have s3 := s2.trans t3
      refine ⟨by show 4 ≤ sizeLine; decide, fun p np => ?_⟩
      have cs : n = 0 ∨ n = 1 ∨ n = 2 ∨ n = 3 := by
        have y0 := of_decide_eq_true z0
        omega
      rcases cs with rfl | rfl | rfl | rfl
      · exact ⟨_, rfl, p, [.ref a0, .ref a1, .ref a2, .ref a3], _, _, rfl, rfl, .inl (.inl upd_same), rfl, q _ a0 T.a_NoLot _ (s3.trans (same_upd np)) rfl rfl ((((x0.same t1).same t2).same t3).same (same_upd np))⟩
      · exact ⟨_, rfl, p, [.ref a0, .ref a1, .ref a2, .ref a3], _, _, rfl, rfl, .inl (.inl upd_same), rfl, q _ a1 T.a_BadLog _ (s3.trans (same_upd np)) rfl rfl (((x1.same t2).same t3).same (same_upd np))⟩
      · exact ⟨_, rfl, p, [.ref a0, .ref a1, .ref a2, .ref a3], _, _, rfl, rfl, .inl (.inl upd_same), rfl, q _ a2 T.a_NoDealing _ (s3.trans (same_upd np)) rfl rfl ((x2.same t3).same (same_upd np))⟩
      · exact ⟨_, rfl, p, [.ref a0, .ref a1, .ref a2, .ref a3], _, _, rfl, rfl, .inl (.inl upd_same), rfl, q _ a3 T.a_BadBox _ (s3.trans (same_upd np)) rfl rfl (x3.same (same_upd np))⟩
    · skip
      refine ⟨_, rfl, _, _, rfl, rfl, _, rfl, ?_⟩
      refine ite2 (fun z1 => ?_) (fun z1 => ?_)
      · refine ⟨_, rfl, rfl, made1 (l := l) (by simp) (fun _ => rfl) fun a4 H4 t4 n4 x4 => ?_⟩
        have s4 := (Same.refl H).trans t4
        refine ⟨_, rfl, rfl, made1 (l := l) (by simp) (fun _ => rfl) fun a5 H5 t5 n5 x5 => ?_⟩
        have s5 := s4.trans t5
        refine ⟨_, rfl, rfl, made1 (l := l) (by simp) (fun _ => rfl) fun a6 H6 t6 n6 x6 => ?_⟩
        have s6 := s5.trans t6
        refine ⟨_, rfl, rfl, made1 (l := l) (by simp) (fun _ => rfl) fun a7 H7 t7 n7 x7 => ?_⟩
        have s7 := s6.trans t7
        refine ⟨by show 4 ≤ sizeLine; decide, fun p np => ?_⟩
        have cs : n = 4 ∨ n = 5 ∨ n = 6 ∨ n = 7 := by
          have y0 : ¬ ((n : Int) < 4) := fun y => z0 (decide_eq_true y)
          have y1 := of_decide_eq_true z1
          omega
        rcases cs with rfl | rfl | rfl | rfl
        · exact ⟨_, rfl, _, _, rfl, rfl, p, [.ref a4, .ref a5, .ref a6, .ref a7], _, _, rfl, rfl, .inl (.inl upd_same), rfl, q _ a4 T.a_NoName _ (s7.trans (same_upd np)) rfl rfl ((((x4.same t5).same t6).same t7).same (same_upd np))⟩
        · exact ⟨_, rfl, _, _, rfl, rfl, p, [.ref a4, .ref a5, .ref a6, .ref a7], _, _, rfl, rfl, .inl (.inl upd_same), rfl, q _ a5 T.a_Twice _ (s7.trans (same_upd np)) rfl rfl (((x5.same t6).same t7).same (same_upd np))⟩
        · exact ⟨_, rfl, _, _, rfl, rfl, p, [.ref a4, .ref a5, .ref a6, .ref a7], _, _, rfl, rfl, .inl (.inl upd_same), rfl, q _ a6 T.a_NoWalker _ (s7.trans (same_upd np)) rfl rfl ((x6.same t7).same (same_upd np))⟩
        · exact ⟨_, rfl, _, _, rfl, rfl, p, [.ref a4, .ref a5, .ref a6, .ref a7], _, _, rfl, rfl, .inl (.inl upd_same), rfl, q _ a7 T.a_NoSign _ (s7.trans (same_upd np)) rfl rfl (x7.same (same_upd np))⟩
      · skip
        refine ⟨_, rfl, _, _, rfl, rfl, _, rfl, ?_⟩
        refine ite2 (fun z2 => ?_) (fun z2 => ?_)
        · refine ⟨_, rfl, _, rfl, rfl, made2 (l := l) (m := m) (by simp) (fun _ => rfl) fun a8 H8 t8 n8 x8 => ?_⟩
          have s8 := (Same.refl H).trans t8
          refine ⟨_, rfl, rfl, made1 (l := l) (by simp) (fun _ => rfl) fun a9 H9 t9 n9 x9 => ?_⟩
          have s9 := s8.trans t9
          refine ⟨_, rfl, rfl, made1 (l := l) (by simp) (fun _ => rfl) fun a10 H10 t10 n10 x10 => ?_⟩
          have s10 := s9.trans t10
          refine ⟨by show 3 ≤ sizeLine; decide, fun p np => ?_⟩
          have cs : n = 8 ∨ n = 9 ∨ n = 10 := by
            have y0 : ¬ ((n : Int) < 4) := fun y => z0 (decide_eq_true y)
            have y1 : ¬ ((n : Int) < 8) := fun y => z1 (decide_eq_true y)
            have y2 := of_decide_eq_true z2
            omega
          rcases cs with rfl | rfl | rfl
          · exact ⟨_, rfl, _, _, rfl, rfl, p, [.ref a8, .ref a9, .ref a10], _, _, rfl, rfl, .inl (.inl upd_same), rfl, q _ a8 T.a_NoLeg _ (s10.trans (same_upd np)) rfl rfl (((x8.same t9).same t10).same (same_upd np))⟩
          · exact ⟨_, rfl, _, _, rfl, rfl, p, [.ref a8, .ref a9, .ref a10], _, _, rfl, rfl, .inl (.inl upd_same), rfl, q _ a9 T.a_TooMany _ (s10.trans (same_upd np)) rfl rfl ((x9.same t10).same (same_upd np))⟩
          · exact ⟨_, rfl, _, _, rfl, rfl, p, [.ref a8, .ref a9, .ref a10], _, _, rfl, rfl, .inl (.inl upd_same), rfl, q _ a10 T.a_NoWatch _ (s10.trans (same_upd np)) rfl rfl (x10.same (same_upd np))⟩
        · skip
          refine ⟨_, rfl, _, _, rfl, rfl, _, rfl, ?_⟩
          refine ite2 (fun z3 => ?_) (fun z3 => ?_)
          · refine ⟨_, rfl, rfl, made1 (l := l) (by simp) (fun _ => rfl) fun a11 H11 t11 n11 x11 => ?_⟩
            have s11 := (Same.refl H).trans t11
            refine ⟨_, rfl, rfl, made1 (l := l) (by simp) (fun _ => rfl) fun a12 H12 t12 n12 x12 => ?_⟩
            have s12 := s11.trans t12
            refine ⟨_, rfl, rfl, made1 (l := l) (by simp) (fun _ => rfl) fun a13 H13 t13 n13 x13 => ?_⟩
            have s13 := s12.trans t13
            refine ⟨by show 3 ≤ sizeLine; decide, fun p np => ?_⟩
            have cs : n = 11 ∨ n = 12 ∨ n = 13 := by
              have y0 : ¬ ((n : Int) < 4) := fun y => z0 (decide_eq_true y)
              have y1 : ¬ ((n : Int) < 8) := fun y => z1 (decide_eq_true y)
              have y2 : ¬ ((n : Int) < 11) := fun y => z2 (decide_eq_true y)
              have y3 := of_decide_eq_true z3
              omega
            rcases cs with rfl | rfl | rfl
            · exact ⟨_, rfl, _, _, rfl, rfl, p, [.ref a11, .ref a12, .ref a13], _, _, rfl, rfl, .inl (.inl upd_same), rfl, q _ a11 T.a_NoText _ (s13.trans (same_upd np)) rfl rfl (((x11.same t12).same t13).same (same_upd np))⟩
            · exact ⟨_, rfl, _, _, rfl, rfl, p, [.ref a11, .ref a12, .ref a13], _, _, rfl, rfl, .inl (.inl upd_same), rfl, q _ a12 T.a_NoLine _ (s13.trans (same_upd np)) rfl rfl ((x12.same t13).same (same_upd np))⟩
            · exact ⟨_, rfl, _, _, rfl, rfl, p, [.ref a11, .ref a12, .ref a13], _, _, rfl, rfl, .inl (.inl upd_same), rfl, q _ a13 T.a_NoBook _ (s13.trans (same_upd np)) rfl rfl (x13.same (same_upd np))⟩
          · skip
            refine fun a14 n14 => ?_
            have s14 := (Same.refl H).trans (same_upd (o := ExO (.ref T.a_NoFit) a14) n14)
            refine fun a15 n15 => ?_
            have s15 := s14.trans (same_upd (o := ExO (.ref T.a_NoLink) a15) n15)
            refine fun a16 n16 => ?_
            have s16 := s15.trans (same_upd (o := ExO (.ref T.a_NothingDone) a16) n16)
            refine fun a17 n17 => ?_
            have s17 := s16.trans (same_upd (o := ExO (.ref T.a_NothingUndone) a17) n17)
            refine ⟨by show 4 ≤ sizeLine; decide, fun p np => ?_⟩
            have cs : n = 14 ∨ n = 15 ∨ n = 16 ∨ n = 17 := by
              have y0 : ¬ ((n : Int) < 4) := fun y => z0 (decide_eq_true y)
              have y1 : ¬ ((n : Int) < 8) := fun y => z1 (decide_eq_true y)
              have y2 : ¬ ((n : Int) < 11) := fun y => z2 (decide_eq_true y)
              have y3 : ¬ ((n : Int) < 14) := fun y => z3 (decide_eq_true y)
              omega
            rcases cs with rfl | rfl | rfl | rfl
            · exact ⟨_, rfl, _, _, rfl, rfl, p, [.ref a14, .ref a15, .ref a16, .ref a17], _, _, rfl, rfl, .inl (.inl upd_same), rfl, q _ a14 T.a_NoFit _ (s17.trans (same_upd np)) rfl rfl (ExcV.ExAt.same (ExcV.ExAt.same (ExcV.ExAt.same (ExcV.ExAt.same (.inr ⟨rfl, upd_same⟩ : ExcV.ExAt _ a14 T.a_NoFit []) (same_upd n15)) (same_upd n16)) (same_upd n17)) (same_upd np))⟩
            · exact ⟨_, rfl, _, _, rfl, rfl, p, [.ref a14, .ref a15, .ref a16, .ref a17], _, _, rfl, rfl, .inl (.inl upd_same), rfl, q _ a15 T.a_NoLink _ (s17.trans (same_upd np)) rfl rfl (ExcV.ExAt.same (ExcV.ExAt.same (ExcV.ExAt.same (.inr ⟨rfl, upd_same⟩ : ExcV.ExAt _ a15 T.a_NoLink []) (same_upd n16)) (same_upd n17)) (same_upd np))⟩
            · exact ⟨_, rfl, _, _, rfl, rfl, p, [.ref a14, .ref a15, .ref a16, .ref a17], _, _, rfl, rfl, .inl (.inl upd_same), rfl, q _ a16 T.a_NothingDone _ (s17.trans (same_upd np)) rfl rfl (ExcV.ExAt.same (ExcV.ExAt.same (.inr ⟨rfl, upd_same⟩ : ExcV.ExAt _ a16 T.a_NothingDone []) (same_upd n17)) (same_upd np))⟩
            · exact ⟨_, rfl, _, _, rfl, rfl, p, [.ref a14, .ref a15, .ref a16, .ref a17], _, _, rfl, rfl, .inl (.inl upd_same), rfl, q _ a17 T.a_NothingUndone _ (s17.trans (same_upd np)) rfl rfl (ExcV.ExAt.same (.inr ⟨rfl, upd_same⟩ : ExcV.ExAt _ a17 T.a_NothingUndone []) (same_upd np))⟩
/-! ### the fields of a refusal -/
def ddN (l m : Lf) : List (List Lf) := [[l], [l, m], [l], [l], [l], [l], [l], [l], [l, m], [l], [l], [l], [l], [l], [], [], [], []]
theorem Top.xfn {w : World} {K : PySem.W.Frag} {mg : Str → Option Value} (T : Top w K mg) : True := trivial
def spFields {w : World} {K : PySem.W.Frag} {mg : Str → Option Value} (T : Top w K mg) : Sp := fun vs H Q _ => ∃ (n : Nat) (l m : Lf) (a C : Addr) (fs : List (Str × V)) (ds : List Lf), vs = [.int (n : Nat), .ref a] ∧ (clsL T)[n]? = some C ∧ (fldsL l m)[n]? = some fs ∧ ExcV.ExAt H a C fs ∧ (ddN l m)[n]? = some ds ∧ ∀ H' p, Same H H' → SqT K H' p (ds.map Lf.v) → Q (.ref p) H'
theorem ok_Lfields (T : Top w K mg) : FnOk P w K mg base CX0 1 T.a_Lfields T.fd_Lfields ["_law_nth", "_law_made_here"] (spFields T) := by
  refine T.F_Lfields.ok sc_Lfields (fun vs H Q E h => ?_) (fun cdv A outer s H vs Q E hr h => ?_)
  · obtain ⟨n, l, m, a, C, fs, ds, rfl, _⟩ := h
    rfl
  · obtain ⟨n, l, m, a, C, fs, ds, rfl, hC, hf, ex, hd, q⟩ := h
    refine ⟨_, (pss_cons (ps_if (pt_cmpR op_in_seq (pv 0) (pe_tup (pa_cons pe_int (pa_cons pe_int (pa_cons pe_int pa_nil)))) (by rfl)) (pss_one (ps_ret (pe_tup (pa_cons (ExcV.pe_xv (pv 1)) pa_nil)))) pss_nil)
      (pss_cons (ps_if (pt_cmpR op_in_seq (pv 0) (pe_tup (pa_cons pe_int (pa_cons pe_int (pa_cons pe_int (pa_cons pe_int pa_nil))))) (by rfl)) (pss_one (ps_ret (pe_tup (pa_cons (ExcV.pe_xv (pv 1)) pa_nil)))) pss_nil)
      (pss_cons (ps_if (pt_cmpR op_in_seq (pv 0) (pe_tup (pa_cons pe_int (pa_cons pe_int pa_nil))) (by rfl)) (pss_one (ps_ret (pe_tup (pa_cons (ExcV.pe_xv (pv 1)) (pa_cons (pe_ifExp (pt_cmpR op_eq (pv 0) pe_int (nomark _)) (ExcV.pe_xv (pv 1)) (ExcV.pe_xv (pv 1))) pa_nil))))) pss_nil)
      (pss_cons (ps_if (pt_cmpR op_in_seq (pv 0) (pe_tup (pa_cons pe_int (pa_cons pe_int pa_nil))) (by rfl)) (pss_one (ps_ret (pe_tup (pa_cons (pe_ifExp (pt_cmpR op_eq (pv 0) pe_int (nomark _)) (ExcV.pe_xv (pv 1)) (ExcV.pe_xv (pv 1))) pa_nil)))) pss_nil)
      (pss_cons (ps_if (pt_cmpR op_in_seq (pv 0) (pe_tup (pa_cons pe_int (pa_cons pe_int pa_nil))) (by rfl)) (pss_one (ps_ret (pe_tup (pa_cons (pe_ifExp (pt_cmpR op_eq (pv 0) pe_int (nomark _)) (ExcV.pe_xv (pv 1)) (ExcV.pe_xv (pv 1))) pa_nil)))) pss_nil)
      (pss_one (ps_ret (pe_ifExp (pt_cmpR op_eq (pv 0) pe_int (nomark _)) (pe_tup (pa_cons (ExcV.pe_xv (pv 1)) pa_nil)) (pe_tup pa_nil))))))))), ?_⟩
    have lt := (T.own hC).1
    have dict : ∀ {x : Str × V} {r : List (Str × V)}, fs = x :: r → ∃ dx, H a = some (exo a C (some dx)) ∧ H dx = some (exd dx fs) := fun {x r} e => by
      rcases ex with h | ⟨h, _⟩
      · exact h
      · rw [e] at h
        cases h
    have cs : n = 0 ∨ n = 1 ∨ n = 2 ∨ n = 3 ∨ n = 4 ∨ n = 5 ∨ n = 6 ∨ n = 7 ∨ n = 8 ∨ n = 9 ∨ n = 10 ∨ n = 11 ∨ n = 12 ∨ n = 13 ∨ n = 14 ∨ n = 15 ∨ n = 16 ∨ n = 17 := by omega
    rcases cs with rfl | rfl | rfl | rfl | rfl | rfl | rfl | rfl | rfl | rfl | rfl | rfl | rfl | rfl | rfl | rfl | rfl | rfl
    · cases hC; cases hf; cases hd
      obtain ⟨dx, h1, h2⟩ := dict rfl
      refine ⟨_, rfl, by show 3 ≤ sizeLine; decide, fun p0 n0 => ⟨p0, _, rfl, .inr (.inl (.inl upd_same)), rfl, rfl, _, rfl, ?_⟩⟩
      refine iteDN rfl ?_
      refine ⟨_, rfl, by show 4 ≤ sizeLine; decide, fun p1 n1 => ⟨p1, _, rfl, .inr (.inl (.inl upd_same)), rfl, rfl, _, rfl, ?_⟩⟩
      refine iteDN rfl ?_
      refine ⟨_, rfl, by show 2 ≤ sizeLine; decide, fun p2 n2 => ⟨p2, _, rfl, .inr (.inl (.inl upd_same)), rfl, rfl, _, rfl, ?_⟩⟩
      refine iteDN rfl ?_
      refine ⟨_, rfl, by show 2 ≤ sizeLine; decide, fun p3 n3 => ⟨p3, _, rfl, .inr (.inl (.inl upd_same)), rfl, rfl, _, rfl, ?_⟩⟩
      refine iteDY rfl ?_
      refine ⟨_, rfl, rfl, _, rfl, ?_⟩
      refine iteDY rfl ?_
      refine ⟨_, rfl, a, _, dx, _, l.v, rfl, (((((Same.refl H).trans (same_upd n0)).trans (same_upd n1)).trans (same_upd n2)).trans (same_upd n3)) _ _ h1, (((((Same.refl H).trans (same_upd n0)).trans (same_upd n1)).trans (same_upd n2)).trans (same_upd n3)) _ _ h2, T.xf_NoLot, T.no_NoLot_lot, rfl, ?_⟩
      exact ⟨by show 1 ≤ sizeLine; decide, fun r mr => q _ r ((((((Same.refl H).trans (same_upd n0)).trans (same_upd n1)).trans (same_upd n2)).trans (same_upd n3)).trans (same_upd mr)) (.inl (.inl upd_same))⟩
    · cases hC; cases hf; cases hd
      obtain ⟨dx, h1, h2⟩ := dict rfl
      refine ⟨_, rfl, by show 3 ≤ sizeLine; decide, fun p0 n0 => ⟨p0, _, rfl, .inr (.inl (.inl upd_same)), rfl, rfl, _, rfl, ?_⟩⟩
      refine iteDN rfl ?_
      refine ⟨_, rfl, by show 4 ≤ sizeLine; decide, fun p1 n1 => ⟨p1, _, rfl, .inr (.inl (.inl upd_same)), rfl, rfl, _, rfl, ?_⟩⟩
      refine iteDN rfl ?_
      refine ⟨_, rfl, by show 2 ≤ sizeLine; decide, fun p2 n2 => ⟨p2, _, rfl, .inr (.inl (.inl upd_same)), rfl, rfl, _, rfl, ?_⟩⟩
      refine iteDY rfl ?_
      refine ⟨_, rfl, a, _, dx, _, l.v, rfl, ((((Same.refl H).trans (same_upd n0)).trans (same_upd n1)).trans (same_upd n2)) _ _ h1, ((((Same.refl H).trans (same_upd n0)).trans (same_upd n1)).trans (same_upd n2)) _ _ h2, T.xf_BadLog, T.no_BadLog_name, rfl, ?_⟩
      refine ⟨_, rfl, rfl, _, rfl, ?_⟩
      refine iteDY rfl ?_
      refine ⟨_, rfl, a, _, dx, _, m.v, rfl, ((((Same.refl H).trans (same_upd n0)).trans (same_upd n1)).trans (same_upd n2)) _ _ h1, ((((Same.refl H).trans (same_upd n0)).trans (same_upd n1)).trans (same_upd n2)) _ _ h2, T.xf_BadLog, T.no_BadLog_at, rfl, ?_⟩
      exact ⟨by show 2 ≤ sizeLine; decide, fun r mr => q _ r (((((Same.refl H).trans (same_upd n0)).trans (same_upd n1)).trans (same_upd n2)).trans (same_upd mr)) (.inl (.inl upd_same))⟩
    · cases hC; cases hf; cases hd
      obtain ⟨dx, h1, h2⟩ := dict rfl
      refine ⟨_, rfl, by show 3 ≤ sizeLine; decide, fun p0 n0 => ⟨p0, _, rfl, .inr (.inl (.inl upd_same)), rfl, rfl, _, rfl, ?_⟩⟩
      refine iteDY rfl ?_
      refine ⟨_, rfl, a, _, dx, _, l.v, rfl, ((Same.refl H).trans (same_upd n0)) _ _ h1, ((Same.refl H).trans (same_upd n0)) _ _ h2, T.xf_NoDealing, T.no_NoDealing_at, rfl, ?_⟩
      exact ⟨by show 1 ≤ sizeLine; decide, fun r mr => q _ r (((Same.refl H).trans (same_upd n0)).trans (same_upd mr)) (.inl (.inl upd_same))⟩
    · cases hC; cases hf; cases hd
      obtain ⟨dx, h1, h2⟩ := dict rfl
      refine ⟨_, rfl, by show 3 ≤ sizeLine; decide, fun p0 n0 => ⟨p0, _, rfl, .inr (.inl (.inl upd_same)), rfl, rfl, _, rfl, ?_⟩⟩
      refine iteDY rfl ?_
      refine ⟨_, rfl, a, _, dx, _, l.v, rfl, ((Same.refl H).trans (same_upd n0)) _ _ h1, ((Same.refl H).trans (same_upd n0)) _ _ h2, T.xf_BadBox, T.no_BadBox_at, rfl, ?_⟩
      exact ⟨by show 1 ≤ sizeLine; decide, fun r mr => q _ r (((Same.refl H).trans (same_upd n0)).trans (same_upd mr)) (.inl (.inl upd_same))⟩
    · cases hC; cases hf; cases hd
      obtain ⟨dx, h1, h2⟩ := dict rfl
      refine ⟨_, rfl, by show 3 ≤ sizeLine; decide, fun p0 n0 => ⟨p0, _, rfl, .inr (.inl (.inl upd_same)), rfl, rfl, _, rfl, ?_⟩⟩
      refine iteDN rfl ?_
      refine ⟨_, rfl, by show 4 ≤ sizeLine; decide, fun p1 n1 => ⟨p1, _, rfl, .inr (.inl (.inl upd_same)), rfl, rfl, _, rfl, ?_⟩⟩
      refine iteDY rfl ?_
      refine ⟨_, rfl, a, _, dx, _, l.v, rfl, (((Same.refl H).trans (same_upd n0)).trans (same_upd n1)) _ _ h1, (((Same.refl H).trans (same_upd n0)).trans (same_upd n1)) _ _ h2, T.xf_NoName, T.no_NoName_name, rfl, ?_⟩
      exact ⟨by show 1 ≤ sizeLine; decide, fun r mr => q _ r ((((Same.refl H).trans (same_upd n0)).trans (same_upd n1)).trans (same_upd mr)) (.inl (.inl upd_same))⟩
    · cases hC; cases hf; cases hd
      obtain ⟨dx, h1, h2⟩ := dict rfl
      refine ⟨_, rfl, by show 3 ≤ sizeLine; decide, fun p0 n0 => ⟨p0, _, rfl, .inr (.inl (.inl upd_same)), rfl, rfl, _, rfl, ?_⟩⟩
      refine iteDN rfl ?_
      refine ⟨_, rfl, by show 4 ≤ sizeLine; decide, fun p1 n1 => ⟨p1, _, rfl, .inr (.inl (.inl upd_same)), rfl, rfl, _, rfl, ?_⟩⟩
      refine iteDY rfl ?_
      refine ⟨_, rfl, a, _, dx, _, l.v, rfl, (((Same.refl H).trans (same_upd n0)).trans (same_upd n1)) _ _ h1, (((Same.refl H).trans (same_upd n0)).trans (same_upd n1)) _ _ h2, T.xf_Twice, T.no_Twice_name, rfl, ?_⟩
      exact ⟨by show 1 ≤ sizeLine; decide, fun r mr => q _ r ((((Same.refl H).trans (same_upd n0)).trans (same_upd n1)).trans (same_upd mr)) (.inl (.inl upd_same))⟩
    · cases hC; cases hf; cases hd
      obtain ⟨dx, h1, h2⟩ := dict rfl
      refine ⟨_, rfl, by show 3 ≤ sizeLine; decide, fun p0 n0 => ⟨p0, _, rfl, .inr (.inl (.inl upd_same)), rfl, rfl, _, rfl, ?_⟩⟩
      refine iteDN rfl ?_
      refine ⟨_, rfl, by show 4 ≤ sizeLine; decide, fun p1 n1 => ⟨p1, _, rfl, .inr (.inl (.inl upd_same)), rfl, rfl, _, rfl, ?_⟩⟩
      refine iteDY rfl ?_
      refine ⟨_, rfl, a, _, dx, _, l.v, rfl, (((Same.refl H).trans (same_upd n0)).trans (same_upd n1)) _ _ h1, (((Same.refl H).trans (same_upd n0)).trans (same_upd n1)) _ _ h2, T.xf_NoWalker, T.no_NoWalker_name, rfl, ?_⟩
      exact ⟨by show 1 ≤ sizeLine; decide, fun r mr => q _ r ((((Same.refl H).trans (same_upd n0)).trans (same_upd n1)).trans (same_upd mr)) (.inl (.inl upd_same))⟩
    · cases hC; cases hf; cases hd
      obtain ⟨dx, h1, h2⟩ := dict rfl
      refine ⟨_, rfl, by show 3 ≤ sizeLine; decide, fun p0 n0 => ⟨p0, _, rfl, .inr (.inl (.inl upd_same)), rfl, rfl, _, rfl, ?_⟩⟩
      refine iteDN rfl ?_
      refine ⟨_, rfl, by show 4 ≤ sizeLine; decide, fun p1 n1 => ⟨p1, _, rfl, .inr (.inl (.inl upd_same)), rfl, rfl, _, rfl, ?_⟩⟩
      refine iteDN rfl ?_
      refine ⟨_, rfl, by show 2 ≤ sizeLine; decide, fun p2 n2 => ⟨p2, _, rfl, .inr (.inl (.inl upd_same)), rfl, rfl, _, rfl, ?_⟩⟩
      refine iteDN rfl ?_
      refine ⟨_, rfl, by show 2 ≤ sizeLine; decide, fun p3 n3 => ⟨p3, _, rfl, .inr (.inl (.inl upd_same)), rfl, rfl, _, rfl, ?_⟩⟩
      refine iteDY rfl ?_
      refine ⟨_, rfl, rfl, _, rfl, ?_⟩
      refine iteDN rfl ?_
      refine ⟨_, rfl, a, _, dx, _, l.v, rfl, (((((Same.refl H).trans (same_upd n0)).trans (same_upd n1)).trans (same_upd n2)).trans (same_upd n3)) _ _ h1, (((((Same.refl H).trans (same_upd n0)).trans (same_upd n1)).trans (same_upd n2)).trans (same_upd n3)) _ _ h2, T.xf_NoSign, T.no_NoSign_sign, rfl, ?_⟩
      exact ⟨by show 1 ≤ sizeLine; decide, fun r mr => q _ r ((((((Same.refl H).trans (same_upd n0)).trans (same_upd n1)).trans (same_upd n2)).trans (same_upd n3)).trans (same_upd mr)) (.inl (.inl upd_same))⟩
    · cases hC; cases hf; cases hd
      obtain ⟨dx, h1, h2⟩ := dict rfl
      refine ⟨_, rfl, by show 3 ≤ sizeLine; decide, fun p0 n0 => ⟨p0, _, rfl, .inr (.inl (.inl upd_same)), rfl, rfl, _, rfl, ?_⟩⟩
      refine iteDN rfl ?_
      refine ⟨_, rfl, by show 4 ≤ sizeLine; decide, fun p1 n1 => ⟨p1, _, rfl, .inr (.inl (.inl upd_same)), rfl, rfl, _, rfl, ?_⟩⟩
      refine iteDN rfl ?_
      refine ⟨_, rfl, by show 2 ≤ sizeLine; decide, fun p2 n2 => ⟨p2, _, rfl, .inr (.inl (.inl upd_same)), rfl, rfl, _, rfl, ?_⟩⟩
      refine iteDY rfl ?_
      refine ⟨_, rfl, a, _, dx, _, l.v, rfl, ((((Same.refl H).trans (same_upd n0)).trans (same_upd n1)).trans (same_upd n2)) _ _ h1, ((((Same.refl H).trans (same_upd n0)).trans (same_upd n1)).trans (same_upd n2)) _ _ h2, T.xf_NoLeg, T.no_NoLeg_name, rfl, ?_⟩
      refine ⟨_, rfl, rfl, _, rfl, ?_⟩
      refine iteDN rfl ?_
      refine ⟨_, rfl, a, _, dx, _, m.v, rfl, ((((Same.refl H).trans (same_upd n0)).trans (same_upd n1)).trans (same_upd n2)) _ _ h1, ((((Same.refl H).trans (same_upd n0)).trans (same_upd n1)).trans (same_upd n2)) _ _ h2, T.xf_NoLeg, T.no_NoLeg_leg, rfl, ?_⟩
      exact ⟨by show 2 ≤ sizeLine; decide, fun r mr => q _ r (((((Same.refl H).trans (same_upd n0)).trans (same_upd n1)).trans (same_upd n2)).trans (same_upd mr)) (.inl (.inl upd_same))⟩
    · cases hC; cases hf; cases hd
      obtain ⟨dx, h1, h2⟩ := dict rfl
      refine ⟨_, rfl, by show 3 ≤ sizeLine; decide, fun p0 n0 => ⟨p0, _, rfl, .inr (.inl (.inl upd_same)), rfl, rfl, _, rfl, ?_⟩⟩
      refine iteDN rfl ?_
      refine ⟨_, rfl, by show 4 ≤ sizeLine; decide, fun p1 n1 => ⟨p1, _, rfl, .inr (.inl (.inl upd_same)), rfl, rfl, _, rfl, ?_⟩⟩
      refine iteDN rfl ?_
      refine ⟨_, rfl, by show 2 ≤ sizeLine; decide, fun p2 n2 => ⟨p2, _, rfl, .inr (.inl (.inl upd_same)), rfl, rfl, _, rfl, ?_⟩⟩
      refine iteDN rfl ?_
      refine ⟨_, rfl, by show 2 ≤ sizeLine; decide, fun p3 n3 => ⟨p3, _, rfl, .inr (.inl (.inl upd_same)), rfl, rfl, _, rfl, ?_⟩⟩
      refine iteDN rfl ?_
      refine ⟨_, rfl, by show 2 ≤ sizeLine; decide, fun p4 n4 => ⟨p4, _, rfl, .inr (.inl (.inl upd_same)), rfl, rfl, _, rfl, ?_⟩⟩
      refine iteDY rfl ?_
      refine ⟨_, rfl, rfl, _, rfl, ?_⟩
      refine iteDY rfl ?_
      refine ⟨_, rfl, a, _, dx, _, l.v, rfl, ((((((Same.refl H).trans (same_upd n0)).trans (same_upd n1)).trans (same_upd n2)).trans (same_upd n3)).trans (same_upd n4)) _ _ h1, ((((((Same.refl H).trans (same_upd n0)).trans (same_upd n1)).trans (same_upd n2)).trans (same_upd n3)).trans (same_upd n4)) _ _ h2, T.xf_TooMany, T.no_TooMany_many, rfl, ?_⟩
      exact ⟨by show 1 ≤ sizeLine; decide, fun r mr => q _ r (((((((Same.refl H).trans (same_upd n0)).trans (same_upd n1)).trans (same_upd n2)).trans (same_upd n3)).trans (same_upd n4)).trans (same_upd mr)) (.inl (.inl upd_same))⟩
    · cases hC; cases hf; cases hd
      obtain ⟨dx, h1, h2⟩ := dict rfl
      refine ⟨_, rfl, by show 3 ≤ sizeLine; decide, fun p0 n0 => ⟨p0, _, rfl, .inr (.inl (.inl upd_same)), rfl, rfl, _, rfl, ?_⟩⟩
      refine iteDN rfl ?_
      refine ⟨_, rfl, by show 4 ≤ sizeLine; decide, fun p1 n1 => ⟨p1, _, rfl, .inr (.inl (.inl upd_same)), rfl, rfl, _, rfl, ?_⟩⟩
      refine iteDN rfl ?_
      refine ⟨_, rfl, by show 2 ≤ sizeLine; decide, fun p2 n2 => ⟨p2, _, rfl, .inr (.inl (.inl upd_same)), rfl, rfl, _, rfl, ?_⟩⟩
      refine iteDN rfl ?_
      refine ⟨_, rfl, by show 2 ≤ sizeLine; decide, fun p3 n3 => ⟨p3, _, rfl, .inr (.inl (.inl upd_same)), rfl, rfl, _, rfl, ?_⟩⟩
      refine iteDN rfl ?_
      refine ⟨_, rfl, by show 2 ≤ sizeLine; decide, fun p4 n4 => ⟨p4, _, rfl, .inr (.inl (.inl upd_same)), rfl, rfl, _, rfl, ?_⟩⟩
      refine iteDY rfl ?_
      refine ⟨_, rfl, rfl, _, rfl, ?_⟩
      refine iteDN rfl ?_
      refine ⟨_, rfl, a, _, dx, _, l.v, rfl, ((((((Same.refl H).trans (same_upd n0)).trans (same_upd n1)).trans (same_upd n2)).trans (same_upd n3)).trans (same_upd n4)) _ _ h1, ((((((Same.refl H).trans (same_upd n0)).trans (same_upd n1)).trans (same_upd n2)).trans (same_upd n3)).trans (same_upd n4)) _ _ h2, T.xf_NoWatch, T.no_NoWatch_number, rfl, ?_⟩
      exact ⟨by show 1 ≤ sizeLine; decide, fun r mr => q _ r (((((((Same.refl H).trans (same_upd n0)).trans (same_upd n1)).trans (same_upd n2)).trans (same_upd n3)).trans (same_upd n4)).trans (same_upd mr)) (.inl (.inl upd_same))⟩
    · cases hC; cases hf; cases hd
      obtain ⟨dx, h1, h2⟩ := dict rfl
      refine ⟨_, rfl, by show 3 ≤ sizeLine; decide, fun p0 n0 => ⟨p0, _, rfl, .inr (.inl (.inl upd_same)), rfl, rfl, _, rfl, ?_⟩⟩
      refine iteDY rfl ?_
      refine ⟨_, rfl, a, _, dx, _, l.v, rfl, ((Same.refl H).trans (same_upd n0)) _ _ h1, ((Same.refl H).trans (same_upd n0)) _ _ h2, T.xf_NoText, T.no_NoText_at, rfl, ?_⟩
      exact ⟨by show 1 ≤ sizeLine; decide, fun r mr => q _ r (((Same.refl H).trans (same_upd n0)).trans (same_upd mr)) (.inl (.inl upd_same))⟩
    · cases hC; cases hf; cases hd
      obtain ⟨dx, h1, h2⟩ := dict rfl
      refine ⟨_, rfl, by show 3 ≤ sizeLine; decide, fun p0 n0 => ⟨p0, _, rfl, .inr (.inl (.inl upd_same)), rfl, rfl, _, rfl, ?_⟩⟩
      refine iteDN rfl ?_
      refine ⟨_, rfl, by show 4 ≤ sizeLine; decide, fun p1 n1 => ⟨p1, _, rfl, .inr (.inl (.inl upd_same)), rfl, rfl, _, rfl, ?_⟩⟩
      refine iteDN rfl ?_
      refine ⟨_, rfl, by show 2 ≤ sizeLine; decide, fun p2 n2 => ⟨p2, _, rfl, .inr (.inl (.inl upd_same)), rfl, rfl, _, rfl, ?_⟩⟩
      refine iteDN rfl ?_
      refine ⟨_, rfl, by show 2 ≤ sizeLine; decide, fun p3 n3 => ⟨p3, _, rfl, .inr (.inl (.inl upd_same)), rfl, rfl, _, rfl, ?_⟩⟩
      refine iteDN rfl ?_
      refine ⟨_, rfl, by show 2 ≤ sizeLine; decide, fun p4 n4 => ⟨p4, _, rfl, .inr (.inl (.inl upd_same)), rfl, rfl, _, rfl, ?_⟩⟩
      refine iteDN rfl ?_
      refine ⟨_, rfl, rfl, _, rfl, ?_⟩
      refine iteDY rfl ?_
      refine ⟨_, rfl, a, _, dx, _, l.v, rfl, ((((((Same.refl H).trans (same_upd n0)).trans (same_upd n1)).trans (same_upd n2)).trans (same_upd n3)).trans (same_upd n4)) _ _ h1, ((((((Same.refl H).trans (same_upd n0)).trans (same_upd n1)).trans (same_upd n2)).trans (same_upd n3)).trans (same_upd n4)) _ _ h2, T.xf_NoLine, T.no_NoLine_line, rfl, ?_⟩
      exact ⟨by show 1 ≤ sizeLine; decide, fun r mr => q _ r (((((((Same.refl H).trans (same_upd n0)).trans (same_upd n1)).trans (same_upd n2)).trans (same_upd n3)).trans (same_upd n4)).trans (same_upd mr)) (.inl (.inl upd_same))⟩
    · cases hC; cases hf; cases hd
      obtain ⟨dx, h1, h2⟩ := dict rfl
      refine ⟨_, rfl, by show 3 ≤ sizeLine; decide, fun p0 n0 => ⟨p0, _, rfl, .inr (.inl (.inl upd_same)), rfl, rfl, _, rfl, ?_⟩⟩
      refine iteDN rfl ?_
      refine ⟨_, rfl, by show 4 ≤ sizeLine; decide, fun p1 n1 => ⟨p1, _, rfl, .inr (.inl (.inl upd_same)), rfl, rfl, _, rfl, ?_⟩⟩
      refine iteDY rfl ?_
      refine ⟨_, rfl, a, _, dx, _, l.v, rfl, (((Same.refl H).trans (same_upd n0)).trans (same_upd n1)) _ _ h1, (((Same.refl H).trans (same_upd n0)).trans (same_upd n1)) _ _ h2, T.xf_NoBook, T.no_NoBook_name, rfl, ?_⟩
      exact ⟨by show 1 ≤ sizeLine; decide, fun r mr => q _ r ((((Same.refl H).trans (same_upd n0)).trans (same_upd n1)).trans (same_upd mr)) (.inl (.inl upd_same))⟩
    · cases hC; cases hf; cases hd
      refine ⟨_, rfl, by show 3 ≤ sizeLine; decide, fun p0 n0 => ⟨p0, _, rfl, .inr (.inl (.inl upd_same)), rfl, rfl, _, rfl, ?_⟩⟩
      refine iteDN rfl ?_
      refine ⟨_, rfl, by show 4 ≤ sizeLine; decide, fun p1 n1 => ⟨p1, _, rfl, .inr (.inl (.inl upd_same)), rfl, rfl, _, rfl, ?_⟩⟩
      refine iteDN rfl ?_
      refine ⟨_, rfl, by show 2 ≤ sizeLine; decide, fun p2 n2 => ⟨p2, _, rfl, .inr (.inl (.inl upd_same)), rfl, rfl, _, rfl, ?_⟩⟩
      refine iteDN rfl ?_
      refine ⟨_, rfl, by show 2 ≤ sizeLine; decide, fun p3 n3 => ⟨p3, _, rfl, .inr (.inl (.inl upd_same)), rfl, rfl, _, rfl, ?_⟩⟩
      refine iteDN rfl ?_
      refine ⟨_, rfl, by show 2 ≤ sizeLine; decide, fun p4 n4 => ⟨p4, _, rfl, .inr (.inl (.inl upd_same)), rfl, rfl, _, rfl, ?_⟩⟩
      refine iteDN rfl ?_
      refine ⟨_, rfl, rfl, _, rfl, ?_⟩
      refine iteDN rfl ?_
      exact ⟨by show 0 ≤ sizeLine; decide, fun r mr => q _ r (((((((Same.refl H).trans (same_upd n0)).trans (same_upd n1)).trans (same_upd n2)).trans (same_upd n3)).trans (same_upd n4)).trans (same_upd mr)) (.inl (.inl upd_same))⟩
    · cases hC; cases hf; cases hd
      refine ⟨_, rfl, by show 3 ≤ sizeLine; decide, fun p0 n0 => ⟨p0, _, rfl, .inr (.inl (.inl upd_same)), rfl, rfl, _, rfl, ?_⟩⟩
      refine iteDN rfl ?_
      refine ⟨_, rfl, by show 4 ≤ sizeLine; decide, fun p1 n1 => ⟨p1, _, rfl, .inr (.inl (.inl upd_same)), rfl, rfl, _, rfl, ?_⟩⟩
      refine iteDN rfl ?_
      refine ⟨_, rfl, by show 2 ≤ sizeLine; decide, fun p2 n2 => ⟨p2, _, rfl, .inr (.inl (.inl upd_same)), rfl, rfl, _, rfl, ?_⟩⟩
      refine iteDN rfl ?_
      refine ⟨_, rfl, by show 2 ≤ sizeLine; decide, fun p3 n3 => ⟨p3, _, rfl, .inr (.inl (.inl upd_same)), rfl, rfl, _, rfl, ?_⟩⟩
      refine iteDN rfl ?_
      refine ⟨_, rfl, by show 2 ≤ sizeLine; decide, fun p4 n4 => ⟨p4, _, rfl, .inr (.inl (.inl upd_same)), rfl, rfl, _, rfl, ?_⟩⟩
      refine iteDN rfl ?_
      refine ⟨_, rfl, rfl, _, rfl, ?_⟩
      refine iteDN rfl ?_
      exact ⟨by show 0 ≤ sizeLine; decide, fun r mr => q _ r (((((((Same.refl H).trans (same_upd n0)).trans (same_upd n1)).trans (same_upd n2)).trans (same_upd n3)).trans (same_upd n4)).trans (same_upd mr)) (.inl (.inl upd_same))⟩
    · cases hC; cases hf; cases hd
      refine ⟨_, rfl, by show 3 ≤ sizeLine; decide, fun p0 n0 => ⟨p0, _, rfl, .inr (.inl (.inl upd_same)), rfl, rfl, _, rfl, ?_⟩⟩
      refine iteDN rfl ?_
      refine ⟨_, rfl, by show 4 ≤ sizeLine; decide, fun p1 n1 => ⟨p1, _, rfl, .inr (.inl (.inl upd_same)), rfl, rfl, _, rfl, ?_⟩⟩
      refine iteDN rfl ?_
      refine ⟨_, rfl, by show 2 ≤ sizeLine; decide, fun p2 n2 => ⟨p2, _, rfl, .inr (.inl (.inl upd_same)), rfl, rfl, _, rfl, ?_⟩⟩
      refine iteDN rfl ?_
      refine ⟨_, rfl, by show 2 ≤ sizeLine; decide, fun p3 n3 => ⟨p3, _, rfl, .inr (.inl (.inl upd_same)), rfl, rfl, _, rfl, ?_⟩⟩
      refine iteDN rfl ?_
      refine ⟨_, rfl, by show 2 ≤ sizeLine; decide, fun p4 n4 => ⟨p4, _, rfl, .inr (.inl (.inl upd_same)), rfl, rfl, _, rfl, ?_⟩⟩
      refine iteDN rfl ?_
      refine ⟨_, rfl, rfl, _, rfl, ?_⟩
      refine iteDN rfl ?_
      exact ⟨by show 0 ≤ sizeLine; decide, fun r mr => q _ r (((((((Same.refl H).trans (same_upd n0)).trans (same_upd n1)).trans (same_upd n2)).trans (same_upd n3)).trans (same_upd n4)).trans (same_upd mr)) (.inl (.inl upd_same))⟩
    · cases hC; cases hf; cases hd
      refine ⟨_, rfl, by show 3 ≤ sizeLine; decide, fun p0 n0 => ⟨p0, _, rfl, .inr (.inl (.inl upd_same)), rfl, rfl, _, rfl, ?_⟩⟩
      refine iteDN rfl ?_
      refine ⟨_, rfl, by show 4 ≤ sizeLine; decide, fun p1 n1 => ⟨p1, _, rfl, .inr (.inl (.inl upd_same)), rfl, rfl, _, rfl, ?_⟩⟩
      refine iteDN rfl ?_
      refine ⟨_, rfl, by show 2 ≤ sizeLine; decide, fun p2 n2 => ⟨p2, _, rfl, .inr (.inl (.inl upd_same)), rfl, rfl, _, rfl, ?_⟩⟩
      refine iteDN rfl ?_
      refine ⟨_, rfl, by show 2 ≤ sizeLine; decide, fun p3 n3 => ⟨p3, _, rfl, .inr (.inl (.inl upd_same)), rfl, rfl, _, rfl, ?_⟩⟩
      refine iteDN rfl ?_
      refine ⟨_, rfl, by show 2 ≤ sizeLine; decide, fun p4 n4 => ⟨p4, _, rfl, .inr (.inl (.inl upd_same)), rfl, rfl, _, rfl, ?_⟩⟩
      refine iteDN rfl ?_
      refine ⟨_, rfl, rfl, _, rfl, ?_⟩
      refine iteDN rfl ?_
      exact ⟨by show 0 ≤ sizeLine; decide, fun r mr => q _ r (((((((Same.refl H).trans (same_upd n0)).trans (same_upd n1)).trans (same_upd n2)).trans (same_upd n3)).trans (same_upd n4)).trans (same_upd mr)) (.inl (.inl upd_same))⟩
--@@SPLIT
/-! ### a text spoilt, that can still be laid -/
theorem op_mulT {X : Cx} : OpR X (binaryOp .Mult) (fun x y H Q => ∃ (z : Str) (n : Int), x = .str z ∧ y = .int n ∧ z.length ≤ 16 ∧ 0 ≤ n ∧ n ≤ 1048576 ∧ Q (.str (Txt.mul z n)) H) := by
  intro pins s σ H x y v u Q I rx ry h
  obtain ⟨z, n, rfl, rfl, hz, h0, h1, q⟩ := h
  obtain ⟨t, rfl⟩ := rx
  obtain ⟨t', rfl⟩ := ry
  exact PySem.W.KXi.mul rfl hz (by omega) (by omega) fun t' k _ _ => ⟨.str _, H, I.tok _, ⟨_, rfl⟩, q⟩
/-! ### the law -/
def spLaw (K : PySem.W.Frag) : Sp := fun vs H Q _ => ∃ (a : Addr) (ns : List Int), vs = [.ref a] ∧ SqL K H a (ns.map V.int) ∧ ns.length ≤ 63 ∧ ∀ H', Q (.bl true) H'
theorem three_at (x y z : Lf) {r : Int} (h0 : 0 ≤ r) (h1 : r < 3) : ∃ l : Lf, atI [x.v, y.v, z.v] r = some l.v := by
  have : r = 0 ∨ r = 1 ∨ r = 2 := by omega
  rcases this with rfl | rfl | rfl
  · exact ⟨x, rfl⟩
  · exact ⟨y, rfl⟩
  · exact ⟨z, rfl⟩
theorem due_at {i : Nat} (h : i < 18) : ∃ k : Nat, k ≤ 2 ∧ atI [V.int 1, V.int 2, V.int 1, V.int 1, V.int 1, V.int 1, V.int 1, V.int 1, V.int 2, V.int 1, V.int 1, V.int 1, V.int 1, V.int 1, V.int 0, V.int 0, V.int 0, V.int 0] (i : Nat) = some (.int (k : Nat)) ∧ ∀ l m : Lf, (ddN l m)[i]? = some ([l, m].take k) := by
  match i, h with
  | 0, _ => exact ⟨1, by decide, rfl, fun _ _ => rfl⟩
  | 1, _ => exact ⟨2, by decide, rfl, fun _ _ => rfl⟩
  | 2, _ => exact ⟨1, by decide, rfl, fun _ _ => rfl⟩
  | 3, _ => exact ⟨1, by decide, rfl, fun _ _ => rfl⟩
  | 4, _ => exact ⟨1, by decide, rfl, fun _ _ => rfl⟩
  | 5, _ => exact ⟨1, by decide, rfl, fun _ _ => rfl⟩
  | 6, _ => exact ⟨1, by decide, rfl, fun _ _ => rfl⟩
  | 7, _ => exact ⟨1, by decide, rfl, fun _ _ => rfl⟩
  | 8, _ => exact ⟨2, by decide, rfl, fun _ _ => rfl⟩
  | 9, _ => exact ⟨1, by decide, rfl, fun _ _ => rfl⟩
  | 10, _ => exact ⟨1, by decide, rfl, fun _ _ => rfl⟩
  | 11, _ => exact ⟨1, by decide, rfl, fun _ _ => rfl⟩
  | 12, _ => exact ⟨1, by decide, rfl, fun _ _ => rfl⟩
  | 13, _ => exact ⟨1, by decide, rfl, fun _ _ => rfl⟩
  | 14, _ => exact ⟨0, by decide, rfl, fun _ _ => rfl⟩
  | 15, _ => exact ⟨0, by decide, rfl, fun _ _ => rfl⟩
  | 16, _ => exact ⟨0, by decide, rfl, fun _ _ => rfl⟩
  | 17, _ => exact ⟨0, by decide, rfl, fun _ _ => rfl⟩
  | _ + 18, h => exact absurd h (by omega)
theorem fld_ex {i : Nat} (h : i < 18) (l m : Lf) : ∃ fs, (fldsL l m)[i]? = some fs := ⟨_, List.getElem?_eq_getElem (show i < (fldsL l m).length from h)⟩
theorem cls_ex {w : World} {K : PySem.W.Frag} {mg : Str → Option Value} (T : Top w K mg) {i : Nat} (h : i < 18) : ∃ C, (clsL T)[i]? = some C := ⟨_, List.getElem?_eq_getElem (show i < (clsL T).length from h)⟩
theorem lf_dpa {K : PySem.W.Frag} {H : Hp} : ∀ ds : List Lf, DpAll K H (ds.map Lf.v) (ds.map Lf.d)
  | [] => .nil
  | d :: r => .cons d.dp (lf_dpa r)
theorem lf_ok (ds : List Lf) (h : ds.length ≤ 2) : okD 1 (.tuple (ds.map Lf.d)) = true := by
  refine Bool.and_eq_true_iff.mpr ⟨decide_eq_true (by rw [List.length_map]; omega), ?_⟩
  refine List.all_eq_true.mpr fun d hd => ?_
  obtain ⟨a, _, rfl⟩ := List.mem_map.mp hd
  cases a <;> rfl
theorem cut_to (xs : List V) (n : Nat) (h : n ≤ xs.length) : cutV xs none (some (n : Int)) = xs.take n := by
  unfold cutV
  rw [HT.sIx_none, HT.sIx_nat, Nat.min_eq_left h, List.drop_zero, Nat.sub_zero]
theorem ok_law (T : Top w K mg) : FnOk P w K mg base CX0 7 T.a_law T.fd_law ["_law_script"] (spLaw K) := by
  have G_Lpool := ok_Lpool (P := P) (w := w) (base := base) T
  have G_Ltake := ok_Ltake (P := P) (w := w) (base := base) T
  have G_Lsame := ok_Lsame (P := P) (w := w) (base := base) T 1
  have G_Lsorts := ok_Lsorts (P := P) (w := w) (base := base) T
  have G_Lmade := ok_Lmade (P := P) (w := w) (base := base) T
  have G_Lnamed := ok_Lnamed (P := P) (w := w) (base := base) T
  have G_Lfields := ok_Lfields (P := P) (w := w) (base := base) T
  refine T.F_law.ok sc_law (fun vs H Q E h => ?_) (fun cdv A outer s H vs Q E hr h => ?_)
  · obtain ⟨a, ns, rfl, _⟩ := h
    rfl
  · obtain ⟨a, ns, rfl, hS, hlen, q⟩ := h
    refine ⟨_, (pss_cons (ps_for PassesOwn.never rfl (pi_range1 (by rfl) T.m_range (pa_cons pe_int pa_nil)) (pg_name (i := 1) sc_law.nd rfl (.inl rfl)) (pss_cons (ps_set (i := 2) sc_law.nd rfl (.inl rfl) (pe_call G_Lpool (hr.mono (by decide)) (by rfl) T.g_Lpool T.F_Lpool.kp T.b_Lpool .nil pass0 (pa_cons (pv 0) (pa_cons (pe_op op_add pe_int (pv 1)) pa_nil))))
      (pss_cons (ps_set (i := 3) sc_law.nd rfl (.inl rfl) (pe_lst (pa_cons (pe_op op_mul (pe_call G_Ltake (hr.mono (by decide)) (by rfl) T.g_Ltake T.F_Ltake.kp T.b_Ltake .nil pass0 (pa_cons (pv 2) (pa_cons (pe_op op_pow pe_int pe_int) pa_nil))) (pe_op op_sub pe_int (pe_op op_mul pe_int (pe_call G_Ltake (hr.mono (by decide)) (by rfl) T.g_Ltake T.F_Ltake.kp T.b_Ltake .nil pass0 (pa_cons (pv 2) (pa_cons pe_int pa_nil)))))) (pa_cons (pe_op op_mulT pe_str (pe_call G_Ltake (hr.mono (by decide)) (by rfl) T.g_Ltake T.F_Ltake.kp T.b_Ltake .nil pass0 (pa_cons (pv 2) (pa_cons pe_int pa_nil)))) (pa_cons pe_str pa_nil)))))
      (pss_cons (ps_par (i := 4) (j := 5) (by rfl) sc_law.nd rfl rfl (by decide) rfl rfl (pa_cons (pe_ix ix_list (pv 3) (pe_call G_Ltake (hr.mono (by decide)) (by rfl) T.g_Ltake T.F_Ltake.kp T.b_Ltake .nil pass0 (pa_cons (pv 2) (pa_cons pe_int pa_nil))) (fun _ _ => rfl)) (pa_cons (pe_ix ix_list (pv 3) (pe_call G_Ltake (hr.mono (by decide)) (by rfl) T.g_Ltake T.F_Ltake.kp T.b_Ltake .nil pass0 (pa_cons (pv 2) (pa_cons pe_int pa_nil))) (fun _ _ => rfl)) pa_nil)) (by rfl))
      (Evl.pss_cut (ps_set (i := 6) sc_law.nd rfl (.inl rfl) (pe_slice sl_tupA (pe_tup (pa_cons (pv 4) (pa_cons (pv 5) pa_nil))) po_none (po_some (pe_ix ix_tup (pe_tup (pa_cons pe_int (pa_cons pe_int (pa_cons pe_int (pa_cons pe_int (pa_cons pe_int (pa_cons pe_int (pa_cons pe_int (pa_cons pe_int (pa_cons pe_int (pa_cons pe_int (pa_cons pe_int (pa_cons pe_int (pa_cons pe_int (pa_cons pe_int (pa_cons pe_int (pa_cons pe_int (pa_cons pe_int (pa_cons pe_int pa_nil))))))))))))))))))) (pv 1) (fun _ _ => rfl)))))
      (pss_one (ps_for PassesOwn.never rfl (pi_tup (pe_tup (pa_cons (pe_call G_Lmade hr (by rfl) T.g_Lmade T.F_Lmade.kp T.b_Lmade .nil pass0 (pa_cons (pv 1) (pa_cons (pv 4) (pa_cons (pv 5) pa_nil)))) (pa_cons (pe_call G_Lnamed hr (by rfl) T.g_Lnamed T.F_Lnamed.kp T.b_Lnamed .nil pass0 (pa_cons (pv 1) (pa_cons (pv 4) (pa_cons (pv 5) pa_nil)))) pa_nil)))) (pg_name (i := 7) sc_law.nd rfl (.inl rfl)) (pss_cons (ps_if (PW.pt (pw_or (pt_cmpR (op_neD hr.units) (pe_call G_Lsorts (hr.mono (by decide)) (by rfl) T.g_Lsorts T.F_Lsorts.kp T.b_Lsorts .nil pass0 (pa_cons (pv 7) pa_nil)) (pe_lst (pa_cons (pv 1) pa_nil)) (nomark _)) (pw_or1 (pt_not (pt_val (pe_call G_Lsame (hr.mono (by decide)) (by rfl) T.g_Lsame T.F_Lsame.kp T.b_Lsame .nil pass0 (pa_cons (pe_call G_Lfields (hr.mono (by decide)) (by rfl) T.g_Lfields T.F_Lfields.kp T.b_Lfields .nil pass0 (pa_cons (pv 1) (pa_cons (pv 7) pa_nil))) (pa_cons (pv 6) pa_nil)))))))) (pss_one (ps_ret pe_bl)) pss_nil)
      (pss_one (ps_if (PW.pt (pw_or (pt_not (pt_val (pe_callB ExcV.call_isV (by rfl) T.m_isinstance (by decide +kernel) (pa_cons (pv 7) (pa_cons (pe_glob (v := .ref T.a_NeedleError) (by rfl) T.g_NeedleError rfl) pa_nil))))) (pw_or1 (pt_not (pt_val (pe_callB ExcV.call_isV (by rfl) T.m_isinstance (by decide +kernel) (pa_cons (pv 7) (pa_cons (pe_bltn (v := .ty "ValueError") (by rfl) T.m_ValueError (by decide +kernel) rfl) pa_nil)))))))) (pss_one (ps_ret pe_bl)) pss_nil))))))))))
      (pss_one (ps_ret pe_bl))), ?_⟩
    refine ⟨_, rfl, by decide, by decide, for_range (n := 18) (fun i σ H' => Same H H' ∧ ∃ y1 y2 y3 y4 y5 y6 y7, σ = [some (.ref a), y1, y2, y3, y4, y5, y6, y7]) ⟨Same.refl H, _, _, _, _, _, _, _, rfl⟩ ?_ (fun σ H' _ => q H')⟩
    rintro i σ H0 hi ⟨s0, y1, y2, y3, y4, y5, y6, y7, rfl⟩
    have e0 : (0 : Int) + (i : Int) = ((i : Nat) : Int) := by omega
    simp only [e0]
    refine ⟨.ref a, rfl, _, rfl, _, _, rfl, rfl, a, ns, _, rfl, Evl.ex_l (show Evl.Ex H H0 from s0) hS, hlen, by omega, fun H1 p s1 np hp => ?_⟩
    have b1 : But p H0 H1 := But.of s1
    refine ⟨.ref p, rfl, _, _, rfl, rfl, ⟨by decide, by decide, by decide⟩, p, _, rfl, by decide, by decide, hp, fun H2 r b2 hp2 r0 r1 => ?_⟩
    refine ⟨.ref p, rfl, p, 2, rfl, by decide, by decide, hp2, fun H3 e b3 hp3 e0 e1 => ?_⟩
    refine ⟨_, _, rfl, rfl, .inl ⟨by decide, by decide⟩, _, _, rfl, rfl, _, _, rfl, rfl, .inr ⟨by omega, by omega⟩, ?_⟩
    refine ⟨.ref p, rfl, p, 30, rfl, by decide, by decide, hp3, fun H4 n b4 hp4 n0 n1 => ⟨_, n, rfl, rfl, by decide, n0, by omega, ?_⟩⟩
    refine ⟨by show 3 ≤ sizeLine; decide, fun S nS => ?_⟩
    have b4' : But p H0 H4 := ((b1.trans b2).trans b3).trans b4
    have nSp : S ≠ p := hp4.ne_new nS
    have hp5 := hp4.upd (o := .lst [(Lf.i (r * (1 - 2 * e))).v, (Lf.s (Txt.mul (PySem.Str.ofString "a") n)).v, (Lf.s (PySem.Str.ofString "Oak")).v]) nSp
    have b5 := b4'.trans (But.of (same_upd (o := .lst [(Lf.i (r * (1 - 2 * e))).v, (Lf.s (Txt.mul (PySem.Str.ofString "a") n)).v, (Lf.s (PySem.Str.ofString "Oak")).v]) nS))
    have eS : (upd H4 S (.lst [(Lf.i (r * (1 - 2 * e))).v, (Lf.s (Txt.mul (PySem.Str.ofString "a") n)).v, (Lf.s (PySem.Str.ofString "Oak")).v])) S = some (.lst [(Lf.i (r * (1 - 2 * e))).v, (Lf.s (Txt.mul (PySem.Str.ofString "a") n)).v, (Lf.s (PySem.Str.ofString "Oak")).v]) := upd_same
    refine ⟨.ref S, rfl, .ref p, rfl, p, 3, rfl, by decide, by decide, hp5, fun H6 u b6 hp6 u0 u1 => ?_⟩
    obtain ⟨l, hl⟩ := three_at (.i (r * (1 - 2 * e))) (.s (Txt.mul (PySem.Str.ofString "a") n)) (.s (PySem.Str.ofString "Oak")) u0 u1
    refine ⟨S, _, u, l.v, rfl, rfl, .inl (.inl (b6 _ _ nSp eS)), hl, ?_⟩
    refine ⟨.ref S, rfl, .ref p, rfl, p, 3, rfl, by decide, by decide, hp6, fun H7 u' b7 hp7 u0' u1' => ?_⟩
    obtain ⟨m, hm⟩ := three_at (.i (r * (1 - 2 * e))) (.s (Txt.mul (PySem.Str.ofString "a") n)) (.s (PySem.Str.ofString "Oak")) u0' u1'
    refine ⟨S, _, u', m.v, rfl, rfl, .inl (.inl (b7 _ _ nSp (b6 _ _ nSp eS))), hm, ?_⟩
    have s7 : Same H0 H7 := But.same np (Same.refl _) ((b5.trans b6).trans b7)
    obtain ⟨k, k2, hk, hdd⟩ := due_at hi
    refine ⟨_, _, rfl, fun σ H' => Same H H' ∧ ∃ U y3 y7, SqT K H' U (([l, m].take k).map Lf.v) ∧ σ = [some (.ref a), some (.int (i : Nat)), some (.ref p), y3, some l.v, some m.v, some (.ref U), y7], ?_, ?_⟩
    · refine ⟨_, rfl, _, rfl, by show 2 ≤ sizeLine; decide, fun D nD => ?_⟩
      refine ⟨by show 18 ≤ sizeLine; decide, fun N nN => ⟨_, rfl, N, _, _, _, rfl, rfl, .inl (.inl upd_same), hk, _, rfl, ?_⟩⟩
      have sD := same_upd (o := .tup [l.v, m.v]) nD
      have sN := same_upd (o := .tup [V.int 1, V.int 2, V.int 1, V.int 1, V.int 1, V.int 1, V.int 1, V.int 1, V.int 2, V.int 1, V.int 1, V.int 1, V.int 1, V.int 1, V.int 0, V.int 0, V.int 0, V.int 0]) nN
      have s9 := (s0.trans s7).trans (sD.trans sN)
      refine ⟨D, [l.v, m.v], rfl, .inl (.inl (sN _ _ upd_same)), fun w => ?_, fun _ U nU => ?_⟩
      · have h2 : k = 2 := by
          have := w.2
          rw [HT.sIx_nat] at this
          have : min k 2 = 2 := this
          omega
        subst h2
        exact ⟨s9, D, _, _, .inl (.inl (sN _ _ upd_same)), rfl⟩
      · refine ⟨s9.trans (same_upd nU), U, _, _, .inl (.inl ?_), rfl⟩
        rw [cut_to [l.v, m.v] k k2, List.map_take]
        exact upd_same
    rintro σ H8 ⟨s8, U, y3, y7, hU, rfl⟩
    obtain ⟨C, hC⟩ := cls_ex T hi
    obtain ⟨fs, hf⟩ := fld_ex hi l m
    have own := (T.own hC).2
    have kl : ([l, m].take k).length ≤ 2 := by rw [List.length_take]; exact Nat.min_le_right _ _
    refine ⟨_, rfl, _, rfl, _, rfl, i, l, m, rfl, hi, fun H9 a1 C1 fs1 s9 hC1 hf1 x1 => ?_⟩
    cases hC.symm.trans hC1
    cases hf.symm.trans hf1
    refine ⟨_, rfl, _, rfl, _, rfl, i, l, m, rfl, hi, fun H10 a2 C2 fs2 s10 hC2 hf2 x2 => ?_⟩
    cases hC.symm.trans hC2
    cases hf.symm.trans hf2
    refine ⟨by show 2 ≤ sizeLine; decide, fun t nt => ?_⟩
    have st := same_upd (o := .tup [.ref a1, .ref a2]) nt
    have et : (upd H10 t (.tup [.ref a1, .ref a2])) t = some (.tup [.ref a1, .ref a2]) := upd_same
    have x1' := (x1.same s10).same st
    have x2' := x2.same st
    have sA := (s9.trans s10).trans st
    generalize upd H10 t (.tup [.ref a1, .ref a2]) = HA at st et x1' x2' sA ⊢
    refine ⟨t, rfl, ⟨_, .inl (.inl et)⟩, for_it (walk_tup (xs := [.ref a1, .ref a2])) (fun j σ H' => Same HA H' ∧ ∃ y7, σ = [some (.ref a), some (.int (i : Nat)), some (.ref p), y3, some l.v, some m.v, some (.ref U), y7]) ⟨Same.refl _, _, rfl⟩ (fun j σ H' _ h => .inl (.inl (h.1 _ _ et))) ?_ ?_⟩
    · rintro j v σ H11 HB hj ⟨s11, y7, rfl⟩ ⟨rfl, ev⟩
      obtain ⟨ax, rfl, x0⟩ : ∃ ax, v = .ref ax ∧ ExcV.ExAt HA ax C fs := by
        match j, ev with
        | 0, ev => cases ev; exact ⟨_, rfl, x1'⟩
        | 1, ev => cases ev; exact ⟨_, rfl, x2'⟩
        | _ + 2, ev => cases ev
      have x := x0.same s11
      refine ⟨.ref ax, rfl, ax, C, fs, i, rfl, x, hC, fun H12 q12 s12 n12 e12 => ?_⟩
      refine ⟨_, rfl, by show 1 ≤ sizeLine; decide, fun r13 n13 => ?_⟩
      have s13 := same_upd (o := .lst [V.int (i : Nat)]) n13
      have s23 := s12.trans s13
      refine ⟨.list [.int (i : Nat)], .list [.int (i : Nat)], .lst (.inl (.inl (s13 _ _ e12))) (.cons (.int _) .nil), .lst (.inl (.inl upd_same)) (.cons (.int _) .nil), rfl, rfl, _, rfl, iteNE rfl rfl ?_⟩
      refine ⟨_, rfl, .ref ax, rfl, i, l, m, ax, C, fs, _, rfl, hC, hf, x.same s23, hdd l m, fun H14 p14 s14 q14 => ?_⟩
      refine ⟨.ref U, rfl, .ref p14, .ref U, .tuple (([l, m].take k).map Lf.d), rfl, .tup q14 (lf_dpa _), .tup (sqt_same (((sA.trans s11).trans s23).trans s14) hU) (lf_dpa _), lf_ok _ kl, fun H15 s15 => ?_⟩
      have sZ := (s23.trans s14).trans s15
      refine ⟨_, rfl, iteDN rfl ?_⟩
      refine ⟨.ref ax, rfl, ax, C, fs, _, _, true, rfl, x.same sZ, own, fun _ h => h, T.tab.needle i C hC, _, rfl, iteDN rfl ?_⟩
      refine ⟨.ref ax, rfl, ax, C, fs, _, _, true, rfl, x.same sZ, own, fun _ h => h, T.tab.value i C hC, _, rfl, iteDN rfl ?_⟩
      exact ⟨s11.trans sZ, _, rfl⟩
    · rintro σ HB ⟨sB, y7, rfl⟩
      exact ⟨(s8.trans sA).trans sB, _, _, _, _, _, _, _, rfl⟩

--@@SPLIT
end
theorem all_mk {l : PySem.W.OpenLaw} {w : World} {K : PySem.W.Frag} {h : Heap} {mg : Str → Option Value} {fa : Addr} (X : K.In h) (G : h.Ns mainGlobals mg) (hfa : mg "law" = some (.ref fa))
    {f_is_row : Addr} {od_is_row an_is_row : Option Addr} {sl_is_row : Array (Option Value)} {oc_is_row kV_is_row dc_is_row pm_is_row cd_is_row ct_is_row : Value}
    {f_laid_out : Addr} {od_laid_out an_laid_out : Option Addr} {sl_laid_out : Array (Option Value)} {oc_laid_out kV_laid_out dc_laid_out pm_laid_out cd_laid_out ct_laid_out : Value}
    {f_kept : Addr} {od_kept an_kept : Option Addr} {sl_kept : Array (Option Value)} {oc_kept kV_kept dc_kept pm_kept cd_kept ct_kept : Value}
    {f_Lpool : Addr} {od_Lpool an_Lpool : Option Addr} {sl_Lpool : Array (Option Value)} {oc_Lpool kV_Lpool dc_Lpool pm_Lpool cd_Lpool ct_Lpool : Value}
    {f_Ltake : Addr} {od_Ltake an_Ltake : Option Addr} {sl_Ltake : Array (Option Value)} {oc_Ltake kV_Ltake dc_Ltake pm_Ltake cd_Ltake ct_Ltake : Value}
    {f_Lwhole : Addr} {od_Lwhole an_Lwhole : Option Addr} {sl_Lwhole : Array (Option Value)} {oc_Lwhole kV_Lwhole dc_Lwhole pm_Lwhole cd_Lwhole ct_Lwhole : Value}
    {f_Lsame : Addr} {od_Lsame an_Lsame : Option Addr} {sl_Lsame : Array (Option Value)} {oc_Lsame kV_Lsame dc_Lsame pm_Lsame cd_Lsame ct_Lsame : Value}
    {f_Lsorts : Addr} {od_Lsorts an_Lsorts : Option Addr} {sl_Lsorts : Array (Option Value)} {oc_Lsorts kV_Lsorts dc_Lsorts pm_Lsorts cd_Lsorts ct_Lsorts : Value}
    {f_Lmade : Addr} {od_Lmade an_Lmade : Option Addr} {sl_Lmade : Array (Option Value)} {oc_Lmade kV_Lmade dc_Lmade pm_Lmade cd_Lmade ct_Lmade : Value}
    {f_Lnamed : Addr} {od_Lnamed an_Lnamed : Option Addr} {sl_Lnamed : Array (Option Value)} {oc_Lnamed kV_Lnamed dc_Lnamed pm_Lnamed cd_Lnamed ct_Lnamed : Value}
    {f_Lfields : Addr} {od_Lfields an_Lfields : Option Addr} {sl_Lfields : Array (Option Value)} {oc_Lfields kV_Lfields dc_Lfields pm_Lfields cd_Lfields ct_Lfields : Value}
    {f_law : Addr} {od_law an_law : Option Addr} {sl_law : Array (Option Value)} {oc_law kV_law dc_law pm_law cd_law ct_law : Value}
    {f_NoLot : Addr} {cd_NoLot : ClassData}
    {nm_NoLot qn_NoLot : Str} {ns_NoLot : Addr} {bs_NoLot bm_NoLot : List Value} {sn_NoLot : List Str} {sub_NoLot : List Value} {ab_NoLot : Bool} {col_NoLot : Option Bool} {dd_NoLot : Option Addr} {m0_NoLot m1_NoLot m2_NoLot m3_NoLot m5_NoLot : Option Value} {f_init_NoLot : Addr} {od_init_NoLot an_init_NoLot : Option Addr} {sl_init_NoLot : Array (Option Value)} {oc_init_NoLot kV_init_NoLot dc_init_NoLot pm_init_NoLot cd_init_NoLot ct_init_NoLot : Value}
    {f_BadLog : Addr} {cd_BadLog : ClassData}
    {nm_BadLog qn_BadLog : Str} {ns_BadLog : Addr} {bs_BadLog bm_BadLog : List Value} {sn_BadLog : List Str} {sub_BadLog : List Value} {ab_BadLog : Bool} {col_BadLog : Option Bool} {dd_BadLog : Option Addr} {m0_BadLog m1_BadLog m2_BadLog m3_BadLog m5_BadLog : Option Value} {f_init_BadLog : Addr} {od_init_BadLog an_init_BadLog : Option Addr} {sl_init_BadLog : Array (Option Value)} {oc_init_BadLog kV_init_BadLog dc_init_BadLog pm_init_BadLog cd_init_BadLog ct_init_BadLog : Value}
    {f_NoDealing : Addr} {cd_NoDealing : ClassData}
    {nm_NoDealing qn_NoDealing : Str} {ns_NoDealing : Addr} {bs_NoDealing bm_NoDealing : List Value} {sn_NoDealing : List Str} {sub_NoDealing : List Value} {ab_NoDealing : Bool} {col_NoDealing : Option Bool} {dd_NoDealing : Option Addr} {m0_NoDealing m1_NoDealing m2_NoDealing m3_NoDealing m5_NoDealing : Option Value} {f_init_NoDealing : Addr} {od_init_NoDealing an_init_NoDealing : Option Addr} {sl_init_NoDealing : Array (Option Value)} {oc_init_NoDealing kV_init_NoDealing dc_init_NoDealing pm_init_NoDealing cd_init_NoDealing ct_init_NoDealing : Value}
    {f_BadBox : Addr} {cd_BadBox : ClassData}
    {nm_BadBox qn_BadBox : Str} {ns_BadBox : Addr} {bs_BadBox bm_BadBox : List Value} {sn_BadBox : List Str} {sub_BadBox : List Value} {ab_BadBox : Bool} {col_BadBox : Option Bool} {dd_BadBox : Option Addr} {m0_BadBox m1_BadBox m2_BadBox m3_BadBox m5_BadBox : Option Value} {f_init_BadBox : Addr} {od_init_BadBox an_init_BadBox : Option Addr} {sl_init_BadBox : Array (Option Value)} {oc_init_BadBox kV_init_BadBox dc_init_BadBox pm_init_BadBox cd_init_BadBox ct_init_BadBox : Value}
    {f_NoName : Addr} {cd_NoName : ClassData}
    {nm_NoName qn_NoName : Str} {ns_NoName : Addr} {bs_NoName bm_NoName : List Value} {sn_NoName : List Str} {sub_NoName : List Value} {ab_NoName : Bool} {col_NoName : Option Bool} {dd_NoName : Option Addr} {m0_NoName m1_NoName m2_NoName m3_NoName m5_NoName : Option Value} {f_init_NoName : Addr} {od_init_NoName an_init_NoName : Option Addr} {sl_init_NoName : Array (Option Value)} {oc_init_NoName kV_init_NoName dc_init_NoName pm_init_NoName cd_init_NoName ct_init_NoName : Value}
    {f_Twice : Addr} {cd_Twice : ClassData}
    {nm_Twice qn_Twice : Str} {ns_Twice : Addr} {bs_Twice bm_Twice : List Value} {sn_Twice : List Str} {sub_Twice : List Value} {ab_Twice : Bool} {col_Twice : Option Bool} {dd_Twice : Option Addr} {m0_Twice m1_Twice m2_Twice m3_Twice m5_Twice : Option Value} {f_init_Twice : Addr} {od_init_Twice an_init_Twice : Option Addr} {sl_init_Twice : Array (Option Value)} {oc_init_Twice kV_init_Twice dc_init_Twice pm_init_Twice cd_init_Twice ct_init_Twice : Value}
    {f_NoWalker : Addr} {cd_NoWalker : ClassData}
    {nm_NoWalker qn_NoWalker : Str} {ns_NoWalker : Addr} {bs_NoWalker bm_NoWalker : List Value} {sn_NoWalker : List Str} {sub_NoWalker : List Value} {ab_NoWalker : Bool} {col_NoWalker : Option Bool} {dd_NoWalker : Option Addr} {m0_NoWalker m1_NoWalker m2_NoWalker m3_NoWalker m5_NoWalker : Option Value} {f_init_NoWalker : Addr} {od_init_NoWalker an_init_NoWalker : Option Addr} {sl_init_NoWalker : Array (Option Value)} {oc_init_NoWalker kV_init_NoWalker dc_init_NoWalker pm_init_NoWalker cd_init_NoWalker ct_init_NoWalker : Value}
    {f_NoSign : Addr} {cd_NoSign : ClassData}
    {nm_NoSign qn_NoSign : Str} {ns_NoSign : Addr} {bs_NoSign bm_NoSign : List Value} {sn_NoSign : List Str} {sub_NoSign : List Value} {ab_NoSign : Bool} {col_NoSign : Option Bool} {dd_NoSign : Option Addr} {m0_NoSign m1_NoSign m2_NoSign m3_NoSign m5_NoSign : Option Value} {f_init_NoSign : Addr} {od_init_NoSign an_init_NoSign : Option Addr} {sl_init_NoSign : Array (Option Value)} {oc_init_NoSign kV_init_NoSign dc_init_NoSign pm_init_NoSign cd_init_NoSign ct_init_NoSign : Value}
    {f_NoLeg : Addr} {cd_NoLeg : ClassData}
    {nm_NoLeg qn_NoLeg : Str} {ns_NoLeg : Addr} {bs_NoLeg bm_NoLeg : List Value} {sn_NoLeg : List Str} {sub_NoLeg : List Value} {ab_NoLeg : Bool} {col_NoLeg : Option Bool} {dd_NoLeg : Option Addr} {m0_NoLeg m1_NoLeg m2_NoLeg m3_NoLeg m5_NoLeg : Option Value} {f_init_NoLeg : Addr} {od_init_NoLeg an_init_NoLeg : Option Addr} {sl_init_NoLeg : Array (Option Value)} {oc_init_NoLeg kV_init_NoLeg dc_init_NoLeg pm_init_NoLeg cd_init_NoLeg ct_init_NoLeg : Value}
    {f_TooMany : Addr} {cd_TooMany : ClassData}
    {nm_TooMany qn_TooMany : Str} {ns_TooMany : Addr} {bs_TooMany bm_TooMany : List Value} {sn_TooMany : List Str} {sub_TooMany : List Value} {ab_TooMany : Bool} {col_TooMany : Option Bool} {dd_TooMany : Option Addr} {m0_TooMany m1_TooMany m2_TooMany m3_TooMany m5_TooMany : Option Value} {f_init_TooMany : Addr} {od_init_TooMany an_init_TooMany : Option Addr} {sl_init_TooMany : Array (Option Value)} {oc_init_TooMany kV_init_TooMany dc_init_TooMany pm_init_TooMany cd_init_TooMany ct_init_TooMany : Value}
    {f_NoWatch : Addr} {cd_NoWatch : ClassData}
    {nm_NoWatch qn_NoWatch : Str} {ns_NoWatch : Addr} {bs_NoWatch bm_NoWatch : List Value} {sn_NoWatch : List Str} {sub_NoWatch : List Value} {ab_NoWatch : Bool} {col_NoWatch : Option Bool} {dd_NoWatch : Option Addr} {m0_NoWatch m1_NoWatch m2_NoWatch m3_NoWatch m5_NoWatch : Option Value} {f_init_NoWatch : Addr} {od_init_NoWatch an_init_NoWatch : Option Addr} {sl_init_NoWatch : Array (Option Value)} {oc_init_NoWatch kV_init_NoWatch dc_init_NoWatch pm_init_NoWatch cd_init_NoWatch ct_init_NoWatch : Value}
    {f_NoText : Addr} {cd_NoText : ClassData}
    {nm_NoText qn_NoText : Str} {ns_NoText : Addr} {bs_NoText bm_NoText : List Value} {sn_NoText : List Str} {sub_NoText : List Value} {ab_NoText : Bool} {col_NoText : Option Bool} {dd_NoText : Option Addr} {m0_NoText m1_NoText m2_NoText m3_NoText m5_NoText : Option Value} {f_init_NoText : Addr} {od_init_NoText an_init_NoText : Option Addr} {sl_init_NoText : Array (Option Value)} {oc_init_NoText kV_init_NoText dc_init_NoText pm_init_NoText cd_init_NoText ct_init_NoText : Value}
    {f_NoLine : Addr} {cd_NoLine : ClassData}
    {nm_NoLine qn_NoLine : Str} {ns_NoLine : Addr} {bs_NoLine bm_NoLine : List Value} {sn_NoLine : List Str} {sub_NoLine : List Value} {ab_NoLine : Bool} {col_NoLine : Option Bool} {dd_NoLine : Option Addr} {m0_NoLine m1_NoLine m2_NoLine m3_NoLine m5_NoLine : Option Value} {f_init_NoLine : Addr} {od_init_NoLine an_init_NoLine : Option Addr} {sl_init_NoLine : Array (Option Value)} {oc_init_NoLine kV_init_NoLine dc_init_NoLine pm_init_NoLine cd_init_NoLine ct_init_NoLine : Value}
    {f_NoBook : Addr} {cd_NoBook : ClassData}
    {nm_NoBook qn_NoBook : Str} {ns_NoBook : Addr} {bs_NoBook bm_NoBook : List Value} {sn_NoBook : List Str} {sub_NoBook : List Value} {ab_NoBook : Bool} {col_NoBook : Option Bool} {dd_NoBook : Option Addr} {m0_NoBook m1_NoBook m2_NoBook m3_NoBook m5_NoBook : Option Value} {f_init_NoBook : Addr} {od_init_NoBook an_init_NoBook : Option Addr} {sl_init_NoBook : Array (Option Value)} {oc_init_NoBook kV_init_NoBook dc_init_NoBook pm_init_NoBook cd_init_NoBook ct_init_NoBook : Value}
    {f_NoFit : Addr} {cd_NoFit : ClassData}
    {f_NoLink : Addr} {cd_NoLink : ClassData}
    {f_NothingDone : Addr} {cd_NothingDone : ClassData}
    {f_NothingUndone : Addr} {cd_NothingUndone : ClassData}
    {f_NeedleError : Addr} {cd_NeedleError : ClassData}
    (A_is_row : PySem.W.nsIn K mainGlobals "is_row" = some (some (.ref f_is_row))) (L_is_row : K.lookup f_is_row = some ⟨oc_is_row, od_is_row, .func (PySem.W.fnOf "is_row" "is_row" (defArgs s_is_row) (defBody s_is_row) (defScope s_is_row) .none kV_is_row dc_is_row pm_is_row an_is_row cd_is_row ct_is_row), sl_is_row⟩) (C_is_row : PySem.W.codeIn K cd_is_row "is_row" = true) (K_is_row : PySem.W.keepIn K (.ref f_is_row) = true)
    (A_laid_out : PySem.W.nsIn K mainGlobals "laid_out" = some (some (.ref f_laid_out))) (L_laid_out : K.lookup f_laid_out = some ⟨oc_laid_out, od_laid_out, .func (PySem.W.fnOf "laid_out" "laid_out" (defArgs s_laid_out) (defBody s_laid_out) (defScope s_laid_out) .none kV_laid_out dc_laid_out pm_laid_out an_laid_out cd_laid_out ct_laid_out), sl_laid_out⟩) (C_laid_out : PySem.W.codeIn K cd_laid_out "laid_out" = true) (K_laid_out : PySem.W.keepIn K (.ref f_laid_out) = true)
    (A_kept : PySem.W.nsIn K mainGlobals "kept" = some (some (.ref f_kept))) (L_kept : K.lookup f_kept = some ⟨oc_kept, od_kept, .func (PySem.W.fnOf "kept" "kept" (defArgs s_kept) (defBody s_kept) (defScope s_kept) .none kV_kept dc_kept pm_kept an_kept cd_kept ct_kept), sl_kept⟩) (C_kept : PySem.W.codeIn K cd_kept "kept" = true) (K_kept : PySem.W.keepIn K (.ref f_kept) = true)
    (A_Lpool : PySem.W.nsIn K mainGlobals "_law_pool" = some (some (.ref f_Lpool))) (L_Lpool : K.lookup f_Lpool = some ⟨oc_Lpool, od_Lpool, .func (PySem.W.fnOf "_law_pool" "_law_pool" (defArgs s_Lpool) (defBody s_Lpool) (defScope s_Lpool) .none kV_Lpool dc_Lpool pm_Lpool an_Lpool cd_Lpool ct_Lpool), sl_Lpool⟩) (C_Lpool : PySem.W.codeIn K cd_Lpool "_law_pool" = true) (K_Lpool : PySem.W.keepIn K (.ref f_Lpool) = true)
    (A_Ltake : PySem.W.nsIn K mainGlobals "_law_take" = some (some (.ref f_Ltake))) (L_Ltake : K.lookup f_Ltake = some ⟨oc_Ltake, od_Ltake, .func (PySem.W.fnOf "_law_take" "_law_take" (defArgs s_Ltake) (defBody s_Ltake) (defScope s_Ltake) .none kV_Ltake dc_Ltake pm_Ltake an_Ltake cd_Ltake ct_Ltake), sl_Ltake⟩) (C_Ltake : PySem.W.codeIn K cd_Ltake "_law_take" = true) (K_Ltake : PySem.W.keepIn K (.ref f_Ltake) = true)
    (A_Lwhole : PySem.W.nsIn K mainGlobals "_law_whole" = some (some (.ref f_Lwhole))) (L_Lwhole : K.lookup f_Lwhole = some ⟨oc_Lwhole, od_Lwhole, .func (PySem.W.fnOf "_law_whole" "_law_whole" (defArgs s_Lwhole) (defBody s_Lwhole) (defScope s_Lwhole) .none kV_Lwhole dc_Lwhole pm_Lwhole an_Lwhole cd_Lwhole ct_Lwhole), sl_Lwhole⟩) (C_Lwhole : PySem.W.codeIn K cd_Lwhole "_law_whole" = true) (K_Lwhole : PySem.W.keepIn K (.ref f_Lwhole) = true)
    (A_Lsame : PySem.W.nsIn K mainGlobals "_law_same" = some (some (.ref f_Lsame))) (L_Lsame : K.lookup f_Lsame = some ⟨oc_Lsame, od_Lsame, .func (PySem.W.fnOf "_law_same" "_law_same" (defArgs s_Lsame) (defBody s_Lsame) (defScope s_Lsame) .none kV_Lsame dc_Lsame pm_Lsame an_Lsame cd_Lsame ct_Lsame), sl_Lsame⟩) (C_Lsame : PySem.W.codeIn K cd_Lsame "_law_same" = true) (K_Lsame : PySem.W.keepIn K (.ref f_Lsame) = true)
    (A_Lsorts : PySem.W.nsIn K mainGlobals "_law_sorts" = some (some (.ref f_Lsorts))) (L_Lsorts : K.lookup f_Lsorts = some ⟨oc_Lsorts, od_Lsorts, .func (PySem.W.fnOf "_law_sorts" "_law_sorts" (defArgs s_Lsorts) (defBody s_Lsorts) (defScope s_Lsorts) .none kV_Lsorts dc_Lsorts pm_Lsorts an_Lsorts cd_Lsorts ct_Lsorts), sl_Lsorts⟩) (C_Lsorts : PySem.W.codeIn K cd_Lsorts "_law_sorts" = true) (K_Lsorts : PySem.W.keepIn K (.ref f_Lsorts) = true)
    (A_Lmade : PySem.W.nsIn K mainGlobals "_law_made" = some (some (.ref f_Lmade))) (L_Lmade : K.lookup f_Lmade = some ⟨oc_Lmade, od_Lmade, .func (PySem.W.fnOf "_law_made" "_law_made" (defArgs s_Lmade) (defBody s_Lmade) (defScope s_Lmade) .none kV_Lmade dc_Lmade pm_Lmade an_Lmade cd_Lmade ct_Lmade), sl_Lmade⟩) (C_Lmade : PySem.W.codeIn K cd_Lmade "_law_made" = true) (K_Lmade : PySem.W.keepIn K (.ref f_Lmade) = true)
    (A_Lnamed : PySem.W.nsIn K mainGlobals "_law_named" = some (some (.ref f_Lnamed))) (L_Lnamed : K.lookup f_Lnamed = some ⟨oc_Lnamed, od_Lnamed, .func (PySem.W.fnOf "_law_named" "_law_named" (defArgs s_Lnamed) (defBody s_Lnamed) (defScope s_Lnamed) .none kV_Lnamed dc_Lnamed pm_Lnamed an_Lnamed cd_Lnamed ct_Lnamed), sl_Lnamed⟩) (C_Lnamed : PySem.W.codeIn K cd_Lnamed "_law_named" = true) (K_Lnamed : PySem.W.keepIn K (.ref f_Lnamed) = true)
    (A_Lfields : PySem.W.nsIn K mainGlobals "_law_fields" = some (some (.ref f_Lfields))) (L_Lfields : K.lookup f_Lfields = some ⟨oc_Lfields, od_Lfields, .func (PySem.W.fnOf "_law_fields" "_law_fields" (defArgs s_Lfields) (defBody s_Lfields) (defScope s_Lfields) .none kV_Lfields dc_Lfields pm_Lfields an_Lfields cd_Lfields ct_Lfields), sl_Lfields⟩) (C_Lfields : PySem.W.codeIn K cd_Lfields "_law_fields" = true) (K_Lfields : PySem.W.keepIn K (.ref f_Lfields) = true)
    (A_law : PySem.W.nsIn K mainGlobals "law" = some (some (.ref f_law))) (L_law : K.lookup f_law = some ⟨oc_law, od_law, .func (PySem.W.fnOf "law" "law" (defArgs s_law) (defBody s_law) (defScope s_law) .none kV_law dc_law pm_law an_law cd_law ct_law), sl_law⟩) (C_law : PySem.W.codeIn K cd_law "law" = true) (K_law : PySem.W.keepIn K (.ref f_law) = true)
    (Z_abs : PySem.W.nsIn K mainGlobals "abs" = some none)
    (Z_all : PySem.W.nsIn K mainGlobals "all" = some none)
    (Z_any : PySem.W.nsIn K mainGlobals "any" = some none)
    (Z_bool : PySem.W.nsIn K mainGlobals "bool" = some none)
    (Z_int : PySem.W.nsIn K mainGlobals "int" = some none)
    (Z_isinstance : PySem.W.nsIn K mainGlobals "isinstance" = some none)
    (Z_len : PySem.W.nsIn K mainGlobals "len" = some none)
    (Z_list : PySem.W.nsIn K mainGlobals "list" = some none)
    (Z_range : PySem.W.nsIn K mainGlobals "range" = some none)
    (Z_str : PySem.W.nsIn K mainGlobals "str" = some none)
    (Z_tuple : PySem.W.nsIn K mainGlobals "tuple" = some none)
    (Z_zip : PySem.W.nsIn K mainGlobals "zip" = some none)
    (A_NoLot : PySem.W.nsIn K mainGlobals "NoLot" = some (some (.ref f_NoLot))) (ty_NoLot : PySem.W.typeIn K (.ref f_NoLot) = some (.type "type")) (kc_NoLot : PySem.W.clsIn K f_NoLot = some cd_NoLot)
    (ga_NoLot : PySem.W.findIn K (.ref f_NoLot) "__getattribute__" = some (some (.builtin "BaseException.__getattribute__"))) (gg_NoLot : PySem.W.findIn K (.ref f_NoLot) "__getattr__" = some none) (k_NoLot : PySem.W.keepIn K (.ref f_NoLot) = true) (e_NoLot : PySem.W.subIn K (.ref f_NoLot) (.type "BaseException") = some true) (h_NoLot : PySem.W.hasDictIn K f_NoLot = true) (ca_NoLot : PySem.W.findIn K (.ref f_NoLot) "__class__" = some (some (.builtin "object.__class__"))) (cm_NoLot : PySem.W.mroIn K f_NoLot (.type "object") = some true)
    (X_NoLot : K.lookup f_NoLot = some (excClassObj nm_NoLot qn_NoLot f_NoLot ns_NoLot bs_NoLot bm_NoLot true sn_NoLot sub_NoLot ab_NoLot col_NoLot dd_NoLot m0_NoLot m1_NoLot m2_NoLot m3_NoLot m5_NoLot "ValueError.__new__")) (bm_ok_NoLot : PySem.HandSPX.refsVE bm_NoLot = true) (sa_NoLot : PySem.W.findIn K (.ref f_NoLot) "__setattr__" = some (some (.builtin "object.__setattr__"))) (I_NoLot : PySem.W.findIn K (.ref f_NoLot) "__init__" = some (some (.ref f_init_NoLot))) (t_init_NoLot : PySem.W.typeIn K (.ref f_init_NoLot) = some (.type "function")) (L_init_NoLot : K.lookup f_init_NoLot = some ⟨oc_init_NoLot, od_init_NoLot, .func (PySem.W.fnOf "__init__" "NoLot.__init__" (defArgs s_init_NoLot) (defBody s_init_NoLot) (defScope s_init_NoLot) .none kV_init_NoLot dc_init_NoLot pm_init_NoLot an_init_NoLot cd_init_NoLot ct_init_NoLot), sl_init_NoLot⟩) (C_init_NoLot : PySem.W.codeIn K cd_init_NoLot "NoLot.__init__" = true) (K_init_NoLot : PySem.W.keepIn K (.ref f_init_NoLot) = true)
    (no_NoLot_lot : PySem.W.findIn K (.ref f_NoLot) "lot" = some none)
    (A_BadLog : PySem.W.nsIn K mainGlobals "BadLog" = some (some (.ref f_BadLog))) (ty_BadLog : PySem.W.typeIn K (.ref f_BadLog) = some (.type "type")) (kc_BadLog : PySem.W.clsIn K f_BadLog = some cd_BadLog)
    (ga_BadLog : PySem.W.findIn K (.ref f_BadLog) "__getattribute__" = some (some (.builtin "BaseException.__getattribute__"))) (gg_BadLog : PySem.W.findIn K (.ref f_BadLog) "__getattr__" = some none) (k_BadLog : PySem.W.keepIn K (.ref f_BadLog) = true) (e_BadLog : PySem.W.subIn K (.ref f_BadLog) (.type "BaseException") = some true) (h_BadLog : PySem.W.hasDictIn K f_BadLog = true) (ca_BadLog : PySem.W.findIn K (.ref f_BadLog) "__class__" = some (some (.builtin "object.__class__"))) (cm_BadLog : PySem.W.mroIn K f_BadLog (.type "object") = some true)
    (X_BadLog : K.lookup f_BadLog = some (excClassObj nm_BadLog qn_BadLog f_BadLog ns_BadLog bs_BadLog bm_BadLog true sn_BadLog sub_BadLog ab_BadLog col_BadLog dd_BadLog m0_BadLog m1_BadLog m2_BadLog m3_BadLog m5_BadLog "ValueError.__new__")) (bm_ok_BadLog : PySem.HandSPX.refsVE bm_BadLog = true) (sa_BadLog : PySem.W.findIn K (.ref f_BadLog) "__setattr__" = some (some (.builtin "object.__setattr__"))) (I_BadLog : PySem.W.findIn K (.ref f_BadLog) "__init__" = some (some (.ref f_init_BadLog))) (t_init_BadLog : PySem.W.typeIn K (.ref f_init_BadLog) = some (.type "function")) (L_init_BadLog : K.lookup f_init_BadLog = some ⟨oc_init_BadLog, od_init_BadLog, .func (PySem.W.fnOf "__init__" "BadLog.__init__" (defArgs s_init_BadLog) (defBody s_init_BadLog) (defScope s_init_BadLog) .none kV_init_BadLog dc_init_BadLog pm_init_BadLog an_init_BadLog cd_init_BadLog ct_init_BadLog), sl_init_BadLog⟩) (C_init_BadLog : PySem.W.codeIn K cd_init_BadLog "BadLog.__init__" = true) (K_init_BadLog : PySem.W.keepIn K (.ref f_init_BadLog) = true)
    (no_BadLog_name : PySem.W.findIn K (.ref f_BadLog) "name" = some none)
    (no_BadLog_at : PySem.W.findIn K (.ref f_BadLog) "at" = some none)
    (A_NoDealing : PySem.W.nsIn K mainGlobals "NoDealing" = some (some (.ref f_NoDealing))) (ty_NoDealing : PySem.W.typeIn K (.ref f_NoDealing) = some (.type "type")) (kc_NoDealing : PySem.W.clsIn K f_NoDealing = some cd_NoDealing)
    (ga_NoDealing : PySem.W.findIn K (.ref f_NoDealing) "__getattribute__" = some (some (.builtin "BaseException.__getattribute__"))) (gg_NoDealing : PySem.W.findIn K (.ref f_NoDealing) "__getattr__" = some none) (k_NoDealing : PySem.W.keepIn K (.ref f_NoDealing) = true) (e_NoDealing : PySem.W.subIn K (.ref f_NoDealing) (.type "BaseException") = some true) (h_NoDealing : PySem.W.hasDictIn K f_NoDealing = true) (ca_NoDealing : PySem.W.findIn K (.ref f_NoDealing) "__class__" = some (some (.builtin "object.__class__"))) (cm_NoDealing : PySem.W.mroIn K f_NoDealing (.type "object") = some true)
    (X_NoDealing : K.lookup f_NoDealing = some (excClassObj nm_NoDealing qn_NoDealing f_NoDealing ns_NoDealing bs_NoDealing bm_NoDealing true sn_NoDealing sub_NoDealing ab_NoDealing col_NoDealing dd_NoDealing m0_NoDealing m1_NoDealing m2_NoDealing m3_NoDealing m5_NoDealing "ValueError.__new__")) (bm_ok_NoDealing : PySem.HandSPX.refsVE bm_NoDealing = true) (sa_NoDealing : PySem.W.findIn K (.ref f_NoDealing) "__setattr__" = some (some (.builtin "object.__setattr__"))) (I_NoDealing : PySem.W.findIn K (.ref f_NoDealing) "__init__" = some (some (.ref f_init_NoDealing))) (t_init_NoDealing : PySem.W.typeIn K (.ref f_init_NoDealing) = some (.type "function")) (L_init_NoDealing : K.lookup f_init_NoDealing = some ⟨oc_init_NoDealing, od_init_NoDealing, .func (PySem.W.fnOf "__init__" "NoDealing.__init__" (defArgs s_init_NoDealing) (defBody s_init_NoDealing) (defScope s_init_NoDealing) .none kV_init_NoDealing dc_init_NoDealing pm_init_NoDealing an_init_NoDealing cd_init_NoDealing ct_init_NoDealing), sl_init_NoDealing⟩) (C_init_NoDealing : PySem.W.codeIn K cd_init_NoDealing "NoDealing.__init__" = true) (K_init_NoDealing : PySem.W.keepIn K (.ref f_init_NoDealing) = true)
    (no_NoDealing_at : PySem.W.findIn K (.ref f_NoDealing) "at" = some none)
    (A_BadBox : PySem.W.nsIn K mainGlobals "BadBox" = some (some (.ref f_BadBox))) (ty_BadBox : PySem.W.typeIn K (.ref f_BadBox) = some (.type "type")) (kc_BadBox : PySem.W.clsIn K f_BadBox = some cd_BadBox)
    (ga_BadBox : PySem.W.findIn K (.ref f_BadBox) "__getattribute__" = some (some (.builtin "BaseException.__getattribute__"))) (gg_BadBox : PySem.W.findIn K (.ref f_BadBox) "__getattr__" = some none) (k_BadBox : PySem.W.keepIn K (.ref f_BadBox) = true) (e_BadBox : PySem.W.subIn K (.ref f_BadBox) (.type "BaseException") = some true) (h_BadBox : PySem.W.hasDictIn K f_BadBox = true) (ca_BadBox : PySem.W.findIn K (.ref f_BadBox) "__class__" = some (some (.builtin "object.__class__"))) (cm_BadBox : PySem.W.mroIn K f_BadBox (.type "object") = some true)
    (X_BadBox : K.lookup f_BadBox = some (excClassObj nm_BadBox qn_BadBox f_BadBox ns_BadBox bs_BadBox bm_BadBox true sn_BadBox sub_BadBox ab_BadBox col_BadBox dd_BadBox m0_BadBox m1_BadBox m2_BadBox m3_BadBox m5_BadBox "ValueError.__new__")) (bm_ok_BadBox : PySem.HandSPX.refsVE bm_BadBox = true) (sa_BadBox : PySem.W.findIn K (.ref f_BadBox) "__setattr__" = some (some (.builtin "object.__setattr__"))) (I_BadBox : PySem.W.findIn K (.ref f_BadBox) "__init__" = some (some (.ref f_init_BadBox))) (t_init_BadBox : PySem.W.typeIn K (.ref f_init_BadBox) = some (.type "function")) (L_init_BadBox : K.lookup f_init_BadBox = some ⟨oc_init_BadBox, od_init_BadBox, .func (PySem.W.fnOf "__init__" "BadBox.__init__" (defArgs s_init_BadBox) (defBody s_init_BadBox) (defScope s_init_BadBox) .none kV_init_BadBox dc_init_BadBox pm_init_BadBox an_init_BadBox cd_init_BadBox ct_init_BadBox), sl_init_BadBox⟩) (C_init_BadBox : PySem.W.codeIn K cd_init_BadBox "BadBox.__init__" = true) (K_init_BadBox : PySem.W.keepIn K (.ref f_init_BadBox) = true)
    (no_BadBox_at : PySem.W.findIn K (.ref f_BadBox) "at" = some none)
    (A_NoName : PySem.W.nsIn K mainGlobals "NoName" = some (some (.ref f_NoName))) (ty_NoName : PySem.W.typeIn K (.ref f_NoName) = some (.type "type")) (kc_NoName : PySem.W.clsIn K f_NoName = some cd_NoName)
    (ga_NoName : PySem.W.findIn K (.ref f_NoName) "__getattribute__" = some (some (.builtin "BaseException.__getattribute__"))) (gg_NoName : PySem.W.findIn K (.ref f_NoName) "__getattr__" = some none) (k_NoName : PySem.W.keepIn K (.ref f_NoName) = true) (e_NoName : PySem.W.subIn K (.ref f_NoName) (.type "BaseException") = some true) (h_NoName : PySem.W.hasDictIn K f_NoName = true) (ca_NoName : PySem.W.findIn K (.ref f_NoName) "__class__" = some (some (.builtin "object.__class__"))) (cm_NoName : PySem.W.mroIn K f_NoName (.type "object") = some true)
    (X_NoName : K.lookup f_NoName = some (excClassObj nm_NoName qn_NoName f_NoName ns_NoName bs_NoName bm_NoName true sn_NoName sub_NoName ab_NoName col_NoName dd_NoName m0_NoName m1_NoName m2_NoName m3_NoName m5_NoName "ValueError.__new__")) (bm_ok_NoName : PySem.HandSPX.refsVE bm_NoName = true) (sa_NoName : PySem.W.findIn K (.ref f_NoName) "__setattr__" = some (some (.builtin "object.__setattr__"))) (I_NoName : PySem.W.findIn K (.ref f_NoName) "__init__" = some (some (.ref f_init_NoName))) (t_init_NoName : PySem.W.typeIn K (.ref f_init_NoName) = some (.type "function")) (L_init_NoName : K.lookup f_init_NoName = some ⟨oc_init_NoName, od_init_NoName, .func (PySem.W.fnOf "__init__" "NoName.__init__" (defArgs s_init_NoName) (defBody s_init_NoName) (defScope s_init_NoName) .none kV_init_NoName dc_init_NoName pm_init_NoName an_init_NoName cd_init_NoName ct_init_NoName), sl_init_NoName⟩) (C_init_NoName : PySem.W.codeIn K cd_init_NoName "NoName.__init__" = true) (K_init_NoName : PySem.W.keepIn K (.ref f_init_NoName) = true)
    (no_NoName_name : PySem.W.findIn K (.ref f_NoName) "name" = some none)
    (A_Twice : PySem.W.nsIn K mainGlobals "Twice" = some (some (.ref f_Twice))) (ty_Twice : PySem.W.typeIn K (.ref f_Twice) = some (.type "type")) (kc_Twice : PySem.W.clsIn K f_Twice = some cd_Twice)
    (ga_Twice : PySem.W.findIn K (.ref f_Twice) "__getattribute__" = some (some (.builtin "BaseException.__getattribute__"))) (gg_Twice : PySem.W.findIn K (.ref f_Twice) "__getattr__" = some none) (k_Twice : PySem.W.keepIn K (.ref f_Twice) = true) (e_Twice : PySem.W.subIn K (.ref f_Twice) (.type "BaseException") = some true) (h_Twice : PySem.W.hasDictIn K f_Twice = true) (ca_Twice : PySem.W.findIn K (.ref f_Twice) "__class__" = some (some (.builtin "object.__class__"))) (cm_Twice : PySem.W.mroIn K f_Twice (.type "object") = some true)
    (X_Twice : K.lookup f_Twice = some (excClassObj nm_Twice qn_Twice f_Twice ns_Twice bs_Twice bm_Twice true sn_Twice sub_Twice ab_Twice col_Twice dd_Twice m0_Twice m1_Twice m2_Twice m3_Twice m5_Twice "ValueError.__new__")) (bm_ok_Twice : PySem.HandSPX.refsVE bm_Twice = true) (sa_Twice : PySem.W.findIn K (.ref f_Twice) "__setattr__" = some (some (.builtin "object.__setattr__"))) (I_Twice : PySem.W.findIn K (.ref f_Twice) "__init__" = some (some (.ref f_init_Twice))) (t_init_Twice : PySem.W.typeIn K (.ref f_init_Twice) = some (.type "function")) (L_init_Twice : K.lookup f_init_Twice = some ⟨oc_init_Twice, od_init_Twice, .func (PySem.W.fnOf "__init__" "Twice.__init__" (defArgs s_init_Twice) (defBody s_init_Twice) (defScope s_init_Twice) .none kV_init_Twice dc_init_Twice pm_init_Twice an_init_Twice cd_init_Twice ct_init_Twice), sl_init_Twice⟩) (C_init_Twice : PySem.W.codeIn K cd_init_Twice "Twice.__init__" = true) (K_init_Twice : PySem.W.keepIn K (.ref f_init_Twice) = true)
    (no_Twice_name : PySem.W.findIn K (.ref f_Twice) "name" = some none)
    (A_NoWalker : PySem.W.nsIn K mainGlobals "NoWalker" = some (some (.ref f_NoWalker))) (ty_NoWalker : PySem.W.typeIn K (.ref f_NoWalker) = some (.type "type")) (kc_NoWalker : PySem.W.clsIn K f_NoWalker = some cd_NoWalker)
    (ga_NoWalker : PySem.W.findIn K (.ref f_NoWalker) "__getattribute__" = some (some (.builtin "BaseException.__getattribute__"))) (gg_NoWalker : PySem.W.findIn K (.ref f_NoWalker) "__getattr__" = some none) (k_NoWalker : PySem.W.keepIn K (.ref f_NoWalker) = true) (e_NoWalker : PySem.W.subIn K (.ref f_NoWalker) (.type "BaseException") = some true) (h_NoWalker : PySem.W.hasDictIn K f_NoWalker = true) (ca_NoWalker : PySem.W.findIn K (.ref f_NoWalker) "__class__" = some (some (.builtin "object.__class__"))) (cm_NoWalker : PySem.W.mroIn K f_NoWalker (.type "object") = some true)
    (X_NoWalker : K.lookup f_NoWalker = some (excClassObj nm_NoWalker qn_NoWalker f_NoWalker ns_NoWalker bs_NoWalker bm_NoWalker true sn_NoWalker sub_NoWalker ab_NoWalker col_NoWalker dd_NoWalker m0_NoWalker m1_NoWalker m2_NoWalker m3_NoWalker m5_NoWalker "ValueError.__new__")) (bm_ok_NoWalker : PySem.HandSPX.refsVE bm_NoWalker = true) (sa_NoWalker : PySem.W.findIn K (.ref f_NoWalker) "__setattr__" = some (some (.builtin "object.__setattr__"))) (I_NoWalker : PySem.W.findIn K (.ref f_NoWalker) "__init__" = some (some (.ref f_init_NoWalker))) (t_init_NoWalker : PySem.W.typeIn K (.ref f_init_NoWalker) = some (.type "function")) (L_init_NoWalker : K.lookup f_init_NoWalker = some ⟨oc_init_NoWalker, od_init_NoWalker, .func (PySem.W.fnOf "__init__" "NoWalker.__init__" (defArgs s_init_NoWalker) (defBody s_init_NoWalker) (defScope s_init_NoWalker) .none kV_init_NoWalker dc_init_NoWalker pm_init_NoWalker an_init_NoWalker cd_init_NoWalker ct_init_NoWalker), sl_init_NoWalker⟩) (C_init_NoWalker : PySem.W.codeIn K cd_init_NoWalker "NoWalker.__init__" = true) (K_init_NoWalker : PySem.W.keepIn K (.ref f_init_NoWalker) = true)
    (no_NoWalker_name : PySem.W.findIn K (.ref f_NoWalker) "name" = some none)
    (A_NoSign : PySem.W.nsIn K mainGlobals "NoSign" = some (some (.ref f_NoSign))) (ty_NoSign : PySem.W.typeIn K (.ref f_NoSign) = some (.type "type")) (kc_NoSign : PySem.W.clsIn K f_NoSign = some cd_NoSign)
    (ga_NoSign : PySem.W.findIn K (.ref f_NoSign) "__getattribute__" = some (some (.builtin "BaseException.__getattribute__"))) (gg_NoSign : PySem.W.findIn K (.ref f_NoSign) "__getattr__" = some none) (k_NoSign : PySem.W.keepIn K (.ref f_NoSign) = true) (e_NoSign : PySem.W.subIn K (.ref f_NoSign) (.type "BaseException") = some true) (h_NoSign : PySem.W.hasDictIn K f_NoSign = true) (ca_NoSign : PySem.W.findIn K (.ref f_NoSign) "__class__" = some (some (.builtin "object.__class__"))) (cm_NoSign : PySem.W.mroIn K f_NoSign (.type "object") = some true)
    (X_NoSign : K.lookup f_NoSign = some (excClassObj nm_NoSign qn_NoSign f_NoSign ns_NoSign bs_NoSign bm_NoSign true sn_NoSign sub_NoSign ab_NoSign col_NoSign dd_NoSign m0_NoSign m1_NoSign m2_NoSign m3_NoSign m5_NoSign "ValueError.__new__")) (bm_ok_NoSign : PySem.HandSPX.refsVE bm_NoSign = true) (sa_NoSign : PySem.W.findIn K (.ref f_NoSign) "__setattr__" = some (some (.builtin "object.__setattr__"))) (I_NoSign : PySem.W.findIn K (.ref f_NoSign) "__init__" = some (some (.ref f_init_NoSign))) (t_init_NoSign : PySem.W.typeIn K (.ref f_init_NoSign) = some (.type "function")) (L_init_NoSign : K.lookup f_init_NoSign = some ⟨oc_init_NoSign, od_init_NoSign, .func (PySem.W.fnOf "__init__" "NoSign.__init__" (defArgs s_init_NoSign) (defBody s_init_NoSign) (defScope s_init_NoSign) .none kV_init_NoSign dc_init_NoSign pm_init_NoSign an_init_NoSign cd_init_NoSign ct_init_NoSign), sl_init_NoSign⟩) (C_init_NoSign : PySem.W.codeIn K cd_init_NoSign "NoSign.__init__" = true) (K_init_NoSign : PySem.W.keepIn K (.ref f_init_NoSign) = true)
    (no_NoSign_sign : PySem.W.findIn K (.ref f_NoSign) "sign" = some none)
    (A_NoLeg : PySem.W.nsIn K mainGlobals "NoLeg" = some (some (.ref f_NoLeg))) (ty_NoLeg : PySem.W.typeIn K (.ref f_NoLeg) = some (.type "type")) (kc_NoLeg : PySem.W.clsIn K f_NoLeg = some cd_NoLeg)
    (ga_NoLeg : PySem.W.findIn K (.ref f_NoLeg) "__getattribute__" = some (some (.builtin "BaseException.__getattribute__"))) (gg_NoLeg : PySem.W.findIn K (.ref f_NoLeg) "__getattr__" = some none) (k_NoLeg : PySem.W.keepIn K (.ref f_NoLeg) = true) (e_NoLeg : PySem.W.subIn K (.ref f_NoLeg) (.type "BaseException") = some true) (h_NoLeg : PySem.W.hasDictIn K f_NoLeg = true) (ca_NoLeg : PySem.W.findIn K (.ref f_NoLeg) "__class__" = some (some (.builtin "object.__class__"))) (cm_NoLeg : PySem.W.mroIn K f_NoLeg (.type "object") = some true)
    (X_NoLeg : K.lookup f_NoLeg = some (excClassObj nm_NoLeg qn_NoLeg f_NoLeg ns_NoLeg bs_NoLeg bm_NoLeg true sn_NoLeg sub_NoLeg ab_NoLeg col_NoLeg dd_NoLeg m0_NoLeg m1_NoLeg m2_NoLeg m3_NoLeg m5_NoLeg "ValueError.__new__")) (bm_ok_NoLeg : PySem.HandSPX.refsVE bm_NoLeg = true) (sa_NoLeg : PySem.W.findIn K (.ref f_NoLeg) "__setattr__" = some (some (.builtin "object.__setattr__"))) (I_NoLeg : PySem.W.findIn K (.ref f_NoLeg) "__init__" = some (some (.ref f_init_NoLeg))) (t_init_NoLeg : PySem.W.typeIn K (.ref f_init_NoLeg) = some (.type "function")) (L_init_NoLeg : K.lookup f_init_NoLeg = some ⟨oc_init_NoLeg, od_init_NoLeg, .func (PySem.W.fnOf "__init__" "NoLeg.__init__" (defArgs s_init_NoLeg) (defBody s_init_NoLeg) (defScope s_init_NoLeg) .none kV_init_NoLeg dc_init_NoLeg pm_init_NoLeg an_init_NoLeg cd_init_NoLeg ct_init_NoLeg), sl_init_NoLeg⟩) (C_init_NoLeg : PySem.W.codeIn K cd_init_NoLeg "NoLeg.__init__" = true) (K_init_NoLeg : PySem.W.keepIn K (.ref f_init_NoLeg) = true)
    (no_NoLeg_name : PySem.W.findIn K (.ref f_NoLeg) "name" = some none)
    (no_NoLeg_leg : PySem.W.findIn K (.ref f_NoLeg) "leg" = some none)
    (A_TooMany : PySem.W.nsIn K mainGlobals "TooMany" = some (some (.ref f_TooMany))) (ty_TooMany : PySem.W.typeIn K (.ref f_TooMany) = some (.type "type")) (kc_TooMany : PySem.W.clsIn K f_TooMany = some cd_TooMany)
    (ga_TooMany : PySem.W.findIn K (.ref f_TooMany) "__getattribute__" = some (some (.builtin "BaseException.__getattribute__"))) (gg_TooMany : PySem.W.findIn K (.ref f_TooMany) "__getattr__" = some none) (k_TooMany : PySem.W.keepIn K (.ref f_TooMany) = true) (e_TooMany : PySem.W.subIn K (.ref f_TooMany) (.type "BaseException") = some true) (h_TooMany : PySem.W.hasDictIn K f_TooMany = true) (ca_TooMany : PySem.W.findIn K (.ref f_TooMany) "__class__" = some (some (.builtin "object.__class__"))) (cm_TooMany : PySem.W.mroIn K f_TooMany (.type "object") = some true)
    (X_TooMany : K.lookup f_TooMany = some (excClassObj nm_TooMany qn_TooMany f_TooMany ns_TooMany bs_TooMany bm_TooMany true sn_TooMany sub_TooMany ab_TooMany col_TooMany dd_TooMany m0_TooMany m1_TooMany m2_TooMany m3_TooMany m5_TooMany "ValueError.__new__")) (bm_ok_TooMany : PySem.HandSPX.refsVE bm_TooMany = true) (sa_TooMany : PySem.W.findIn K (.ref f_TooMany) "__setattr__" = some (some (.builtin "object.__setattr__"))) (I_TooMany : PySem.W.findIn K (.ref f_TooMany) "__init__" = some (some (.ref f_init_TooMany))) (t_init_TooMany : PySem.W.typeIn K (.ref f_init_TooMany) = some (.type "function")) (L_init_TooMany : K.lookup f_init_TooMany = some ⟨oc_init_TooMany, od_init_TooMany, .func (PySem.W.fnOf "__init__" "TooMany.__init__" (defArgs s_init_TooMany) (defBody s_init_TooMany) (defScope s_init_TooMany) .none kV_init_TooMany dc_init_TooMany pm_init_TooMany an_init_TooMany cd_init_TooMany ct_init_TooMany), sl_init_TooMany⟩) (C_init_TooMany : PySem.W.codeIn K cd_init_TooMany "TooMany.__init__" = true) (K_init_TooMany : PySem.W.keepIn K (.ref f_init_TooMany) = true)
    (no_TooMany_many : PySem.W.findIn K (.ref f_TooMany) "many" = some none)
    (A_NoWatch : PySem.W.nsIn K mainGlobals "NoWatch" = some (some (.ref f_NoWatch))) (ty_NoWatch : PySem.W.typeIn K (.ref f_NoWatch) = some (.type "type")) (kc_NoWatch : PySem.W.clsIn K f_NoWatch = some cd_NoWatch)
    (ga_NoWatch : PySem.W.findIn K (.ref f_NoWatch) "__getattribute__" = some (some (.builtin "BaseException.__getattribute__"))) (gg_NoWatch : PySem.W.findIn K (.ref f_NoWatch) "__getattr__" = some none) (k_NoWatch : PySem.W.keepIn K (.ref f_NoWatch) = true) (e_NoWatch : PySem.W.subIn K (.ref f_NoWatch) (.type "BaseException") = some true) (h_NoWatch : PySem.W.hasDictIn K f_NoWatch = true) (ca_NoWatch : PySem.W.findIn K (.ref f_NoWatch) "__class__" = some (some (.builtin "object.__class__"))) (cm_NoWatch : PySem.W.mroIn K f_NoWatch (.type "object") = some true)
    (X_NoWatch : K.lookup f_NoWatch = some (excClassObj nm_NoWatch qn_NoWatch f_NoWatch ns_NoWatch bs_NoWatch bm_NoWatch true sn_NoWatch sub_NoWatch ab_NoWatch col_NoWatch dd_NoWatch m0_NoWatch m1_NoWatch m2_NoWatch m3_NoWatch m5_NoWatch "ValueError.__new__")) (bm_ok_NoWatch : PySem.HandSPX.refsVE bm_NoWatch = true) (sa_NoWatch : PySem.W.findIn K (.ref f_NoWatch) "__setattr__" = some (some (.builtin "object.__setattr__"))) (I_NoWatch : PySem.W.findIn K (.ref f_NoWatch) "__init__" = some (some (.ref f_init_NoWatch))) (t_init_NoWatch : PySem.W.typeIn K (.ref f_init_NoWatch) = some (.type "function")) (L_init_NoWatch : K.lookup f_init_NoWatch = some ⟨oc_init_NoWatch, od_init_NoWatch, .func (PySem.W.fnOf "__init__" "NoWatch.__init__" (defArgs s_init_NoWatch) (defBody s_init_NoWatch) (defScope s_init_NoWatch) .none kV_init_NoWatch dc_init_NoWatch pm_init_NoWatch an_init_NoWatch cd_init_NoWatch ct_init_NoWatch), sl_init_NoWatch⟩) (C_init_NoWatch : PySem.W.codeIn K cd_init_NoWatch "NoWatch.__init__" = true) (K_init_NoWatch : PySem.W.keepIn K (.ref f_init_NoWatch) = true)
    (no_NoWatch_number : PySem.W.findIn K (.ref f_NoWatch) "number" = some none)
    (A_NoText : PySem.W.nsIn K mainGlobals "NoText" = some (some (.ref f_NoText))) (ty_NoText : PySem.W.typeIn K (.ref f_NoText) = some (.type "type")) (kc_NoText : PySem.W.clsIn K f_NoText = some cd_NoText)
    (ga_NoText : PySem.W.findIn K (.ref f_NoText) "__getattribute__" = some (some (.builtin "BaseException.__getattribute__"))) (gg_NoText : PySem.W.findIn K (.ref f_NoText) "__getattr__" = some none) (k_NoText : PySem.W.keepIn K (.ref f_NoText) = true) (e_NoText : PySem.W.subIn K (.ref f_NoText) (.type "BaseException") = some true) (h_NoText : PySem.W.hasDictIn K f_NoText = true) (ca_NoText : PySem.W.findIn K (.ref f_NoText) "__class__" = some (some (.builtin "object.__class__"))) (cm_NoText : PySem.W.mroIn K f_NoText (.type "object") = some true)
    (X_NoText : K.lookup f_NoText = some (excClassObj nm_NoText qn_NoText f_NoText ns_NoText bs_NoText bm_NoText true sn_NoText sub_NoText ab_NoText col_NoText dd_NoText m0_NoText m1_NoText m2_NoText m3_NoText m5_NoText "ValueError.__new__")) (bm_ok_NoText : PySem.HandSPX.refsVE bm_NoText = true) (sa_NoText : PySem.W.findIn K (.ref f_NoText) "__setattr__" = some (some (.builtin "object.__setattr__"))) (I_NoText : PySem.W.findIn K (.ref f_NoText) "__init__" = some (some (.ref f_init_NoText))) (t_init_NoText : PySem.W.typeIn K (.ref f_init_NoText) = some (.type "function")) (L_init_NoText : K.lookup f_init_NoText = some ⟨oc_init_NoText, od_init_NoText, .func (PySem.W.fnOf "__init__" "NoText.__init__" (defArgs s_init_NoText) (defBody s_init_NoText) (defScope s_init_NoText) .none kV_init_NoText dc_init_NoText pm_init_NoText an_init_NoText cd_init_NoText ct_init_NoText), sl_init_NoText⟩) (C_init_NoText : PySem.W.codeIn K cd_init_NoText "NoText.__init__" = true) (K_init_NoText : PySem.W.keepIn K (.ref f_init_NoText) = true)
    (no_NoText_at : PySem.W.findIn K (.ref f_NoText) "at" = some none)
    (A_NoLine : PySem.W.nsIn K mainGlobals "NoLine" = some (some (.ref f_NoLine))) (ty_NoLine : PySem.W.typeIn K (.ref f_NoLine) = some (.type "type")) (kc_NoLine : PySem.W.clsIn K f_NoLine = some cd_NoLine)
    (ga_NoLine : PySem.W.findIn K (.ref f_NoLine) "__getattribute__" = some (some (.builtin "BaseException.__getattribute__"))) (gg_NoLine : PySem.W.findIn K (.ref f_NoLine) "__getattr__" = some none) (k_NoLine : PySem.W.keepIn K (.ref f_NoLine) = true) (e_NoLine : PySem.W.subIn K (.ref f_NoLine) (.type "BaseException") = some true) (h_NoLine : PySem.W.hasDictIn K f_NoLine = true) (ca_NoLine : PySem.W.findIn K (.ref f_NoLine) "__class__" = some (some (.builtin "object.__class__"))) (cm_NoLine : PySem.W.mroIn K f_NoLine (.type "object") = some true)
    (X_NoLine : K.lookup f_NoLine = some (excClassObj nm_NoLine qn_NoLine f_NoLine ns_NoLine bs_NoLine bm_NoLine true sn_NoLine sub_NoLine ab_NoLine col_NoLine dd_NoLine m0_NoLine m1_NoLine m2_NoLine m3_NoLine m5_NoLine "ValueError.__new__")) (bm_ok_NoLine : PySem.HandSPX.refsVE bm_NoLine = true) (sa_NoLine : PySem.W.findIn K (.ref f_NoLine) "__setattr__" = some (some (.builtin "object.__setattr__"))) (I_NoLine : PySem.W.findIn K (.ref f_NoLine) "__init__" = some (some (.ref f_init_NoLine))) (t_init_NoLine : PySem.W.typeIn K (.ref f_init_NoLine) = some (.type "function")) (L_init_NoLine : K.lookup f_init_NoLine = some ⟨oc_init_NoLine, od_init_NoLine, .func (PySem.W.fnOf "__init__" "NoLine.__init__" (defArgs s_init_NoLine) (defBody s_init_NoLine) (defScope s_init_NoLine) .none kV_init_NoLine dc_init_NoLine pm_init_NoLine an_init_NoLine cd_init_NoLine ct_init_NoLine), sl_init_NoLine⟩) (C_init_NoLine : PySem.W.codeIn K cd_init_NoLine "NoLine.__init__" = true) (K_init_NoLine : PySem.W.keepIn K (.ref f_init_NoLine) = true)
    (no_NoLine_line : PySem.W.findIn K (.ref f_NoLine) "line" = some none)
    (A_NoBook : PySem.W.nsIn K mainGlobals "NoBook" = some (some (.ref f_NoBook))) (ty_NoBook : PySem.W.typeIn K (.ref f_NoBook) = some (.type "type")) (kc_NoBook : PySem.W.clsIn K f_NoBook = some cd_NoBook)
    (ga_NoBook : PySem.W.findIn K (.ref f_NoBook) "__getattribute__" = some (some (.builtin "BaseException.__getattribute__"))) (gg_NoBook : PySem.W.findIn K (.ref f_NoBook) "__getattr__" = some none) (k_NoBook : PySem.W.keepIn K (.ref f_NoBook) = true) (e_NoBook : PySem.W.subIn K (.ref f_NoBook) (.type "BaseException") = some true) (h_NoBook : PySem.W.hasDictIn K f_NoBook = true) (ca_NoBook : PySem.W.findIn K (.ref f_NoBook) "__class__" = some (some (.builtin "object.__class__"))) (cm_NoBook : PySem.W.mroIn K f_NoBook (.type "object") = some true)
    (X_NoBook : K.lookup f_NoBook = some (excClassObj nm_NoBook qn_NoBook f_NoBook ns_NoBook bs_NoBook bm_NoBook true sn_NoBook sub_NoBook ab_NoBook col_NoBook dd_NoBook m0_NoBook m1_NoBook m2_NoBook m3_NoBook m5_NoBook "ValueError.__new__")) (bm_ok_NoBook : PySem.HandSPX.refsVE bm_NoBook = true) (sa_NoBook : PySem.W.findIn K (.ref f_NoBook) "__setattr__" = some (some (.builtin "object.__setattr__"))) (I_NoBook : PySem.W.findIn K (.ref f_NoBook) "__init__" = some (some (.ref f_init_NoBook))) (t_init_NoBook : PySem.W.typeIn K (.ref f_init_NoBook) = some (.type "function")) (L_init_NoBook : K.lookup f_init_NoBook = some ⟨oc_init_NoBook, od_init_NoBook, .func (PySem.W.fnOf "__init__" "NoBook.__init__" (defArgs s_init_NoBook) (defBody s_init_NoBook) (defScope s_init_NoBook) .none kV_init_NoBook dc_init_NoBook pm_init_NoBook an_init_NoBook cd_init_NoBook ct_init_NoBook), sl_init_NoBook⟩) (C_init_NoBook : PySem.W.codeIn K cd_init_NoBook "NoBook.__init__" = true) (K_init_NoBook : PySem.W.keepIn K (.ref f_init_NoBook) = true)
    (no_NoBook_name : PySem.W.findIn K (.ref f_NoBook) "name" = some none)
    (A_NoFit : PySem.W.nsIn K mainGlobals "NoFit" = some (some (.ref f_NoFit))) (ty_NoFit : PySem.W.typeIn K (.ref f_NoFit) = some (.type "type")) (kc_NoFit : PySem.W.clsIn K f_NoFit = some cd_NoFit)
    (ga_NoFit : PySem.W.findIn K (.ref f_NoFit) "__getattribute__" = some (some (.builtin "BaseException.__getattribute__"))) (gg_NoFit : PySem.W.findIn K (.ref f_NoFit) "__getattr__" = some none) (k_NoFit : PySem.W.keepIn K (.ref f_NoFit) = true) (e_NoFit : PySem.W.subIn K (.ref f_NoFit) (.type "BaseException") = some true) (h_NoFit : PySem.W.hasDictIn K f_NoFit = true) (ca_NoFit : PySem.W.findIn K (.ref f_NoFit) "__class__" = some (some (.builtin "object.__class__"))) (cm_NoFit : PySem.W.mroIn K f_NoFit (.type "object") = some true)
    (xq_NoFit : PySem.W.excIn K f_NoFit [.type "ValueError", .type "Exception", .type "BaseException", .type "object"] "ValueError.__new__" = true)
    (A_NoLink : PySem.W.nsIn K mainGlobals "NoLink" = some (some (.ref f_NoLink))) (ty_NoLink : PySem.W.typeIn K (.ref f_NoLink) = some (.type "type")) (kc_NoLink : PySem.W.clsIn K f_NoLink = some cd_NoLink)
    (ga_NoLink : PySem.W.findIn K (.ref f_NoLink) "__getattribute__" = some (some (.builtin "BaseException.__getattribute__"))) (gg_NoLink : PySem.W.findIn K (.ref f_NoLink) "__getattr__" = some none) (k_NoLink : PySem.W.keepIn K (.ref f_NoLink) = true) (e_NoLink : PySem.W.subIn K (.ref f_NoLink) (.type "BaseException") = some true) (h_NoLink : PySem.W.hasDictIn K f_NoLink = true) (ca_NoLink : PySem.W.findIn K (.ref f_NoLink) "__class__" = some (some (.builtin "object.__class__"))) (cm_NoLink : PySem.W.mroIn K f_NoLink (.type "object") = some true)
    (xq_NoLink : PySem.W.excIn K f_NoLink [.type "ValueError", .type "Exception", .type "BaseException", .type "object"] "ValueError.__new__" = true)
    (A_NothingDone : PySem.W.nsIn K mainGlobals "NothingDone" = some (some (.ref f_NothingDone))) (ty_NothingDone : PySem.W.typeIn K (.ref f_NothingDone) = some (.type "type")) (kc_NothingDone : PySem.W.clsIn K f_NothingDone = some cd_NothingDone)
    (ga_NothingDone : PySem.W.findIn K (.ref f_NothingDone) "__getattribute__" = some (some (.builtin "BaseException.__getattribute__"))) (gg_NothingDone : PySem.W.findIn K (.ref f_NothingDone) "__getattr__" = some none) (k_NothingDone : PySem.W.keepIn K (.ref f_NothingDone) = true) (e_NothingDone : PySem.W.subIn K (.ref f_NothingDone) (.type "BaseException") = some true) (h_NothingDone : PySem.W.hasDictIn K f_NothingDone = true) (ca_NothingDone : PySem.W.findIn K (.ref f_NothingDone) "__class__" = some (some (.builtin "object.__class__"))) (cm_NothingDone : PySem.W.mroIn K f_NothingDone (.type "object") = some true)
    (xq_NothingDone : PySem.W.excIn K f_NothingDone [.type "ValueError", .type "Exception", .type "BaseException", .type "object"] "ValueError.__new__" = true)
    (A_NothingUndone : PySem.W.nsIn K mainGlobals "NothingUndone" = some (some (.ref f_NothingUndone))) (ty_NothingUndone : PySem.W.typeIn K (.ref f_NothingUndone) = some (.type "type")) (kc_NothingUndone : PySem.W.clsIn K f_NothingUndone = some cd_NothingUndone)
    (ga_NothingUndone : PySem.W.findIn K (.ref f_NothingUndone) "__getattribute__" = some (some (.builtin "BaseException.__getattribute__"))) (gg_NothingUndone : PySem.W.findIn K (.ref f_NothingUndone) "__getattr__" = some none) (k_NothingUndone : PySem.W.keepIn K (.ref f_NothingUndone) = true) (e_NothingUndone : PySem.W.subIn K (.ref f_NothingUndone) (.type "BaseException") = some true) (h_NothingUndone : PySem.W.hasDictIn K f_NothingUndone = true) (ca_NothingUndone : PySem.W.findIn K (.ref f_NothingUndone) "__class__" = some (some (.builtin "object.__class__"))) (cm_NothingUndone : PySem.W.mroIn K f_NothingUndone (.type "object") = some true)
    (xq_NothingUndone : PySem.W.excIn K f_NothingUndone [.type "ValueError", .type "Exception", .type "BaseException", .type "object"] "ValueError.__new__" = true)
    (A_NeedleError : PySem.W.nsIn K mainGlobals "NeedleError" = some (some (.ref f_NeedleError))) (ty_NeedleError : PySem.W.typeIn K (.ref f_NeedleError) = some (.type "type")) (kc_NeedleError : PySem.W.clsIn K f_NeedleError = some cd_NeedleError)
    (cn_all : PySem.W.specialIn K (.builtin "object.__class__") "__get__" = some (some (.builtin "getset_descriptor.__get__"))) (ct_all : PySem.W.takesIn K (.builtin "object.__class__") = some true) (Z_ValueError : PySem.W.nsIn K mainGlobals "ValueError" = some none) (tb : ExcV.tabB [f_NoLot, f_BadLog, f_NoDealing, f_BadBox, f_NoName, f_Twice, f_NoWalker, f_NoSign, f_NoLeg, f_TooMany, f_NoWatch, f_NoText, f_NoLine, f_NoBook, f_NoFit, f_NoLink, f_NothingDone, f_NothingUndone] [cd_NoLot, cd_BadLog, cd_NoDealing, cd_BadBox, cd_NoName, cd_Twice, cd_NoWalker, cd_NoSign, cd_NoLeg, cd_TooMany, cd_NoWatch, cd_NoText, cd_NoLine, cd_NoBook, cd_NoFit, cd_NoLink, cd_NothingDone, cd_NothingUndone] f_NeedleError = true) :
    ∃ fd : FuncData, (∀ (s : Shared) (v : Value), BindsTo s fd ⟨[v], []⟩ [("_law_script", v)]) ∧ ∀ base : Heap, K.In base → base.Ns mainGlobals mg → FnOk l.prog w K mg base CX0 7 fa fd ["_law_script"] (spLaw K) := by
  have e := hfa.symm.trans (PySem.W.mg_of X G A_law)
  cases e
  let T : Top w K mg := {
    a_is_row := f_is_row, fd_is_row := _, F_is_row := fun_mk (st := s_is_row) L_is_row C_is_row K_is_row,
    b_is_row := (fun_mk (st := s_is_row) L_is_row C_is_row K_is_row).binds (ps := ["thing"]) fun _ _ _ _ _ _ us hl => match us, hl with | [_], _ => rfl,
    g_is_row := PySem.W.mg_of X G A_is_row,
    a_laid_out := f_laid_out, fd_laid_out := _, F_laid_out := fun_mk (st := s_laid_out) L_laid_out C_laid_out K_laid_out,
    b_laid_out := (fun_mk (st := s_laid_out) L_laid_out C_laid_out K_laid_out).binds (ps := ["thing"]) fun _ _ _ _ _ _ us hl => match us, hl with | [_], _ => rfl,
    g_laid_out := PySem.W.mg_of X G A_laid_out,
    a_kept := f_kept, fd_kept := _, F_kept := fun_mk (st := s_kept) L_kept C_kept K_kept,
    b_kept := (fun_mk (st := s_kept) L_kept C_kept K_kept).binds (ps := ["thing"]) fun _ _ _ _ _ _ us hl => match us, hl with | [_], _ => rfl,
    g_kept := PySem.W.mg_of X G A_kept,
    a_Lpool := f_Lpool, fd_Lpool := _, F_Lpool := fun_mk (st := s_Lpool) L_Lpool C_Lpool K_Lpool,
    b_Lpool := (fun_mk (st := s_Lpool) L_Lpool C_Lpool K_Lpool).binds (ps := ["_law_script", "_law_k"]) fun _ _ _ _ _ _ us hl => match us, hl with | [_, _], _ => rfl,
    g_Lpool := PySem.W.mg_of X G A_Lpool,
    a_Ltake := f_Ltake, fd_Ltake := _, F_Ltake := fun_mk (st := s_Ltake) L_Ltake C_Ltake K_Ltake,
    b_Ltake := (fun_mk (st := s_Ltake) L_Ltake C_Ltake K_Ltake).binds (ps := ["_law_pool_here", "_law_wide"]) fun _ _ _ _ _ _ us hl => match us, hl with | [_, _], _ => rfl,
    g_Ltake := PySem.W.mg_of X G A_Ltake,
    a_Lwhole := f_Lwhole, fd_Lwhole := _, F_Lwhole := fun_mk (st := s_Lwhole) L_Lwhole C_Lwhole K_Lwhole,
    b_Lwhole := (fun_mk (st := s_Lwhole) L_Lwhole C_Lwhole K_Lwhole).binds (ps := ["_law_thing"]) fun _ _ _ _ _ _ us hl => match us, hl with | [_], _ => rfl,
    g_Lwhole := PySem.W.mg_of X G A_Lwhole,
    a_Lsame := f_Lsame, fd_Lsame := _, F_Lsame := fun_mk (st := s_Lsame) L_Lsame C_Lsame K_Lsame,
    b_Lsame := (fun_mk (st := s_Lsame) L_Lsame C_Lsame K_Lsame).binds (ps := ["_law_found", "_law_due"]) fun _ _ _ _ _ _ us hl => match us, hl with | [_, _], _ => rfl,
    g_Lsame := PySem.W.mg_of X G A_Lsame,
    a_Lsorts := f_Lsorts, fd_Lsorts := _, F_Lsorts := fun_mk (st := s_Lsorts) L_Lsorts C_Lsorts K_Lsorts,
    b_Lsorts := (fun_mk (st := s_Lsorts) L_Lsorts C_Lsorts K_Lsorts).binds (ps := ["_law_e"]) fun _ _ _ _ _ _ us hl => match us, hl with | [_], _ => rfl,
    g_Lsorts := PySem.W.mg_of X G A_Lsorts,
    a_Lmade := f_Lmade, fd_Lmade := _, F_Lmade := fun_mk (st := s_Lmade) L_Lmade C_Lmade K_Lmade,
    b_Lmade := (fun_mk (st := s_Lmade) L_Lmade C_Lmade K_Lmade).binds (ps := ["_law_nth", "_law_one", "_law_other"]) fun _ _ _ _ _ _ us hl => match us, hl with | [_, _, _], _ => rfl,
    g_Lmade := PySem.W.mg_of X G A_Lmade,
    a_Lnamed := f_Lnamed, fd_Lnamed := _, F_Lnamed := fun_mk (st := s_Lnamed) L_Lnamed C_Lnamed K_Lnamed,
    b_Lnamed := (fun_mk (st := s_Lnamed) L_Lnamed C_Lnamed K_Lnamed).binds (ps := ["_law_nth", "_law_one", "_law_other"]) fun _ _ _ _ _ _ us hl => match us, hl with | [_, _, _], _ => rfl,
    g_Lnamed := PySem.W.mg_of X G A_Lnamed,
    a_Lfields := f_Lfields, fd_Lfields := _, F_Lfields := fun_mk (st := s_Lfields) L_Lfields C_Lfields K_Lfields,
    b_Lfields := (fun_mk (st := s_Lfields) L_Lfields C_Lfields K_Lfields).binds (ps := ["_law_nth", "_law_made_here"]) fun _ _ _ _ _ _ us hl => match us, hl with | [_, _], _ => rfl,
    g_Lfields := PySem.W.mg_of X G A_Lfields,
    a_law := fa, fd_law := _, F_law := fun_mk (st := s_law) L_law C_law K_law,
    b_law := (fun_mk (st := s_law) L_law C_law K_law).binds (ps := ["_law_script"]) fun _ _ _ _ _ _ us hl => match us, hl with | [_], _ => rfl,
    g_law := PySem.W.mg_of X G A_law,
    a_NoLot := f_NoLot,
    g_NoLot := PySem.W.mg_of X G A_NoLot,
    exc_NoLot := ⟨ga_NoLot, gg_NoLot, e_NoLot, h_NoLot, ca_NoLot, cn_all, ct_all, cm_NoLot⟩,
    no_NoLot_lot := no_NoLot_lot,
    oex_NoLot := ⟨⟨_, _, _, _, _, _, _, _, _, _, _, _, _, _, _, X_NoLot, bm_ok_NoLot⟩, sa_NoLot, e_NoLot, ty_NoLot, k_NoLot⟩,
    a_init_NoLot := f_init_NoLot, fd_init_NoLot := _, F_init_NoLot := fun_mk (st := s_init_NoLot) L_init_NoLot C_init_NoLot K_init_NoLot, iC_NoLot := I_NoLot, tI_NoLot := t_init_NoLot, xf_NoLot := ⟨ga_NoLot, gg_NoLot, e_NoLot, h_NoLot⟩,
    bp_NoLot := ⟨fun _ us ws l1 l2 => match us, ws, l1, l2 with | [_, _], [], _, _ => .of_eq rfl, fun r _ => r⟩,
    bk_NoLot := ⟨fun _ us ws l1 l2 => match us, ws, l1, l2 with | [_], [_], _, _ => .of_eq rfl, ExcV.gA_rel⟩,
    a_BadLog := f_BadLog,
    g_BadLog := PySem.W.mg_of X G A_BadLog,
    exc_BadLog := ⟨ga_BadLog, gg_BadLog, e_BadLog, h_BadLog, ca_BadLog, cn_all, ct_all, cm_BadLog⟩,
    no_BadLog_name := no_BadLog_name,
    no_BadLog_at := no_BadLog_at,
    oex_BadLog := ⟨⟨_, _, _, _, _, _, _, _, _, _, _, _, _, _, _, X_BadLog, bm_ok_BadLog⟩, sa_BadLog, e_BadLog, ty_BadLog, k_BadLog⟩,
    a_init_BadLog := f_init_BadLog, fd_init_BadLog := _, F_init_BadLog := fun_mk (st := s_init_BadLog) L_init_BadLog C_init_BadLog K_init_BadLog, iC_BadLog := I_BadLog, tI_BadLog := t_init_BadLog, xf_BadLog := ⟨ga_BadLog, gg_BadLog, e_BadLog, h_BadLog⟩,
    bp_BadLog := ⟨fun _ us ws l1 l2 => match us, ws, l1, l2 with | [_, _, _], [], _, _ => .of_eq rfl, fun r _ => r⟩,
    bk_BadLog := ⟨fun _ us ws l1 l2 => match us, ws, l1, l2 with | [_], [_, _], _, _ => .of_eq rfl, ExcV.gS_rel⟩,
    a_NoDealing := f_NoDealing,
    g_NoDealing := PySem.W.mg_of X G A_NoDealing,
    exc_NoDealing := ⟨ga_NoDealing, gg_NoDealing, e_NoDealing, h_NoDealing, ca_NoDealing, cn_all, ct_all, cm_NoDealing⟩,
    no_NoDealing_at := no_NoDealing_at,
    oex_NoDealing := ⟨⟨_, _, _, _, _, _, _, _, _, _, _, _, _, _, _, X_NoDealing, bm_ok_NoDealing⟩, sa_NoDealing, e_NoDealing, ty_NoDealing, k_NoDealing⟩,
    a_init_NoDealing := f_init_NoDealing, fd_init_NoDealing := _, F_init_NoDealing := fun_mk (st := s_init_NoDealing) L_init_NoDealing C_init_NoDealing K_init_NoDealing, iC_NoDealing := I_NoDealing, tI_NoDealing := t_init_NoDealing, xf_NoDealing := ⟨ga_NoDealing, gg_NoDealing, e_NoDealing, h_NoDealing⟩,
    bp_NoDealing := ⟨fun _ us ws l1 l2 => match us, ws, l1, l2 with | [_, _], [], _, _ => .of_eq rfl, fun r _ => r⟩,
    bk_NoDealing := ⟨fun _ us ws l1 l2 => match us, ws, l1, l2 with | [_], [_], _, _ => .of_eq rfl, ExcV.gA_rel⟩,
    a_BadBox := f_BadBox,
    g_BadBox := PySem.W.mg_of X G A_BadBox,
    exc_BadBox := ⟨ga_BadBox, gg_BadBox, e_BadBox, h_BadBox, ca_BadBox, cn_all, ct_all, cm_BadBox⟩,
    no_BadBox_at := no_BadBox_at,
    oex_BadBox := ⟨⟨_, _, _, _, _, _, _, _, _, _, _, _, _, _, _, X_BadBox, bm_ok_BadBox⟩, sa_BadBox, e_BadBox, ty_BadBox, k_BadBox⟩,
    a_init_BadBox := f_init_BadBox, fd_init_BadBox := _, F_init_BadBox := fun_mk (st := s_init_BadBox) L_init_BadBox C_init_BadBox K_init_BadBox, iC_BadBox := I_BadBox, tI_BadBox := t_init_BadBox, xf_BadBox := ⟨ga_BadBox, gg_BadBox, e_BadBox, h_BadBox⟩,
    bp_BadBox := ⟨fun _ us ws l1 l2 => match us, ws, l1, l2 with | [_, _], [], _, _ => .of_eq rfl, fun r _ => r⟩,
    bk_BadBox := ⟨fun _ us ws l1 l2 => match us, ws, l1, l2 with | [_], [_], _, _ => .of_eq rfl, ExcV.gA_rel⟩,
    a_NoName := f_NoName,
    g_NoName := PySem.W.mg_of X G A_NoName,
    exc_NoName := ⟨ga_NoName, gg_NoName, e_NoName, h_NoName, ca_NoName, cn_all, ct_all, cm_NoName⟩,
    no_NoName_name := no_NoName_name,
    oex_NoName := ⟨⟨_, _, _, _, _, _, _, _, _, _, _, _, _, _, _, X_NoName, bm_ok_NoName⟩, sa_NoName, e_NoName, ty_NoName, k_NoName⟩,
    a_init_NoName := f_init_NoName, fd_init_NoName := _, F_init_NoName := fun_mk (st := s_init_NoName) L_init_NoName C_init_NoName K_init_NoName, iC_NoName := I_NoName, tI_NoName := t_init_NoName, xf_NoName := ⟨ga_NoName, gg_NoName, e_NoName, h_NoName⟩,
    bp_NoName := ⟨fun _ us ws l1 l2 => match us, ws, l1, l2 with | [_, _], [], _, _ => .of_eq rfl, fun r _ => r⟩,
    bk_NoName := ⟨fun _ us ws l1 l2 => match us, ws, l1, l2 with | [_], [_], _, _ => .of_eq rfl, ExcV.gA_rel⟩,
    a_Twice := f_Twice,
    g_Twice := PySem.W.mg_of X G A_Twice,
    exc_Twice := ⟨ga_Twice, gg_Twice, e_Twice, h_Twice, ca_Twice, cn_all, ct_all, cm_Twice⟩,
    no_Twice_name := no_Twice_name,
    oex_Twice := ⟨⟨_, _, _, _, _, _, _, _, _, _, _, _, _, _, _, X_Twice, bm_ok_Twice⟩, sa_Twice, e_Twice, ty_Twice, k_Twice⟩,
    a_init_Twice := f_init_Twice, fd_init_Twice := _, F_init_Twice := fun_mk (st := s_init_Twice) L_init_Twice C_init_Twice K_init_Twice, iC_Twice := I_Twice, tI_Twice := t_init_Twice, xf_Twice := ⟨ga_Twice, gg_Twice, e_Twice, h_Twice⟩,
    bp_Twice := ⟨fun _ us ws l1 l2 => match us, ws, l1, l2 with | [_, _], [], _, _ => .of_eq rfl, fun r _ => r⟩,
    bk_Twice := ⟨fun _ us ws l1 l2 => match us, ws, l1, l2 with | [_], [_], _, _ => .of_eq rfl, ExcV.gA_rel⟩,
    a_NoWalker := f_NoWalker,
    g_NoWalker := PySem.W.mg_of X G A_NoWalker,
    exc_NoWalker := ⟨ga_NoWalker, gg_NoWalker, e_NoWalker, h_NoWalker, ca_NoWalker, cn_all, ct_all, cm_NoWalker⟩,
    no_NoWalker_name := no_NoWalker_name,
    oex_NoWalker := ⟨⟨_, _, _, _, _, _, _, _, _, _, _, _, _, _, _, X_NoWalker, bm_ok_NoWalker⟩, sa_NoWalker, e_NoWalker, ty_NoWalker, k_NoWalker⟩,
    a_init_NoWalker := f_init_NoWalker, fd_init_NoWalker := _, F_init_NoWalker := fun_mk (st := s_init_NoWalker) L_init_NoWalker C_init_NoWalker K_init_NoWalker, iC_NoWalker := I_NoWalker, tI_NoWalker := t_init_NoWalker, xf_NoWalker := ⟨ga_NoWalker, gg_NoWalker, e_NoWalker, h_NoWalker⟩,
    bp_NoWalker := ⟨fun _ us ws l1 l2 => match us, ws, l1, l2 with | [_, _], [], _, _ => .of_eq rfl, fun r _ => r⟩,
    bk_NoWalker := ⟨fun _ us ws l1 l2 => match us, ws, l1, l2 with | [_], [_], _, _ => .of_eq rfl, ExcV.gA_rel⟩,
    a_NoSign := f_NoSign,
    g_NoSign := PySem.W.mg_of X G A_NoSign,
    exc_NoSign := ⟨ga_NoSign, gg_NoSign, e_NoSign, h_NoSign, ca_NoSign, cn_all, ct_all, cm_NoSign⟩,
    no_NoSign_sign := no_NoSign_sign,
    oex_NoSign := ⟨⟨_, _, _, _, _, _, _, _, _, _, _, _, _, _, _, X_NoSign, bm_ok_NoSign⟩, sa_NoSign, e_NoSign, ty_NoSign, k_NoSign⟩,
    a_init_NoSign := f_init_NoSign, fd_init_NoSign := _, F_init_NoSign := fun_mk (st := s_init_NoSign) L_init_NoSign C_init_NoSign K_init_NoSign, iC_NoSign := I_NoSign, tI_NoSign := t_init_NoSign, xf_NoSign := ⟨ga_NoSign, gg_NoSign, e_NoSign, h_NoSign⟩,
    bp_NoSign := ⟨fun _ us ws l1 l2 => match us, ws, l1, l2 with | [_, _], [], _, _ => .of_eq rfl, fun r _ => r⟩,
    bk_NoSign := ⟨fun _ us ws l1 l2 => match us, ws, l1, l2 with | [_], [_], _, _ => .of_eq rfl, ExcV.gA_rel⟩,
    a_NoLeg := f_NoLeg,
    g_NoLeg := PySem.W.mg_of X G A_NoLeg,
    exc_NoLeg := ⟨ga_NoLeg, gg_NoLeg, e_NoLeg, h_NoLeg, ca_NoLeg, cn_all, ct_all, cm_NoLeg⟩,
    no_NoLeg_name := no_NoLeg_name,
    no_NoLeg_leg := no_NoLeg_leg,
    oex_NoLeg := ⟨⟨_, _, _, _, _, _, _, _, _, _, _, _, _, _, _, X_NoLeg, bm_ok_NoLeg⟩, sa_NoLeg, e_NoLeg, ty_NoLeg, k_NoLeg⟩,
    a_init_NoLeg := f_init_NoLeg, fd_init_NoLeg := _, F_init_NoLeg := fun_mk (st := s_init_NoLeg) L_init_NoLeg C_init_NoLeg K_init_NoLeg, iC_NoLeg := I_NoLeg, tI_NoLeg := t_init_NoLeg, xf_NoLeg := ⟨ga_NoLeg, gg_NoLeg, e_NoLeg, h_NoLeg⟩,
    bp_NoLeg := ⟨fun _ us ws l1 l2 => match us, ws, l1, l2 with | [_, _, _], [], _, _ => .of_eq rfl, fun r _ => r⟩,
    bk_NoLeg := ⟨fun _ us ws l1 l2 => match us, ws, l1, l2 with | [_], [_, _], _, _ => .of_eq rfl, ExcV.gS_rel⟩,
    a_TooMany := f_TooMany,
    g_TooMany := PySem.W.mg_of X G A_TooMany,
    exc_TooMany := ⟨ga_TooMany, gg_TooMany, e_TooMany, h_TooMany, ca_TooMany, cn_all, ct_all, cm_TooMany⟩,
    no_TooMany_many := no_TooMany_many,
    oex_TooMany := ⟨⟨_, _, _, _, _, _, _, _, _, _, _, _, _, _, _, X_TooMany, bm_ok_TooMany⟩, sa_TooMany, e_TooMany, ty_TooMany, k_TooMany⟩,
    a_init_TooMany := f_init_TooMany, fd_init_TooMany := _, F_init_TooMany := fun_mk (st := s_init_TooMany) L_init_TooMany C_init_TooMany K_init_TooMany, iC_TooMany := I_TooMany, tI_TooMany := t_init_TooMany, xf_TooMany := ⟨ga_TooMany, gg_TooMany, e_TooMany, h_TooMany⟩,
    bp_TooMany := ⟨fun _ us ws l1 l2 => match us, ws, l1, l2 with | [_, _], [], _, _ => .of_eq rfl, fun r _ => r⟩,
    bk_TooMany := ⟨fun _ us ws l1 l2 => match us, ws, l1, l2 with | [_], [_], _, _ => .of_eq rfl, ExcV.gA_rel⟩,
    a_NoWatch := f_NoWatch,
    g_NoWatch := PySem.W.mg_of X G A_NoWatch,
    exc_NoWatch := ⟨ga_NoWatch, gg_NoWatch, e_NoWatch, h_NoWatch, ca_NoWatch, cn_all, ct_all, cm_NoWatch⟩,
    no_NoWatch_number := no_NoWatch_number,
    oex_NoWatch := ⟨⟨_, _, _, _, _, _, _, _, _, _, _, _, _, _, _, X_NoWatch, bm_ok_NoWatch⟩, sa_NoWatch, e_NoWatch, ty_NoWatch, k_NoWatch⟩,
    a_init_NoWatch := f_init_NoWatch, fd_init_NoWatch := _, F_init_NoWatch := fun_mk (st := s_init_NoWatch) L_init_NoWatch C_init_NoWatch K_init_NoWatch, iC_NoWatch := I_NoWatch, tI_NoWatch := t_init_NoWatch, xf_NoWatch := ⟨ga_NoWatch, gg_NoWatch, e_NoWatch, h_NoWatch⟩,
    bp_NoWatch := ⟨fun _ us ws l1 l2 => match us, ws, l1, l2 with | [_, _], [], _, _ => .of_eq rfl, fun r _ => r⟩,
    bk_NoWatch := ⟨fun _ us ws l1 l2 => match us, ws, l1, l2 with | [_], [_], _, _ => .of_eq rfl, ExcV.gA_rel⟩,
    a_NoText := f_NoText,
    g_NoText := PySem.W.mg_of X G A_NoText,
    exc_NoText := ⟨ga_NoText, gg_NoText, e_NoText, h_NoText, ca_NoText, cn_all, ct_all, cm_NoText⟩,
    no_NoText_at := no_NoText_at,
    oex_NoText := ⟨⟨_, _, _, _, _, _, _, _, _, _, _, _, _, _, _, X_NoText, bm_ok_NoText⟩, sa_NoText, e_NoText, ty_NoText, k_NoText⟩,
    a_init_NoText := f_init_NoText, fd_init_NoText := _, F_init_NoText := fun_mk (st := s_init_NoText) L_init_NoText C_init_NoText K_init_NoText, iC_NoText := I_NoText, tI_NoText := t_init_NoText, xf_NoText := ⟨ga_NoText, gg_NoText, e_NoText, h_NoText⟩,
    bp_NoText := ⟨fun _ us ws l1 l2 => match us, ws, l1, l2 with | [_, _], [], _, _ => .of_eq rfl, fun r _ => r⟩,
    bk_NoText := ⟨fun _ us ws l1 l2 => match us, ws, l1, l2 with | [_], [_], _, _ => .of_eq rfl, ExcV.gA_rel⟩,
    a_NoLine := f_NoLine,
    g_NoLine := PySem.W.mg_of X G A_NoLine,
    exc_NoLine := ⟨ga_NoLine, gg_NoLine, e_NoLine, h_NoLine, ca_NoLine, cn_all, ct_all, cm_NoLine⟩,
    no_NoLine_line := no_NoLine_line,
    oex_NoLine := ⟨⟨_, _, _, _, _, _, _, _, _, _, _, _, _, _, _, X_NoLine, bm_ok_NoLine⟩, sa_NoLine, e_NoLine, ty_NoLine, k_NoLine⟩,
    a_init_NoLine := f_init_NoLine, fd_init_NoLine := _, F_init_NoLine := fun_mk (st := s_init_NoLine) L_init_NoLine C_init_NoLine K_init_NoLine, iC_NoLine := I_NoLine, tI_NoLine := t_init_NoLine, xf_NoLine := ⟨ga_NoLine, gg_NoLine, e_NoLine, h_NoLine⟩,
    bp_NoLine := ⟨fun _ us ws l1 l2 => match us, ws, l1, l2 with | [_, _], [], _, _ => .of_eq rfl, fun r _ => r⟩,
    bk_NoLine := ⟨fun _ us ws l1 l2 => match us, ws, l1, l2 with | [_], [_], _, _ => .of_eq rfl, ExcV.gA_rel⟩,
    a_NoBook := f_NoBook,
    g_NoBook := PySem.W.mg_of X G A_NoBook,
    exc_NoBook := ⟨ga_NoBook, gg_NoBook, e_NoBook, h_NoBook, ca_NoBook, cn_all, ct_all, cm_NoBook⟩,
    no_NoBook_name := no_NoBook_name,
    oex_NoBook := ⟨⟨_, _, _, _, _, _, _, _, _, _, _, _, _, _, _, X_NoBook, bm_ok_NoBook⟩, sa_NoBook, e_NoBook, ty_NoBook, k_NoBook⟩,
    a_init_NoBook := f_init_NoBook, fd_init_NoBook := _, F_init_NoBook := fun_mk (st := s_init_NoBook) L_init_NoBook C_init_NoBook K_init_NoBook, iC_NoBook := I_NoBook, tI_NoBook := t_init_NoBook, xf_NoBook := ⟨ga_NoBook, gg_NoBook, e_NoBook, h_NoBook⟩,
    bp_NoBook := ⟨fun _ us ws l1 l2 => match us, ws, l1, l2 with | [_, _], [], _, _ => .of_eq rfl, fun r _ => r⟩,
    bk_NoBook := ⟨fun _ us ws l1 l2 => match us, ws, l1, l2 with | [_], [_], _, _ => .of_eq rfl, ExcV.gA_rel⟩,
    a_NoFit := f_NoFit,
    g_NoFit := PySem.W.mg_of X G A_NoFit,
    exc_NoFit := ⟨ga_NoFit, gg_NoFit, e_NoFit, h_NoFit, ca_NoFit, cn_all, ct_all, cm_NoFit⟩,
    xq_NoFit := xq_NoFit,
    kp_NoFit := k_NoFit,
    a_NoLink := f_NoLink,
    g_NoLink := PySem.W.mg_of X G A_NoLink,
    exc_NoLink := ⟨ga_NoLink, gg_NoLink, e_NoLink, h_NoLink, ca_NoLink, cn_all, ct_all, cm_NoLink⟩,
    xq_NoLink := xq_NoLink,
    kp_NoLink := k_NoLink,
    a_NothingDone := f_NothingDone,
    g_NothingDone := PySem.W.mg_of X G A_NothingDone,
    exc_NothingDone := ⟨ga_NothingDone, gg_NothingDone, e_NothingDone, h_NothingDone, ca_NothingDone, cn_all, ct_all, cm_NothingDone⟩,
    xq_NothingDone := xq_NothingDone,
    kp_NothingDone := k_NothingDone,
    a_NothingUndone := f_NothingUndone,
    g_NothingUndone := PySem.W.mg_of X G A_NothingUndone,
    exc_NothingUndone := ⟨ga_NothingUndone, gg_NothingUndone, e_NothingUndone, h_NothingUndone, ca_NothingUndone, cn_all, ct_all, cm_NothingUndone⟩,
    xq_NothingUndone := xq_NothingUndone,
    kp_NothingUndone := k_NothingUndone,
    a_NeedleError := f_NeedleError,
    g_NeedleError := PySem.W.mg_of X G A_NeedleError,
    m_ValueError := PySem.W.mg_none_of X G Z_ValueError,
    tab := ExcV.tab_mk tb (.cons kc_NoLot (.cons kc_BadLog (.cons kc_NoDealing (.cons kc_BadBox (.cons kc_NoName (.cons kc_Twice (.cons kc_NoWalker (.cons kc_NoSign (.cons kc_NoLeg (.cons kc_TooMany (.cons kc_NoWatch (.cons kc_NoText (.cons kc_NoLine (.cons kc_NoBook (.cons kc_NoFit (.cons kc_NoLink (.cons kc_NothingDone (.cons kc_NothingUndone .nil)))))))))))))))))) (.cons ty_NoLot (.cons ty_BadLog (.cons ty_NoDealing (.cons ty_BadBox (.cons ty_NoName (.cons ty_Twice (.cons ty_NoWalker (.cons ty_NoSign (.cons ty_NoLeg (.cons ty_TooMany (.cons ty_NoWatch (.cons ty_NoText (.cons ty_NoLine (.cons ty_NoBook (.cons ty_NoFit (.cons ty_NoLink (.cons ty_NothingDone (.cons ty_NothingUndone .nil)))))))))))))))))) ⟨kc_NeedleError, ty_NeedleError⟩,
    m_abs := PySem.W.mg_none_of X G Z_abs, m_all := PySem.W.mg_none_of X G Z_all, m_any := PySem.W.mg_none_of X G Z_any, m_bool := PySem.W.mg_none_of X G Z_bool, m_int := PySem.W.mg_none_of X G Z_int, m_isinstance := PySem.W.mg_none_of X G Z_isinstance, m_len := PySem.W.mg_none_of X G Z_len, m_list := PySem.W.mg_none_of X G Z_list, m_range := PySem.W.mg_none_of X G Z_range, m_str := PySem.W.mg_none_of X G Z_str, m_tuple := PySem.W.mg_none_of X G Z_tuple, m_zip := PySem.W.mg_none_of X G Z_zip }
  exact ⟨T.fd_law, fun s v => .of_eq rfl, fun base _ _ => ok_law T⟩
end M
open PySem PySem.W PyProof.Rows
set_option maxHeartbeats 0 in
theorem PySem.Challenge.cw_wayneedle_k94_refusals_made_holds : PySem.Challenge.rw_wayneedle_k94_refusals_made.Holds := by
  w_on; o_law; k_head; (case hw => w_witness2)
  k_fill
  refine L2.walk_of (l := PySem.Challenge.rw_wayneedle_k94_refusals_made) (n := 63) (k := 7) (x := "_law_script") (CX := fun _ => L2.CX0) (sp := fun w => M.spLaw _) rfl (by decide) rfl ⟨rfl, by decide, by decide⟩ (fun w h Y => PySem.W.kIn_of Y) ?F (fun _ _ a ns hl _ hS => ⟨a, ns, rfl, hS, hl, fun _ => rfl⟩) (fun _ _ _ _ _ h => h)
  case F =>
    intro w mg fa h KX G hmg
    refine' M.all_mk KX G hmg ?A_is_row ?L_is_row ?C_is_row ?K_is_row ?A_laid_out ?L_laid_out ?C_laid_out ?K_laid_out ?A_kept ?L_kept ?C_kept ?K_kept ?A_Lpool ?L_Lpool ?C_Lpool ?K_Lpool ?A_Ltake ?L_Ltake ?C_Ltake ?K_Ltake ?A_Lwhole ?L_Lwhole ?C_Lwhole ?K_Lwhole ?A_Lsame ?L_Lsame ?C_Lsame ?K_Lsame ?A_Lsorts ?L_Lsorts ?C_Lsorts ?K_Lsorts ?A_Lmade ?L_Lmade ?C_Lmade ?K_Lmade ?A_Lnamed ?L_Lnamed ?C_Lnamed ?K_Lnamed ?A_Lfields ?L_Lfields ?C_Lfields ?K_Lfields ?A_law ?L_law ?C_law ?K_law ?Z_abs ?Z_all ?Z_any ?Z_bool ?Z_int ?Z_isinstance ?Z_len ?Z_list ?Z_range ?Z_str ?Z_tuple ?Z_zip ?A_NoLot ?ty_NoLot ?kc_NoLot ?ga_NoLot ?gg_NoLot ?k_NoLot ?e_NoLot ?h_NoLot ?ca_NoLot ?cm_NoLot ?X_NoLot ?bm_ok_NoLot ?sa_NoLot ?I_NoLot ?t_init_NoLot ?L_init_NoLot ?C_init_NoLot ?K_init_NoLot ?no_NoLot_lot ?A_BadLog ?ty_BadLog ?kc_BadLog ?ga_BadLog ?gg_BadLog ?k_BadLog ?e_BadLog ?h_BadLog ?ca_BadLog ?cm_BadLog ?X_BadLog ?bm_ok_BadLog ?sa_BadLog ?I_BadLog ?t_init_BadLog ?L_init_BadLog ?C_init_BadLog ?K_init_BadLog ?no_BadLog_name ?no_BadLog_at ?A_NoDealing ?ty_NoDealing ?kc_NoDealing ?ga_NoDealing ?gg_NoDealing ?k_NoDealing ?e_NoDealing ?h_NoDealing ?ca_NoDealing ?cm_NoDealing ?X_NoDealing ?bm_ok_NoDealing ?sa_NoDealing ?I_NoDealing ?t_init_NoDealing ?L_init_NoDealing ?C_init_NoDealing ?K_init_NoDealing ?no_NoDealing_at ?A_BadBox ?ty_BadBox ?kc_BadBox ?ga_BadBox ?gg_BadBox ?k_BadBox ?e_BadBox ?h_BadBox ?ca_BadBox ?cm_BadBox ?X_BadBox ?bm_ok_BadBox ?sa_BadBox ?I_BadBox ?t_init_BadBox ?L_init_BadBox ?C_init_BadBox ?K_init_BadBox ?no_BadBox_at ?A_NoName ?ty_NoName ?kc_NoName ?ga_NoName ?gg_NoName ?k_NoName ?e_NoName ?h_NoName ?ca_NoName ?cm_NoName ?X_NoName ?bm_ok_NoName ?sa_NoName ?I_NoName ?t_init_NoName ?L_init_NoName ?C_init_NoName ?K_init_NoName ?no_NoName_name ?A_Twice ?ty_Twice ?kc_Twice ?ga_Twice ?gg_Twice ?k_Twice ?e_Twice ?h_Twice ?ca_Twice ?cm_Twice ?X_Twice ?bm_ok_Twice ?sa_Twice ?I_Twice ?t_init_Twice ?L_init_Twice ?C_init_Twice ?K_init_Twice ?no_Twice_name ?A_NoWalker ?ty_NoWalker ?kc_NoWalker ?ga_NoWalker ?gg_NoWalker ?k_NoWalker ?e_NoWalker ?h_NoWalker ?ca_NoWalker ?cm_NoWalker ?X_NoWalker ?bm_ok_NoWalker ?sa_NoWalker ?I_NoWalker ?t_init_NoWalker ?L_init_NoWalker ?C_init_NoWalker ?K_init_NoWalker ?no_NoWalker_name ?A_NoSign ?ty_NoSign ?kc_NoSign ?ga_NoSign ?gg_NoSign ?k_NoSign ?e_NoSign ?h_NoSign ?ca_NoSign ?cm_NoSign ?X_NoSign ?bm_ok_NoSign ?sa_NoSign ?I_NoSign ?t_init_NoSign ?L_init_NoSign ?C_init_NoSign ?K_init_NoSign ?no_NoSign_sign ?A_NoLeg ?ty_NoLeg ?kc_NoLeg ?ga_NoLeg ?gg_NoLeg ?k_NoLeg ?e_NoLeg ?h_NoLeg ?ca_NoLeg ?cm_NoLeg ?X_NoLeg ?bm_ok_NoLeg ?sa_NoLeg ?I_NoLeg ?t_init_NoLeg ?L_init_NoLeg ?C_init_NoLeg ?K_init_NoLeg ?no_NoLeg_name ?no_NoLeg_leg ?A_TooMany ?ty_TooMany ?kc_TooMany ?ga_TooMany ?gg_TooMany ?k_TooMany ?e_TooMany ?h_TooMany ?ca_TooMany ?cm_TooMany ?X_TooMany ?bm_ok_TooMany ?sa_TooMany ?I_TooMany ?t_init_TooMany ?L_init_TooMany ?C_init_TooMany ?K_init_TooMany ?no_TooMany_many ?A_NoWatch ?ty_NoWatch ?kc_NoWatch ?ga_NoWatch ?gg_NoWatch ?k_NoWatch ?e_NoWatch ?h_NoWatch ?ca_NoWatch ?cm_NoWatch ?X_NoWatch ?bm_ok_NoWatch ?sa_NoWatch ?I_NoWatch ?t_init_NoWatch ?L_init_NoWatch ?C_init_NoWatch ?K_init_NoWatch ?no_NoWatch_number ?A_NoText ?ty_NoText ?kc_NoText ?ga_NoText ?gg_NoText ?k_NoText ?e_NoText ?h_NoText ?ca_NoText ?cm_NoText ?X_NoText ?bm_ok_NoText ?sa_NoText ?I_NoText ?t_init_NoText ?L_init_NoText ?C_init_NoText ?K_init_NoText ?no_NoText_at ?A_NoLine ?ty_NoLine ?kc_NoLine ?ga_NoLine ?gg_NoLine ?k_NoLine ?e_NoLine ?h_NoLine ?ca_NoLine ?cm_NoLine ?X_NoLine ?bm_ok_NoLine ?sa_NoLine ?I_NoLine ?t_init_NoLine ?L_init_NoLine ?C_init_NoLine ?K_init_NoLine ?no_NoLine_line ?A_NoBook ?ty_NoBook ?kc_NoBook ?ga_NoBook ?gg_NoBook ?k_NoBook ?e_NoBook ?h_NoBook ?ca_NoBook ?cm_NoBook ?X_NoBook ?bm_ok_NoBook ?sa_NoBook ?I_NoBook ?t_init_NoBook ?L_init_NoBook ?C_init_NoBook ?K_init_NoBook ?no_NoBook_name ?A_NoFit ?ty_NoFit ?kc_NoFit ?ga_NoFit ?gg_NoFit ?k_NoFit ?e_NoFit ?h_NoFit ?ca_NoFit ?cm_NoFit ?xq_NoFit ?A_NoLink ?ty_NoLink ?kc_NoLink ?ga_NoLink ?gg_NoLink ?k_NoLink ?e_NoLink ?h_NoLink ?ca_NoLink ?cm_NoLink ?xq_NoLink ?A_NothingDone ?ty_NothingDone ?kc_NothingDone ?ga_NothingDone ?gg_NothingDone ?k_NothingDone ?e_NothingDone ?h_NothingDone ?ca_NothingDone ?cm_NothingDone ?xq_NothingDone ?A_NothingUndone ?ty_NothingUndone ?kc_NothingUndone ?ga_NothingUndone ?gg_NothingUndone ?k_NothingUndone ?e_NothingUndone ?h_NothingUndone ?ca_NothingUndone ?cm_NothingUndone ?xq_NothingUndone ?A_NeedleError ?ty_NeedleError ?kc_NeedleError ?cn_all ?ct_all ?Z_ValueError ?tb
    (case A_is_row => k_is); (case L_is_row => k_is); (case C_is_row => k_is); (case K_is_row => k_is); (case A_laid_out => k_is); (case L_laid_out => k_is); (case C_laid_out => k_is); (case K_laid_out => k_is); (case A_kept => k_is); (case L_kept => k_is); (case C_kept => k_is); (case K_kept => k_is); (case A_Lpool => k_is); (case L_Lpool => k_is); (case C_Lpool => k_is); (case K_Lpool => k_is); (case A_Ltake => k_is); (case L_Ltake => k_is); (case C_Ltake => k_is); (case K_Ltake => k_is); (case A_Lwhole => k_is); (case L_Lwhole => k_is); (case C_Lwhole => k_is); (case K_Lwhole => k_is); (case A_Lsame => k_is); (case L_Lsame => k_is); (case C_Lsame => k_is); (case K_Lsame => k_is); (case A_Lsorts => k_is); (case L_Lsorts => k_is); (case C_Lsorts => k_is); (case K_Lsorts => k_is); (case A_Lmade => k_is); (case L_Lmade => k_is); (case C_Lmade => k_is); (case K_Lmade => k_is); (case A_Lnamed => k_is); (case L_Lnamed => k_is); (case C_Lnamed => k_is); (case K_Lnamed => k_is); (case A_Lfields => k_is); (case L_Lfields => k_is); (case C_Lfields => k_is); (case K_Lfields => k_is); (case A_law => k_is); (case L_law => k_is); (case C_law => k_is); (case K_law => k_is); (case Z_abs => k_is); (case Z_all => k_is); (case Z_any => k_is); (case Z_bool => k_is); (case Z_int => k_is); (case Z_isinstance => k_is); (case Z_len => k_is); (case Z_list => k_is); (case Z_range => k_is); (case Z_str => k_is); (case Z_tuple => k_is); (case Z_zip => k_is); (case A_NoLot => k_is); (case ty_NoLot => k_is); (case kc_NoLot => k_is); (case ga_NoLot => k_is); (case gg_NoLot => k_is); (case k_NoLot => k_is); (case e_NoLot => k_is); (case h_NoLot => k_is); (case ca_NoLot => k_is); (case cm_NoLot => k_is); (case X_NoLot => k_is); (case bm_ok_NoLot => decide +kernel); (case sa_NoLot => k_is); (case I_NoLot => k_is); (case t_init_NoLot => k_is); (case L_init_NoLot => k_is); (case C_init_NoLot => k_is); (case K_init_NoLot => k_is); (case no_NoLot_lot => k_is); (case A_BadLog => k_is); (case ty_BadLog => k_is); (case kc_BadLog => k_is); (case ga_BadLog => k_is); (case gg_BadLog => k_is); (case k_BadLog => k_is); (case e_BadLog => k_is); (case h_BadLog => k_is); (case ca_BadLog => k_is); (case cm_BadLog => k_is); (case X_BadLog => k_is); (case bm_ok_BadLog => decide +kernel); (case sa_BadLog => k_is); (case I_BadLog => k_is); (case t_init_BadLog => k_is); (case L_init_BadLog => k_is); (case C_init_BadLog => k_is); (case K_init_BadLog => k_is); (case no_BadLog_name => k_is); (case no_BadLog_at => k_is); (case A_NoDealing => k_is); (case ty_NoDealing => k_is); (case kc_NoDealing => k_is); (case ga_NoDealing => k_is); (case gg_NoDealing => k_is); (case k_NoDealing => k_is); (case e_NoDealing => k_is); (case h_NoDealing => k_is); (case ca_NoDealing => k_is); (case cm_NoDealing => k_is); (case X_NoDealing => k_is); (case bm_ok_NoDealing => decide +kernel); (case sa_NoDealing => k_is); (case I_NoDealing => k_is); (case t_init_NoDealing => k_is); (case L_init_NoDealing => k_is); (case C_init_NoDealing => k_is); (case K_init_NoDealing => k_is); (case no_NoDealing_at => k_is); (case A_BadBox => k_is); (case ty_BadBox => k_is); (case kc_BadBox => k_is); (case ga_BadBox => k_is); (case gg_BadBox => k_is); (case k_BadBox => k_is); (case e_BadBox => k_is); (case h_BadBox => k_is); (case ca_BadBox => k_is); (case cm_BadBox => k_is); (case X_BadBox => k_is); (case bm_ok_BadBox => decide +kernel); (case sa_BadBox => k_is); (case I_BadBox => k_is); (case t_init_BadBox => k_is); (case L_init_BadBox => k_is); (case C_init_BadBox => k_is); (case K_init_BadBox => k_is); (case no_BadBox_at => k_is); (case A_NoName => k_is); (case ty_NoName => k_is); (case kc_NoName => k_is); (case ga_NoName => k_is); (case gg_NoName => k_is); (case k_NoName => k_is); (case e_NoName => k_is); (case h_NoName => k_is); (case ca_NoName => k_is); (case cm_NoName => k_is); (case X_NoName => k_is); (case bm_ok_NoName => decide +kernel); (case sa_NoName => k_is); (case I_NoName => k_is); (case t_init_NoName => k_is); (case L_init_NoName => k_is); (case C_init_NoName => k_is); (case K_init_NoName => k_is); (case no_NoName_name => k_is); (case A_Twice => k_is); (case ty_Twice => k_is); (case kc_Twice => k_is); (case ga_Twice => k_is); (case gg_Twice => k_is); (case k_Twice => k_is); (case e_Twice => k_is); (case h_Twice => k_is); (case ca_Twice => k_is); (case cm_Twice => k_is); (case X_Twice => k_is); (case bm_ok_Twice => decide +kernel); (case sa_Twice => k_is); (case I_Twice => k_is); (case t_init_Twice => k_is); (case L_init_Twice => k_is); (case C_init_Twice => k_is); (case K_init_Twice => k_is); (case no_Twice_name => k_is); (case A_NoWalker => k_is); (case ty_NoWalker => k_is); (case kc_NoWalker => k_is); (case ga_NoWalker => k_is); (case gg_NoWalker => k_is); (case k_NoWalker => k_is); (case e_NoWalker => k_is); (case h_NoWalker => k_is); (case ca_NoWalker => k_is); (case cm_NoWalker => k_is); (case X_NoWalker => k_is); (case bm_ok_NoWalker => decide +kernel); (case sa_NoWalker => k_is); (case I_NoWalker => k_is); (case t_init_NoWalker => k_is); (case L_init_NoWalker => k_is); (case C_init_NoWalker => k_is); (case K_init_NoWalker => k_is); (case no_NoWalker_name => k_is); (case A_NoSign => k_is); (case ty_NoSign => k_is); (case kc_NoSign => k_is); (case ga_NoSign => k_is); (case gg_NoSign => k_is); (case k_NoSign => k_is); (case e_NoSign => k_is); (case h_NoSign => k_is); (case ca_NoSign => k_is); (case cm_NoSign => k_is); (case X_NoSign => k_is); (case bm_ok_NoSign => decide +kernel); (case sa_NoSign => k_is); (case I_NoSign => k_is); (case t_init_NoSign => k_is); (case L_init_NoSign => k_is); (case C_init_NoSign => k_is); (case K_init_NoSign => k_is); (case no_NoSign_sign => k_is); (case A_NoLeg => k_is); (case ty_NoLeg => k_is); (case kc_NoLeg => k_is); (case ga_NoLeg => k_is); (case gg_NoLeg => k_is); (case k_NoLeg => k_is); (case e_NoLeg => k_is); (case h_NoLeg => k_is); (case ca_NoLeg => k_is); (case cm_NoLeg => k_is); (case X_NoLeg => k_is); (case bm_ok_NoLeg => decide +kernel); (case sa_NoLeg => k_is); (case I_NoLeg => k_is); (case t_init_NoLeg => k_is); (case L_init_NoLeg => k_is); (case C_init_NoLeg => k_is); (case K_init_NoLeg => k_is); (case no_NoLeg_name => k_is); (case no_NoLeg_leg => k_is); (case A_TooMany => k_is); (case ty_TooMany => k_is); (case kc_TooMany => k_is); (case ga_TooMany => k_is); (case gg_TooMany => k_is); (case k_TooMany => k_is); (case e_TooMany => k_is); (case h_TooMany => k_is); (case ca_TooMany => k_is); (case cm_TooMany => k_is); (case X_TooMany => k_is); (case bm_ok_TooMany => decide +kernel); (case sa_TooMany => k_is); (case I_TooMany => k_is); (case t_init_TooMany => k_is); (case L_init_TooMany => k_is); (case C_init_TooMany => k_is); (case K_init_TooMany => k_is); (case no_TooMany_many => k_is); (case A_NoWatch => k_is); (case ty_NoWatch => k_is); (case kc_NoWatch => k_is); (case ga_NoWatch => k_is); (case gg_NoWatch => k_is); (case k_NoWatch => k_is); (case e_NoWatch => k_is); (case h_NoWatch => k_is); (case ca_NoWatch => k_is); (case cm_NoWatch => k_is); (case X_NoWatch => k_is); (case bm_ok_NoWatch => decide +kernel); (case sa_NoWatch => k_is); (case I_NoWatch => k_is); (case t_init_NoWatch => k_is); (case L_init_NoWatch => k_is); (case C_init_NoWatch => k_is); (case K_init_NoWatch => k_is); (case no_NoWatch_number => k_is); (case A_NoText => k_is); (case ty_NoText => k_is); (case kc_NoText => k_is); (case ga_NoText => k_is); (case gg_NoText => k_is); (case k_NoText => k_is); (case e_NoText => k_is); (case h_NoText => k_is); (case ca_NoText => k_is); (case cm_NoText => k_is); (case X_NoText => k_is); (case bm_ok_NoText => decide +kernel); (case sa_NoText => k_is); (case I_NoText => k_is); (case t_init_NoText => k_is); (case L_init_NoText => k_is); (case C_init_NoText => k_is); (case K_init_NoText => k_is); (case no_NoText_at => k_is); (case A_NoLine => k_is); (case ty_NoLine => k_is); (case kc_NoLine => k_is); (case ga_NoLine => k_is); (case gg_NoLine => k_is); (case k_NoLine => k_is); (case e_NoLine => k_is); (case h_NoLine => k_is); (case ca_NoLine => k_is); (case cm_NoLine => k_is); (case X_NoLine => k_is); (case bm_ok_NoLine => decide +kernel); (case sa_NoLine => k_is); (case I_NoLine => k_is); (case t_init_NoLine => k_is); (case L_init_NoLine => k_is); (case C_init_NoLine => k_is); (case K_init_NoLine => k_is); (case no_NoLine_line => k_is); (case A_NoBook => k_is); (case ty_NoBook => k_is); (case kc_NoBook => k_is); (case ga_NoBook => k_is); (case gg_NoBook => k_is); (case k_NoBook => k_is); (case e_NoBook => k_is); (case h_NoBook => k_is); (case ca_NoBook => k_is); (case cm_NoBook => k_is); (case X_NoBook => k_is); (case bm_ok_NoBook => decide +kernel); (case sa_NoBook => k_is); (case I_NoBook => k_is); (case t_init_NoBook => k_is); (case L_init_NoBook => k_is); (case C_init_NoBook => k_is); (case K_init_NoBook => k_is); (case no_NoBook_name => k_is); (case A_NoFit => k_is); (case ty_NoFit => k_is); (case kc_NoFit => k_is); (case ga_NoFit => k_is); (case gg_NoFit => k_is); (case k_NoFit => k_is); (case e_NoFit => k_is); (case h_NoFit => k_is); (case ca_NoFit => k_is); (case cm_NoFit => k_is); (case xq_NoFit => k_exc); (case A_NoLink => k_is); (case ty_NoLink => k_is); (case kc_NoLink => k_is); (case ga_NoLink => k_is); (case gg_NoLink => k_is); (case k_NoLink => k_is); (case e_NoLink => k_is); (case h_NoLink => k_is); (case ca_NoLink => k_is); (case cm_NoLink => k_is); (case xq_NoLink => k_exc); (case A_NothingDone => k_is); (case ty_NothingDone => k_is); (case kc_NothingDone => k_is); (case ga_NothingDone => k_is); (case gg_NothingDone => k_is); (case k_NothingDone => k_is); (case e_NothingDone => k_is); (case h_NothingDone => k_is); (case ca_NothingDone => k_is); (case cm_NothingDone => k_is); (case xq_NothingDone => k_exc); (case A_NothingUndone => k_is); (case ty_NothingUndone => k_is); (case kc_NothingUndone => k_is); (case ga_NothingUndone => k_is); (case gg_NothingUndone => k_is); (case k_NothingUndone => k_is); (case e_NothingUndone => k_is); (case h_NothingUndone => k_is); (case ca_NothingUndone => k_is); (case cm_NothingUndone => k_is); (case xq_NothingUndone => k_exc); (case A_NeedleError => k_is); (case ty_NeedleError => k_is); (case kc_NeedleError => k_is); (case cn_all => k_is); (case ct_all => k_is); (case Z_ValueError => k_is); (case tb => decide +kernel)
