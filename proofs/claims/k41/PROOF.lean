import PyProof.Rows.All
import Wide.All
import OpenK.AllK
import Wide.FinOn
import HandS.ForMost
import HandS.Wide
import HandS.IsInst
import HandS.EndBits
import HandS.ExcInit
import HandS.ExcIs
import HandS.ExcField
import HandS.ExcValue
import PyProof.ExcBaseAll.OverflowError
import PyProof.ExcBaseAll.LookupError
import PyProof.ExcBaseAll.ValueError
import HandS.TupAny
import HandS.Walk
import HandS.TupMul
import PyProof.ReprRoads
import PySem.Challenge.RW_handlesagain_k41_errors_made
set_option Elab.async false
set_option maxRecDepth 100000
set_option maxHeartbeats 2000000
namespace PySem
namespace ExK
open PySem.W PySem.Calls PyProof.Rows PySem.HandSPX
open Builtin Builtin.ObjectAttr
/-! ### an own exception class called with keywords -/
section
variable {M : Model} {A : Around} {E : Value → Shared → Prop} {h : Heap} {g : Array GenState} {d : Drawn} {t : Nat} {os : OsState}
  {nm q : Str} {C N : Addr} {bs bm bmB : List Value} {hdct : Bool} {sn : List Str} {sub : List Value} {ab : Bool} {col : Option Bool} {dd : Option Addr}
  {k0 k1 k2 k3 k5 : Option Value} {B newId initId : String} {xs : List Value} {kw : List (Str × Value)}
/-- bm has the built-in classes of bmB, and no other -/
def SameB (bm bmB : List Value) : Prop := ∀ X : String, bm.contains (.type X) = bmB.contains (.type X)
/-- the class at C -/
def ClsAt (h : Heap) (nm q : Str) (C N : Addr) (bs bm : List Value) (hdct : Bool) (sn : List Str) (sub : List Value) (ab : Bool) (col : Option Bool) (dd : Option Addr) (k0 k1 k2 k3 k5 : Option Value) (newId : String) : Prop :=
  h.get? C = some (excClassObj nm q C N bs bm hdct sn sub ab col dd k0 k1 k2 k3 k5 newId)
theorem sub_of (hT : SameB bm bmB) (X : String) : (Value.ref C :: bm).contains (.type X) = bmB.contains (.type X) := by
  rw [List.contains_cons, hT X]
  rfl
theorem ck_new (F : ExcBaseFacts B newId initId bmB) (hT : SameB bm bmB) {Q : Unit → Shared → Prop} (hC : ClsAt h nm q C N bs bm hdct sn sub ab col dd k0 k1 k2 k3 k5 newId)
    (hq : Q () ⟨h, g, d, t, os⟩) : wpAny M A (checkBuiltinCall newId ⟨.ref C :: xs, kw⟩) Q E ⟨h, g, d, t, os⟩ := by
  have e1 : (Value.ref C :: bm).contains (.type B) = true := (sub_of hT B).trans F.hasB
  have z9 := F.noStar
  unfold ClsAt at hC
  simp only [checkBuiltinCall, F.newKind, F.newSplit, F.newRow]
  repeat (first
    | refine wpAny_loadPart_at hC ?_
    | (refine wpAny_isSubtype_exc hC ?_
       rw [e1])
    | refine wpAny_staticBase_exc hC ?_
    | refine wpAny_madeBy_exc hC ?_
    | simp only [bne_self_eq_false, Bool.false_eq_true, if_false]
    | wp_step)
  exact hq
end
section
variable {prog : Program} {w : World} {A : Around} {E : Value → Shared → Prop} {R : Result → Shared → Prop} {h : Heap} {g : Array GenState} {d : Drawn} {t : Nat} {os : OsState}
  {nm q : Str} {C N : Addr} {bs bm bmB : List Value} {hdct : Bool} {sn : List Str} {sub : List Value} {ab : Bool} {col : Option Bool} {dd : Option Addr}
  {k0 k1 k2 k3 k5 : Option Value} {B newId initId : String} {xs : List Value} {kw : List (Str × Value)}
theorem nw_kw (F : ExcBaseFacts B newId initId bmB) (hT : SameB bm bmB) (hC : ClsAt h nm q C N bs bm hdct sn sub ab col dd k0 k1 k2 k3 k5 newId)
    (hq : R (.ok (.ret (.ref (h.objs.size + 1)))) ⟨(h.push (W.kdv_tup xs)).push (excO C h.objs.size), g, d, t, os⟩) (hl : xs.length ≤ sizeLine) :
    codeAny (model prog w) A (.builtin newId ⟨.ref C :: xs, kw⟩) R ⟨h, g, d, t, os⟩ := by
  have z0 := F.ends
  have z1 : (Value.ref C :: bm).contains (.type B) = true := (sub_of hT B).trans F.hasB
  have z2 : (Value.ref C :: bm).contains (.type "AttributeError") = false := (sub_of hT _).trans F.noAttr
  have z3 : (Value.ref C :: bm).contains (.type "NameError") = false := (sub_of hT _).trans F.noName
  unfold ClsAt at hC
  apply codeAny_builtinAt F.entry
  unfold Builtin.«BaseException.__new__»
  apply wpAt_bind
  show wpAt _ _ _ (stack >>= _) _ _ _
  refine wpAt_bind (wpAt_stack fun p below => wpAt_of_wpAny ?_)
  wp_walk
  apply wpAt_of_wpAny
  rw [F.owner]
  repeat (first
    | with_reducible refine wpAny_madeHere_exc F.canon hC ?_
    | with_reducible refine wpAny_loadPart_at hC ?_
    | (with_reducible refine wpAny_isSubtype_exc hC ?_
       first | rw [z1] | rw [z2] | rw [z3])
    | wp_step)
  show R _ _
  rw [Heap.size_push]
  exact hq
theorem ck_call {M : Model} {Q : Unit → Shared → Prop} (hC : ClsAt h nm q C N bs bm hdct sn sub ab col dd k0 k1 k2 k3 k5 newId) (hq : Q () ⟨h, g, d, t, os⟩) :
    wpAny M A (checkBuiltinCall "type.__call__" ⟨.ref C :: xs, kw⟩) Q E ⟨h, g, d, t, os⟩ := by
  have z0 := tc_sub
  unfold ClsAt at hC
  have z1 : (⟨h, g, d, t, os⟩ : Shared).TypeIs (.ref C) "type" := ⟨_, hC, rfl⟩
  simp only [checkBuiltinCall, tc_kind, tc_split]
  repeat (any_goals (first
    | assumption
    | with_reducible refine wpAny_loadPart_at hC ?_
    | with_reducible refine wpAny_onRaise ?_
    | with_reducible refine wpAny_map ?_
    | wp_step))
/-- what __init__ hands back is None -/
def BackI (a : Addr) (E : Value → Shared → Prop) (Q : Fin → Shared → Prop) : Result → Shared → Prop := fun r s' => match r with
  | .ok (.ret v) => v = .none ∧ Q (.done (.ret (.ref a))) s'
  | .ok _ => False
  | .error e => E e s'
theorem tc_kw {fI : Addr} {Q : Fin → Shared → Prop} (F : ExcBaseFacts B newId initId bmB) (hT : SameB bm bmB) (hC : ClsAt h nm q C N bs bm hdct sn sub ab col dd k0 k1 k2 k3 k5 newId)
    (hi : W.Looks (model prog w) h (typeLookup (.ref C) "__init__") (some (.ref fI))) (hb : ∀ v, W.Looks (model prog w) h (bindSpecial (.ref fI) v) (.ref fI, [v])) (hl : xs.length ≤ sizeLine)
    (hq : codeAny (model prog w) A (.call (.ref fI) ⟨.ref (h.objs.size + 1) :: xs, kw⟩) (BackI (h.objs.size + 1) E Q) ⟨(h.push (W.kdv_tup xs)).push (excO C h.objs.size), g, d, t, os⟩) :
    wpAny (model prog w) A (Builtin.«type.__call__» ⟨.ref C :: xs, kw⟩) Q E ⟨h, g, d, t, os⟩ := by
  have hC0 := hC
  unfold ClsAt at hC
  repeat (first
    | with_reducible refine wpAny_loadPart_at hC ?_
    | with_reducible refine wpAny_madeBy_exc hC ?_
    | wp_step)
  apply codeAny_call_builtin_code (Code.quiet_builtin _ F.quiet) (ck_new F hT hC0 _)
  refine nw_kw F hT hC0 ?_ hl
  show wpAny _ _ _ _ _ _
  have kp : ∀ b o, h.get? b = some o → ((h.push (W.kdv_tup xs)).push (excO C h.objs.size)).get? b = some o := fun b o e =>
    Heap.get?_push_of_some _ (Heap.get?_push_of_some _ e)
  have y1 := kp _ _ hC
  have y2 : ((h.push (W.kdv_tup xs)).push (excO C h.objs.size)).get? (h.objs.size + 1) = some (excO C h.objs.size) := by
    heap_get
  have y3 : (Value.ref C :: bm).contains (.ref C) = true := by
    simp
  have y4 := hi.keeps kp
  have y5 := (hb (.ref (h.objs.size + 1))).keeps kp
  unfold isInstance
  repeat (first
    | with_reducible refine wpAny_loadPart_at y2 ?_
    | (with_reducible refine wpAny_isSubtype_exc y1 ?_
       rw [y3])
    | wp_step)
  show wpAny _ _ (typeLookup (.ref C) _) _ _ _
  refine y4.at ?_
  refine wpAny_holding (wpAny_bind (y5.at ?_))
  refine wpAny_bind (wpAny_call (codeAny_mono hq fun r s' z => ?_))
  cases r with
  | error e => exact z
  | ok fl =>
    cases fl with
    | ret v =>
      obtain ⟨rfl, z⟩ := z
      first
        | exact wpAny_pure (wpAny_pure z)
        | (wp_walk
           exact z)
    | next => exact z.elim
    | brk => exact z.elim
    | cont => exact z.elim
theorem own_kw {fI : Addr} (F : ExcBaseFacts B newId initId bmB) (hT : SameB bm bmB) (hC : ClsAt h nm q C N bs bm hdct sn sub ab col dd k0 k1 k2 k3 k5 newId)
    (hi : W.Looks (model prog w) h (typeLookup (.ref C) "__init__") (some (.ref fI))) (hb : ∀ v, W.Looks (model prog w) h (bindSpecial (.ref fI) v) (.ref fI, [v])) (hl : xs.length ≤ sizeLine)
    (hq : codeAny (model prog w) (A.under (.builtin "type.__call__" ⟨.ref C :: xs, kw⟩)) (.call (.ref fI) ⟨.ref (h.objs.size + 1) :: xs, kw⟩) (W.InitBack (h.objs.size + 1) R)
      ⟨(h.push (W.kdv_tup xs)).push (excO C h.objs.size), g, d, t, os⟩) :
    codeAny (model prog w) A (.call (.ref C) ⟨xs, kw⟩) R ⟨h, g, d, t, os⟩ := by
  have x1 := tc_lookup
  have x2 := tc_bind (.ref C)
  have hC0 := hC
  unfold ClsAt at hC
  have x3 : (⟨h, g, d, t, os⟩ : Shared).TypeIs (.ref C) "type" := ⟨_, hC, rfl⟩
  apply codeAny_of_tree
  show wpAny _ _ (callAny (.ref C) _) _ _ _
  repeat (any_goals (first
    | assumption
    | with_reducible refine wpAny_loadPart_at hC ?_
    | wp_step))
  refine ⟨rfl, ?_⟩
  refine codeAny_call_builtin_at (Code.quiet_builtin _ (by decide +kernel)) entry_typeCall (ck_call hC0 (tc_kw F hT hC0 hi hb hl ?_))
  refine codeAny_mono hq fun r s' z => ?_
  rcases r with e | (v | _ | _ | _) <;> exact z
end
/-! ### self.f = v on such an exception -/
def MroOk (l : List Value) : Prop := (∀ v, refuseLoop v "__setattr__" l = pure ()) ∧ l.isEmpty = false ∧ l.contains (.type "object") = true
section
variable {prog : Program} {w : World} {A : Around} {E : Value → Shared → Prop} {R : Result → Shared → Prop} {hp : Heap} {g : Array GenState} {d : Drawn} {t : Nat} {os : OsState}
theorem st_gen {K : W.Frag} {f : Str} {tk : Tok} {v : Value} {x C : Addr} {fv : Array Value} {cd : ClassData} (X : K.In hp) (hx : hp.get? x = some { cls := .ref C, data := .fields fv })
    (hcd : W.clsIn K C = some cd) (hm : MroOk cd.mro) (hh : cd.hasDict = true) (ha : W.findIn K (.ref C) f = some none)
    (hq : ∀ h' tk' dx, (∀ b o, b ≠ x → hp.get? b = some o → h'.get? b = some o) → hp.objs.size ≤ dx → dx ≠ x → h'.get? x = some { cls := .ref C, dict := some dx, data := .fields fv } →
      h'.Ns1 dx (fun y => if y = f then some v else none) → R (.ok (.ret .none)) ⟨h', g, d, tk', os⟩) :
    codeAny (model prog w) A (.call (.builtin "object.__setattr__") ⟨[.ref x, .str f tk, v], []⟩) R ⟨hp, g, d, t, os⟩ := by
  obtain ⟨m1, m2, m3⟩ := hm
  have J : W.InstAt hp x { cls := .ref C, data := .fields fv } C none := ⟨hx, rfl, rfl, trivial⟩
  have S := F.store_object
  have nx : x ≠ hp.objs.size := Nat.ne_of_lt (Heap.lt_size hx)
  have e0 : W.mroIn K C (.type "object") = some true := by
    unfold W.mroIn
    rw [hcd, Option.bind_some, if_neg (by rw [m2]; decide), m3]
  have e1 : W.Looks (model prog w) hp (isInstance (.ref x) (.type "object")) true :=
    J.type.andThen (W.looks_mroIn X e0)
  have e2 : W.Looks (model prog w) hp (mroOf (.ref C)) cd.mro := (W.looks_clsIn X hcd).andThen .now
  have e3 : W.Looks (model prog w) hp (storeTaker? none) none := .now
  have e4 : W.Looks (model prog w) hp (classData C) cd := W.looks_clsIn X hcd
  refine codeAny_call_builtin S.slot.plain S.entry ?_
  refine @W.check_slot (model prog w) _ _ ⟨hp, g, d, t, os⟩ "object.__setattr__" "object" "__setattr__" (.ref x) [.str f tk, v] [] _ S.kind S.split e1 (S.args (.ref x) (.str f tk) v) ?_
  rw [W.osa_eq, refuse_eq]
  refine wpAny_bind (wpAny_bind (J.type.at (wpAny_bind (e2.at ?_))))
  rw [m1]
  refine wpAny_pure (wpAny_bind (J.type.at (wpAny_bind ?_)))
  refine (W.looks_findIn X ha).at (wpAny_bind (e3.at ?_))
  show wpAny _ _ (storeInOwnDict (.ref x) (.ref C) (.str f tk) f v false) _ _ _
  obtain ⟨nm, bs, mro, ns, qn, hd, sn, sb, ab, col, del⟩ := cd
  dsimp only at hh
  subst hh
  unfold storeInOwnDict ownDictForStores
  repeat (first
    | with_reducible refine store_in_new ?_ ?_
    | with_reducible refine wpAny_loadPart_at hx ?_
    | with_reducible refine e4.at ?_
    | wp_step)
  · have y : (hp.push { cls := .type "dict", data := .dict #[] }).get? hp.objs.size = _ := Heap.get?_push_at rfl rfl
    exact ⟨_, #[], _, (Heap.get?_update_ne _ _ _ _ nx.symm).trans y, rfl, fun e he => absurd he (by simp), fun _ => rfl⟩
  · intro h' tk' hn' hs
    have y : (hp.push { cls := .type "dict", data := .dict #[] }).get? x = some { cls := .ref C, data := .fields fv } :=
      Heap.get?_push_of_some _ hx
    refine hq h' tk' hp.objs.size (fun b o hb ho => ?_) (Nat.le_refl _) nx.symm ?_ hn'
    · have z := Heap.get?_push_of_some { cls := .type "dict", data := .dict #[] } ho
      exact (hs.2 b (Nat.ne_of_lt (Heap.lt_size ho))).trans ((Heap.get?_update_ne _ _ _ _ hb).trans z)
    · exact (hs.2 x nx).trans (Heap.get?_update_self _ y rfl)
end
end ExK
namespace W
open PySem PySem.Spec PySem.Calls PyProof.Rows
section
variable {prog : Program} {w : World} {A : Around} {E : Value → Shared → Prop} {s : Shared} {K : Frag} {x D : Addr} {ox : Obj} {od : Option Obj}
/-- x.__class__, x an exception, with a dict or without -/
theorem exk_class {Q : Option Value → Shared → Prop} (ga : findIn K (.ref D) "__getattribute__" = some (some (.builtin "BaseException.__getattribute__")))
    (gg : findIn K (.ref D) "__getattr__" = some none) (sb : subIn K (.ref D) (.type "BaseException") = some true) (hf : findObj K D od "__class__" = some (.bind (.builtin "getset_descriptor.__get__") (.builtin "object.__class__")))
    (hm : mroIn K D (.type "object") = some true) (X : K.In s.heap) (I : InstAt s.heap x ox D od) (h : Q (some (.ref D)) { s with toks := s.toks + 1 }) :
    wpAny (model prog w) A (getAttr? (.ref x) "__class__") Q E s := by
  obtain ⟨hp, g, d, t, os⟩ := s
  have l0 := I.type (M := model prog w)
  have l1 := looks_findIn (M := model prog w) X ga
  have l2 := looks_findIn (M := model prog w) X gg
  have l3 := looks_find (M := model prog w) X I hf
  have l4 : Looks (model prog w) hp (isInstance (.ref x) (.type "BaseException")) true :=
    l0.andThen (looks_subIn X sb)
  have b0 : (false && onTheHeap (Value.builtin "BaseException.__getattribute__")) = false := rfl
  have b1 : (onTheHeap (Value.ref D) && Value.builtin "BaseException.__getattribute__" == Value.builtin "object.__getattribute__") = false := by
    rw [show (Value.builtin "BaseException.__getattribute__" == Value.builtin "object.__getattribute__") = false by decide +kernel]
    rfl
  unfold getAttr? getAttrBy? getAttrBy
  refine wpAny_bind (wpAny_mkText (wpAny_bind (wpAny_attempt ?_)))
  refine wpAny_holding (wpAny_bind (l0.at (wpAny_bind (l1.at ?_))))
  show wpAny _ _ (if (onTheHeap (Value.ref D) && Value.builtin "BaseException.__getattribute__" == Value.builtin "object.__getattribute__") = true
    then _ else _) _ _ _
  rw [b1, if_neg Bool.false_ne_true]
  unfold getAttrByItsOwn hookBefore
  apply wpAny_bind
  rw [if_pos (show onTheHeap (Value.ref D) = true from rfl)]
  apply l2.at
  apply wpAny_bind
  refine wpAny_attempt (wpAny_holding ?_)
  unfold callGetattribute
  rw [b0, if_neg Bool.false_ne_true]
  unfold boundAndCalled
  rw [PySem.F.excAttr_ValueError.ga.bind (.ref x)]
  refine wpAny_bind (wpAny_pure ?_)
  show wpAny _ _ (call (.builtin "BaseException.__getattribute__")
    [.ref x, .str "__class__" t]) _ _ _
  apply wpAny_call
  apply codeAny_call_builtin PySem.F.excAttr_ValueError.ga.plain PySem.F.entry_bexc_ga
  refine @check_slot (model prog w) _ _ ⟨hp, g, d, t + 1, os⟩ "BaseException.__getattribute__" "BaseException" "__getattribute__" (.ref x)
    [.str "__class__" t] [] _ (by decide +kernel) (by decide +kernel) l4 (PySem.F.args_bexc_ga (.ref x) (.str "__class__" t)) ?_
  unfold Builtin.«object.__getattribute__»
  refine wpAny_bind (wpAny_of_eq (a := ((Value.ref x : Value), [Value.str "__class__" t])) (by
    first
      | rfl
      | (simp only [slotArgs]
         rfl)) ?_)
  refine wpAny_bind (wpAny_pure (wpAny_bind (l0.at ?_)))
  refine wpAny_bind (l3.at ?_)
  show wpAny _ _ (holding [Value.builtin "object.__class__"]
    (call (.builtin "getset_descriptor.__get__") [.builtin "object.__class__", .ref x, .ref D]) >>= ret) _ _ _
  refine wpAny_bind (wpAny_holding (wpAny_call ?_))
  refine class_get (s := ⟨hp, g, d, t + 1, os⟩) (ox := ox) (od := od) X I hm ?_
  apply wpAny_pure
  show wpAny _ _ (handedOut (.ref D)) _ _ _
  rw [handedOut_of (v := .ref D) rfl]
  first
    | exact wpAny_pure (wpAny_pure h)
    | exact wpAny_pure h
    | exact wpAny_pure (wpAny_bind (wpAny_pure (wpAny_pure h)))
theorem exk_kit (ga : findIn K (.ref D) "__getattribute__" = some (some (.builtin "BaseException.__getattribute__"))) (gg : findIn K (.ref D) "__getattr__" = some none)
    (sb : subIn K (.ref D) (.type "BaseException") = some true) (hd : hasDictIn K D = true) (hf : findObj K D od "__class__" = some (.bind (.builtin "getset_descriptor.__get__") (.builtin "object.__class__")))
    (hm : mroIn K D (.type "object") = some true) : KitX K (.ref x) (.ref D) (fun h => InstAt h x ox D od) := by
  have there : ∀ h : Heap, K.In h → ∃ o : Obj, h.get? D = some o ∧ (∀ its n, o.data ≠ .seq its n) ∧ ∃ cd, o.data = .cls cd := fun h X => by
    obtain ⟨cd, hc, _⟩ := any_some hd
    unfold clsIn at hc
    split at hc
    · rename_i ho
      exact ⟨_, X _ _ ho, fun _ _ z => (nomatch z), _, rfl⟩
    · cases hc
  refine ⟨fun _ _ _ I => I.type, fun M h X _ => ?_, fun h tp dd its n sl X htp => ?_, fun X I k => exk_class ga gg sb hf hm X I k⟩
  · obtain ⟨o, ho, _, cd, hcd⟩ := there h X
    obtain ⟨oc, odd, oda, osl⟩ := o
    dsimp only at hcd
    subst hcd
    intro A' Q' E' s' k q
    unfold isType loadHead
    exact wpAny_bind (wpAny_loadPart (k _ _ ho) (wpAny_pure q))
  · refine Bool.eq_false_iff.mpr fun q => ?_
    obtain rfl : D = tp := Value.ref.inj (beq_iff_eq.mp q)
    obtain ⟨o, ho, hn, _⟩ := there h X
    rw [ho] at htp
    cases htp
    exact hn _ _ rfl
end
end W
end PySem
namespace L2
open PySem PySem.Spec PyProof.Rows PySem.ExK
/-- what the written part says of an own exception class at C, of whatever base -/
structure ExvC (K : PySem.W.Frag) (C : Addr) : Prop where
  cls : ∃ nm q N bs bm sn sub ab col dd k0 k1 k2 k3 k5 B newId initId bmB, K.lookup C = some (excClassObj nm q C N bs bm true sn sub ab col dd k0 k1 k2 k3 k5 newId) ∧
    ExcBaseFacts B newId initId bmB ∧ SameB bm bmB ∧ MroOk (.ref C :: bm)
  sa : PySem.W.findIn K (.ref C) "__setattr__" = some (some (.builtin "object.__setattr__"))
  kC : PySem.W.keepIn K (.ref C) = true
section
variable {X : Cx} {pins : List (Addr × Obj)} {σ : St} {H : Hp} {s : Shared} {a C dx : Addr} {f : Str} {y : V} {u : Value}
theorem st_ex (T : ExvC X.K C) (I : Inv X pins σ H s) (e : H a = some (exo a C none)) (hno : PySem.W.findIn X.K (.ref C) f = some none) (ry : RelV y u) {A : Around} {Q : Unit → Shared → Prop} {E : Value → Shared → Prop}
    (h : ∀ dx s', H dx = none → dx ≠ a → Inv X pins σ (upd (upd H dx (exd dx [(f, y)])) a (exo a C (some dx))) s' → Q () s') : wpAny (model X.prog X.w) A (setAttr (.ref a) f u) Q E s := by
  obtain ⟨nm, q, N, bs, bm, sn, sub, ab, col, dd, k0, k1, k2, k3, k5, B, newId, initId, bmB, hC, FB, hS, hM⟩ := T.cls
  obtain ⟨cd, hcd, c1, c2⟩ : ∃ cd : ClassData, PySem.W.clsIn X.K C = some cd ∧ cd.mro = .ref C :: bm ∧ cd.hasDict = true := by
    unfold PySem.W.clsIn
    rw [hC]
    exact ⟨_, rfl, rfl, rfl⟩
  obtain ⟨t1, ho⟩ := exo_at I.hok e
  obtain ⟨hp, g, d, t, os⟩ := s
  have J : PySem.W.InstAt hp a ({ cls := .ref C, dict := none, data := .fields #[.ref t1, .none, .none, .none, .bool false, .none] } : Obj) C none := ⟨ho, rfl, rfl, trivial⟩
  refine PySem.W.set_plain I.kIn J T.sa (st_gen I.kIn ho hcd (by rw [c1]; exact hM) c2 hno fun h' tk' dx k dn dne hx hn => ?_)
  have hnd : H dx = none := I.hok.fresh dn
  have n1 : ∀ {b : Addr} {o : Obj}, hp.get? b = some o → b ≠ dx := fun {b o} q =>
    Nat.ne_of_lt (Nat.lt_of_lt_of_le (Heap.lt_size q) dn)
  have n2 : ∀ {b : Addr}, H b = none → b ≠ a := fun {b} n z => by
    rw [z, e] at n
    cases n
  have stay : ∀ {b : Addr} {o : HO}, H b = some o → exo a C none ≠ o → (upd (upd H dx (exd dx [(f, y)])) a (exo a C (some dx))) b = some o := fun {b o} q n => by
    rw [upd_ne (at_ne e q n), upd_ne (ne_of_none q hnd)]
    exact q
  have U : Un X.fs [] H (upd (upd H dx (exd dx [(f, y)])) a (exo a C (some dx))) hp h' := {
    keep := fun b o q n _ _ => k b o (n2 n) q
    slot := fun b o q n _ _ => ⟨o.slots, k b o (n2 n) q⟩
    free := fun b o q n _ => by
      rw [upd_ne (n2 n), upd_ne (n1 q)]
      exact n
    there := fun b o q _ => by
      by_cases hb : b = a
      · subst hb
        exact ⟨_, hx⟩
      · exact ⟨o, k b o hb q⟩
    tups := fun b xs q => stay q exo_tup
    frzs := fun b o v q => stay q exo_frz
    tbls := fun b ps q => ⟨#[], by rw [stay q exo_tbl]; simp⟩ }
  refine h dx _ hnd dne (I.un (t' := tk') U fun b o q => ?_)
  by_cases hb : b = a
  · subst hb
    rw [upd_same] at q
    cases q
    exact exo_ok hx
  rw [upd_ne hb] at q
  by_cases hd : b = dx
  · subst hd
    rw [upd_same] at q
    cases q
    exact exd_ok hn (relO_put (fs := []) ry fun g => True.intro)
  rw [upd_ne hd] at q
  refine (I.hok b o q).stay (fun c v hc z => k c v (fun e2 => ?_) z) (fun c hc => stay hc exo_own) (fun c xs hc => stay hc exo_tup)
  rcases hc with hc | hc
  · exact hb (hc.symm.trans e2)
  · exact at_ne e hc exo_own e2
/-- self.f = e, self an exception that has no field yet -/
def tStx (K : PySem.W.Frag) (f : Str) (to te : TE) : TS := fun D σ H => te σ H fun y H1 => to σ H1 fun x H2 => ∃ a C : Addr, x = .ref a ∧ ExvC K C ∧ PySem.W.findIn K (.ref C) f = some none ∧
  H2 a = some (exo a C none) ∧ ∀ dx, H2 dx = none → dx ≠ a → D.nx σ (upd (upd H2 dx (exd dx [(f, y)])) a (exo a C (some dx)))
end
section
variable {X : Cx} {o e : Expr} {es : List Expr} {to te : TE} {ta tk : TA} {f : Str} {p p' pos : Pos}
theorem ps_stx (ho : PE X o to) (he : PE X e te) (hs : swapsWith e (some (.Attribute o f p')) pos.line X.env = pure false := by rfl) :
    PS X (.Assign [.Attribute o f p'] e pos) (tStx X.K f to te) := by
  constructor
  intro pins s σ H D I h
  refine plainObj_wpAny_Assign_Attribute (thn (he.run pins s σ H _ I h) fun v s1 ⟨y, H1, I1, r1, q1⟩ => ?_) hs
  refine thn (ho.run pins s1 σ H1 _ I1 q1) fun u s2 ⟨x, H2, I2, r2, a, C, ex, T, hno, ea, q⟩ => ?_
  subst ex
  obtain rfl : u = Value.ref a := r2
  exact st_ex T I2 ea hno r1 fun dx s' n ne J => ⟨σ, _, J, q dx n ne⟩
/-- the making: us, the positional values; kw, the keywords; ws, what the parameters get -/
theorem run_ex {pins : List (Addr × Obj)} {σ : St} {H1 : Hp} {s1 : Shared} {Q : VK} {C fI : Addr} {k : Nat} {fd : FuncData} {ps : List Str} {sp : Sp} {CX : CXT} (T : ExvC X.K C) (iC : PySem.W.findIn X.K (.ref C) "__init__" = some (some (.ref fI)))
    (tI : PySem.W.typeIn X.K (.ref fI) = some (.type "function")) (F1 : FnOk X.prog X.w X.K X.mg X.base CX k fI fd ps sp) (hr : Room (k + 1) X.A) (hx : Passes CX X (fun _ _ _ => False)) (I1 : Inv X pins σ H1 s1)
    {us ws : List Value} {vs : List V} {kw : List (Str × Value)} (hl : us.length ≤ 1000) (rv : Vals vs ws) (hb : ∀ (s : Shared) (r : Value), BindsTo s fd ⟨r :: us, kw⟩ (ps.zip (r :: ws)))
    (h : ∀ a, H1 a = none → sp (.ref a :: vs) (upd H1 a (exo a C none)) (fun v H2 => v = .non ∧ Q (.ref a) H2) (fun _ _ _ => False)) :
    wpAny (model X.prog X.w) X.A (call (.ref C) us kw) (EP X pins σ Q) X.xe s1 := by
  obtain ⟨nm, q, N, bs, bm, sn, sub, ab, col, dd, k0, k1, k2, k3, k5, B, newId, initId, bmB, hC, FB, hS, hM⟩ := T.cls
  obtain ⟨hp, g, dr, tk, os⟩ := s1
  have z1 : hp.objs.size ≤ hp.objs.size + 1 := Nat.le_succ _
  have hq := h (hp.objs.size + 1) (I1.hok.fresh z1)
  have kk : ∀ b o, hp.get? b = some o → ((hp.push (PySem.W.kdv_tup us)).push (PySem.HandSPX.excO C hp.objs.size)).get? b = some o := fun b o e =>
    Heap.get?_push_of_some _ (Heap.get?_push_of_some _ e)
  have z2 : ((hp.push (PySem.W.kdv_tup us)).push (PySem.HandSPX.excO C hp.objs.size)).get? (hp.objs.size + 1) = some (PySem.HandSPX.excO C hp.objs.size) := by
    heap_get
  have I2 : Inv X pins σ (upd H1 (hp.objs.size + 1) (exo (hp.objs.size + 1) C none)) ⟨(hp.push (PySem.W.kdv_tup us)).push (PySem.HandSPX.excO C hp.objs.size), g, dr, tk, os⟩ :=
    I1.laid (t' := tk) (a := hp.objs.size + 1) (o := exo (hp.objs.size + 1) C none) kk z1 (exo_ok z2)
  have r2 : Vals (V.ref (hp.objs.size + 1) :: vs) (Value.ref (hp.objs.size + 1) :: ws) := .cons rfl rv
  have hus : us.length ≤ sizeLine := Nat.le_trans hl (by decide)
  have run := F1.run _ X.stack _ _ ⟨Value.ref (hp.objs.size + 1) :: us, kw⟩ (Value.ref (hp.objs.size + 1) :: ws) _ _ (fun _ _ _ => False) (hr.make C us kw) (I2.env0.make C us kw) (hb _ _) r2 hq
  refine wpAny_call (own_kw FB hS (I1.kIn _ _ hC) (PySem.W.looks_findIn I1.kIn iC) (fun v => PySem.W.bind_fn I1.kIn v tI) hus (codeAny_mono run fun r s' hq' => ?_))
  cases r with
  | error er => exact hx pins σ _ _ er s' I2 hq'
  | ok fl =>
    cases fl with
    | ret u =>
      obtain ⟨v, H', I3, rv, ev, q3⟩ := I2.after hq'
      subst ev
      exact ⟨rv, ⟨V.ref (hp.objs.size + 1), H', I3, rfl, q3⟩⟩
    | next => exact False.elim hq'
    | brk => exact False.elim hq'
    | cont => exact False.elim hq'
/-- C(e, ..) | C(k = e, ..): an own exception with its own __init__, as a value -/
def tExv (C : Addr) (sp : Sp) (ta : TA) : TE := fun σ H Q => ta σ H fun vs H1 => vs.length = 1 ∧ ∀ a, H1 a = none → sp (.ref a :: vs) (upd H1 a (exo a C none)) (fun v H2 => v = .non ∧ Q (.ref a) H2) (fun _ _ _ => False)
variable {CX : CXT} {x : Str} {C fI : Addr} {k : Nat} {fd : FuncData} {ps : List Str} {sp : Sp}
theorem pe_exv (T : ExvC X.K C) (iC : PySem.W.findIn X.K (.ref C) "__init__" = some (some (.ref fI))) (tI : PySem.W.typeIn X.K (.ref fI) = some (.type "function")) (F1 : FnOk X.prog X.w X.K X.mg X.base CX k fI fd ps sp)
    (hr : Room (k + 1) X.A) (hb : ∀ (s : Shared) (r u : Value), BindsTo s fd ⟨[r, u], []⟩ (ps.zip [r, u])) (hx : Passes CX X (fun _ _ _ => False)) (hg : Gl X x) (hm : X.mg x = some (.ref C)) (ha : PA X [e] ta)
    (hdb : (x == ("__debug__" : Str)) = false := by decide) (he : starEach [e] X.env = (false, eval e X.env) :: starEach [] X.env := by rfl) (hpl : (backTo pos (starEach [] X.env)).any (·.1) = false := by rfl) :
    PE X (.Call (.Name x p) [e] [] pos) (tExv C sp ta) := by
  constructor
  intro pins s σ H Q I h
  refine wpAny_Call_Name_kw (ld_glob I hg hm ?_ hdb)
  refine PySem.W.callWith_K (h₀ := X.base) I.ok.mod.kin T.kC (thn (ha.run pos pins s σ H _ I h) fun us s1 ⟨vs, H1, I1, r1, hz, q1⟩ => ⟨I1.kIn, ?_⟩) he hpl
  match vs, hz, r1 with
  | [v], _, r1 =>
    obtain ⟨u, rfl, ru⟩ := vals1 r1
    exact run_ex (us := [u]) T iC tI F1 hr hx I1 (show 1 ≤ 1000 by decide) r1 (fun s r => hb s r u) q1
theorem pe_exvK {kws : List Keyword} {kn : Str} (T : ExvC X.K C) (iC : PySem.W.findIn X.K (.ref C) "__init__" = some (some (.ref fI))) (tI : PySem.W.typeIn X.K (.ref fI) = some (.type "function")) (F1 : FnOk X.prog X.w X.K X.mg X.base CX k fI fd ps sp)
    (hr : Room (k + 1) X.A) (hb : ∀ (s : Shared) (r u : Value), BindsTo s fd ⟨[r], [(kn, u)]⟩ (ps.zip [r, u])) (hx : Passes CX X (fun _ _ _ => False)) (hg : Gl X x) (hm : X.mg x = some (.ref C)) (hkw : PK X kws tk)
    (hall : (backToKw pos (keywordEach kws X.env)).all (·.1.isSome) = true := by rfl) (hks : (backToKw pos (keywordEach kws X.env)).filterMap (·.1) = [kn] := by rfl)
    (hdb : (x == ("__debug__" : Str)) = false := by decide) (hpl : ((backTo pos (starEach [] X.env)).any (·.1) || (backToKw pos (keywordEach kws X.env)).any (·.1.isNone)) = false := by rfl) :
    PE X (.Call (.Name x p) [] kws pos) (tExv C sp tk) := by
  constructor
  intro pins s σ H Q I h
  refine wpAny_Call_Name_kw (ld_glob I hg hm ?_ hdb)
  refine PySem.W.callWith_KW0 (h₀ := X.base) I.ok.mod.kin T.kC hall (thn (hkw.run pos pins s σ H _ I h) fun us s1 ⟨vs, H1, I1, r1, hz, q1⟩ => ⟨I1.kIn, ?_⟩) hpl
  rw [hks]
  match vs, hz, r1 with
  | [v], _, r1 =>
    obtain ⟨u, rfl, ru⟩ := vals1 r1
    exact run_ex (us := []) (kw := [(kn, u)]) T iC tI F1 hr hx I1 (by decide) r1 (fun s r => hb s r u) q1
/-- C(), an own exception class without an __init__ of its own -/
theorem pe_exv0 {bmB : List Value} {B newId initId : String} (F : ExcBaseFacts B newId initId bmB) (q : PySem.W.excIn X.K C bmB newId = true) (gC : X.mg x = some (.ref C)) (kC : PySem.W.keepIn X.K (.ref C) = true) (hg : Gl X x)
    (hdb : (x == ("__debug__" : Str)) = false := by decide) : PE X (.Call (.Name x p) [] [] pos) (fun _ H Q => ∀ a, H a = none → Q (.ref a) (upd H a (ExO (.ref C) a))) := by
  constructor
  intro pins s σ H Q I h
  refine wpAny_Call_Name_kw (ld_glob I hg gC ?_ hdb)
  refine PySem.W.callWith_K0 I.kIn kC ?_
  show wpAny _ _ (call (.ref C) []) _ _ _
  obtain ⟨bm, N, nm, qn, bs, hdct, sn, sub, ab, col, dd, k0, k1, k2, k3, k5, mN, hC, hN, hni, T⟩ := exc_obj I.kIn q
  refine wpAny_call_exc_subT F T hC hN hni (fun h' a hm => ?_) (Nat.zero_le _)
  have hn : H a = none := I.hok.gone hm.new
  obtain ⟨t, ht, _, _⟩ := hm.there
  exact ⟨.ref a, upd H a (ExO (.ref C) a), I.laidN hm.keeps hm.new hn (exO_ok ht ⟨rfl, rfl⟩ rfl rfl rfl (show 4 < 6 by decide)), rfl, h a hn⟩
/-- e.f, e an exception that has the field -/
def tFx (K : PySem.W.Frag) (f : Str) (te : TE) : TE := fun σ H Q => te σ H fun x H1 => ∃ (a C d : Addr) (v : V), x = .ref a ∧ XfC K C ∧ PySem.W.findIn K (.ref C) f = some none ∧ H1 a = some (exo a C (some d)) ∧ H1 d = some (exd d [(f, v)]) ∧ Q v H1
theorem pe_fx (he : PE X e te) (hb : attributeBase e f X.env (eval e X.env) = eval e X.env := by rfl) : PE X (.Attribute e f pos) (tFx X.K f te) := by
  constructor
  intro pins s σ H Q I h
  refine attr_of hb (thn (he.run pins s σ H _ I h) fun u s1 hh => ?_)
  obtain ⟨x, H1, I1, rx, a, C, d, v, ex, T, hno, ea, ed, q⟩ := hh
  subst ex
  obtain rfl : u = Value.ref a := rx
  obtain ⟨t1, ho⟩ := exo_at I1.hok ea
  obtain ⟨mA, hns, hr⟩ := exd_at I1.hok ed
  obtain ⟨od, hod, hl⟩ := lookIn_ns hns
  have l : [(f, v)].lookup f = some v := by simp
  obtain ⟨w, hw, rw'⟩ := RelO.some_of (v := v) (o := mA f) (by rw [← l]; exact hr f)
  have J : PySem.W.InstAt s1.heap a _ C (some od) := ⟨ho, rfl, rfl, hod⟩
  exact HandSPX.exc_get I1.kIn J T.ga T.gg T.exC (PySem.W.findObj_own T.hdC hno rfl (by rw [hl, hw])) (handed_of rw') ⟨v, H1, I1.tok _, rw', q⟩
/-- isinstance(e, c), e an exception that stands in H -/
def ExAt (H : Hp) (a C : Addr) : Prop := (∃ d fs, H a = some (exo a C (some d)) ∧ H d = some (exd d fs)) ∨ H a = some (ExO (.ref C) a)
def rIsV (K : PySem.W.Frag) : List V → Hp → VK → Prop := fun xs H Q => ∃ (a C : Addr) (c : V) (u : Value) (b : Bool), xs = [.ref a, c] ∧ ExAt H a C ∧ ExcC K C ∧ ClsV c u ∧ PySem.W.kitOne K (.ref C) u = some b ∧ Q (.bl b) H
theorem call_isV : CallR X (.builtin "isinstance") (rIsV X.K) := by
  intro pins s σ H xs us Q I r h
  obtain ⟨a, C, c, u, b, rfl, ea, hc, k, e, q⟩ := h
  obtain ⟨u1, u2, rfl, r1, r2⟩ := vals2 r
  have e2 := k.eq r2
  subst e2
  cases r1
  have ok : ∀ {od : Option Obj}, PySem.W.findObj X.K C od "__class__" = some (.bind (.builtin "getset_descriptor.__get__") (.builtin "object.__class__")) := fun {od} => by
    obtain ⟨cd, hcd, _⟩ := PySem.W.any_some hc.hd
    have hs : (PySem.W.clsIn X.K C).isSome = true := by
      rw [hcd]
      rfl
    cases od with
    | none => exact PySem.W.findObj_dataN hs hc.ha hc.hn hc.ht
    | some o => exact PySem.W.findObj_data hs hc.ha hc.hn hc.ht
  obtain ⟨oe, od, J⟩ : ∃ oe od, PySem.W.InstAt s.heap a oe C od := by
    rcases ea with ⟨d, fs, ea, ed⟩ | ea
    · obtain ⟨t1, ho⟩ := exo_at I.hok ea
      obtain ⟨mA, hns, _⟩ := exd_at I.hok ed
      obtain ⟨od, hod, _⟩ := lookIn_ns hns
      exact ⟨_, some od, ho, rfl, rfl, hod⟩
    · have z : ObjOk X.prog X.w H s.heap a (ExO (.ref C) a) := I.hok a _ ea
      obtain ⟨⟨oe, vs, h1, ⟨h2, h3⟩, h4, _⟩, _⟩ := z
      exact ⟨oe, none, h1, h2, by unfold PySem.W.notCls; rw [h4], by rw [h3]; trivial⟩
  exact PySem.W.kia_one (PySem.W.exk_kit hc.hg hc.hk hc.hs hc.hd ok hc.hm) I.kIn J e (fun z => nomatch z) fun tk => ⟨.bl b, H, I.tok tk, rfl, q⟩
end
end L2

namespace Toy
open PySem L2 PySem.Spec PyProof.Rows PySem.ExK
def top (i : Nat) : Stmt := PySem.Challenge.pw_handlesagain_k41_errors_made.main.body.getD i (.Pass ⟨0, 0, 0, 0⟩)
/-! ### where no repr is under way -/
section
/-- a def's promise, where no repr is under way around the call -/
structure FnG (P : Program) (w : World) (K : PySem.W.Frag) (mg : Str → Option Value) (base : Heap) (CX : CXT) (k : Nat) (f : Addr) (fd : FuncData) (ps : List Str) (sp : Sp) : Prop where
  len : ∀ vs H Q E, sp vs H Q E → vs.length = ps.length
  run : ∀ (A : Around) (outer : List Env) (s : Shared) (H : Hp) (args : Args) (us : List Value) (vs : List V) (Q : VK) (E : XK), A.guards = some [] → Room k A → Env0 P w K mg base A outer s H →
    BindsTo s fd args (ps.zip us) → Vals vs us → sp vs H Q E → codeAny (model P w) A (.call (.ref f) args) (CR CX outer P w H s Q E) s
theorem fnG_ok {P : Program} {w : World} {K : PySem.W.Frag} {mg : Str → Option Value} {base : Heap} {k : Nat} {x qual : Str} {st : Stmt} {f : Addr} {fd : FuncData} {N ps : List Str} {sp : Sp} (F : Fun K x qual st f fd) (S : FnScope N ps (defScope st))
    (len : ∀ vs H Q E, sp vs H Q E → vs.length = ps.length)
    (body : ∀ (cdv : Value) (A : Around) (outer : List Env) (s : Shared) (H : Hp) (vs : List V) (Q : VK) (E : XK), A.guards = some [] → Room k (A.deeper (PyProof.Rows.envOfC qual (defScope st) s.heap.objs.size f cdv)) → sp vs H Q E →
      ∃ t, PSs (cxOf CX0 P w K mg base N qual (defScope st) f cdv A outer s H E).nox (defBody st) t ∧ t { nx := fun _ H' => Q .non H', rt := Q } (start N vs) H) :
    FnG P w K mg base CX0 (k + 1) f fd ps sp := by
  obtain ⟨oc, od, kV, doc, pm, an, cdv, ct, osl, rfl, lk, hcd⟩ := F.ex
  constructor
  · exact len
  intro A outer s H args us vs Q E hg hr e0 hb r hsp
  have hl := len _ _ _ _ hsp
  have old : ∀ b o, base.get? b = some o → s.heap.get? b = some o := fun b o e => (e0.bs b o e).1
  have KX : K.In s.heap := e0.mod.kin.keeps old
  have kinds : ∀ y ∈ ps.zip us, (defScope st).names.lookup y.1 = some .local ∨
      ((defScope st).names.lookup y.1 = some .cell ∧ ((cellsFrom (s.heap.objs.size + 1) (defScope st).names []).lookup y.1).isSome = true) := by
    rintro ⟨n, v⟩ hy
    have q := S.par n (List.of_mem_zip hy).1
    refine q.imp id fun q => ⟨q, ?_⟩
    exact PySem.W.cellsFrom_some _ _ _ (.inl q)
  refine codeAny_call_function hr.depth (KX _ _ lk) rfl S.co S.gen rfl (PySem.W.codeRec_of KX hcd) (hb _ _ _ _ ?_)
  refine wpAny_newFunctionEnv_cells S.kind kinds fun env he s1 z => ?_
  subst he
  refine ⟨(e0.mod.nolimit.keeps old).keeps z.toInCall.keep, PySem.codeAny_func ?_⟩
  obtain ⟨t, ht, hq⟩ := body cdv A outer s H vs Q E hg (hr.deeper _) hsp
  have I := inv_start (CX := CX0) (E := E) (cd := cdv) (f := f) S hr.hd e0 hl r z
  refine wpAny_mono (ht.nox.run [] s1 (start N vs) H _ I hq) (fun fl s' hs => ?_) fun e s' hs => hs
  cases fl with
  | ret u =>
    obtain ⟨v, σ', H', J, rv, q⟩ := hs
    exact ⟨v, H', J.os, J.bare, J.base, J.hok, rv, q⟩
  | next =>
    obtain ⟨σ', H', J, q⟩ := hs
    exact ⟨V.non, H', J.os, J.bare, J.base, J.hok, rfl, q⟩
  | brk => exact hs.choose_spec.choose_spec.2.elim
  | cont => exact hs.choose_spec.choose_spec.2.elim
/-- the law's own call -/
theorem lawG {P : Program} {w : World} {K : PySem.W.Frag} {mg mb : Str → Option Value} {k : Nat} {fa a : Addr} {fd : FuncData} {sp : Sp} {s₁ : Shared} {vs : List Value} {ns : List Int} (KX : K.In s₁.heap) (hns : s₁.heap.Ns mainGlobals mg)
    (hb : s₁.heap.Ns builtinsNs mb) (hbb : ∀ x : Str, x ≠ "__name__" → mb x = bootBuiltins x) (hlim : s₁.heap.NoLimit) (hg : s₁.gens = #[])
    (ha : s₁.heap.get? a = some { cls := .type "list", data := .seq vs.toArray }) (hi : PyProof.Rows.IntsAre vs ns) (hl : ns.length ≤ sizeLine) (hr : Room k callerA)
    (F : ∀ base : Heap, K.In base → base.Ns mainGlobals mg → FnG P w K mg base CX0 k fa fd ["script"] sp) (bind : ∀ (s : Shared) (u : Value), BindsTo s fd ⟨[u], []⟩ [("script", u)])
    (hsp : ∀ H : Hp, SqL K H a (ns.map V.int) → sp [.ref a] H (fun v _ => v = .bl true) fun _ _ _ => False) :
    codeAny (model P w) callerA (.call (.ref fa) ⟨[.ref a], []⟩) (fun r s' => r = .ok (.ret (.bool true)) ∧ PySem.OldK s₁.heap s'.heap ∧ s'.os = s₁.os ∧ AllBare s'.gens) s₁ := by
  have rv := vals_ints hi
  have lenV := hi.length
  -- the abstract heap: nothing, or the script, locked
  have go : ∀ H : Hp, (∀ b o, H b = some o → b = a ∧ K.lookup a = none ∧ o = .frz { cls := .type "list", data := .seq vs.toArray } (.lst (ns.map V.int))) → SqL K H a (ns.map V.int) →
      codeAny (model P w) callerA (.call (.ref fa) ⟨[.ref a], []⟩) (fun r s' => r = .ok (.ret (.bool true)) ∧ PySem.OldK s₁.heap s'.heap ∧ s'.os = s₁.os ∧ AllBare s'.gens) s₁ := by
    intro H hA hS
    have hok : HOk P w H s₁.heap := fun b o q => by
      obtain ⟨rfl, _, rfl⟩ := hA b o q
      exact ⟨ha, by rw [List.length_map]; exact hl, vs, _, rv, ha⟩
    have low : ∀ {b : Addr} {o : Obj}, s₁.heap.get? b = some o → H b = none → (hidT s₁.heap H).get? b = some o := fun e n => hidT_get e n
    have free : ∀ {b : Addr} {o : Obj}, s₁.heap.get? b = some o → (∀ its n, o.data ≠ .seq its n) → H b = none := fun {b o} e d => by
      cases q : H b with
      | none => rfl
      | some u =>
        obtain ⟨rfl, _⟩ := hA b u q
        rw [ha] at e
        cases e
        exact absurd rfl (d _ _)
    have nsT : ∀ {b : Addr} {m : Str → Option Value}, s₁.heap.Ns b m → (hidT s₁.heap H).Ns b m := fun {b m} z => by
      obtain ⟨o, es, ep, e, d, r⟩ := z
      exact ⟨o, es, ep, low e (free e fun its n y => by rw [d] at y; cases y), d, r⟩
    have kT : K.In (hidT s₁.heap H) := fun b o e => by
      refine low (KX b o e) ?_
      cases q : H b with
      | none => rfl
      | some u =>
        obtain ⟨rfl, z, _⟩ := hA b u q
        rw [z] at e
        cases e
    have hM : Mod K mg (hidT s₁.heap H) := by
      obtain ⟨mc, h1, h2⟩ := hlim
      exact ⟨kT, nsT hns, ⟨mb, nsT hb, hbb⟩, ⟨mc, nsT h1, h2⟩⟩
    have e0 : Env0 P w K mg (hidT s₁.heap H) callerA [] s₁ H :=
      ⟨rfl, hM, fun b o e => of_hidT e, Nat.le_of_eq (hidT_size _ _), trivial, fun b hb => (nomatch hb), hok, .of_eq hg⟩
    have run := (F _ kT (nsT hns)).run callerA [] s₁ H ⟨[.ref a], []⟩ [.ref a] [.ref a] _ _ rfl hr e0 (bind s₁ (.ref a)) (.cons rfl .nil) (hsp H hS)
    refine codeAny_mono run fun r s' h => ?_
    cases r with
    | error e => exact False.elim h
    | ok fl =>
      cases fl with
      | next => exact False.elim h
      | brk => exact False.elim h
      | cont => exact False.elim h
      | ret u =>
        obtain ⟨v, H', os, bare, un, hok', r', q⟩ := h
        obtain rfl : v = .bl true := q
        obtain rfl : u = Value.bool true := r'
        refine ⟨rfl, PySem.OldK.of_keep fun b o e => ?_, os, bare⟩
        cases q : H b with
        | none => exact un.keep b o e q (fun z => nomatch z) (fun z => nomatch z)
        | some u =>
          obtain ⟨rfl, _, rfl⟩ := hA b u q
          have z := un.frzs b _ _ q
          rw [ha] at e
          cases e
          exact (hok' b _ z).1
  cases hk : K.lookup a with
  | some o =>
    have e := KX a o hk
    rw [ha] at e
    cases e
    refine go (fun _ => none) (fun b o z => nomatch z) (.inr ⟨_, vs.toArray, _, hk, rfl, rfl, rfl, ?_, by simpa using rv⟩)
    rw [List.size_toArray, lenV]
    exact hl
  | none =>
    refine go (fun b => if b = a then some (.frz { cls := .type "list", data := .seq vs.toArray } (.lst (ns.map V.int))) else none) (fun b o z => ?_) (.inl (.inr ⟨_, if_pos rfl⟩))
    by_cases hb : b = a
    · rw [if_pos hb] at z
      exact ⟨hb, hk, (Option.some.inj z).symm⟩
    · rw [if_neg hb] at z
      cases z
theorem walkG {l : PySem.W.OpenLaw} {k : Nat} {q : Program} {loose : List Str} {XP : (Str → Option Value) → Heap → Prop} {YP : World → Heap → Prop} {d : DefRec} {K : Params → PySem.W.Frag} {sp : PySem.W.Frag → Sp} (hn : l.most = some 63) (hdf : d.params.defaults = [])
    (hr : Room k callerA) (hY : ∀ (w : World) (h : Heap), YP w h → (K w.params).In h)
    (F : ∀ (w : World) (mg : Str → Option Value) (fa : Addr) (h : Heap), (K w.params).In h → h.Ns mainGlobals mg → mg d.name = some (.ref fa) →
      ∃ fd : FuncData, (∀ (s : Shared) (u : Value), BindsTo s fd ⟨[u], []⟩ [("script", u)]) ∧
        ∀ base : Heap, (K w.params).In base → base.Ns mainGlobals mg → FnG l.prog w (K w.params) mg base CX0 k fa fd ["script"] (sp (K w.params)))
    (hsp : ∀ (K : PySem.W.Frag) (H : Hp) (a : Addr) (ns : List Int), ns.length ≤ 63 → SqL K H a (ns.map V.int) → sp K [.ref a] H (fun v _ => v = .bl true) fun _ _ _ => False) :
    PySem.W.WalkO q loose XP YP l.row.toRowW d [] (fun f vs => PySem.call f vs) := by
  refine Att.attach_callB hn hdf fun w s₀ s₁ mg mb fa o pm cd doc a vs ns G Y ho hd hcd hmg hobj hints hlen hbits hg => ?_
  have KX := hY w _ Y
  obtain ⟨fd, hb, hF⟩ := F w mg fa _ KX G.T.g hmg
  exact lawG KX G.T.g G.T.b G.T.builtins G.T.nolimit hg hobj hints (Nat.le_trans hlen (by decide)) hr hF hb fun H hS => hsp (K w.params) H a ns hlen hS
end
/-! ### more rules of my own: repr of data, count, != of lists, tuple * n -/
section
variable {X : Cx}
/-- data that repr shows: as Dp says, or a dict of one text key and an int -/
def Rp (K : PySem.W.Frag) (H : Hp) (v : V) (d : PyData) : Prop := Dp K H v d ∨ ∃ (a : Addr) (k : Str) (i : Int), v = .ref a ∧ H a = some (.dK [(.inr k, .int i)]) ∧ d = .dict [(.str k, .int i)]
mutual
theorem dp_noDict {K : PySem.W.Frag} {H : Hp} : ∀ (d : PyData) (v : V), Dp K H v d → d.hasDict = false
  | .none, _, _ => rfl
  | .bool _, _, _ => rfl
  | .int _, _, _ => rfl
  | .str _, _, _ => rfl
  | .list ds, _, h => by
    cases h with
    | lst _ ha => exact dp_noDictAll ds _ ha
  | .tuple ds, _, h => by
    cases h with
    | tup _ ha => exact dp_noDictAll ds _ ha
  | .dict _, _, h => by cases h
theorem dp_noDictAll {K : PySem.W.Frag} {H : Hp} : ∀ (ds : List PyData) (vs : List V), DpAll K H vs ds → PyData.hasDictAll ds = false
  | [], _, _ => rfl
  | d :: ds, _, h => by
    cases h with
    | cons h1 h2 =>
      show (d.hasDict || PyData.hasDictAll ds) = false
      rw [dp_noDict d _ h1, dp_noDictAll ds _ h2]
      rfl
end
theorem Rp.reads {pins : List (Addr × Obj)} {σ : L2.St} {H : Hp} {s : Shared} (I : L2.Inv X pins σ H s) {v : V} {u : Value} {d : PyData} (h : Rp X.K H v d) (r : RelV v u) : ∃ as, Reads s.heap u d as ∧ (d.hasDict = true → sysModules ∉ as) := by
  rcases h with h | ⟨a, k, i, rfl, e, rfl⟩
  · obtain ⟨as, hr⟩ := Dp.reads I d v u h r
    refine ⟨as, hr, fun z => ?_⟩
    rw [dp_noDict d v h] at z
    cases z
  · cases r
    obtain ⟨_, hs, vs, kv, o, es, ep, h1, h2, h3, _, h5, _⟩ := (show ObjOk X.prog X.w H s.heap a (.dK [(.inr k, .int i)]) from I.hok a _ e)
    cases kv with
    | cons r1 r2 =>
      cases r2
      obtain ⟨e1, e2⟩ := r1
      obtain ⟨t, e2⟩ := e2
      cases hes : es.toList with
      | nil =>
        rw [hes] at h5
        cases h5
      | cons x xs =>
        rw [hes] at h5
        cases h5 with
        | cons p1 p2 p3 =>
          cases p3
          rw [← e1] at p1
          rw [e2] at p2
          have p3 : keyIs (.inr k) x.key = true := p1
          rcases keyIs_shape p3 with ⟨i', t', q1, _⟩ | ⟨x', t', q1, q2⟩
          · cases q1
          · cases q1
            refine ⟨_, Reads.dict (kvs := [(.str k, .int i)]) h1 h2.1 h3 (as := [] ++ []) (bs := [] ++ []) ?_ ?_, fun _ z => ?_⟩
            · rw [hes]
              show ReadsAll s.heap [x.key] _ _
              rw [q2]
              exact .cons (.str k t') .nil
            · rw [hes]
              show ReadsAll s.heap [x.val] _ _
              rw [p2]
              exact .cons (.int i _) .nil
            · rcases List.mem_cons.mp z with z | z
              · rw [z] at hs
                simp at hs
              · cases z
def okD (d : PyData) : Bool := d.showable && decide (d.depth ≤ 50) && decide (d.shown.length ≤ 100000) && PyData.strOk d.shown
theorem call_reprD (hg : X.A.guards = some []) (hu : X.A.units + 64 < cLine) : CallR X (.builtin "repr") (fun xs H Q => ∃ v d, xs = [v] ∧ Rp X.K H v d ∧ okD d = true ∧ Q (.str d.shown) H) := by
  intro pins s σ H xs us Q I r h
  obtain ⟨v, d, rfl, hd, ho, q⟩ := h
  obtain ⟨u, rfl, ru⟩ := vals1 r
  unfold okD at ho
  simp only [Bool.and_eq_true, decide_eq_true_eq] at ho
  obtain ⟨⟨⟨h1, h2⟩, h3⟩, _⟩ := ho
  obtain ⟨as, hr, hm⟩ := hd.reads I ru
  have fin : ∀ (h' : Heap) (t : Tok) (tk : Nat), (∀ b o, s.heap.get? b = some o → h'.get? b = some o) → EP X pins σ Q (.str d.shown t) { s with heap := h', toks := tk } := fun h' t tk kp =>
    ⟨.str d.shown, H, I.kept (t' := tk) kp, ⟨t, rfl⟩, q⟩
  have hsz : d.shown.length ≤ sizeLine := Nat.le_trans h3 (by decide)
  cases v with
  | ref a =>
    cases ru
    exact repr_of_reads' hr h1 hm hg (by omega) (fun b o e => e) (fun h' t tk kp => fin h' t tk kp) hsz
  | non =>
    cases ru
    cases hr
    exact PySem.P.repr_of_none (fin s.heap _ _ fun b o e => e)
  | bl b =>
    cases ru
    cases hr
    exact PySem.P.repr_of_bool (fin s.heap _ _ fun b o e => e)
  | int i =>
    obtain ⟨t, rfl⟩ := ru
    cases hr
    exact PySem.P.repr_of_int (by simpa [PyData.showable] using h1) (fin s.heap _ _ fun b o e => e)
  | str z =>
    obtain ⟨t, rfl⟩ := ru
    cases hr
    exact PySem.P.repr_of_str (fin s.heap _ _ fun b o e => e) hsz
  | byt b =>
    obtain ⟨t, rfl⟩ := ru
    cases hr
  | flt b =>
    obtain ⟨t, rfl⟩ := ru
    cases hr
  | ty n =>
    cases ru
    cases hr
/-- xs.count(y), flat things -/
def rCnt (K : PySem.W.Frag) : V → List V → Hp → VK → Prop := fun x xs H Q => ∃ (a : Addr) (ys : List V) (y : V), x = .ref a ∧ xs = [y] ∧ SqL K H a ys ∧ flatV y = true ∧ ys.all flatV = true ∧ Q (.int (ys.countP (eqV · y) : Nat)) H
theorem countP_eqU {x : V} : ∀ {xs : List V} {us : List Value}, Vals xs us → xs.all flatV = true → us.countP (eqU x) = xs.countP fun y => eqV y x
  | _, _, .nil, _ => rfl
  | y :: xs, u :: us, .cons r t, f => by
    rw [List.all_cons, Bool.and_eq_true] at f
    rw [List.countP_cons, List.countP_cons, eqU_of r f.1, countP_eqU t f.2]
theorem mt_count : MtR X "list.count" (rCnt X.K) := by
  intro pins s σ H x xs v us Q I rx rxs h
  obtain ⟨a, ys, y, rfl, rfl, hs, fy, fys, q⟩ := h
  cases rx
  obtain ⟨u, rfl, ru⟩ := rxs.one
  obtain ⟨its, rv, ⟨⟨cls, dd, data, sl⟩, n, ho, hc, hdn, hd⟩, hlen⟩ := I.list hs
  simp only at hc hd
  subst hc hd
  have cnt := SeqAt.list_countAt a its.toArray n dd sl u (eqU y)
  refine call_meets PySem.F.slot_list_count ⟨_, ho, rfl⟩ PySem.F.entry_list_count (PySem.F.args_list_count_2 _ _) cnt ?_
  refine ⟨ho, fun z hz => mem_eqAt ru fy rv fys z (by simpa using hz), ?_⟩
  refine ⟨.int (ys.countP (eqV · y) : Nat), H, I.tok _, ⟨s.toks, ?_⟩, q⟩
  rw [← countP_eqU rv fys]
end
/-! ### a tuple, once or not at all -/
section
/-- t * 1: t itself -/
theorem mul_one (l : Addr) (items : Array Value) (n : Nat) (dd : Option Addr) (sl : Array (Option Value)) (u : Tok) (c2 : items.isEmpty = false) :
    Meets (Builtin.«tuple.__mul__» ⟨[.ref l, .int 1 u], []⟩) (fun _ R s => s.heap.get? l = some { cls := .type "tuple", dict := dd, data := .seq items n, slots := sl } ∧ R (.ok (.ret (Value.ref l))) s) :=
  .of_wp fun prog w A R s h => by
    obtain ⟨hp, g, d, tk, os⟩ := s
    obtain ⟨hl, h⟩ := h
    have f1 := AutoSeq1.idx_int
    wp_walk using wpAny_loadPart' hl
    exact ⟨_, rfl, h⟩
/-- t * 0: an empty tuple -/
theorem mul_zero (l : Addr) (items : Array Value) (n : Nat) (dd : Option Addr) (sl : Array (Option Value)) (u : Tok) (c2 : items.isEmpty = false) :
    Meets (Builtin.«tuple.__mul__» ⟨[.ref l, .int 0 u], []⟩) (fun _ R s => s.heap.get? l = some { cls := .type "tuple", dict := dd, data := .seq items n, slots := sl } ∧
      R (.ok (.ret (Value.ref s.heap.objs.size))) { s with heap := s.heap.push { cls := Value.type "tuple", data := Data.seq #[] } }) :=
  .of_wp fun prog w A R s h => by
    obtain ⟨hp, g, d, tk, os⟩ := s
    obtain ⟨hl, h⟩ := h
    have f1 := AutoSeq1.idx_int
    wp_walk using wpAny_loadPart' hl
    exact ⟨_, rfl, h⟩
/-- t * k, k from 0 to 3: some tuple of that -/
def rRep3 (K : PySem.W.Frag) : V → V → Hp → VK → Prop := fun x y H Q => ∃ (l : Addr) (k : Int) (xs : List V), x = .ref l ∧ y = .int k ∧ SqT K H l xs ∧ H l = some (.tup xs) ∧ xs ≠ [] ∧ 0 ≤ k ∧ k ≤ 3 ∧ xs.length ≤ 1000 ∧
  ∀ p H', (∀ b o, H b = some o → H' b = some o) → H' p = some (.tup (List.replicate k.toNat xs).flatten) → Q (.ref p) H'
theorem op_rep3 {X : Cx} : OpR X (binaryOp .Mult) (rRep3 X.K) := by
  intro pins s σ H x y v u Q I rx ry h
  obtain ⟨l, k, xs, rfl, rfl, hT, eT, hne, h0, h3, hz, q⟩ := h
  by_cases hk : 2 ≤ k
  · refine op_repT pins s σ H _ _ v u Q I rx ry ⟨l, k, xs, rfl, rfl, hT, hne, hk, by omega, hz, fun p hp => q p _ (fun b o e => ?_) upd_same⟩
    rw [upd_ne (ne_of_none e hp)]
    exact e
  cases rx
  obtain ⟨t, rfl⟩ := ry
  obtain ⟨its, r, ⟨⟨cls, dd, data, sl⟩, ho, hc, n, hd⟩, hs⟩ := I.tuple hT
  simp only at hc hd
  subst hc hd
  have hi : its.toArray.isEmpty = false := by
    cases r with
    | nil => exact absurd rfl hne
    | cons a b => rfl
  have ty : s.TypeIs (.ref l) "tuple" := ⟨_, ho, rfl⟩
  have key : ∀ (i : Int), k = i → wpAny (model X.prog X.w) X.A (call (.builtin "tuple.__mul__") [.ref l, .int i t]) (EP X pins σ Q) X.xe s → wpAny (model X.prog X.w) X.A (binaryOp .Mult (.ref l) (.int k t)) (EP X pins σ Q) X.xe s := by
    rintro i rfl hq
    refine wpAny_binaryOp_repeat_ref (T := "tuple") (U := "int") (by decide) ty (fun s' => typeIs_int s' k t) noFill_tuple_mul F.fills_int_mul F.slot_int_rmul repeat_tuple F.slot_int_index.lookup ?_
    exact call_meets F.slot_int_rmul (typeIs_int s k t) F.entry_int_rmul (F.args_int_rmul_2 _ _) (int_rmul_tuple k t l its.toArray n dd sl) ⟨ho, rfl, ty, hq⟩
  have k01 : k = 0 ∨ k = 1 := by omega
  rcases k01 with rfl | rfl
  · refine key 0 rfl (call_meets F.slot_tuple_mul ty F.entry_tuple_mul (F.args_tuple_mul_2 _ _) (mul_zero l its.toArray n dd sl t hi) ⟨ho, ?_⟩)
    have I1 := I.laid (t' := s.toks) (a := s.heap.objs.size) (o := .tup []) (h' := s.heap.push { cls := Value.type "tuple", data := Data.seq #[] }) (fun _ _ q => Heap.get?_push_of_some _ q) (Nat.le_refl _)
      ⟨Nat.zero_le _, [], .nil, _, Heap.get?_push_at rfl rfl, rfl, _, rfl⟩
    have hn := I.hok.fresh (Nat.le_refl s.heap.objs.size)
    exact ⟨.ref s.heap.objs.size, _, I1, rfl, q _ _ (fun b o e => by rw [upd_ne (ne_of_none e hn)]; exact e) upd_same⟩
  · refine key 1 rfl (call_meets F.slot_tuple_mul ty F.entry_tuple_mul (F.args_tuple_mul_2 _ _) (mul_one l its.toArray n dd sl t hi) ⟨ho, ?_⟩)
    refine ⟨.ref l, H, I, rfl, q l H (fun b o e => e) ?_⟩
    rw [eT]
    simp
end
/-! ### the pool that a law draws from -/
abbrev sBegin : Stmt := top 16
abbrev sMixed : Stmt := top 17
abbrev sDraw : Stmt := top 18

structure PTxt (mg : Str → Option Value) : Prop where
  int : mg "int" = none
  abs : mg "abs" = none
  len : mg "len" = none
  str : mg "str" = none
  range : mg "range" = none

/-- what stands at p is a pool, whose numbers stand at q -/
def PoolAt (H : Hp) (p q : Addr) : Prop := ∃ (ns : List Int) (i a s b : Int), H p = some (.lst [.ref q, .int i, .int a, .int s, .int b]) ∧ H q = some (.lst (ns.map V.int)) ∧ 0 ≤ i ∧ ∀ n ∈ ns, 0 ≤ n
theorem PoolAt.ne {H : Hp} {p q : Addr} (h : PoolAt H p q) : p ≠ q := by
  obtain ⟨ns, i, a, s, b, h1, h2, _, _⟩ := h
  refine ne_of h1 h2 ?_
  intro e
  injection e with e
  cases ns with
  | nil => cases e
  | cons n r => injection e with e _; cases e
/-- all but the pool is as it was -/
def But (p q : Addr) (H H' : Hp) : Prop := ∀ b o, b ≠ p → b ≠ q → H b = some o → H' b = some o
theorem But.refl (p q : Addr) (H : Hp) : But p q H H := fun _ _ _ _ h => h
theorem But.trans {p q : Addr} {H H1 H2 : Hp} (a : But p q H H1) (b : But p q H1 H2) : But p q H H2 := fun c o n1 n2 h => b c o n1 n2 (a c o n1 n2 h)
theorem But.of_same {p q : Addr} {H H1 : Hp} (a : Same H H1) : But p q H H1 := fun c o _ _ h => a c o h
theorem But.updP {p q : Addr} {H : Hp} {o : HO} : But p q H (upd H p o) := fun c u n1 _ h => by rw [upd_ne n1]; exact h
theorem But.updQ {p q : Addr} {H : Hp} {o : HO} : But p q H (upd H q o) := fun c u _ n2 h => by rw [upd_ne n2]; exact h
theorem PoolAt.same {H H' : Hp} {p q : Addr} (h : PoolAt H p q) (s : Same H H') : PoolAt H' p q := by
  obtain ⟨ns, i, a, z, b, h1, h2, h3⟩ := h
  exact ⟨ns, i, a, z, b, s _ _ h1, s _ _ h2, h3⟩

def spBegin (K : PySem.W.Frag) : Sp := fun vs H Q _ => ∃ (a : Addr) (ns : List Int), vs = [.ref a] ∧ SqL K H a (ns.map V.int) ∧ ns.length ≤ 63 ∧
  ∀ H' p q, Same H H' → H p = none → H q = none → PoolAt H' p q → Q (.ref p) H'
def spMixed : Sp := fun vs H Q _ => ∃ (p q : Addr) (m : Int), vs = [.ref p, .int m] ∧ PoolAt H p q ∧ 1 ≤ m ∧ m < 10 ^ 40 ∧
  ∀ H' (r : Int), But p q H H' → PoolAt H' p q → 0 ≤ r → r < m → Q (.int r) H'
/-- from a pool a number from 0 to m - 1 -/
def spDraw : Sp := fun vs H Q _ => ∃ (p q : Addr) (m : Int), vs = [.ref p, .int m] ∧ PoolAt H p q ∧ 1 ≤ m ∧ m < 10 ^ 40 ∧
  ∀ H' (r : Int), But p q H H' → PoolAt H' p q → 0 ≤ r → r < m → Q (.int r) H'

theorem map_int_get {ns : List Int} {i : Nat} {y : V} (hi : (ns.map V.int)[i]? = some y) : ∃ u, y = V.int u ∧ ns[i]? = some u := by
  rw [List.getElem?_map] at hi
  cases e : ns[i]? with
  | none => rw [e] at hi; cases hi
  | some u => rw [e] at hi; exact ⟨u, (Option.some.inj hi).symm, rfl⟩

section
variable {P : Program} {w : World} {K : PySem.W.Frag} {mg : Str → Option Value} {base : Heap}
theorem scBegin : FnScope ["script", "seed", "cell"] ["script"] (defScope sBegin) := ⟨rfl, rfl, rfl, by decide +kernel, rfl, by decide +kernel, by decide +kernel⟩
theorem ok_begin {f : Addr} {fd : FuncData} (F : Fun K "_law_begin" "_law_begin" sBegin f fd) (T : PTxt mg) : FnOk P w K mg base CX0 1 f fd ["script"] (spBegin K) := by
  refine F.ok scBegin (fun vs H Q E h => ?_) (fun cdv A outer s H vs Q E hr h => ?_)
  · obtain ⟨a, ns, rfl, _⟩ := h
    rfl
  · obtain ⟨a, ns, rfl, hS, hlen, k⟩ := h
    refine ⟨_, pss_cons (ps_set (i := 1) scBegin.nd rfl (.inl rfl) pe_int)
      (pss_cons (ps_for PassesOwn.never rfl (pi_list (pe_slice sl_list (pv 0) po_none (po_some pe_int))) (pg_name (i := 2) scBegin.nd rfl (.inl rfl))
        (pss_one (ps_set (i := 1) scBegin.nd rfl (.inl rfl) (pe_op op_mod (pe_op op_add (pe_op op_add (pe_op op_mul (pv 1) pe_int) (pe_op op_mod (pe_callTy call_int1 (by rfl) T.int (by decide +kernel) (pa_cons (pv 2) pa_nil)) pe_int)) pe_int) pe_int))))
      (pss_one (ps_ret (pe_lst (pa_cons (pe_lc (own := [("cell", 2)]) (g := gName 2) (by rfl) scBegin.nd (pi_list (pv 0)) (blkOk_by (own := [("cell", 2)]) (N := ["script", "seed", "cell"]) (sc := defScope sBegin) (by decide +kernel))
        (fun _ _ _ _ _ => pg_name (i := 2) scBegin.nd rfl (Or.inl rfl)) (fun _ _ _ _ _ => pts_nil)
        (fun _ _ _ _ _ => pe_callB call_abs (by rfl) T.abs (by decide +kernel) (pa_cons (pe_callTy call_int1 (by rfl) T.int (by decide +kernel) (pa_cons (pv 2) pa_nil)) pa_nil)))
        (pa_cons pe_int (pa_cons pe_int (pa_cons (pv 1) (pa_cons pe_int pa_nil))))))))), ?_⟩
    refine ⟨_, rfl, _, rfl, a, _, rfl, hS, fun p hp => ?_⟩
    refine ⟨p, rfl, ⟨_, .inl (.inl upd_same)⟩, for_list (K := K) (a := p) (xs := cutV (ns.map V.int) none (some 40)) (fun i σ H' => ∃ (z : Int) (v : Option V), σ = [some (.ref a), some (.int z), v] ∧ H' = upd H p (.lst (cutV (ns.map V.int) none (some 40)))) 
      ⟨7, none, rfl, rfl⟩ (fun i σ H' _ ⟨_, _, _, e⟩ => by rw [e]; exact .inl (.inl upd_same)) ?_ ?_⟩
    · rintro i y σ H' hi ⟨z, v, rfl, rfl⟩
      obtain ⟨u, rfl⟩ : ∃ u, y = V.int u := by
        have hm := List.mem_of_getElem? hi
        have hm2 := List.mem_of_mem_drop (List.mem_of_mem_take hm)
        obtain ⟨u, _, e⟩ := List.mem_map.mp hm2
        exact ⟨u, e.symm⟩
      refine ⟨_, rfl, _, _, rfl, rfl, .inr ⟨by decide, by decide⟩, _, rfl, .inl ⟨_, rfl, _, _, rfl, rfl, (by show (0 : Int) < 2147483647; decide), _, _, rfl, rfl, _, _, rfl, rfl, _, _, rfl, rfl, (by show (0 : Int) < 2147483647; decide), _, _, rfl, rfl⟩⟩
    · rintro σ H' ⟨z, v, rfl, rfl⟩
      have sp : Same H (upd H p (.lst (cutV (ns.map V.int) none (some 40)))) := fun b o e => by
        rw [upd_ne (ne_of_none e hp)]
        exact e
      refine ⟨_, rfl, a, rfl, ⟨_, sp.seq hS⟩, fun D hD => ?_⟩
      have hS1 := sp.seq hS
      generalize hH1 : upd H p (.lst (cutV (ns.map V.int) none (some 40))) = H1 at *
      have sD : ∀ u, Same H1 (upd H1 D u) := fun u b o e => by
        rw [upd_ne (ne_of_none e hD)]
        exact e
      refine lc_list (K := K) (a := a) (xs := ns.map V.int) (fun i H' => ∃ zs : List Int, H' = upd H1 D (.lst (zs.map V.int)) ∧ zs.length = i ∧ ∀ n ∈ zs, 0 ≤ n) ⟨[], rfl, rfl, fun _ h => nomatch h⟩ (fun i H' _ ⟨zs, e, _⟩ => by rw [e]; exact (sD _).seq hS1) ?_ ?_
      · rintro i y H' hi ⟨zs, rfl, hz, hp0⟩
        obtain ⟨u, rfl, hu⟩ := map_int_get hi
        have hi63 : i < ns.length := (List.getElem?_eq_some_iff.mp hu).1
        refine ⟨rfl, _, rfl, .inl ⟨_, rfl, _, rfl, _, upd_same, ?_, zs ++ [if u < 0 then -u else u], ?_, ?_, ?_⟩⟩
        · rw [List.length_map]
          exact Nat.lt_of_le_of_lt (show zs.length ≤ 63 by omega) (by decide)
        · rw [upd_upd, List.map_append]
          rfl
        · rw [List.length_append, hz]
          rfl
        · intro n hn
          rcases List.mem_append.mp hn with h | h
          · exact hp0 n h
          · rw [List.mem_singleton.mp h]
            split <;> omega
      · rintro H' ⟨zs, rfl, hz, hp0⟩
        refine ⟨_, rfl, (by show 5 ≤ sizeLine; decide), fun p2 hp2 => ?_⟩
        have nDp : D ≠ p2 := fun e => by
          rw [← e, upd_same] at hp2
          cases hp2
        have hp2' : H1 p2 = Option.none := by
          rw [upd_ne nDp.symm] at hp2
          exact hp2
        refine k _ p2 D (Same.trans sp (fun b o e => ?_)) (sp.free hp2') (sp.free hD) ⟨zs, 0, 0, z, 0, upd_same, ?_, by decide, hp0⟩
        · rw [upd_ne (ne_of_none e hp2')]
          exact sD _ _ _ e
        · rw [upd_ne nDp, upd_same]

theorem numlen {m : Int} (h0 : 0 ≤ m) (h1 : m < 10 ^ 40) : (Str.ofString (toString m)).length ≤ 40 := PyProof.Rows.toString_length_le h0 (by decide) h1

theorem natlt {m : Int} (h1 : 1 ≤ m) (h2 : m < 10 ^ 40) : m.natAbs < 2 ^ 140 := by
  have e : (10 : Int) ^ 40 ≤ 2 ^ 140 := by decide
  have e2 : ((2 ^ 140 : Nat) : Int) = (2 : Int) ^ 140 := by decide
  omega
theorem natlog {m : Int} (h1 : 1 ≤ m) (h2 : m < 10 ^ 40) : m.natAbs.log2 < 140 := PySem.Flt.log2_lt_of (by decide) (natlt h1 h2)
theorem scMixed : FnScope ["pool", "many", "found", "turn"] ["pool", "many"] (defScope sMixed) := ⟨rfl, rfl, rfl, by decide +kernel, rfl, by decide +kernel, by decide +kernel⟩
theorem ok_mixed {f : Addr} {fd : FuncData} (F : Fun K "_law_mixed" "_law_mixed" sMixed f fd) (T : PTxt mg) : FnOk P w K mg base CX0 1 f fd ["pool", "many"] spMixed := by
  refine F.ok scMixed (fun vs H Q E h => ?_) (fun cdv A outer s H vs Q E hr h => ?_)
  · obtain ⟨p, q, m, rfl, _⟩ := h
    rfl
  · obtain ⟨p, q, m, rfl, hP, h1, h2, k⟩ := h
    have npq := hP.ne
    obtain ⟨ns, i, a, z, b, hp, hq, hi, hns⟩ := hP
    refine ⟨_, pss_cons (ps_asg (pe_op op_add (pe_ix ix_list (pv 0) pe_int (fun _ _ => rfl)) pe_int) (pg_sub (pv 0) pe_int set_list))
      (pss_cons (ps_set (i := 2) scMixed.nd rfl (.inl rfl) (pe_ix ix_list (pv 0) pe_int (fun _ _ => rfl)))
      (pss_cons (ps_for PassesOwn.never rfl (pi_range1 rfl T.range (pa_cons (pe_op op_add pe_int (pe_op op_fdiv (pe_callB call_len_str (by rfl) T.len PySem.boot_len (pa_cons (pe_callTy call_str_int (by rfl) T.str (by decide +kernel) (pa_cons (pv 1) pa_nil)) pa_nil)) pe_int)) pa_nil)) (pg_name (i := 3) scMixed.nd rfl (.inl rfl))
        (pss_cons (ps_asg (pe_op op_mod (pe_op op_add (pe_op op_add (pe_op op_mul (pe_ix ix_list (pv 0) pe_int (fun _ _ => rfl)) pe_int) (pe_op op_mul (pe_ix ix_list (pv 0) pe_int (fun _ _ => rfl)) pe_int)) pe_int) pe_int) (pg_sub (pv 0) pe_int set_list))
        (pss_one (ps_set (i := 2) scMixed.nd rfl (.inl rfl) (pe_op op_add (pe_op op_mul (pv 2) pe_int) (pe_op op_fdiv (pe_ix ix_list (pv 0) pe_int (fun _ _ => rfl)) pe_int))))))
      (pss_one (ps_ret (pe_op op_mod (pv 2) (pv 1)))))), ?_⟩
    refine ⟨_, rfl, p, _, 2, _, rfl, rfl, .inl (.inl hp), rfl, _, _, rfl, rfl, _, rfl, p, _, 2, 2, rfl, rfl, hp, rfl, ?_⟩
    refine ⟨_, rfl, p, _, 3, _, rfl, rfl, .inl (.inl upd_same), rfl, ?_⟩
    have hl := numlen (by omega : 0 ≤ m) h2
    have hlog : m.natAbs.log2 < 1920 := Nat.lt_trans (natlog h1 h2) (by decide)
    refine ⟨_, rfl, _, rfl, hlog, _, rfl, Nat.le_trans hl (by decide), _, _, rfl, rfl, ⟨by decide, by decide⟩, _, _, rfl, rfl, _, rfl, ?_, ?_, ?_⟩
    · show -(2 ^ 62) ≤ (1 : Int) + ((Str.ofString (toString m)).length : Int) / 9
      omega
    · show (1 : Int) + ((Str.ofString (toString m)).length : Int) / 9 < 2 ^ 62
      omega
    · refine for_range (lo := 0) (n := ((1 : Int) + ((Str.ofString (toString m)).length : Int) / 9).toNat) (fun j σ H' => ∃ (s' f' : Int) (v : Option V), σ = [some (.ref p), some (.int m), some (.int f'), v] ∧ H' = upd H p (.lst [.ref q, .int i, .int (a + 1), .int s', .int b]))
        ⟨_, _, none, rfl, rfl⟩ ?_ ?_
      · rintro j σ H' _ ⟨s', f', v, rfl, rfl⟩
        refine ⟨_, rfl, p, _, 3, _, rfl, rfl, .inl (.inl upd_same), rfl, _, _, rfl, rfl, .inr ⟨by decide, by decide⟩, _, rfl, p, _, 2, _, rfl, rfl, .inl (.inl upd_same), rfl, _, _, rfl, rfl, .inr ⟨by decide, by decide⟩, _, _, rfl, rfl, _, _, rfl, rfl, _, _, rfl, rfl, (by show (0 : Int) < 2147483647; decide), _, rfl, p, _, 3, 3, rfl, rfl, upd_same, rfl, ?_⟩
        refine ⟨_, rfl, _, _, rfl, rfl, .inr ⟨by decide, by decide⟩, _, rfl, p, _, 3, _, rfl, rfl, .inl (.inl upd_same), rfl, _, _, rfl, rfl, ⟨by decide, by decide⟩, _, _, rfl, rfl, ?_⟩
        exact ⟨_, _, _, rfl, by rw [upd_upd]; rfl⟩
      · rintro σ H' ⟨s', f', v, rfl, rfl⟩
        refine ⟨_, rfl, _, rfl, _, _, rfl, rfl, (by show (0 : Int) < m; omega), ?_⟩
        exact k _ _ But.updP ⟨ns, i, a + 1, s', b, upd_same, by rw [upd_ne npq.symm]; exact hq, hi, hns⟩ (Int.emod_nonneg _ (by omega)) (Int.emod_lt_of_pos _ (by omega))

theorem ixN_nat {n i : Nat} (h : i < n) : ixN n (i : Int) = some i := by
  unfold ixN
  rw [if_pos (by omega), if_pos (by omega), Int.toNat_natCast]
theorem scDraw : FnScope ["pool", "many", "found"] ["pool", "many"] (defScope sDraw) := ⟨rfl, rfl, rfl, by decide +kernel, rfl, by decide +kernel, by decide +kernel⟩
theorem ok_draw {f fM : Addr} {fd fdM : FuncData} (F : Fun K "_law_draw" "_law_draw" sDraw f fd) (T : PTxt mg) (FM : Fun K "_law_mixed" "_law_mixed" sMixed fM fdM) (bM : Binds K fdM ["pool", "many"] []) (gM : mg "_law_mixed" = some (.ref fM)) : FnOk P w K mg base CX0 2 f fd ["pool", "many"] spDraw := by
  have GM : FnOk P w K mg base CX0 1 fM fdM ["pool", "many"] spMixed := ok_mixed FM T
  refine F.ok scDraw (fun vs H Q E h => ?_) (fun cdv A outer s H vs Q E hr h => ?_)
  · obtain ⟨p, q, m, rfl, _⟩ := h
    rfl
  · obtain ⟨p, q, m, rfl, hP, h1, h2, k⟩ := h
    have npq := hP.ne
    have hP0 := hP
    obtain ⟨ns, i, a, z, b, hp, hq, hi, hns⟩ := hP
    refine ⟨_, pss_cons (ps_if (PW.pt (pw_or (pt_cmpR op_ge (pe_ix ix_list (pv 0) pe_int (fun _ _ => rfl)) (pe_callB call_len_seq (by rfl) T.len PySem.boot_len (pa_cons (pe_ix ix_list (pv 0) pe_int (fun _ _ => rfl)) pa_nil)) (nomark _)) (pw_or1 (pt_cmpR op_eq (pv 1) pe_int (nomark _)))))
        (pss_one (ps_ret (pe_ifExp (pt_cmpR op_gt (pv 1) pe_int (nomark _)) (pe_call GM hr rfl gM FM.kp bM .nil pass0 (pa_cons (pv 0) (pa_cons (pv 1) pa_nil))) pe_int))) pss_nil)
      (pss_cons (ps_if (pt_cmpR op_lt (pe_ix ix_list (pe_ix ix_list (pv 0) pe_int (fun _ _ => rfl)) (pe_ix ix_list (pv 0) pe_int (fun _ _ => rfl)) (fun _ _ => rfl)) (pe_op op_pow pe_int pe_int) (nomark _))
        (pss_cons (ps_asg (pe_op op_mod (pe_op op_add (pe_op op_add (pe_op op_add (pe_op op_mul (pe_ix ix_list (pv 0) pe_int (fun _ _ => rfl)) pe_int) (pe_ix ix_list (pe_ix ix_list (pv 0) pe_int (fun _ _ => rfl)) (pe_ix ix_list (pv 0) pe_int (fun _ _ => rfl)) (fun _ _ => rfl))) (pe_ix ix_list (pv 0) pe_int (fun _ _ => rfl))) pe_int) pe_int) (pg_sub (pv 0) pe_int set_list))
        (pss_cons (ps_asg (pe_op op_add (pe_ix ix_list (pv 0) pe_int (fun _ _ => rfl)) pe_int) (pg_sub (pv 0) pe_int set_list))
        (pss_cons (ps_if (pt_cmpR op_eq (pe_op op_mod (pe_ix ix_list (pv 0) pe_int (fun _ _ => rfl)) pe_int) pe_int (nomark _)) (pss_one (ps_asg (pe_op op_add (pe_ix ix_list (pv 0) pe_int (fun _ _ => rfl)) pe_int) (pg_sub (pv 0) pe_int set_list))) pss_nil)
        (pss_one (ps_ret (pe_call GM hr rfl gM FM.kp bM .nil pass0 (pa_cons (pv 0) (pa_cons (pv 1) pa_nil)))))))) pss_nil)
      (pss_cons (ps_set (i := 2) scDraw.nd rfl (.inl rfl) (pe_op op_mod (pe_ix ix_list (pe_ix ix_list (pv 0) pe_int (fun _ _ => rfl)) (pe_ix ix_list (pv 0) pe_int (fun _ _ => rfl)) (fun _ _ => rfl)) (pv 1)))
      (pss_cons (ps_asg (pe_op op_fdivW (pe_ix ix_list (pe_ix ix_list (pv 0) pe_int (fun _ _ => rfl)) (pe_ix ix_list (pv 0) pe_int (fun _ _ => rfl)) (fun _ _ => rfl)) (pv 1)) (pg_sub (pe_ix ix_list (pv 0) pe_int (fun _ _ => rfl)) (pe_ix ix_list (pv 0) pe_int (fun _ _ => rfl)) set_list))
      (pss_cons (ps_if (pt_cmpR op_eq (pe_ix ix_list (pe_ix ix_list (pv 0) pe_int (fun _ _ => rfl)) (pe_ix ix_list (pv 0) pe_int (fun _ _ => rfl)) (fun _ _ => rfl)) pe_int (nomark _)) (pss_one (ps_asg (pe_op op_add (pe_ix ix_list (pv 0) pe_int (fun _ _ => rfl)) pe_int) (pg_sub (pv 0) pe_int set_list))) pss_nil)
      (pss_one (ps_ret (pv 2))))))), ?_⟩
    have sp : SqL K H p [.ref q, .int i, .int a, .int z, .int b] := .inl (.inl hp)
    have sq : SqL K H q (ns.map V.int) := .inl (.inl hq)
    have cmix : ∀ H1 : Hp, But p q H H1 → PoolAt H1 p q → spMixed [.ref p, .int m] H1 Q E := fun H1 e1 e2 => ⟨p, q, m, rfl, e2, h1, h2, fun H2 r b2 p2 r0 r1 => k H2 r (e1.trans b2) p2 r0 r1⟩
    -- if pool[1] >= len(pool[0]) or many == 1
    refine ⟨_, rfl, p, _, 1, _, rfl, rfl, sp, rfl, _, rfl, p, _, 0, _, rfl, rfl, sp, rfl, q, _, rfl, .inl sq, _, _, rfl, rfl, _, rfl, ?_⟩
    have hlen : ((ns.map V.int).length : Int) = (ns.length : Int) := by rw [List.length_map]
    refine ite2 (fun _ => ?_) (fun hlt => ?_)
    · refine ⟨_, rfl, _, _, rfl, rfl, _, rfl, ite2 (fun _ => ?_) (fun e => ?_)⟩
      · exact ⟨_, rfl, _, rfl, cmix H (But.refl _ _ _) hP0⟩
      · exact k H 0 (But.refl _ _ _) hP0 (by omega) (by omega)
    · refine ⟨_, rfl, rfl, _, rfl, ite2 (fun e => ?_) (fun hm1 => ?_)⟩
      · refine ⟨_, rfl, _, _, rfl, rfl, _, rfl, ite2 (fun _ => ?_) (fun e => ?_)⟩
        · exact ⟨_, rfl, _, rfl, cmix H (But.refl _ _ _) hP0⟩
        · exact k H 0 (But.refl _ _ _) hP0 (by omega) (by omega)
      · have hil : i < (ns.length : Int) := by
          have := hlt
          simp only [decide_eq_true_eq] at this
          omega
        obtain ⟨j, rfl⟩ : ∃ j : Nat, i = (j : Int) := ⟨i.toNat, by omega⟩
        have hj : j < ns.length := by omega
        obtain ⟨x, hx⟩ : ∃ x, ns[j]? = some x := ⟨ns[j], List.getElem?_eq_getElem hj⟩
        have hxm : (ns.map V.int)[j]? = some (V.int x) := by rw [List.getElem?_map, hx]; rfl
        have hat : atI (ns.map V.int) (j : Int) = some (V.int x) := atI_nat hxm
        have hx0 : 0 ≤ x := hns x (List.mem_of_getElem? hx)
        have hixN : ixN (ns.map V.int).length (j : Int) = some j := ixN_nat (by rw [List.length_map]; exact hj)
        -- if pool[0][pool[1]] < 10 ** 18
        refine ⟨_, rfl, p, _, 0, _, rfl, rfl, sp, rfl, _, rfl, p, _, 1, _, rfl, rfl, sp, rfl, q, _, _, _, rfl, rfl, sq, hat, _, _, rfl, rfl, ⟨by decide, by decide, by decide⟩, _, _, rfl, rfl, _, rfl, ite2 (fun _ => ?_) (fun _ => ?_)⟩
        · refine ⟨_, rfl, p, _, 3, _, rfl, rfl, sp, rfl, _, _, rfl, rfl, .inr ⟨by decide, by decide⟩, _, rfl, p, _, 0, _, rfl, rfl, sp, rfl, _, rfl, p, _, 1, _, rfl, rfl, sp, rfl, q, _, _, _, rfl, rfl, sq, hat, _, _, rfl, rfl, _, rfl, p, _, 2, _, rfl, rfl, sp, rfl, _, _, rfl, rfl, _, _, rfl, rfl, _, _, rfl, rfl, (by show (0 : Int) < 2147483647; decide), _, rfl, p, _, 3, 3, rfl, rfl, hp, rfl, ?_⟩
          refine ⟨_, rfl, p, _, 4, _, rfl, rfl, .inl (.inl upd_same), rfl, _, _, rfl, rfl, _, rfl, p, _, 4, 4, rfl, rfl, upd_same, rfl, ?_⟩
          rw [upd_upd]
          refine ⟨_, rfl, p, _, 4, _, rfl, rfl, .inl (.inl upd_same), rfl, _, _, rfl, rfl, (by show (0 : Int) < 3; decide), rfl, _, rfl, ite2 (fun _ => ?_) (fun _ => ?_)⟩
          · refine ⟨_, rfl, p, _, 1, _, rfl, rfl, .inl (.inl upd_same), rfl, _, _, rfl, rfl, _, rfl, p, _, 1, 1, rfl, rfl, upd_same, rfl, ?_⟩
            rw [upd_upd]
            refine ⟨_, rfl, _, rfl, cmix _ But.updP ⟨ns, (j : Int) + 1, a, (z * 31 + x + a + 1) % 2147483647, b + 1, upd_same, by rw [upd_ne npq.symm]; exact hq, by omega, hns⟩⟩
          · refine ⟨_, rfl, _, rfl, cmix _ But.updP ⟨ns, (j : Int), a, (z * 31 + x + a + 1) % 2147483647, b + 1, upd_same, by rw [upd_ne npq.symm]; exact hq, by omega, hns⟩⟩
        · -- found = pool[0][pool[1]] % many
          refine ⟨_, rfl, p, _, 0, _, rfl, rfl, sp, rfl, _, rfl, p, _, 1, _, rfl, rfl, sp, rfl, q, _, _, _, rfl, rfl, sq, hat, _, rfl, _, _, rfl, rfl, (by show (0 : Int) < m; omega), ?_⟩
          refine ⟨_, rfl, p, _, 0, _, rfl, rfl, sp, rfl, _, rfl, p, _, 1, _, rfl, rfl, sp, rfl, q, _, _, _, rfl, rfl, sq, hat, _, rfl, _, _, rfl, rfl, wide_div (by omega) (natlt h1 h2) (by decide) (by decide), _, rfl, p, _, 0, _, rfl, rfl, sp, rfl, _, rfl, p, _, 1, _, rfl, rfl, sp, rfl, q, _, _, _, rfl, rfl, hq, hixN, ?_⟩
          have eS : (ns.map V.int).set j (V.int (x / m)) = (ns.set j (x / m)).map V.int := by rw [List.map_set]
          rw [eS]
          have hns' : ∀ n ∈ ns.set j (x / m), 0 ≤ n := fun n hn => by
            rcases List.mem_or_eq_of_mem_set hn with h | h
            · exact hns n h
            · rw [h]
              exact Int.ediv_nonneg hx0 (by omega)
          have hp' : (upd H q (HO.lst ((ns.set j (x / m)).map V.int))) p = some (.lst [.ref q, .int (j : Int), .int a, .int z, .int b]) := by
            rw [upd_ne npq]
            exact hp
          have hq' : (upd H q (HO.lst ((ns.set j (x / m)).map V.int))) q = some (.lst ((ns.set j (x / m)).map V.int)) := upd_same
          have hat' : atI ((ns.set j (x / m)).map V.int) (j : Int) = some (V.int (x / m)) := atI_nat (by
            rw [List.getElem?_map, List.getElem?_set_self hj]
            rfl)
          have r0 : 0 ≤ x % m := Int.emod_nonneg _ (by omega)
          have r1 : x % m < m := Int.emod_lt_of_pos _ (by omega)
          have hB : But p q H (upd H q (HO.lst ((ns.set j (x / m)).map V.int))) := But.updQ
          generalize upd H q (HO.lst ((ns.set j (x / m)).map V.int)) = H1 at *
          have sp1 : SqL K H1 p [.ref q, .int (j : Int), .int a, .int z, .int b] := .inl (.inl hp')
          have sq1 : SqL K H1 q ((ns.set j (x / m)).map V.int) := .inl (.inl hq')
          refine ⟨_, rfl, p, _, 0, _, rfl, rfl, sp1, rfl, _, rfl, p, _, 1, _, rfl, rfl, sp1, rfl, q, _, _, _, rfl, rfl, sq1, hat', rfl, _, rfl, ite2 (fun _ => ?_) (fun _ => ?_)⟩
          · refine ⟨_, rfl, p, _, 1, _, rfl, rfl, sp1, rfl, _, _, rfl, rfl, _, rfl, p, _, 1, 1, rfl, rfl, hp', rfl, ?_⟩
            exact ⟨_, rfl, k _ _ (hB.trans But.updP) ⟨_, (j : Int) + 1, a, z, b, upd_same, by rw [upd_ne npq.symm]; exact hq', by omega, hns'⟩ r0 r1⟩
          · exact ⟨_, rfl, k _ _ hB ⟨_, (j : Int), a, z, b, hp', hq', by omega, hns'⟩ r0 r1⟩
end
/-! ### the thirteen errors -/
/-- what is to be seen of an own exception class at C by computation alone; fI, its __init__; f, its field -/
def exB (K : PySem.W.Frag) (C : Addr) : Bool := xfB K C && PySem.W.keepIn K (.ref C) && decide (PySem.W.findIn K (.ref C) "__class__" = some (some (.builtin "object.__class__"))) &&
  decide (PySem.W.specialIn K (.builtin "object.__class__") "__get__" = some (some (.builtin "getset_descriptor.__get__"))) && decide (PySem.W.takesIn K (.builtin "object.__class__") = some true) && decide (PySem.W.mroIn K C (.type "object") = some true)
def ecB (K : PySem.W.Frag) (C fI : Addr) (f : Str) : Bool := exB K C && decide (PySem.W.findIn K (.ref C) "__setattr__" = some (some (.builtin "object.__setattr__"))) &&
  decide (PySem.W.findIn K (.ref C) "__init__" = some (some (.ref fI))) && decide (PySem.W.findIn K (.ref C) f = some none)
structure EC (K : PySem.W.Frag) (mg : Str → Option Value) (x f : Str) (fI C : Addr) : Prop where
  gC : mg x = some (.ref C)
  T : ExvC K C
  iC : PySem.W.findIn K (.ref C) "__init__" = some (some (.ref fI))
  no : PySem.W.findIn K (.ref C) f = some none
  xf : XfC K C
  ex : ExcC K C
theorem exB_ok {K : PySem.W.Frag} {C : Addr} (h : exB K C = true) : XfC K C ∧ PySem.W.keepIn K (.ref C) = true ∧ ExcC K C := by
  unfold exB at h
  simp only [Bool.and_eq_true, decide_eq_true_eq] at h
  obtain ⟨⟨⟨⟨⟨h1, h2⟩, h3⟩, h4⟩, h5⟩, h6⟩ := h
  have x := xfB_ok h1
  exact ⟨x, h2, x.ga, x.gg, x.exC, x.hdC, h3, h4, h5, h6⟩
theorem mro_refs : ∀ l : List Value, PySem.HandSPX.refsVE l = true → MroOk l := fun l h => ⟨fun v => PySem.HandSPX.refsVE_pass v l h, PySem.HandSPX.refsVE_ne h, (PySem.HandSPX.refsVE_contains "object" l h).trans (by decide +kernel)⟩
abbrev oeTail : List Value := [.type "OverflowError", .type "ArithmeticError", .type "Exception", .type "BaseException", .type "object"]
theorem mro_over (C : Addr) : MroOk (.ref C :: oeTail) := ⟨fun v => by
  rw [refuseLoop_ref]
  kernel_rfl, rfl, by
  show (false || oeTail.contains (Value.type "object")) = true
  decide +kernel⟩
section
variable {K : PySem.W.Frag} {mg : Str → Option Value} {x f : Str} {fI C N : Addr} {nm q : Str} {bs bm : List Value} {sn : List Str} {sub : List Value} {ab : Bool} {col : Option Bool} {dd : Option Addr} {k0 k1 k2 k3 k5 : Option Value}
theorem ec_mk (gC : mg x = some (.ref C)) (hC : K.lookup C = some (excClassObj nm q C N bs bm true sn sub ab col dd k0 k1 k2 k3 k5 "ValueError.__new__")) (hb : PySem.HandSPX.refsVE bm = true) (h : ecB K C fI f = true) : EC K mg x f fI C := by
  unfold ecB at h
  simp only [Bool.and_eq_true, decide_eq_true_eq] at h
  obtain ⟨⟨⟨h1, h2⟩, h3⟩, h4⟩ := h
  obtain ⟨x1, x2, x3⟩ := exB_ok h1
  exact ⟨gC, ⟨⟨_, _, _, _, _, _, _, _, _, _, _, _, _, _, _, _, _, _, _, hC, F.excBase_ValueError, fun Y => PySem.HandSPX.refsVE_contains Y bm hb, mro_refs _ hb⟩, h2, x2⟩, h3, h4, x1, x3⟩
theorem ec_mkO (gC : mg x = some (.ref C)) (hC : K.lookup C = some (excClassObj nm q C N bs oeTail true sn sub ab col dd k0 k1 k2 k3 k5 "OverflowError.__new__")) (h : ecB K C fI f = true) : EC K mg x f fI C := by
  unfold ecB at h
  simp only [Bool.and_eq_true, decide_eq_true_eq] at h
  obtain ⟨⟨⟨h1, h2⟩, h3⟩, h4⟩ := h
  obtain ⟨x1, x2, x3⟩ := exB_ok h1
  exact ⟨gC, ⟨⟨_, _, _, _, _, _, _, _, _, _, _, _, _, _, _, _, _, _, _, hC, F.excBase_OverflowError, fun Y => rfl, mro_over C⟩, h2, x2⟩, h3, h4, x1, x3⟩
end
abbrev sHInit : Stmt := inClass (top 1) 0
abbrev sTInit : Stmt := inClass (top 13) 0
/-- self.f = v, self a new exception -/
def spInitE (K : PySem.W.Frag) (f : Str) : Sp := fun vs H Q _ => ∃ (a C : Addr) (v : V), vs = [.ref a, v] ∧ ExvC K C ∧ PySem.W.findIn K (.ref C) f = some none ∧ H a = some (exo a C none) ∧
  ∀ dx, H dx = none → dx ≠ a → Q .non (upd (upd H dx (exd dx [(f, v)])) a (exo a C (some dx)))
section
variable {P : Program} {w : World} {K : PySem.W.Frag} {mg : Str → Option Value} {base : Heap}
theorem scH : FnScope ["self", "value"] ["self", "value"] (defScope sHInit) := ⟨rfl, rfl, rfl, by decide +kernel, rfl, by decide +kernel, by decide +kernel⟩
theorem ok_hinit {f : Addr} {fd : FuncData} (F : Fun K "__init__" "HandleError.__init__" sHInit f fd) : FnOk P w K mg base CX0 1 f fd ["self", "value"] (spInitE K "value") := by
  refine F.ok scH (fun vs H Q E h => ?_) (fun cdv A outer s H vs Q E hr h => ?_)
  · obtain ⟨a, C, v, rfl, _⟩ := h
    rfl
  · obtain ⟨a, C, v, rfl, T, hno, ea, k⟩ := h
    refine ⟨_, pss_one (ps_stx (pv 0) (pv 1)), ?_⟩
    exact ⟨_, rfl, _, rfl, a, C, rfl, T, hno, ea, fun dx n ne => k dx n ne⟩
theorem scT : FnScope ["self", "limit"] ["self", "limit"] (defScope sTInit) := ⟨rfl, rfl, rfl, by decide +kernel, rfl, by decide +kernel, by decide +kernel⟩
theorem ok_tinit {f : Addr} {fd : FuncData} (F : Fun K "__init__" "TooMany.__init__" sTInit f fd) : FnOk P w K mg base CX0 1 f fd ["self", "limit"] (spInitE K "limit") := by
  refine F.ok scT (fun vs H Q E h => ?_) (fun cdv A outer s H vs Q E hr h => ?_)
  · obtain ⟨a, C, v, rfl, _⟩ := h
    rfl
  · obtain ⟨a, C, v, rfl, T, hno, ea, k⟩ := h
    refine ⟨_, pss_one (ps_stx (pv 0) (pv 1)), ?_⟩
    exact ⟨_, rfl, _, rfl, a, C, rfl, T, hno, ea, fun dx n ne => k dx n ne⟩
end
abbrev sWhich : Stmt := top 19
abbrev sFields : Stmt := top 20
abbrev sNamed : Stmt := top 21
abbrev sMade : Stmt := top 22
abbrev sLaw : Stmt := top 23
theorem _root_.L2.Same.new {H : Hp} {a : Addr} {o : HO} (h : H a = none) : Same H (upd H a o) := fun b u e => by
  rw [upd_ne (ne_of_none e h)]
  exact e
/-- all that the written part says of the errors -/
structure ETxt (K : PySem.W.Frag) (mg : Str → Option Value) (fH fT cH : Addr) (cs : List Addr) (fdH fdT : FuncData) : Prop where
  isi : mg "isinstance" = none
  reprN : mg "repr" = none
  ve : mg "ValueError" = none
  oe : mg "OverflowError" = none
  le : mg "LookupError" = none
  gH : mg "HandleError" = some (.ref cH)
  FH : Fun K "__init__" "HandleError.__init__" sHInit fH fdH
  FT : Fun K "__init__" "TooMany.__init__" sTInit fT fdT
  tH : PySem.W.typeIn K (.ref fH) = some (.type "function")
  tT : PySem.W.typeIn K (.ref fT) = some (.type "function")
  bH : ∀ (s : Shared) (r u : Value), BindsTo s fdH ⟨[r, u], []⟩ ((["self", "value"] : List Str).zip [r, u])
  kH : ∀ (s : Shared) (r u : Value), BindsTo s fdH ⟨[r], [("value", u)]⟩ ((["self", "value"] : List Str).zip [r, u])
  bT : ∀ (s : Shared) (r u : Value), BindsTo s fdT ⟨[r, u], []⟩ ((["self", "limit"] : List Str).zip [r, u])
  kT : ∀ (s : Shared) (r u : Value), BindsTo s fdT ⟨[r], [("limit", u)]⟩ ((["self", "limit"] : List Str).zip [r, u])
  len : cs.length = 13
  e0 : EC K mg "InvalidNumber" "value" fH (cs.getD 0 0)
  e1 : EC K mg "InvalidName" "value" fH (cs.getD 1 0)
  e2 : EC K mg "InvalidRow" "value" fH (cs.getD 2 0)
  e3 : EC K mg "InvalidSort" "value" fH (cs.getD 3 0)
  e4 : EC K mg "InvalidProgram" "value" fH (cs.getD 4 0)
  e5 : EC K mg "InvalidText" "value" fH (cs.getD 5 0)
  e6 : EC K mg "InvalidBook" "value" fH (cs.getD 6 0)
  e7 : EC K mg "InvalidHands" "value" fH (cs.getD 7 0)
  e8 : EC K mg "InvalidStep" "value" fH (cs.getD 8 0)
  e9 : EC K mg "InvalidEdit" "value" fH (cs.getD 9 0)
  e10 : EC K mg "InvalidCommand" "value" fH (cs.getD 10 0)
  e11 : EC K mg "TooMany" "limit" fT (cs.getD 11 0)
  gN : mg "NothingToUndo" = some (.ref (cs.getD 12 0))
  kN : PySem.W.keepIn K (.ref (cs.getD 12 0)) = true
  qN : PySem.W.excIn K (cs.getD 12 0) [.type "LookupError", .type "Exception", .type "BaseException", .type "object"] "LookupError.__new__" = true
  xN : ExcC K (cs.getD 12 0)
  kit : ∀ i j, i < 13 → j < 13 → PySem.W.kitOne K (.ref (cs.getD i 0)) (.ref (cs.getD j 0)) = some (decide (i = j))
  kitH : ∀ i, i < 13 → PySem.W.kitOne K (.ref (cs.getD i 0)) (.ref cH) = some (decide (i < 11))
  kitV : ∀ i, i < 13 → PySem.W.kitOne K (.ref (cs.getD i 0)) (.type "ValueError") = some (decide (i < 11))
  kitO : ∀ i, i < 13 → PySem.W.kitOne K (.ref (cs.getD i 0)) (.type "OverflowError") = some (decide (i = 11))
  kitL : ∀ i, i < 13 → PySem.W.kitOne K (.ref (cs.getD i 0)) (.type "LookupError") = some (decide (i = 12))
theorem ETxt.ex {K : PySem.W.Frag} {mg : Str → Option Value} {fH fT cH : Addr} {cs : List Addr} {fdH fdT : FuncData} (T : ETxt K mg fH fT cH cs fdH fdT) : ∀ i, i < 13 → ExcC K (cs.getD i 0)
  | 0, _ => T.e0.ex
  | 1, _ => T.e1.ex
  | 2, _ => T.e2.ex
  | 3, _ => T.e3.ex
  | 4, _ => T.e4.ex
  | 5, _ => T.e5.ex
  | 6, _ => T.e6.ex
  | 7, _ => T.e7.ex
  | 8, _ => T.e8.ex
  | 9, _ => T.e9.ex
  | 10, _ => T.e10.ex
  | 11, _ => T.e11.ex
  | 12, _ => T.xN
  | n + 13, h => absurd h (by omega)
/-- the readings -/
theorem rd_field {K : PySem.W.Frag} {mg : Str → Option Value} {x f : Str} {fI C : Addr} {σ : L2.St} {v : V} (hσ : σ[0]? = some (some v)) (E : EC K mg x f fI C) {Hc : Hp} {Q : V → Hp → Prop} (k : ∀ H', Same Hc H' → Q v H') :
    tFx K f (tExv C (spInitE K f) (tCons (tVar 0) tNil)) σ Hc Q := by
  refine ⟨v, hσ, rfl, fun a ha => ⟨a, C, v, rfl, E.T, E.no, upd_same, fun dx n ne => ⟨rfl, a, C, dx, v, rfl, E.xf, E.no, upd_same, by rw [upd_ne ne, upd_same], k _ fun b o e => ?_⟩⟩⟩
  have nx : (upd Hc a (exo a C none)) dx = none := n
  rw [upd_ne (ne_of_none e ha), upd_ne (ne_of_none ((Same.new ha) _ _ e) nx), upd_ne (ne_of_none e ha)]
  exact e
theorem rd_made {K : PySem.W.Frag} {mg : Str → Option Value} {x f : Str} {fI C : Addr} {σ : L2.St} {v : V} (hσ : σ[0]? = some (some v)) (E : EC K mg x f fI C) {Hc : Hp} {Q : V → Hp → Prop} (k : ∀ H' a, Same Hc H' → ExAt H' a C → Q (.ref a) H') :
    tExv C (spInitE K f) (tCons (tVar 0) tNil) σ Hc Q := by
  refine ⟨v, hσ, rfl, fun a ha => ⟨a, C, v, rfl, E.T, E.no, upd_same, fun dx n ne => ⟨rfl, k _ a (fun b o e => ?_) (.inl ⟨dx, _, upd_same, by rw [upd_ne ne, upd_same]⟩)⟩⟩⟩
  have nx : (upd Hc a (exo a C none)) dx = none := n
  rw [upd_ne (ne_of_none e ha), upd_ne (ne_of_none ((Same.new ha) _ _ e) nx), upd_ne (ne_of_none e ha)]
  exact e
theorem _root_.L2.ExAt.same {H H' : Hp} {a C : Addr} (h : ExAt H a C) (s : Same H H') : ExAt H' a C := by
  rcases h with ⟨d, fs, e1, e2⟩ | e
  · exact .inl ⟨d, fs, s _ _ e1, s _ _ e2⟩
  · exact .inr (s _ _ e)
def spFields : Sp := fun vs H Q _ => ∃ v, vs = [v] ∧ ∀ H' p, Same H H' → H' p = some (.lst (List.replicate 12 v)) → Q (.ref p) H'
def spMade (cs : List Addr) : Sp := fun vs H Q _ => ∃ v, vs = [v] ∧ ∀ H' p (as : List Addr), Same H H' → H' p = some (.lst (as.map V.ref)) → as.length = 13 → (∀ i a, as[i]? = some a → ExAt H' a (cs.getD i 0)) → Q (.ref p) H'
def whichL : List Str := ["number", "name", "row", "sort", "program", "text", "book", "hands", "step", "edit", "command", "many", "undo"]
def spWhich (cs : List Addr) : Sp := fun vs H Q _ => ∃ (a : Addr) (i : Nat), vs = [.ref a] ∧ i < 13 ∧ ExAt H a (cs.getD i 0) ∧ ∀ H', Same H H' → Q (.str (whichL.getD i "")) H'
section
variable {P : Program} {w : World} {K : PySem.W.Frag} {mg : Str → Option Value} {base : Heap} {fH fT cH : Addr} {cs : List Addr} {fdH fdT : FuncData}
theorem scFields : FnScope ["thing", "found"] ["thing"] (defScope sFields) := ⟨rfl, rfl, rfl, by decide +kernel, rfl, by decide +kernel, by decide +kernel⟩
theorem ok_fields {f : Addr} {fd : FuncData} (F : Fun K "_law_fields" "_law_fields" sFields f fd) (T : ETxt K mg fH fT cH cs fdH fdT) : FnOk P w K mg base CX0 3 f fd ["thing"] spFields := by
  have GH : FnOk P w K mg base CX0 1 fH fdH ["self", "value"] (spInitE K "value") := ok_hinit T.FH
  have GT : FnOk P w K mg base CX0 1 fT fdT ["self", "limit"] (spInitE K "limit") := ok_tinit T.FT
  refine F.ok scFields (fun vs H Q E h => ?_) (fun cdv A outer s H vs Q E hr h => ?_)
  · obtain ⟨v, rfl, _⟩ := h
    rfl
  · obtain ⟨v, rfl, k⟩ := h
    refine ⟨_, (pss_cons (ps_set (i := 1) scFields.nd rfl (.inl rfl) (pe_lst (pa_cons (pe_fx (pe_exv T.e0.T T.e0.iC T.tH GH hr T.bH pass0 (by rfl) T.e0.gC (pa_cons (pv 0) pa_nil))) (pa_cons (pe_fx (pe_exv T.e1.T T.e1.iC T.tH GH hr T.bH pass0 (by rfl) T.e1.gC (pa_cons (pv 0) pa_nil))) (pa_cons (pe_fx (pe_exv T.e2.T T.e2.iC T.tH GH hr T.bH pass0 (by rfl) T.e2.gC (pa_cons (pv 0) pa_nil))) (pa_cons (pe_fx (pe_exv T.e3.T T.e3.iC T.tH GH hr T.bH pass0 (by rfl) T.e3.gC (pa_cons (pv 0) pa_nil))) pa_nil))))))
      (pss_cons (ps_set (i := 1) scFields.nd rfl (.inl rfl) (pe_op op_cat (pv 1) (pe_lst (pa_cons (pe_fx (pe_exv T.e4.T T.e4.iC T.tH GH hr T.bH pass0 (by rfl) T.e4.gC (pa_cons (pv 0) pa_nil))) (pa_cons (pe_fx (pe_exv T.e5.T T.e5.iC T.tH GH hr T.bH pass0 (by rfl) T.e5.gC (pa_cons (pv 0) pa_nil))) (pa_cons (pe_fx (pe_exv T.e6.T T.e6.iC T.tH GH hr T.bH pass0 (by rfl) T.e6.gC (pa_cons (pv 0) pa_nil))) pa_nil))))))
      (pss_cons (ps_set (i := 1) scFields.nd rfl (.inl rfl) (pe_op op_cat (pv 1) (pe_lst (pa_cons (pe_fx (pe_exv T.e7.T T.e7.iC T.tH GH hr T.bH pass0 (by rfl) T.e7.gC (pa_cons (pv 0) pa_nil))) (pa_cons (pe_fx (pe_exv T.e8.T T.e8.iC T.tH GH hr T.bH pass0 (by rfl) T.e8.gC (pa_cons (pv 0) pa_nil))) (pa_cons (pe_fx (pe_exv T.e9.T T.e9.iC T.tH GH hr T.bH pass0 (by rfl) T.e9.gC (pa_cons (pv 0) pa_nil))) pa_nil))))))
      (pss_one (ps_ret (pe_op op_cat (pv 1) (pe_lst (pa_cons (pe_fx (pe_exv T.e10.T T.e10.iC T.tH GH hr T.bH pass0 (by rfl) T.e10.gC (pa_cons (pv 0) pa_nil))) (pa_cons (pe_fx (pe_exv T.e11.T T.e11.iC T.tT GT hr T.bT pass0 (by rfl) T.e11.gC (pa_cons (pv 0) pa_nil))) pa_nil))))))))), ?_⟩
    refine rd_field rfl T.e0 fun H0 s0 => rd_field rfl T.e1 fun H1 s1 => rd_field rfl T.e2 fun H2 s2 => rd_field rfl T.e3 fun H3 s3 => ⟨(by show 4 ≤ sizeLine; decide), fun p0 hp0 => ?_⟩
    have z0 : Same H (upd H3 p0 (.lst (List.replicate 4 v))) := (((s0.trans s1).trans s2).trans s3).trans (Same.new hp0)
    have f0 : (upd H3 p0 (.lst (List.replicate 4 v))) p0 = some (.lst (List.replicate 4 v)) := upd_same
    change Same H (upd H3 p0 (.lst [v, v, v, v])) at z0
    change (upd H3 p0 (.lst [v, v, v, v])) p0 = _ at f0
    generalize upd H3 p0 (.lst [v, v, v, v]) = G0 at *
    refine ⟨_, rfl, rd_field rfl T.e4 fun H4 s4 => rd_field rfl T.e5 fun H5 s5 => rd_field rfl T.e6 fun H6 s6 => ⟨(by show 3 ≤ sizeLine; decide), fun l1 hl1 => ⟨p0, l1, List.replicate 4 v, List.replicate 3 v, rfl, rfl, ?_, upd_same, (by show 7 ≤ sizeLine; decide), fun p1 hp1 => ?_⟩⟩⟩
    · exact (Same.new hl1) _ _ (((s4.trans s5).trans s6) _ _ f0)
    have z1 := (z0.trans ((s4.trans s5).trans s6)).trans ((Same.new (o := .lst (List.replicate 3 v)) hl1).trans (Same.new (o := .lst (List.replicate 4 v ++ List.replicate 3 v)) hp1))
    have f1 : (upd (upd H6 l1 (.lst (List.replicate 3 v))) p1 (.lst (List.replicate 4 v ++ List.replicate 3 v))) p1 = some (.lst (List.replicate 7 v)) := upd_same
    change Same H (upd (upd H6 l1 (.lst [v, v, v])) p1 (.lst (List.replicate 4 v ++ List.replicate 3 v))) at z1
    change (upd (upd H6 l1 (.lst [v, v, v])) p1 (.lst (List.replicate 4 v ++ List.replicate 3 v))) p1 = _ at f1
    generalize upd (upd H6 l1 (.lst [v, v, v])) p1 (.lst (List.replicate 4 v ++ List.replicate 3 v)) = G1 at *
    refine ⟨_, rfl, rd_field rfl T.e7 fun H7 s7 => rd_field rfl T.e8 fun H8 s8 => rd_field rfl T.e9 fun H9 s9 => ⟨(by show 3 ≤ sizeLine; decide), fun l2 hl2 => ⟨p1, l2, List.replicate 7 v, List.replicate 3 v, rfl, rfl, ?_, upd_same, (by show 10 ≤ sizeLine; decide), fun p2 hp2 => ?_⟩⟩⟩
    · exact (Same.new hl2) _ _ (((s7.trans s8).trans s9) _ _ f1)
    have z2 := (z1.trans ((s7.trans s8).trans s9)).trans ((Same.new (o := .lst (List.replicate 3 v)) hl2).trans (Same.new (o := .lst (List.replicate 7 v ++ List.replicate 3 v)) hp2))
    have f2 : (upd (upd H9 l2 (.lst (List.replicate 3 v))) p2 (.lst (List.replicate 7 v ++ List.replicate 3 v))) p2 = some (.lst (List.replicate 10 v)) := upd_same
    change Same H (upd (upd H9 l2 (.lst [v, v, v])) p2 (.lst (List.replicate 7 v ++ List.replicate 3 v))) at z2
    change (upd (upd H9 l2 (.lst [v, v, v])) p2 (.lst (List.replicate 7 v ++ List.replicate 3 v))) p2 = _ at f2
    generalize upd (upd H9 l2 (.lst [v, v, v])) p2 (.lst (List.replicate 7 v ++ List.replicate 3 v)) = G2 at *
    refine ⟨_, rfl, rd_field rfl T.e10 fun H10 s10 => rd_field rfl T.e11 fun H11 s11 => ⟨(by show 2 ≤ sizeLine; decide), fun l3 hl3 => ⟨p2, l3, List.replicate 10 v, List.replicate 2 v, rfl, rfl, ?_, upd_same, (by show 12 ≤ sizeLine; decide), fun p3 hp3 => ?_⟩⟩⟩
    · exact (Same.new hl3) _ _ ((s10.trans s11) _ _ f2)
    have z3 := (z2.trans (s10.trans s11)).trans ((Same.new (o := .lst (List.replicate 2 v)) hl3).trans (Same.new (o := .lst (List.replicate 10 v ++ List.replicate 2 v)) hp3))
    have f3 : (upd (upd H11 l3 (.lst (List.replicate 2 v))) p3 (.lst (List.replicate 10 v ++ List.replicate 2 v))) p3 = some (.lst (List.replicate 12 v)) := upd_same
    exact k _ p3 z3 f3
theorem scNamed : FnScope ["thing", "found"] ["thing"] (defScope sNamed) := ⟨rfl, rfl, rfl, by decide +kernel, rfl, by decide +kernel, by decide +kernel⟩
theorem ok_named {f : Addr} {fd : FuncData} (F : Fun K "_law_named_fields" "_law_named_fields" sNamed f fd) (T : ETxt K mg fH fT cH cs fdH fdT) : FnOk P w K mg base CX0 3 f fd ["thing"] spFields := by
  have GH : FnOk P w K mg base CX0 1 fH fdH ["self", "value"] (spInitE K "value") := ok_hinit T.FH
  have GT : FnOk P w K mg base CX0 1 fT fdT ["self", "limit"] (spInitE K "limit") := ok_tinit T.FT
  refine F.ok scNamed (fun vs H Q E h => ?_) (fun cdv A outer s H vs Q E hr h => ?_)
  · obtain ⟨v, rfl, _⟩ := h
    rfl
  · obtain ⟨v, rfl, k⟩ := h
    refine ⟨_, (pss_cons (ps_set (i := 1) scNamed.nd rfl (.inl rfl) (pe_lst (pa_cons (pe_fx (pe_exvK T.e0.T T.e0.iC T.tH GH hr T.kH pass0 (by rfl) T.e0.gC (pk_cons (pv 0) pk_nil))) (pa_cons (pe_fx (pe_exvK T.e1.T T.e1.iC T.tH GH hr T.kH pass0 (by rfl) T.e1.gC (pk_cons (pv 0) pk_nil))) (pa_cons (pe_fx (pe_exvK T.e2.T T.e2.iC T.tH GH hr T.kH pass0 (by rfl) T.e2.gC (pk_cons (pv 0) pk_nil))) pa_nil)))))
      (pss_cons (ps_set (i := 1) scNamed.nd rfl (.inl rfl) (pe_op op_cat (pv 1) (pe_lst (pa_cons (pe_fx (pe_exvK T.e3.T T.e3.iC T.tH GH hr T.kH pass0 (by rfl) T.e3.gC (pk_cons (pv 0) pk_nil))) (pa_cons (pe_fx (pe_exvK T.e4.T T.e4.iC T.tH GH hr T.kH pass0 (by rfl) T.e4.gC (pk_cons (pv 0) pk_nil))) (pa_cons (pe_fx (pe_exvK T.e5.T T.e5.iC T.tH GH hr T.kH pass0 (by rfl) T.e5.gC (pk_cons (pv 0) pk_nil))) pa_nil))))))
      (pss_cons (ps_set (i := 1) scNamed.nd rfl (.inl rfl) (pe_op op_cat (pv 1) (pe_lst (pa_cons (pe_fx (pe_exvK T.e6.T T.e6.iC T.tH GH hr T.kH pass0 (by rfl) T.e6.gC (pk_cons (pv 0) pk_nil))) (pa_cons (pe_fx (pe_exvK T.e7.T T.e7.iC T.tH GH hr T.kH pass0 (by rfl) T.e7.gC (pk_cons (pv 0) pk_nil))) (pa_cons (pe_fx (pe_exvK T.e8.T T.e8.iC T.tH GH hr T.kH pass0 (by rfl) T.e8.gC (pk_cons (pv 0) pk_nil))) pa_nil))))))
      (pss_one (ps_ret (pe_op op_cat (pv 1) (pe_lst (pa_cons (pe_fx (pe_exvK T.e9.T T.e9.iC T.tH GH hr T.kH pass0 (by rfl) T.e9.gC (pk_cons (pv 0) pk_nil))) (pa_cons (pe_fx (pe_exvK T.e10.T T.e10.iC T.tH GH hr T.kH pass0 (by rfl) T.e10.gC (pk_cons (pv 0) pk_nil))) (pa_cons (pe_fx (pe_exvK T.e11.T T.e11.iC T.tT GT hr T.kT pass0 (by rfl) T.e11.gC (pk_cons (pv 0) pk_nil))) pa_nil)))))))))), ?_⟩
    refine rd_field rfl T.e0 fun H0 s0 => rd_field rfl T.e1 fun H1 s1 => rd_field rfl T.e2 fun H2 s2 => ⟨(by show 3 ≤ sizeLine; decide), fun p0 hp0 => ?_⟩
    have z0 : Same H (upd H2 p0 (.lst (List.replicate 3 v))) := ((s0.trans s1).trans s2).trans (Same.new hp0)
    have f0 : (upd H2 p0 (.lst (List.replicate 3 v))) p0 = some (.lst (List.replicate 3 v)) := upd_same
    change Same H (upd H2 p0 (.lst [v, v, v])) at z0
    change (upd H2 p0 (.lst [v, v, v])) p0 = _ at f0
    generalize upd H2 p0 (.lst [v, v, v]) = G0 at *
    refine ⟨_, rfl, rd_field rfl T.e3 fun H3 s3 => rd_field rfl T.e4 fun H4 s4 => rd_field rfl T.e5 fun H5 s5 => ⟨(by show 3 ≤ sizeLine; decide), fun l1 hl1 => ⟨p0, l1, List.replicate 3 v, List.replicate 3 v, rfl, rfl, ?_, upd_same, (by show 6 ≤ sizeLine; decide), fun p1 hp1 => ?_⟩⟩⟩
    · exact (Same.new hl1) _ _ (((s3.trans s4).trans s5) _ _ f0)
    have z1 := (z0.trans ((s3.trans s4).trans s5)).trans ((Same.new (o := .lst (List.replicate 3 v)) hl1).trans (Same.new (o := .lst (List.replicate 3 v ++ List.replicate 3 v)) hp1))
    have f1 : (upd (upd H5 l1 (.lst (List.replicate 3 v))) p1 (.lst (List.replicate 3 v ++ List.replicate 3 v))) p1 = some (.lst (List.replicate 6 v)) := upd_same
    change Same H (upd (upd H5 l1 (.lst [v, v, v])) p1 (.lst (List.replicate 3 v ++ List.replicate 3 v))) at z1
    change (upd (upd H5 l1 (.lst [v, v, v])) p1 (.lst (List.replicate 3 v ++ List.replicate 3 v))) p1 = _ at f1
    generalize upd (upd H5 l1 (.lst [v, v, v])) p1 (.lst (List.replicate 3 v ++ List.replicate 3 v)) = G1 at *
    refine ⟨_, rfl, rd_field rfl T.e6 fun H6 s6 => rd_field rfl T.e7 fun H7 s7 => rd_field rfl T.e8 fun H8 s8 => ⟨(by show 3 ≤ sizeLine; decide), fun l2 hl2 => ⟨p1, l2, List.replicate 6 v, List.replicate 3 v, rfl, rfl, ?_, upd_same, (by show 9 ≤ sizeLine; decide), fun p2 hp2 => ?_⟩⟩⟩
    · exact (Same.new hl2) _ _ (((s6.trans s7).trans s8) _ _ f1)
    have z2 := (z1.trans ((s6.trans s7).trans s8)).trans ((Same.new (o := .lst (List.replicate 3 v)) hl2).trans (Same.new (o := .lst (List.replicate 6 v ++ List.replicate 3 v)) hp2))
    have f2 : (upd (upd H8 l2 (.lst (List.replicate 3 v))) p2 (.lst (List.replicate 6 v ++ List.replicate 3 v))) p2 = some (.lst (List.replicate 9 v)) := upd_same
    change Same H (upd (upd H8 l2 (.lst [v, v, v])) p2 (.lst (List.replicate 6 v ++ List.replicate 3 v))) at z2
    change (upd (upd H8 l2 (.lst [v, v, v])) p2 (.lst (List.replicate 6 v ++ List.replicate 3 v))) p2 = _ at f2
    generalize upd (upd H8 l2 (.lst [v, v, v])) p2 (.lst (List.replicate 6 v ++ List.replicate 3 v)) = G2 at *
    refine ⟨_, rfl, rd_field rfl T.e9 fun H9 s9 => rd_field rfl T.e10 fun H10 s10 => rd_field rfl T.e11 fun H11 s11 => ⟨(by show 3 ≤ sizeLine; decide), fun l3 hl3 => ⟨p2, l3, List.replicate 9 v, List.replicate 3 v, rfl, rfl, ?_, upd_same, (by show 12 ≤ sizeLine; decide), fun p3 hp3 => ?_⟩⟩⟩
    · exact (Same.new hl3) _ _ (((s9.trans s10).trans s11) _ _ f2)
    have z3 := (z2.trans ((s9.trans s10).trans s11)).trans ((Same.new (o := .lst (List.replicate 3 v)) hl3).trans (Same.new (o := .lst (List.replicate 9 v ++ List.replicate 3 v)) hp3))
    have f3 : (upd (upd H11 l3 (.lst (List.replicate 3 v))) p3 (.lst (List.replicate 9 v ++ List.replicate 3 v))) p3 = some (.lst (List.replicate 12 v)) := upd_same
    exact k _ p3 z3 f3
end
section
variable {P : Program} {w : World} {K : PySem.W.Frag} {mg : Str → Option Value} {base : Heap} {fH fT cH : Addr} {cs : List Addr} {fdH fdT : FuncData}
/-- the first errors of the list, by their classes -/
def ErrL (H : Hp) (cs : List Addr) (as : List Addr) : Prop := ∀ i a, as[i]? = some a → ExAt H a (cs.getD i 0)
theorem ErrL.same {H H' : Hp} {cs as : List Addr} (h : ErrL H cs as) (s : Same H H') : ErrL H' cs as := fun i a e => (h i a e).same s
theorem ErrL.nil {H : Hp} {cs : List Addr} : ErrL H cs [] := fun i a e => by simp at e
theorem ErrL.snoc {H : Hp} {cs as : List Addr} {a : Addr} (h : ErrL H cs as) (e : ExAt H a (cs.getD as.length 0)) : ErrL H cs (as ++ [a]) := fun i b q => by
  by_cases hi : i < as.length
  · rw [List.getElem?_append_left hi] at q
    exact h i b q
  · rw [List.getElem?_append_right (by omega)] at q
    have e0 : i - as.length = 0 := by
      cases z : i - as.length with
      | zero => rfl
      | succ m =>
        rw [z] at q
        simp at q
    rw [e0] at q
    have e1 : i = as.length := by omega
    rw [e1]
    cases q
    exact e
theorem mk_same {H : Hp} {a C dx : Addr} {f : Str} {v : V} (ha : H a = none) (n : (upd H a (exo a C none)) dx = none) (ne : dx ≠ a) :
    Same H (upd (upd (upd H a (exo a C none)) dx (exd dx [(f, v)])) a (exo a C (some dx))) ∧ ExAt (upd (upd (upd H a (exo a C none)) dx (exd dx [(f, v)])) a (exo a C (some dx))) a C := by
  refine ⟨fun b o e => ?_, .inl ⟨dx, _, upd_same, by rw [upd_ne ne, upd_same]⟩⟩
  rw [upd_ne (ne_of_none e ha), upd_ne (ne_of_none ((Same.new ha) _ _ e) n), upd_ne (ne_of_none e ha)]
  exact e
theorem scMade : FnScope ["thing", "found"] ["thing"] (defScope sMade) := ⟨rfl, rfl, rfl, by decide +kernel, rfl, by decide +kernel, by decide +kernel⟩
theorem ok_made {f : Addr} {fd : FuncData} (F : Fun K "_law_made_errors" "_law_made_errors" sMade f fd) (T : ETxt K mg fH fT cH cs fdH fdT) : FnOk P w K mg base CX0 3 f fd ["thing"] (spMade cs) := by
  have GH : FnOk P w K mg base CX0 1 fH fdH ["self", "value"] (spInitE K "value") := ok_hinit T.FH
  have GT : FnOk P w K mg base CX0 1 fT fdT ["self", "limit"] (spInitE K "limit") := ok_tinit T.FT
  refine F.ok scMade (fun vs H Q E h => ?_) (fun cdv A outer s H vs Q E hr h => ?_)
  · obtain ⟨v, rfl, _⟩ := h
    rfl
  · obtain ⟨v, rfl, k⟩ := h
    refine ⟨_, (pss_cons (ps_set (i := 1) scMade.nd rfl (.inl rfl) (pe_lst (pa_cons (pe_exv T.e0.T T.e0.iC T.tH GH hr T.bH pass0 (by rfl) T.e0.gC (pa_cons (pv 0) pa_nil)) (pa_cons (pe_exv T.e1.T T.e1.iC T.tH GH hr T.bH pass0 (by rfl) T.e1.gC (pa_cons (pv 0) pa_nil)) (pa_cons (pe_exv T.e2.T T.e2.iC T.tH GH hr T.bH pass0 (by rfl) T.e2.gC (pa_cons (pv 0) pa_nil)) (pa_cons (pe_exv T.e3.T T.e3.iC T.tH GH hr T.bH pass0 (by rfl) T.e3.gC (pa_cons (pv 0) pa_nil)) (pa_cons (pe_exv T.e4.T T.e4.iC T.tH GH hr T.bH pass0 (by rfl) T.e4.gC (pa_cons (pv 0) pa_nil)) pa_nil)))))))
      (pss_cons (ps_set (i := 1) scMade.nd rfl (.inl rfl) (pe_op op_cat (pv 1) (pe_lst (pa_cons (pe_exv T.e5.T T.e5.iC T.tH GH hr T.bH pass0 (by rfl) T.e5.gC (pa_cons (pv 0) pa_nil)) (pa_cons (pe_exv T.e6.T T.e6.iC T.tH GH hr T.bH pass0 (by rfl) T.e6.gC (pa_cons (pv 0) pa_nil)) (pa_cons (pe_exv T.e7.T T.e7.iC T.tH GH hr T.bH pass0 (by rfl) T.e7.gC (pa_cons (pv 0) pa_nil)) (pa_cons (pe_exv T.e8.T T.e8.iC T.tH GH hr T.bH pass0 (by rfl) T.e8.gC (pa_cons (pv 0) pa_nil)) pa_nil)))))))
      (pss_one (ps_ret (pe_op op_cat (pv 1) (pe_lst (pa_cons (pe_exv T.e9.T T.e9.iC T.tH GH hr T.bH pass0 (by rfl) T.e9.gC (pa_cons (pv 0) pa_nil)) (pa_cons (pe_exv T.e10.T T.e10.iC T.tH GH hr T.bH pass0 (by rfl) T.e10.gC (pa_cons (pv 0) pa_nil)) (pa_cons (pe_exv T.e11.T T.e11.iC T.tT GT hr T.bT pass0 (by rfl) T.e11.gC (pa_cons (pv 0) pa_nil)) (pa_cons (pe_exv0 PySem.F.excBase_LookupError T.qN T.gN T.kN (by rfl)) pa_nil)))))))))), ?_⟩
    refine ⟨v, rfl, rfl, fun a0 ha0 => ⟨a0, _, v, rfl, T.e0.T, T.e0.no, upd_same, fun d0 n0 ne0 => ⟨rfl, ?_⟩⟩⟩
    obtain ⟨s0, x0⟩ := mk_same (C := (cs.getD 0 0)) (f := "value") (v := v) ha0 n0 ne0
    generalize upd (upd (upd H a0 (exo a0 (cs.getD 0 0) none)) d0 (exd d0 [("value", v)])) a0 (exo a0 (cs.getD 0 0) (some d0)) = H0 at *
    refine ⟨v, rfl, rfl, fun a1 ha1 => ⟨a1, _, v, rfl, T.e1.T, T.e1.no, upd_same, fun d1 n1 ne1 => ⟨rfl, ?_⟩⟩⟩
    obtain ⟨s1, x1⟩ := mk_same (C := (cs.getD 1 0)) (f := "value") (v := v) ha1 n1 ne1
    generalize upd (upd (upd H0 a1 (exo a1 (cs.getD 1 0) none)) d1 (exd d1 [("value", v)])) a1 (exo a1 (cs.getD 1 0) (some d1)) = H1 at *
    refine ⟨v, rfl, rfl, fun a2 ha2 => ⟨a2, _, v, rfl, T.e2.T, T.e2.no, upd_same, fun d2 n2 ne2 => ⟨rfl, ?_⟩⟩⟩
    obtain ⟨s2, x2⟩ := mk_same (C := (cs.getD 2 0)) (f := "value") (v := v) ha2 n2 ne2
    generalize upd (upd (upd H1 a2 (exo a2 (cs.getD 2 0) none)) d2 (exd d2 [("value", v)])) a2 (exo a2 (cs.getD 2 0) (some d2)) = H2 at *
    refine ⟨v, rfl, rfl, fun a3 ha3 => ⟨a3, _, v, rfl, T.e3.T, T.e3.no, upd_same, fun d3 n3 ne3 => ⟨rfl, ?_⟩⟩⟩
    obtain ⟨s3, x3⟩ := mk_same (C := (cs.getD 3 0)) (f := "value") (v := v) ha3 n3 ne3
    generalize upd (upd (upd H2 a3 (exo a3 (cs.getD 3 0) none)) d3 (exd d3 [("value", v)])) a3 (exo a3 (cs.getD 3 0) (some d3)) = H3 at *
    refine ⟨v, rfl, rfl, fun a4 ha4 => ⟨a4, _, v, rfl, T.e4.T, T.e4.no, upd_same, fun d4 n4 ne4 => ⟨rfl, ?_⟩⟩⟩
    obtain ⟨s4, x4⟩ := mk_same (C := (cs.getD 4 0)) (f := "value") (v := v) ha4 n4 ne4
    generalize upd (upd (upd H3 a4 (exo a4 (cs.getD 4 0) none)) d4 (exd d4 [("value", v)])) a4 (exo a4 (cs.getD 4 0) (some d4)) = H4 at *
    refine ⟨(by show 5 ≤ sizeLine; decide), fun p0 hp0 => ?_⟩
    have z0 := ((((s0.trans s1).trans s2).trans s3).trans s4).trans (Same.new (o := .lst [.ref a0, .ref a1, .ref a2, .ref a3, .ref a4]) hp0)
    have f0 : (upd H4 p0 (.lst [.ref a0, .ref a1, .ref a2, .ref a3, .ref a4])) p0 = _ := upd_same
    have y0 : ErrL (upd H4 p0 (.lst [.ref a0, .ref a1, .ref a2, .ref a3, .ref a4])) cs [] := ErrL.nil
    have r0 : ErrL (upd H4 p0 (.lst [.ref a0, .ref a1, .ref a2, .ref a3, .ref a4])) cs [a0, a1, a2, a3, a4] := (ErrL.snoc (ErrL.snoc (ErrL.snoc (ErrL.snoc (ErrL.snoc y0 (x0.same ((((s1.trans s2).trans s3).trans s4).trans (Same.new hp0)))) (x1.same (((s2.trans s3).trans s4).trans (Same.new hp0)))) (x2.same ((s3.trans s4).trans (Same.new hp0)))) (x3.same (s4.trans (Same.new hp0)))) (x4.same (Same.new hp0)))
    have Z0 := z0
    clear y0
    generalize upd H4 p0 (.lst [.ref a0, .ref a1, .ref a2, .ref a3, .ref a4]) = G0 at *
    refine ⟨_, rfl, ?_⟩
    refine ⟨v, rfl, rfl, fun a5 ha5 => ⟨a5, _, v, rfl, T.e5.T, T.e5.no, upd_same, fun d5 n5 ne5 => ⟨rfl, ?_⟩⟩⟩
    obtain ⟨s5, x5⟩ := mk_same (C := (cs.getD 5 0)) (f := "value") (v := v) ha5 n5 ne5
    generalize upd (upd (upd G0 a5 (exo a5 (cs.getD 5 0) none)) d5 (exd d5 [("value", v)])) a5 (exo a5 (cs.getD 5 0) (some d5)) = H5 at *
    refine ⟨v, rfl, rfl, fun a6 ha6 => ⟨a6, _, v, rfl, T.e6.T, T.e6.no, upd_same, fun d6 n6 ne6 => ⟨rfl, ?_⟩⟩⟩
    obtain ⟨s6, x6⟩ := mk_same (C := (cs.getD 6 0)) (f := "value") (v := v) ha6 n6 ne6
    generalize upd (upd (upd H5 a6 (exo a6 (cs.getD 6 0) none)) d6 (exd d6 [("value", v)])) a6 (exo a6 (cs.getD 6 0) (some d6)) = H6 at *
    refine ⟨v, rfl, rfl, fun a7 ha7 => ⟨a7, _, v, rfl, T.e7.T, T.e7.no, upd_same, fun d7 n7 ne7 => ⟨rfl, ?_⟩⟩⟩
    obtain ⟨s7, x7⟩ := mk_same (C := (cs.getD 7 0)) (f := "value") (v := v) ha7 n7 ne7
    generalize upd (upd (upd H6 a7 (exo a7 (cs.getD 7 0) none)) d7 (exd d7 [("value", v)])) a7 (exo a7 (cs.getD 7 0) (some d7)) = H7 at *
    refine ⟨v, rfl, rfl, fun a8 ha8 => ⟨a8, _, v, rfl, T.e8.T, T.e8.no, upd_same, fun d8 n8 ne8 => ⟨rfl, ?_⟩⟩⟩
    obtain ⟨s8, x8⟩ := mk_same (C := (cs.getD 8 0)) (f := "value") (v := v) ha8 n8 ne8
    generalize upd (upd (upd H7 a8 (exo a8 (cs.getD 8 0) none)) d8 (exd d8 [("value", v)])) a8 (exo a8 (cs.getD 8 0) (some d8)) = H8 at *
    refine ⟨(by show 4 ≤ sizeLine; decide), fun l1 hl1 => ⟨p0, l1, [.ref a0, .ref a1, .ref a2, .ref a3, .ref a4], [.ref a5, .ref a6, .ref a7, .ref a8], rfl, rfl, (Same.new hl1) _ _ ((((s5.trans s6).trans s7).trans s8) _ _ f0), upd_same, (by show 9 ≤ sizeLine; decide), fun p1 hp1 => ?_⟩⟩
    have z1 := (((s5.trans s6).trans s7).trans s8).trans ((Same.new (o := .lst [.ref a5, .ref a6, .ref a7, .ref a8]) hl1).trans (Same.new (o := .lst ([.ref a0, .ref a1, .ref a2, .ref a3, .ref a4] ++ [.ref a5, .ref a6, .ref a7, .ref a8])) hp1))
    have f1 : (upd (upd H8 l1 (.lst [.ref a5, .ref a6, .ref a7, .ref a8])) p1 (.lst ([.ref a0, .ref a1, .ref a2, .ref a3, .ref a4] ++ [.ref a5, .ref a6, .ref a7, .ref a8]))) p1 = _ := upd_same
    have y1 : ErrL (upd (upd H8 l1 (.lst [.ref a5, .ref a6, .ref a7, .ref a8])) p1 (.lst ([.ref a0, .ref a1, .ref a2, .ref a3, .ref a4] ++ [.ref a5, .ref a6, .ref a7, .ref a8]))) cs [a0, a1, a2, a3, a4] := (r0.same z1)
    have r1 : ErrL (upd (upd H8 l1 (.lst [.ref a5, .ref a6, .ref a7, .ref a8])) p1 (.lst ([.ref a0, .ref a1, .ref a2, .ref a3, .ref a4] ++ [.ref a5, .ref a6, .ref a7, .ref a8]))) cs [a0, a1, a2, a3, a4, a5, a6, a7, a8] := (ErrL.snoc (ErrL.snoc (ErrL.snoc (ErrL.snoc y1 (x5.same (((s6.trans s7).trans s8).trans ((Same.new hl1).trans (Same.new hp1))))) (x6.same ((s7.trans s8).trans ((Same.new hl1).trans (Same.new hp1))))) (x7.same (s8.trans ((Same.new hl1).trans (Same.new hp1))))) (x8.same ((Same.new hl1).trans (Same.new hp1))))
    have Z1 := Z0.trans z1
    clear y1
    generalize upd (upd H8 l1 (.lst [.ref a5, .ref a6, .ref a7, .ref a8])) p1 (.lst ([.ref a0, .ref a1, .ref a2, .ref a3, .ref a4] ++ [.ref a5, .ref a6, .ref a7, .ref a8])) = G1 at *
    refine ⟨_, rfl, ?_⟩
    refine ⟨v, rfl, rfl, fun a9 ha9 => ⟨a9, _, v, rfl, T.e9.T, T.e9.no, upd_same, fun d9 n9 ne9 => ⟨rfl, ?_⟩⟩⟩
    obtain ⟨s9, x9⟩ := mk_same (C := (cs.getD 9 0)) (f := "value") (v := v) ha9 n9 ne9
    generalize upd (upd (upd G1 a9 (exo a9 (cs.getD 9 0) none)) d9 (exd d9 [("value", v)])) a9 (exo a9 (cs.getD 9 0) (some d9)) = H9 at *
    refine ⟨v, rfl, rfl, fun a10 ha10 => ⟨a10, _, v, rfl, T.e10.T, T.e10.no, upd_same, fun d10 n10 ne10 => ⟨rfl, ?_⟩⟩⟩
    obtain ⟨s10, x10⟩ := mk_same (C := (cs.getD 10 0)) (f := "value") (v := v) ha10 n10 ne10
    generalize upd (upd (upd H9 a10 (exo a10 (cs.getD 10 0) none)) d10 (exd d10 [("value", v)])) a10 (exo a10 (cs.getD 10 0) (some d10)) = H10 at *
    refine ⟨v, rfl, rfl, fun a11 ha11 => ⟨a11, _, v, rfl, T.e11.T, T.e11.no, upd_same, fun d11 n11 ne11 => ⟨rfl, ?_⟩⟩⟩
    obtain ⟨s11, x11⟩ := mk_same (C := (cs.getD 11 0)) (f := "limit") (v := v) ha11 n11 ne11
    generalize upd (upd (upd H10 a11 (exo a11 (cs.getD 11 0) none)) d11 (exd d11 [("limit", v)])) a11 (exo a11 (cs.getD 11 0) (some d11)) = H11 at *
    refine fun a12 na12 => ?_
    refine ⟨(by show 4 ≤ sizeLine; decide), fun l2 hl2 => ⟨p1, l2, [.ref a0, .ref a1, .ref a2, .ref a3, .ref a4, .ref a5, .ref a6, .ref a7, .ref a8], [.ref a9, .ref a10, .ref a11, .ref a12], rfl, rfl, (Same.new hl2) _ _ ((((s9.trans s10).trans s11).trans (Same.new (o := ExO (.ref (cs.getD 12 0)) a12) na12)) _ _ f1), upd_same, (by show 13 ≤ sizeLine; decide), fun p2 hp2 => ?_⟩⟩
    have z2 := (((s9.trans s10).trans s11).trans (Same.new (o := ExO (.ref (cs.getD 12 0)) a12) na12)).trans ((Same.new (o := .lst [.ref a9, .ref a10, .ref a11, .ref a12]) hl2).trans (Same.new (o := .lst ([.ref a0, .ref a1, .ref a2, .ref a3, .ref a4, .ref a5, .ref a6, .ref a7, .ref a8] ++ [.ref a9, .ref a10, .ref a11, .ref a12])) hp2))
    have f2 : (upd (upd (upd H11 a12 (ExO (.ref (cs.getD 12 0)) a12)) l2 (.lst [.ref a9, .ref a10, .ref a11, .ref a12])) p2 (.lst ([.ref a0, .ref a1, .ref a2, .ref a3, .ref a4, .ref a5, .ref a6, .ref a7, .ref a8] ++ [.ref a9, .ref a10, .ref a11, .ref a12]))) p2 = _ := upd_same
    have y2 : ErrL (upd (upd (upd H11 a12 (ExO (.ref (cs.getD 12 0)) a12)) l2 (.lst [.ref a9, .ref a10, .ref a11, .ref a12])) p2 (.lst ([.ref a0, .ref a1, .ref a2, .ref a3, .ref a4, .ref a5, .ref a6, .ref a7, .ref a8] ++ [.ref a9, .ref a10, .ref a11, .ref a12]))) cs [a0, a1, a2, a3, a4, a5, a6, a7, a8] := (r1.same z2)
    have r2 : ErrL (upd (upd (upd H11 a12 (ExO (.ref (cs.getD 12 0)) a12)) l2 (.lst [.ref a9, .ref a10, .ref a11, .ref a12])) p2 (.lst ([.ref a0, .ref a1, .ref a2, .ref a3, .ref a4, .ref a5, .ref a6, .ref a7, .ref a8] ++ [.ref a9, .ref a10, .ref a11, .ref a12]))) cs [a0, a1, a2, a3, a4, a5, a6, a7, a8, a9, a10, a11, a12] := (ErrL.snoc (ErrL.snoc (ErrL.snoc (ErrL.snoc y2 (x9.same (((s10.trans s11).trans (Same.new (o := ExO (.ref (cs.getD 12 0)) a12) na12)).trans ((Same.new hl2).trans (Same.new hp2))))) (x10.same ((s11.trans (Same.new (o := ExO (.ref (cs.getD 12 0)) a12) na12)).trans ((Same.new hl2).trans (Same.new hp2))))) (x11.same ((Same.new (o := ExO (.ref (cs.getD 12 0)) a12) na12).trans ((Same.new hl2).trans (Same.new hp2))))) ((ExAt.same (.inr upd_same) ((Same.new hl2).trans (Same.new hp2)))))
    exact k _ p2 [a0, a1, a2, a3, a4, a5, a6, a7, a8, a9, a10, a11, a12] (Z1.trans z2) f2 rfl r2
theorem scWhich : FnScope ["error", "kinds", "names"] ["error"] (defScope sWhich) := ⟨rfl, rfl, rfl, by decide +kernel, rfl, by decide +kernel, by decide +kernel⟩
def kindsL (i : Nat) (n : Nat) : List V := (List.range n).map fun j => V.bl (decide (i = j))
theorem ok_which {f : Addr} {fd : FuncData} (F : Fun K "_law_which" "_law_which" sWhich f fd) (T : ETxt K mg fH fT cH cs fdH fdT) : FnOk P w K mg base CX0 1 f fd ["error"] (spWhich cs) := by
  refine F.ok scWhich (fun vs H Q E h => ?_) (fun cdv A outer s H vs Q E hr h => ?_)
  · obtain ⟨a, i, rfl, _⟩ := h
    rfl
  · obtain ⟨a, i, rfl, hi, hx, k⟩ := h
    have hex := T.ex i hi
    refine ⟨_, (pss_cons (ps_set (i := 1) scWhich.nd rfl (.inl rfl) (pe_lst (pa_cons (pe_callB call_isV (by rfl) T.isi (by decide +kernel) (pa_cons (pv 0) (pa_cons (pe_glob (v := .ref (cs.getD 0 0)) rfl T.e0.gC rfl) pa_nil))) (pa_cons (pe_callB call_isV (by rfl) T.isi (by decide +kernel) (pa_cons (pv 0) (pa_cons (pe_glob (v := .ref (cs.getD 1 0)) rfl T.e1.gC rfl) pa_nil))) (pa_cons (pe_callB call_isV (by rfl) T.isi (by decide +kernel) (pa_cons (pv 0) (pa_cons (pe_glob (v := .ref (cs.getD 2 0)) rfl T.e2.gC rfl) pa_nil))) pa_nil)))))
      (pss_cons (ps_set (i := 1) scWhich.nd rfl (.inl rfl) (pe_op op_cat (pv 1) (pe_lst (pa_cons (pe_callB call_isV (by rfl) T.isi (by decide +kernel) (pa_cons (pv 0) (pa_cons (pe_glob (v := .ref (cs.getD 3 0)) rfl T.e3.gC rfl) pa_nil))) (pa_cons (pe_callB call_isV (by rfl) T.isi (by decide +kernel) (pa_cons (pv 0) (pa_cons (pe_glob (v := .ref (cs.getD 4 0)) rfl T.e4.gC rfl) pa_nil))) (pa_cons (pe_callB call_isV (by rfl) T.isi (by decide +kernel) (pa_cons (pv 0) (pa_cons (pe_glob (v := .ref (cs.getD 5 0)) rfl T.e5.gC rfl) pa_nil))) pa_nil))))))
      (pss_cons (ps_set (i := 1) scWhich.nd rfl (.inl rfl) (pe_op op_cat (pv 1) (pe_lst (pa_cons (pe_callB call_isV (by rfl) T.isi (by decide +kernel) (pa_cons (pv 0) (pa_cons (pe_glob (v := .ref (cs.getD 6 0)) rfl T.e6.gC rfl) pa_nil))) (pa_cons (pe_callB call_isV (by rfl) T.isi (by decide +kernel) (pa_cons (pv 0) (pa_cons (pe_glob (v := .ref (cs.getD 7 0)) rfl T.e7.gC rfl) pa_nil))) (pa_cons (pe_callB call_isV (by rfl) T.isi (by decide +kernel) (pa_cons (pv 0) (pa_cons (pe_glob (v := .ref (cs.getD 8 0)) rfl T.e8.gC rfl) pa_nil))) pa_nil))))))
      (pss_cons (ps_set (i := 1) scWhich.nd rfl (.inl rfl) (pe_op op_cat (pv 1) (pe_lst (pa_cons (pe_callB call_isV (by rfl) T.isi (by decide +kernel) (pa_cons (pv 0) (pa_cons (pe_glob (v := .ref (cs.getD 9 0)) rfl T.e9.gC rfl) pa_nil))) (pa_cons (pe_callB call_isV (by rfl) T.isi (by decide +kernel) (pa_cons (pv 0) (pa_cons (pe_glob (v := .ref (cs.getD 10 0)) rfl T.e10.gC rfl) pa_nil))) (pa_cons (pe_callB call_isV (by rfl) T.isi (by decide +kernel) (pa_cons (pv 0) (pa_cons (pe_glob (v := .ref (cs.getD 11 0)) rfl T.e11.gC rfl) pa_nil))) pa_nil))))))
      (pss_cons (ps_set (i := 1) scWhich.nd rfl (.inl rfl) (pe_op op_cat (pv 1) (pe_lst (pa_cons (pe_callB call_isV (by rfl) T.isi (by decide +kernel) (pa_cons (pv 0) (pa_cons (pe_glob (v := .ref (cs.getD 12 0)) rfl T.gN rfl) pa_nil))) pa_nil))))
      (pss_cons (ps_if (PW.pt (pw_or (pt_cmpR op_ne (pe_bm PySem.F.plainAttrs_list PySem.F.slot_list_count PySem.F.type_list_count mt_count (pv 1) (pa_cons pe_bl pa_nil)) pe_int (nomark _)) (pw_or1 (pt_cmpR op_ne (pe_callB call_isV (by rfl) T.isi (by decide +kernel) (pa_cons (pv 0) (pa_cons (pe_glob (v := .ref cH) rfl T.gH rfl) pa_nil))) (pe_cmpR op_lt (pe_bm PySem.F.plainAttrs_list PySem.F.slot_list_index PySem.F.type_list_index mt_index (pv 1) (pa_cons pe_bl pa_nil)) pe_int (nomark _)) (by rfl))))) (pss_one (ps_ret pe_str)) pss_nil)
      (pss_cons (ps_set (i := 2) scWhich.nd rfl (.inl rfl) (pe_lst (pa_cons pe_str (pa_cons pe_str (pa_cons pe_str (pa_cons pe_str (pa_cons pe_str (pa_cons pe_str (pa_cons pe_str (pa_cons pe_str (pa_cons pe_str (pa_cons pe_str (pa_cons pe_str (pa_cons pe_str pa_nil))))))))))))))
      (pss_one (ps_ret (pe_ix ix_list (pe_op op_cat (pv 2) (pe_lst (pa_cons pe_str pa_nil))) (pe_bm PySem.F.plainAttrs_list PySem.F.slot_list_index PySem.F.type_list_index mt_index (pv 1) (pa_cons pe_bl pa_nil)) (fun _ _ => rfl))))))))))), ?_⟩
    refine ⟨_, rfl, a, _, .ref _, _, decide (i = 0), rfl, hx, hex, .own _, T.kit i 0 hi (by decide), ⟨_, rfl, a, _, .ref _, _, decide (i = 1), rfl, hx, hex, .own _, T.kit i 1 hi (by decide), ⟨_, rfl, a, _, .ref _, _, decide (i = 2), rfl, hx, hex, .own _, T.kit i 2 hi (by decide), (by show 3 ≤ sizeLine; decide), fun p0 hp0 => ?_⟩⟩⟩
    have z0 : Same H (upd H p0 (.lst [V.bl (decide (i = 0)), V.bl (decide (i = 1)), V.bl (decide (i = 2))])) := Same.new hp0
    have f0 : (upd H p0 (.lst [V.bl (decide (i = 0)), V.bl (decide (i = 1)), V.bl (decide (i = 2))])) p0 = some (.lst (kindsL i 3)) := upd_same
    generalize upd H p0 (.lst [V.bl (decide (i = 0)), V.bl (decide (i = 1)), V.bl (decide (i = 2))]) = G0 at *
    refine ⟨_, rfl, ⟨_, rfl, a, _, .ref _, _, decide (i = 3), rfl, (hx.same z0), hex, .own _, T.kit i 3 hi (by decide), ⟨_, rfl, a, _, .ref _, _, decide (i = 4), rfl, (hx.same z0), hex, .own _, T.kit i 4 hi (by decide), ⟨_, rfl, a, _, .ref _, _, decide (i = 5), rfl, (hx.same z0), hex, .own _, T.kit i 5 hi (by decide), (by show 3 ≤ sizeLine; decide), fun l1 hl1 => ⟨p0, l1, kindsL i 3, [V.bl (decide (i = 3)), V.bl (decide (i = 4)), V.bl (decide (i = 5))], rfl, rfl, (Same.new hl1) _ _ f0, upd_same, (by show 6 ≤ sizeLine; decide), fun p1 hp1 => ?_⟩⟩⟩⟩⟩
    have z1 : Same H (upd (upd G0 l1 (.lst [V.bl (decide (i = 3)), V.bl (decide (i = 4)), V.bl (decide (i = 5))])) p1 (.lst (kindsL i 3 ++ [V.bl (decide (i = 3)), V.bl (decide (i = 4)), V.bl (decide (i = 5))]))) := z0.trans ((Same.new hl1).trans (Same.new hp1))
    have f1 : (upd (upd G0 l1 (.lst [V.bl (decide (i = 3)), V.bl (decide (i = 4)), V.bl (decide (i = 5))])) p1 (.lst (kindsL i 3 ++ [V.bl (decide (i = 3)), V.bl (decide (i = 4)), V.bl (decide (i = 5))]))) p1 = some (.lst (kindsL i 6)) := upd_same
    generalize upd (upd G0 l1 (.lst [V.bl (decide (i = 3)), V.bl (decide (i = 4)), V.bl (decide (i = 5))])) p1 (.lst (kindsL i 3 ++ [V.bl (decide (i = 3)), V.bl (decide (i = 4)), V.bl (decide (i = 5))])) = G1 at *
    refine ⟨_, rfl, ⟨_, rfl, a, _, .ref _, _, decide (i = 6), rfl, (hx.same z1), hex, .own _, T.kit i 6 hi (by decide), ⟨_, rfl, a, _, .ref _, _, decide (i = 7), rfl, (hx.same z1), hex, .own _, T.kit i 7 hi (by decide), ⟨_, rfl, a, _, .ref _, _, decide (i = 8), rfl, (hx.same z1), hex, .own _, T.kit i 8 hi (by decide), (by show 3 ≤ sizeLine; decide), fun l2 hl2 => ⟨p1, l2, kindsL i 6, [V.bl (decide (i = 6)), V.bl (decide (i = 7)), V.bl (decide (i = 8))], rfl, rfl, (Same.new hl2) _ _ f1, upd_same, (by show 9 ≤ sizeLine; decide), fun p2 hp2 => ?_⟩⟩⟩⟩⟩
    have z2 : Same H (upd (upd G1 l2 (.lst [V.bl (decide (i = 6)), V.bl (decide (i = 7)), V.bl (decide (i = 8))])) p2 (.lst (kindsL i 6 ++ [V.bl (decide (i = 6)), V.bl (decide (i = 7)), V.bl (decide (i = 8))]))) := z1.trans ((Same.new hl2).trans (Same.new hp2))
    have f2 : (upd (upd G1 l2 (.lst [V.bl (decide (i = 6)), V.bl (decide (i = 7)), V.bl (decide (i = 8))])) p2 (.lst (kindsL i 6 ++ [V.bl (decide (i = 6)), V.bl (decide (i = 7)), V.bl (decide (i = 8))]))) p2 = some (.lst (kindsL i 9)) := upd_same
    generalize upd (upd G1 l2 (.lst [V.bl (decide (i = 6)), V.bl (decide (i = 7)), V.bl (decide (i = 8))])) p2 (.lst (kindsL i 6 ++ [V.bl (decide (i = 6)), V.bl (decide (i = 7)), V.bl (decide (i = 8))])) = G2 at *
    refine ⟨_, rfl, ⟨_, rfl, a, _, .ref _, _, decide (i = 9), rfl, (hx.same z2), hex, .own _, T.kit i 9 hi (by decide), ⟨_, rfl, a, _, .ref _, _, decide (i = 10), rfl, (hx.same z2), hex, .own _, T.kit i 10 hi (by decide), ⟨_, rfl, a, _, .ref _, _, decide (i = 11), rfl, (hx.same z2), hex, .own _, T.kit i 11 hi (by decide), (by show 3 ≤ sizeLine; decide), fun l3 hl3 => ⟨p2, l3, kindsL i 9, [V.bl (decide (i = 9)), V.bl (decide (i = 10)), V.bl (decide (i = 11))], rfl, rfl, (Same.new hl3) _ _ f2, upd_same, (by show 12 ≤ sizeLine; decide), fun p3 hp3 => ?_⟩⟩⟩⟩⟩
    have z3 : Same H (upd (upd G2 l3 (.lst [V.bl (decide (i = 9)), V.bl (decide (i = 10)), V.bl (decide (i = 11))])) p3 (.lst (kindsL i 9 ++ [V.bl (decide (i = 9)), V.bl (decide (i = 10)), V.bl (decide (i = 11))]))) := z2.trans ((Same.new hl3).trans (Same.new hp3))
    have f3 : (upd (upd G2 l3 (.lst [V.bl (decide (i = 9)), V.bl (decide (i = 10)), V.bl (decide (i = 11))])) p3 (.lst (kindsL i 9 ++ [V.bl (decide (i = 9)), V.bl (decide (i = 10)), V.bl (decide (i = 11))]))) p3 = some (.lst (kindsL i 12)) := upd_same
    generalize upd (upd G2 l3 (.lst [V.bl (decide (i = 9)), V.bl (decide (i = 10)), V.bl (decide (i = 11))])) p3 (.lst (kindsL i 9 ++ [V.bl (decide (i = 9)), V.bl (decide (i = 10)), V.bl (decide (i = 11))])) = G3 at *
    refine ⟨_, rfl, ⟨_, rfl, a, _, .ref _, _, decide (i = 12), rfl, (hx.same z3), hex, .own _, T.kit i 12 hi (by decide), (by show 1 ≤ sizeLine; decide), fun l4 hl4 => ⟨p3, l4, kindsL i 12, [V.bl (decide (i = 12))], rfl, rfl, (Same.new hl4) _ _ f3, upd_same, (by show 13 ≤ sizeLine; decide), fun p4 hp4 => ?_⟩⟩⟩
    have z4 : Same H (upd (upd G3 l4 (.lst [V.bl (decide (i = 12))])) p4 (.lst (kindsL i 12 ++ [V.bl (decide (i = 12))]))) := z3.trans ((Same.new hl4).trans (Same.new hp4))
    have f4 : (upd (upd G3 l4 (.lst [V.bl (decide (i = 12))])) p4 (.lst (kindsL i 12 ++ [V.bl (decide (i = 12))]))) p4 = some (.lst (kindsL i 13)) := upd_same
    generalize upd (upd G3 l4 (.lst [V.bl (decide (i = 12))])) p4 (.lst (kindsL i 12 ++ [V.bl (decide (i = 12))])) = G4 at *
    have hflat : (kindsL i 13).all flatV = true := rfl
    have key : ∀ i, i < 13 → (kindsL i 13).countP (eqV · (.bl true)) = 1 ∧ (kindsL i 13)[i]? = some (.bl true) ∧ (∀ m, m < i → (kindsL i 13)[m]? = some (.bl false)) ∧ (["number", "name", "row", "sort", "program", "text", "book", "hands", "step", "edit", "command", "many", "undo"] : List Str)[i]? = some (whichL.getD i "") := by
      decide +kernel
    obtain ⟨q1, q2, q3, q4⟩ := key i hi
    have q3' : ∀ (m : Nat) (z' : V), m < i → (kindsL i 13)[m]? = some z' → eqV z' (.bl true) = false := fun m z' hm e => by
      rw [q3 m hm] at e
      cases e
      rfl
    -- kinds.count(True) != 1 or ..
    refine ⟨_, rfl, .inl ⟨rfl, _, SqL.of f4⟩, p4, _, _, rfl, rfl, SqL.of f4, rfl, hflat, rfl, _, rfl, ?_⟩
    rw [q1]
    refine iteF ⟨_, rfl, a, _, .ref _, _, decide (i < 11), rfl, hx.same z4, hex, .own _, T.kitH i hi, _, rfl, .inl ⟨rfl, _, SqL.of f4⟩, p4, _, _, i, _, rfl, rfl, SqL.of f4, rfl, hflat, q2, rfl, q3', _, _, rfl, rfl, rfl, _, rfl, ?_⟩
    have e11 : (decide ((i : Int) < 11)) = decide (i < 11) := decide_eq_decide.mpr (by omega)
    refine iteNS (c := V.bl (decide (i < 11)) = V.bl (decide ((i : Int) < 11))) (by rw [e11]) ?_
    refine ⟨(by show 12 ≤ sizeLine; decide), fun p5 hp5 => ⟨_, rfl, (by show 1 ≤ sizeLine; decide), fun l6 hl6 => ⟨p5, l6, _, _, rfl, rfl, (Same.new hl6) _ _ upd_same, upd_same, (by show 13 ≤ sizeLine; decide), fun p6 hp6 => ?_⟩⟩⟩
    have s5 := ((Same.new (o := .lst [.str "number", .str "name", .str "row", .str "sort", .str "program", .str "text", .str "book", .str "hands", .str "step", .str "edit", .str "command", .str "many"]) hp5).trans (Same.new (o := .lst [.str "undo"]) hl6)).trans
      (Same.new (o := .lst ([.str "number", .str "name", .str "row", .str "sort", .str "program", .str "text", .str "book", .str "hands", .str "step", .str "edit", .str "command", .str "many"] ++ [.str "undo"])) hp6)
    have g4 := s5 _ _ f4
    have q4' : (([.str "number", .str "name", .str "row", .str "sort", .str "program", .str "text", .str "book", .str "hands", .str "step", .str "edit", .str "command", .str "many"] : List V) ++ [.str "undo"])[i]? = some (.str (whichL.getD i "")) := by
      have e : (([.str "number", .str "name", .str "row", .str "sort", .str "program", .str "text", .str "book", .str "hands", .str "step", .str "edit", .str "command", .str "many"] : List V) ++ [.str "undo"]) = (["number", "name", "row", "sort", "program", "text", "book", "hands", "step", "edit", "command", "many", "undo"] : List Str).map V.str := rfl
      rw [e, List.getElem?_map, q4]
      rfl
    refine ⟨_, rfl, .inl ⟨rfl, _, SqL.of g4⟩, p4, _, _, i, _, rfl, rfl, SqL.of g4, rfl, hflat, q2, rfl, q3', ?_⟩
    exact ⟨p6, _, (i : Int), _, rfl, rfl, SqL.of upd_same, atI_nat q4', k _ (z4.trans s5)⟩
end

end Toy

set_option maxHeartbeats 4000000
namespace Toy
open PySem L2 PySem.Spec PyProof.Rows PySem.ExK
def spLaw (K : PySem.W.Frag) : Sp := fun vs H Q _ => ∃ (a : Addr) (ns : List Int), vs = [.ref a] ∧ SqL K H a (ns.map V.int) ∧ ns.length ≤ 63 ∧ ∀ H', Q (.bl true) H'
/-- call_reprD's reading -/
abbrev rReprD (K : PySem.W.Frag) : List V → Hp → VK → Prop := fun xs H Q => ∃ v d, xs = [v] ∧ Rp K H v d ∧ okD d = true ∧ Q (.str d.shown) H
/-- a thing whose repr is known -/
def Th (K : PySem.W.Frag) (H : Hp) (v : V) : Prop := ∃ d, Rp K H v d ∧ okD d = true
mutual
theorem dp_same {K : PySem.W.Frag} {H H' : Hp} (s : Same H H') : ∀ (d : PyData) (v : V), Dp K H v d → Dp K H' v d
  | .none, _, h => by cases h; exact .non
  | .bool _, _, h => by cases h; exact .bl _
  | .int _, _, h => by cases h; exact .int _
  | .str _, _, h => by cases h; exact .str _
  | .list ds, _, h => by
    cases h with
    | lst q ha => exact .lst (s.seq q) (dp_sameAll s ds _ ha)
  | .tuple ds, _, h => by
    cases h with
    | tup q ha =>
      refine .tup ?_ (dp_sameAll s ds _ ha)
      rcases q with (q | ⟨o, q⟩) | q
      · exact .inl (.inl (s _ _ q))
      · exact .inl (.inr ⟨o, s _ _ q⟩)
      · exact .inr q
  | .dict _, _, h => by cases h
theorem dp_sameAll {K : PySem.W.Frag} {H H' : Hp} (s : Same H H') : ∀ (ds : List PyData) (vs : List V), DpAll K H vs ds → DpAll K H' vs ds
  | [], _, h => by cases h; exact .nil
  | d :: ds, _, h => by
    cases h with
    | cons h1 h2 => exact .cons (dp_same s d _ h1) (dp_sameAll s ds _ h2)
end
theorem rp_same {K : PySem.W.Frag} {H H' : Hp} {v : V} {d : PyData} (h : Rp K H v d) (s : Same H H') : Rp K H' v d := by
  rcases h with h | ⟨a, k, i, rfl, e, rfl⟩
  · exact .inl (dp_same s d v h)
  · exact .inr ⟨a, k, i, rfl, s _ _ e, rfl⟩
theorem char_lt (c : Char) : c.toNat < 1114112 := by
  have h := c.valid
  have e : c.toNat = c.val.toNat := rfl
  rcases h with h | ⟨_, h⟩
  · rw [e]
    exact Nat.lt_trans h (by decide)
  · rw [e]
    exact h
theorem strOk_of (s : String) : PyData.strOk (Str.ofString s) = true := by
  unfold PyData.strOk
  rw [PySem.Str.ofString_eq_toList]
  show (List.map Char.toNat s.toList).toArray.all (fun x => decide (x < 1114112)) = true
  rw [Array.all_eq_true']
  intro x hx
  have hx2 : x ∈ List.map Char.toNat s.toList := by simpa using hx
  obtain ⟨c, _, rfl⟩ := List.mem_map.mp hx2
  exact decide_eq_true (char_lt c)
theorem okD_int {i : Int} (h : i.natAbs < 10 ^ 40) : okD (.int i) = true := by
  have h1 : i.natAbs < 2 ^ 140 := Nat.lt_of_lt_of_le h (by decide)
  have h2 : i.natAbs.log2 < 1920 := Nat.lt_trans (PySem.Flt.log2_lt_of (by decide) h1) (by decide)
  have h3 := int_text_length_le10 (k := 40) (by decide) h
  have e1 : PyData.showable (.int i) = true := decide_eq_true h2
  have e2 : PyData.shown (.int i) = Str.ofString (toString i) := rfl
  have e3 : (Str.ofString (toString i)).length ≤ 100000 := by
    rw [PySem.ofString_length]
    omega
  unfold okD
  rw [e1, e2, strOk_of, decide_eq_true e3]
  rfl
theorem Th.same {K : PySem.W.Frag} {H H' : Hp} {v : V} (h : Th K H v) (s : Same H H') : Th K H' v := by
  obtain ⟨d, h, o⟩ := h
  refine ⟨d, ?_, o⟩
  rcases h with h | ⟨a, k, i, rfl, e, rfl⟩
  · exact .inl (dp_same s d v h)
  · exact .inr ⟨a, k, i, rfl, s _ _ e, rfl⟩
theorem dp_rep {K : PySem.W.Frag} {H : Hp} {v : V} {d : PyData} (h : Dp K H v d) : ∀ n, DpAll K H (List.replicate n v) (List.replicate n d)
  | 0 => .nil
  | n + 1 => .cons h (dp_rep h n)
theorem dp_strs {K : PySem.W.Frag} {H : Hp} : ∀ ys : List Str, DpAll K H (ys.map V.str) (ys.map PyData.str)
  | [] => .nil
  | y :: ys => .cons (.str y) (dp_strs ys)
theorem dp_bools {K : PySem.W.Frag} {H : Hp} : ∀ ys : List Bool, DpAll K H (ys.map V.bl) (ys.map PyData.bool)
  | [] => .nil
  | y :: ys => .cons (.bl y) (dp_bools ys)
/-- twelve times one text, against itself -/
theorem rep_ok {z : Str} (h : PyData.strOk z = true) : SeqAt.shaped (.list (List.replicate 12 (.str z))) = true := by
  unfold SeqAt.shaped
  have e : PyData.canLay0 (.list (List.replicate 12 (.str z))) = true := by
    show PyData.canLayAll0 [.str z, .str z, .str z, .str z, .str z, .str z, .str z, .str z, .str z, .str z, .str z, .str z] = true
    simp [PyData.canLayAll0, PyData.canLay0, h]
  rw [e]
  rfl
theorem rep_eq {z : Str} (h : PyData.strOk z = true) : PyData.eqv (.list (List.replicate 12 (.str z))) (.list (List.replicate 12 (.str z))) = true := SeqAt.eqv_refl _ (SeqAt.canLay_of_shaped (rep_ok h))
theorem okD_str {d : PyData} (h : okD d = true) : PyData.strOk d.shown = true := by
  unfold okD at h
  simp only [Bool.and_eq_true] at h
  exact h.2
/-- a stands apart from the pool -/
structure Sf (p q : Addr) (H : Hp) (a : Addr) (o : HO) : Prop where
  e : H a = some o
  np : a ≠ p
  nq : a ≠ q
theorem Sf.same {p q : Addr} {H H' : Hp} {a : Addr} {o : HO} (h : Sf p q H a o) (s : Same H H') : Sf p q H' a o := ⟨s _ _ h.e, h.np, h.nq⟩
theorem Sf.but {p q : Addr} {H H' : Hp} {a : Addr} {o : HO} (h : Sf p q H a o) (b : But p q H H') : Sf p q H' a o := ⟨b _ _ h.np h.nq h.e, h.np, h.nq⟩
theorem Sf.new {p q : Addr} {H : Hp} {a : Addr} {o : HO} (hP : PoolAt H p q) (h : H a = none) : Sf p q (upd H a o) a o := by
  obtain ⟨ns, i, x, s, b, h1, h2, _⟩ := hP
  exact ⟨upd_same, fun z => ne_of_none h1 h z.symm, fun z => ne_of_none h2 h z.symm⟩
section
variable {P : Program} {w : World} {K : PySem.W.Frag} {mg : Str → Option Value} {base : Heap} {fH fT cH : Addr} {cs : List Addr} {fdH fdT : FuncData}
theorem scLaw : FnScope ["script", "names", "pool", "some", "thing", "kept", "found", "one"] ["script"] (defScope sLaw) := ⟨rfl, rfl, rfl, by decide +kernel, rfl, by decide +kernel, by decide +kernel⟩
theorem ok_law {f fB fD fF fN fM fW : Addr} {fd fdB fdD fdF fdN fdM fdW : FuncData} (F : Fun K "law" "law" sLaw f fd) (T : ETxt K mg fH fT cH cs fdH fdT)
    (FB : Fun K "_law_begin" "_law_begin" sBegin fB fdB) (bB : Binds K fdB ["script"] []) (gB : mg "_law_begin" = some (.ref fB)) (GB : FnOk P w K mg base CX0 1 fB fdB ["script"] (spBegin K))
    (FD : Fun K "_law_draw" "_law_draw" sDraw fD fdD) (bD : Binds K fdD ["pool", "many"] []) (gD : mg "_law_draw" = some (.ref fD)) (GD : FnOk P w K mg base CX0 2 fD fdD ["pool", "many"] spDraw)
    (FF : Fun K "_law_fields" "_law_fields" sFields fF fdF) (bF : Binds K fdF ["thing"] []) (gF : mg "_law_fields" = some (.ref fF))
    (FN : Fun K "_law_named_fields" "_law_named_fields" sNamed fN fdN) (bN : Binds K fdN ["thing"] []) (gN : mg "_law_named_fields" = some (.ref fN))
    (FM : Fun K "_law_made_errors" "_law_made_errors" sMade fM fdM) (bM : Binds K fdM ["thing"] []) (gM : mg "_law_made_errors" = some (.ref fM))
    (FW : Fun K "_law_which" "_law_which" sWhich fW fdW) (bW : Binds K fdW ["error"] []) (gW : mg "_law_which" = some (.ref fW)) : FnG P w K mg base CX0 4 f fd ["script"] (spLaw K) := by
  have GF : FnOk P w K mg base CX0 3 fF fdF ["thing"] spFields := ok_fields FF T
  have GN : FnOk P w K mg base CX0 3 fN fdN ["thing"] spFields := ok_named FN T
  have GM : FnOk P w K mg base CX0 3 fM fdM ["thing"] (spMade cs) := ok_made FM T
  have GW : FnOk P w K mg base CX0 1 fW fdW ["error"] (spWhich cs) := ok_which FW T
  refine fnG_ok F scLaw (fun vs H Q E h => ?_) (fun cdv A outer s H vs Q E hg hr h => ?_)
  · obtain ⟨a, ns, rfl, _⟩ := h
    rfl
  · obtain ⟨a, ns, rfl, hS, hlen, k⟩ := h
    have hr1 : Room 1 _ := hr.mono (by decide)
    have hr2 : Room 2 _ := hr.mono (by decide)
    refine ⟨_, (pss_cons (ps_set (i := 1) scLaw.nd rfl (.inl rfl) (pe_lst (pa_cons pe_str (pa_cons pe_str (pa_cons pe_str (pa_cons pe_str (pa_cons pe_str (pa_cons pe_str (pa_cons pe_str (pa_cons pe_str (pa_cons pe_str (pa_cons pe_str (pa_cons pe_str pa_nil)))))))))))))
        (pss_cons (ps_set (i := 2) scLaw.nd rfl (.inl rfl) (pe_call GB hr1 rfl gB FB.kp bB .nil pass0 (pa_cons (pv 0) pa_nil)))
        (pss_cons (ps_set (i := 3) scLaw.nd rfl (.inl rfl) (pe_lst (pa_cons pe_non (pa_cons pe_bl (pa_cons pe_int (pa_cons pe_str (pa_cons (pe_tup (pa_cons pe_int (pa_cons pe_non pa_nil))) (pa_cons (pe_lst (pa_cons pe_int (pa_cons (pe_lst (pa_cons pe_int pa_nil)) pa_nil))) (pa_cons (pe_disp (pps_cons pe_str pe_int pps_nil) (by rfl) (by rfl) (fun z => by cases z) (by decide)) pa_nil)))))))))
        (pss_cons (ps_set (i := 3) scLaw.nd rfl (.inl rfl) (pe_op op_cat (pv 3) (pe_lst (pa_cons (pe_call GD hr2 rfl gD FD.kp bD .nil pass0 (pa_cons (pv 2) (pa_cons (pe_op op_pow pe_int pe_int) pa_nil))) (pa_cons (pe_op op_sub (pe_un un_neg pe_int) (pe_call GD hr2 rfl gD FD.kp bD .nil pass0 (pa_cons (pv 2) (pa_cons (pe_op op_pow pe_int pe_int) pa_nil)))) pa_nil)))))
        (pss_cons (ps_for PassesOwn.never rfl (pi_list (pe_op op_cat (pv 3) (pe_lst (pa_cons (pe_op op_rep3 (pe_tup (pa_cons pe_str pa_nil)) (pe_call GD hr2 rfl gD FD.kp bD .nil pass0 (pa_cons (pv 2) (pa_cons pe_int pa_nil)))) (pa_cons (pe_op op_rep (pe_lst (pa_cons pe_str pa_nil)) (pe_call GD hr2 rfl gD FD.kp bD .nil pass0 (pa_cons (pv 2) (pa_cons pe_int pa_nil)))) pa_nil))))) (pg_name (i := 4) scLaw.nd rfl (.inl rfl))
      (pss_cons (ps_par (i := 5) (j := 6) (by rfl) scLaw.nd rfl rfl (by decide) rfl rfl (pa_cons (pe_callB (id := "repr") (r := rReprD K) (call_reprD hg hr.units) (by rfl) T.reprN (by decide +kernel) (pa_cons (pv 4) pa_nil)) (pa_cons (pe_call GM hr rfl gM FM.kp bM .nil pass0 (pa_cons (pv 4) pa_nil)) pa_nil)) (by rfl))
        (pss_cons (ps_if (pt_cmpR (op_neD hr.units) (pe_lc (own := [("one", 7)]) (g := gName 7) (by rfl) scLaw.nd (pi_list (pe_call GF hr rfl gF FF.kp bF .nil pass0 (pa_cons (pv 4) pa_nil))) (blkOk_by (own := [("one", 7)]) (N := ["script", "names", "pool", "some", "thing", "kept", "found", "one"]) (sc := defScope sLaw) (by decide +kernel)) (fun _ _ _ _ _ => pg_name (i := 7) scLaw.nd rfl (Or.inl rfl)) (fun _ _ _ _ _ => pts_nil) (fun _ _ _ _ _ => (pe_callB (id := "repr") (r := rReprD K) (call_reprD hg hr.units) (by rfl) T.reprN (by decide +kernel) (pa_cons (pv 7) pa_nil)))) (pe_op op_rep (pe_lst (pa_cons (pv 5) pa_nil)) pe_int) (nomark _)) (pss_one (ps_ret pe_bl)) pss_nil)
        (pss_cons (ps_if (pt_cmpR (op_neD hr.units) (pe_lc (own := [("one", 7)]) (g := gName 7) (by rfl) scLaw.nd (pi_list (pe_call GN hr rfl gN FN.kp bN .nil pass0 (pa_cons (pv 4) pa_nil))) (blkOk_by (own := [("one", 7)]) (N := ["script", "names", "pool", "some", "thing", "kept", "found", "one"]) (sc := defScope sLaw) (by decide +kernel)) (fun _ _ _ _ _ => pg_name (i := 7) scLaw.nd rfl (Or.inl rfl)) (fun _ _ _ _ _ => pts_nil) (fun _ _ _ _ _ => (pe_callB (id := "repr") (r := rReprD K) (call_reprD hg hr.units) (by rfl) T.reprN (by decide +kernel) (pa_cons (pv 7) pa_nil)))) (pe_op op_rep (pe_lst (pa_cons (pv 5) pa_nil)) pe_int) (nomark _)) (pss_one (ps_ret pe_bl)) pss_nil)
        (pss_cons (ps_if (pt_cmpR (op_neD hr.units) (pe_lc (own := [("one", 7)]) (g := gName 7) (by rfl) scLaw.nd (pi_list (pv 6)) (blkOk_by (own := [("one", 7)]) (N := ["script", "names", "pool", "some", "thing", "kept", "found", "one"]) (sc := defScope sLaw) (by decide +kernel)) (fun _ _ _ _ _ => pg_name (i := 7) scLaw.nd rfl (Or.inl rfl)) (fun _ _ _ _ _ => pts_nil) (fun _ _ _ _ _ => (pe_call GW hr1 rfl gW FW.kp bW .nil pass0 (pa_cons (pv 7) pa_nil)))) (pe_op op_cat (pv 1) (pe_lst (pa_cons pe_str (pa_cons pe_str pa_nil)))) (nomark _)) (pss_one (ps_ret pe_bl)) pss_nil)
        (pss_cons (ps_if (pt_cmpR (op_neD hr.units) (pe_lc (own := [("one", 7)]) (g := gName 7) (by rfl) scLaw.nd (pi_list (pv 6)) (blkOk_by (own := [("one", 7)]) (N := ["script", "names", "pool", "some", "thing", "kept", "found", "one"]) (sc := defScope sLaw) (by decide +kernel)) (fun _ _ _ _ _ => pg_name (i := 7) scLaw.nd rfl (Or.inl rfl)) (fun _ _ _ _ _ => pts_nil) (fun _ _ _ _ _ => (pe_callB (id := "isinstance") (r := rIsV K) call_isV (by rfl) T.isi (by decide +kernel) (pa_cons (pv 7) (pa_cons (pe_bltn (v := .ty "ValueError") (by rfl) T.ve (by decide +kernel) rfl) pa_nil))))) (pe_op op_cat (pe_op op_rep (pe_lst (pa_cons pe_bl pa_nil)) pe_int) (pe_op op_rep (pe_lst (pa_cons pe_bl pa_nil)) pe_int)) (nomark _)) (pss_one (ps_ret pe_bl)) pss_nil)
        (pss_cons (ps_if (pt_cmpR (op_neD hr.units) (pe_lc (own := [("one", 7)]) (g := gName 7) (by rfl) scLaw.nd (pi_list (pv 6)) (blkOk_by (own := [("one", 7)]) (N := ["script", "names", "pool", "some", "thing", "kept", "found", "one"]) (sc := defScope sLaw) (by decide +kernel)) (fun _ _ _ _ _ => pg_name (i := 7) scLaw.nd rfl (Or.inl rfl)) (fun _ _ _ _ _ => pts_nil) (fun _ _ _ _ _ => (pe_callB (id := "isinstance") (r := rIsV K) call_isV (by rfl) T.isi (by decide +kernel) (pa_cons (pv 7) (pa_cons (pe_bltn (v := .ty "OverflowError") (by rfl) T.oe (by decide +kernel) rfl) pa_nil))))) (pe_op op_cat (pe_op op_rep (pe_lst (pa_cons pe_bl pa_nil)) pe_int) (pe_lst (pa_cons pe_bl (pa_cons pe_bl pa_nil)))) (nomark _)) (pss_one (ps_ret pe_bl)) pss_nil)
        (pss_one (ps_if (pt_cmpR (op_neD hr.units) (pe_lc (own := [("one", 7)]) (g := gName 7) (by rfl) scLaw.nd (pi_list (pv 6)) (blkOk_by (own := [("one", 7)]) (N := ["script", "names", "pool", "some", "thing", "kept", "found", "one"]) (sc := defScope sLaw) (by decide +kernel)) (fun _ _ _ _ _ => pg_name (i := 7) scLaw.nd rfl (Or.inl rfl)) (fun _ _ _ _ _ => pts_nil) (fun _ _ _ _ _ => (pe_callB (id := "isinstance") (r := rIsV K) call_isV (by rfl) T.isi (by decide +kernel) (pa_cons (pv 7) (pa_cons (pe_bltn (v := .ty "LookupError") (by rfl) T.le (by decide +kernel) rfl) pa_nil))))) (pe_op op_cat (pe_op op_rep (pe_lst (pa_cons pe_bl pa_nil)) pe_int) (pe_lst (pa_cons pe_bl pa_nil))) (nomark _)) (pss_one (ps_ret pe_bl)) pss_nil)))))))))
        (pss_one (ps_ret pe_bl))))))), ?_⟩
    refine ⟨(by show 11 ≤ sizeLine; decide), fun N hN => ?_⟩
    have sN := Same.new (o := .lst [.str "number", .str "name", .str "row", .str "sort", .str "program", .str "text", .str "book", .str "hands", .str "step", .str "edit", .str "command"]) hN
    have eN : (upd H N (.lst [.str "number", .str "name", .str "row", .str "sort", .str "program", .str "text", .str "book", .str "hands", .str "step", .str "edit", .str "command"])) N = _ := upd_same
    generalize upd H N (.lst [.str "number", .str "name", .str "row", .str "sort", .str "program", .str "text", .str "book", .str "hands", .str "step", .str "edit", .str "command"]) = Ha at *
    refine ⟨_, rfl, a, ns, rfl, sN.seq hS, hlen, fun Hb p q sb p0 q0 hP => ?_⟩
    have fN : Sf p q Hb N _ := ⟨sb _ _ eN, ne_of_none eN p0, ne_of_none eN q0⟩
    clear eN sN sb p0 q0
    -- some = [None, True, 0, 'a', (1, None), [1, [2]], {'a': 1}]
    refine ⟨(by show 2 ≤ sizeLine; decide), fun t1 h1 => ?_⟩
    have ft1 : Sf p q _ t1 (.tup [.int 1, .non]) := Sf.new hP h1
    replace hP := hP.same (Same.new (o := .tup [.int 1, .non]) h1)
    replace fN := fN.same (Same.new (o := .tup [.int 1, .non]) h1)
    generalize upd Hb t1 (.tup [.int 1, .non]) = Hc at *
    refine ⟨(by show 1 ≤ sizeLine; decide), fun l2 h2 => ?_⟩
    have fl2 : Sf p q _ l2 (.lst [.int 2]) := Sf.new hP h2
    have s2 := Same.new (o := .lst [.int 2]) h2
    replace hP := hP.same s2
    replace fN := fN.same s2
    replace ft1 := ft1.same s2
    generalize upd Hc l2 (.lst [.int 2]) = Hd at *
    refine ⟨(by show 2 ≤ sizeLine; decide), fun l1 h3 => ?_⟩
    have fl1 : Sf p q _ l1 (.lst [.int 1, .ref l2]) := Sf.new hP h3
    have s3 := Same.new (o := .lst [.int 1, .ref l2]) h3
    replace hP := hP.same s3
    replace fN := fN.same s3
    replace ft1 := ft1.same s3
    replace fl2 := fl2.same s3
    generalize upd Hd l1 (.lst [.int 1, .ref l2]) = He at *
    refine fun d h4 => ⟨upd_same, [(.inr "a", .int 1)], rfl, by decide, ?_⟩
    rw [upd_upd, show mergeK [] [((.inr "a" : Key), V.int 1)] = [((.inr "a" : Key), V.int 1)] from by decide +kernel]
    have fd1 : Sf p q _ d (.dK [(.inr "a", .int 1)]) := Sf.new hP h4
    have s4 := Same.new (o := .dK [(.inr "a", .int 1)]) h4
    replace hP := hP.same s4
    replace fN := fN.same s4
    replace ft1 := ft1.same s4
    replace fl2 := fl2.same s4
    replace fl1 := fl1.same s4
    generalize upd He d (.dK [(.inr "a", .int 1)]) = Hf at *
    refine ⟨(by show 7 ≤ sizeLine; decide), fun S1 h5 => ?_⟩
    have fS1 : Sf p q _ S1 (.lst [.non, .bl true, .int 0, .str "a", .ref t1, .ref l1, .ref d]) := Sf.new hP h5
    have s5 := Same.new (o := .lst [.non, .bl true, .int 0, .str "a", .ref t1, .ref l1, .ref d]) h5
    replace hP := hP.same s5
    replace fN := fN.same s5
    replace ft1 := ft1.same s5
    replace fl2 := fl2.same s5
    replace fl1 := fl1.same s5
    replace fd1 := fd1.same s5
    generalize upd Hf S1 (.lst [.non, .bl true, .int 0, .str "a", .ref t1, .ref l1, .ref d]) = Hg at *
    -- some = some + [draw, -1 - draw]
    refine ⟨_, rfl, _, rfl, _, _, rfl, rfl, ⟨by decide, by decide, by decide⟩, p, q, _, rfl, hP, (by show (1 : Int) ≤ 10 ^ 30; decide), (by show (10 : Int) ^ 30 < 10 ^ 40; decide), fun Hh r1 b1 P1 r10 r11 => ?_⟩
    replace fN := fN.but b1
    replace ft1 := ft1.but b1
    replace fl2 := fl2.but b1
    replace fl1 := fl1.but b1
    replace fd1 := fd1.but b1
    replace fS1 := fS1.but b1
    clear hP
    refine ⟨_, rfl, _, rfl, _, _, rfl, rfl, ⟨by decide, by decide, by decide⟩, p, q, _, rfl, P1, (by show (1 : Int) ≤ 10 ^ 30; decide), (by show (10 : Int) ^ 30 < 10 ^ 40; decide), fun Hi r2 b2 P2 r20 r21 => ?_⟩
    replace fN := fN.but b2
    replace ft1 := ft1.but b2
    replace fl2 := fl2.but b2
    replace fl1 := fl1.but b2
    replace fd1 := fd1.but b2
    replace fS1 := fS1.but b2
    refine ⟨_, _, rfl, rfl, (by show 2 ≤ sizeLine; decide), fun S0 h6 => ⟨S1, S0, _, _, rfl, rfl, (fS1.same (Same.new h6)).e, upd_same, (by show 9 ≤ sizeLine; decide), fun S2 h7 => ?_⟩⟩
    have s67 := (Same.new (o := .lst [.int r1, .int (-1 - r2)]) h6).trans (Same.new (o := .lst ([.non, .bl true, .int 0, .str "a", .ref t1, .ref l1, .ref d] ++ [.int r1, .int (-1 - r2)])) h7)
    have fS2 : Sf p q _ S2 (.lst ([.non, .bl true, .int 0, .str "a", .ref t1, .ref l1, .ref d] ++ [.int r1, .int (-1 - r2)])) := Sf.new (P2.same (Same.new (o := .lst [.int r1, .int (-1 - r2)]) h6)) h7
    replace P2 := P2.same s67
    replace fN := fN.same s67
    replace ft1 := ft1.same s67
    replace fl2 := fl2.same s67
    replace fl1 := fl1.same s67
    replace fd1 := fd1.same s67
    change Sf p q (upd (upd Hi S0 (.lst [.int r1, .int (-1 - r2)])) S2 (.lst ([.non, .bl true, .int 0, .str "a", .ref t1, .ref l1, .ref d] ++ [.int r1, .int (-1 - r2)]))) S2 _ at fS2
    generalize upd (upd Hi S0 (.lst [.int r1, .int (-1 - r2)])) S2 (.lst ([.non, .bl true, .int 0, .str "a", .ref t1, .ref l1, .ref d] ++ [.int r1, .int (-1 - r2)])) = Hj at *
    -- for thing in some + [('a',) * draw, ['a'] * draw]
    refine ⟨_, rfl, (by show 1 ≤ sizeLine; decide), fun t2 h8 => ?_⟩
    have ft2 : Sf p q _ t2 (.tup [.str "a"]) := Sf.new P2 h8
    have s8 := Same.new (o := .tup [.str "a"]) h8
    replace P2 := P2.same s8
    replace fN := fN.same s8
    replace ft1 := ft1.same s8
    replace fl2 := fl2.same s8
    replace fl1 := fl1.same s8
    replace fd1 := fd1.same s8
    replace fS2 := fS2.same s8
    generalize upd Hj t2 (.tup [.str "a"]) = Hk at *
    refine ⟨_, rfl, p, q, 4, rfl, P2, by decide, by decide, fun Hl r3 b3 P3 r30 r31 => ?_⟩
    replace fN := fN.but b3
    replace ft1 := ft1.but b3
    replace fl2 := fl2.but b3
    replace fl1 := fl1.but b3
    replace fd1 := fd1.but b3
    replace fS2 := fS2.but b3
    replace ft2 := ft2.but b3
    refine ⟨t2, r3, [.str "a"], rfl, rfl, .inl (.inl ft2.e), ft2.e, (fun z => nomatch z), r30, by omega, by decide, fun tt Hm sm ett => ?_⟩
    replace P3 := P3.same sm
    replace fN := fN.same sm
    replace ft1 := ft1.same sm
    replace fl2 := fl2.same sm
    replace fl1 := fl1.same sm
    replace fd1 := fd1.same sm
    replace fS2 := fS2.same sm
    have ftt : Sf p q Hm tt (.tup (List.replicate r3.toNat [V.str "a"]).flatten) := by
      obtain ⟨ns', i', x', s', z', h1', h2', _⟩ := P3
      refine ⟨ett, fun z => ?_, fun z => ?_⟩
      · rw [z, h1'] at ett
        cases ett
      · rw [z, h2'] at ett
        cases ett
    refine ⟨(by show 1 ≤ sizeLine; decide), fun l3 h9 => ?_⟩
    have fl3 : Sf p q _ l3 (.lst [.str "a"]) := Sf.new P3 h9
    have s9 := Same.new (o := .lst [.str "a"]) h9
    replace P3 := P3.same s9
    replace fN := fN.same s9
    replace ft1 := ft1.same s9
    replace fl2 := fl2.same s9
    replace fl1 := fl1.same s9
    replace fd1 := fd1.same s9
    replace fS2 := fS2.same s9
    replace ftt := ftt.same s9
    generalize upd Hm l3 (.lst [.str "a"]) = Hn at *
    refine ⟨_, rfl, p, q, 4, rfl, P3, by decide, by decide, fun Ho r4 b4 P4 r40 r41 => ?_⟩
    replace fN := fN.but b4
    replace ft1 := ft1.but b4
    replace fl2 := fl2.but b4
    replace fl1 := fl1.but b4
    replace fd1 := fd1.but b4
    replace fS2 := fS2.but b4
    replace ftt := ftt.but b4
    replace fl3 := fl3.but b4
    refine ⟨l3, r4, _, rfl, rfl, fl3.e, by omega, by omega, ?_, fun ll hll => ?_⟩
    · exact Nat.le_trans (show [V.str "a"].length * r4.toNat ≤ 3 by rw [List.length_singleton]; omega) (by decide)
    refine ⟨(by show 2 ≤ sizeLine; decide), fun S3 h10 => ⟨S2, S3, _, _, rfl, rfl, ((fS2.same (Same.new hll)).same (Same.new h10)).e, upd_same, (by show 11 ≤ sizeLine; decide), fun SF h11 => ?_⟩⟩
    have sz := ((Same.new (o := .lst (List.replicate r4.toNat [V.str "a"]).flatten) hll).trans (Same.new (o := .lst [.ref tt, .ref ll]) h10)).trans
      (Same.new (o := .lst (([.non, .bl true, .int 0, .str "a", .ref t1, .ref l1, .ref d] ++ [.int r1, .int (-1 - r2)]) ++ [.ref tt, .ref ll])) h11)
    have ell := (Same.new (o := .lst (([.non, .bl true, .int 0, .str "a", .ref t1, .ref l1, .ref d] ++ [.int r1, .int (-1 - r2)]) ++ [.ref tt, .ref ll])) h11) _ _
      ((Same.new (o := .lst [.ref tt, .ref ll]) h10) _ _ (upd_same (H := Ho) (a := ll) (o := .lst (List.replicate r4.toNat [V.str "a"]).flatten)))
    have eSF : (upd (upd (upd Ho ll (.lst (List.replicate r4.toNat [V.str "a"]).flatten)) S3 (.lst [.ref tt, .ref ll])) SF (.lst (([.non, .bl true, .int 0, .str "a", .ref t1, .ref l1, .ref d] ++ [.int r1, .int (-1 - r2)]) ++ [.ref tt, .ref ll]))) SF = _ := upd_same
    replace fN := fN.same sz
    replace ft1 := ft1.same sz
    replace fl2 := fl2.same sz
    replace fl1 := fl1.same sz
    replace fd1 := fd1.same sz
    replace ftt := ftt.same sz
    generalize upd (upd (upd Ho ll (.lst (List.replicate r4.toNat [V.str "a"]).flatten)) S3 (.lst [.ref tt, .ref ll])) SF (.lst (([.non, .bl true, .int 0, .str "a", .ref t1, .ref l1, .ref d] ++ [.int r1, .int (-1 - r2)]) ++ [.ref tt, .ref ll])) = Hz at *
    have things : ∀ y ∈ (([.non, .bl true, .int 0, .str "a", .ref t1, .ref l1, .ref d] ++ [.int r1, .int (-1 - r2)]) ++ [.ref tt, .ref ll] : List V), Th K Hz y := by
      have hz : ∀ n : Nat, n ≤ 3 → okD (.tuple (List.replicate n (.str "a"))) = true ∧ okD (.list (List.replicate n (.str "a"))) = true := by
        decide +kernel
      have hfl : ∀ n : Nat, (List.replicate n [V.str "a"]).flatten = List.replicate n (V.str "a") := fun n => by
        induction n with
        | zero => rfl
        | succ n ih =>
          rw [List.replicate_succ, List.flatten_cons, ih]
          rfl
      intro y m
      rcases List.mem_append.mp m with m | m
      · rcases List.mem_append.mp m with m | m
        · rcases List.mem_cons.mp m with rfl | m
          · exact ⟨.none, .inl .non, by decide +kernel⟩
          rcases List.mem_cons.mp m with rfl | m
          · exact ⟨.bool true, .inl (.bl _), by decide +kernel⟩
          rcases List.mem_cons.mp m with rfl | m
          · exact ⟨.int 0, .inl (.int _), by decide +kernel⟩
          rcases List.mem_cons.mp m with rfl | m
          · exact ⟨.str "a", .inl (.str _), by decide +kernel⟩
          rcases List.mem_cons.mp m with rfl | m
          · exact ⟨.tuple [.int 1, .none], .inl (.tup (.inl (.inl ft1.e)) (.cons (.int 1) (.cons .non .nil))), by decide +kernel⟩
          rcases List.mem_cons.mp m with rfl | m
          · exact ⟨.list [.int 1, .list [.int 2]], .inl (.lst (.inl (.inl fl1.e)) (.cons (.int 1) (.cons (.lst (.inl (.inl fl2.e)) (.cons (.int 2) .nil)) .nil))), by decide +kernel⟩
          rcases List.mem_cons.mp m with rfl | m
          · exact ⟨.dict [(.str "a", .int 1)], .inr ⟨d, "a", 1, rfl, fd1.e, rfl⟩, by decide +kernel⟩
          · cases m
        · rcases List.mem_cons.mp m with rfl | m
          · exact ⟨.int r1, .inl (.int _), okD_int (by have : r1 < 10 ^ 30 := r11; omega)⟩
          rcases List.mem_cons.mp m with rfl | m
          · exact ⟨.int (-1 - r2), .inl (.int _), okD_int (by have : r2 < 10 ^ 30 := r21; omega)⟩
          · cases m
      · rcases List.mem_cons.mp m with rfl | m
        · refine ⟨_, .inl (.tup (.inl (.inl ftt.e)) ?_), (hz r3.toNat (by omega)).1⟩
          rw [hfl]
          exact dp_rep (.str _) _
        rcases List.mem_cons.mp m with rfl | m
        · refine ⟨_, .inl (.lst (.inl (.inl ell)) ?_), (hz r4.toNat (by omega)).2⟩
          rw [hfl]
          exact dp_rep (.str _) _
        · cases m
    refine ⟨SF, rfl, ⟨_, .inl (.inl eSF)⟩, for_list (K := K) (a := SF) (xs := ([.non, .bl true, .int 0, .str "a", .ref t1, .ref l1, .ref d] ++ [.int r1, .int (-1 - r2)]) ++ [.ref tt, .ref ll])
      (fun i σ H' => ∃ (v4 v5 v6 : Option V), σ = [some (.ref a), some (.ref N), some (.ref p), some (.ref S2), v4, v5, v6, none] ∧ Same Hz H')
      ⟨none, none, none, rfl, Same.refl _⟩ (fun i σ H' _ ⟨_, _, _, _, s⟩ => s.seq (.inl (.inl eSF))) ?_ ?_⟩
    · rintro i y σ H' hi ⟨v4, v5, v6, rfl, s0⟩
      obtain ⟨d, hd0, od⟩ := things y (List.mem_of_getElem? hi)
      have hd := rp_same hd0 s0
      refine ⟨_, rfl, y, d, rfl, hd, od, _, rfl, y, rfl, fun H1 FL as s1 ef l13 hE0 => ⟨_, _, rfl, ?_⟩⟩
      have hE : ErrL H1 cs as := hE0
      clear hE0
      -- the positional fields
      refine ⟨_, rfl, y, rfl, fun Hq pq sq eq => ⟨pq, rfl, ⟨_, .inl (.inl eq)⟩, fun D hD => lc_list (K := K) (a := pq) (xs := List.replicate 12 y) (fun i H'' => Same Hq H'' ∧ H'' D = some (.lst (List.replicate i (V.str d.shown))))
        ⟨Same.new hD, upd_same⟩ (fun i H'' _ e => e.1.seq (.inl (.inl eq))) ?_ ?_⟩⟩
      · rintro j y' H'' hj ⟨se, eD⟩
        have ey : y' = y := by
          rw [List.getElem?_replicate] at hj
          split at hj
          · exact (Option.some.inj hj).symm
          · cases hj
        have hj12 : j < 12 := by
          have := (List.getElem?_eq_some_iff.mp hj).1
          rw [List.length_replicate] at this
          exact this
        subst ey
        refine ⟨rfl, _, rfl, y', d, rfl, rp_same (rp_same (rp_same hd s1) sq) se, od, _, eD, ?_, ?_, ?_⟩
        · rw [List.length_replicate]
          exact Nat.lt_of_lt_of_le hj12 (by decide)
        · intro b o e
          rw [upd_ne (ne_of_none e hD)]
          exact se _ _ e
        · rw [upd_same, List.replicate_succ']
      rintro H'' ⟨se, eD⟩
      refine ⟨_, rfl, (by show 1 ≤ sizeLine; decide), fun l hl => ⟨l, 12, _, rfl, rfl, upd_same, by decide, by decide, (by show 12 ≤ sizeLine; decide), fun c hc => ?_⟩⟩
      have ss := (Same.new (o := .lst [.str d.shown]) hl).trans (Same.new (o := .lst (List.replicate (12 : Int).toNat [V.str d.shown]).flatten) hc)
      refine ⟨.list (List.replicate 12 (.str d.shown)), .list (List.replicate 12 (.str d.shown)), .lst (.inl (.inl (ss _ _ eD))) (dp_rep (.str _) 12), .lst (xs := List.replicate 12 (V.str d.shown)) (.inl (.inl upd_same)) (dp_rep (.str _) 12), rep_ok (okD_str od), rep_ok (okD_str od), ?_⟩
      rw [rep_eq (okD_str od)]
      refine ⟨_, rfl, iteF ?_⟩
      replace s1 := ((s1.trans sq).trans se).trans ss
      change Same H' (upd (upd H'' l (.lst [.str d.shown])) c (.lst (List.replicate (12 : Int).toNat [V.str d.shown]).flatten)) at s1
      replace ef := ss _ _ (se _ _ (sq _ _ ef))
      replace hE : ErrL _ cs as := ErrL.same (ErrL.same (ErrL.same hE sq) se) ss
      clear ss eD
      generalize upd (upd H'' l (.lst [.str d.shown])) c (.lst (List.replicate (12 : Int).toNat [V.str d.shown]).flatten) = H1 at *
      -- the named fields
      refine ⟨_, rfl, y, rfl, fun Hq pq sq eq => ⟨pq, rfl, ⟨_, .inl (.inl eq)⟩, fun D hD => lc_list (K := K) (a := pq) (xs := List.replicate 12 y) (fun i H'' => Same Hq H'' ∧ H'' D = some (.lst (List.replicate i (V.str d.shown))))
        ⟨Same.new hD, upd_same⟩ (fun i H'' _ e => e.1.seq (.inl (.inl eq))) ?_ ?_⟩⟩
      · rintro j y' H'' hj ⟨se, eD⟩
        have ey : y' = y := by
          rw [List.getElem?_replicate] at hj
          split at hj
          · exact (Option.some.inj hj).symm
          · cases hj
        have hj12 : j < 12 := by
          have := (List.getElem?_eq_some_iff.mp hj).1
          rw [List.length_replicate] at this
          exact this
        subst ey
        refine ⟨rfl, _, rfl, y', d, rfl, rp_same (rp_same (rp_same hd s1) sq) se, od, _, eD, ?_, ?_, ?_⟩
        · rw [List.length_replicate]
          exact Nat.lt_of_lt_of_le hj12 (by decide)
        · intro b o e
          rw [upd_ne (ne_of_none e hD)]
          exact se _ _ e
        · rw [upd_same, List.replicate_succ']
      rintro H'' ⟨se, eD⟩
      refine ⟨_, rfl, (by show 1 ≤ sizeLine; decide), fun l hl => ⟨l, 12, _, rfl, rfl, upd_same, by decide, by decide, (by show 12 ≤ sizeLine; decide), fun c hc => ?_⟩⟩
      have ss := (Same.new (o := .lst [.str d.shown]) hl).trans (Same.new (o := .lst (List.replicate (12 : Int).toNat [V.str d.shown]).flatten) hc)
      refine ⟨.list (List.replicate 12 (.str d.shown)), .list (List.replicate 12 (.str d.shown)), .lst (.inl (.inl (ss _ _ eD))) (dp_rep (.str _) 12), .lst (xs := List.replicate 12 (V.str d.shown)) (.inl (.inl upd_same)) (dp_rep (.str _) 12), rep_ok (okD_str od), rep_ok (okD_str od), ?_⟩
      rw [rep_eq (okD_str od)]
      refine ⟨_, rfl, iteF ?_⟩
      replace s1 := ((s1.trans sq).trans se).trans ss
      change Same H' (upd (upd H'' l (.lst [.str d.shown])) c (.lst (List.replicate (12 : Int).toNat [V.str d.shown]).flatten)) at s1
      replace ef := ss _ _ (se _ _ (sq _ _ ef))
      replace hE : ErrL _ cs as := ErrL.same (ErrL.same (ErrL.same hE sq) se) ss
      clear ss eD
      generalize upd (upd H'' l (.lst [.str d.shown])) c (.lst (List.replicate (12 : Int).toNat [V.str d.shown]).flatten) = H1 at *
      -- which
      refine ⟨_, rfl, FL, rfl, ⟨_, .inl (.inl ef)⟩, fun D hD => lc_list (K := K) (a := FL) (xs := as.map V.ref) (fun i H'' => Same H1 H'' ∧ H'' D = some (.lst ((List.range i).map fun j => V.str (whichL.getD j "")))) ⟨Same.new hD, upd_same⟩ (fun i H'' _ e => e.1.seq (.inl (.inl ef))) ?_ ?_⟩
      · rintro j y' H'' hj ⟨se, eD⟩
        rw [List.getElem?_map] at hj
        cases ea : as[j]? with
        | none =>
          rw [ea] at hj
          cases hj
        | some b =>
          rw [ea] at hj
          cases hj
          have hj13 : j < 13 := by
            have := (List.getElem?_eq_some_iff.mp ea).1
            omega
          have hx := ExAt.same (hE j b ea) se
          refine ⟨rfl, _, rfl, b, j, rfl, hj13, hx, fun H3 s3 => ⟨_, s3 _ _ eD, ?_, ?_, ?_⟩⟩
          · rw [List.length_map, List.length_range]
            exact Nat.lt_trans hj13 (by decide)
          · intro b' o e
            rw [upd_ne (ne_of_none e hD)]
            exact s3 _ _ (se _ _ e)
          · rw [upd_same, List.range_succ, List.map_append]
            rfl
      rintro H'' ⟨se, eD⟩
      rw [List.length_map, l13] at eD
      have eNN := se _ _ (s1 _ _ (s0 _ _ fN.e))
      refine ⟨_, rfl, (by show 2 ≤ sizeLine; decide), fun l hl => ⟨N, l, _, _, rfl, rfl, (Same.new hl) _ _ eNN, upd_same, (by show 13 ≤ sizeLine; decide), fun c hc => ?_⟩⟩
      have ss := (Same.new (o := .lst [.str "many", .str "undo"]) hl).trans (Same.new (o := .lst ([.str "number", .str "name", .str "row", .str "sort", .str "program", .str "text", .str "book", .str "hands", .str "step", .str "edit", .str "command"] ++ [.str "many", .str "undo"])) hc)
      refine ⟨.list (whichL.map PyData.str), .list (whichL.map PyData.str), .lst (xs := whichL.map V.str) (.inl (.inl (ss _ _ eD))) (dp_strs whichL), .lst (xs := whichL.map V.str) (.inl (.inl upd_same)) (dp_strs whichL), by decide +kernel, by decide +kernel, ?_⟩
      rw [show PyData.eqv (.list (whichL.map PyData.str)) (.list (whichL.map PyData.str)) = true from by decide +kernel]
      refine ⟨_, rfl, iteF ?_⟩
      replace s1 := (s1.trans se).trans ss
      replace ef := ss _ _ (se _ _ ef)
      replace hE := ErrL.same (ErrL.same hE se) ss
      generalize upd (upd H'' l (.lst [.str "many", .str "undo"])) c (.lst ([.str "number", .str "name", .str "row", .str "sort", .str "program", .str "text", .str "book", .str "hands", .str "step", .str "edit", .str "command"] ++ [.str "many", .str "undo"])) = H1 at *
      -- ValueError
      refine ⟨_, rfl, FL, rfl, ⟨_, .inl (.inl ef)⟩, fun D hD => lc_list (K := K) (a := FL) (xs := as.map V.ref) (fun i H'' => Same H1 H'' ∧ H'' D = some (.lst ((List.range i).map fun j => V.bl (decide (j < 11))))) ⟨Same.new hD, upd_same⟩ (fun i H'' _ e => e.1.seq (.inl (.inl ef))) ?_ ?_⟩
      · rintro j y' H'' hj ⟨se, eD⟩
        rw [List.getElem?_map] at hj
        cases ea : as[j]? with
        | none =>
          rw [ea] at hj
          cases hj
        | some b =>
          rw [ea] at hj
          cases hj
          have hj13 : j < 13 := by
            have := (List.getElem?_eq_some_iff.mp ea).1
            omega
          have hx := ExAt.same (hE j b ea) se
          refine ⟨rfl, _, rfl, b, _, _, _, _, rfl, hx, T.ex j hj13, .ty _, T.kitV j hj13, _, eD, ?_, ?_, ?_⟩
          · rw [List.length_map, List.length_range]
            exact Nat.lt_trans hj13 (by decide)
          · intro b' o e
            rw [upd_ne (ne_of_none e hD)]
            exact se _ _ e
          · rw [upd_same, List.range_succ, List.map_append]
            rfl
      rintro H'' ⟨se, eD⟩
      rw [List.length_map, l13] at eD
      refine ⟨(by show 1 ≤ sizeLine; decide), fun l1 hl1 => ⟨l1, 11, _, rfl, rfl, upd_same, by decide, by decide, (by show 11 ≤ sizeLine; decide), fun c1 hc1 => ⟨(by show 1 ≤ sizeLine; decide), fun l2 hl2 => ⟨l2, 2, _, rfl, rfl, upd_same, by decide, by decide, (by show 2 ≤ sizeLine; decide), fun c2 hc2 => ⟨c1, c2, _, _, rfl, rfl, (Same.new hc2) _ _ ((Same.new hl2) _ _ upd_same), upd_same, (by show 13 ≤ sizeLine; decide), fun c3 hc3 => ?_⟩⟩⟩⟩⟩
      have ss := ((((Same.new (o := .lst [.bl true]) hl1).trans (Same.new (o := .lst (List.replicate (11 : Int).toNat [V.bl true]).flatten) hc1)).trans (Same.new (o := .lst [.bl false]) hl2)).trans (Same.new (o := .lst (List.replicate (2 : Int).toNat [V.bl false]).flatten) hc2)).trans (Same.new (o := .lst ((List.replicate (11 : Int).toNat [V.bl true]).flatten ++ (List.replicate (2 : Int).toNat [V.bl false]).flatten)) hc3)
      refine ⟨.list (((List.range 13).map fun j => decide (j < 11)).map PyData.bool), .list (((List.range 13).map fun j => decide (j < 11)).map PyData.bool), .lst (xs := ((List.range 13).map fun j => decide (j < 11)).map V.bl) (.inl (.inl (ss _ _ eD))) (dp_bools ((List.range 13).map fun j => decide (j < 11))), .lst (xs := ((List.range 13).map fun j => decide (j < 11)).map V.bl) (.inl (.inl upd_same)) (dp_bools ((List.range 13).map fun j => decide (j < 11))), by decide +kernel, by decide +kernel, ?_⟩
      rw [show PyData.eqv (.list (((List.range 13).map fun j => decide (j < 11)).map PyData.bool)) (.list (((List.range 13).map fun j => decide (j < 11)).map PyData.bool)) = true from by decide +kernel]
      refine ⟨_, rfl, iteF ?_⟩
      replace s1 := (s1.trans se).trans ss
      replace ef := ss _ _ (se _ _ ef)
      replace hE := ErrL.same (ErrL.same hE se) ss
      generalize upd (upd (upd (upd (upd H'' l1 (.lst [.bl true])) c1 (.lst (List.replicate (11 : Int).toNat [V.bl true]).flatten)) l2 (.lst [.bl false])) c2 (.lst (List.replicate (2 : Int).toNat [V.bl false]).flatten)) c3 (.lst ((List.replicate (11 : Int).toNat [V.bl true]).flatten ++ (List.replicate (2 : Int).toNat [V.bl false]).flatten)) = H1 at *
      -- OverflowError
      refine ⟨_, rfl, FL, rfl, ⟨_, .inl (.inl ef)⟩, fun D hD => lc_list (K := K) (a := FL) (xs := as.map V.ref) (fun i H'' => Same H1 H'' ∧ H'' D = some (.lst ((List.range i).map fun j => V.bl (decide (j = 11))))) ⟨Same.new hD, upd_same⟩ (fun i H'' _ e => e.1.seq (.inl (.inl ef))) ?_ ?_⟩
      · rintro j y' H'' hj ⟨se, eD⟩
        rw [List.getElem?_map] at hj
        cases ea : as[j]? with
        | none =>
          rw [ea] at hj
          cases hj
        | some b =>
          rw [ea] at hj
          cases hj
          have hj13 : j < 13 := by
            have := (List.getElem?_eq_some_iff.mp ea).1
            omega
          have hx := ExAt.same (hE j b ea) se
          refine ⟨rfl, _, rfl, b, _, _, _, _, rfl, hx, T.ex j hj13, .ty _, T.kitO j hj13, _, eD, ?_, ?_, ?_⟩
          · rw [List.length_map, List.length_range]
            exact Nat.lt_trans hj13 (by decide)
          · intro b' o e
            rw [upd_ne (ne_of_none e hD)]
            exact se _ _ e
          · rw [upd_same, List.range_succ, List.map_append]
            rfl
      rintro H'' ⟨se, eD⟩
      rw [List.length_map, l13] at eD
      refine ⟨(by show 1 ≤ sizeLine; decide), fun l1 hl1 => ⟨l1, 11, _, rfl, rfl, upd_same, by decide, by decide, (by show 11 ≤ sizeLine; decide), fun c1 hc1 => ⟨(by show 2 ≤ sizeLine; decide), fun l2 hl2 => ⟨c1, l2, _, _, rfl, rfl, (Same.new hl2) _ _ upd_same, upd_same, (by show 13 ≤ sizeLine; decide), fun c3 hc3 => ?_⟩⟩⟩⟩
      have ss := (((Same.new (o := .lst [.bl false]) hl1).trans (Same.new (o := .lst (List.replicate (11 : Int).toNat [V.bl false]).flatten) hc1)).trans (Same.new (o := .lst [.bl true, .bl false]) hl2)).trans (Same.new (o := .lst ((List.replicate (11 : Int).toNat [V.bl false]).flatten ++ [.bl true, .bl false])) hc3)
      refine ⟨.list (((List.range 13).map fun j => decide (j = 11)).map PyData.bool), .list (((List.range 13).map fun j => decide (j = 11)).map PyData.bool), .lst (xs := ((List.range 13).map fun j => decide (j = 11)).map V.bl) (.inl (.inl (ss _ _ eD))) (dp_bools ((List.range 13).map fun j => decide (j = 11))), .lst (xs := ((List.range 13).map fun j => decide (j = 11)).map V.bl) (.inl (.inl upd_same)) (dp_bools ((List.range 13).map fun j => decide (j = 11))), by decide +kernel, by decide +kernel, ?_⟩
      rw [show PyData.eqv (.list (((List.range 13).map fun j => decide (j = 11)).map PyData.bool)) (.list (((List.range 13).map fun j => decide (j = 11)).map PyData.bool)) = true from by decide +kernel]
      refine ⟨_, rfl, iteF ?_⟩
      replace s1 := (s1.trans se).trans ss
      replace ef := ss _ _ (se _ _ ef)
      replace hE := ErrL.same (ErrL.same hE se) ss
      generalize upd (upd (upd (upd H'' l1 (.lst [.bl false])) c1 (.lst (List.replicate (11 : Int).toNat [V.bl false]).flatten)) l2 (.lst [.bl true, .bl false])) c3 (.lst ((List.replicate (11 : Int).toNat [V.bl false]).flatten ++ [.bl true, .bl false])) = H1 at *
      -- LookupError
      refine ⟨_, rfl, FL, rfl, ⟨_, .inl (.inl ef)⟩, fun D hD => lc_list (K := K) (a := FL) (xs := as.map V.ref) (fun i H'' => Same H1 H'' ∧ H'' D = some (.lst ((List.range i).map fun j => V.bl (decide (j = 12))))) ⟨Same.new hD, upd_same⟩ (fun i H'' _ e => e.1.seq (.inl (.inl ef))) ?_ ?_⟩
      · rintro j y' H'' hj ⟨se, eD⟩
        rw [List.getElem?_map] at hj
        cases ea : as[j]? with
        | none =>
          rw [ea] at hj
          cases hj
        | some b =>
          rw [ea] at hj
          cases hj
          have hj13 : j < 13 := by
            have := (List.getElem?_eq_some_iff.mp ea).1
            omega
          have hx := ExAt.same (hE j b ea) se
          refine ⟨rfl, _, rfl, b, _, _, _, _, rfl, hx, T.ex j hj13, .ty _, T.kitL j hj13, _, eD, ?_, ?_, ?_⟩
          · rw [List.length_map, List.length_range]
            exact Nat.lt_trans hj13 (by decide)
          · intro b' o e
            rw [upd_ne (ne_of_none e hD)]
            exact se _ _ e
          · rw [upd_same, List.range_succ, List.map_append]
            rfl
      rintro H'' ⟨se, eD⟩
      rw [List.length_map, l13] at eD
      refine ⟨(by show 1 ≤ sizeLine; decide), fun l1 hl1 => ⟨l1, 12, _, rfl, rfl, upd_same, by decide, by decide, (by show 12 ≤ sizeLine; decide), fun c1 hc1 => ⟨(by show 1 ≤ sizeLine; decide), fun l2 hl2 => ⟨c1, l2, _, _, rfl, rfl, (Same.new hl2) _ _ upd_same, upd_same, (by show 13 ≤ sizeLine; decide), fun c3 hc3 => ?_⟩⟩⟩⟩
      have ss := (((Same.new (o := .lst [.bl false]) hl1).trans (Same.new (o := .lst (List.replicate (12 : Int).toNat [V.bl false]).flatten) hc1)).trans (Same.new (o := .lst [.bl true]) hl2)).trans (Same.new (o := .lst ((List.replicate (12 : Int).toNat [V.bl false]).flatten ++ [.bl true])) hc3)
      refine ⟨.list (((List.range 13).map fun j => decide (j = 12)).map PyData.bool), .list (((List.range 13).map fun j => decide (j = 12)).map PyData.bool), .lst (xs := ((List.range 13).map fun j => decide (j = 12)).map V.bl) (.inl (.inl (ss _ _ eD))) (dp_bools ((List.range 13).map fun j => decide (j = 12))), .lst (xs := ((List.range 13).map fun j => decide (j = 12)).map V.bl) (.inl (.inl upd_same)) (dp_bools ((List.range 13).map fun j => decide (j = 12))), by decide +kernel, by decide +kernel, ?_⟩
      rw [show PyData.eqv (.list (((List.range 13).map fun j => decide (j = 12)).map PyData.bool)) (.list (((List.range 13).map fun j => decide (j = 12)).map PyData.bool)) = true from by decide +kernel]
      refine ⟨_, rfl, iteF ?_⟩
      exact ⟨_, _, _, rfl, ((s0.trans s1).trans se).trans ss⟩
    · rintro σ H' ⟨v4, v5, v6, rfl, s0⟩
      exact k _
end
end Toy

set_option maxHeartbeats 4000000
namespace Toy
open PySem L2 PySem.Spec PyProof.Rows PySem.ExK
def kitTab (K : PySem.W.Frag) (cs : List Addr) (cH : Addr) : Bool := (List.range 13).all fun i => ((List.range 13).all fun j => decide (PySem.W.kitOne K (.ref (cs.getD i 0)) (.ref (cs.getD j 0)) = some (decide (i = j)))) &&
  decide (PySem.W.kitOne K (.ref (cs.getD i 0)) (.ref cH) = some (decide (i < 11))) && decide (PySem.W.kitOne K (.ref (cs.getD i 0)) (.type "ValueError") = some (decide (i < 11))) &&
  decide (PySem.W.kitOne K (.ref (cs.getD i 0)) (.type "OverflowError") = some (decide (i = 11))) && decide (PySem.W.kitOne K (.ref (cs.getD i 0)) (.type "LookupError") = some (decide (i = 12)))
theorem kitTab_ok {K : PySem.W.Frag} {cs : List Addr} {cH : Addr} (h : kitTab K cs cH = true) : ∀ i, i < 13 → (∀ j, j < 13 → PySem.W.kitOne K (.ref (cs.getD i 0)) (.ref (cs.getD j 0)) = some (decide (i = j))) ∧
    PySem.W.kitOne K (.ref (cs.getD i 0)) (.ref cH) = some (decide (i < 11)) ∧ PySem.W.kitOne K (.ref (cs.getD i 0)) (.type "ValueError") = some (decide (i < 11)) ∧
    PySem.W.kitOne K (.ref (cs.getD i 0)) (.type "OverflowError") = some (decide (i = 11)) ∧ PySem.W.kitOne K (.ref (cs.getD i 0)) (.type "LookupError") = some (decide (i = 12)) := by
  intro i hi
  have h1 := List.all_eq_true.mp h i (List.mem_range.mpr hi)
  simp only [Bool.and_eq_true, decide_eq_true_eq] at h1
  obtain ⟨⟨⟨⟨h2, h3⟩, h4⟩, h5⟩, h6⟩ := h1
  exact ⟨fun j hj => of_decide_eq_true (List.all_eq_true.mp h2 j (List.mem_range.mpr hj)), h3, h4, h5, h6⟩
theorem init_binds {K : PySem.W.Frag} {q : Str} {f : Addr} {fd : FuncData} {pn : Str} {st : Stmt} (F : Fun K "__init__" q st f fd)
    (h : ∀ (kV doc pm : Value) (an : Option Addr) (cdv ct : Value) (args : Args) (r u : Value), (args = ⟨[r, u], []⟩ ∨ args = ⟨[r], [(pn, u)]⟩) →
      bindArgs (PySem.W.fnOf "__init__" q (defArgs st) (defBody st) (defScope st) .none kV doc pm an cdv ct) args = pure ((["self", pn] : List Str).zip [r, u])) :
    (∀ (s : Shared) (r u : Value), BindsTo s fd ⟨[r, u], []⟩ ((["self", pn] : List Str).zip [r, u])) ∧ ∀ (s : Shared) (r u : Value), BindsTo s fd ⟨[r], [(pn, u)]⟩ ((["self", pn] : List Str).zip [r, u]) := by
  obtain ⟨oc, od, kV, doc, pm, an, cdv, ct, osl, rfl, lk, hcd⟩ := F.ex
  exact ⟨fun s r u => .of_eq (h kV doc pm an cdv ct _ r u (.inl rfl)), fun s r u => .of_eq (h kV doc pm an cdv ct _ r u (.inr rfl))⟩
theorem all_mk {l : PySem.W.OpenLaw} {w : World} {K : PySem.W.Frag} {h : Heap} {mg : Str → Option Value} {fa : Addr} (X : K.In h) (G : h.Ns mainGlobals mg) (hfa : mg "law" = some (.ref fa))
    {od0 an0 : Option Addr} {sl0 : Array (Option Value)} {oc0 kV0 dc0 pm0 cd0 ct0 : Value} {f0 : Addr}
    {od1 an1 : Option Addr} {sl1 : Array (Option Value)} {oc1 kV1 dc1 pm1 cd1 ct1 : Value} {f1 : Addr}
    {od2 an2 : Option Addr} {sl2 : Array (Option Value)} {oc2 kV2 dc2 pm2 cd2 ct2 : Value} {f2 : Addr}
    {od3 an3 : Option Addr} {sl3 : Array (Option Value)} {oc3 kV3 dc3 pm3 cd3 ct3 : Value} {f3 : Addr}
    {od4 an4 : Option Addr} {sl4 : Array (Option Value)} {oc4 kV4 dc4 pm4 cd4 ct4 : Value} {f4 : Addr}
    {od5 an5 : Option Addr} {sl5 : Array (Option Value)} {oc5 kV5 dc5 pm5 cd5 ct5 : Value} {f5 : Addr}
    {od6 an6 : Option Addr} {sl6 : Array (Option Value)} {oc6 kV6 dc6 pm6 cd6 ct6 : Value} {f6 : Addr}
    {od7 an7 : Option Addr} {sl7 : Array (Option Value)} {oc7 kV7 dc7 pm7 cd7 ct7 : Value} {f7 : Addr}
    {cH fH fT : Addr}
    {C0 : Addr}
    {C1 : Addr}
    {C2 : Addr}
    {C3 : Addr}
    {C4 : Addr}
    {C5 : Addr}
    {C6 : Addr}
    {C7 : Addr}
    {C8 : Addr}
    {C9 : Addr}
    {C10 : Addr}
    {C11 : Addr}
    {C12 : Addr}
    {odH anH : Option Addr} {slH : Array (Option Value)} {ocH kVH dcH pmH cdH ctH : Value}
    {odT anT : Option Addr} {slT : Array (Option Value)} {ocT kVT dcT pmT cdT ctT : Value}
    {nm0 q0 : Str} {N0 : Addr} {bs0 bm0 : List Value} {sn0 : List Str} {sub0 : List Value} {ab0 : Bool} {col0 : Option Bool} {dd0 : Option Addr} {x00 x10 x20 x30 x50 : Option Value}
    {nm1 q1 : Str} {N1 : Addr} {bs1 bm1 : List Value} {sn1 : List Str} {sub1 : List Value} {ab1 : Bool} {col1 : Option Bool} {dd1 : Option Addr} {x01 x11 x21 x31 x51 : Option Value}
    {nm2 q2 : Str} {N2 : Addr} {bs2 bm2 : List Value} {sn2 : List Str} {sub2 : List Value} {ab2 : Bool} {col2 : Option Bool} {dd2 : Option Addr} {x02 x12 x22 x32 x52 : Option Value}
    {nm3 q3 : Str} {N3 : Addr} {bs3 bm3 : List Value} {sn3 : List Str} {sub3 : List Value} {ab3 : Bool} {col3 : Option Bool} {dd3 : Option Addr} {x03 x13 x23 x33 x53 : Option Value}
    {nm4 q4 : Str} {N4 : Addr} {bs4 bm4 : List Value} {sn4 : List Str} {sub4 : List Value} {ab4 : Bool} {col4 : Option Bool} {dd4 : Option Addr} {x04 x14 x24 x34 x54 : Option Value}
    {nm5 q5 : Str} {N5 : Addr} {bs5 bm5 : List Value} {sn5 : List Str} {sub5 : List Value} {ab5 : Bool} {col5 : Option Bool} {dd5 : Option Addr} {x05 x15 x25 x35 x55 : Option Value}
    {nm6 q6 : Str} {N6 : Addr} {bs6 bm6 : List Value} {sn6 : List Str} {sub6 : List Value} {ab6 : Bool} {col6 : Option Bool} {dd6 : Option Addr} {x06 x16 x26 x36 x56 : Option Value}
    {nm7 q7 : Str} {N7 : Addr} {bs7 bm7 : List Value} {sn7 : List Str} {sub7 : List Value} {ab7 : Bool} {col7 : Option Bool} {dd7 : Option Addr} {x07 x17 x27 x37 x57 : Option Value}
    {nm8 q8 : Str} {N8 : Addr} {bs8 bm8 : List Value} {sn8 : List Str} {sub8 : List Value} {ab8 : Bool} {col8 : Option Bool} {dd8 : Option Addr} {x08 x18 x28 x38 x58 : Option Value}
    {nm9 q9 : Str} {N9 : Addr} {bs9 bm9 : List Value} {sn9 : List Str} {sub9 : List Value} {ab9 : Bool} {col9 : Option Bool} {dd9 : Option Addr} {x09 x19 x29 x39 x59 : Option Value}
    {nm10 q10 : Str} {N10 : Addr} {bs10 bm10 : List Value} {sn10 : List Str} {sub10 : List Value} {ab10 : Bool} {col10 : Option Bool} {dd10 : Option Addr} {x010 x110 x210 x310 x510 : Option Value}
    {nm11 q11 : Str} {N11 : Addr} {bs11 : List Value} {sn11 : List Str} {sub11 : List Value} {ab11 : Bool} {col11 : Option Bool} {dd11 : Option Addr} {x011 x111 x211 x311 x511 : Option Value}
    (a0 : PySem.W.nsIn K mainGlobals "_law_begin" = some (some (.ref f0)))
    (l0 : K.lookup f0 = some ⟨oc0, od0, .func (PySem.W.fnOf "_law_begin" "_law_begin" (defArgs sBegin) (defBody sBegin) (defScope sBegin) .none kV0 dc0 pm0 an0 cd0 ct0), sl0⟩)
    (c0 : PySem.W.codeIn K cd0 "_law_begin" = true)
    (k0 : PySem.W.keepIn K (.ref f0) = true)
    (a1 : PySem.W.nsIn K mainGlobals "_law_mixed" = some (some (.ref f1)))
    (l1 : K.lookup f1 = some ⟨oc1, od1, .func (PySem.W.fnOf "_law_mixed" "_law_mixed" (defArgs sMixed) (defBody sMixed) (defScope sMixed) .none kV1 dc1 pm1 an1 cd1 ct1), sl1⟩)
    (c1 : PySem.W.codeIn K cd1 "_law_mixed" = true)
    (k1 : PySem.W.keepIn K (.ref f1) = true)
    (a2 : PySem.W.nsIn K mainGlobals "_law_draw" = some (some (.ref f2)))
    (l2 : K.lookup f2 = some ⟨oc2, od2, .func (PySem.W.fnOf "_law_draw" "_law_draw" (defArgs sDraw) (defBody sDraw) (defScope sDraw) .none kV2 dc2 pm2 an2 cd2 ct2), sl2⟩)
    (c2 : PySem.W.codeIn K cd2 "_law_draw" = true)
    (k2 : PySem.W.keepIn K (.ref f2) = true)
    (a3 : PySem.W.nsIn K mainGlobals "_law_which" = some (some (.ref f3)))
    (l3 : K.lookup f3 = some ⟨oc3, od3, .func (PySem.W.fnOf "_law_which" "_law_which" (defArgs sWhich) (defBody sWhich) (defScope sWhich) .none kV3 dc3 pm3 an3 cd3 ct3), sl3⟩)
    (c3 : PySem.W.codeIn K cd3 "_law_which" = true)
    (k3 : PySem.W.keepIn K (.ref f3) = true)
    (a4 : PySem.W.nsIn K mainGlobals "_law_fields" = some (some (.ref f4)))
    (l4 : K.lookup f4 = some ⟨oc4, od4, .func (PySem.W.fnOf "_law_fields" "_law_fields" (defArgs sFields) (defBody sFields) (defScope sFields) .none kV4 dc4 pm4 an4 cd4 ct4), sl4⟩)
    (c4 : PySem.W.codeIn K cd4 "_law_fields" = true)
    (k4 : PySem.W.keepIn K (.ref f4) = true)
    (a5 : PySem.W.nsIn K mainGlobals "_law_named_fields" = some (some (.ref f5)))
    (l5 : K.lookup f5 = some ⟨oc5, od5, .func (PySem.W.fnOf "_law_named_fields" "_law_named_fields" (defArgs sNamed) (defBody sNamed) (defScope sNamed) .none kV5 dc5 pm5 an5 cd5 ct5), sl5⟩)
    (c5 : PySem.W.codeIn K cd5 "_law_named_fields" = true)
    (k5 : PySem.W.keepIn K (.ref f5) = true)
    (a6 : PySem.W.nsIn K mainGlobals "_law_made_errors" = some (some (.ref f6)))
    (l6 : K.lookup f6 = some ⟨oc6, od6, .func (PySem.W.fnOf "_law_made_errors" "_law_made_errors" (defArgs sMade) (defBody sMade) (defScope sMade) .none kV6 dc6 pm6 an6 cd6 ct6), sl6⟩)
    (c6 : PySem.W.codeIn K cd6 "_law_made_errors" = true)
    (k6 : PySem.W.keepIn K (.ref f6) = true)
    (a7 : PySem.W.nsIn K mainGlobals "law" = some (some (.ref f7)))
    (l7 : K.lookup f7 = some ⟨oc7, od7, .func (PySem.W.fnOf "law" "law" (defArgs sLaw) (defBody sLaw) (defScope sLaw) .none kV7 dc7 pm7 an7 cd7 ct7), sl7⟩)
    (c7 : PySem.W.codeIn K cd7 "law" = true)
    (k7 : PySem.W.keepIn K (.ref f7) = true)
    (hH : PySem.W.nsIn K mainGlobals "HandleError" = some (some (.ref cH)))
    (n0 : PySem.W.nsIn K mainGlobals "InvalidNumber" = some (some (.ref C0)))
    (n1 : PySem.W.nsIn K mainGlobals "InvalidName" = some (some (.ref C1)))
    (n2 : PySem.W.nsIn K mainGlobals "InvalidRow" = some (some (.ref C2)))
    (n3 : PySem.W.nsIn K mainGlobals "InvalidSort" = some (some (.ref C3)))
    (n4 : PySem.W.nsIn K mainGlobals "InvalidProgram" = some (some (.ref C4)))
    (n5 : PySem.W.nsIn K mainGlobals "InvalidText" = some (some (.ref C5)))
    (n6 : PySem.W.nsIn K mainGlobals "InvalidBook" = some (some (.ref C6)))
    (n7 : PySem.W.nsIn K mainGlobals "InvalidHands" = some (some (.ref C7)))
    (n8 : PySem.W.nsIn K mainGlobals "InvalidStep" = some (some (.ref C8)))
    (n9 : PySem.W.nsIn K mainGlobals "InvalidEdit" = some (some (.ref C9)))
    (n10 : PySem.W.nsIn K mainGlobals "InvalidCommand" = some (some (.ref C10)))
    (n11 : PySem.W.nsIn K mainGlobals "TooMany" = some (some (.ref C11)))
    (n12 : PySem.W.nsIn K mainGlobals "NothingToUndo" = some (some (.ref C12)))
    (iH : PySem.W.findIn K (.ref cH) "__init__" = some (some (.ref fH)))
    (lH : K.lookup fH = some ⟨ocH, odH, .func (PySem.W.fnOf "__init__" "HandleError.__init__" (defArgs sHInit) (defBody sHInit) (defScope sHInit) .none kVH dcH pmH anH cdH ctH), slH⟩)
    (cH' : PySem.W.codeIn K cdH "HandleError.__init__" = true)
    (kH : PySem.W.keepIn K (.ref fH) = true)
    (tH : PySem.W.typeIn K (.ref fH) = some (.type "function"))
    (iT : PySem.W.findIn K (.ref C11) "__init__" = some (some (.ref fT)))
    (lT : K.lookup fT = some ⟨ocT, odT, .func (PySem.W.fnOf "__init__" "TooMany.__init__" (defArgs sTInit) (defBody sTInit) (defScope sTInit) .none kVT dcT pmT anT cdT ctT), slT⟩)
    (cT : PySem.W.codeIn K cdT "TooMany.__init__" = true)
    (kT : PySem.W.keepIn K (.ref fT) = true)
    (tT : PySem.W.typeIn K (.ref fT) = some (.type "function"))
    (e0 : K.lookup C0 = some (excClassObj nm0 q0 C0 N0 bs0 bm0 true sn0 sub0 ab0 col0 dd0 x00 x10 x20 x30 x50 "ValueError.__new__"))
    (m0 : PySem.HandSPX.refsVE bm0 = true)
    (b0 : ecB K C0 fH "value" = true)
    (e1 : K.lookup C1 = some (excClassObj nm1 q1 C1 N1 bs1 bm1 true sn1 sub1 ab1 col1 dd1 x01 x11 x21 x31 x51 "ValueError.__new__"))
    (m1 : PySem.HandSPX.refsVE bm1 = true)
    (b1 : ecB K C1 fH "value" = true)
    (e2 : K.lookup C2 = some (excClassObj nm2 q2 C2 N2 bs2 bm2 true sn2 sub2 ab2 col2 dd2 x02 x12 x22 x32 x52 "ValueError.__new__"))
    (m2 : PySem.HandSPX.refsVE bm2 = true)
    (b2 : ecB K C2 fH "value" = true)
    (e3 : K.lookup C3 = some (excClassObj nm3 q3 C3 N3 bs3 bm3 true sn3 sub3 ab3 col3 dd3 x03 x13 x23 x33 x53 "ValueError.__new__"))
    (m3 : PySem.HandSPX.refsVE bm3 = true)
    (b3 : ecB K C3 fH "value" = true)
    (e4 : K.lookup C4 = some (excClassObj nm4 q4 C4 N4 bs4 bm4 true sn4 sub4 ab4 col4 dd4 x04 x14 x24 x34 x54 "ValueError.__new__"))
    (m4 : PySem.HandSPX.refsVE bm4 = true)
    (b4 : ecB K C4 fH "value" = true)
    (e5 : K.lookup C5 = some (excClassObj nm5 q5 C5 N5 bs5 bm5 true sn5 sub5 ab5 col5 dd5 x05 x15 x25 x35 x55 "ValueError.__new__"))
    (m5 : PySem.HandSPX.refsVE bm5 = true)
    (b5 : ecB K C5 fH "value" = true)
    (e6 : K.lookup C6 = some (excClassObj nm6 q6 C6 N6 bs6 bm6 true sn6 sub6 ab6 col6 dd6 x06 x16 x26 x36 x56 "ValueError.__new__"))
    (m6 : PySem.HandSPX.refsVE bm6 = true)
    (b6 : ecB K C6 fH "value" = true)
    (e7 : K.lookup C7 = some (excClassObj nm7 q7 C7 N7 bs7 bm7 true sn7 sub7 ab7 col7 dd7 x07 x17 x27 x37 x57 "ValueError.__new__"))
    (m7 : PySem.HandSPX.refsVE bm7 = true)
    (b7 : ecB K C7 fH "value" = true)
    (e8 : K.lookup C8 = some (excClassObj nm8 q8 C8 N8 bs8 bm8 true sn8 sub8 ab8 col8 dd8 x08 x18 x28 x38 x58 "ValueError.__new__"))
    (m8 : PySem.HandSPX.refsVE bm8 = true)
    (b8 : ecB K C8 fH "value" = true)
    (e9 : K.lookup C9 = some (excClassObj nm9 q9 C9 N9 bs9 bm9 true sn9 sub9 ab9 col9 dd9 x09 x19 x29 x39 x59 "ValueError.__new__"))
    (m9 : PySem.HandSPX.refsVE bm9 = true)
    (b9 : ecB K C9 fH "value" = true)
    (e10 : K.lookup C10 = some (excClassObj nm10 q10 C10 N10 bs10 bm10 true sn10 sub10 ab10 col10 dd10 x010 x110 x210 x310 x510 "ValueError.__new__"))
    (m10 : PySem.HandSPX.refsVE bm10 = true)
    (b10 : ecB K C10 fH "value" = true)
    (e11 : K.lookup C11 = some (excClassObj nm11 q11 C11 N11 bs11 oeTail true sn11 sub11 ab11 col11 dd11 x011 x111 x211 x311 x511 "OverflowError.__new__"))
    (b11 : ecB K C11 fT "limit" = true)
    (xN : exB K C12 = true)
    (qN : PySem.W.excIn K C12 [.type "LookupError", .type "Exception", .type "BaseException", .type "object"] "LookupError.__new__" = true)
    (kt : kitTab K [C0, C1, C2, C3, C4, C5, C6, C7, C8, C9, C10, C11, C12] cH = true)
    (z0 : PySem.W.nsIn K mainGlobals "int" = some none)
    (z1 : PySem.W.nsIn K mainGlobals "abs" = some none)
    (z2 : PySem.W.nsIn K mainGlobals "len" = some none)
    (z3 : PySem.W.nsIn K mainGlobals "str" = some none)
    (z4 : PySem.W.nsIn K mainGlobals "range" = some none)
    (z5 : PySem.W.nsIn K mainGlobals "isinstance" = some none)
    (z6 : PySem.W.nsIn K mainGlobals "repr" = some none)
    (z7 : PySem.W.nsIn K mainGlobals "ValueError" = some none)
    (z8 : PySem.W.nsIn K mainGlobals "OverflowError" = some none)
    (z9 : PySem.W.nsIn K mainGlobals "LookupError" = some none)
    : ∃ fd : FuncData, (∀ (s : Shared) (v : Value), BindsTo s fd ⟨[v], []⟩ [("script", v)]) ∧ ∀ base : Heap, K.In base → base.Ns mainGlobals mg → FnG l.prog w K mg base CX0 4 fa fd ["script"] (spLaw K) := by
  have e := hfa.symm.trans (PySem.W.mg_of X G a7)
  cases e
  have F0 := fun_mk (st := sBegin) l0 c0 k0
  have g0 := PySem.W.mg_of X G a0
  have B0 := F0.binds (ps := ["script"]) fun _ _ _ _ _ _ us hl => match us, hl with | [_], _ => rfl
  have F1 := fun_mk (st := sMixed) l1 c1 k1
  have g1 := PySem.W.mg_of X G a1
  have B1 := F1.binds (ps := ["pool", "many"]) fun _ _ _ _ _ _ us hl => match us, hl with | [_, _], _ => rfl
  have F2 := fun_mk (st := sDraw) l2 c2 k2
  have g2 := PySem.W.mg_of X G a2
  have B2 := F2.binds (ps := ["pool", "many"]) fun _ _ _ _ _ _ us hl => match us, hl with | [_, _], _ => rfl
  have F3 := fun_mk (st := sWhich) l3 c3 k3
  have g3 := PySem.W.mg_of X G a3
  have B3 := F3.binds (ps := ["error"]) fun _ _ _ _ _ _ us hl => match us, hl with | [_], _ => rfl
  have F4 := fun_mk (st := sFields) l4 c4 k4
  have g4 := PySem.W.mg_of X G a4
  have B4 := F4.binds (ps := ["thing"]) fun _ _ _ _ _ _ us hl => match us, hl with | [_], _ => rfl
  have F5 := fun_mk (st := sNamed) l5 c5 k5
  have g5 := PySem.W.mg_of X G a5
  have B5 := F5.binds (ps := ["thing"]) fun _ _ _ _ _ _ us hl => match us, hl with | [_], _ => rfl
  have F6 := fun_mk (st := sMade) l6 c6 k6
  have g6 := PySem.W.mg_of X G a6
  have B6 := F6.binds (ps := ["thing"]) fun _ _ _ _ _ _ us hl => match us, hl with | [_], _ => rfl
  have F7 := fun_mk (st := sLaw) l7 c7 k7
  have g7 := PySem.W.mg_of X G a7
  have y0 := PySem.W.mg_none_of X G z0
  have y1 := PySem.W.mg_none_of X G z1
  have y2 := PySem.W.mg_none_of X G z2
  have y3 := PySem.W.mg_none_of X G z3
  have y4 := PySem.W.mg_none_of X G z4
  have y5 := PySem.W.mg_none_of X G z5
  have y6 := PySem.W.mg_none_of X G z6
  have y7 := PySem.W.mg_none_of X G z7
  have y8 := PySem.W.mg_none_of X G z8
  have y9 := PySem.W.mg_none_of X G z9
  have FH := fun_mk (st := sHInit) lH cH' kH
  have FT := fun_mk (st := sTInit) lT cT kT
  obtain ⟨bH, wH⟩ := init_binds (pn := "value") FH fun kV doc pm an cdv ct args r u e => by
    rcases e with rfl | rfl <;> rfl
  obtain ⟨bT, wT⟩ := init_binds (pn := "limit") FT fun kV doc pm an cdv ct args r u e => by
    rcases e with rfl | rfl <;> rfl
  have kk := kitTab_ok kt
  obtain ⟨_, kN, xN'⟩ := exB_ok xN
  have T : ETxt K mg fH fT cH [C0, C1, C2, C3, C4, C5, C6, C7, C8, C9, C10, C11, C12] _ _ := ⟨y5, y6, y7, y8, y9, PySem.W.mg_of X G hH, FH, FT, tH, tT, bH, wH, bT, wT, rfl,
    ec_mk (PySem.W.mg_of X G n0) e0 m0 b0, ec_mk (PySem.W.mg_of X G n1) e1 m1 b1, ec_mk (PySem.W.mg_of X G n2) e2 m2 b2, ec_mk (PySem.W.mg_of X G n3) e3 m3 b3, ec_mk (PySem.W.mg_of X G n4) e4 m4 b4, ec_mk (PySem.W.mg_of X G n5) e5 m5 b5, ec_mk (PySem.W.mg_of X G n6) e6 m6 b6, ec_mk (PySem.W.mg_of X G n7) e7 m7 b7, ec_mk (PySem.W.mg_of X G n8) e8 m8 b8, ec_mk (PySem.W.mg_of X G n9) e9 m9 b9, ec_mk (PySem.W.mg_of X G n10) e10 m10 b10, ec_mkO (PySem.W.mg_of X G n11) e11 b11, PySem.W.mg_of X G n12, kN, qN, xN', fun i j hi hj => (kk i hi).1 j hj, fun i hi => (kk i hi).2.1, fun i hi => (kk i hi).2.2.1, fun i hi => (kk i hi).2.2.2.1, fun i hi => (kk i hi).2.2.2.2⟩
  have TP : PTxt mg := ⟨y0, y1, y2, y3, y4⟩
  exact ⟨PySem.W.fnOf "law" "law" (defArgs sLaw) (defBody sLaw) (defScope sLaw) .none kV7 dc7 pm7 an7 cd7 ct7, fun s v => .of_eq rfl, fun base _ _ =>
    ok_law F7 T F0 B0 g0 (ok_begin F0 TP) F2 B2 g2 (ok_draw F2 TP F1 B1 g1) F4 B4 g4 F5 B5 g5 F6 B6 g6 F3 B3 g3⟩
end Toy

open PySem PySem.W PyProof.Rows in
set_option maxRecDepth 100000 in
set_option maxHeartbeats 0 in
theorem PySem.Challenge.cw_handlesagain_k41_errors_made_holds : PySem.Challenge.rw_handlesagain_k41_errors_made.Holds := by
  w_on; o_law; k_head; (case hw => w_witness2)
  k_fill
  refine Toy.walkG (l := PySem.Challenge.rw_handlesagain_k41_errors_made) (k := 4) (sp := Toy.spLaw) rfl rfl ⟨rfl, by decide, by decide⟩ (fun w h Y => PySem.W.kIn_of Y) ?F fun K H a ns hl hS => ⟨a, ns, rfl, hS, hl, fun _ => rfl⟩
  case F =>
    intro w mg fa h KX G hmg
    refine' Toy.all_mk KX G hmg ?a0 ?l0 ?c0 ?k0 ?a1 ?l1 ?c1 ?k1 ?a2 ?l2 ?c2 ?k2 ?a3 ?l3 ?c3 ?k3 ?a4 ?l4 ?c4 ?k4 ?a5 ?l5 ?c5 ?k5 ?a6 ?l6 ?c6 ?k6 ?a7 ?l7 ?c7 ?k7 ?hH ?n0 ?n1 ?n2 ?n3 ?n4 ?n5 ?n6 ?n7 ?n8 ?n9 ?n10 ?n11 ?n12 ?iH ?lH ?cH' ?kH ?tH ?iT ?lT ?cT ?kT ?tT ?e0 ?m0 ?b0 ?e1 ?m1 ?b1 ?e2 ?m2 ?b2 ?e3 ?m3 ?b3 ?e4 ?m4 ?b4 ?e5 ?m5 ?b5 ?e6 ?m6 ?b6 ?e7 ?m7 ?b7 ?e8 ?m8 ?b8 ?e9 ?m9 ?b9 ?e10 ?m10 ?b10 ?e11 ?b11 ?xN ?qN ?kt ?z0 ?z1 ?z2 ?z3 ?z4 ?z5 ?z6 ?z7 ?z8 ?z9
    (case a0 => k_is)
    (case l0 => k_is)
    (case c0 => k_is)
    (case k0 => k_is)
    (case a1 => k_is)
    (case l1 => k_is)
    (case c1 => k_is)
    (case k1 => k_is)
    (case a2 => k_is)
    (case l2 => k_is)
    (case c2 => k_is)
    (case k2 => k_is)
    (case a3 => k_is)
    (case l3 => k_is)
    (case c3 => k_is)
    (case k3 => k_is)
    (case a4 => k_is)
    (case l4 => k_is)
    (case c4 => k_is)
    (case k4 => k_is)
    (case a5 => k_is)
    (case l5 => k_is)
    (case c5 => k_is)
    (case k5 => k_is)
    (case a6 => k_is)
    (case l6 => k_is)
    (case c6 => k_is)
    (case k6 => k_is)
    (case a7 => k_is)
    (case l7 => k_is)
    (case c7 => k_is)
    (case k7 => k_is)
    (case hH => k_is)
    (case n0 => k_is)
    (case n1 => k_is)
    (case n2 => k_is)
    (case n3 => k_is)
    (case n4 => k_is)
    (case n5 => k_is)
    (case n6 => k_is)
    (case n7 => k_is)
    (case n8 => k_is)
    (case n9 => k_is)
    (case n10 => k_is)
    (case n11 => k_is)
    (case n12 => k_is)
    (case iH => k_is)
    (case lH => k_is)
    (case cH' => k_is)
    (case kH => k_is)
    (case tH => k_is)
    (case iT => k_is)
    (case lT => k_is)
    (case cT => k_is)
    (case kT => k_is)
    (case tT => k_is)
    (case e0 => k_is)
    (case m0 => decide +kernel)
    (case b0 => kernel_rfl)
    (case e1 => k_is)
    (case m1 => decide +kernel)
    (case b1 => kernel_rfl)
    (case e2 => k_is)
    (case m2 => decide +kernel)
    (case b2 => kernel_rfl)
    (case e3 => k_is)
    (case m3 => decide +kernel)
    (case b3 => kernel_rfl)
    (case e4 => k_is)
    (case m4 => decide +kernel)
    (case b4 => kernel_rfl)
    (case e5 => k_is)
    (case m5 => decide +kernel)
    (case b5 => kernel_rfl)
    (case e6 => k_is)
    (case m6 => decide +kernel)
    (case b6 => kernel_rfl)
    (case e7 => k_is)
    (case m7 => decide +kernel)
    (case b7 => kernel_rfl)
    (case e8 => k_is)
    (case m8 => decide +kernel)
    (case b8 => kernel_rfl)
    (case e9 => k_is)
    (case m9 => decide +kernel)
    (case b9 => kernel_rfl)
    (case e10 => k_is)
    (case m10 => decide +kernel)
    (case b10 => kernel_rfl)
    (case e11 => k_is)
    (case b11 => kernel_rfl)
    (case xN => kernel_rfl)
    (case qN => k_exc)
    (case kt => kernel_rfl)
    (case z0 => k_is)
    (case z1 => k_is)
    (case z2 => k_is)
    (case z3 => k_is)
    (case z4 => k_is)
    (case z5 => k_is)
    (case z6 => k_is)
    (case z7 => k_is)
    (case z8 => k_is)
    (case z9 => k_is)
