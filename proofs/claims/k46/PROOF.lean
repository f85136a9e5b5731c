import PyProof.Rows.All
import Wide.All
import OpenK.AllK
import Wide.FinOn
import HandS.ForMost
import HandS.Wide
import HandS.IsInst
import HandS.EndBits
import HandS.ExcInit
import HandS.ExcIs
import HandS.ExcField
import HandS.ExcValue
import PyProof.ExcBaseAll.OverflowError
import PyProof.ExcBaseAll.LookupError
import PyProof.ExcBaseAll.ValueError
import HandS.TupAny
import HandS.Walk
import HandS.TupMul
import PyProof.ReprRoads
import HandS.Lambda
import HandS.EndTab
import HandS.HotCalls
import HandS.TryMany
import PyProof.ReprLen
import HandS.MakeKwOnly
import HandS.Property
import HandS.FStr
import HandS.SlotsOwn
import HandS.WordsExc
import KE.KNestM
import HandS.Conv
import HandS.Style
import PySem.Challenge.RW_handlesagain_k46_whole_orders_of_numbers
set_option Elab.async false
set_option maxRecDepth 100000
set_option maxHeartbeats 2000000
namespace PySem
namespace ExK
open PySem.W PySem.Calls PyProof.Rows PySem.HandSPX
open Builtin Builtin.ObjectAttr
/-! ### an own exception class called with keywords -/
section
variable {M : Model} {A : Around} {E : Value → Shared → Prop} {h : Heap} {g : Array GenState} {d : Drawn} {t : Nat} {os : OsState}
  {nm q : Str} {C N : Addr} {bs bm bmB : List Value} {hdct : Bool} {sn : List Str} {sub : List Value} {ab : Bool} {col : Option Bool} {dd : Option Addr}
  {k0 k1 k2 k3 k5 : Option Value} {B newId initId : String} {xs : List Value} {kw : List (Str × Value)}
/-- bm has the built-in classes of bmB, and no other -/
def SameB (bm bmB : List Value) : Prop := ∀ X : String, bm.contains (.type X) = bmB.contains (.type X)
/-- the class at C -/
def ClsAt (h : Heap) (nm q : Str) (C N : Addr) (bs bm : List Value) (hdct : Bool) (sn : List Str) (sub : List Value) (ab : Bool) (col : Option Bool) (dd : Option Addr) (k0 k1 k2 k3 k5 : Option Value) (newId : String) : Prop :=
  h.get? C = some (excClassObj nm q C N bs bm hdct sn sub ab col dd k0 k1 k2 k3 k5 newId)
theorem sub_of (hT : SameB bm bmB) (X : String) : (Value.ref C :: bm).contains (.type X) = bmB.contains (.type X) := by
  rw [List.contains_cons, hT X]
  rfl
theorem ck_new (F : ExcBaseFacts B newId initId bmB) (hT : SameB bm bmB) {Q : Unit → Shared → Prop} (hC : ClsAt h nm q C N bs bm hdct sn sub ab col dd k0 k1 k2 k3 k5 newId)
    (hq : Q () ⟨h, g, d, t, os⟩) : wpAny M A (checkBuiltinCall newId ⟨.ref C :: xs, kw⟩) Q E ⟨h, g, d, t, os⟩ := by
  have e1 : (Value.ref C :: bm).contains (.type B) = true := (sub_of hT B).trans F.hasB
  have z9 := F.noStar
  unfold ClsAt at hC
  simp only [checkBuiltinCall, F.newKind, F.newSplit, F.newRow]
  repeat (first
    | refine wpAny_loadPart_at hC ?_
    | (refine wpAny_isSubtype_exc hC ?_
       rw [e1])
    | refine wpAny_staticBase_exc hC ?_
    | refine wpAny_madeBy_exc hC ?_
    | simp only [bne_self_eq_false, Bool.false_eq_true, if_false]
    | wp_step)
  exact hq
end
section
variable {prog : Program} {w : World} {A : Around} {E : Value → Shared → Prop} {R : Result → Shared → Prop} {h : Heap} {g : Array GenState} {d : Drawn} {t : Nat} {os : OsState}
  {nm q : Str} {C N : Addr} {bs bm bmB : List Value} {hdct : Bool} {sn : List Str} {sub : List Value} {ab : Bool} {col : Option Bool} {dd : Option Addr}
  {k0 k1 k2 k3 k5 : Option Value} {B newId initId : String} {xs : List Value} {kw : List (Str × Value)}
theorem nw_kw (F : ExcBaseFacts B newId initId bmB) (hT : SameB bm bmB) (hC : ClsAt h nm q C N bs bm hdct sn sub ab col dd k0 k1 k2 k3 k5 newId)
    (hq : R (.ok (.ret (.ref (h.objs.size + 1)))) ⟨(h.push (W.kdv_tup xs)).push (excO C h.objs.size), g, d, t, os⟩) (hl : xs.length ≤ sizeLine) :
    codeAny (model prog w) A (.builtin newId ⟨.ref C :: xs, kw⟩) R ⟨h, g, d, t, os⟩ := by
  have z0 := F.ends
  have z1 : (Value.ref C :: bm).contains (.type B) = true := (sub_of hT B).trans F.hasB
  have z2 : (Value.ref C :: bm).contains (.type "AttributeError") = false := (sub_of hT _).trans F.noAttr
  have z3 : (Value.ref C :: bm).contains (.type "NameError") = false := (sub_of hT _).trans F.noName
  unfold ClsAt at hC
  apply codeAny_builtinAt F.entry
  unfold Builtin.«BaseException.__new__»
  apply wpAt_bind
  show wpAt _ _ _ (stack >>= _) _ _ _
  refine wpAt_bind (wpAt_stack fun p below => wpAt_of_wpAny ?_)
  wp_walk
  apply wpAt_of_wpAny
  rw [F.owner]
  repeat (first
    | with_reducible refine wpAny_madeHere_exc F.canon hC ?_
    | with_reducible refine wpAny_loadPart_at hC ?_
    | (with_reducible refine wpAny_isSubtype_exc hC ?_
       first | rw [z1] | rw [z2] | rw [z3])
    | wp_step)
  show R _ _
  rw [Heap.size_push]
  exact hq
theorem ck_call {M : Model} {Q : Unit → Shared → Prop} (hC : ClsAt h nm q C N bs bm hdct sn sub ab col dd k0 k1 k2 k3 k5 newId) (hq : Q () ⟨h, g, d, t, os⟩) :
    wpAny M A (checkBuiltinCall "type.__call__" ⟨.ref C :: xs, kw⟩) Q E ⟨h, g, d, t, os⟩ := by
  have z0 := tc_sub
  unfold ClsAt at hC
  have z1 : (⟨h, g, d, t, os⟩ : Shared).TypeIs (.ref C) "type" := ⟨_, hC, rfl⟩
  simp only [checkBuiltinCall, tc_kind, tc_split]
  repeat (any_goals (first
    | assumption
    | with_reducible refine wpAny_loadPart_at hC ?_
    | with_reducible refine wpAny_onRaise ?_
    | with_reducible refine wpAny_map ?_
    | wp_step))
/-- what __init__ hands back is None -/
def BackI (a : Addr) (E : Value → Shared → Prop) (Q : Fin → Shared → Prop) : Result → Shared → Prop := fun r s' => match r with
  | .ok (.ret v) => v = .none ∧ Q (.done (.ret (.ref a))) s'
  | .ok _ => False
  | .error e => E e s'
theorem tc_kw {fI : Addr} {Q : Fin → Shared → Prop} (F : ExcBaseFacts B newId initId bmB) (hT : SameB bm bmB) (hC : ClsAt h nm q C N bs bm hdct sn sub ab col dd k0 k1 k2 k3 k5 newId)
    (hi : W.Looks (model prog w) h (typeLookup (.ref C) "__init__") (some (.ref fI))) (hb : ∀ v, W.Looks (model prog w) h (bindSpecial (.ref fI) v) (.ref fI, [v])) (hl : xs.length ≤ sizeLine)
    (hq : codeAny (model prog w) A (.call (.ref fI) ⟨.ref (h.objs.size + 1) :: xs, kw⟩) (BackI (h.objs.size + 1) E Q) ⟨(h.push (W.kdv_tup xs)).push (excO C h.objs.size), g, d, t, os⟩) :
    wpAny (model prog w) A (Builtin.«type.__call__» ⟨.ref C :: xs, kw⟩) Q E ⟨h, g, d, t, os⟩ := by
  have hC0 := hC
  unfold ClsAt at hC
  repeat (first
    | with_reducible refine wpAny_loadPart_at hC ?_
    | with_reducible refine wpAny_madeBy_exc hC ?_
    | wp_step)
  apply codeAny_call_builtin_code (Code.quiet_builtin _ F.quiet) (ck_new F hT hC0 _)
  refine nw_kw F hT hC0 ?_ hl
  show wpAny _ _ _ _ _ _
  have kp : ∀ b o, h.get? b = some o → ((h.push (W.kdv_tup xs)).push (excO C h.objs.size)).get? b = some o := fun b o e =>
    Heap.get?_push_of_some _ (Heap.get?_push_of_some _ e)
  have y1 := kp _ _ hC
  have y2 : ((h.push (W.kdv_tup xs)).push (excO C h.objs.size)).get? (h.objs.size + 1) = some (excO C h.objs.size) := by
    heap_get
  have y3 : (Value.ref C :: bm).contains (.ref C) = true := by
    simp
  have y4 := hi.keeps kp
  have y5 := (hb (.ref (h.objs.size + 1))).keeps kp
  unfold isInstance
  repeat (first
    | with_reducible refine wpAny_loadPart_at y2 ?_
    | (with_reducible refine wpAny_isSubtype_exc y1 ?_
       rw [y3])
    | wp_step)
  show wpAny _ _ (typeLookup (.ref C) _) _ _ _
  refine y4.at ?_
  refine wpAny_holding (wpAny_bind (y5.at ?_))
  refine wpAny_bind (wpAny_call (codeAny_mono hq fun r s' z => ?_))
  cases r with
  | error e => exact z
  | ok fl =>
    cases fl with
    | ret v =>
      obtain ⟨rfl, z⟩ := z
      first
        | exact wpAny_pure (wpAny_pure z)
        | (wp_walk
           exact z)
    | next => exact z.elim
    | brk => exact z.elim
    | cont => exact z.elim
theorem own_kw {fI : Addr} (F : ExcBaseFacts B newId initId bmB) (hT : SameB bm bmB) (hC : ClsAt h nm q C N bs bm hdct sn sub ab col dd k0 k1 k2 k3 k5 newId)
    (hi : W.Looks (model prog w) h (typeLookup (.ref C) "__init__") (some (.ref fI))) (hb : ∀ v, W.Looks (model prog w) h (bindSpecial (.ref fI) v) (.ref fI, [v])) (hl : xs.length ≤ sizeLine)
    (hq : codeAny (model prog w) (A.under (.builtin "type.__call__" ⟨.ref C :: xs, kw⟩)) (.call (.ref fI) ⟨.ref (h.objs.size + 1) :: xs, kw⟩) (W.InitBack (h.objs.size + 1) R)
      ⟨(h.push (W.kdv_tup xs)).push (excO C h.objs.size), g, d, t, os⟩) :
    codeAny (model prog w) A (.call (.ref C) ⟨xs, kw⟩) R ⟨h, g, d, t, os⟩ := by
  have x1 := tc_lookup
  have x2 := tc_bind (.ref C)
  have hC0 := hC
  unfold ClsAt at hC
  have x3 : (⟨h, g, d, t, os⟩ : Shared).TypeIs (.ref C) "type" := ⟨_, hC, rfl⟩
  apply codeAny_of_tree
  show wpAny _ _ (callAny (.ref C) _) _ _ _
  repeat (any_goals (first
    | assumption
    | with_reducible refine wpAny_loadPart_at hC ?_
    | wp_step))
  refine ⟨rfl, ?_⟩
  refine codeAny_call_builtin_at (Code.quiet_builtin _ (by decide +kernel)) entry_typeCall (ck_call hC0 (tc_kw F hT hC0 hi hb hl ?_))
  refine codeAny_mono hq fun r s' z => ?_
  rcases r with e | (v | _ | _ | _) <;> exact z
end
/-! ### self.f = v on such an exception -/
def MroOk (l : List Value) : Prop := (∀ v, refuseLoop v "__setattr__" l = pure ()) ∧ l.isEmpty = false ∧ l.contains (.type "object") = true
section
variable {prog : Program} {w : World} {A : Around} {E : Value → Shared → Prop} {R : Result → Shared → Prop} {hp : Heap} {g : Array GenState} {d : Drawn} {t : Nat} {os : OsState}
theorem st_gen {K : W.Frag} {f : Str} {tk : Tok} {v : Value} {x C : Addr} {fv : Array Value} {cd : ClassData} (X : K.In hp) (hx : hp.get? x = some { cls := .ref C, data := .fields fv })
    (hcd : W.clsIn K C = some cd) (hm : MroOk cd.mro) (hh : cd.hasDict = true) (ha : W.findIn K (.ref C) f = some none)
    (hq : ∀ h' tk' dx, (∀ b o, b ≠ x → hp.get? b = some o → h'.get? b = some o) → hp.objs.size ≤ dx → dx ≠ x → h'.get? x = some { cls := .ref C, dict := some dx, data := .fields fv } →
      h'.Ns1 dx (fun y => if y = f then some v else none) → R (.ok (.ret .none)) ⟨h', g, d, tk', os⟩) :
    codeAny (model prog w) A (.call (.builtin "object.__setattr__") ⟨[.ref x, .str f tk, v], []⟩) R ⟨hp, g, d, t, os⟩ := by
  obtain ⟨m1, m2, m3⟩ := hm
  have J : W.InstAt hp x { cls := .ref C, data := .fields fv } C none := ⟨hx, rfl, rfl, trivial⟩
  have S := F.store_object
  have nx : x ≠ hp.objs.size := Nat.ne_of_lt (Heap.lt_size hx)
  have e0 : W.mroIn K C (.type "object") = some true := by
    unfold W.mroIn
    rw [hcd, Option.bind_some, if_neg (by rw [m2]; decide), m3]
  have e1 : W.Looks (model prog w) hp (isInstance (.ref x) (.type "object")) true :=
    J.type.andThen (W.looks_mroIn X e0)
  have e2 : W.Looks (model prog w) hp (mroOf (.ref C)) cd.mro := (W.looks_clsIn X hcd).andThen .now
  have e3 : W.Looks (model prog w) hp (storeTaker? none) none := .now
  have e4 : W.Looks (model prog w) hp (classData C) cd := W.looks_clsIn X hcd
  refine codeAny_call_builtin S.slot.plain S.entry ?_
  refine @W.check_slot (model prog w) _ _ ⟨hp, g, d, t, os⟩ "object.__setattr__" "object" "__setattr__" (.ref x) [.str f tk, v] [] _ S.kind S.split e1 (S.args (.ref x) (.str f tk) v) ?_
  rw [W.osa_eq, refuse_eq]
  refine wpAny_bind (wpAny_bind (J.type.at (wpAny_bind (e2.at ?_))))
  rw [m1]
  refine wpAny_pure (wpAny_bind (J.type.at (wpAny_bind ?_)))
  refine (W.looks_findIn X ha).at (wpAny_bind (e3.at ?_))
  show wpAny _ _ (storeInOwnDict (.ref x) (.ref C) (.str f tk) f v false) _ _ _
  obtain ⟨nm, bs, mro, ns, qn, hd, sn, sb, ab, col, del⟩ := cd
  dsimp only at hh
  subst hh
  unfold storeInOwnDict ownDictForStores
  repeat (first
    | with_reducible refine store_in_new ?_ ?_
    | with_reducible refine wpAny_loadPart_at hx ?_
    | with_reducible refine e4.at ?_
    | wp_step)
  · have y : (hp.push { cls := .type "dict", data := .dict #[] }).get? hp.objs.size = _ := Heap.get?_push_at rfl rfl
    exact ⟨_, #[], _, (Heap.get?_update_ne _ _ _ _ nx.symm).trans y, rfl, fun e he => absurd he (by simp), fun _ => rfl⟩
  · intro h' tk' hn' hs
    have y : (hp.push { cls := .type "dict", data := .dict #[] }).get? x = some { cls := .ref C, data := .fields fv } :=
      Heap.get?_push_of_some _ hx
    refine hq h' tk' hp.objs.size (fun b o hb ho => ?_) (Nat.le_refl _) nx.symm ?_ hn'
    · have z := Heap.get?_push_of_some { cls := .type "dict", data := .dict #[] } ho
      exact (hs.2 b (Nat.ne_of_lt (Heap.lt_size ho))).trans ((Heap.get?_update_ne _ _ _ _ hb).trans z)
    · exact (hs.2 x nx).trans (Heap.get?_update_self _ y rfl)
end
end ExK
namespace W
open PySem PySem.Spec PySem.Calls PyProof.Rows
section
variable {prog : Program} {w : World} {A : Around} {E : Value → Shared → Prop} {s : Shared} {K : Frag} {x D : Addr} {ox : Obj} {od : Option Obj}
/-- x.__class__, x an exception, with a dict or without -/
theorem exk_class {Q : Option Value → Shared → Prop} (ga : findIn K (.ref D) "__getattribute__" = some (some (.builtin "BaseException.__getattribute__")))
    (gg : findIn K (.ref D) "__getattr__" = some none) (sb : subIn K (.ref D) (.type "BaseException") = some true) (hf : findObj K D od "__class__" = some (.bind (.builtin "getset_descriptor.__get__") (.builtin "object.__class__")))
    (hm : mroIn K D (.type "object") = some true) (X : K.In s.heap) (I : InstAt s.heap x ox D od) (h : Q (some (.ref D)) { s with toks := s.toks + 1 }) :
    wpAny (model prog w) A (getAttr? (.ref x) "__class__") Q E s := by
  obtain ⟨hp, g, d, t, os⟩ := s
  have l0 := I.type (M := model prog w)
  have l1 := looks_findIn (M := model prog w) X ga
  have l2 := looks_findIn (M := model prog w) X gg
  have l3 := looks_find (M := model prog w) X I hf
  have l4 : Looks (model prog w) hp (isInstance (.ref x) (.type "BaseException")) true :=
    l0.andThen (looks_subIn X sb)
  have b0 : (false && onTheHeap (Value.builtin "BaseException.__getattribute__")) = false := rfl
  have b1 : (onTheHeap (Value.ref D) && Value.builtin "BaseException.__getattribute__" == Value.builtin "object.__getattribute__") = false := by
    rw [show (Value.builtin "BaseException.__getattribute__" == Value.builtin "object.__getattribute__") = false by decide +kernel]
    rfl
  unfold getAttr? getAttrBy? getAttrBy
  refine wpAny_bind (wpAny_mkText (wpAny_bind (wpAny_attempt ?_)))
  refine wpAny_holding (wpAny_bind (l0.at (wpAny_bind (l1.at ?_))))
  show wpAny _ _ (if (onTheHeap (Value.ref D) && Value.builtin "BaseException.__getattribute__" == Value.builtin "object.__getattribute__") = true
    then _ else _) _ _ _
  rw [b1, if_neg Bool.false_ne_true]
  unfold getAttrByItsOwn hookBefore
  apply wpAny_bind
  rw [if_pos (show onTheHeap (Value.ref D) = true from rfl)]
  apply l2.at
  apply wpAny_bind
  refine wpAny_attempt (wpAny_holding ?_)
  unfold callGetattribute
  rw [b0, if_neg Bool.false_ne_true]
  unfold boundAndCalled
  rw [PySem.F.excAttr_ValueError.ga.bind (.ref x)]
  refine wpAny_bind (wpAny_pure ?_)
  show wpAny _ _ (call (.builtin "BaseException.__getattribute__")
    [.ref x, .str "__class__" t]) _ _ _
  apply wpAny_call
  apply codeAny_call_builtin PySem.F.excAttr_ValueError.ga.plain PySem.F.entry_bexc_ga
  refine @check_slot (model prog w) _ _ ⟨hp, g, d, t + 1, os⟩ "BaseException.__getattribute__" "BaseException" "__getattribute__" (.ref x)
    [.str "__class__" t] [] _ (by decide +kernel) (by decide +kernel) l4 (PySem.F.args_bexc_ga (.ref x) (.str "__class__" t)) ?_
  unfold Builtin.«object.__getattribute__»
  refine wpAny_bind (wpAny_of_eq (a := ((Value.ref x : Value), [Value.str "__class__" t])) (by
    first
      | rfl
      | (simp only [slotArgs]
         rfl)) ?_)
  refine wpAny_bind (wpAny_pure (wpAny_bind (l0.at ?_)))
  refine wpAny_bind (l3.at ?_)
  show wpAny _ _ (holding [Value.builtin "object.__class__"]
    (call (.builtin "getset_descriptor.__get__") [.builtin "object.__class__", .ref x, .ref D]) >>= ret) _ _ _
  refine wpAny_bind (wpAny_holding (wpAny_call ?_))
  refine class_get (s := ⟨hp, g, d, t + 1, os⟩) (ox := ox) (od := od) X I hm ?_
  apply wpAny_pure
  show wpAny _ _ (handedOut (.ref D)) _ _ _
  rw [handedOut_of (v := .ref D) rfl]
  first
    | exact wpAny_pure (wpAny_pure h)
    | exact wpAny_pure h
    | exact wpAny_pure (wpAny_bind (wpAny_pure (wpAny_pure h)))
theorem exk_kit (ga : findIn K (.ref D) "__getattribute__" = some (some (.builtin "BaseException.__getattribute__"))) (gg : findIn K (.ref D) "__getattr__" = some none)
    (sb : subIn K (.ref D) (.type "BaseException") = some true) (hd : hasDictIn K D = true) (hf : findObj K D od "__class__" = some (.bind (.builtin "getset_descriptor.__get__") (.builtin "object.__class__")))
    (hm : mroIn K D (.type "object") = some true) : KitX K (.ref x) (.ref D) (fun h => InstAt h x ox D od) := by
  have there : ∀ h : Heap, K.In h → ∃ o : Obj, h.get? D = some o ∧ (∀ its n, o.data ≠ .seq its n) ∧ ∃ cd, o.data = .cls cd := fun h X => by
    obtain ⟨cd, hc, _⟩ := any_some hd
    unfold clsIn at hc
    split at hc
    · rename_i ho
      exact ⟨_, X _ _ ho, fun _ _ z => (nomatch z), _, rfl⟩
    · cases hc
  refine ⟨fun _ _ _ I => I.type, fun M h X _ => ?_, fun h tp dd its n sl X htp => ?_, fun X I k => exk_class ga gg sb hf hm X I k⟩
  · obtain ⟨o, ho, _, cd, hcd⟩ := there h X
    obtain ⟨oc, odd, oda, osl⟩ := o
    dsimp only at hcd
    subst hcd
    intro A' Q' E' s' k q
    unfold isType loadHead
    exact wpAny_bind (wpAny_loadPart (k _ _ ho) (wpAny_pure q))
  · refine Bool.eq_false_iff.mpr fun q => ?_
    obtain rfl : D = tp := Value.ref.inj (beq_iff_eq.mp q)
    obtain ⟨o, ho, hn, _⟩ := there h X
    rw [ho] at htp
    cases htp
    exact hn _ _ rfl
end
end W
end PySem
namespace L2
open PySem PySem.Spec PyProof.Rows PySem.ExK
/-- what the written part says of an own exception class at C, of whatever base -/
structure ExvC (K : PySem.W.Frag) (C : Addr) : Prop where
  cls : ∃ nm q N bs bm sn sub ab col dd k0 k1 k2 k3 k5 B newId initId bmB, K.lookup C = some (excClassObj nm q C N bs bm true sn sub ab col dd k0 k1 k2 k3 k5 newId) ∧
    ExcBaseFacts B newId initId bmB ∧ SameB bm bmB ∧ MroOk (.ref C :: bm)
  sa : PySem.W.findIn K (.ref C) "__setattr__" = some (some (.builtin "object.__setattr__"))
  kC : PySem.W.keepIn K (.ref C) = true
section
variable {X : Cx} {pins : List (Addr × Obj)} {σ : St} {H : Hp} {s : Shared} {a C dx : Addr} {f : Str} {y : V} {u : Value}
theorem st_ex (T : ExvC X.K C) (I : Inv X pins σ H s) (e : H a = some (exo a C none)) (hno : PySem.W.findIn X.K (.ref C) f = some none) (ry : RelV y u) {A : Around} {Q : Unit → Shared → Prop} {E : Value → Shared → Prop}
    (h : ∀ dx s', H dx = none → dx ≠ a → Inv X pins σ (upd (upd H dx (exd dx [(f, y)])) a (exo a C (some dx))) s' → Q () s') : wpAny (model X.prog X.w) A (setAttr (.ref a) f u) Q E s := by
  obtain ⟨nm, q, N, bs, bm, sn, sub, ab, col, dd, k0, k1, k2, k3, k5, B, newId, initId, bmB, hC, FB, hS, hM⟩ := T.cls
  obtain ⟨cd, hcd, c1, c2⟩ : ∃ cd : ClassData, PySem.W.clsIn X.K C = some cd ∧ cd.mro = .ref C :: bm ∧ cd.hasDict = true := by
    unfold PySem.W.clsIn
    rw [hC]
    exact ⟨_, rfl, rfl, rfl⟩
  obtain ⟨t1, ho⟩ := exo_at I.hok e
  obtain ⟨hp, g, d, t, os⟩ := s
  have J : PySem.W.InstAt hp a ({ cls := .ref C, dict := none, data := .fields #[.ref t1, .none, .none, .none, .bool false, .none] } : Obj) C none := ⟨ho, rfl, rfl, trivial⟩
  refine PySem.W.set_plain I.kIn J T.sa (st_gen I.kIn ho hcd (by rw [c1]; exact hM) c2 hno fun h' tk' dx k dn dne hx hn => ?_)
  have hnd : H dx = none := I.hok.fresh dn
  have n1 : ∀ {b : Addr} {o : Obj}, hp.get? b = some o → b ≠ dx := fun {b o} q =>
    Nat.ne_of_lt (Nat.lt_of_lt_of_le (Heap.lt_size q) dn)
  have n2 : ∀ {b : Addr}, H b = none → b ≠ a := fun {b} n z => by
    rw [z, e] at n
    cases n
  have stay : ∀ {b : Addr} {o : HO}, H b = some o → exo a C none ≠ o → (upd (upd H dx (exd dx [(f, y)])) a (exo a C (some dx))) b = some o := fun {b o} q n => by
    rw [upd_ne (at_ne e q n), upd_ne (ne_of_none q hnd)]
    exact q
  have U : Un X.fs [] H (upd (upd H dx (exd dx [(f, y)])) a (exo a C (some dx))) hp h' := {
    keep := fun b o q n _ _ => k b o (n2 n) q
    slot := fun b o q n _ _ => ⟨o.slots, k b o (n2 n) q⟩
    free := fun b o q n _ => by
      rw [upd_ne (n2 n), upd_ne (n1 q)]
      exact n
    there := fun b o q _ => by
      by_cases hb : b = a
      · subst hb
        exact ⟨_, hx⟩
      · exact ⟨o, k b o hb q⟩
    tups := fun b xs q => stay q exo_tup
    frzs := fun b o v q => stay q exo_frz
    tbls := fun b ps q => ⟨#[], by rw [stay q exo_tbl]; simp⟩ }
  refine h dx _ hnd dne (I.un (t' := tk') U fun b o q => ?_)
  by_cases hb : b = a
  · subst hb
    rw [upd_same] at q
    cases q
    exact exo_ok hx
  rw [upd_ne hb] at q
  by_cases hd : b = dx
  · subst hd
    rw [upd_same] at q
    cases q
    exact exd_ok hn (relO_put (fs := []) ry fun g => True.intro)
  rw [upd_ne hd] at q
  refine (I.hok b o q).stay (fun c v hc z => k c v (fun e2 => ?_) z) (fun c hc => stay hc exo_own) (fun c xs hc => stay hc exo_tup)
  rcases hc with hc | hc
  · exact hb (hc.symm.trans e2)
  · exact at_ne e hc exo_own e2
/-- self.f = e, self an exception that has no field yet -/
def tStx (K : PySem.W.Frag) (f : Str) (to te : TE) : TS := fun D σ H => te σ H fun y H1 => to σ H1 fun x H2 => ∃ a C : Addr, x = .ref a ∧ ExvC K C ∧ PySem.W.findIn K (.ref C) f = some none ∧
  H2 a = some (exo a C none) ∧ ∀ dx, H2 dx = none → dx ≠ a → D.nx σ (upd (upd H2 dx (exd dx [(f, y)])) a (exo a C (some dx)))
end
section
variable {X : Cx} {o e : Expr} {es : List Expr} {to te : TE} {ta tk : TA} {f : Str} {p p' pos : Pos}
theorem ps_stx (ho : PE X o to) (he : PE X e te) (hs : swapsWith e (some (.Attribute o f p')) pos.line X.env = pure false := by rfl) :
    PS X (.Assign [.Attribute o f p'] e pos) (tStx X.K f to te) := by
  constructor
  intro pins s σ H D I h
  refine plainObj_wpAny_Assign_Attribute (thn (he.run pins s σ H _ I h) fun v s1 ⟨y, H1, I1, r1, q1⟩ => ?_) hs
  refine thn (ho.run pins s1 σ H1 _ I1 q1) fun u s2 ⟨x, H2, I2, r2, a, C, ex, T, hno, ea, q⟩ => ?_
  subst ex
  obtain rfl : u = Value.ref a := r2
  exact st_ex T I2 ea hno r1 fun dx s' n ne J => ⟨σ, _, J, q dx n ne⟩
/-- the making: us, the positional values; kw, the keywords; ws, what the parameters get -/
theorem run_ex {pins : List (Addr × Obj)} {σ : St} {H1 : Hp} {s1 : Shared} {Q : VK} {C fI : Addr} {k : Nat} {fd : FuncData} {ps : List Str} {sp : Sp} {CX : CXT} (T : ExvC X.K C) (iC : PySem.W.findIn X.K (.ref C) "__init__" = some (some (.ref fI)))
    (tI : PySem.W.typeIn X.K (.ref fI) = some (.type "function")) (F1 : FnOk X.prog X.w X.K X.mg X.base CX k fI fd ps sp) (hr : Room (k + 1) X.A) (hx : Passes CX X (fun _ _ _ => False)) (I1 : Inv X pins σ H1 s1)
    {us ws : List Value} {vs : List V} {kw : List (Str × Value)} (hl : us.length ≤ 1000) (rv : Vals vs ws) (hb : ∀ (s : Shared) (r : Value), BindsTo s fd ⟨r :: us, kw⟩ (ps.zip (r :: ws)))
    (h : ∀ a, H1 a = none → sp (.ref a :: vs) (upd H1 a (exo a C none)) (fun v H2 => v = .non ∧ Q (.ref a) H2) (fun _ _ _ => False)) :
    wpAny (model X.prog X.w) X.A (call (.ref C) us kw) (EP X pins σ Q) X.xe s1 := by
  obtain ⟨nm, q, N, bs, bm, sn, sub, ab, col, dd, k0, k1, k2, k3, k5, B, newId, initId, bmB, hC, FB, hS, hM⟩ := T.cls
  obtain ⟨hp, g, dr, tk, os⟩ := s1
  have z1 : hp.objs.size ≤ hp.objs.size + 1 := Nat.le_succ _
  have hq := h (hp.objs.size + 1) (I1.hok.fresh z1)
  have kk : ∀ b o, hp.get? b = some o → ((hp.push (PySem.W.kdv_tup us)).push (PySem.HandSPX.excO C hp.objs.size)).get? b = some o := fun b o e =>
    Heap.get?_push_of_some _ (Heap.get?_push_of_some _ e)
  have z2 : ((hp.push (PySem.W.kdv_tup us)).push (PySem.HandSPX.excO C hp.objs.size)).get? (hp.objs.size + 1) = some (PySem.HandSPX.excO C hp.objs.size) := by
    heap_get
  have I2 : Inv X pins σ (upd H1 (hp.objs.size + 1) (exo (hp.objs.size + 1) C none)) ⟨(hp.push (PySem.W.kdv_tup us)).push (PySem.HandSPX.excO C hp.objs.size), g, dr, tk, os⟩ :=
    I1.laid (t' := tk) (a := hp.objs.size + 1) (o := exo (hp.objs.size + 1) C none) kk z1 (exo_ok z2)
  have r2 : Vals (V.ref (hp.objs.size + 1) :: vs) (Value.ref (hp.objs.size + 1) :: ws) := .cons rfl rv
  have hus : us.length ≤ sizeLine := Nat.le_trans hl (by decide)
  have run := F1.run _ X.stack _ _ ⟨Value.ref (hp.objs.size + 1) :: us, kw⟩ (Value.ref (hp.objs.size + 1) :: ws) _ _ (fun _ _ _ => False) (hr.make C us kw) (I2.env0.make C us kw) (hb _ _) r2 hq
  refine wpAny_call (own_kw FB hS (I1.kIn _ _ hC) (PySem.W.looks_findIn I1.kIn iC) (fun v => PySem.W.bind_fn I1.kIn v tI) hus (codeAny_mono run fun r s' hq' => ?_))
  cases r with
  | error er => exact hx pins σ _ _ er s' I2 hq'
  | ok fl =>
    cases fl with
    | ret u =>
      obtain ⟨v, H', I3, rv, ev, q3⟩ := I2.after hq'
      subst ev
      exact ⟨rv, ⟨V.ref (hp.objs.size + 1), H', I3, rfl, q3⟩⟩
    | next => exact False.elim hq'
    | brk => exact False.elim hq'
    | cont => exact False.elim hq'
/-- C(e, ..) | C(k = e, ..): an own exception with its own __init__, as a value -/
def tExv (C : Addr) (sp : Sp) (ta : TA) : TE := fun σ H Q => ta σ H fun vs H1 => vs.length = 1 ∧ ∀ a, H1 a = none → sp (.ref a :: vs) (upd H1 a (exo a C none)) (fun v H2 => v = .non ∧ Q (.ref a) H2) (fun _ _ _ => False)
variable {CX : CXT} {x : Str} {C fI : Addr} {k : Nat} {fd : FuncData} {ps : List Str} {sp : Sp}
theorem pe_exv (T : ExvC X.K C) (iC : PySem.W.findIn X.K (.ref C) "__init__" = some (some (.ref fI))) (tI : PySem.W.typeIn X.K (.ref fI) = some (.type "function")) (F1 : FnOk X.prog X.w X.K X.mg X.base CX k fI fd ps sp)
    (hr : Room (k + 1) X.A) (hb : ∀ (s : Shared) (r u : Value), BindsTo s fd ⟨[r, u], []⟩ (ps.zip [r, u])) (hx : Passes CX X (fun _ _ _ => False)) (hg : Gl X x) (hm : X.mg x = some (.ref C)) (ha : PA X [e] ta)
    (hdb : (x == ("__debug__" : Str)) = false := by decide) (he : starEach [e] X.env = (false, eval e X.env) :: starEach [] X.env := by rfl) (hpl : (backTo pos (starEach [] X.env)).any (·.1) = false := by rfl) :
    PE X (.Call (.Name x p) [e] [] pos) (tExv C sp ta) := by
  constructor
  intro pins s σ H Q I h
  refine wpAny_Call_Name_kw (ld_glob I hg hm ?_ hdb)
  refine PySem.W.callWith_K (h₀ := X.base) I.ok.mod.kin T.kC (thn (ha.run pos pins s σ H _ I h) fun us s1 ⟨vs, H1, I1, r1, hz, q1⟩ => ⟨I1.kIn, ?_⟩) he hpl
  match vs, hz, r1 with
  | [v], _, r1 =>
    obtain ⟨u, rfl, ru⟩ := vals1 r1
    exact run_ex (us := [u]) T iC tI F1 hr hx I1 (show 1 ≤ 1000 by decide) r1 (fun s r => hb s r u) q1
theorem pe_exvK {kws : List Keyword} {kn : Str} (T : ExvC X.K C) (iC : PySem.W.findIn X.K (.ref C) "__init__" = some (some (.ref fI))) (tI : PySem.W.typeIn X.K (.ref fI) = some (.type "function")) (F1 : FnOk X.prog X.w X.K X.mg X.base CX k fI fd ps sp)
    (hr : Room (k + 1) X.A) (hb : ∀ (s : Shared) (r u : Value), BindsTo s fd ⟨[r], [(kn, u)]⟩ (ps.zip [r, u])) (hx : Passes CX X (fun _ _ _ => False)) (hg : Gl X x) (hm : X.mg x = some (.ref C)) (hkw : PK X kws tk)
    (hall : (backToKw pos (keywordEach kws X.env)).all (·.1.isSome) = true := by rfl) (hks : (backToKw pos (keywordEach kws X.env)).filterMap (·.1) = [kn] := by rfl)
    (hdb : (x == ("__debug__" : Str)) = false := by decide) (hpl : ((backTo pos (starEach [] X.env)).any (·.1) || (backToKw pos (keywordEach kws X.env)).any (·.1.isNone)) = false := by rfl) :
    PE X (.Call (.Name x p) [] kws pos) (tExv C sp tk) := by
  constructor
  intro pins s σ H Q I h
  refine wpAny_Call_Name_kw (ld_glob I hg hm ?_ hdb)
  refine PySem.W.callWith_KW0 (h₀ := X.base) I.ok.mod.kin T.kC hall (thn (hkw.run pos pins s σ H _ I h) fun us s1 ⟨vs, H1, I1, r1, hz, q1⟩ => ⟨I1.kIn, ?_⟩) hpl
  rw [hks]
  match vs, hz, r1 with
  | [v], _, r1 =>
    obtain ⟨u, rfl, ru⟩ := vals1 r1
    exact run_ex (us := []) (kw := [(kn, u)]) T iC tI F1 hr hx I1 (by decide) r1 (fun s r => hb s r u) q1
/-- C(), an own exception class without an __init__ of its own -/
theorem pe_exv0 {bmB : List Value} {B newId initId : String} (F : ExcBaseFacts B newId initId bmB) (q : PySem.W.excIn X.K C bmB newId = true) (gC : X.mg x = some (.ref C)) (kC : PySem.W.keepIn X.K (.ref C) = true) (hg : Gl X x)
    (hdb : (x == ("__debug__" : Str)) = false := by decide) : PE X (.Call (.Name x p) [] [] pos) (fun _ H Q => ∀ a, H a = none → Q (.ref a) (upd H a (ExO (.ref C) a))) := by
  constructor
  intro pins s σ H Q I h
  refine wpAny_Call_Name_kw (ld_glob I hg gC ?_ hdb)
  refine PySem.W.callWith_K0 I.kIn kC ?_
  show wpAny _ _ (call (.ref C) []) _ _ _
  obtain ⟨bm, N, nm, qn, bs, hdct, sn, sub, ab, col, dd, k0, k1, k2, k3, k5, mN, hC, hN, hni, T⟩ := exc_obj I.kIn q
  refine wpAny_call_exc_subT F T hC hN hni (fun h' a hm => ?_) (Nat.zero_le _)
  have hn : H a = none := I.hok.gone hm.new
  obtain ⟨t, ht, _, _⟩ := hm.there
  exact ⟨.ref a, upd H a (ExO (.ref C) a), I.laidN hm.keeps hm.new hn (exO_ok ht ⟨rfl, rfl⟩ rfl rfl rfl (show 4 < 6 by decide)), rfl, h a hn⟩
/-- e.f, e an exception that has the field -/
def tFx (K : PySem.W.Frag) (f : Str) (te : TE) : TE := fun σ H Q => te σ H fun x H1 => ∃ (a C d : Addr) (v : V), x = .ref a ∧ XfC K C ∧ PySem.W.findIn K (.ref C) f = some none ∧ H1 a = some (exo a C (some d)) ∧ H1 d = some (exd d [(f, v)]) ∧ Q v H1
theorem pe_fx (he : PE X e te) (hb : attributeBase e f X.env (eval e X.env) = eval e X.env := by rfl) : PE X (.Attribute e f pos) (tFx X.K f te) := by
  constructor
  intro pins s σ H Q I h
  refine attr_of hb (thn (he.run pins s σ H _ I h) fun u s1 hh => ?_)
  obtain ⟨x, H1, I1, rx, a, C, d, v, ex, T, hno, ea, ed, q⟩ := hh
  subst ex
  obtain rfl : u = Value.ref a := rx
  obtain ⟨t1, ho⟩ := exo_at I1.hok ea
  obtain ⟨mA, hns, hr⟩ := exd_at I1.hok ed
  obtain ⟨od, hod, hl⟩ := lookIn_ns hns
  have l : [(f, v)].lookup f = some v := by simp
  obtain ⟨w, hw, rw'⟩ := RelO.some_of (v := v) (o := mA f) (by rw [← l]; exact hr f)
  have J : PySem.W.InstAt s1.heap a _ C (some od) := ⟨ho, rfl, rfl, hod⟩
  exact HandSPX.exc_get I1.kIn J T.ga T.gg T.exC (PySem.W.findObj_own T.hdC hno rfl (by rw [hl, hw])) (handed_of rw') ⟨v, H1, I1.tok _, rw', q⟩
/-- isinstance(e, c), e an exception that stands in H -/
def ExAt (H : Hp) (a C : Addr) : Prop := (∃ d fs, H a = some (exo a C (some d)) ∧ H d = some (exd d fs)) ∨ H a = some (ExO (.ref C) a)
def rIsV (K : PySem.W.Frag) : List V → Hp → VK → Prop := fun xs H Q => ∃ (a C : Addr) (c : V) (u : Value) (b : Bool), xs = [.ref a, c] ∧ ExAt H a C ∧ ExcC K C ∧ ClsV c u ∧ PySem.W.kitOne K (.ref C) u = some b ∧ Q (.bl b) H
theorem call_isV : CallR X (.builtin "isinstance") (rIsV X.K) := by
  intro pins s σ H xs us Q I r h
  obtain ⟨a, C, c, u, b, rfl, ea, hc, k, e, q⟩ := h
  obtain ⟨u1, u2, rfl, r1, r2⟩ := vals2 r
  have e2 := k.eq r2
  subst e2
  cases r1
  have ok : ∀ {od : Option Obj}, PySem.W.findObj X.K C od "__class__" = some (.bind (.builtin "getset_descriptor.__get__") (.builtin "object.__class__")) := fun {od} => by
    obtain ⟨cd, hcd, _⟩ := PySem.W.any_some hc.hd
    have hs : (PySem.W.clsIn X.K C).isSome = true := by
      rw [hcd]
      rfl
    cases od with
    | none => exact PySem.W.findObj_dataN hs hc.ha hc.hn hc.ht
    | some o => exact PySem.W.findObj_data hs hc.ha hc.hn hc.ht
  obtain ⟨oe, od, J⟩ : ∃ oe od, PySem.W.InstAt s.heap a oe C od := by
    rcases ea with ⟨d, fs, ea, ed⟩ | ea
    · obtain ⟨t1, ho⟩ := exo_at I.hok ea
      obtain ⟨mA, hns, _⟩ := exd_at I.hok ed
      obtain ⟨od, hod, _⟩ := lookIn_ns hns
      exact ⟨_, some od, ho, rfl, rfl, hod⟩
    · have z : ObjOk X.prog X.w H s.heap a (ExO (.ref C) a) := I.hok a _ ea
      obtain ⟨⟨oe, vs, h1, ⟨h2, h3⟩, h4, _⟩, _⟩ := z
      exact ⟨oe, none, h1, h2, by unfold PySem.W.notCls; rw [h4], by rw [h3]; trivial⟩
  exact PySem.W.kia_one (PySem.W.exk_kit hc.hg hc.hk hc.hs hc.hd ok hc.hm) I.kIn J e (fun z => nomatch z) fun tk => ⟨.bl b, H, I.tok tk, rfl, q⟩
end
end L2

namespace Toy
open PySem L2 PySem.Spec PyProof.Rows PySem.ExK
def top (i : Nat) : Stmt := PySem.Challenge.pw_handlesagain_k46_whole_orders_of_numbers.main.body.getD i (.Pass ⟨0, 0, 0, 0⟩)
theorem _root_.L2.Same.new {H : Hp} {a : Addr} {o : HO} (h : H a = none) : Same H (upd H a o) := fun b u e => by
  rw [upd_ne (ne_of_none e h)]
  exact e
/-! ### where no repr is under way -/
section
/-- a def's promise, where no repr is under way around the call -/
structure FnG (P : Program) (w : World) (K : PySem.W.Frag) (mg : Str → Option Value) (base : Heap) (CX : CXT) (k : Nat) (f : Addr) (fd : FuncData) (ps : List Str) (sp : Sp) : Prop where
  len : ∀ vs H Q E, sp vs H Q E → vs.length = ps.length
  run : ∀ (A : Around) (outer : List Env) (s : Shared) (H : Hp) (args : Args) (us : List Value) (vs : List V) (Q : VK) (E : XK), A.guards = some [] → Room k A → Env0 P w K mg base A outer s H →
    BindsTo s fd args (ps.zip us) → Vals vs us → sp vs H Q E → codeAny (model P w) A (.call (.ref f) args) (CR CX outer P w H s Q E) s
theorem fnG_ok {P : Program} {w : World} {K : PySem.W.Frag} {mg : Str → Option Value} {base : Heap} {k : Nat} {x qual : Str} {st : Stmt} {f : Addr} {fd : FuncData} {N ps : List Str} {sp : Sp} (F : Fun K x qual st f fd) (S : FnScope N ps (defScope st))
    (len : ∀ vs H Q E, sp vs H Q E → vs.length = ps.length)
    (body : ∀ (cdv : Value) (A : Around) (outer : List Env) (s : Shared) (H : Hp) (vs : List V) (Q : VK) (E : XK), A.guards = some [] → Room k (A.deeper (PyProof.Rows.envOfC qual (defScope st) s.heap.objs.size f cdv)) → sp vs H Q E →
      ∃ t, PSs (cxOf CX0 P w K mg base N qual (defScope st) f cdv A outer s H E).nox (defBody st) t ∧ t { nx := fun _ H' => Q .non H', rt := Q } (start N vs) H) :
    FnG P w K mg base CX0 (k + 1) f fd ps sp := by
  obtain ⟨oc, od, kV, doc, pm, an, cdv, ct, osl, rfl, lk, hcd⟩ := F.ex
  constructor
  · exact len
  intro A outer s H args us vs Q E hg hr e0 hb r hsp
  have hl := len _ _ _ _ hsp
  have old : ∀ b o, base.get? b = some o → s.heap.get? b = some o := fun b o e => (e0.bs b o e).1
  have KX : K.In s.heap := e0.mod.kin.keeps old
  have kinds : ∀ y ∈ ps.zip us, (defScope st).names.lookup y.1 = some .local ∨
      ((defScope st).names.lookup y.1 = some .cell ∧ ((cellsFrom (s.heap.objs.size + 1) (defScope st).names []).lookup y.1).isSome = true) := by
    rintro ⟨n, v⟩ hy
    have q := S.par n (List.of_mem_zip hy).1
    refine q.imp id fun q => ⟨q, ?_⟩
    exact PySem.W.cellsFrom_some _ _ _ (.inl q)
  refine codeAny_call_function hr.depth (KX _ _ lk) rfl S.co S.gen rfl (PySem.W.codeRec_of KX hcd) (hb _ _ _ _ ?_)
  refine wpAny_newFunctionEnv_cells S.kind kinds fun env he s1 z => ?_
  subst he
  refine ⟨(e0.mod.nolimit.keeps old).keeps z.toInCall.keep, PySem.codeAny_func ?_⟩
  obtain ⟨t, ht, hq⟩ := body cdv A outer s H vs Q E hg (hr.deeper _) hsp
  have I := inv_start (CX := CX0) (E := E) (cd := cdv) (f := f) S hr.hd e0 hl r z
  refine wpAny_mono (ht.nox.run [] s1 (start N vs) H _ I hq) (fun fl s' hs => ?_) fun e s' hs => hs
  cases fl with
  | ret u =>
    obtain ⟨v, σ', H', J, rv, q⟩ := hs
    exact ⟨v, H', J.os, J.bare, J.base, J.hok, rv, q⟩
  | next =>
    obtain ⟨σ', H', J, q⟩ := hs
    exact ⟨V.non, H', J.os, J.bare, J.base, J.hok, rfl, q⟩
  | brk => exact hs.choose_spec.choose_spec.2.elim
  | cont => exact hs.choose_spec.choose_spec.2.elim
/-- the law's own call -/
theorem lawG {P : Program} {w : World} {K : PySem.W.Frag} {mg mb : Str → Option Value} {k : Nat} {fa a : Addr} {fd : FuncData} {sp : Sp} {s₁ : Shared} {vs : List Value} {ns : List Int} (KX : K.In s₁.heap) (hns : s₁.heap.Ns mainGlobals mg)
    (hb : s₁.heap.Ns builtinsNs mb) (hbb : ∀ x : Str, x ≠ "__name__" → mb x = bootBuiltins x) (hlim : s₁.heap.NoLimit) (hg : s₁.gens = #[])
    (ha : s₁.heap.get? a = some { cls := .type "list", data := .seq vs.toArray }) (hi : PyProof.Rows.IntsAre vs ns) (hl : ns.length ≤ sizeLine) (hr : Room k callerA)
    (F : ∀ base : Heap, K.In base → base.Ns mainGlobals mg → FnG P w K mg base CX0 k fa fd ["script"] sp) (bind : ∀ (s : Shared) (u : Value), BindsTo s fd ⟨[u], []⟩ [("script", u)])
    (hsp : ∀ H : Hp, SqL K H a (ns.map V.int) → sp [.ref a] H (fun v _ => v = .bl true) fun _ _ _ => False) :
    codeAny (model P w) callerA (.call (.ref fa) ⟨[.ref a], []⟩) (fun r s' => r = .ok (.ret (.bool true)) ∧ PySem.OldK s₁.heap s'.heap ∧ s'.os = s₁.os ∧ AllBare s'.gens) s₁ := by
  have rv := vals_ints hi
  have lenV := hi.length
  -- the abstract heap: nothing, or the script, locked
  have go : ∀ H : Hp, (∀ b o, H b = some o → b = a ∧ K.lookup a = none ∧ o = .frz { cls := .type "list", data := .seq vs.toArray } (.lst (ns.map V.int))) → SqL K H a (ns.map V.int) →
      codeAny (model P w) callerA (.call (.ref fa) ⟨[.ref a], []⟩) (fun r s' => r = .ok (.ret (.bool true)) ∧ PySem.OldK s₁.heap s'.heap ∧ s'.os = s₁.os ∧ AllBare s'.gens) s₁ := by
    intro H hA hS
    have hok : HOk P w H s₁.heap := fun b o q => by
      obtain ⟨rfl, _, rfl⟩ := hA b o q
      exact ⟨ha, by rw [List.length_map]; exact hl, vs, _, rv, ha⟩
    have low : ∀ {b : Addr} {o : Obj}, s₁.heap.get? b = some o → H b = none → (hidT s₁.heap H).get? b = some o := fun e n => hidT_get e n
    have free : ∀ {b : Addr} {o : Obj}, s₁.heap.get? b = some o → (∀ its n, o.data ≠ .seq its n) → H b = none := fun {b o} e d => by
      cases q : H b with
      | none => rfl
      | some u =>
        obtain ⟨rfl, _⟩ := hA b u q
        rw [ha] at e
        cases e
        exact absurd rfl (d _ _)
    have nsT : ∀ {b : Addr} {m : Str → Option Value}, s₁.heap.Ns b m → (hidT s₁.heap H).Ns b m := fun {b m} z => by
      obtain ⟨o, es, ep, e, d, r⟩ := z
      exact ⟨o, es, ep, low e (free e fun its n y => by rw [d] at y; cases y), d, r⟩
    have kT : K.In (hidT s₁.heap H) := fun b o e => by
      refine low (KX b o e) ?_
      cases q : H b with
      | none => rfl
      | some u =>
        obtain ⟨rfl, z, _⟩ := hA b u q
        rw [z] at e
        cases e
    have hM : Mod K mg (hidT s₁.heap H) := by
      obtain ⟨mc, h1, h2⟩ := hlim
      exact ⟨kT, nsT hns, ⟨mb, nsT hb, hbb⟩, ⟨mc, nsT h1, h2⟩⟩
    have e0 : Env0 P w K mg (hidT s₁.heap H) callerA [] s₁ H :=
      ⟨rfl, hM, fun b o e => of_hidT e, Nat.le_of_eq (hidT_size _ _), trivial, fun b hb => (nomatch hb), hok, .of_eq hg⟩
    have run := (F _ kT (nsT hns)).run callerA [] s₁ H ⟨[.ref a], []⟩ [.ref a] [.ref a] _ _ rfl hr e0 (bind s₁ (.ref a)) (.cons rfl .nil) (hsp H hS)
    refine codeAny_mono run fun r s' h => ?_
    cases r with
    | error e => exact False.elim h
    | ok fl =>
      cases fl with
      | next => exact False.elim h
      | brk => exact False.elim h
      | cont => exact False.elim h
      | ret u =>
        obtain ⟨v, H', os, bare, un, hok', r', q⟩ := h
        obtain rfl : v = .bl true := q
        obtain rfl : u = Value.bool true := r'
        refine ⟨rfl, PySem.OldK.of_keep fun b o e => ?_, os, bare⟩
        cases q : H b with
        | none => exact un.keep b o e q (fun z => nomatch z) (fun z => nomatch z)
        | some u =>
          obtain ⟨rfl, _, rfl⟩ := hA b u q
          have z := un.frzs b _ _ q
          rw [ha] at e
          cases e
          exact (hok' b _ z).1
  cases hk : K.lookup a with
  | some o =>
    have e := KX a o hk
    rw [ha] at e
    cases e
    refine go (fun _ => none) (fun b o z => nomatch z) (.inr ⟨_, vs.toArray, _, hk, rfl, rfl, rfl, ?_, by simpa using rv⟩)
    rw [List.size_toArray, lenV]
    exact hl
  | none =>
    refine go (fun b => if b = a then some (.frz { cls := .type "list", data := .seq vs.toArray } (.lst (ns.map V.int))) else none) (fun b o z => ?_) (.inl (.inr ⟨_, if_pos rfl⟩))
    by_cases hb : b = a
    · rw [if_pos hb] at z
      exact ⟨hb, hk, (Option.some.inj z).symm⟩
    · rw [if_neg hb] at z
      cases z
theorem walkG {l : PySem.W.OpenLaw} {k : Nat} {q : Program} {loose : List Str} {XP : (Str → Option Value) → Heap → Prop} {YP : World → Heap → Prop} {d : DefRec} {K : Params → PySem.W.Frag} {sp : PySem.W.Frag → Sp} (hn : l.most = some 63) (hdf : d.params.defaults = [])
    (hr : Room k callerA) (hY : ∀ (w : World) (h : Heap), YP w h → (K w.params).In h)
    (F : ∀ (w : World) (mg : Str → Option Value) (fa : Addr) (h : Heap), (K w.params).In h → h.Ns mainGlobals mg → mg d.name = some (.ref fa) →
      ∃ fd : FuncData, (∀ (s : Shared) (u : Value), BindsTo s fd ⟨[u], []⟩ [("script", u)]) ∧
        ∀ base : Heap, (K w.params).In base → base.Ns mainGlobals mg → FnG l.prog w (K w.params) mg base CX0 k fa fd ["script"] (sp (K w.params)))
    (hsp : ∀ (K : PySem.W.Frag) (H : Hp) (a : Addr) (ns : List Int), ns.length ≤ 63 → SqL K H a (ns.map V.int) → sp K [.ref a] H (fun v _ => v = .bl true) fun _ _ _ => False) :
    PySem.W.WalkO q loose XP YP l.row.toRowW d [] (fun f vs => PySem.call f vs) := by
  refine Att.attach_callB hn hdf fun w s₀ s₁ mg mb fa o pm cd doc a vs ns G Y ho hd hcd hmg hobj hints hlen hbits hg => ?_
  have KX := hY w _ Y
  obtain ⟨fd, hb, hF⟩ := F w mg fa _ KX G.T.g hmg
  exact lawG KX G.T.g G.T.b G.T.builtins G.T.nolimit hg hobj hints (Nat.le_trans hlen (by decide)) hr hF hb fun H hS => hsp (K w.params) H a ns hlen hS
end
/-! ### more rules of my own: repr of data, count, != of lists, tuple * n -/
section
variable {X : Cx}
/-- data that repr shows: as Dp says, or a dict that is empty -/
def Rp (K : PySem.W.Frag) (H : Hp) (v : V) (d : PyData) : Prop := Dp K H v d ∨ ∃ (a : Addr), v = .ref a ∧ H a = some (.dK []) ∧ d = .dict []
mutual
theorem dp_noDict {K : PySem.W.Frag} {H : Hp} : ∀ (d : PyData) (v : V), Dp K H v d → d.hasDict = false
  | .none, _, _ => rfl
  | .bool _, _, _ => rfl
  | .int _, _, _ => rfl
  | .str _, _, _ => rfl
  | .list ds, _, h => by
    cases h with
    | lst _ ha => exact dp_noDictAll ds _ ha
  | .tuple ds, _, h => by
    cases h with
    | tup _ ha => exact dp_noDictAll ds _ ha
  | .dict _, _, h => by cases h
theorem dp_noDictAll {K : PySem.W.Frag} {H : Hp} : ∀ (ds : List PyData) (vs : List V), DpAll K H vs ds → PyData.hasDictAll ds = false
  | [], _, _ => rfl
  | d :: ds, _, h => by
    cases h with
    | cons h1 h2 =>
      show (d.hasDict || PyData.hasDictAll ds) = false
      rw [dp_noDict d _ h1, dp_noDictAll ds _ h2]
      rfl
end
theorem Rp.reads {pins : List (Addr × Obj)} {σ : L2.St} {H : Hp} {s : Shared} (I : L2.Inv X pins σ H s) {v : V} {u : Value} {d : PyData} (h : Rp X.K H v d) (r : RelV v u) : ∃ as, Reads s.heap u d as ∧ (d.hasDict = true → sysModules ∉ as) := by
  rcases h with h | ⟨a, rfl, e, rfl⟩
  · obtain ⟨as, hr⟩ := Dp.reads I d v u h r
    refine ⟨as, hr, fun z => ?_⟩
    rw [dp_noDict d v h] at z
    cases z
  · cases r
    obtain ⟨_, hs, vs, kv, o, es, ep, h1, h2, h3, _, h5, _⟩ := (show ObjOk X.prog X.w H s.heap a (.dK []) from I.hok a _ e)
    cases kv
    cases hes : es.toList with
    | cons x xs =>
      rw [hes] at h5
      cases h5
    | nil =>
      refine ⟨_, Reads.dict (kvs := []) h1 h2.1 h3 (as := []) (bs := []) ?_ ?_, fun _ z => ?_⟩
      · rw [hes]
        exact .nil
      · rw [hes]
        exact .nil
      · rcases List.mem_cons.mp z with z | z
        · rw [z] at hs
          simp at hs
        · cases z
def okD (d : PyData) : Bool := d.showable && decide (d.depth ≤ 50) && decide (d.shown.length ≤ 100000) && PyData.strOk d.shown
theorem call_reprW (hg : X.A.guards = some []) (hu : X.A.units + 64 < cLine) : CallR X (.builtin "repr") (fun xs H Q => ∃ v d, xs = [v] ∧ Rp X.K H v d ∧ (d.showable = true ∧ d.depth ≤ 50 ∧ d.shown.length ≤ 100000) ∧ Q (.str d.shown) H) := by
  intro pins s σ H xs us Q I r h
  obtain ⟨v, d, rfl, hd, ho, q⟩ := h
  obtain ⟨u, rfl, ru⟩ := vals1 r
  obtain ⟨h1, h2, h3⟩ := ho
  obtain ⟨as, hr, hm⟩ := hd.reads I ru
  have fin : ∀ (h' : Heap) (t : Tok) (tk : Nat), (∀ b o, s.heap.get? b = some o → h'.get? b = some o) → EP X pins σ Q (.str d.shown t) { s with heap := h', toks := tk } := fun h' t tk kp =>
    ⟨.str d.shown, H, I.kept (t' := tk) kp, ⟨t, rfl⟩, q⟩
  have hsz : d.shown.length ≤ sizeLine := Nat.le_trans h3 (by decide)
  cases v with
  | ref a =>
    cases ru
    exact repr_of_reads' hr h1 hm hg (by omega) (fun b o e => e) (fun h' t tk kp => fin h' t tk kp) hsz
  | non =>
    cases ru
    cases hr
    exact PySem.P.repr_of_none (fin s.heap _ _ fun b o e => e)
  | bl b =>
    cases ru
    cases hr
    exact PySem.P.repr_of_bool (fin s.heap _ _ fun b o e => e)
  | int i =>
    obtain ⟨t, rfl⟩ := ru
    cases hr
    exact PySem.P.repr_of_int (by simpa [PyData.showable] using h1) (fin s.heap _ _ fun b o e => e)
  | str z =>
    obtain ⟨t, rfl⟩ := ru
    cases hr
    exact PySem.P.repr_of_str (fin s.heap _ _ fun b o e => e) hsz
  | byt b =>
    obtain ⟨t, rfl⟩ := ru
    cases hr
  | flt b =>
    obtain ⟨t, rfl⟩ := ru
    cases hr
  | ty n =>
    cases ru
    cases hr
theorem okD_w {d : PyData} (ho : okD d = true) : d.showable = true ∧ d.depth ≤ 50 ∧ d.shown.length ≤ 100000 := by
  unfold okD at ho
  simp only [Bool.and_eq_true, decide_eq_true_eq] at ho
  obtain ⟨⟨⟨h1, h2⟩, h3⟩, _⟩ := ho
  exact ⟨h1, h2, h3⟩
theorem call_reprD (hg : X.A.guards = some []) (hu : X.A.units + 64 < cLine) : CallR X (.builtin "repr") (fun xs H Q => ∃ v d, xs = [v] ∧ Rp X.K H v d ∧ okD d = true ∧ Q (.str d.shown) H) := by
  intro pins s σ H xs us Q I r h
  obtain ⟨v, d, e, hd, ho, q⟩ := h
  exact call_reprW hg hu pins s σ H xs us Q I r ⟨v, d, e, hd, okD_w ho, q⟩
/-- xs.count(y), flat things -/
def rCnt (K : PySem.W.Frag) : V → List V → Hp → VK → Prop := fun x xs H Q => ∃ (a : Addr) (ys : List V) (y : V), x = .ref a ∧ xs = [y] ∧ SqL K H a ys ∧ flatV y = true ∧ ys.all flatV = true ∧ Q (.int (ys.countP (eqV · y) : Nat)) H
theorem countP_eqU {x : V} : ∀ {xs : List V} {us : List Value}, Vals xs us → xs.all flatV = true → us.countP (eqU x) = xs.countP fun y => eqV y x
  | _, _, .nil, _ => rfl
  | y :: xs, u :: us, .cons r t, f => by
    rw [List.all_cons, Bool.and_eq_true] at f
    rw [List.countP_cons, List.countP_cons, eqU_of r f.1, countP_eqU t f.2]
theorem mt_count : MtR X "list.count" (rCnt X.K) := by
  intro pins s σ H x xs v us Q I rx rxs h
  obtain ⟨a, ys, y, rfl, rfl, hs, fy, fys, q⟩ := h
  cases rx
  obtain ⟨u, rfl, ru⟩ := rxs.one
  obtain ⟨its, rv, ⟨⟨cls, dd, data, sl⟩, n, ho, hc, hdn, hd⟩, hlen⟩ := I.list hs
  simp only at hc hd
  subst hc hd
  have cnt := SeqAt.list_countAt a its.toArray n dd sl u (eqU y)
  refine call_meets PySem.F.slot_list_count ⟨_, ho, rfl⟩ PySem.F.entry_list_count (PySem.F.args_list_count_2 _ _) cnt ?_
  refine ⟨ho, fun z hz => mem_eqAt ru fy rv fys z (by simpa using hz), ?_⟩
  refine ⟨.int (ys.countP (eqV · y) : Nat), H, I.tok _, ⟨s.toks, ?_⟩, q⟩
  rw [← countP_eqU rv fys]
end
/-! ### a tuple, once or not at all -/
section
/-- t * 1: t itself -/
theorem mul_one (l : Addr) (items : Array Value) (n : Nat) (dd : Option Addr) (sl : Array (Option Value)) (u : Tok) (c2 : items.isEmpty = false) :
    Meets (Builtin.«tuple.__mul__» ⟨[.ref l, .int 1 u], []⟩) (fun _ R s => s.heap.get? l = some { cls := .type "tuple", dict := dd, data := .seq items n, slots := sl } ∧ R (.ok (.ret (Value.ref l))) s) :=
  .of_wp fun prog w A R s h => by
    obtain ⟨hp, g, d, tk, os⟩ := s
    obtain ⟨hl, h⟩ := h
    have f1 := AutoSeq1.idx_int
    wp_walk using wpAny_loadPart' hl
    exact ⟨_, rfl, h⟩
/-- t * 0: an empty tuple -/
theorem mul_zero (l : Addr) (items : Array Value) (n : Nat) (dd : Option Addr) (sl : Array (Option Value)) (u : Tok) (c2 : items.isEmpty = false) :
    Meets (Builtin.«tuple.__mul__» ⟨[.ref l, .int 0 u], []⟩) (fun _ R s => s.heap.get? l = some { cls := .type "tuple", dict := dd, data := .seq items n, slots := sl } ∧
      R (.ok (.ret (Value.ref s.heap.objs.size))) { s with heap := s.heap.push { cls := Value.type "tuple", data := Data.seq #[] } }) :=
  .of_wp fun prog w A R s h => by
    obtain ⟨hp, g, d, tk, os⟩ := s
    obtain ⟨hl, h⟩ := h
    have f1 := AutoSeq1.idx_int
    wp_walk using wpAny_loadPart' hl
    exact ⟨_, rfl, h⟩
/-- t * k, k from 0 to 3: some tuple of that -/
def rRep3 (K : PySem.W.Frag) : V → V → Hp → VK → Prop := fun x y H Q => ∃ (l : Addr) (k : Int) (xs : List V), x = .ref l ∧ y = .int k ∧ SqT K H l xs ∧ H l = some (.tup xs) ∧ xs ≠ [] ∧ 0 ≤ k ∧ k ≤ 3 ∧ xs.length ≤ 1000 ∧
  ∀ p H', (∀ b o, H b = some o → H' b = some o) → H' p = some (.tup (List.replicate k.toNat xs).flatten) → Q (.ref p) H'
theorem op_rep3 {X : Cx} : OpR X (binaryOp .Mult) (rRep3 X.K) := by
  intro pins s σ H x y v u Q I rx ry h
  obtain ⟨l, k, xs, rfl, rfl, hT, eT, hne, h0, h3, hz, q⟩ := h
  by_cases hk : 2 ≤ k
  · refine op_repT pins s σ H _ _ v u Q I rx ry ⟨l, k, xs, rfl, rfl, hT, hne, hk, by omega, hz, fun p hp => q p _ (fun b o e => ?_) upd_same⟩
    rw [upd_ne (ne_of_none e hp)]
    exact e
  cases rx
  obtain ⟨t, rfl⟩ := ry
  obtain ⟨its, r, ⟨⟨cls, dd, data, sl⟩, ho, hc, n, hd⟩, hs⟩ := I.tuple hT
  simp only at hc hd
  subst hc hd
  have hi : its.toArray.isEmpty = false := by
    cases r with
    | nil => exact absurd rfl hne
    | cons a b => rfl
  have ty : s.TypeIs (.ref l) "tuple" := ⟨_, ho, rfl⟩
  have key : ∀ (i : Int), k = i → wpAny (model X.prog X.w) X.A (call (.builtin "tuple.__mul__") [.ref l, .int i t]) (EP X pins σ Q) X.xe s → wpAny (model X.prog X.w) X.A (binaryOp .Mult (.ref l) (.int k t)) (EP X pins σ Q) X.xe s := by
    rintro i rfl hq
    refine wpAny_binaryOp_repeat_ref (T := "tuple") (U := "int") (by decide) ty (fun s' => typeIs_int s' k t) noFill_tuple_mul F.fills_int_mul F.slot_int_rmul repeat_tuple F.slot_int_index.lookup ?_
    exact call_meets F.slot_int_rmul (typeIs_int s k t) F.entry_int_rmul (F.args_int_rmul_2 _ _) (int_rmul_tuple k t l its.toArray n dd sl) ⟨ho, rfl, ty, hq⟩
  have k01 : k = 0 ∨ k = 1 := by omega
  rcases k01 with rfl | rfl
  · refine key 0 rfl (call_meets F.slot_tuple_mul ty F.entry_tuple_mul (F.args_tuple_mul_2 _ _) (mul_zero l its.toArray n dd sl t hi) ⟨ho, ?_⟩)
    have I1 := I.laid (t' := s.toks) (a := s.heap.objs.size) (o := .tup []) (h' := s.heap.push { cls := Value.type "tuple", data := Data.seq #[] }) (fun _ _ q => Heap.get?_push_of_some _ q) (Nat.le_refl _)
      ⟨Nat.zero_le _, [], .nil, _, Heap.get?_push_at rfl rfl, rfl, _, rfl⟩
    have hn := I.hok.fresh (Nat.le_refl s.heap.objs.size)
    exact ⟨.ref s.heap.objs.size, _, I1, rfl, q _ _ (fun b o e => by rw [upd_ne (ne_of_none e hn)]; exact e) upd_same⟩
  · refine key 1 rfl (call_meets F.slot_tuple_mul ty F.entry_tuple_mul (F.args_tuple_mul_2 _ _) (mul_one l its.toArray n dd sl t hi) ⟨ho, ?_⟩)
    refine ⟨.ref l, H, I, rfl, q l H (fun b o e => e) ?_⟩
    rw [eT]
    simp
end
/-! ### data stays data; texts of ints -/
mutual
theorem dp_same {K : PySem.W.Frag} {H H' : Hp} (s : Same H H') : ∀ (d : PyData) (v : V), Dp K H v d → Dp K H' v d
  | .none, _, h => by cases h; exact .non
  | .bool _, _, h => by cases h; exact .bl _
  | .int _, _, h => by cases h; exact .int _
  | .str _, _, h => by cases h; exact .str _
  | .list ds, _, h => by
    cases h with
    | lst q ha => exact .lst (s.seq q) (dp_sameAll s ds _ ha)
  | .tuple ds, _, h => by
    cases h with
    | tup q ha =>
      refine .tup ?_ (dp_sameAll s ds _ ha)
      rcases q with (q | ⟨o, q⟩) | q
      · exact .inl (.inl (s _ _ q))
      · exact .inl (.inr ⟨o, s _ _ q⟩)
      · exact .inr q
  | .dict _, _, h => by cases h
theorem dp_sameAll {K : PySem.W.Frag} {H H' : Hp} (s : Same H H') : ∀ (ds : List PyData) (vs : List V), DpAll K H vs ds → DpAll K H' vs ds
  | [], _, h => by cases h; exact .nil
  | d :: ds, _, h => by
    cases h with
    | cons h1 h2 => exact .cons (dp_same s d _ h1) (dp_sameAll s ds _ h2)
end
theorem rp_same {K : PySem.W.Frag} {H H' : Hp} {v : V} {d : PyData} (h : Rp K H v d) (s : Same H H') : Rp K H' v d := by
  rcases h with h | ⟨a, rfl, e, rfl⟩
  · exact .inl (dp_same s d v h)
  · exact .inr ⟨a, rfl, s _ _ e, rfl⟩
theorem char_lt (c : Char) : c.toNat < 1114112 := by
  have h := c.valid
  have e : c.toNat = c.val.toNat := rfl
  rcases h with h | ⟨_, h⟩
  · rw [e]
    exact Nat.lt_trans h (by decide)
  · rw [e]
    exact h
theorem strOk_of (s : String) : PyData.strOk (Str.ofString s) = true := by
  unfold PyData.strOk
  rw [PySem.Str.ofString_eq_toList]
  show (List.map Char.toNat s.toList).toArray.all (fun x => decide (x < 1114112)) = true
  rw [Array.all_eq_true']
  intro x hx
  have hx2 : x ∈ List.map Char.toNat s.toList := by simpa using hx
  obtain ⟨c, _, rfl⟩ := List.mem_map.mp hx2
  exact decide_eq_true (char_lt c)
theorem okD_int {i : Int} (h : i.natAbs < 10 ^ 40) : okD (.int i) = true := by
  have h1 : i.natAbs < 2 ^ 140 := Nat.lt_of_lt_of_le h (by decide)
  have h2 : i.natAbs.log2 < 1920 := Nat.lt_trans (PySem.Flt.log2_lt_of (by decide) h1) (by decide)
  have h3 := int_text_length_le10 (k := 40) (by decide) h
  have e1 : PyData.showable (.int i) = true := decide_eq_true h2
  have e2 : PyData.shown (.int i) = Str.ofString (toString i) := rfl
  have e3 : (Str.ofString (toString i)).length ≤ 100000 := by
    rw [PySem.ofString_length]
    omega
  unfold okD
  rw [e1, e2, strOk_of, decide_eq_true e3]
  rfl
/-! ### try: .. except A as n: .. except B as m: .. -/
/-- what such clauses wish of an exception of the body; i, the slot of the clause's name -/
def wManyA (K : PySem.W.Frag) (Wout : WX) (D : Ends) : List (Value × Nat × (Addr → Value → Option Addr → TS)) → WX
  | [] => Wout
  | (c, i, ts) :: r => fun cls d σ H => ∃ b, PySem.W.exmOne K cls c = some b ∧
      (b = true → ∀ a, H a = none → ts a cls d { nx := fun σ' H' => D.nx (σ'.set i none) H', rt := D.rt, bk := fun σ' H' => D.bk (σ'.set i none) H', ct := fun σ' H' => D.ct (σ'.set i none) H' } (σ.set i (some (.ref a))) H) ∧
      (b = false → wManyA K Wout D r cls d σ H)
inductive HdsAs (X : Cx) : List ExceptHandler → List (Value × Nat × (Addr → Value → Option Addr → TS)) → Prop
  | nil : HdsAs X [] []
  | cons {x n : Str} {i : Nat} {c : Value} {ts : Addr → Value → Option Addr → TS} {b₀ : Stmt} {suite : List Stmt} {np pos' : Pos} {hds : List ExceptHandler} {l : List (Value × Nat × (Addr → Value → Option Addr → TS))}
      (hc : Names X x c) (hi : X.N[i]? = some n) (hln : X.env.kindOf n = some .local)
      (hsu : ∀ (a : Addr) (oe : Obj) (cls : Value) (d : Option Addr) (pn : List (Addr × Obj)), Zc cls d oe → (∃ vs, oe.data = .fields vs) → PSs (X.suite a ((a, oe) :: pn)) (b₀ :: suite) (ts a cls d))
      (r : HdsAs X hds l) : HdsAs X (.ExceptHandler (some (.Name x np)) (some n) (b₀ :: suite) pos' :: hds) ((c, i, ts) :: l)
section
variable {X : Cx} {body : List Stmt} {h₀ : ExceptHandler} {hds : List ExceptHandler} {l : List (Value × Nat × (Addr → Value → Option Addr → TS))} {pos : Pos} {tb : WX → TS} {Wout : WX}
theorem ps_try_manyA (hs : X.stack = X.env :: X.outer) (hf : X.env.frame = some X.env.locals) (hN : X.N.Nodup) (tk : Takes X Wout)
    (hb : ∀ (W : WX) (pn : List (Addr × Obj)) (xe : Value → Shared → Prop), Takes (X.tr pn xe) W → PassesOwn (model X.prog X.w) X.A X.env xe → PSs (X.tr pn xe) body (tb W))
    (hh : HdsAs X (h₀ :: hds) l) : PS X (.Try body (h₀ :: hds) [] [] pos) (fun D σ H => tb (wManyA X.K Wout D l) D σ H) := by
  constructor
  intro pins s σ H D I h
  have ok := I.ok
  have hfr : X.A.frames = some (X.env :: X.outer) := by
    rw [ok.frames, hs]
  apply wpAny_Try_except
  let xe1 : Value → Shared → Prop := fun e s₁ => wpAny (model X.prog X.w) X.A (noteFrame e X.env)
    (fun _ s₂ => wpAny (model X.prog X.w) X.A (setFlight e none)
      (fun _ s₃ => wpAny (model X.prog X.w) X.A (handleBy e X.env (h₀ :: hds)) (SP X pins D) X.xe s₃) X.xe s₂) X.xe s₁
  refine wpAny_mono ((hb (wManyA X.K Wout D l) (X.pn ++ pins) xe1 (fun u s' xx => ?_) PassesOwn.looking).run [] s σ H D (I.toTry _) h) (fun f s1 hsp => ?_) (fun e s1 he => he)
  · obtain ⟨a, B, sI, pins', σ', H', cls, d, rfl, J', nb, up, sky, na, os, ag, w⟩ := xx
    have J : Inv X pins σ' H' sI := J'.ofTry ok
    have sky' : Sky B (X.env :: X.outer) a (Zc cls d) X.env.locals s'.heap := by
      rw [← hs]
      exact sky
    show wpAny (model X.prog X.w) X.A (noteFrame (.ref a) X.env) _ _ _
    refine Sky.land Zc.steady hfr hf sky' fun h3 fl3 up3 => ?_
    have J3 : Inv X pins σ' H' { s' with heap := h3 } := J.landed nb fl3.1 (up.trans up3) os ag
    obtain ⟨oe3, vs3, he3, hz3, hd3⟩ := fl3.there
    have nfr : a ∉ frs (X.env :: X.outer) := fun hm => by
      obtain ⟨_, o', e', hnf⟩ := fl3.2.2.1.mem hm
      rw [he3] at e'
      cases e'
      exact hnf _ hd3
    have nL : a ≠ X.env.locals := fun z =>
      nfr (List.mem_filterMap.mpr ⟨X.env, List.mem_cons_self, by rw [hf, z]⟩)
    have nF : a ∉ X.fs := fun hm => by
      obtain ⟨e, he, q⟩ := List.mem_filterMap.mp hm
      exact nfr (List.mem_filterMap.mpr ⟨e, List.mem_cons_of_mem _ he, q⟩)
    have S3 := J3.suite he3 hd3 na nL nF
    -- one clause after the other
    have go : ∀ (hds : List ExceptHandler) (l : List (Value × Nat × (Addr → Value → Option Addr → TS))), HdsAs X hds l → wManyA X.K Wout D l cls d σ' H' →
        wpAny (model X.prog X.w) X.A (handleBy (.ref a) X.env hds) (SP X pins D) X.xe { s' with heap := h3 } := by
      intro hds l hh
      induction hh with
      | nil =>
        intro w
        apply wpAny_handleBy_nil
        obtain ⟨k1, k2, k3, oe, vs, T, oT, ts', he, hz, hd, h1, hr⟩ := id fl3
        unfold PySem.passOn
        refine wpAny_bind (wpAny_field he hd h1 ?_)
        rw [if_neg (show ¬ ((Value.ref T == Value.none) = true) from by simp)]
        have fin : wpAny (model X.prog X.w) X.A (setFlight (.ref a) X.env.frame)
            (fun _ s4 => wpAny (model X.prog X.w) X.A (throw (.ref a) : Sem Flow) (SP X pins D) X.xe s4) X.xe { s' with heap := h3 } := by
          rw [hf]
          refine HandSPX.setFlight_upZ fl3 fun h4 hh4 up4 => wpAny_throw (tk _ _ ?_)
          refine ⟨a, B, sI, pins, σ', H', cls, d, rfl, J, nb, (up.trans up3).trans up4, .inr (.inr ?_), na, os, ag, w⟩
          rw [hs]
          exact hh4
        first
          | exact wpAny_bind (wpAny_pure (wpAny_bind fin))
          | exact wpAny_bind fin
      | @cons x n i c ts b₀ suite np pos' hds l hc hi hln hsu r ih =>
        rintro ⟨b, hb1, hyes, hno⟩
        have hloc : Loc X.env.scope n := .inl hln
        refine wpAny_handleBy_cons (codeAny_handlers_test ?_) (by intro q; cases q)
        have l1 : PySem.W.Looks (model X.prog X.w) h3 (typeOf (.ref a)) cls := fun A Q E s k q =>
          wpAny_typeOf_ref (k _ _ he3) (by rw [hz3.1]; exact q)
        have l2 := PySem.W.exm_one (M := model X.prog X.w) (J3.kIn) l1 hb1
        have test : ∀ {Q : Value → Shared → Prop} {E : Value → Shared → Prop}, Q c { s' with heap := h3 } →
            wpAny (model X.prog X.w) (X.A.mark (some (.ref a))) (eval (.Name x np) X.env) Q E { s' with heap := h3 } := fun {Q E} q => by
          obtain ⟨hg, hdbg, hm | ⟨hm, hv, hnn⟩⟩ := hc
          · exact ld_glob (X := X.suite a ((a, oe3) :: (X.pn ++ pins))) S3 hg hm q hdbg
          · exact ld_blt (X := X.suite a ((a, oe3) :: (X.pn ++ pins))) S3 hg hm hv q hnn hdbg
        refine test (l2.here ?_)
        cases b with
        | false => exact ih (hno rfl)
        | true =>
          apply codeAny_handlers_suite_as
          refine HandSPX.lands_againZ fl3 fun h4 fl4 up4 => ?_
          have J4 : Inv X pins σ' H' { s' with heap := h4 } := J.landed nb fl4.1 ((up.trans up3).trans up4) os ag
          obtain ⟨oe4, vs4, he4, hz4, hd4⟩ := fl4.there
          have S4 := J4.suite he4 hd4 na nL nF
          refine store_ok (X := X.suite a ((a, oe4) :: (X.pn ++ pins))) (v := .ref a) S4 hN hi hloc rfl (fun s5 S5 => ?_) (.inr hln)
          have run := (hsu a oe4 cls d (X.pn ++ pins) hz4 ⟨_, hd4⟩).run [] s5 _ H' _ S5 (hyes rfl a na)
          refine wpAny_mono run (fun f s6 hsp => ?_) (fun _ _ z => False.elim z)
          have gone : ∀ {σ6 : L2.St} {H6 : Hp} {Q : Shared → Prop}, Inv (X.suite a ((a, oe4) :: (X.pn ++ pins))) [] σ6 H6 s6 → (∀ s7, Inv X pins (σ6.set i none) H6 s7 → Q s7) →
              wpAny (model X.prog X.w) X.A (do bindName X.env n .none; unbindBehindTheSuite X.env n pos') (fun _ s7 => Q s7) X.xe s6 := fun {σ6 H6 Q} S6 hq =>
            gone_ok (S6.unsuite ok) hN hi hln hq
          cases f with
          | next =>
            obtain ⟨σ6, H6, S6, q6⟩ := hsp
            exact gone S6 fun s7 J7 => ⟨_, _, J7, q6⟩
          | brk =>
            obtain ⟨σ6, H6, S6, q6⟩ := hsp
            exact gone S6 fun s7 J7 => ⟨_, _, J7, q6⟩
          | cont =>
            obtain ⟨σ6, H6, S6, q6⟩ := hsp
            exact gone S6 fun s7 J7 => ⟨_, _, J7, q6⟩
          | ret u =>
            obtain ⟨v6, σ6, H6, S6, r6, q6⟩ := hsp
            exact gone S6 fun s7 J7 => ⟨_, _, _, J7, r6, q6⟩
    exact go _ _ hh w
  · cases f with
    | next =>
      obtain ⟨σ', H', J', q⟩ := hsp
      exact wpAny_execs_nil ⟨σ', H', J'.ofTry ok, q⟩
    | brk =>
      obtain ⟨σ', H', J', q⟩ := hsp
      exact ⟨σ', H', J'.ofTry ok, q⟩
    | cont =>
      obtain ⟨σ', H', J', q⟩ := hsp
      exact ⟨σ', H', J'.ofTry ok, q⟩
    | ret u =>
      obtain ⟨v, σ', H', J', r, q⟩ := hsp
      exact ⟨v, σ', H', J'.ofTry ok, r, q⟩
end
/-! ### defs called within an except suite, about the error that is caught -/
/-- a def's promise there; p, the error that is caught and its object -/
structure FnP (P : Program) (w : World) (K : PySem.W.Frag) (mg : Str → Option Value) (base : Heap) (k : Nat) (f : Addr) (fd : FuncData) (ps : List Str) (sp : Addr × Obj → Sp) : Prop where
  len : ∀ p vs H Q E, sp p vs H Q E → vs.length = ps.length
  run : ∀ (A : Around) (outer : List Env) (s : Shared) (H : Hp) (args : Args) (us : List Value) (vs : List V) (Q : VK) (E : XK) (p : Addr × Obj), L2H.RoomH k A → L2H.PinOk outer H s p → Env0 P w K mg base A outer s H →
    BindsTo s fd args (ps.zip us) → Vals vs us → sp p vs H Q E → codeAny (model P w) A (.call (.ref f) args) (CR CX0 outer P w H s Q E) s
theorem fnP_ok {P : Program} {w : World} {K : PySem.W.Frag} {mg : Str → Option Value} {base : Heap} {k : Nat} {x qual : Str} {st : Stmt} {f : Addr} {fd : FuncData} {N ps : List Str} {sp : Addr × Obj → Sp} (F : Fun K x qual st f fd) (S : FnScope N ps (defScope st))
    (len : ∀ p vs H Q E, sp p vs H Q E → vs.length = ps.length)
    (body : ∀ (cdv : Value) (A : Around) (outer : List Env) (s : Shared) (H : Hp) (vs : List V) (Q : VK) (E : XK) (p : Addr × Obj), L2H.RoomH k (A.deeper (PyProof.Rows.envOfC qual (defScope st) s.heap.objs.size f cdv)) → sp p vs H Q E →
      ∃ t, PSs (L2H.cxH CX0 P w K mg base N qual (defScope st) f cdv A outer s H E p).nox (defBody st) t ∧ t { nx := fun _ H' => Q .non H', rt := Q } (L2.start N vs) H) :
    FnP P w K mg base (k + 1) f fd ps sp := by
  obtain ⟨oc, od, kV, doc, pm, an, cdv, ct, osl, rfl, lk, hcd⟩ := F.ex
  constructor
  · exact len
  intro A outer s H args us vs Q E p hr hpin e0 hb r hsp
  have hl := len _ _ _ _ _ hsp
  have old : ∀ b o, base.get? b = some o → s.heap.get? b = some o := fun b o e => (e0.bs b o e).1
  have KX : K.In s.heap := e0.mod.kin.keeps old
  have kinds : ∀ y ∈ ps.zip us, (defScope st).names.lookup y.1 = some .local ∨
      ((defScope st).names.lookup y.1 = some .cell ∧ ((cellsFrom (s.heap.objs.size + 1) (defScope st).names []).lookup y.1).isSome = true) := by
    rintro ⟨n, v⟩ hy
    have q := S.par n (List.of_mem_zip hy).1
    refine q.imp id fun q => ⟨q, ?_⟩
    exact PySem.W.cellsFrom_some _ _ _ (.inl q)
  refine codeAny_call_function hr.depth (KX _ _ lk) rfl S.co S.gen rfl (PySem.W.codeRec_of KX hcd) (hb _ _ _ _ ?_)
  refine wpAny_newFunctionEnv_cells S.kind kinds fun env he s1 z => ?_
  subst he
  refine ⟨(e0.mod.nolimit.keeps old).keeps z.toInCall.keep, PySem.codeAny_func ?_⟩
  obtain ⟨t, ht, hq⟩ := body cdv A outer s H vs Q E p (hr.deeper _) hsp
  have I := L2H.inv_startH (CX := CX0) (E := E) (cd := cdv) (f := f) S hpin e0 hl r z
  refine wpAny_mono (ht.nox.run [] s1 (L2.start N vs) H _ I hq) (fun fl s' hs => ?_) fun e s' hs => hs
  cases fl with
  | ret u =>
    obtain ⟨v, σ', H', J, rv, q⟩ := hs
    exact ⟨v, H', J.os, J.bare, J.base, J.hok, rv, q⟩
  | next =>
    obtain ⟨σ', H', J, q⟩ := hs
    exact ⟨V.non, H', J.os, J.bare, J.base, J.hok, rfl, q⟩
  | brk => exact hs.choose_spec.choose_spec.2.elim
  | cont => exact hs.choose_spec.choose_spec.2.elim
section
variable {X : Cx} {k : Nat} {f : Addr} {fd : FuncData} {ps : List Str} {sp : Addr × Obj → Sp} {x : Str} {q pos : Pos} {e : Expr} {es : List Expr} {t : TA}
/-- f(e, ..) within the suite -/
theorem pe_callP {p : Addr × Obj} {spr : Sp} (imp : ∀ vs H Q E, spr vs H Q E → sp p vs H Q E) (F : FnP X.prog X.w X.K X.mg X.base k f fd ps sp) (hr : L2H.RoomH k X.A) (hp : p ∈ X.pn) (hg : Gl X x) (hm : X.mg x = some (.ref f)) (hk : PySem.W.keepIn X.K (.ref f) = true) (hb : L2.Binds X.K fd ps []) (ha : PA X (e :: es) t)
    (hdb : (x == ("__debug__" : Str)) = false := by decide) (he : starEach (e :: es) X.env = (false, eval e X.env) :: starEach es X.env := by rfl) (hpl : (backTo pos (starEach es X.env)).any (·.1) = false := by rfl) :
    PE X (.Call (.Name x q) (e :: es) [] pos) (fun σ H Q => t σ H fun vs H1 => spr vs H1 Q E0) := by
  constructor
  intro pins s σ H Q I h
  refine wpAny_Call_Name_kw (ld_glob I hg hm ?_ hdb)
  refine PySem.W.callWith_K (h₀ := X.base) I.ok.mod.kin hk (thn (ha.run pos pins s σ H _ I h) fun us s1 ⟨vs, H1, I1, r, hq0⟩ => ⟨I1.kIn, ?_⟩) he hpl
  have hq := imp _ _ _ _ hq0
  have hl : us.length = ps.length := by
    rw [← r.length]
    exact F.len _ _ _ _ _ hq
  have b := hb s1 us I1.kIn (by rw [List.append_nil]; exact hl)
  rw [List.append_nil] at b
  have P1 := I1.pin p (List.mem_append_left _ hp)
  have hpin : L2H.PinOk X.stack H1 s1 p := ⟨P1.1, P1.2.1, fun hm => (List.mem_cons.mp (I1.stkSub p.1 hm)).elim P1.2.2.1 P1.2.2.2.1, P1.2.2.2.2⟩
  refine wpAny_call (codeAny_mono (F.run X.A X.stack s1 H1 ⟨us, []⟩ us vs Q E0 p hr hpin I1.env0 b r hq) fun r s' hq' => ?_)
  cases r with
  | error er => exact False.elim hq'
  | ok fl =>
    cases fl with
    | ret u => exact I1.after hq'
    | next => exact False.elim hq'
    | brk => exact False.elim hq'
    | cont => exact False.elim hq'
/-- isinstance(e, c), e the error that is caught -/
def rIsP (K : PySem.W.Frag) (p : Addr × Obj) : List V → Hp → VK → Prop := fun xs H Q => ∃ (C : Addr) (c : V) (u : Value) (b : Bool), xs = [.ref p.1, c] ∧ p.2.cls = .ref C ∧ (∃ vs, p.2.data = .fields vs) ∧ ExcC K C ∧
  (p.2.dict = none ∨ ∃ dd fs, p.2.dict = some dd ∧ H dd = some (.xd fs)) ∧ ClsV c u ∧ PySem.W.kitOne K (.ref C) u = some b ∧ Q (.bl b) H
theorem call_isP {p : Addr × Obj} (hp : p ∈ X.pn) : CallR X (.builtin "isinstance") (rIsP X.K p) := by
  intro pins s σ H xs us Q I r h
  obtain ⟨C, c, u, b, rfl, h1, ⟨vs, h2⟩, hc, hd, k, e, q⟩ := h
  obtain ⟨u1, u2, rfl, r1, r2⟩ := vals2 r
  have e2 := k.eq r2
  subst e2
  cases r1
  have P1 := I.pin p (List.mem_append_left _ hp)
  have ok : ∀ {od : Option Obj}, PySem.W.findObj X.K C od "__class__" = some (.bind (.builtin "getset_descriptor.__get__") (.builtin "object.__class__")) := fun {od} => by
    obtain ⟨cd, hcd, _⟩ := PySem.W.any_some hc.hd
    have hs : (PySem.W.clsIn X.K C).isSome = true := by
      rw [hcd]
      rfl
    cases od with
    | none => exact PySem.W.findObj_dataN hs hc.ha hc.hn hc.ht
    | some o => exact PySem.W.findObj_data hs hc.ha hc.hn hc.ht
  obtain ⟨od, J⟩ : ∃ od, PySem.W.InstAt s.heap p.1 p.2 C od := by
    rcases hd with hd | ⟨dd, fs, hd, ed⟩
    · exact ⟨none, P1.1, h1, by unfold PySem.W.notCls; rw [h2], by rw [hd]; trivial⟩
    · have z : ObjOk X.prog X.w H s.heap dd (.xd fs) := I.hok dd _ ed
      obtain ⟨mA, hns, _⟩ := z
      obtain ⟨o, ho, _⟩ := lookIn_ns hns
      exact ⟨some o, P1.1, h1, by unfold PySem.W.notCls; rw [h2], by rw [hd]; exact ho⟩
  exact PySem.W.kia_one (PySem.W.exk_kit hc.hg hc.hk hc.hs hc.hd ok hc.hm) I.kIn J e (fun z => nomatch z) fun tk => ⟨.bl b, H, I.tok tk, rfl, q⟩
end
/-! ### the pool that a law draws from -/
abbrev sBegin : Stmt := top 17
abbrev sMixed : Stmt := top 18
abbrev sDraw : Stmt := top 19

structure PTxt (mg : Str → Option Value) : Prop where
  int : mg "int" = none
  abs : mg "abs" = none
  len : mg "len" = none
  str : mg "str" = none
  range : mg "range" = none

/-- what stands at p is a pool, whose numbers stand at q -/
def PoolAt (H : Hp) (p q : Addr) : Prop := ∃ (ns : List Int) (i a s b : Int), H p = some (.lst [.ref q, .int i, .int a, .int s, .int b]) ∧ H q = some (.lst (ns.map V.int)) ∧ 0 ≤ i ∧ ∀ n ∈ ns, 0 ≤ n
theorem PoolAt.ne {H : Hp} {p q : Addr} (h : PoolAt H p q) : p ≠ q := by
  obtain ⟨ns, i, a, s, b, h1, h2, _, _⟩ := h
  refine ne_of h1 h2 ?_
  intro e
  injection e with e
  cases ns with
  | nil => cases e
  | cons n r => injection e with e _; cases e
/-- all but the pool is as it was -/
def But (p q : Addr) (H H' : Hp) : Prop := ∀ b o, b ≠ p → b ≠ q → H b = some o → H' b = some o
theorem But.refl (p q : Addr) (H : Hp) : But p q H H := fun _ _ _ _ h => h
theorem But.trans {p q : Addr} {H H1 H2 : Hp} (a : But p q H H1) (b : But p q H1 H2) : But p q H H2 := fun c o n1 n2 h => b c o n1 n2 (a c o n1 n2 h)
theorem But.of_same {p q : Addr} {H H1 : Hp} (a : Same H H1) : But p q H H1 := fun c o _ _ h => a c o h
theorem But.updP {p q : Addr} {H : Hp} {o : HO} : But p q H (upd H p o) := fun c u n1 _ h => by rw [upd_ne n1]; exact h
theorem But.updQ {p q : Addr} {H : Hp} {o : HO} : But p q H (upd H q o) := fun c u _ n2 h => by rw [upd_ne n2]; exact h
theorem PoolAt.same {H H' : Hp} {p q : Addr} (h : PoolAt H p q) (s : Same H H') : PoolAt H' p q := by
  obtain ⟨ns, i, a, z, b, h1, h2, h3⟩ := h
  exact ⟨ns, i, a, z, b, s _ _ h1, s _ _ h2, h3⟩

def spBegin (K : PySem.W.Frag) : Sp := fun vs H Q _ => ∃ (a : Addr) (ns : List Int), vs = [.ref a] ∧ SqL K H a (ns.map V.int) ∧ ns.length ≤ 63 ∧
  ∀ H' p q, Same H H' → H p = none → H q = none → PoolAt H' p q → Q (.ref p) H'
def spMixed : Sp := fun vs H Q _ => ∃ (p q : Addr) (m : Int), vs = [.ref p, .int m] ∧ PoolAt H p q ∧ 1 ≤ m ∧ m < 10 ^ 40 ∧
  ∀ H' (r : Int), But p q H H' → PoolAt H' p q → 0 ≤ r → r < m → Q (.int r) H'
/-- from a pool a number from 0 to m - 1 -/
def spDraw : Sp := fun vs H Q _ => ∃ (p q : Addr) (m : Int), vs = [.ref p, .int m] ∧ PoolAt H p q ∧ 1 ≤ m ∧ m < 10 ^ 40 ∧
  ∀ H' (r : Int), But p q H H' → PoolAt H' p q → 0 ≤ r → r < m → Q (.int r) H'

theorem map_int_get {ns : List Int} {i : Nat} {y : V} (hi : (ns.map V.int)[i]? = some y) : ∃ u, y = V.int u ∧ ns[i]? = some u := by
  rw [List.getElem?_map] at hi
  cases e : ns[i]? with
  | none => rw [e] at hi; cases hi
  | some u => rw [e] at hi; exact ⟨u, (Option.some.inj hi).symm, rfl⟩

section
variable {P : Program} {w : World} {K : PySem.W.Frag} {mg : Str → Option Value} {base : Heap}
theorem scBegin : FnScope ["script", "seed", "cell"] ["script"] (defScope sBegin) := ⟨rfl, rfl, rfl, by decide +kernel, rfl, by decide +kernel, by decide +kernel⟩
theorem ok_begin {f : Addr} {fd : FuncData} (F : Fun K "_law_begin" "_law_begin" sBegin f fd) (T : PTxt mg) : FnOk P w K mg base CX0 1 f fd ["script"] (spBegin K) := by
  refine F.ok scBegin (fun vs H Q E h => ?_) (fun cdv A outer s H vs Q E hr h => ?_)
  · obtain ⟨a, ns, rfl, _⟩ := h
    rfl
  · obtain ⟨a, ns, rfl, hS, hlen, k⟩ := h
    refine ⟨_, pss_cons (ps_set (i := 1) scBegin.nd rfl (.inl rfl) pe_int)
      (pss_cons (ps_for PassesOwn.never rfl (pi_list (pe_slice sl_list (pv 0) po_none (po_some pe_int))) (pg_name (i := 2) scBegin.nd rfl (.inl rfl))
        (pss_one (ps_set (i := 1) scBegin.nd rfl (.inl rfl) (pe_op op_mod (pe_op op_add (pe_op op_add (pe_op op_mul (pv 1) pe_int) (pe_op op_mod (pe_callTy call_int1 (by rfl) T.int (by decide +kernel) (pa_cons (pv 2) pa_nil)) pe_int)) pe_int) pe_int))))
      (pss_one (ps_ret (pe_lst (pa_cons (pe_lc (own := [("cell", 2)]) (g := gName 2) (by rfl) scBegin.nd (pi_list (pv 0)) (blkOk_by (own := [("cell", 2)]) (N := ["script", "seed", "cell"]) (sc := defScope sBegin) (by decide +kernel))
        (fun _ _ _ _ _ => pg_name (i := 2) scBegin.nd rfl (Or.inl rfl)) (fun _ _ _ _ _ => pts_nil)
        (fun _ _ _ _ _ => pe_callB call_abs (by rfl) T.abs (by decide +kernel) (pa_cons (pe_callTy call_int1 (by rfl) T.int (by decide +kernel) (pa_cons (pv 2) pa_nil)) pa_nil)))
        (pa_cons pe_int (pa_cons pe_int (pa_cons (pv 1) (pa_cons pe_int pa_nil))))))))), ?_⟩
    refine ⟨_, rfl, _, rfl, a, _, rfl, hS, fun p hp => ?_⟩
    refine ⟨p, rfl, ⟨_, .inl (.inl upd_same)⟩, for_list (K := K) (a := p) (xs := cutV (ns.map V.int) none (some 40)) (fun i σ H' => ∃ (z : Int) (v : Option V), σ = [some (.ref a), some (.int z), v] ∧ H' = upd H p (.lst (cutV (ns.map V.int) none (some 40)))) 
      ⟨7, none, rfl, rfl⟩ (fun i σ H' _ ⟨_, _, _, e⟩ => by rw [e]; exact .inl (.inl upd_same)) ?_ ?_⟩
    · rintro i y σ H' hi ⟨z, v, rfl, rfl⟩
      obtain ⟨u, rfl⟩ : ∃ u, y = V.int u := by
        have hm := List.mem_of_getElem? hi
        have hm2 := List.mem_of_mem_drop (List.mem_of_mem_take hm)
        obtain ⟨u, _, e⟩ := List.mem_map.mp hm2
        exact ⟨u, e.symm⟩
      refine ⟨_, rfl, _, _, rfl, rfl, .inr ⟨by decide, by decide⟩, _, rfl, .inl ⟨_, rfl, _, _, rfl, rfl, (by show (0 : Int) < 2147483647; decide), _, _, rfl, rfl, _, _, rfl, rfl, _, _, rfl, rfl, (by show (0 : Int) < 2147483647; decide), _, _, rfl, rfl⟩⟩
    · rintro σ H' ⟨z, v, rfl, rfl⟩
      have sp : Same H (upd H p (.lst (cutV (ns.map V.int) none (some 40)))) := fun b o e => by
        rw [upd_ne (ne_of_none e hp)]
        exact e
      refine ⟨_, rfl, a, rfl, ⟨_, sp.seq hS⟩, fun D hD => ?_⟩
      have hS1 := sp.seq hS
      generalize hH1 : upd H p (.lst (cutV (ns.map V.int) none (some 40))) = H1 at *
      have sD : ∀ u, Same H1 (upd H1 D u) := fun u b o e => by
        rw [upd_ne (ne_of_none e hD)]
        exact e
      refine lc_list (K := K) (a := a) (xs := ns.map V.int) (fun i H' => ∃ zs : List Int, H' = upd H1 D (.lst (zs.map V.int)) ∧ zs.length = i ∧ ∀ n ∈ zs, 0 ≤ n) ⟨[], rfl, rfl, fun _ h => nomatch h⟩ (fun i H' _ ⟨zs, e, _⟩ => by rw [e]; exact (sD _).seq hS1) ?_ ?_
      · rintro i y H' hi ⟨zs, rfl, hz, hp0⟩
        obtain ⟨u, rfl, hu⟩ := map_int_get hi
        have hi63 : i < ns.length := (List.getElem?_eq_some_iff.mp hu).1
        refine ⟨rfl, _, rfl, .inl ⟨_, rfl, _, rfl, _, upd_same, ?_, zs ++ [if u < 0 then -u else u], ?_, ?_, ?_⟩⟩
        · rw [List.length_map]
          exact Nat.lt_of_le_of_lt (show zs.length ≤ 63 by omega) (by decide)
        · rw [upd_upd, List.map_append]
          rfl
        · rw [List.length_append, hz]
          rfl
        · intro n hn
          rcases List.mem_append.mp hn with h | h
          · exact hp0 n h
          · rw [List.mem_singleton.mp h]
            split <;> omega
      · rintro H' ⟨zs, rfl, hz, hp0⟩
        refine ⟨_, rfl, (by show 5 ≤ sizeLine; decide), fun p2 hp2 => ?_⟩
        have nDp : D ≠ p2 := fun e => by
          rw [← e, upd_same] at hp2
          cases hp2
        have hp2' : H1 p2 = Option.none := by
          rw [upd_ne nDp.symm] at hp2
          exact hp2
        refine k _ p2 D (Same.trans sp (fun b o e => ?_)) (sp.free hp2') (sp.free hD) ⟨zs, 0, 0, z, 0, upd_same, ?_, by decide, hp0⟩
        · rw [upd_ne (ne_of_none e hp2')]
          exact sD _ _ _ e
        · rw [upd_ne nDp, upd_same]

theorem numlen {m : Int} (h0 : 0 ≤ m) (h1 : m < 10 ^ 40) : (Str.ofString (toString m)).length ≤ 40 := PyProof.Rows.toString_length_le h0 (by decide) h1

theorem natlt {m : Int} (h1 : 1 ≤ m) (h2 : m < 10 ^ 40) : m.natAbs < 2 ^ 140 := by
  have e : (10 : Int) ^ 40 ≤ 2 ^ 140 := by decide
  have e2 : ((2 ^ 140 : Nat) : Int) = (2 : Int) ^ 140 := by decide
  omega
theorem natlog {m : Int} (h1 : 1 ≤ m) (h2 : m < 10 ^ 40) : m.natAbs.log2 < 140 := PySem.Flt.log2_lt_of (by decide) (natlt h1 h2)
theorem scMixed : FnScope ["pool", "many", "found", "turn"] ["pool", "many"] (defScope sMixed) := ⟨rfl, rfl, rfl, by decide +kernel, rfl, by decide +kernel, by decide +kernel⟩
theorem ok_mixed {f : Addr} {fd : FuncData} (F : Fun K "_law_mixed" "_law_mixed" sMixed f fd) (T : PTxt mg) : FnOk P w K mg base CX0 1 f fd ["pool", "many"] spMixed := by
  refine F.ok scMixed (fun vs H Q E h => ?_) (fun cdv A outer s H vs Q E hr h => ?_)
  · obtain ⟨p, q, m, rfl, _⟩ := h
    rfl
  · obtain ⟨p, q, m, rfl, hP, h1, h2, k⟩ := h
    have npq := hP.ne
    obtain ⟨ns, i, a, z, b, hp, hq, hi, hns⟩ := hP
    refine ⟨_, pss_cons (ps_asg (pe_op op_add (pe_ix ix_list (pv 0) pe_int (fun _ _ => rfl)) pe_int) (pg_sub (pv 0) pe_int set_list))
      (pss_cons (ps_set (i := 2) scMixed.nd rfl (.inl rfl) (pe_ix ix_list (pv 0) pe_int (fun _ _ => rfl)))
      (pss_cons (ps_for PassesOwn.never rfl (pi_range1 rfl T.range (pa_cons (pe_op op_add pe_int (pe_op op_fdiv (pe_callB call_len_str (by rfl) T.len PySem.boot_len (pa_cons (pe_callTy call_str_int (by rfl) T.str (by decide +kernel) (pa_cons (pv 1) pa_nil)) pa_nil)) pe_int)) pa_nil)) (pg_name (i := 3) scMixed.nd rfl (.inl rfl))
        (pss_cons (ps_asg (pe_op op_mod (pe_op op_add (pe_op op_add (pe_op op_mul (pe_ix ix_list (pv 0) pe_int (fun _ _ => rfl)) pe_int) (pe_op op_mul (pe_ix ix_list (pv 0) pe_int (fun _ _ => rfl)) pe_int)) pe_int) pe_int) (pg_sub (pv 0) pe_int set_list))
        (pss_one (ps_set (i := 2) scMixed.nd rfl (.inl rfl) (pe_op op_add (pe_op op_mul (pv 2) pe_int) (pe_op op_fdiv (pe_ix ix_list (pv 0) pe_int (fun _ _ => rfl)) pe_int))))))
      (pss_one (ps_ret (pe_op op_mod (pv 2) (pv 1)))))), ?_⟩
    refine ⟨_, rfl, p, _, 2, _, rfl, rfl, .inl (.inl hp), rfl, _, _, rfl, rfl, _, rfl, p, _, 2, 2, rfl, rfl, hp, rfl, ?_⟩
    refine ⟨_, rfl, p, _, 3, _, rfl, rfl, .inl (.inl upd_same), rfl, ?_⟩
    have hl := numlen (by omega : 0 ≤ m) h2
    have hlog : m.natAbs.log2 < 1920 := Nat.lt_trans (natlog h1 h2) (by decide)
    refine ⟨_, rfl, _, rfl, hlog, _, rfl, Nat.le_trans hl (by decide), _, _, rfl, rfl, ⟨by decide, by decide⟩, _, _, rfl, rfl, _, rfl, ?_, ?_, ?_⟩
    · show -(2 ^ 62) ≤ (1 : Int) + ((Str.ofString (toString m)).length : Int) / 9
      omega
    · show (1 : Int) + ((Str.ofString (toString m)).length : Int) / 9 < 2 ^ 62
      omega
    · refine for_range (lo := 0) (n := ((1 : Int) + ((Str.ofString (toString m)).length : Int) / 9).toNat) (fun j σ H' => ∃ (s' f' : Int) (v : Option V), σ = [some (.ref p), some (.int m), some (.int f'), v] ∧ H' = upd H p (.lst [.ref q, .int i, .int (a + 1), .int s', .int b]))
        ⟨_, _, none, rfl, rfl⟩ ?_ ?_
      · rintro j σ H' _ ⟨s', f', v, rfl, rfl⟩
        refine ⟨_, rfl, p, _, 3, _, rfl, rfl, .inl (.inl upd_same), rfl, _, _, rfl, rfl, .inr ⟨by decide, by decide⟩, _, rfl, p, _, 2, _, rfl, rfl, .inl (.inl upd_same), rfl, _, _, rfl, rfl, .inr ⟨by decide, by decide⟩, _, _, rfl, rfl, _, _, rfl, rfl, _, _, rfl, rfl, (by show (0 : Int) < 2147483647; decide), _, rfl, p, _, 3, 3, rfl, rfl, upd_same, rfl, ?_⟩
        refine ⟨_, rfl, _, _, rfl, rfl, .inr ⟨by decide, by decide⟩, _, rfl, p, _, 3, _, rfl, rfl, .inl (.inl upd_same), rfl, _, _, rfl, rfl, ⟨by decide, by decide⟩, _, _, rfl, rfl, ?_⟩
        exact ⟨_, _, _, rfl, by rw [upd_upd]; rfl⟩
      · rintro σ H' ⟨s', f', v, rfl, rfl⟩
        refine ⟨_, rfl, _, rfl, _, _, rfl, rfl, (by show (0 : Int) < m; omega), ?_⟩
        exact k _ _ But.updP ⟨ns, i, a + 1, s', b, upd_same, by rw [upd_ne npq.symm]; exact hq, hi, hns⟩ (Int.emod_nonneg _ (by omega)) (Int.emod_lt_of_pos _ (by omega))

theorem ixN_nat {n i : Nat} (h : i < n) : ixN n (i : Int) = some i := by
  unfold ixN
  rw [if_pos (by omega), if_pos (by omega), Int.toNat_natCast]
theorem scDraw : FnScope ["pool", "many", "found"] ["pool", "many"] (defScope sDraw) := ⟨rfl, rfl, rfl, by decide +kernel, rfl, by decide +kernel, by decide +kernel⟩
theorem ok_draw {f fM : Addr} {fd fdM : FuncData} (F : Fun K "_law_draw" "_law_draw" sDraw f fd) (T : PTxt mg) (FM : Fun K "_law_mixed" "_law_mixed" sMixed fM fdM) (bM : Binds K fdM ["pool", "many"] []) (gM : mg "_law_mixed" = some (.ref fM)) : FnOk P w K mg base CX0 2 f fd ["pool", "many"] spDraw := by
  have GM : FnOk P w K mg base CX0 1 fM fdM ["pool", "many"] spMixed := ok_mixed FM T
  refine F.ok scDraw (fun vs H Q E h => ?_) (fun cdv A outer s H vs Q E hr h => ?_)
  · obtain ⟨p, q, m, rfl, _⟩ := h
    rfl
  · obtain ⟨p, q, m, rfl, hP, h1, h2, k⟩ := h
    have npq := hP.ne
    have hP0 := hP
    obtain ⟨ns, i, a, z, b, hp, hq, hi, hns⟩ := hP
    refine ⟨_, pss_cons (ps_if (PW.pt (pw_or (pt_cmpR op_ge (pe_ix ix_list (pv 0) pe_int (fun _ _ => rfl)) (pe_callB call_len_seq (by rfl) T.len PySem.boot_len (pa_cons (pe_ix ix_list (pv 0) pe_int (fun _ _ => rfl)) pa_nil)) (nomark _)) (pw_or1 (pt_cmpR op_eq (pv 1) pe_int (nomark _)))))
        (pss_one (ps_ret (pe_ifExp (pt_cmpR op_gt (pv 1) pe_int (nomark _)) (pe_call GM hr rfl gM FM.kp bM .nil pass0 (pa_cons (pv 0) (pa_cons (pv 1) pa_nil))) pe_int))) pss_nil)
      (pss_cons (ps_if (pt_cmpR op_lt (pe_ix ix_list (pe_ix ix_list (pv 0) pe_int (fun _ _ => rfl)) (pe_ix ix_list (pv 0) pe_int (fun _ _ => rfl)) (fun _ _ => rfl)) (pe_op op_pow pe_int pe_int) (nomark _))
        (pss_cons (ps_asg (pe_op op_mod (pe_op op_add (pe_op op_add (pe_op op_add (pe_op op_mul (pe_ix ix_list (pv 0) pe_int (fun _ _ => rfl)) pe_int) (pe_ix ix_list (pe_ix ix_list (pv 0) pe_int (fun _ _ => rfl)) (pe_ix ix_list (pv 0) pe_int (fun _ _ => rfl)) (fun _ _ => rfl))) (pe_ix ix_list (pv 0) pe_int (fun _ _ => rfl))) pe_int) pe_int) (pg_sub (pv 0) pe_int set_list))
        (pss_cons (ps_asg (pe_op op_add (pe_ix ix_list (pv 0) pe_int (fun _ _ => rfl)) pe_int) (pg_sub (pv 0) pe_int set_list))
        (pss_cons (ps_if (pt_cmpR op_eq (pe_op op_mod (pe_ix ix_list (pv 0) pe_int (fun _ _ => rfl)) pe_int) pe_int (nomark _)) (pss_one (ps_asg (pe_op op_add (pe_ix ix_list (pv 0) pe_int (fun _ _ => rfl)) pe_int) (pg_sub (pv 0) pe_int set_list))) pss_nil)
        (pss_one (ps_ret (pe_call GM hr rfl gM FM.kp bM .nil pass0 (pa_cons (pv 0) (pa_cons (pv 1) pa_nil)))))))) pss_nil)
      (pss_cons (ps_set (i := 2) scDraw.nd rfl (.inl rfl) (pe_op op_mod (pe_ix ix_list (pe_ix ix_list (pv 0) pe_int (fun _ _ => rfl)) (pe_ix ix_list (pv 0) pe_int (fun _ _ => rfl)) (fun _ _ => rfl)) (pv 1)))
      (pss_cons (ps_asg (pe_op op_fdivW (pe_ix ix_list (pe_ix ix_list (pv 0) pe_int (fun _ _ => rfl)) (pe_ix ix_list (pv 0) pe_int (fun _ _ => rfl)) (fun _ _ => rfl)) (pv 1)) (pg_sub (pe_ix ix_list (pv 0) pe_int (fun _ _ => rfl)) (pe_ix ix_list (pv 0) pe_int (fun _ _ => rfl)) set_list))
      (pss_cons (ps_if (pt_cmpR op_eq (pe_ix ix_list (pe_ix ix_list (pv 0) pe_int (fun _ _ => rfl)) (pe_ix ix_list (pv 0) pe_int (fun _ _ => rfl)) (fun _ _ => rfl)) pe_int (nomark _)) (pss_one (ps_asg (pe_op op_add (pe_ix ix_list (pv 0) pe_int (fun _ _ => rfl)) pe_int) (pg_sub (pv 0) pe_int set_list))) pss_nil)
      (pss_one (ps_ret (pv 2))))))), ?_⟩
    have sp : SqL K H p [.ref q, .int i, .int a, .int z, .int b] := .inl (.inl hp)
    have sq : SqL K H q (ns.map V.int) := .inl (.inl hq)
    have cmix : ∀ H1 : Hp, But p q H H1 → PoolAt H1 p q → spMixed [.ref p, .int m] H1 Q E := fun H1 e1 e2 => ⟨p, q, m, rfl, e2, h1, h2, fun H2 r b2 p2 r0 r1 => k H2 r (e1.trans b2) p2 r0 r1⟩
    -- if pool[1] >= len(pool[0]) or many == 1
    refine ⟨_, rfl, p, _, 1, _, rfl, rfl, sp, rfl, _, rfl, p, _, 0, _, rfl, rfl, sp, rfl, q, _, rfl, .inl sq, _, _, rfl, rfl, _, rfl, ?_⟩
    have hlen : ((ns.map V.int).length : Int) = (ns.length : Int) := by rw [List.length_map]
    refine ite2 (fun _ => ?_) (fun hlt => ?_)
    · refine ⟨_, rfl, _, _, rfl, rfl, _, rfl, ite2 (fun _ => ?_) (fun e => ?_)⟩
      · exact ⟨_, rfl, _, rfl, cmix H (But.refl _ _ _) hP0⟩
      · exact k H 0 (But.refl _ _ _) hP0 (by omega) (by omega)
    · refine ⟨_, rfl, rfl, _, rfl, ite2 (fun e => ?_) (fun hm1 => ?_)⟩
      · refine ⟨_, rfl, _, _, rfl, rfl, _, rfl, ite2 (fun _ => ?_) (fun e => ?_)⟩
        · exact ⟨_, rfl, _, rfl, cmix H (But.refl _ _ _) hP0⟩
        · exact k H 0 (But.refl _ _ _) hP0 (by omega) (by omega)
      · have hil : i < (ns.length : Int) := by
          have := hlt
          simp only [decide_eq_true_eq] at this
          omega
        obtain ⟨j, rfl⟩ : ∃ j : Nat, i = (j : Int) := ⟨i.toNat, by omega⟩
        have hj : j < ns.length := by omega
        obtain ⟨x, hx⟩ : ∃ x, ns[j]? = some x := ⟨ns[j], List.getElem?_eq_getElem hj⟩
        have hxm : (ns.map V.int)[j]? = some (V.int x) := by rw [List.getElem?_map, hx]; rfl
        have hat : atI (ns.map V.int) (j : Int) = some (V.int x) := atI_nat hxm
        have hx0 : 0 ≤ x := hns x (List.mem_of_getElem? hx)
        have hixN : ixN (ns.map V.int).length (j : Int) = some j := ixN_nat (by rw [List.length_map]; exact hj)
        -- if pool[0][pool[1]] < 10 ** 18
        refine ⟨_, rfl, p, _, 0, _, rfl, rfl, sp, rfl, _, rfl, p, _, 1, _, rfl, rfl, sp, rfl, q, _, _, _, rfl, rfl, sq, hat, _, _, rfl, rfl, ⟨by decide, by decide, by decide⟩, _, _, rfl, rfl, _, rfl, ite2 (fun _ => ?_) (fun _ => ?_)⟩
        · refine ⟨_, rfl, p, _, 3, _, rfl, rfl, sp, rfl, _, _, rfl, rfl, .inr ⟨by decide, by decide⟩, _, rfl, p, _, 0, _, rfl, rfl, sp, rfl, _, rfl, p, _, 1, _, rfl, rfl, sp, rfl, q, _, _, _, rfl, rfl, sq, hat, _, _, rfl, rfl, _, rfl, p, _, 2, _, rfl, rfl, sp, rfl, _, _, rfl, rfl, _, _, rfl, rfl, _, _, rfl, rfl, (by show (0 : Int) < 2147483647; decide), _, rfl, p, _, 3, 3, rfl, rfl, hp, rfl, ?_⟩
          refine ⟨_, rfl, p, _, 4, _, rfl, rfl, .inl (.inl upd_same), rfl, _, _, rfl, rfl, _, rfl, p, _, 4, 4, rfl, rfl, upd_same, rfl, ?_⟩
          rw [upd_upd]
          refine ⟨_, rfl, p, _, 4, _, rfl, rfl, .inl (.inl upd_same), rfl, _, _, rfl, rfl, (by show (0 : Int) < 3; decide), rfl, _, rfl, ite2 (fun _ => ?_) (fun _ => ?_)⟩
          · refine ⟨_, rfl, p, _, 1, _, rfl, rfl, .inl (.inl upd_same), rfl, _, _, rfl, rfl, _, rfl, p, _, 1, 1, rfl, rfl, upd_same, rfl, ?_⟩
            rw [upd_upd]
            refine ⟨_, rfl, _, rfl, cmix _ But.updP ⟨ns, (j : Int) + 1, a, (z * 31 + x + a + 1) % 2147483647, b + 1, upd_same, by rw [upd_ne npq.symm]; exact hq, by omega, hns⟩⟩
          · refine ⟨_, rfl, _, rfl, cmix _ But.updP ⟨ns, (j : Int), a, (z * 31 + x + a + 1) % 2147483647, b + 1, upd_same, by rw [upd_ne npq.symm]; exact hq, by omega, hns⟩⟩
        · -- found = pool[0][pool[1]] % many
          refine ⟨_, rfl, p, _, 0, _, rfl, rfl, sp, rfl, _, rfl, p, _, 1, _, rfl, rfl, sp, rfl, q, _, _, _, rfl, rfl, sq, hat, _, rfl, _, _, rfl, rfl, (by show (0 : Int) < m; omega), ?_⟩
          refine ⟨_, rfl, p, _, 0, _, rfl, rfl, sp, rfl, _, rfl, p, _, 1, _, rfl, rfl, sp, rfl, q, _, _, _, rfl, rfl, sq, hat, _, rfl, _, _, rfl, rfl, wide_div (by omega) (natlt h1 h2) (by decide) (by decide), _, rfl, p, _, 0, _, rfl, rfl, sp, rfl, _, rfl, p, _, 1, _, rfl, rfl, sp, rfl, q, _, _, _, rfl, rfl, hq, hixN, ?_⟩
          have eS : (ns.map V.int).set j (V.int (x / m)) = (ns.set j (x / m)).map V.int := by rw [List.map_set]
          rw [eS]
          have hns' : ∀ n ∈ ns.set j (x / m), 0 ≤ n := fun n hn => by
            rcases List.mem_or_eq_of_mem_set hn with h | h
            · exact hns n h
            · rw [h]
              exact Int.ediv_nonneg hx0 (by omega)
          have hp' : (upd H q (HO.lst ((ns.set j (x / m)).map V.int))) p = some (.lst [.ref q, .int (j : Int), .int a, .int z, .int b]) := by
            rw [upd_ne npq]
            exact hp
          have hq' : (upd H q (HO.lst ((ns.set j (x / m)).map V.int))) q = some (.lst ((ns.set j (x / m)).map V.int)) := upd_same
          have hat' : atI ((ns.set j (x / m)).map V.int) (j : Int) = some (V.int (x / m)) := atI_nat (by
            rw [List.getElem?_map, List.getElem?_set_self hj]
            rfl)
          have r0 : 0 ≤ x % m := Int.emod_nonneg _ (by omega)
          have r1 : x % m < m := Int.emod_lt_of_pos _ (by omega)
          have hB : But p q H (upd H q (HO.lst ((ns.set j (x / m)).map V.int))) := But.updQ
          generalize upd H q (HO.lst ((ns.set j (x / m)).map V.int)) = H1 at *
          have sp1 : SqL K H1 p [.ref q, .int (j : Int), .int a, .int z, .int b] := .inl (.inl hp')
          have sq1 : SqL K H1 q ((ns.set j (x / m)).map V.int) := .inl (.inl hq')
          refine ⟨_, rfl, p, _, 0, _, rfl, rfl, sp1, rfl, _, rfl, p, _, 1, _, rfl, rfl, sp1, rfl, q, _, _, _, rfl, rfl, sq1, hat', rfl, _, rfl, ite2 (fun _ => ?_) (fun _ => ?_)⟩
          · refine ⟨_, rfl, p, _, 1, _, rfl, rfl, sp1, rfl, _, _, rfl, rfl, _, rfl, p, _, 1, 1, rfl, rfl, hp', rfl, ?_⟩
            exact ⟨_, rfl, k _ _ (hB.trans But.updP) ⟨_, (j : Int) + 1, a, z, b, upd_same, by rw [upd_ne npq.symm]; exact hq', by omega, hns'⟩ r0 r1⟩
          · exact ⟨_, rfl, k _ _ hB ⟨_, (j : Int), a, z, b, hp', hq', by omega, hns'⟩ r0 r1⟩
end
set_option maxHeartbeats 4000000
/-! ### the end of a law: no repr under way, tables of lambdas -/
section
open LamX
/-- the law's own call, tables of code at hand -/
theorem lawGT {cs : List (Addr × Addr)} {CX : CXT} {P : Program} {w : World} {K : PySem.W.Frag} {mg mb : Str → Option Value} {k : Nat} {fa a : Addr} {fd : FuncData} {sp : Sp} {s₁ : Shared} {vs : List Value} {ns : List Int} (dcx : ∀ D e s', CX [] D s₁ (fun _ _ _ => False) e s' → False) (tz : ∀ p ∈ cs, s₁.heap.get? p.2 = some { cls := .none, data := .fields #[] }) (tn : ∀ p ∈ cs, K.lookup p.2 = none) (th : ∀ p ∈ cs, PySem.W.CodeHd s₁.heap p.1 p.2)
    (bmn : ∃ (c : Addr) (y : Obj), mg "__builtins__" = some (.ref c) ∧ c ≠ builtinsNs ∧ s₁.heap.get? c = some y ∧ y.cls = .type "module" ∧ y.dict = some builtinsNs ∧ y.data = .plain) (KX : K.In s₁.heap) (hns : s₁.heap.Ns mainGlobals mg)
    (hb : s₁.heap.Ns builtinsNs mb) (hbb : ∀ x : Str, x ≠ "__name__" → mb x = bootBuiltins x) (hlim : s₁.heap.NoLimit) (hg : s₁.gens = #[])
    (ha : s₁.heap.get? a = some { cls := .type "list", data := .seq vs.toArray }) (hi : PyProof.Rows.IntsAre vs ns) (hl : ns.length ≤ sizeLine) (hr : Room k callerA)
    (F : ∀ base : Heap, K.In base → base.Ns mainGlobals mg → (∀ p ∈ cs, TabB base mg p.1 p.2) → FnG P w K mg base CX k fa fd ["script"] sp) (bind : ∀ (s : Shared) (u : Value), BindsTo s fd ⟨[u], []⟩ [("script", u)])
    (hsp : ∀ H : Hp, (∀ p ∈ cs, H p.2 = some (.tbl #[])) → SqL K H a (ns.map V.int) → sp [.ref a] H (fun v _ => v = .bl true) fun _ _ _ => False) :
    codeAny (model P w) callerA (.call (.ref fa) ⟨[.ref a], []⟩) (fun r s' => r = .ok (.ret (.bool true)) ∧ PySem.OldK s₁.heap s'.heap ∧ s'.os = s₁.os ∧ AllBare s'.gens) s₁ := by
  have rv := vals_ints hi
  have lenV := hi.length
  -- the abstract heap: nothing, or the script, locked
  have go : ∀ H : Hp, (∀ b o, H b = some o → ((∃ p ∈ cs, b = p.2) ∧ o = .tbl #[]) ∨ (b = a ∧ K.lookup a = none ∧ o = .frz { cls := .type "list", data := .seq vs.toArray } (.lst (ns.map V.int)))) → (∀ p ∈ cs, H p.2 = some (.tbl #[])) → SqL K H a (ns.map V.int) →
      codeAny (model P w) callerA (.call (.ref fa) ⟨[.ref a], []⟩) (fun r s' => r = .ok (.ret (.bool true)) ∧ PySem.OldK s₁.heap s'.heap ∧ s'.os = s₁.os ∧ AllBare s'.gens) s₁ := by
    intro H hA hC hS
    have hok : HOk P w H s₁.heap := fun b o q => by
      rcases hA b o q with ⟨⟨p, hp, rfl⟩, rfl⟩ | ⟨rfl, _, rfl⟩
      · exact tz p hp
      exact ⟨ha, by rw [List.length_map]; exact hl, vs, _, rv, ha⟩
    have low : ∀ {b : Addr} {o : Obj}, s₁.heap.get? b = some o → H b = none → (hidT s₁.heap H).get? b = some o := fun e n => hidT_get e n
    have free : ∀ {b : Addr} {o : Obj}, s₁.heap.get? b = some o → (∀ its n, o.data ≠ .seq its n) → o.data ≠ .fields #[] → H b = none := fun {b o} e d d2 => by
      cases q : H b with
      | none => rfl
      | some u =>
        rcases hA b u q with ⟨⟨p, hp, rfl⟩, _⟩ | ⟨rfl, _⟩
        · rw [tz p hp] at e
          cases e
          exact absurd rfl d2
        · rw [ha] at e
          cases e
          exact absurd rfl (d _ _)
    have nsT : ∀ {b : Addr} {m : Str → Option Value}, s₁.heap.Ns b m → (hidT s₁.heap H).Ns b m := fun {b m} z => by
      obtain ⟨o, es, ep, e, d, r⟩ := z
      exact ⟨o, es, ep, low e (free e (fun its n y => by rw [d] at y; cases y) fun y => by rw [d] at y; cases y), d, r⟩
    have kT : K.In (hidT s₁.heap H) := fun b o e => by
      refine low (KX b o e) ?_
      cases q : H b with
      | none => rfl
      | some u =>
        rcases hA b u q with ⟨⟨p, hp, rfl⟩, _⟩ | ⟨rfl, z, _⟩
        · rw [tn p hp] at e
          cases e
        · rw [z] at e
          cases e
    have hM : Mod K mg (hidT s₁.heap H) := by
      obtain ⟨mc, h1, h2⟩ := hlim
      exact ⟨kT, nsT hns, ⟨mb, nsT hb, hbb⟩, ⟨mc, nsT h1, h2⟩⟩
    have hT : ∀ p ∈ cs, TabB (hidT s₁.heap H) mg p.1 p.2 := fun p hp => by
      have tp := tz p hp
      refine ⟨?_, ?_, fun z => ?_⟩
      · obtain ⟨y, q1, q2, q3, q4, q5, q6, q7, q8, g, c1, c2, c3, c4, c5, c6, c7, c8, c9⟩ := th p hp
        exact ⟨y, q1, q2, q3, q4, q5, q6, q7, q8, low g (free g (fun its n z => by rw [c2] at z; cases z) fun z => by rw [c2] at z; cases z; simp at c3), c1, c2, c3, c4, c5, c6, c7, c8, c9⟩
      · obtain ⟨c, y, g1, g2, g3, g4, g5, g6⟩ := bmn
        refine ⟨c, y, g1, g2, fun z => ?_, fun z => ?_, low g3 (free g3 (fun its n z => by rw [g6] at z; cases z) fun z => by rw [g6] at z; cases z), g4, g5, g6⟩
        · obtain ⟨_, _, _, ge, gd, _⟩ := hns
          rw [z, ge] at g3
          cases g3
          rw [gd] at g6
          cases g6
        · rw [z, tp] at g3
          cases g3
          cases g6
      · obtain ⟨_, _, _, ge, gd, _⟩ := hns
        rw [z, tp] at ge
        cases ge
        cases gd
    have e0 : Env0 P w K mg (hidT s₁.heap H) callerA [] s₁ H :=
      ⟨rfl, hM, fun b o e => of_hidT e, Nat.le_of_eq (hidT_size _ _), trivial, fun b hb => (nomatch hb), hok, .of_eq hg⟩
    have run := (F _ kT (nsT hns) hT).run callerA [] s₁ H ⟨[.ref a], []⟩ [.ref a] [.ref a] _ _ rfl hr e0 (bind s₁ (.ref a)) (.cons rfl .nil) (hsp H hC hS)
    refine codeAny_mono run fun r s' h => ?_
    cases r with
    | error e => exact (dcx H e s' h).elim
    | ok fl =>
      cases fl with
      | next => exact False.elim h
      | brk => exact False.elim h
      | cont => exact False.elim h
      | ret u =>
        obtain ⟨v, H', os, bare, un, hok', r', q⟩ := h
        obtain rfl : v = .bl true := q
        obtain rfl : u = Value.bool true := r'
        have kept : ∀ b o, (∀ p ∈ cs, b ≠ p.2) → s₁.heap.get? b = some o → s'.heap.get? b = some o := fun b o nb e => by
          cases q : H b with
          | none => exact un.keep b o e q (fun z => nomatch z) (fun z => nomatch z)
          | some u =>
            rcases hA b u q with ⟨⟨p, hp, rfl⟩, _⟩ | ⟨rfl, _, rfl⟩
            · exact absurd rfl (nb p hp)
            have z := un.frzs b _ _ q
            rw [ha] at e
            cases e
            exact (hok' b _ z).1
        have more : ∀ p ∈ cs, ∃ ys : Array Value, s'.heap.get? p.2 = some { cls := .none, data := .fields ys } := fun p hp => by
          obtain ⟨ys, z⟩ := un.tbls _ _ (hC p hp)
          exact ⟨_, hok' _ _ z⟩
        have split : ∀ b : Addr, (∃ p ∈ cs, b = p.2) ∨ ∀ p ∈ cs, b ≠ p.2 := fun b => by
          by_cases z : ∃ p ∈ cs, b = p.2
          · exact .inl z
          · exact .inr fun p hp e => z ⟨p, hp, e⟩
        refine ⟨rfl, ⟨fun b o e => ?_, fun b o e => ?_⟩, os, bare⟩
        · rcases split b with ⟨p, hp, rfl⟩ | nb
          · obtain ⟨ys, hys⟩ := more p hp
            rw [tz p hp] at e
            cases e
            exact .inr (.inl ⟨((th p hp).tab (tz p hp)).isCodeTable, rfl, #[], ys, rfl, by rw [hys, Array.empty_append]⟩)
          · exact .inl (kept b o nb e)
        · rcases split b with ⟨p, hp, rfl⟩ | nb
          · obtain ⟨ys, hys⟩ := more p hp
            exact ⟨_, hys⟩
          · exact ⟨o, kept b o nb e⟩
  have aT : ¬ ∃ p ∈ cs, a = p.2 := fun ⟨p, hp, e⟩ => by
    have q := tz p hp
    rw [← e, ha] at q
    cases q
  cases hk : K.lookup a with
  | some o =>
    have e := KX a o hk
    rw [ha] at e
    cases e
    refine go (fun b => open Classical in if ∃ p ∈ cs, b = p.2 then some (.tbl #[]) else none) (fun b o z => ?_) (fun p hp => if_pos ⟨p, hp, rfl⟩) (.inr ⟨_, vs.toArray, _, hk, rfl, rfl, rfl, ?_, by simpa using rv⟩)
    · by_cases hb : ∃ p ∈ cs, b = p.2
      · exact .inl ⟨hb, by have q := (if_pos hb).symm.trans z; cases q; rfl⟩
      · have q := (if_neg hb).symm.trans z
        cases q
    · rw [List.size_toArray, lenV]
      exact hl
  | none =>
    refine go (fun b => open Classical in if ∃ p ∈ cs, b = p.2 then some (.tbl #[]) else if b = a then some (.frz { cls := .type "list", data := .seq vs.toArray } (.lst (ns.map V.int))) else none) (fun b o z => ?_) (fun p hp => if_pos ⟨p, hp, rfl⟩)
      (.inl (.inr ⟨_, (if_neg aT).trans (if_pos rfl)⟩))
    by_cases hb : ∃ p ∈ cs, b = p.2
    · exact .inl ⟨hb, by have q := (if_pos hb).symm.trans z; cases q; rfl⟩
    · have q := (if_neg hb).symm.trans z
      by_cases hb2 : b = a
      · exact .inr ⟨hb2, hk, (Option.some.inj ((if_pos hb2).symm.trans q)).symm⟩
      · have q2 := (if_neg hb2).symm.trans q
        cases q2
theorem walkGT {CX : World → CXT} {l : PySem.W.OpenLaw} {k : Nat} {q : Program} {loose : List Str} {XP : (Str → Option Value) → Heap → Prop} {YP : World → Heap → Prop} {d : DefRec} {K : Params → PySem.W.Frag} (hn : l.most = some 63) (hdf : d.params.defaults = [])
    (hr : Room k callerA) (hY : ∀ (w : World) (h : Heap), YP w h → (K w.params).In h)
    (dcx : ∀ (w : World) D s e s', CX w [] D s (fun _ _ _ => False) e s' → False)
    (F : ∀ (w : World) (mg : Str → Option Value) (fa : Addr) (h : Heap), YP w h → (K w.params).In h → h.Ns mainGlobals mg → mg d.name = some (.ref fa) →
      ∃ (fd : FuncData) (cs : List (Addr × Addr)) (sp : Sp), (∀ p ∈ cs, h.get? p.2 = some { cls := .none, data := .fields #[] } ∧ (K w.params).lookup p.2 = none ∧ PySem.W.CodeHd h p.1 p.2) ∧
        (∀ (H : Hp) (a : Addr) (ns : List Int), ns.length ≤ 63 → (∀ z ∈ ns, Builtin.Int.intBits z ≤ 1048576) → (∀ p ∈ cs, H p.2 = some (.tbl #[])) → SqL (K w.params) H a (ns.map V.int) → sp [.ref a] H (fun v _ => v = .bl true) fun _ _ _ => False) ∧
        (∀ (s : Shared) (u : Value), BindsTo s fd ⟨[u], []⟩ [("script", u)]) ∧
        ∀ base : Heap, (K w.params).In base → base.Ns mainGlobals mg → (∀ p ∈ cs, TabB base mg p.1 p.2) → FnG l.prog w (K w.params) mg base (CX w) k fa fd ["script"] sp) :
    PySem.W.WalkO q loose XP YP l.row.toRowW d [] (fun f vs => PySem.call f vs) := by
  refine Att.attach_callB hn hdf fun w s₀ s₁ mg mb fa o pm cd doc a vs ns G Y ho hd hcd hmg hobj hints hlen hbits hg => ?_
  have KX := hY w _ Y
  obtain ⟨fd, cs, sp, hcs, hsp, hb, hF⟩ := F w mg fa _ Y KX G.T.g hmg
  exact lawGT (fun D e s' => dcx w D s₁ e s') (fun p hp => (hcs p hp).1) (fun p hp => (hcs p hp).2.1) (fun p hp => (hcs p hp).2.2) G.T.bmain KX G.T.g G.T.b G.T.builtins G.T.nolimit hg hobj hints (Nat.le_trans hlen (by decide)) hr hF hb
    fun H hC hS => hsp H a ns hlen hbits hC hS
end
/-! ### rules of my own -/
section
variable {X : Cx}
/-- == of a list (a tuple) and an empty one -/
def rEqNil (K : PySem.W.Frag) : V → V → Hp → VK → Prop := fun x y H Q => ∃ (p q : Addr) (xs : List V), x = .ref p ∧ y = .ref q ∧ ((SqL K H p xs ∧ SqL K H q []) ∨ (SqT K H p xs ∧ SqT K H q [])) ∧ Q (.bl xs.isEmpty) H
theorem op_eqNil (hu : X.A.units < cLine) : OpR X (compareOp .Eq) (rEqNil X.K) := by
  intro pins s σ H x y v u Q I rx ry h
  obtain ⟨p, q, xs, rfl, rfl, hpq, k⟩ := h
  cases rx
  cases ry
  rcases hpq with ⟨h1, h2⟩ | ⟨h1, h2⟩
  · obtain ⟨its, r, pl, hz⟩ := I.list h1
    obtain ⟨its2, r2, pl2, hz2⟩ := I.list h2
    cases r2
    have hl := r.length
    cases xs with
    | nil =>
      cases r
      exact SeqAt.eq_listAt (e := fun _ => true) pl.isList pl2.isList rfl hu (fun j h1 _ => absurd h1 (Nat.not_lt_zero _)) ⟨.bl true, H, I, rfl, k⟩
    | cons a b =>
      refine SeqAt.eq_list_lengthsAt pl.isList pl2.isList ?_ hu ⟨.bl false, H, I, rfl, k⟩
      cases its with
      | nil => cases r
      | cons c d => simp
  · obtain ⟨its, r, pl, hz⟩ := I.tuple h1
    obtain ⟨its2, r2, pl2, hz2⟩ := I.tuple h2
    cases r2
    have e1 : s.heap.IsTuple p its.toArray := pl
    have e2 : s.heap.IsTuple q #[] := pl2
    refine SeqAt.eq_tupleAt (e := fun _ => true) e1 e2 hu (fun j _ h2 => absurd h2 (Nat.not_lt_zero _)) ⟨.bl xs.isEmpty, H, I, ?_, k⟩
    cases xs with
    | nil => cases r; rfl
    | cons a b =>
      cases its with
      | nil => cases r
      | cons c d =>
        show Value.bool _ = Value.bool false
        congr 1
/-- + of tuples, the left one not empty: some tuple of both -/
def rCatA1 (K : PySem.W.Frag) : V → V → Hp → VK → Prop := fun x y H Q => ∃ a b xs ys, x = .ref a ∧ y = .ref b ∧ SqT K H a xs ∧ H a = some (.tup xs) ∧ SqT K H b ys ∧ xs.length + ys.length ≤ sizeLine ∧ xs ≠ [] ∧
  ∀ p H', (∀ b o, H b = some o → H' b = some o) → H' p = some (.tup (xs ++ ys)) → Q (.ref p) H'
theorem op_catA1 : OpR X (binaryOp .Add) (rCatA1 X.K) := by
  intro pins s σ H x y v u Q I rx ry h
  obtain ⟨a, b, xs, ys, rfl, rfl, h1, h1', h2, hz, hne, q⟩ := h
  refine op_catA pins s σ H _ _ v u Q I rx ry ⟨a, b, xs, ys, rfl, rfl, h1, h2, hz, fun e => absurd e hne, fun _ e => ?_, fun _ _ p hp => ?_⟩
  · subst e
    exact q a H (fun _ _ h => h) (by rw [List.append_nil]; exact h1')
  · exact q p _ (fun b o e => by rw [upd_ne (ne_of_none e hp)]; exact e) upd_same
theorem call_repr_bool : CallR X (.builtin "repr") (fun xs H Q => ∃ b, xs = [.bl b] ∧ Q (.str (if b then "True" else "False")) H) := by
  intro pins s σ H xs us Q I r h
  obtain ⟨b, rfl, q⟩ := h
  obtain ⟨u, rfl, rfl⟩ := vals1 r
  exact PySem.P.repr_of_bool ⟨.str _, H, I.tok _, ⟨_, rfl⟩, q⟩
end

/-- a thing and its built-in kind -/
inductive Kd (H : Hp) : V → String → Prop where
  | non : Kd H .non "NoneType"
  | bl (b : Bool) : Kd H (.bl b) "bool"
  | int (i : Int) : Kd H (.int i) "int"
  | str (z : Str) (h : z.length ≤ 1000) : Kd H (.str z) "str"
  | lst {a : Addr} {xs : List V} (e : H a = some (.lst xs)) : Kd H (.ref a) "list"
  | tup {a : Addr} {xs : List V} (e : H a = some (.tup xs)) : Kd H (.ref a) "tuple"
  | dK {a : Addr} {kvs : List (Key × V)} (e : H a = some (.dK kvs)) : Kd H (.ref a) "dict"
theorem Kd.ty {K : PySem.W.Frag} {H : Hp} {v : V} {n : String} (h : Kd H v n) : TyX K H v (.type n) := by
  cases h with
  | non => exact .base .non
  | bl b => exact .base (.bl b)
  | int i => exact .base (.int i)
  | str z h => exact .base (.str z)
  | lst e => exact .base (.lst e)
  | tup e => exact .base (.tup e)
  | dK e => exact .base (.dK e)
theorem Kd.same {H H' : Hp} {v : V} {n : String} (h : Kd H v n) (s : Same H H') : Kd H' v n := by
  cases h with
  | non => exact .non
  | bl b => exact .bl b
  | int i => exact .int i
  | str z h => exact .str z h
  | lst e => exact .lst (s _ _ e)
  | tup e => exact .tup (s _ _ e)
  | dK e => exact .dK (s _ _ e)
theorem _root_.L2.Same.seqT {K : PySem.W.Frag} {H H' : Hp} {a : Addr} {xs : List V} (e : Same H H') (h : SqT K H a xs) : SqT K H' a xs := by
  rcases h with (h | ⟨o, h⟩) | h
  · exact .inl (.inl (e _ _ h))
  · exact .inl (.inr ⟨o, e _ _ h⟩)
  · exact .inr h
/-- a written tuple -/
def isTupV (oc : Value) (d : PySem.Data) (xs : List V) : Bool := match oc, d with
  | .type n, .seq its _ => (n == "tuple") && decide (its.size ≤ 1000) && decide (its.toList.map absV = xs.map some)
  | _, _ => false
theorem vals_of_abs : ∀ {xs : List V} {us : List Value}, us.map absV = xs.map some → Vals xs us
  | [], [], _ => .nil
  | [], _ :: _, h => by cases h
  | _ :: _, [], h => by cases h
  | x :: xs, u :: us, h => by
    rw [List.map_cons, List.map_cons] at h
    injection h with h1 h2
    refine .cons ?_ (vals_of_abs h2)
    cases u <;> simp only [absV, Option.some.injEq, reduceCtorEq] at h1 <;> subst h1 <;> first | rfl | exact ⟨_, rfl⟩
theorem sqT_written {K : PySem.W.Frag} {H : Hp} {a : Addr} {oc : Value} {od : Option Addr} {d : PySem.Data} {sl : Array (Option Value)} {xs : List V} (l : K.lookup a = some ⟨oc, od, d, sl⟩) (h : isTupV oc d xs = true) : SqT K H a xs := by
  unfold isTupV at h
  split at h
  · simp only [Bool.and_eq_true, beq_iff_eq, decide_eq_true_eq] at h
    obtain ⟨⟨h1, h2⟩, h3⟩ := h
    subst h1
    exact .inr ⟨_, _, _, l, rfl, rfl, Nat.le_trans h2 (by decide), vals_of_abs h3⟩
  · cases h

/-! ### counts -/
abbrev sCount : Stmt := top 2
def isCount : V → Bool
  | .int i => decide (0 ≤ i)
  | _ => false
structure MTxt (K : PySem.W.Frag) (mg : Str → Option Value) : Prop where
  isi : mg "isinstance" = none
  int : mg "int" = none
  bool : mg "bool" = none
def spCount : Sp := fun vs H Q _ => ∃ (v : V) (n : String), vs = [v] ∧ Kd H v n ∧ Q (.bl (isCount v)) H
section
variable {P : Program} {w : World} {K : PySem.W.Frag} {mg : Str → Option Value} {base : Heap}
theorem scCount : FnScope ["value"] ["value"] (defScope sCount) := ⟨rfl, rfl, rfl, by decide +kernel, rfl, by decide +kernel, by decide +kernel⟩
theorem ok_count {f : Addr} {fd : FuncData} (F : Fun K "is_count" "is_count" sCount f fd) (T : MTxt K mg) : FnOk P w K mg base CX0 1 f fd ["value"] spCount := by
  refine F.ok scCount (fun vs H Q E h => ?_) (fun cdv A outer s H vs Q E hr h => ?_)
  · obtain ⟨v, n, rfl, _⟩ := h
    rfl
  · obtain ⟨v, n, rfl, hk, k⟩ := h
    refine ⟨_, pss_one (ps_ret (pe_and (pe_callB call_isi (by rfl) T.isi (by decide +kernel) (pa_cons (pv 0) (pa_cons (pe_bltn (v := .ty "int") (by rfl) T.int (by decide +kernel) rfl) pa_nil)))
      (pe_and (pe_not (pe_callB call_isi (by rfl) T.isi (by decide +kernel) (pa_cons (pv 0) (pa_cons (pe_bltn (v := .ty "bool") (by rfl) T.bool (by decide +kernel) rfl) pa_nil)))) (pe_one (pe_cmpR op_ge (pv 0) pe_int (nomark _)))))), ?_⟩
    have ty : TyX K H v (.type n) := hk.ty
    cases hk with
    | int i => exact ⟨_, rfl, _, _, _, _, true, rfl, .ty _, ty, kit_ty (by decide +kernel), _, rfl, iteT ⟨_, rfl, _, _, _, _, false, rfl, .ty _, ty, kit_ty (by decide +kernel), _, rfl, _, rfl, iteT ⟨_, rfl, _, _, rfl, rfl, k⟩⟩⟩
    | bl b => exact ⟨_, rfl, _, _, _, _, true, rfl, .ty _, ty, kit_ty (by decide +kernel), _, rfl, iteT ⟨_, rfl, _, _, _, _, true, rfl, .ty _, ty, kit_ty (by decide +kernel), _, rfl, _, rfl, iteF k⟩⟩
    | non => exact ⟨_, rfl, _, _, _, _, false, rfl, .ty _, ty, kit_ty (by decide +kernel), _, rfl, iteF k⟩
    | str z hz => exact ⟨_, rfl, _, _, _, _, false, rfl, .ty _, ty, kit_ty (by decide +kernel), _, rfl, iteF k⟩
    | lst e => exact ⟨_, rfl, _, _, _, _, false, rfl, .ty _, ty, kit_ty (by decide +kernel), _, rfl, iteF k⟩
    | tup e => exact ⟨_, rfl, _, _, _, _, false, rfl, .ty _, ty, kit_ty (by decide +kernel), _, rfl, iteF k⟩
    | dK e => exact ⟨_, rfl, _, _, _, _, false, rfl, .ty _, ty, kit_ty (by decide +kernel), _, rfl, iteF k⟩
end
/-! ### == and != by an own __eq__ -/
section
variable {prog : Program} {w : World} {A : Around} {E : Value → Shared → Prop} {s : Shared} {K : PySem.W.Frag} {x C f : Addr} {ox : Obj} {od : Option Obj} {name : Str} {y : Addr}
/-- x.name(..), the name's def a built-in slot -/
theorem ifBound_B {M : Model} {B : String} {id : String} {args : List Value} {Q : Option Value → Shared → Prop} (X : K.In s.heap) (I : PySem.W.InstAt s.heap x ox C od) (hs : PySem.W.findIn K (.ref C) name = some (some (.builtin id))) (S : Slot B name id)
    (h : wpAny M A (call (.builtin id) (.ref x :: args)) (fun v => Q (some v)) E s) : wpAny M A (callSpecialIfBound? (.ref x) name args) Q E s := by
  simp only [callSpecialIfBound?, bindSpecialIfBound?]
  refine wpAny_holding (wpAny_bind (wpAny_bind (wpAny_bind (I.type.here ((PySem.W.looks_findIn X hs).here ?_)))))
  simp only [S.bind]
  refine wpAny_bind (wpAny_askSetting (wpAny_ite ?_))
  have fin : wpAny M A (call (.builtin id) ([.ref x] ++ args) >>= fun v => pure (some v)) Q E s :=
    wpAny_bind (wpAny_mono h (fun v s' h' => wpAny_pure h') fun _ _ h' => h')
  split
  · exact wpAny_bind (wpAny_pure (wpAny_pure fin))
  · exact wpAny_tryCatch (wpAny_bind (wpAny_pure (wpAny_pure fin)))
theorem objNe_K {Q : Fin → Shared → Prop} (hu : A.units < cLine) (X : K.In s.heap) (I : PySem.W.InstAt s.heap x ox C od) (hs : PySem.W.findIn K (.ref C) "__eq__" = some (some (.ref f))) (hf : PySem.W.isFn K (.ref f) = true)
    (hcall : wpAny (model prog w) A (call (.ref f) [.ref x, .ref y]) (fun v s' => ∃ b, v = .bool b ∧ Q (.done (.ret (.bool (!b)))) s') E s) :
    wpAny (model prog w) A (Builtin.«object.__ne__» ⟨[.ref x, .ref y], []⟩) Q E s := by
  unfold Builtin.«object.__ne__»
  repeat (first
    | with_reducible refine wpAny_cRoomFor hu ?_
    | (refine wpAny_bind (m := callSpecialIfBound? (.ref x) (Str.ofString "__eq__") [.ref y])
        (PySem.W.ifBound_K X I hs hf (wpAny_mono hcall (fun r s' hr => by
          obtain ⟨b, rfl, hq⟩ := hr
          repeat (first | exact hq | exact wpAny_pure hq | exact wpAny_truthy_bool hq | (refine wpAny_bind (m := truthy (.bool _)) (wpAny_truthy_bool ?_)) | wp_step)) fun _ _ e => e)))
    | wp_step)
/-- the class, as != asks of it -/
structure NeC (K : PySem.W.Frag) (C : Addr) : Prop where
  ne : PySem.W.findIn K (.ref C) "__ne__" = some (some (.builtin "object.__ne__"))
  cls : ∃ nm q N bs hdct sn sub ab col dd k0 k1 k2 k3 k5 newId, K.lookup C = some (excClassObj nm q C N bs [.type "object"] hdct sn sub ab col dd k0 k1 k2 k3 k5 newId)
theorem richNe_K {oy : Obj} {Q : Value → Shared → Prop} (hu : A.units + 1 < cLine) (X : K.In s.heap) (T : NeC K C) (I : PySem.W.InstAt s.heap x ox C od) (hy : s.heap.get? y = some oy) (hyc : oy.cls = .ref C)
    (hs : PySem.W.findIn K (.ref C) "__eq__" = some (some (.ref f))) (hf : PySem.W.isFn K (.ref f) = true)
    (hcall : wpAny (model prog w) A.in1 (call (.ref f) [.ref x, .ref y]) (fun v s' => ∃ b, v = .bool b ∧ Q (.bool (!b)) s') E s) :
    wpAny (model prog w) A (richCompare .NotEq (.ref x) (.ref y)) Q E s := by
  obtain ⟨nm, q, N, bs, hdct, sn, sub, ab, col, dd, k0, k1, k2, k3, k5, newId, hC⟩ := T.cls
  have hx := I.at_
  have hc := I.cls
  have one : wpAny (model prog w) A (tryCompare (.ref x) "__ne__" (.ref y)) (fun r s' => ∃ v, r = some v ∧ Q v s') E s := by
    simp only [tryCompare]
    refine wpAny_bind (ifBound_B X I T.ne PySem.F.cmp_object.ne (wpAny_call (codeAny_call_builtin PySem.F.cmp_object.ne.plain PySem.F.cmpEntry_ne
      (wpAny_check_slot_inst (h := s.heap) (g := s.gens) (d := s.drawn) (t := s.toks) (os := s.os) PySem.F.cmpKind_ne PySem.F.cmpSplit_ne (PySem.F.cmpArgs_ne _ _) PySem.F.cmp_object.hasObject hx hc (X _ _ hC)
        (objNe_K (A := A.in1) hu X I hs hf (wpAny_mono hcall (fun v s' hv => ?_) fun _ _ e => e))))))
    obtain ⟨b, rfl, hq⟩ := hv
    first | exact ⟨b, rfl, _, rfl, hq⟩ | exact ⟨b, rfl, wpAny_pure ⟨_, rfl, hq⟩⟩ | exact ⟨b, rfl, wpAny_pure (wpAny_pure ⟨_, rfl, hq⟩)⟩
  unfold richCompare
  simp only [oneThing_ref]
  refine wpAny_holding ?_
  refine wpAny_bind (wpAny_cRoomFor (Nat.lt_of_succ_lt hu) ?_)
  rw [cmpInfo_NotEq]
  dsimp only
  refine wpAny_bind (wpAny_typeOf_ref hx ?_)
  rw [hc]
  refine wpAny_bind (wpAny_typeOf_ref hy ?_)
  rw [hyc]
  rw [show (Value.ref C != Value.ref C) = false from by simp]
  simp only [Bool.false_eq_true, if_false]
  refine wpAny_bind (wpAny_pure ?_)
  simp only [Bool.false_eq_true, if_false]
  refine wpAny_bind (wpAny_mono one (fun r s' hv => ?_) fun _ _ e => e)
  obtain ⟨b, rfl, hq⟩ := hv
  first | exact wpAny_pure hq | exact wpAny_pure (wpAny_pure hq)
end
/-- a value's kind, as == asks: an instance of the class, a text, a tuple -/
inductive EqR (H : Hp) (C : Addr) : V → Prop where
  | ins {b dy : Addr} {gs : List (Str × V)} (e : H b = some (.ins C dy gs)) : EqR H C (.ref b)
  | str (z : Str) : EqR H C (.str z)
  | tup {b : Addr} {xs : List V} (e : H b = some (.tup xs)) : EqR H C (.ref b)
/-- the class, as == asks of it -/
structure EqC (K : PySem.W.Frag) (C f : Addr) : Prop where
  eq : PySem.W.findIn K (.ref C) "__eq__" = some (some (.ref f))
  fn : PySem.W.isFn K (.ref f) = true
  n1 : PySem.W.notFirst K C (.ref C) = true
  n2 : PySem.W.notFirst K C (.type "str") = true
  n3 : PySem.W.notFirst K C (.type "tuple") = true
def rEqO (C : Addr) (sp : Sp) (E : XK) : R2 := fun x y H Q => ∃ a dx fs, x = .ref a ∧ H a = some (.ins C dx fs) ∧ EqR H C y ∧ sp [x, y] H Q E
def rNeO (C : Addr) (sp : Sp) (E : XK) : R2 := fun x y H Q => ∃ a dx fs b dy gs, x = .ref a ∧ y = .ref b ∧ H a = some (.ins C dx fs) ∧ H b = some (.ins C dy gs) ∧ sp [x, y] H (fun z H' => ∃ k, z = .bl k ∧ Q (.bl (!k)) H') E
section
variable {X : Cx} {CX : CXT} {n : Nat} {f C : Addr} {fd : FuncData} {ps : List Str} {sp : Sp} {E : XK}
theorem op_eqO (F : FnOk X.prog X.w X.K X.mg X.base CX n f fd ps sp) (T : EqC X.K C f) (hb : Binds X.K fd ps []) (hr : Room n X.A) (hx : Passes CX X E) : OpR X (compareOp .Eq) (rEqO C sp E) := by
  intro pins s σ H x y v u Q I rx ry h
  obtain ⟨a, dx, fs, rfl, ha, hy, hsp⟩ := h
  cases rx
  obtain ⟨mA, J, _⟩ := ins_get I.hok ha
  obtain ⟨od, J, _⟩ := J.look
  obtain ⟨m, hF⟩ := I.fr
  have hl := F.len _ _ _ _ hsp
  have run : wpAny (model X.prog X.w) X.A (call (.ref f) [.ref a, u]) (PySem.W.CmpBack (EP X pins σ Q)) X.xe s := by
    have r2 : Vals [V.ref a, y] [Value.ref a, u] := .cons rfl (.cons ry .nil)
    refine wpAny_call (codeAny_mono (F.run X.A X.stack s H ⟨[.ref a, u], []⟩ [.ref a, u] [.ref a, y] Q E hr I.env0 (by
      have := hb s [.ref a, u] I.kIn (by simpa using hl)
      simpa using this) r2 hsp) fun r s' hq => ?_)
    cases r with
    | error e => exact hx pins σ H s e s' I hq
    | ok fl =>
      cases fl with
      | ret w =>
        obtain ⟨z, H', I', rz, qz⟩ := I.after hq
        exact SlX.cmpback rz ⟨z, H', I', rz, qz⟩
      | next => exact False.elim hq
      | brk => exact False.elim hq
      | cont => exact False.elim hq
  show wpAny (model X.prog X.w) X.A (richCompare .Eq (.ref a) u) (EP X pins σ Q) X.xe s
  cases hy with
  | ins e =>
    cases ry
    obtain ⟨mB, J', _⟩ := ins_get I.hok e
    obtain ⟨od', J', _⟩ := J'.look
    exact PySem.W.cmp_K (op := .Eq) (tb := .ref C) hr.units0 hF I.ok.mod.kin J J'.type T.n1 T.eq T.fn run
  | str z =>
    obtain ⟨t, rfl⟩ := ry
    exact PySem.W.cmp_K (op := .Eq) (tb := .type "str") hr.units0 hF I.ok.mod.kin J (PySem.W.kitx_str.ty _ _ I.kIn True.intro) T.n2 T.eq T.fn run
  | tup e =>
    cases ry
    obtain ⟨its, r, ⟨o, ho, hc, n, hd⟩, hs⟩ := I.tuple (X := X) (.inl (.inl e))
    exact PySem.W.cmp_K (op := .Eq) (tb := .type "tuple") hr.units0 hF I.ok.mod.kin J (PySem.W.kitx_tuple.ty _ _ I.kIn ⟨_, ho, hc⟩) T.n3 T.eq T.fn run
theorem op_neO (F : FnOk X.prog X.w X.K X.mg X.base CX n f fd ps sp) (T : EqC X.K C f) (N : NeC X.K C) (hb : Binds X.K fd ps []) (hr : Room (n + 1) X.A) (hx : Passes CX X E) : OpR X (compareOp .NotEq) (rNeO C sp E) := by
  intro pins s σ H x y v u Q I rx ry h
  obtain ⟨a, dx, fs, b, dy, gs, rfl, rfl, ha, hbb, hsp⟩ := h
  cases rx
  cases ry
  obtain ⟨mA, J, _⟩ := ins_get I.hok ha
  obtain ⟨od, J, _⟩ := J.look
  obtain ⟨mB, J', _⟩ := ins_get I.hok hbb
  obtain ⟨od', J', _⟩ := J'.look
  have hl := F.len _ _ _ _ hsp
  show wpAny (model X.prog X.w) X.A (richCompare .NotEq (.ref a) (.ref b)) (EP X pins σ Q) X.xe s
  refine richNe_K (by have := hr.un; omega) I.kIn N J J'.at_ J'.cls T.eq T.fn ?_
  have r2 : Vals [V.ref a, V.ref b] [Value.ref a, Value.ref b] := .cons rfl (.cons rfl .nil)
  refine wpAny_call (codeAny_mono (F.run X.A.in1 X.stack s H ⟨[.ref a, .ref b], []⟩ [.ref a, .ref b] [.ref a, .ref b] _ E hr.in1 I.env0.in1 (by
    have := hb s [.ref a, .ref b] I.kIn (by simpa using hl)
    simpa using this) r2 hsp) fun r s' hq => ?_)
  cases r with
  | error e => exact hx pins σ H s e s' I hq
  | ok fl =>
    cases fl with
    | ret w =>
      obtain ⟨z, H', I', rz, k, ez, qz⟩ := I.after hq
      subst ez
      cases rz
      exact ⟨k, rfl, .bl (!k), H', I', rfl, qz⟩
    | next => exact False.elim hq
    | brk => exact False.elim hq
    | cont => exact False.elim hq
end
/-! ### len, item reading and `in` by own methods -/
section
variable {X : Cx} {CX : CXT} {n : Nat} {f C : Addr} {fd : FuncData} {ps : List Str} {sp : Sp} {E : XK} {pins : List (Addr × Obj)} {s : Shared} {σ : L2.St} {H : Hp} {xs : List V} {us : List Value} {Q : VK} {R : Value → Shared → Prop}
theorem run_at0 (F : FnOk X.prog X.w X.K X.mg X.base CX n f fd ps sp) (hb : Binds X.K fd ps []) (hr : Room n X.A) (hx : Passes CX X E) (I : Inv X pins σ H s) (r : Vals xs us) (h : sp xs H Q E)
    (k : ∀ w s' z H', Inv X pins σ H' s' → RelV z w → Q z H' → R w s') : wpAny (model X.prog X.w) X.A (call (.ref f) us) R X.xe s := by
  have hl := F.len _ _ _ _ h
  have hu := r.length
  refine wpAny_call (codeAny_mono (F.run X.A X.stack s H ⟨us, []⟩ us xs Q E hr I.env0 (by
      have := hb s us I.kIn (by first | omega | (simp; omega))
      simpa using this) r h) fun r' s' hq => ?_)
  cases r' with
  | error e => exact hx pins σ H s e s' I hq
  | ok fl =>
    cases fl with
    | ret w =>
      obtain ⟨z, H', I', rz, qz⟩ := I.after hq
      exact k w s' z H' I' rz qz
    | next => exact False.elim hq
    | brk => exact False.elim hq
    | cont => exact False.elim hq
theorem run_in1 (F : FnOk X.prog X.w X.K X.mg X.base CX n f fd ps sp) (hb : Binds X.K fd ps []) (hr : Room (n + 1) X.A) (hx : Passes CX X E) (I : Inv X pins σ H s) (r : Vals xs us) (h : sp xs H Q E)
    (k : ∀ w s' z H', Inv X pins σ H' s' → RelV z w → Q z H' → R w s') : wpAny (model X.prog X.w) X.A.in1 (call (.ref f) us) R X.xe s := by
  have hl := F.len _ _ _ _ h
  have hu := r.length
  refine wpAny_call (codeAny_mono (F.run X.A.in1 X.stack s H ⟨us, []⟩ us xs Q E hr.in1 I.env0.in1 (by
      have := hb s us I.kIn (by first | omega | (simp; omega))
      simpa using this) r h) fun r' s' hq => ?_)
  cases r' with
  | error e => exact hx pins σ H s e s' I hq
  | ok fl =>
    cases fl with
    | ret w =>
      obtain ⟨z, H', I', rz, qz⟩ := I.after hq
      exact k w s' z H' I' rz qz
    | next => exact False.elim hq
    | brk => exact False.elim hq
    | cont => exact False.elim hq
/-- len(o) -/
def rLenO (C : Addr) (sp : Sp) (E : XK) : List V → Hp → VK → Prop := fun xs H Q => ∃ x dx fs, xs = [.ref x] ∧ H x = some (.ins C dx fs) ∧ sp [.ref x] H (fun z H' => ∃ k : Int, z = .int k ∧ 0 ≤ k ∧ k < 2 ^ 63 ∧ Q (.int k) H') E
theorem call_lenO (F : FnOk X.prog X.w X.K X.mg X.base CX n f fd ps sp) (hs : PySem.W.findIn X.K (.ref C) "__len__" = some (some (.ref f))) (hf : PySem.W.isFn X.K (.ref f) = true) (hb : Binds X.K fd ps []) (hr : Room (n + 1) X.A) (hx : Passes CX X E) :
    CallR X (.builtin "len") (rLenO C sp E) := by
  intro pins s σ H xs us Q I r h
  obtain ⟨x, dx, fs, rfl, hX, hsp⟩ := h
  obtain ⟨u, rfl, ru⟩ := vals1 r
  cases ru
  obtain ⟨mA, J, _⟩ := ins_get I.hok hX
  obtain ⟨od, J, _⟩ := J.look
  obtain ⟨m, hF⟩ := I.fr
  refine PySem.W.len_K hF I.ok.mod.kin J hs hf (run_in1 F hb hr hx I (.cons (show RelV (V.ref x) (Value.ref x) from rfl) .nil) hsp fun w s' z H' I' rz q => ?_)
  obtain ⟨k, rfl, h0, h1, q⟩ := q
  obtain ⟨t, rfl⟩ := rz
  exact ⟨⟨h0, h1⟩, .int k, H', I'.tok _, ⟨_, rfl⟩, q⟩
/-- o[i] -/
def rIxO (C : Addr) (sp : Sp) (E : XK) : R2 := fun x y H Q => ∃ a dx fs, x = .ref a ∧ H a = some (.ins C dx fs) ∧ sp [.ref a, y] H Q E
theorem pe_ixO {a b : Expr} {ta tb : TE} {pos : Pos} (F : FnOk X.prog X.w X.K X.mg X.base CX n f fd ps sp) (hs : PySem.W.findIn X.K (.ref C) "__getitem__" = some (some (.ref f))) (hf : PySem.W.fnIn X.K f = true) (hfn : PySem.W.isFn X.K (.ref f) = true) (hb : Binds X.K fd ps [])
    (hr : Room (n + 1) X.A) (hx : Passes CX X E) (ha : PE X a ta) (hi : PE X b tb) (hsl : ∀ o i, subscripted b true (.ref o) i = runValue (.builtin "lifetime.subscript" ⟨[.ref o, i], []⟩)) : PE X (.Subscript a b pos) (tOp (rIxO C sp E) ta tb) := by
  refine ⟨fun pins s σ H Q I h => ?_⟩
  refine Subscript_ (binT ha hi I h fun v u s2 x y H2 I2 rx ry q => ?_)
  obtain ⟨p, dx, fs, rfl, hX, hsp⟩ := q
  cases rx
  obtain ⟨mA, J, _⟩ := ins_get I2.hok hX
  obtain ⟨od, J, _⟩ := J.look
  obtain ⟨m, hF⟩ := I2.fr
  exact PySem.W.sub_K hF I2.ok.mod.kin J hs hf hfn (run_in1 F hb hr hx I2 (.cons (show RelV (V.ref p) (Value.ref p) from rfl) (.cons ry .nil)) hsp fun w s' z H' I' rz q => ⟨z, H', I', rz, q⟩) (hsl _ _)
/-- v in o -/
def rInO (C : Addr) (sp : Sp) (E : XK) : R2 := fun x y H Q => ∃ a dx fs, y = .ref a ∧ H a = some (.ins C dx fs) ∧ sp [.ref a, x] H (fun z H' => ∃ k, z = .bl k ∧ Q (.bl k) H') E
theorem op_inO (F : FnOk X.prog X.w X.K X.mg X.base CX n f fd ps sp) (hs : PySem.W.findIn X.K (.ref C) "__contains__" = some (some (.ref f))) (hfn : PySem.W.isFn X.K (.ref f) = true) (hb : Binds X.K fd ps []) (hr : Room n X.A) (hx : Passes CX X E) : OpR X (compareOp .In) (rInO C sp E) := by
  intro pins s σ H x y v u Q I rx ry h
  obtain ⟨a, dx, fs, rfl, hX, hsp⟩ := h
  cases ry
  obtain ⟨mA, J, _⟩ := ins_get I.hok hX
  obtain ⟨od, J, _⟩ := J.look
  obtain ⟨m, hF⟩ := I.fr
  refine PySem.W.in_K hF I.ok.mod.kin J hs hfn (run_at0 F hb hr hx I (.cons (show RelV (V.ref a) (Value.ref a) from rfl) (.cons rx .nil)) hsp fun w s' z H' I' rz q => ?_)
  obtain ⟨k, rfl, q⟩ := q
  cases rz
  exact wpAny_truthy_bool ⟨.bl k, H', I', rfl, q⟩
end
abbrev sHInit : Stmt := inClass (top 6) 0
/-- self.f = v, self a new exception -/
def spInitE (K : PySem.W.Frag) (f : Str) : Sp := fun vs H Q _ => ∃ (a C : Addr) (v : V), vs = [.ref a, v] ∧ ExvC K C ∧ PySem.W.findIn K (.ref C) f = some none ∧ H a = some (exo a C none) ∧
  ∀ dx, H dx = none → dx ≠ a → Q .non (upd (upd H dx (exd dx [(f, v)])) a (exo a C (some dx)))
section
variable {P : Program} {w : World} {K : PySem.W.Frag} {mg : Str → Option Value} {base : Heap}
theorem scH : FnScope ["self", "value"] ["self", "value"] (defScope sHInit) := ⟨rfl, rfl, rfl, by decide +kernel, rfl, by decide +kernel, by decide +kernel⟩
theorem ok_hinit {f : Addr} {fd : FuncData} (F : Fun K "__init__" "HandleError.__init__" sHInit f fd) : FnOk P w K mg base CX0 1 f fd ["self", "value"] (spInitE K "value") := by
  refine F.ok scH (fun vs H Q E h => ?_) (fun cdv A outer s H vs Q E hr h => ?_)
  · obtain ⟨a, C, v, rfl, _⟩ := h
    rfl
  · obtain ⟨a, C, v, rfl, T, hno, ea, k⟩ := h
    refine ⟨_, pss_one (ps_stx (pv 0) (pv 1)), ?_⟩
    exact ⟨_, rfl, _, rfl, a, C, rfl, T, hno, ea, fun dx n ne => k dx n ne⟩
end

/-! ### the errors that the package raises -/
structure ErrC (K : PySem.W.Frag) (mg : Str → Option Value) (x : Str) (C fI : Addr) : Prop where
  g : mg x = some (.ref C)
  ox : OexC K C
  ev : ExvC K C
  i : PySem.W.findIn K (.ref C) "__init__" = some (some (.ref fI))
  t : PySem.W.typeIn K (.ref fI) = some (.type "function")
  no : PySem.W.findIn K (.ref C) "value" = some none
/-- an error of C with this value is let out -/
def Bad (E : XK) (H : Hp) (C : Addr) (v : V) : Prop := ∀ d H', Same H H' → H' d = some (.xd [("value", v)]) → E (.ref C) (some d) H'
theorem Bad.imp {E : XK} {H H' : Hp} {C : Addr} {v : V} (b : Bad E H C v) (s : Same H H') : Bad E H' C v := fun d H2 s2 e => b d H2 (s.trans s2) e
/-- what is asked ahead of a raise of C(v) -/
theorem raise_ok {K : PySem.W.Frag} {mg : Str → Option Value} {x : Str} {C fI : Addr} {H : Hp} {v : V} {E : XK} (e : ErrC K mg x C fI) (b : Bad E H C v) : ∀ a, H a = none →
    spInitE K "value" (.ref a :: ([v] ++ [])) (upd H a (exo a C none)) (fun u H2 => u = .non ∧ ∃ (d : Addr) (fs : List (Str × V)), H2 a = some (exo a C (some d)) ∧ H2 d = some (exd d fs) ∧ H d = none ∧ E (.ref C) (some d) (upd (del H2 a) d (.xd fs))) (fun _ _ _ => False) := by
  intro a ha
  refine ⟨a, C, v, rfl, e.ev, e.no, upd_same, fun dx n ne => ⟨rfl, dx, _, upd_same, ?_, ?_, b dx _ ?_ upd_same⟩⟩
  · rw [upd_ne ne, upd_same]
  · rw [upd_ne ne] at n
    exact n
  · intro b' u q
    have n1 : b' ≠ a := ne_of_none q ha
    have n2 : b' ≠ dx := fun z => by
      rw [z] at q
      rw [upd_ne ne, q] at n
      cases n
    rw [upd_ne n2, del_ne n1, upd_ne n1, upd_ne n2, upd_ne n1]
    exact q
def SameX (x : Addr) (H H' : Hp) : Prop := ∀ b u, b ≠ x → H b = some u → H' b = some u
/-- o.f, as a def that is called -/
def spGet (K : PySem.W.Frag) (f : Str) : Sp := fun vs H Q _ => ∃ (x C dx : Addr) (fs : List (Str × V)) (v : V), vs = [.ref x] ∧ H x = some (.ins C dx fs) ∧ Cls K C ∧ NoAttr K C f ∧ fs.lookup f = some v ∧ Q v H
theorem intlen {m : Int} (h0 : 0 ≤ m) (h1 : m < 10 ^ 40) : (Str.ofString (toString m)).length ≤ 40 ∧ m.natAbs.log2 < 1920 := by
  refine ⟨numlen h0 h1, ?_⟩
  have h2 : m.natAbs < 2 ^ 140 := by
    have e : (10 : Int) ^ 40 ≤ 2 ^ 140 := by decide
    have e2 : ((2 ^ 140 : Nat) : Int) = (2 : Int) ^ 140 := by decide
    omega
  exact Nat.lt_trans (PySem.Flt.log2_lt_of (by decide) h2) (by decide)
theorem empty_add (z : Str) : Str.empty ++ z = z := by
  cases z with
  | mk a =>
    show Str.mk (#[] ++ a) = Str.mk a
    rw [Array.empty_append]
theorem len_add (a b : Str) : (a ++ b).length = a.length + b.length := by
  cases a with
  | mk a =>
    cases b with
    | mk b =>
      show (a ++ b).size = a.size + b.size
      exact Array.size_append
/-! ### handles -/
abbrev sHdInit : Stmt := inClass (top 10) 0
abbrev sHdNumber : Stmt := inClass (top 10) 1
abbrev sHdTurn : Stmt := inClass (top 10) 2
abbrev sHdEntry : Stmt := inClass (top 10) 3
abbrev sHdText : Stmt := inClass (top 10) 4
abbrev sHdEq : Stmt := inClass (top 10) 5
/-- the class of handles, as its methods ask -/
structure HCls (K : PySem.W.Frag) (mg : Str → Option Value) (C : Addr) : Prop where
  cl : Cls K C
  n1 : NoAttr K C "_number"
  n2 : NoAttr K C "_turn"
  n3 : NoAttr K C "_entry"
  g : mg "Handle" = some (.ref C)
  yes : PySem.W.kitOne K (.ref C) (.ref C) = some true
/-- a handle is made, or the error of the first that is no count -/
def spHandle (K : PySem.W.Frag) (C CB : Addr) : Sp := fun vs H Q E => ∃ (x dx : Addr) (v1 v2 v3 : V) (k1 k2 k3 : String), vs = [.ref x, v1, v2, v3] ∧ H x = some (.ins C dx []) ∧ Kd H v1 k1 ∧ Kd H v2 k2 ∧ Kd H v3 k3 ∧
  (isCount v1 = false → Bad E H CB v1) ∧ (isCount v1 = true → isCount v2 = false → Bad E H CB v2) ∧ (isCount v1 = true → isCount v2 = true → isCount v3 = false → Bad E H CB v3) ∧
  (isCount v1 = true → isCount v2 = true → isCount v3 = true → ∀ H', SameX x H H' → H' x = some (.ins C dx [("_number", v1), ("_turn", v2), ("_entry", v3)]) → Q .non H')
/-- a handle of these numbers -/
def HAt (H : Hp) (C x : Addr) (n t e : Int) : Prop := ∃ dx, H x = some (.ins C dx [("_number", .int n), ("_turn", .int t), ("_entry", .int e)])
theorem HAt.same {H H' : Hp} {C x : Addr} {n t e : Int} (h : HAt H C x n t e) (s : Same H H') : HAt H' C x n t e := by
  obtain ⟨dx, h⟩ := h
  exact ⟨dx, s _ _ h⟩
def hText (n t : Int) : Str := Str.ofString (toString n) ++ Str.ofString "." ++ Str.ofString (toString t)
def spText (K : PySem.W.Frag) (C : Addr) : Sp := fun vs H Q _ => ∃ (x : Addr) (n t e : Int), vs = [.ref x] ∧ HAt H C x n t e ∧ 0 ≤ n ∧ n < 10 ^ 40 ∧ 0 ≤ t ∧ t < 10 ^ 40 ∧ Q (.str (hText n t)) H
def spHEq (K : PySem.W.Frag) (C : Addr) : Sp := fun vs H Q _ => ∃ (x : Addr) (v : V) (n t e : Int), vs = [.ref x, v] ∧ HAt H C x n t e ∧
  ((∃ u, TyX K H v u ∧ PySem.W.kitOne K u (.ref C) = some false ∧ Q (.bl false) H) ∨ ∃ (y : Addr) (n' t' e' : Int), v = .ref y ∧ TyX K H v (.ref C) ∧ HAt H C y n' t' e' ∧ Q (.bl (if n = n' then decide (t = t') else false)) H)
section
variable {P : Program} {w : World} {K : PySem.W.Frag} {mg : Str → Option Value} {base : Heap}
theorem scHd : FnScope ["self", "number", "turn", "entry", "value"] ["self", "number", "turn", "entry"] (defScope sHdInit) := ⟨rfl, rfl, rfl, by decide +kernel, rfl, by decide +kernel, by decide +kernel⟩
theorem ok_handle {f C CB fI fC : Addr} {fd fdI fdC : FuncData} (F : FunD K "__init__" "Handle.__init__" (defArgs sHdInit) (defBody sHdInit) (defScope sHdInit) [.int 0] [("entry", .int 0)] f fd) (T : MTxt K mg) (eB : ErrC K mg "InvalidNumber" CB fI) (S : HCls K mg C)
    (FI : Fun K "__init__" "HandleError.__init__" sHInit fI fdI) (bI : Binds K fdI ["self", "value"] [])
    (FC : Fun K "is_count" "is_count" sCount fC fdC) (bC : Binds K fdC ["value"] []) (gC : mg "is_count" = some (.ref fC)) :
    FnOk P w K mg base (L2.CX P w) 3 f fd ["self", "number", "turn", "entry"] (spHandle K C CB) := by
  have GI : FnOk P w K mg base CX0 1 fI fdI ["self", "value"] (spInitE K "value") := ok_hinit FI
  have GC : FnOk P w K mg base CX0 1 fC fdC ["value"] spCount := ok_count FC T
  refine F.ok scHd (fun vs H Q E h => ?_) (fun cdv A outer s H vs Q E hr h => ?_)
  · obtain ⟨x, dx, v1, v2, v3, k1, k2, k3, rfl, _⟩ := h
    rfl
  · obtain ⟨x, dx, v1, v2, v3, k1, k2, k3, rfl, hx, h1, h2, h3, b1, b2, b3, k⟩ := h
    have hr1 := hr.mono (j := 1) (by decide)
    refine ⟨_, pss_cons (ps_for (passes_of rfl) rfl (pi_tup (pe_tup (pa_cons (pv 1) (pa_cons (pv 2) (pa_cons (pv 3) pa_nil))))) (pg_name (i := 4) scHd.nd rfl (.inl rfl))
        (pss_one (ps_if (pt_not (pt_val (pe_call GC hr1 rfl gC FC.kp bC .nil pass0 (pa_cons (pv 4) pa_nil))))
          (pss_one (ps_raise rfl (takes_of rfl rfl rfl rfl) (pmk_oex eB.ox eB.i eB.t GI hr bI .nil pass0 rfl eB.g (pa_cons (pv 4) pa_nil)))) pss_nil)))
      (pss_cons (ps_fld (pv 0) (pv 1) (by rfl)) (pss_cons (ps_fld (pv 0) (pv 2) (by rfl)) (pss_one (ps_fld (pv 0) (pv 3) (by rfl))))), ?_⟩
    refine ⟨v1, rfl, v2, rfl, v3, rfl, (by show 3 ≤ sizeLine; decide), fun t ht => ?_⟩
    have s1 : Same H (upd H t (.tup [v1, v2, v3])) := Same.new ht
    have kd : ∀ (i : Nat) (y : V), [v1, v2, v3][i]? = some y → ∃ n, Kd H y n := fun i y hy => by
      match i, hy with
      | 0, hy => cases hy; exact ⟨_, h1⟩
      | 1, hy => cases hy; exact ⟨_, h2⟩
      | 2, hy => cases hy; exact ⟨_, h3⟩
    refine ⟨t, rfl, ⟨_, .inl (.inl upd_same)⟩, for_it walk_tup (fun i σ H' => (∃ u4, σ = [some (.ref x), some v1, some v2, some v3, u4]) ∧ Same (upd H t (.tup [v1, v2, v3])) H' ∧ ∀ (j : Nat) (z : V), j < i → [v1, v2, v3][j]? = some z → isCount z = true)
      ⟨⟨_, rfl⟩, Same.refl _, fun j z hj => absurd hj (Nat.not_lt_zero _)⟩ (fun i σ H' _ e => .inl (.inl (e.2.1 _ _ upd_same))) ?_ ?_⟩
    · rintro i y σ H' H'' hi ⟨⟨u4, rfl⟩, s3, ok⟩ ⟨rfl, hy⟩
      obtain ⟨n, ky⟩ := kd i y hy
      refine ⟨y, rfl, y, n, rfl, (ky.same s1).same s3, _, rfl, ?_⟩
      cases hb : isCount y with
      | false =>
        refine iteT ⟨y, rfl, (show 1 ≤ 1000 by decide), raise_ok eB (Bad.imp ?_ (s1.trans s3))⟩
        match i, hy, ok with
        | 0, hy, ok => cases hy; exact b1 hb
        | 1, hy, ok => cases hy; exact b2 (ok 0 _ (by decide) rfl) hb
        | 2, hy, ok => cases hy; exact b3 (ok 0 _ (by decide) rfl) (ok 1 _ (by decide) rfl) hb
      | true =>
        refine iteF ⟨⟨_, rfl⟩, s3, fun j z hj hz => ?_⟩
        rcases Nat.lt_succ_iff_lt_or_eq.mp hj with q | q
        · exact ok j z q hz
        · rw [q, hy] at hz
          cases hz
          exact hb
    · rintro σ H' ⟨⟨u4, rfl⟩, s3, ok⟩
      have s13 := s1.trans s3
      refine ⟨v1, rfl, _, rfl, x, C, dx, [], rfl, s13 _ _ hx, S.cl, S.n1, (by decide), v2, rfl, _, rfl, x, C, dx, _, rfl, upd_same, S.cl, S.n2, (show 1 < 1000 by decide),
        v3, rfl, _, rfl, x, C, dx, _, rfl, upd_same, S.cl, S.n3, (show 2 < 1000 by decide), ?_⟩
      refine k (ok 0 _ (show 0 < 3 by decide) rfl) (ok 1 _ (show 1 < 3 by decide) rfl) (ok 2 _ (show 2 < 3 by decide) rfl) _ (fun b u hb e => ?_) upd_same
      rw [upd_ne hb, upd_ne hb, upd_ne hb]
      exact s13 _ _ e
theorem scHdNumber : FnScope ["self"] ["self"] (defScope sHdNumber) := ⟨rfl, rfl, rfl, by decide +kernel, rfl, by decide +kernel, by decide +kernel⟩
theorem ok_hdNumber {f : Addr} {fd : FuncData} (F : Fun K "number" "Handle.number" sHdNumber f fd) : FnOk P w K mg base CX0 1 f fd ["self"] (spGet K "_number") := by
  refine F.ok scHdNumber (fun vs H Q E h => ?_) (fun cdv A outer s H vs Q E hr h => ?_)
  · obtain ⟨x, _, _, _, _, rfl, _⟩ := h
    rfl
  · obtain ⟨x, C, dx, fs, v, rfl, hx, cl, no, l, k⟩ := h
    exact ⟨_, pss_one (ps_ret (pe_fld (pv 0) (by rfl))), ⟨_, rfl, x, C, dx, fs, v, rfl, hx, cl, no, l, k⟩⟩
theorem scHdTurn : FnScope ["self"] ["self"] (defScope sHdTurn) := ⟨rfl, rfl, rfl, by decide +kernel, rfl, by decide +kernel, by decide +kernel⟩
theorem ok_hdTurn {f : Addr} {fd : FuncData} (F : Fun K "turn" "Handle.turn" sHdTurn f fd) : FnOk P w K mg base CX0 1 f fd ["self"] (spGet K "_turn") := by
  refine F.ok scHdTurn (fun vs H Q E h => ?_) (fun cdv A outer s H vs Q E hr h => ?_)
  · obtain ⟨x, _, _, _, _, rfl, _⟩ := h
    rfl
  · obtain ⟨x, C, dx, fs, v, rfl, hx, cl, no, l, k⟩ := h
    exact ⟨_, pss_one (ps_ret (pe_fld (pv 0) (by rfl))), ⟨_, rfl, x, C, dx, fs, v, rfl, hx, cl, no, l, k⟩⟩
theorem scHdEntry : FnScope ["self"] ["self"] (defScope sHdEntry) := ⟨rfl, rfl, rfl, by decide +kernel, rfl, by decide +kernel, by decide +kernel⟩
theorem ok_hdEntry {f : Addr} {fd : FuncData} (F : Fun K "entry" "Handle.entry" sHdEntry f fd) : FnOk P w K mg base CX0 1 f fd ["self"] (spGet K "_entry") := by
  refine F.ok scHdEntry (fun vs H Q E h => ?_) (fun cdv A outer s H vs Q E hr h => ?_)
  · obtain ⟨x, _, _, _, _, rfl, _⟩ := h
    rfl
  · obtain ⟨x, C, dx, fs, v, rfl, hx, cl, no, l, k⟩ := h
    exact ⟨_, pss_one (ps_ret (pe_fld (pv 0) (by rfl))), ⟨_, rfl, x, C, dx, fs, v, rfl, hx, cl, no, l, k⟩⟩
end
/-! ### indexes, bounds -/
abbrev sIndex : Stmt := top 3
abbrev sBetween : Stmt := top 4
def ltV (v : V) (m : Int) : Bool := match v with
  | .int i => decide (i < m)
  | _ => false
def inB (v : V) (lo hi : Int) : Bool := match v with
  | .int i => decide (lo ≤ i) && decide (i ≤ hi)
  | _ => false
def isIndex (v : V) (m : Int) : Bool := isCount v && ltV v m
def isBetween (v : V) (lo hi : Int) : Bool := isCount v && inB v lo hi
def spIndex : Sp := fun vs H Q _ => ∃ (v : V) (n : String) (m : Int), vs = [v, .int m] ∧ Kd H v n ∧ Q (.bl (isIndex v m)) H
def spBetween : Sp := fun vs H Q _ => ∃ (v : V) (n : String) (lo hi : Int), vs = [v, .int lo, .int hi] ∧ Kd H v n ∧ Q (.bl (isBetween v lo hi)) H
theorem count_int {v : V} (h : isCount v = true) : ∃ i : Int, v = .int i ∧ 0 ≤ i := by
  cases v <;> first | (cases h; done) | exact ⟨_, rfl, of_decide_eq_true h⟩
theorem between_int {v : V} {lo hi : Int} (h : isBetween v lo hi = true) : ∃ i : Int, v = .int i ∧ 0 ≤ i ∧ lo ≤ i ∧ i ≤ hi := by
  obtain ⟨h1, h2⟩ := Bool.and_eq_true_iff.mp h
  obtain ⟨i, rfl, h0⟩ := count_int h1
  obtain ⟨h3, h4⟩ := Bool.and_eq_true_iff.mp h2
  exact ⟨i, rfl, h0, of_decide_eq_true h3, of_decide_eq_true h4⟩
section
variable {P : Program} {w : World} {K : PySem.W.Frag} {mg : Str → Option Value} {base : Heap}
theorem scIndex : FnScope ["value", "many"] ["value", "many"] (defScope sIndex) := ⟨rfl, rfl, rfl, by decide +kernel, rfl, by decide +kernel, by decide +kernel⟩
theorem ok_index {f fC : Addr} {fd fdC : FuncData} (F : Fun K "is_index" "is_index" sIndex f fd) (FC : Fun K "is_count" "is_count" sCount fC fdC) (T : MTxt K mg) (bC : Binds K fdC ["value"] []) (gC : mg "is_count" = some (.ref fC)) :
    FnOk P w K mg base CX0 2 f fd ["value", "many"] spIndex := by
  have GC : FnOk P w K mg base CX0 1 fC fdC ["value"] spCount := ok_count FC T
  refine F.ok scIndex (fun vs H Q E h => ?_) (fun cdv A outer s H vs Q E hr h => ?_)
  · obtain ⟨v, n, m, rfl, _⟩ := h
    rfl
  · obtain ⟨v, n, m, rfl, hk, k⟩ := h
    refine ⟨_, pss_one (ps_ret (pe_and (pe_call GC hr rfl gC FC.kp bC .nil pass0 (pa_cons (pv 0) pa_nil)) (pe_one (pe_cmpR op_lt (pv 0) (pv 1) (nomark _))))), ?_⟩
    refine ⟨_, rfl, v, n, rfl, hk, _, rfl, ?_⟩
    cases e : isCount v with
    | false =>
      refine iteF ?_
      have k' := k
      rw [isIndex, e] at k'
      exact k'
    | true =>
      obtain ⟨i, rfl, _⟩ := count_int e
      have k' := k
      rw [isIndex, e] at k'
      exact iteT ⟨_, rfl, _, rfl, _, _, rfl, rfl, k'⟩
theorem scBetween : FnScope ["value", "least", "most"] ["value", "least", "most"] (defScope sBetween) := ⟨rfl, rfl, rfl, by decide +kernel, rfl, by decide +kernel, by decide +kernel⟩
theorem ok_between {f fC : Addr} {fd fdC : FuncData} (F : Fun K "is_between" "is_between" sBetween f fd) (FC : Fun K "is_count" "is_count" sCount fC fdC) (T : MTxt K mg) (bC : Binds K fdC ["value"] []) (gC : mg "is_count" = some (.ref fC)) :
    FnOk P w K mg base CX0 2 f fd ["value", "least", "most"] spBetween := by
  have GC : FnOk P w K mg base CX0 1 fC fdC ["value"] spCount := ok_count FC T
  refine F.ok scBetween (fun vs H Q E h => ?_) (fun cdv A outer s H vs Q E hr h => ?_)
  · obtain ⟨v, n, lo, hi, rfl, _⟩ := h
    rfl
  · obtain ⟨v, n, lo, hi, rfl, hk, k⟩ := h
    refine ⟨_, pss_one (ps_ret (pe_and (pe_call GC hr rfl gC FC.kp bC .nil pass0 (pa_cons (pv 0) pa_nil)) (pe_one (pe_chain op_le op_le (pv 1) (pv 0) (pv 2))))), ?_⟩
    refine ⟨_, rfl, v, n, rfl, hk, _, rfl, ?_⟩
    cases e : isCount v with
    | false =>
      refine iteF ?_
      have k' := k
      rw [isBetween, e] at k'
      exact k'
    | true =>
      obtain ⟨i, rfl, _⟩ := count_int e
      have k' := k
      rw [isBetween, e] at k'
      refine iteT ⟨_, rfl, _, rfl, _, _, rfl, rfl, _, rfl, ?_⟩
      cases e2 : decide (lo ≤ i) with
      | false =>
        refine iteF ?_
        have k2 : Q (.bl (decide (lo ≤ i) && decide (i ≤ hi))) H := k'
        rw [e2] at k2
        exact k2
      | true =>
        have k2 : Q (.bl (decide (lo ≤ i) && decide (i ≤ hi))) H := k'
        rw [e2] at k2
        exact iteT ⟨_, rfl, _, _, rfl, rfl, k2⟩
end
/-! ### tables -/
abbrev sTbInit : Stmt := inClass (top 15) 0
def booksL : List V := [.str "least", .str "any", .str "next", .str "last"]
def isBook : V → Bool
  | .str z => inV (.str z) booksL
  | _ => false
structure TbCls (K : PySem.W.Frag) (mg : Str → Option Value) (C : Addr) : Prop where
  cl : Cls K C
  n1 : NoAttr K C "_size"
  n2 : NoAttr K C "_book"
  n3 : NoAttr K C "_turns"
  n4 : NoAttr K C "_entries"
  n5 : NoAttr K C "_counts"
  n6 : NoAttr K C "_many_entries"
  n7 : NoAttr K C "_start"
  n8 : NoAttr K C "_freed"
  g : mg "Table" = some (.ref C)
/-- the constants and built-in names of the module -/
structure TbTxt (K : PySem.W.Frag) (mg : Str → Option Value) (aB : Addr) : Prop where
  books : mg "BOOKS" = some (.ref aB)
  booksT : ∀ H, SqT K H aB booksL
  str : mg "str" = none
  numbers : ∃ t, mg "MOST_NUMBERS" = some (.int 60 t)
  turns : ∃ t, mg "MOST_TURNS" = some (.int 4 t)
/-- the fields of a table -/
def tbF (v1 v2 v3 : V) (pe pc : Addr) (many start : Int) (pf : Addr) : List (Str × V) :=
  [("_size", v1), ("_book", v2), ("_turns", v3), ("_entries", .ref pe), ("_counts", .ref pc), ("_many_entries", .int many), ("_start", .int start), ("_freed", .ref pf)]
/-- a table is made, or the error of the first that is wrong -/
def spTable (C CN CB : Addr) : Sp := fun vs H Q E => ∃ (x dx : Addr) (v1 v2 v3 : V) (k1 k2 k3 : String), vs = [.ref x, v1, v2, v3] ∧ H x = some (.ins C dx []) ∧ Kd H v1 k1 ∧ Kd H v2 k2 ∧ Kd H v3 k3 ∧
  (isBetween v1 1 60 = false → Bad E H CN v1) ∧ (isBetween v1 1 60 = true → isBook v2 = false → Bad E H CB v2) ∧ (isBetween v1 1 60 = true → isBook v2 = true → isBetween v3 1 4 = false → Bad E H CN v3) ∧
  (isBetween v1 1 60 = true → isBook v2 = true → isBetween v3 1 4 = true → ∀ (H' : Hp) (n : Int) (pe pc pf : Addr), v1 = .int n → SameX x H H' → H' x = some (.ins C dx (tbF v1 v2 v3 pe pc 0 0 pf)) → H' pe = some (.lst (List.replicate n.toNat .non)) →
    H' pc = some (.lst (List.replicate n.toNat (.int 0))) → H' pf = some (.lst []) → H pe = none → H pc = none → H pf = none → pe ≠ pc → pe ≠ pf → pc ≠ pf → Q .non H')
theorem rep_one (v : V) (k : Nat) : (List.replicate k [v]).flatten = List.replicate k v := by
  induction k with
  | zero => rfl
  | succ k ih => rw [List.replicate_succ, List.flatten_cons, ih, List.replicate_succ]; rfl
theorem SameX.put {x : Addr} {H H' : Hp} (s : SameX x H H') (o : HO) : SameX x H (upd H' x o) := fun b u nb e => by
  rw [upd_ne nb]
  exact s b u nb e
theorem SameX.new {x a : Addr} {H H' : Hp} {o : HO} (s : SameX x H H') (h : H' a = none) : SameX x H (upd H' a o) := fun b u nb e => by
  rw [upd_ne (ne_of_none (s b u nb e) h)]
  exact s b u nb e
theorem SameX.none {x a : Addr} {H H' : Hp} {o : HO} (s : SameX x H H') (hx : H' x = some o) (h : H' a = none) : H a = none := by
  cases e : H a with
  | none => rfl
  | some u =>
    have n : a ≠ x := fun z => by rw [z, hx] at h; cases h
    rw [s a u n e] at h
    cases h
section
variable {P : Program} {w : World} {K : PySem.W.Frag} {mg : Str → Option Value} {base : Heap}
theorem scTb : FnScope ["self", "size", "book", "turns"] ["self", "size", "book", "turns"] (defScope sTbInit) := ⟨rfl, rfl, rfl, by decide +kernel, rfl, by decide +kernel, by decide +kernel⟩
theorem ok_table {f C CN CB aB fI fB : Addr} {fd fdI fdB : FuncData} (F : FunD K "__init__" "Table.__init__" (defArgs sTbInit) (defBody sTbInit) (defScope sTbInit) [] [("book", .str "least"), ("turns", .int 1)] f fd) (T : MTxt K mg) (S : TbCls K mg C) (U : TbTxt K mg aB)
    (eN : ErrC K mg "InvalidNumber" CN fI) (eK : ErrC K mg "InvalidBook" CB fI) (FI : Fun K "__init__" "HandleError.__init__" sHInit fI fdI) (bI : Binds K fdI ["self", "value"] [])
    (FB : Fun K "is_between" "is_between" sBetween fB fdB) (bB : Binds K fdB ["value", "least", "most"] []) (gB : mg "is_between" = some (.ref fB)) (GB : FnOk P w K mg base CX0 2 fB fdB ["value", "least", "most"] spBetween) :
    FnOk P w K mg base (L2.CX P w) 3 f fd ["self", "size", "book", "turns"] (spTable C CN CB) := by
  have GI : FnOk P w K mg base CX0 1 fI fdI ["self", "value"] (spInitE K "value") := ok_hinit FI
  refine F.ok scTb (fun vs H Q E h => ?_) (fun cdv A outer s H vs Q E hr h => ?_)
  · obtain ⟨x, dx, v1, v2, v3, k1, k2, k3, rfl, _⟩ := h
    rfl
  · obtain ⟨x, dx, v1, v2, v3, k1, k2, k3, rfl, hx, h1, h2, h3, b1, b2, b3, k⟩ := h
    obtain ⟨t60, m60⟩ := U.numbers
    obtain ⟨t4, m4⟩ := U.turns
    refine ⟨_, (pss_cons (ps_if (pt_not (pt_val (pe_call GB hr rfl gB FB.kp bB .nil pass0 (pa_cons (pv 1) (pa_cons pe_int (pa_cons (pe_glob (v := .int 60) rfl m60 ⟨_, rfl⟩) pa_nil))))))
        (pss_one (ps_raise rfl (takes_of rfl rfl rfl rfl) (pmk_oex eN.ox eN.i eN.t GI (hr.mono (by decide)) bI .nil pass0 rfl eN.g (pa_cons (pv 1) pa_nil)))) pss_nil)
      (pss_cons (ps_if (PW.pt (pw_or (pt_not (pt_val (pe_callB call_isi (by rfl) T.isi (by decide +kernel) (pa_cons (pv 2) (pa_cons (pe_bltn (v := .ty "str") (by rfl) U.str (by decide +kernel) rfl) pa_nil))))) (pw_or1 (pt_cmpR op_notIn_seq (pv 2) (pe_glob (v := .ref aB) rfl U.books rfl) (by rfl)))))
        (pss_one (ps_raise rfl (takes_of rfl rfl rfl rfl) (pmk_oex eK.ox eK.i eK.t GI (hr.mono (by decide)) bI .nil pass0 rfl eK.g (pa_cons (pv 2) pa_nil)))) pss_nil)
      (pss_cons (ps_if (pt_not (pt_val (pe_call GB hr rfl gB FB.kp bB .nil pass0 (pa_cons (pv 3) (pa_cons pe_int (pa_cons (pe_glob (v := .int 4) rfl m4 ⟨_, rfl⟩) pa_nil))))))
        (pss_one (ps_raise rfl (takes_of rfl rfl rfl rfl) (pmk_oex eN.ox eN.i eN.t GI (hr.mono (by decide)) bI .nil pass0 rfl eN.g (pa_cons (pv 3) pa_nil)))) pss_nil)
      (pss_cons (ps_fld (pv 0) (pv 1) (by rfl)) (pss_cons (ps_fld (pv 0) (pv 2) (by rfl)) (pss_cons (ps_fld (pv 0) (pv 3) (by rfl))
      (pss_cons (ps_fld (pv 0) (pe_op op_rep (pe_lst (pa_cons pe_non pa_nil)) (pv 1)) (by rfl)) (pss_cons (ps_fld (pv 0) (pe_op op_rep (pe_lst (pa_cons pe_int pa_nil)) (pv 1)) (by rfl))
      (pss_cons (ps_fld (pv 0) pe_int (by rfl)) (pss_cons (ps_fld (pv 0) pe_int (by rfl)) (pss_one (ps_fld (pv 0) (pe_lst pa_nil) (by rfl))))))))))))), ?_⟩
    refine ⟨v1, rfl, v1, _, _, _, rfl, h1, _, rfl, ?_⟩
    cases e1 : isBetween v1 1 60 with
    | false => exact iteT ⟨v1, rfl, (show 1 ≤ 1000 by decide), raise_ok eN (b1 e1)⟩
    | true =>
    refine iteF ?_
    obtain ⟨n, rfl, n0, n1, n60⟩ := between_int e1
    have two : isBook v2 = false → Bad E H CB v2 := b2 e1
    -- a later bound
    have rest : isBook v2 = true → ∃ z, v2 = .str z := fun q => by
      cases v2 <;> first | exact ⟨_, rfl⟩ | cases q
    have noBook : isBook v2 = false → Bad E H CB v2 := two
    cases hB : isBook v2 with
    | false =>
      have ty := h2.ty (K := K)
      have ra : ∀ a, H a = none → _ := raise_ok eK (noBook hB)
      cases h2 with
      | str z hz => 
        have hB' : inV (.str z) booksL = false := hB
        refine ⟨_, rfl, _, _, _, _, true, rfl, .ty _, ty, kit_ty (by decide +kernel), _, rfl, iteF ⟨_, rfl, aB, booksL, rfl, .inr (U.booksT H), rfl, rfl, _, rfl, ?_⟩⟩
        rw [hB']
        refine iteT ?_
        exact ⟨_, rfl, (show 1 ≤ 1000 by decide), ra⟩
      | _ => exact ⟨_, rfl, _, _, _, _, false, rfl, .ty _, ty, kit_ty (by decide +kernel), _, rfl, iteT (iteT ⟨_, rfl, (show 1 ≤ 1000 by decide), ra⟩)⟩
    | true =>
    obtain ⟨z, rfl⟩ := rest hB
    have hB' : inV (.str z) booksL = true := hB
    obtain rfl : k2 = "str" := by cases h2; rfl
    have ty := h2.ty (K := K)
    refine ⟨_, rfl, _, _, _, _, true, rfl, .ty _, ty, kit_ty (by decide +kernel), _, rfl, iteF ⟨_, rfl, aB, booksL, rfl, .inr (U.booksT H), rfl, rfl, _, rfl, ?_⟩⟩
    rw [hB']
    refine iteF ?_
    refine ⟨v3, rfl, v3, _, _, _, rfl, h3, _, rfl, ?_⟩
    cases e3 : isBetween v3 1 4 with
    | false => exact iteT ⟨v3, rfl, (show 1 ≤ 1000 by decide), raise_ok eN (b3 e1 hB e3)⟩
    | true =>
    refine iteF ?_
    obtain ⟨m, rfl, m0, m1, m4⟩ := between_int e3
    refine ⟨.int n, rfl, _, rfl, x, C, dx, [], rfl, hx, S.cl, S.n1, (by decide), .str z, rfl, _, rfl, x, C, dx, _, rfl, upd_same, S.cl, S.n2, (show 1 < 1000 by decide), .int m, rfl, _, rfl, x, C, dx, _, rfl, upd_same, S.cl, S.n3, (show 2 < 1000 by decide), ?_⟩
    have s3 : SameX x H (upd (upd (upd H x (.ins C dx (putF "_size" (.int n) []))) x (.ins C dx (putF "_book" (.str z) (putF "_size" (.int n) [])))) x (.ins C dx (putF "_turns" (.int m) (putF "_book" (.str z) (putF "_size" (.int n) []))))) := ((SameX.put (SameX.put (fun _ _ _ e => e) _) _).put _)
    have x3 : (upd (upd (upd H x (.ins C dx (putF "_size" (.int n) []))) x (.ins C dx (putF "_book" (.str z) (putF "_size" (.int n) [])))) x (.ins C dx (putF "_turns" (.int m) (putF "_book" (.str z) (putF "_size" (.int n) []))))) x = some (.ins C dx [("_size", .int n), ("_book", .str z), ("_turns", .int m)]) := upd_same
    generalize upd (upd (upd H x (.ins C dx (putF "_size" (.int n) []))) x (.ins C dx (putF "_book" (.str z) (putF "_size" (.int n) [])))) x (.ins C dx (putF "_turns" (.int m) (putF "_book" (.str z) (putF "_size" (.int n) [])))) = G3 at s3 x3 ⊢
    have rl : ∀ v : V, [v].length * n.toNat ≤ sizeLine := fun v => Nat.le_trans (show 1 * n.toNat ≤ 60 by omega) (by decide)
    have lo63 : -(2 ^ 63) ≤ n := by omega
    have hi63 : n < 2 ^ 63 := by omega
    refine ⟨(by show 1 ≤ sizeLine; decide), fun l hl => ⟨_, rfl, l, n, [.non], rfl, rfl, upd_same, lo63, hi63, rl _, fun p hp => ?_⟩⟩
    rw [rep_one]
    have s4 := s3.new (o := .lst [.non]) hl
    have x4 : (upd G3 l (.lst [.non])) x = _ := (upd_ne (ne_of_none x3 hl)).trans x3
    have hp0 := s4.none x4 hp
    have s5 := s4.new (o := .lst (List.replicate n.toNat .non)) hp
    have x5 : (upd (upd G3 l (.lst [.non])) p (.lst (List.replicate n.toNat .non))) x = _ := (upd_ne (ne_of_none x4 hp)).trans x4
    have p5 : (upd (upd G3 l (.lst [.non])) p (.lst (List.replicate n.toNat .non))) p = _ := upd_same
    have px : p ≠ x := fun q => by rw [q, x4] at hp; cases hp
    generalize upd (upd G3 l (.lst [.non])) p (.lst (List.replicate n.toNat .non)) = G5 at s5 x5 p5 ⊢
    clear s4 x4 hp hl l
    refine ⟨_, rfl, x, C, dx, _, rfl, x5, S.cl, S.n4, (show 3 < 1000 by decide), ?_⟩
    have s6 := s5.put (.ins C dx (putF "_entries" (.ref p) [("_size", .int n), ("_book", .str z), ("_turns", .int m)]))
    have x6 : (upd G5 x (.ins C dx (putF "_entries" (.ref p) [("_size", .int n), ("_book", .str z), ("_turns", .int m)]))) x = some (.ins C dx [("_size", .int n), ("_book", .str z), ("_turns", .int m), ("_entries", .ref p)]) := upd_same
    have p6 : (upd G5 x (.ins C dx (putF "_entries" (.ref p) [("_size", .int n), ("_book", .str z), ("_turns", .int m)]))) p = _ := (upd_ne px).trans p5
    generalize upd G5 x (.ins C dx (putF "_entries" (.ref p) [("_size", .int n), ("_book", .str z), ("_turns", .int m)])) = G6 at s6 x6 p6 ⊢
    clear s5 x5 p5
    refine ⟨(by show 1 ≤ sizeLine; decide), fun l hl => ⟨_, rfl, l, n, [.int 0], rfl, rfl, upd_same, lo63, hi63, rl _, fun c hc => ?_⟩⟩
    rw [rep_one]
    have s7 := s6.new (o := .lst [.int 0]) hl
    have x7 : (upd G6 l (.lst [.int 0])) x = _ := (upd_ne (ne_of_none x6 hl)).trans x6
    have p7 : (upd G6 l (.lst [.int 0])) p = _ := (upd_ne (ne_of_none p6 hl)).trans p6
    have hc0 := s7.none x7 hc
    have s8 := s7.new (o := .lst (List.replicate n.toNat (.int 0))) hc
    have x8 : (upd (upd G6 l (.lst [.int 0])) c (.lst (List.replicate n.toNat (.int 0)))) x = _ := (upd_ne (ne_of_none x7 hc)).trans x7
    have p8 : (upd (upd G6 l (.lst [.int 0])) c (.lst (List.replicate n.toNat (.int 0)))) p = _ := (upd_ne (ne_of_none p7 hc)).trans p7
    have c8 : (upd (upd G6 l (.lst [.int 0])) c (.lst (List.replicate n.toNat (.int 0)))) c = _ := upd_same
    have cx : c ≠ x := fun q => by rw [q, x7] at hc; cases hc
    have pcn : p ≠ c := ne_of_none p7 hc
    generalize upd (upd G6 l (.lst [.int 0])) c (.lst (List.replicate n.toNat (.int 0))) = G8 at s8 x8 p8 c8 ⊢
    clear s7 x7 p7 hc hl l s6 x6 p6
    refine ⟨_, rfl, x, C, dx, _, rfl, x8, S.cl, S.n5, (show 4 < 1000 by decide), _, rfl, x, C, dx, _, rfl, upd_same, S.cl, S.n6, (show 5 < 1000 by decide), _, rfl, x, C, dx, _, rfl, upd_same, S.cl, S.n7, (show 6 < 1000 by decide), ?_⟩
    have s9 : SameX x H (upd (upd (upd G8 x (.ins C dx (putF "_counts" (.ref c) [("_size", .int n), ("_book", .str z), ("_turns", .int m), ("_entries", .ref p)]))) x (.ins C dx (putF "_many_entries" (.int 0) (putF "_counts" (.ref c) [("_size", .int n), ("_book", .str z), ("_turns", .int m), ("_entries", .ref p)])))) x (.ins C dx (putF "_start" (.int 0) (putF "_many_entries" (.int 0) (putF "_counts" (.ref c) [("_size", .int n), ("_book", .str z), ("_turns", .int m), ("_entries", .ref p)]))))) := (((s8.put _).put _).put _)
    have x9 : (upd (upd (upd G8 x (.ins C dx (putF "_counts" (.ref c) [("_size", .int n), ("_book", .str z), ("_turns", .int m), ("_entries", .ref p)]))) x (.ins C dx (putF "_many_entries" (.int 0) (putF "_counts" (.ref c) [("_size", .int n), ("_book", .str z), ("_turns", .int m), ("_entries", .ref p)])))) x (.ins C dx (putF "_start" (.int 0) (putF "_many_entries" (.int 0) (putF "_counts" (.ref c) [("_size", .int n), ("_book", .str z), ("_turns", .int m), ("_entries", .ref p)]))))) x = some (.ins C dx [("_size", .int n), ("_book", .str z), ("_turns", .int m), ("_entries", .ref p), ("_counts", .ref c), ("_many_entries", .int 0), ("_start", .int 0)]) := upd_same
    have p9 : (upd (upd (upd G8 x (.ins C dx (putF "_counts" (.ref c) [("_size", .int n), ("_book", .str z), ("_turns", .int m), ("_entries", .ref p)]))) x (.ins C dx (putF "_many_entries" (.int 0) (putF "_counts" (.ref c) [("_size", .int n), ("_book", .str z), ("_turns", .int m), ("_entries", .ref p)])))) x (.ins C dx (putF "_start" (.int 0) (putF "_many_entries" (.int 0) (putF "_counts" (.ref c) [("_size", .int n), ("_book", .str z), ("_turns", .int m), ("_entries", .ref p)]))))) p = _ := (upd_ne px).trans ((upd_ne px).trans ((upd_ne px).trans p8))
    have c9 : (upd (upd (upd G8 x (.ins C dx (putF "_counts" (.ref c) [("_size", .int n), ("_book", .str z), ("_turns", .int m), ("_entries", .ref p)]))) x (.ins C dx (putF "_many_entries" (.int 0) (putF "_counts" (.ref c) [("_size", .int n), ("_book", .str z), ("_turns", .int m), ("_entries", .ref p)])))) x (.ins C dx (putF "_start" (.int 0) (putF "_many_entries" (.int 0) (putF "_counts" (.ref c) [("_size", .int n), ("_book", .str z), ("_turns", .int m), ("_entries", .ref p)]))))) c = _ := (upd_ne cx).trans ((upd_ne cx).trans ((upd_ne cx).trans c8))
    generalize upd (upd (upd G8 x (.ins C dx (putF "_counts" (.ref c) [("_size", .int n), ("_book", .str z), ("_turns", .int m), ("_entries", .ref p)]))) x (.ins C dx (putF "_many_entries" (.int 0) (putF "_counts" (.ref c) [("_size", .int n), ("_book", .str z), ("_turns", .int m), ("_entries", .ref p)])))) x (.ins C dx (putF "_start" (.int 0) (putF "_many_entries" (.int 0) (putF "_counts" (.ref c) [("_size", .int n), ("_book", .str z), ("_turns", .int m), ("_entries", .ref p)])))) = G9 at s9 x9 p9 c9 ⊢
    refine ⟨(by show 0 ≤ sizeLine; decide), fun q hq => ?_⟩
    have hq0 := s9.none x9 hq
    have qx : q ≠ x := fun e => by rw [e, x9] at hq; cases hq
    refine ⟨_, rfl, x, C, dx, _, rfl, (upd_ne qx.symm).trans x9, S.cl, S.n8, (show 7 < 1000 by decide), ?_⟩
    refine k e1 hB e3 _ n p c q rfl ((s9.new hq).put _) upd_same ?_ ?_ ?_ hp0 hc0 hq0 pcn (ne_of_none p9 hq) (ne_of_none c9 hq)
    · exact (upd_ne px).trans ((upd_ne (ne_of_none p9 hq)).trans p9)
    · exact (upd_ne cx).trans ((upd_ne (ne_of_none c9 hq)).trans c9)
    · exact (upd_ne qx).trans upd_same
end
/-! ### a table's state; what tells of it -/
abbrev sTbSize : Stmt := inClass (top 15) 1
abbrev sTbBook : Stmt := inClass (top 15) 2
abbrev sTbTurns : Stmt := inClass (top 15) 3
abbrev sTbFree : Stmt := inClass (top 15) 4
abbrev sTbTold : Stmt := inClass (top 15) 5
abbrev sTbItem : Stmt := inClass (top 15) 13
abbrev sTbLen : Stmt := inClass (top 15) 15
structure TAt (H : Hp) (C x dx pe pc pf : Addr) (n : Nat) (bk : Str) (tn : Int) (es : List V) (cs : List Int) (many start : Int) (fr : List Int) : Prop where
  ins : H x = some (.ins C dx (tbF (.int (n : Nat)) (.str bk) (.int tn) pe pc many start pf))
  ens : H pe = some (.lst es)
  cnt : H pc = some (.lst (cs.map V.int))
  fre : H pf = some (.lst (fr.map V.int))
  len : es.length = n
  lec : cs.length = n
  lim : n ≤ 60
  q1 : pe ≠ pc
  q2 : pe ≠ pf
  q3 : pc ≠ pf
section
variable {H H' : Hp} {C x dx pe pc pf : Addr} {n : Nat} {bk : Str} {tn : Int} {es : List V} {cs : List Int} {many start : Int} {fr : List Int}
theorem TAt.same (h : TAt H C x dx pe pc pf n bk tn es cs many start fr) (s : Same H H') : TAt H' C x dx pe pc pf n bk tn es cs many start fr := ⟨s _ _ h.ins, s _ _ h.ens, s _ _ h.cnt, s _ _ h.fre, h.len, h.lec, h.lim, h.q1, h.q2, h.q3⟩
theorem _root_.L2.Same.put {D : Addr} {o : HO} (s : Same H H') (h : H D = none) : Same H (upd H' D o) := fun b u e => by
  rw [upd_ne (ne_of_none e h)]
  exact s b u e
end
def isSomeE (v : V) : Bool := !decide (v = V.non)
def countE (es : List V) : Nat := (es.filter isSomeE).length
def freesN (es : List V) (k : Nat) : List Nat := (List.range k).filter fun i => decide (es[i]? = some V.non)
/-- the numbers that are free -/
def frees (es : List V) : List Int := (freesN es es.length).map fun (i : Nat) => (i : Int)
/-- the one of the free numbers that the book tells -/
def toldN (bk : Str) (start : Int) (fr ns : List Int) : Int :=
  if bk = "next" then ((ns.filter fun m => decide (start ≤ m)) ++ ns).headD 0 else if bk = "last" then (fr.getLast?).getD (ns.headD 0) else ns.headD 0
def freeL (bk : Str) (start : Int) (fr : List Int) (es : List V) : List Int := if bk = "any" then frees es else if frees es = [] then [] else [toldN bk start fr (frees es)]
def spTLen (C : Addr) : Sp := fun vs H Q _ => ∃ (x dx pe pc pf : Addr) (n : Nat) (bk : Str) (tn : Int) (es : List V) (cs : List Int) (many start : Int) (fr : List Int), vs = [.ref x] ∧ TAt H C x dx pe pc pf n bk tn es cs many start fr ∧ ∀ H', Same H H' → Q (.int (countE es : Nat)) H'
def spTItem (C CN : Addr) : Sp := fun vs H Q E => ∃ (x dx pe pc pf : Addr) (n : Nat) (bk : Str) (tn : Int) (es : List V) (cs : List Int) (many start : Int) (fr : List Int) (v : V) (kn : String), vs = [.ref x, v] ∧ TAt H C x dx pe pc pf n bk tn es cs many start fr ∧ Kd H v kn ∧
  (isIndex v n = false → Bad E H CN v) ∧ ∀ (i : Nat) (u : V), v = .int (i : Nat) → es[i]? = some u → Q u H
def spTold (C : Addr) : Sp := fun vs H Q _ => ∃ (x dx pe pc pf pn : Addr) (n : Nat) (bk : Str) (tn : Int) (es : List V) (cs : List Int) (many start : Int) (fr ns : List Int), vs = [.ref x, .ref pn] ∧ TAt H C x dx pe pc pf n bk tn es cs many start fr ∧ H pn = some (.lst (ns.map V.int)) ∧ ns ≠ [] ∧ ns.length ≤ 60 ∧
  ∀ H', Same H H' → Q (.int (toldN bk start fr ns)) H'
def spTFree (C : Addr) : Sp := fun vs H Q _ => ∃ (x dx pe pc pf : Addr) (n : Nat) (bk : Str) (tn : Int) (es : List V) (cs : List Int) (many start : Int) (fr : List Int), vs = [.ref x] ∧ TAt H C x dx pe pc pf n bk tn es cs many start fr ∧
  ∀ H' t, Same H H' → H' t = some (.tup ((freeL bk start fr es).map V.int)) → Q (.ref t) H'
structure TbTxt2 (mg : Str → Option Value) : Prop where
  len : mg "len" = none
  tuple : mg "tuple" = none
  enumerate : mg "enumerate" = none
section
variable {P : Program} {w : World} {K : PySem.W.Frag} {mg : Str → Option Value} {base : Heap}
theorem scTbLen : FnScope ["self", "entry"] ["self"] (defScope sTbLen) := ⟨rfl, rfl, rfl, by decide +kernel, rfl, by decide +kernel, by decide +kernel⟩
theorem ok_tbLen {f C : Addr} {fd : FuncData} (F : Fun K "__len__" "Table.__len__" sTbLen f fd) (S : TbCls K mg C) (U : TbTxt2 mg) : FnOk P w K mg base CX0 1 f fd ["self"] (spTLen C) := by
  refine F.ok scTbLen (fun vs H Q E h => ?_) (fun cdv A outer s H vs Q E hr h => ?_)
  · obtain ⟨x, _, _, _, _, _, _, _, _, _, _, _, _, rfl, _⟩ := h
    rfl
  · obtain ⟨x, dx, pe, pc, pf, n, bk, tn, es, cs, many, start, fr, rfl, t, k⟩ := h
    refine ⟨_, pss_one (ps_ret (pe_callB call_len_seq (by rfl) U.len (by decide +kernel) (pa_cons (pe_lc (own := [("entry", 1)]) (g := gName 1) (by rfl) scTbLen.nd (pi_list (pe_fld (pv 0) (by rfl))) (blkOk_by (own := [("entry", 1)]) (N := ["self", "entry"]) (sc := defScope sTbLen) (by decide +kernel))
      (fun _ _ _ _ _ => pg_name (i := 1) scTbLen.nd rfl (Or.inl rfl)) (fun _ _ _ _ _ => pts_one (pt_cmp (pc_notN (pv 1)))) (fun _ _ _ _ _ => pv 1)) pa_nil))), ?_⟩
    refine ⟨_, rfl, x, C, dx, _, .ref pe, rfl, t.ins, S.cl, S.n4, rfl, pe, rfl, ⟨_, .inl (.inl t.ens)⟩, fun D hD => lc_list (xs := es) (fun i H' => Same H H' ∧ H' D = some (.lst ((es.take i).filter isSomeE))) ⟨Same.new hD, upd_same⟩ (fun i H' _ e => .inl (.inl (e.1 _ _ t.ens))) ?_ ?_⟩
    · rintro i z H' hz ⟨s1, e1⟩
      have hi : i < es.length := (List.getElem?_eq_some_iff.mp hz).1
      have ht : es.take (i + 1) = es.take i ++ [z] := by rw [List.take_succ, hz]; rfl
      refine ⟨rfl, _, rfl, _, rfl, ?_⟩
      cases q : decide (z = V.non) with
      | true =>
        refine iteF ⟨s1, ?_⟩
        rw [ht, List.filter_append, e1]
        have : [z].filter isSomeE = [] := by simp [isSomeE, q]
        rw [this, List.append_nil]
      | false =>
        refine iteT ⟨_, rfl, _, e1, ?_, s1.put hD, ?_⟩
        · refine Nat.lt_of_le_of_lt (List.length_filter_le _ _) ?_
          rw [List.length_take]
          have l1 := t.len
          have l2 := t.lim
          exact Nat.lt_of_le_of_lt (Nat.le_trans (Nat.min_le_left ..) (show i ≤ 60 by omega)) (by decide)
        · rw [upd_same, ht, List.filter_append]
          have : [z].filter isSomeE = [z] := by simp [isSomeE, q]
          rw [this]
    · rintro H' ⟨s1, e1⟩
      rw [List.take_length] at e1
      exact ⟨D, _, rfl, .inl (.inl (.inl e1)), k H' s1⟩
end
section
variable {P : Program} {w : World} {K : PySem.W.Frag} {mg : Str → Option Value} {base : Heap}
theorem _root_.L2.Same.push {H H' : Hp} {a : Addr} {o : HO} (s : Same H H') (h : H' a = none) : Same H (upd H' a o) := s.trans (Same.new h)
theorem dec_str {a b : Str} (h : a ≠ b) : decide (V.str a = V.str b) = false := decide_eq_false fun q => h (by injection q)
theorem dec_str' {a b : Str} (h : a = b) : decide (V.str a = V.str b) = true := decide_eq_true (by rw [h])
theorem scTbTold : FnScope ["self", "numbers", "behind", "number"] ["self", "numbers"] (defScope sTbTold) := ⟨rfl, rfl, rfl, by decide +kernel, rfl, by decide +kernel, by decide +kernel⟩
theorem ok_tbTold {f C : Addr} {fd : FuncData} (F : Fun K "_told" "Table._told" sTbTold f fd) (S : TbCls K mg C) : FnOk P w K mg base CX0 1 f fd ["self", "numbers"] (spTold C) := by
  refine F.ok scTbTold (fun vs H Q E h => ?_) (fun cdv A outer s H vs Q E hr h => ?_)
  · obtain ⟨x, _, _, _, _, _, _, _, _, _, _, _, _, _, _, rfl, _⟩ := h
    rfl
  · obtain ⟨x, dx, pe, pc, pf, pn, n, bk, tn, es, cs, many, start, fr, ns, rfl, t, hpn, hne, h60, k⟩ := h
    refine ⟨_, pss_cons (ps_if (pt_cmpR op_eq (pe_fld (pv 0) (by rfl)) pe_str (nomark _))
       (pss_cons (ps_setLc (i := 2) (own := [("number", 3)]) (g := gName 3) (tt := tTest (tOp (rI0 fun i j => .bl (decide (j ≤ i))) (tVar 3) (tFld K (tVar 0) "_start"))) (by rfl) scTbTold.nd rfl rfl (sw_true rfl rfl rfl (by decide +kernel)) (pi_list (pv 1)) (blkOk_by (own := [("number", 3)]) (N := ["self", "numbers", "behind", "number"]) (sc := defScope sTbTold) (by decide +kernel))
          (fun _ _ _ _ _ => pg_name (i := 3) scTbTold.nd rfl (Or.inl rfl)) (fun _ _ _ _ _ => pts_one (pt_cmpR op_ge (pv 3) (pe_fld (pv 0) (by rfl)) (by rfl))) (fun _ _ _ _ _ => pv 3))
        (pss_one (ps_ret (pe_ifExp (pt_truth (pv 2) (fun _ => rfl)) (pe_ix ix_list (pv 2) pe_int (fun _ _ => rfl)) (pe_ix ix_list (pv 1) pe_int (fun _ _ => rfl))))))
       pss_nil)
     (pss_cons (ps_if (PW.pt (pw_and (pt_cmpR op_eq (pe_fld (pv 0) (by rfl)) pe_str (nomark _)) (pw_and1 (pt_truth (pe_fld (pv 0) (by rfl)) (fun _ => rfl)))))
        (pss_one (ps_ret (pe_ix ix_list (pe_fld (pv 0) (by rfl)) (pe_un un_neg pe_int) (fun _ _ => rfl)))) pss_nil)
     (pss_one (ps_ret (pe_ix ix_list (pv 1) pe_int (fun _ _ => rfl))))), ?_⟩
    obtain ⟨m0, r0, rfl⟩ : ∃ m0 r0, ns = m0 :: r0 := by
      cases ns with
      | nil => exact absurd rfl hne
      | cons a b => exact ⟨a, b, rfl⟩
    have sn : SqL K H pn ((m0 :: r0).map V.int) := .inl (.inl hpn)
    refine ⟨_, rfl, x, C, dx, _, .str bk, rfl, t.ins, S.cl, S.n2, rfl, rfl, _, rfl, ?_⟩
    by_cases hN : bk = "next"
    · rw [dec_str' hN]
      refine iteT ?_
      refine ⟨_, rfl, pn, rfl, ⟨_, sn⟩, fun D hD => lc_list (xs := (m0 :: r0).map V.int) (fun i H' => Same H H' ∧ H' D = some (.lst ((((m0 :: r0).take i).filter fun m => decide (start ≤ m)).map V.int))) ⟨Same.new hD, upd_same⟩ (fun i H' _ e => e.1.seq sn) ?_ ?_⟩
      · rintro i z H' hz ⟨s1, e1⟩
        rw [List.getElem?_map] at hz
        obtain ⟨m, hm, rfl⟩ := Option.map_eq_some_iff.mp hz
        have hi : i < (m0 :: r0).length := (List.getElem?_eq_some_iff.mp hm).1
        have ht : (m0 :: r0).take (i + 1) = (m0 :: r0).take i ++ [m] := by rw [List.take_succ, hm]; rfl
        refine ⟨rfl, _, rfl, _, rfl, x, C, dx, _, .int start, rfl, s1 _ _ t.ins, S.cl, S.n7, rfl, _, _, rfl, rfl, _, rfl, ?_⟩
        cases q : decide (start ≤ m) with
        | false =>
          refine iteF ⟨s1, ?_⟩
          have : [m].filter (fun m => decide (start ≤ m)) = [] := by simp [q]
          rw [ht, List.filter_append, this, List.append_nil, e1]
        | true =>
          have : [m].filter (fun m => decide (start ≤ m)) = [m] := by simp [q]
          refine iteT ⟨_, rfl, _, e1, ?_, s1.put hD, ?_⟩
          · rw [List.length_map]
            refine Nat.lt_of_le_of_lt (List.length_filter_le _ _) ?_
            rw [List.length_take]
            exact Nat.lt_of_le_of_lt (Nat.le_trans (Nat.min_le_right ..) h60) (by decide)
          · rw [upd_same, ht, List.filter_append, this, List.map_append]
            rfl
      · rintro H' ⟨s1, e1⟩
        rw [List.length_map, List.take_length] at e1
        have k' := k H' s1
        rw [toldN, if_pos hN] at k'
        cases hf : (m0 :: r0).filter fun m => decide (start ≤ m) with
        | nil =>
          rw [hf] at e1 k'
          refine ⟨_, rfl, false, .inl ⟨_, .inl (.inl e1), rfl⟩, iteF ⟨_, rfl, pn, _, 0, _, rfl, rfl, s1.seq sn, atI_nat (j := 0) rfl, k'⟩⟩
        | cons a b =>
          rw [hf] at e1 k'
          refine ⟨_, rfl, true, .inl ⟨_, .inl (.inl e1), rfl⟩, iteT ⟨_, rfl, D, _, 0, _, rfl, rfl, .inl (.inl e1), atI_nat (j := 0) rfl, k'⟩⟩
    · rw [dec_str hN]
      refine iteF ?_
      have k' := k H (Same.refl H)
      rw [toldN, if_neg hN] at k'
      refine ⟨_, rfl, x, C, dx, _, .str bk, rfl, t.ins, S.cl, S.n2, rfl, rfl, _, rfl, ?_⟩
      by_cases hL : bk = "last"
      · rw [dec_str' hL]
        rw [if_pos hL] at k'
        refine iteT ?_
        rcases List.eq_nil_or_concat fr with rfl | ⟨fi, m, rfl⟩
        · exact ⟨_, rfl, x, C, dx, _, .ref pf, rfl, t.ins, S.cl, S.n8, rfl, false, .inl ⟨_, .inl (.inl t.fre), rfl⟩, iteF ⟨_, rfl, pn, _, 0, _, rfl, rfl, sn, atI_nat (j := 0) rfl, k'⟩⟩
        · have ef : H pf = some (.lst (fi.map V.int ++ [.int m])) := by
            have := t.fre
            rw [List.concat_eq_append, List.map_append] at this
            exact this
          rw [List.concat_eq_append, List.getLast?_concat] at k'
          refine ⟨_, rfl, x, C, dx, _, .ref pf, rfl, t.ins, S.cl, S.n8, rfl, true, .inl ⟨_, .inl (.inl ef), ?_⟩, iteT ⟨_, rfl, x, C, dx, _, .ref pf, rfl, t.ins, S.cl, S.n8, rfl, _, rfl, pf, _, _, _, rfl, rfl, .inl (.inl ef), atI_last _ _, k'⟩⟩
          cases fi <;> rfl
      · rw [dec_str hL]
        rw [if_neg hL] at k'
        exact iteF (iteF ⟨_, rfl, pn, _, 0, _, rfl, rfl, sn, atI_nat (j := 0) rfl, k'⟩)
theorem freesN_succ (es : List V) (k : Nat) : freesN es (k + 1) = freesN es k ++ (if es[k]? = some V.non then [k] else []) := by
  unfold freesN
  rw [List.range_succ, List.filter_append]
  congr 1
  by_cases h : es[k]? = some V.non
  · rw [if_pos h]; simp [h]
  · rw [if_neg h]; simp [h]
theorem freesN_le (es : List V) (k : Nat) : (freesN es k).length ≤ k := by
  refine Nat.le_trans (List.length_filter_le _ _) ?_
  rw [List.length_range]
  exact Nat.le_refl _
theorem scTbFree : FnScope ["self", "numbers", "number", "entry"] ["self"] (defScope sTbFree) := ⟨rfl, rfl, rfl, by decide +kernel, rfl, by decide +kernel, by decide +kernel⟩
theorem ok_tbFree {f C fT : Addr} {fd fdT : FuncData} (F : Fun K "free" "Table.free" sTbFree f fd) (S : TbCls K mg C) (U : TbTxt2 mg)
    (M : Meth K C "_told" fT) (FT : Fun K "_told" "Table._told" sTbTold fT fdT) (bT : Binds K fdT ["self", "numbers"] []) : FnOk P w K mg base CX0 2 f fd ["self"] (spTFree C) := by
  have GT : FnOk P w K mg base CX0 1 fT fdT ["self", "numbers"] (spTold C) := ok_tbTold FT S
  refine F.ok scTbFree (fun vs H Q E h => ?_) (fun cdv A outer s H vs Q E hr h => ?_)
  · obtain ⟨x, _, _, _, _, _, _, _, _, _, _, _, _, rfl, _⟩ := h
    rfl
  · obtain ⟨x, dx, pe, pc, pf, n, bk, tn, es, cs, many, start, fr, rfl, t, k⟩ := h
    refine ⟨_, pss_cons (ps_setLc (i := 1) (own := [("number", 2), ("entry", 3)]) (g := gTup K 2 (gCons (gName 2) (gCons (gName 3) gNil))) (by rfl) scTbFree.nd rfl rfl (sw_true rfl rfl rfl (by decide +kernel)) (pi_enum (by rfl) U.enumerate (pa_cons (pe_fld (pv 0) (by rfl)) pa_nil)) (blkOk_by (own := [("number", 2), ("entry", 3)]) (N := ["self", "numbers", "number", "entry"]) (sc := defScope sTbFree) (by decide +kernel))
          (fun _ _ _ _ _ => pg_tup (by rfl) (pgs_cons (pg_name (i := 2) scTbFree.nd rfl (.inl rfl)) (pgs_cons (pg_name (i := 3) scTbFree.nd rfl (.inl rfl)) pgs_nil))) (fun _ _ _ _ _ => pts_one (pt_cmp (pc_isN (pv 3)))) (fun _ _ _ _ _ => pv 2))
      (pss_cons (ps_if (PW.pt (pw_or (pt_cmpR op_eq (pe_fld (pv 0) (by rfl)) pe_str (nomark _)) (pw_or1 (pt_not (pt_truth (pv 1) (fun _ => rfl))))))
        (pss_one (ps_ret (pe_callTy call_tuple_of (by rfl) U.tuple (by decide +kernel) (pa_cons (pv 1) pa_nil)))) pss_nil)
      (pss_one (ps_ret (pe_tup (pa_cons (pe_meth (pv 0) S.cl M GT hr bT .nil pass0 (pa_cons (pv 1) pa_nil)) pa_nil))))), ?_⟩
    refine ⟨_, rfl, x, C, dx, _, .ref pe, rfl, t.ins, S.cl, S.n4, rfl, pe, es, rfl, .inl (.inl t.ens), fun D hD => lc_it walk_enum (fun i H' => Same H H' ∧ H' D = some (.lst ((freesN es i).map fun (m : Nat) => V.int m))) ⟨Same.new hD, upd_same⟩ (fun i H' _ e => .inl (.inl (e.1 _ _ t.ens))) ?_ ?_⟩
    · rintro i _ H' _ hi ⟨s1, e1⟩ ⟨T, a, z, rfl, hT, rfl, ea, ez⟩
      cases ea
      replace ez : es[i]? = some z := ez
      have s2 := s1.push (o := .tup [.int (i : Nat), z]) hT
      have e2 := (Same.new (o := .tup [.int (i : Nat), z]) hT) _ _ e1
      refine ⟨T, _, rfl, .inl (.inl upd_same), rfl, _, _, rfl, _, _, rfl, rfl, rfl, _, rfl, _, rfl, ?_⟩
      cases q : decide (z = V.non) with
      | false =>
        refine iteF ⟨s2, ?_⟩
        have hq : ¬ es[i]? = some V.non := fun q2 => by
          rw [ez] at q2
          injection q2 with q2
          exact of_decide_eq_false q q2
        rw [freesN_succ, if_neg hq, List.append_nil]
        exact e2
      | true =>
        have hq : es[i]? = some V.non := by rw [ez, of_decide_eq_true q]
        refine iteT ⟨_, rfl, _, e2, ?_, s2.put hD, ?_⟩
        · rw [List.length_map]
          have l1 := t.len
          have l2 := t.lim
          have l3 := freesN_le es i
          exact Nat.lt_of_le_of_lt (show (freesN es i).length ≤ 60 by omega) (by decide)
        · rw [upd_same, freesN_succ, if_pos hq, List.map_append]
          rfl
    · rintro H1 ⟨s1, e1⟩
      have e1 : H1 D = some (.lst ((frees es).map V.int)) := by
        rw [e1, frees, List.map_map]
        rfl
      have l60 : (frees es).length ≤ 60 := by
        rw [frees, List.length_map]
        exact Nat.le_trans (freesN_le _ _) (by rw [t.len]; exact t.lim)
      have t1 := t.same s1
      refine ⟨_, rfl, x, C, dx, _, .str bk, rfl, t1.ins, S.cl, S.n2, rfl, rfl, _, rfl, ?_⟩
      by_cases hA : bk = "any"
      · rw [dec_str' hA]
        have k' := k
        rw [freeL, if_pos hA] at k'
        exact iteT (iteT ⟨_, rfl, D, _, rfl, .inl ⟨.inl (.inl e1), fun q hq => k' _ q (s1.push hq) upd_same⟩⟩)
      · rw [dec_str hA]
        have k' := k
        rw [freeL, if_neg hA] at k'
        refine iteF ?_
        cases hf : frees es with
        | nil =>
          rw [hf] at e1 k'
          rw [if_pos rfl] at k'
          exact ⟨_, rfl, false, .inl ⟨_, .inl (.inl e1), rfl⟩, iteT ⟨_, rfl, D, _, rfl, .inl ⟨.inl (.inl e1), fun q hq => k' _ q (s1.push hq) upd_same⟩⟩⟩
        | cons a b =>
          rw [hf] at e1 k' l60
          rw [if_neg (by simp)] at k'
          refine ⟨_, rfl, true, .inl ⟨_, .inl (.inl e1), rfl⟩, iteF ?_⟩
          refine ⟨_, rfl, x, dx, _, rfl, t1.ins, rfl, _, rfl, x, dx, pe, pc, pf, D, n, bk, tn, es, cs, many, start, fr, a :: b, rfl, t1, e1, by simp, l60, fun H2 s2 => ?_⟩
          exact ⟨(by show 1 ≤ sizeLine; decide), fun q hq => k' _ q ((s1.trans s2).push hq) upd_same⟩
end
/-! ### what stays; bad numbers -/
/-- all but the pool and the tables of code is as it was -/
def Mv (p q : Addr) (H H' : Hp) : Prop := ∀ b o, b ≠ p → b ≠ q → (∀ ps, o ≠ .tbl ps) → H b = some o → H' b = some o
theorem Mv.refl (p q : Addr) (H : Hp) : Mv p q H H := fun _ _ _ _ _ h => h
theorem Mv.trans {p q : Addr} {H H1 H2 : Hp} (a : Mv p q H H1) (b : Mv p q H1 H2) : Mv p q H H2 := fun c o n1 n2 n3 h => b c o n1 n2 n3 (a c o n1 n2 n3 h)
theorem Mv.same {p q : Addr} {H H1 : Hp} (a : Same H H1) : Mv p q H H1 := fun c o _ _ _ h => a c o h
theorem Mv.but {p q : Addr} {H H1 : Hp} (a : But p q H H1) : Mv p q H H1 := fun c o n1 n2 _ h => a c o n1 n2 h
theorem Mv.ext {p q : Addr} {H H1 : Hp} (a : LamX.ExtN H H1) : Mv p q H H1 := fun c o _ _ n3 h => a c o h n3
theorem PoolAt.ext {p q : Addr} {H H' : Hp} (h : PoolAt H p q) (a : LamX.ExtN H H') : PoolAt H' p q := by
  obtain ⟨ns, i, x, z, b, h1, h2, h3⟩ := h
  exact ⟨ns, i, x, z, b, a _ _ h1 (fun _ e => by cases e), a _ _ h2 (fun _ e => by cases e), h3⟩
theorem tabs_but {T : List (Addr × Str)} {p q : Addr} {H H' : Hp} (hP : PoolAt H p q) (t : LamX.Tabs T H) (b : But p q H H') : LamX.Tabs T H' := by
  obtain ⟨ns, i, x, z, y, h1, h2, _⟩ := hP
  intro r hr
  obtain ⟨ps, e1, e2, e3⟩ := t r hr
  have far : ∀ c o, H c = some o → (∀ xs, o ≠ .lst xs) → H' c = some o := fun c o e n => b c o (fun q => n _ (by rw [q, h1] at e; exact (Option.some.inj e).symm)) (fun q => n _ (by rw [q, h2] at e; exact (Option.some.inj e).symm)) e
  refine ⟨ps, far _ _ e1 (fun _ e => by cases e), e2, fun pos cv hc => ?_⟩
  obtain ⟨c, e4, e5⟩ := e3 pos cv hc
  exact ⟨c, e4, far _ _ e5 (fun _ e => by unfold LamX.CodeO at e; cases e)⟩
/-- an object beside the pool -/
structure Sf (p q : Addr) (H : Hp) (a : Addr) (o : HO) : Prop where
  e : H a = some o
  np : a ≠ p
  nq : a ≠ q
theorem Sf.same {p q : Addr} {H H' : Hp} {a : Addr} {o : HO} (h : Sf p q H a o) (s : Same H H') : Sf p q H' a o := ⟨s _ _ h.e, h.np, h.nq⟩
theorem Sf.mv {p q : Addr} {H H' : Hp} {a : Addr} {o : HO} (h : Sf p q H a o) (b : Mv p q H H') (n : ∀ ps, o ≠ .tbl ps := by intro _ z; cases z) : Sf p q H' a o := ⟨b _ _ h.np h.nq n h.e, h.np, h.nq⟩
theorem Sf.but {p q : Addr} {H H' : Hp} {a : Addr} {o : HO} (h : Sf p q H a o) (b : But p q H H') : Sf p q H' a o := ⟨b _ _ h.np h.nq h.e, h.np, h.nq⟩
theorem Sf.new {p q : Addr} {H : Hp} {a : Addr} {o : HO} (hP : PoolAt H p q) (h : H a = none) : Sf p q (upd H a o) a o := by
  obtain ⟨ns, i, x, s, b, h1, h2, _⟩ := hP
  exact ⟨upd_same, fun z => ne_of_none h1 h z.symm, fun z => ne_of_none h2 h z.symm⟩
def badBig : Int := 0 - 10 ^ 30
inductive OddV (p q : Addr) (H : Hp) : V → PyData → Prop
  | neg : OddV p q H (.int (-1)) (.int (-1))
  | non : OddV p q H .non .none
  | bl (b : Bool) : OddV p q H (.bl b) (.bool b)
  | one : OddV p q H (.str "1") (.str "1")
  | tup {a : Addr} (h : Sf p q H a (.tup [.int 1])) : OddV p q H (.ref a) (.tuple [.int 1])
  | lst {a : Addr} (h : Sf p q H a (.lst [.int 1])) : OddV p q H (.ref a) (.list [.int 1])
  | dct {a : Addr} (h : Sf p q H a (.dK [])) : OddV p q H (.ref a) (.dict [])
  | big : OddV p q H (.int badBig) (.int badBig)
theorem OddV.mv {p q : Addr} {H H' : Hp} {v : V} {d : PyData} (h : OddV p q H v d) (b : Mv p q H H') : OddV p q H' v d := by
  cases h with
  | neg => exact .neg
  | non => exact .non
  | bl b => exact .bl b
  | one => exact .one
  | tup h => exact .tup (h.mv b)
  | lst h => exact .lst (h.mv b)
  | dct h => exact .dct (h.mv b)
  | big => exact .big
theorem OddV.kd {p q : Addr} {H : Hp} {v : V} {d : PyData} (h : OddV p q H v d) : ∃ n, Kd H v n := by
  cases h with
  | neg => exact ⟨_, .int _⟩
  | non => exact ⟨_, .non⟩
  | bl b => exact ⟨_, .bl b⟩
  | one => exact ⟨_, .str _ (by decide)⟩
  | tup h => exact ⟨_, .tup h.e⟩
  | lst h => exact ⟨_, .lst h.e⟩
  | dct h => exact ⟨_, .dK h.e⟩
  | big => exact ⟨_, .int _⟩
theorem OddV.cnt {p q : Addr} {H : Hp} {v : V} {d : PyData} (h : OddV p q H v d) : isCount v = false := by
  cases h <;> rfl
theorem OddV.rp {K : PySem.W.Frag} {p q : Addr} {H : Hp} {v : V} {d : PyData} (h : OddV p q H v d) : Rp K H v d := by
  cases h with
  | neg => exact .inl (.int _)
  | non => exact .inl .non
  | bl b => exact .inl (.bl b)
  | one => exact .inl (.str _)
  | tup h => exact .inl (.tup (.inl (.inl h.e)) (.cons (.int _) .nil))
  | lst h => exact .inl (.lst (.inl (.inl h.e)) (.cons (.int _) .nil))
  | dct h => exact .inr ⟨_, rfl, h.e, rfl⟩
  | big => exact .inl (.int _)
theorem OddV.ok {p q : Addr} {H : Hp} {v : V} {d : PyData} (h : OddV p q H v d) : okD d = true := by
  cases h with
  | bl b => cases b <;> decide +kernel
  | _ => decide +kernel
theorem okD_strOk {d : PyData} (h : okD d = true) : PyData.strOk d.shown = true := by
  unfold okD at h
  rw [Bool.and_eq_true] at h
  exact h.2
/-- ['word', repr(..)] as data -/
theorem shaped_two {x : String} {z : Str} (h : PyData.strOk z = true) : SeqAt.shaped (.list [.str (Str.ofString x), .str z]) = true := by
  have e : PyData.canLay0 (.list [.str (Str.ofString x), .str z]) = true := by
    show ((PyData.strOk (Str.ofString x)) && (PyData.strOk z && true)) = true
    rw [strOk_of, h]
    rfl
  unfold SeqAt.shaped
  rw [e]
  rfl
theorem eqv_two (x z : Str) : PyData.eqv (.list [.str x, .str z]) (.list [.str x, .str z]) = true := by
  show ((x == x) && ((z == z) && true)) = true
  simp
theorem dp_two {K : PySem.W.Frag} {H : Hp} {a : Addr} {x z : Str} (e : H a = some (.lst [.str x, .str z])) : Dp K H (.ref a) (.list [.str x, .str z]) := .lst (.inl (.inl e)) (.cons (.str _) (.cons (.str _) .nil))
/-! ### handles made -/
section
variable {K : PySem.W.Frag} {C CB : Addr} {H : Hp}
theorem same_made {x dx : Addr} (hx : H x = none) (hd : H dx = none) (ne : dx ≠ x) : Same H (upd (upd H dx (.own x)) x (.ins C dx [])) := fun b o e => by
  rw [upd_ne (ne_of_none e hx), upd_ne (ne_of_none e hd)]
  exact e
/-- three counts: a handle at a new address -/
theorem mk_ok {a b c : Int} {Q : Addr → Hp → Prop} {E : XK} (ha : 0 ≤ a) (hb : 0 ≤ b) (hc : 0 ≤ c) (k : ∀ H' x, Same H H' → H x = none → HAt H' C x a b c → Q x H') :
    ∀ x dx, H x = none → H dx = none → dx ≠ x → spHandle K C CB [.ref x, .int a, .int b, .int c] (upd (upd H dx (.own x)) x (.ins C dx [])) (fun v H3 => v = .non ∧ Q x H3) E := by
  intro x dx hx hd ne
  have e1 : isCount (.int a) = true := decide_eq_true ha
  have e2 : isCount (.int b) = true := decide_eq_true hb
  have e3 : isCount (.int c) = true := decide_eq_true hc
  refine ⟨x, dx, .int a, .int b, .int c, _, _, _, rfl, upd_same, .int a, .int b, .int c, fun q => ?_, fun _ q => ?_, fun _ _ q => ?_, fun _ _ _ H' s e => ⟨rfl, k H' x ?_ hx ⟨dx, e⟩⟩⟩
  · rw [e1] at q; cases q
  · rw [e2] at q; cases q
  · rw [e3] at q; cases q
  · intro b u q
    have n1 : b ≠ x := ne_of_none q hx
    exact s b u n1 (same_made hx hd ne b u q)
/-- the first, second, third is no count -/
theorem mk_bad1 {v1 v2 v3 : V} {k1 k2 k3 : String} {Q : Addr → VK} {E : XK} (h1 : Kd H v1 k1) (h2 : Kd H v2 k2) (h3 : Kd H v3 k3) (c1 : isCount v1 = false) (b : Bad E H CB v1) :
    ∀ x dx, H x = none → H dx = none → dx ≠ x → spHandle K C CB [.ref x, v1, v2, v3] (upd (upd H dx (.own x)) x (.ins C dx [])) (Q x) E := by
  intro x dx hx hd ne
  have s := same_made (C := C) hx hd ne
  refine ⟨x, dx, v1, v2, v3, _, _, _, rfl, upd_same, h1.same s, h2.same s, h3.same s, fun _ => b.imp s, fun q => ?_, fun q => ?_, fun q => ?_⟩ <;> (rw [c1] at q; cases q)
theorem mk_bad2 {v1 v2 v3 : V} {k1 k2 k3 : String} {Q : Addr → VK} {E : XK} (h1 : Kd H v1 k1) (h2 : Kd H v2 k2) (h3 : Kd H v3 k3) (c1 : isCount v1 = true) (c2 : isCount v2 = false) (b : Bad E H CB v2) :
    ∀ x dx, H x = none → H dx = none → dx ≠ x → spHandle K C CB [.ref x, v1, v2, v3] (upd (upd H dx (.own x)) x (.ins C dx [])) (Q x) E := by
  intro x dx hx hd ne
  have s := same_made (C := C) hx hd ne
  refine ⟨x, dx, v1, v2, v3, _, _, _, rfl, upd_same, h1.same s, h2.same s, h3.same s, fun q => ?_, fun _ _ => b.imp s, fun _ q => ?_, fun _ q => ?_⟩
  · rw [c1] at q; cases q
  · rw [c2] at q; cases q
  · rw [c2] at q; cases q
theorem mk_bad3 {v1 v2 v3 : V} {k1 k2 k3 : String} {Q : Addr → VK} {E : XK} (h1 : Kd H v1 k1) (h2 : Kd H v2 k2) (h3 : Kd H v3 k3) (c1 : isCount v1 = true) (c2 : isCount v2 = true) (c3 : isCount v3 = false) (b : Bad E H CB v3) :
    ∀ x dx, H x = none → H dx = none → dx ≠ x → spHandle K C CB [.ref x, v1, v2, v3] (upd (upd H dx (.own x)) x (.ins C dx [])) (Q x) E := by
  intro x dx hx hd ne
  have s := same_made (C := C) hx hd ne
  refine ⟨x, dx, v1, v2, v3, _, _, _, rfl, upd_same, h1.same s, h2.same s, h3.same s, fun q => ?_, fun _ q => ?_, fun _ _ _ => b.imp s, fun _ _ q => ?_⟩
  · rw [c1] at q; cases q
  · rw [c2] at q; cases q
  · rw [c3] at q; cases q
end
theorem passF {P : Program} {w : World} {X : Cx} : Passes (L2.CX P w) X (fun _ _ _ => False) := fun _ _ _ _ _ _ _ c => by
  obtain ⟨_, _, _, _, _, _, _, _, _, _, _, _, z⟩ := c
  exact z.elim
/-! ### a def whose code object is known -/
theorem fnG_okC {P : Program} {w : World} {K : PySem.W.Frag} {mg : Str → Option Value} {base : Heap} {k : Nat} {x qual : Str} {st : Stmt} {f : Addr} {oc : Value} {od an : Option Addr} {osl : Array (Option Value)} {kV doc pm cdv ct : Value} {N ps : List Str} {sp : Sp}
    (lk : K.lookup f = some ⟨oc, od, .func (PySem.W.fnOf x qual (defArgs st) (defBody st) (defScope st) .none kV doc pm an cdv ct), osl⟩) (hcd : PySem.W.codeIn K cdv qual = true) (S : FnScope N ps (defScope st))
    (len : ∀ vs H Q E, sp vs H Q E → vs.length = ps.length)
    (body : ∀ (A : Around) (outer : List Env) (s : Shared) (H : Hp) (vs : List V) (Q : VK) (E : XK), A.guards = some [] → Room k (A.deeper (PyProof.Rows.envOfC qual (defScope st) s.heap.objs.size f cdv)) → sp vs H Q E →
      ∃ t, PSs (cxOf CX0 P w K mg base N qual (defScope st) f cdv A outer s H E).nox (defBody st) t ∧ t { nx := fun _ H' => Q .non H', rt := Q } (start N vs) H) :
    FnG P w K mg base CX0 (k + 1) f (PySem.W.fnOf x qual (defArgs st) (defBody st) (defScope st) .none kV doc pm an cdv ct) ps sp := by
  constructor
  · exact len
  intro A outer s H args us vs Q E hg hr e0 hb r hsp
  have hl := len _ _ _ _ hsp
  have old : ∀ b o, base.get? b = some o → s.heap.get? b = some o := fun b o e => (e0.bs b o e).1
  have KX : K.In s.heap := e0.mod.kin.keeps old
  have kinds : ∀ y ∈ ps.zip us, (defScope st).names.lookup y.1 = some .local ∨
      ((defScope st).names.lookup y.1 = some .cell ∧ ((cellsFrom (s.heap.objs.size + 1) (defScope st).names []).lookup y.1).isSome = true) := by
    rintro ⟨n, v⟩ hy
    have q := S.par n (List.of_mem_zip hy).1
    refine q.imp id fun q => ⟨q, ?_⟩
    exact PySem.W.cellsFrom_some _ _ _ (.inl q)
  refine codeAny_call_function hr.depth (KX _ _ lk) rfl S.co S.gen rfl (PySem.W.codeRec_of KX hcd) (hb _ _ _ _ ?_)
  refine wpAny_newFunctionEnv_cells S.kind kinds fun env he s1 z => ?_
  subst he
  refine ⟨(e0.mod.nolimit.keeps old).keeps z.toInCall.keep, PySem.codeAny_func ?_⟩
  obtain ⟨t, ht, hq⟩ := body A outer s H vs Q E hg (hr.deeper _) hsp
  have I := inv_start (CX := CX0) (E := E) (cd := cdv) (f := f) S hr.hd e0 hl r z
  refine wpAny_mono (ht.nox.run [] s1 (start N vs) H _ I hq) (fun fl s' hs => ?_) fun e s' hs => hs
  cases fl with
  | ret u =>
    obtain ⟨v, σ', H', J, rv, q⟩ := hs
    exact ⟨v, H', J.os, J.bare, J.base, J.hok, rv, q⟩
  | next =>
    obtain ⟨σ', H', J, q⟩ := hs
    exact ⟨V.non, H', J.os, J.bare, J.base, J.hok, rfl, q⟩
  | brk => exact hs.choose_spec.choose_spec.2.elim
  | cont => exact hs.choose_spec.choose_spec.2.elim
/-- texts of lists of a few ints -/
theorem okW_ints {ns : List Int} (hl : ns.length ≤ 100) (h : ∀ n ∈ ns, 0 ≤ n ∧ n < 10 ^ 40) : (PyData.list (ns.map PyData.int)).showable = true ∧ (PyData.list (ns.map PyData.int)).depth ≤ 50 ∧ (PyData.list (ns.map PyData.int)).shown.length ≤ 100000 := by
  have a1 : ∀ ms : List Int, (∀ n ∈ ms, 0 ≤ n ∧ n < 10 ^ 40) → PyData.showableAll (ms.map PyData.int) = true := fun ms => by
    induction ms with
    | nil => intro _; rfl
    | cons m ms ih =>
      intro q
      have e1 : PyData.showable (.int m) = true := decide_eq_true (intlen (q m (List.mem_cons_self ..)).1 (q m (List.mem_cons_self ..)).2).2
      show (PyData.showable (.int m) && PyData.showableAll (ms.map PyData.int)) = true
      rw [e1, ih fun n hn => q n (List.mem_cons_of_mem _ hn)]
      rfl
  have a2 : ∀ ms : List Int, PyData.depthAll (ms.map PyData.int) = 0 := fun ms => by
    induction ms with
    | nil => rfl
    | cons m ms ih =>
      show max (PyData.depth (.int m)) (PyData.depthAll (ms.map PyData.int)) = 0
      rw [ih]
      rfl
  have a3 : ∀ ms : List Int, (∀ n ∈ ms, 0 ≤ n ∧ n < 10 ^ 40) → (PyData.shownAll (ms.map PyData.int)).length = ms.length ∧ ((PyData.shownAll (ms.map PyData.int)).map (·.length)).sum ≤ 40 * ms.length := fun ms => by
    induction ms with
    | nil => intro _; exact ⟨rfl, Nat.le_refl _⟩
    | cons m ms ih =>
      intro q
      obtain ⟨i1, i2⟩ := ih fun n hn => q n (List.mem_cons_of_mem _ hn)
      have l1 := (intlen (q m (List.mem_cons_self ..)).1 (q m (List.mem_cons_self ..)).2).1
      have e : PyData.shownAll ((m :: ms).map PyData.int) = Str.ofString (toString m) :: PyData.shownAll (ms.map PyData.int) := rfl
      rw [e, List.length_cons, List.map_cons, List.sum_cons, List.length_cons, i1]
      refine ⟨rfl, ?_⟩
      show (Str.ofString (toString m)).length + _ ≤ _
      omega
  refine ⟨a1 ns h, ?_, ?_⟩
  · show PyData.depthAll (ns.map PyData.int) + 1 ≤ 50
    rw [a2]
    decide
  · obtain ⟨b1, b2⟩ := a3 ns h
    have b3 := PySem.listText_len_le (PyData.shownAll (ns.map PyData.int))
    show (listText (PyData.shownAll (ns.map PyData.int))).length ≤ 100000
    rw [b1] at b3
    omega
theorem pairEq (a b c d : Int) : (if a = c then decide (b = d) else false) = PyData.eqv (.list [.int a, .int b]) (.list [.int c, .int d]) := by
  show _ = ((a == c) && ((b == d) && true))
  by_cases h : a = c
  · rw [if_pos h, h]
    by_cases g : b = d
    · rw [g]
      simp
    · simp [g]
  · rw [if_neg h]
    simp [h]
/-- an object beside the pool is stored to -/
theorem PoolAt.same' {p q a : Addr} {H : Hp} {o : HO} (h : PoolAt H p q) (f : Sf p q H a o) (o' : HO) : PoolAt (upd H a o') p q := by
  obtain ⟨ns, i, x, z, b, h1, h2, h3⟩ := h
  exact ⟨ns, i, x, z, b, by rw [upd_ne f.np.symm]; exact h1, by rw [upd_ne f.nq.symm]; exact h2, h3⟩
theorem tabs_put {T : List (Addr × Str)} {p q a : Addr} {H : Hp} {xs : List V} (t : LamX.Tabs T H) (f : Sf p q H a (.lst xs)) (o' : HO) : LamX.Tabs T (upd H a o') := by
  intro r hr
  obtain ⟨ps, e1, e2, e3⟩ := t r hr
  have far : ∀ c o, H c = some o → (∀ xs, o ≠ .lst xs) → upd H a o' c = some o := fun c o e n => by
    rw [upd_ne (fun z => n xs (by rw [z, f.e] at e; exact (Option.some.inj e).symm))]
    exact e
  refine ⟨ps, far _ _ e1 (fun _ e => by cases e), e2, fun pos cv hc => ?_⟩
  obtain ⟨c, e4, e5⟩ := e3 pos cv hc
  exact ⟨c, e4, far _ _ e5 (fun _ e => by unfold LamX.CodeO at e; cases e)⟩
theorem ifTwo {A B : Prop} {x z : Str} (h : B) : if (!PyData.eqv (.list [.str x, .str z]) (.list [.str x, .str z])) = true then A else B := by
  rw [eqv_two]
  exact h
/-! ### the ways in which a handle is asked for -/
theorem hd_binds {K : PySem.W.Frag} {f : Addr} {fd : FuncData} (F : FunD K "__init__" "Handle.__init__" (defArgs sHdInit) (defBody sHdInit) (defScope sHdInit) [.int 0] [("entry", .int 0)] f fd) :
    KBn K fd ["self", "number", "turn", "entry"] 3 ["entry"] (fun us ws => us ++ ws) (fun vs zs => vs ++ zs) ∧
    (∃ ds, Vals [.int 0, .int 0] ds ∧ Binds K fd ["self", "number", "turn", "entry"] ds) ∧ ∃ ds, Vals [.int 0] ds ∧ Binds K fd ["self", "number", "turn", "entry"] ds := by
  refine ⟨?_, ?_, ?_⟩
  · obtain ⟨_, _, z⟩ := F.kbinds (ps := ["self", "number", "turn", "entry"]) 3 ["entry"] [] (fun {α} vs _ _ zs => vs ++ zs) (by simp) (by simp) (fun _ h => nomatch h) (fun r1 _ _ r4 => r1.append r4) (fun T D doc pm an cdv ct us its mv ws l1 l2 l3 l4 => by
      match us, its, mv, ws, l1, l2, l3, l4 with
      | [a, b, c], [i], [], [e], _, _, _, _ => exact ⟨_, rfl, rfl⟩)
    exact z
  · exact F.binds (ps := ["self", "number", "turn", "entry"]) 2 0 (by simp) rfl (fun T D doc pm an cdv ct us its ks l1 l2 l3 => by
      match us, its, ks, l1, l2, l3 with
      | [a, b], [i], [e], _, _, _ => exact ⟨_, rfl, ⟨_, _, _, _, _, _, rfl, rfl, rfl⟩⟩) (by simp)
  · exact F.binds (ps := ["self", "number", "turn", "entry"]) 3 1 (by simp) rfl (fun T D doc pm an cdv ct us its ks l1 l2 l3 => by
      match us, its, ks, l1, l2, l3 with
      | [a, b, c], [i], [e], _, _, _ => exact ⟨_, rfl, ⟨_, _, _, _, _, _, rfl, rfl, rfl⟩⟩) (by simp)
/-! ### deeds -/
abbrev sTbGive : Stmt := inClass (top 15) 6
abbrev sTbGiven : Stmt := inClass (top 15) 7
abbrev sTbRenewed : Stmt := inClass (top 15) 8
abbrev sTbTurnOf : Stmt := inClass (top 15) 9
abbrev sTbClose : Stmt := inClass (top 15) 10
abbrev sTbUse : Stmt := inClass (top 15) 12
section
variable {X : Cx}
/-- xs[i], i a count -/
def rGetN (K : PySem.W.Frag) : V → V → Hp → VK → Prop := fun x y H Q => ∃ p xs, ∃ (j : Nat), ∃ v, x = .ref p ∧ y = .int (j : Nat) ∧ SqL K H p xs ∧ xs[j]? = some v ∧ Q v H
theorem get_listN : PGet X (rGetN X.K) := by
  intro pins s σ H x y ov iv Q I rx ry h
  obtain ⟨p, xs, j, z, rfl, rfl, hq, he, q⟩ := h
  cases rx
  obtain ⟨t, rfl⟩ := ry
  obtain ⟨its, r, pl, hz⟩ := I.list hq
  obtain ⟨w, ew, rw'⟩ := r.get he
  have hl := r.length
  have hn := line63
  have hj : j < xs.length := (List.getElem?_eq_some_iff.mp he).1
  exact PySem.wpAny_getItem_list (x := w) pl.isList (Int.natCast_nonneg _) (by omega) (by rw [Int.toNat_natCast]; simpa using ew) ⟨z, H, I, rw', q⟩
end
theorem ixN_at {n j : Nat} (hj : j < n) : ixN n (j : Int) = some j := by
  unfold ixN
  rw [if_pos (by omega), if_pos (by omega), Int.toNat_natCast]
/-- all but the table's own objects is as it was -/
def Off (x pe pc pf : Addr) (H H' : Hp) : Prop := ∀ b o, b ≠ x → b ≠ pe → b ≠ pc → b ≠ pf → H b = some o → H' b = some o
section
variable {x pe pc pf a : Addr} {H H' H2 : Hp} {o : HO}
theorem Off.refl : Off x pe pc pf H H := fun _ _ _ _ _ _ e => e
theorem Off.of (s : Same H H') : Off x pe pc pf H H' := fun b o _ _ _ _ e => s b o e
theorem Off.at1 (s : Off x pe pc pf H H') (o : HO) : Off x pe pc pf H (upd H' x o) := fun b u n1 n2 n3 n4 e => by
  rw [upd_ne n1]
  exact s b u n1 n2 n3 n4 e
theorem Off.at2 (s : Off x pe pc pf H H') (o : HO) : Off x pe pc pf H (upd H' pe o) := fun b u n1 n2 n3 n4 e => by
  rw [upd_ne n2]
  exact s b u n1 n2 n3 n4 e
theorem Off.at3 (s : Off x pe pc pf H H') (o : HO) : Off x pe pc pf H (upd H' pc o) := fun b u n1 n2 n3 n4 e => by
  rw [upd_ne n3]
  exact s b u n1 n2 n3 n4 e
theorem Off.at4 (s : Off x pe pc pf H H') (o : HO) : Off x pe pc pf H (upd H' pf o) := fun b u n1 n2 n3 n4 e => by
  rw [upd_ne n4]
  exact s b u n1 n2 n3 n4 e
theorem Off.same (s : Off x pe pc pf H H') (s2 : Same H' H2) : Off x pe pc pf H H2 := fun b u n1 n2 n3 n4 e => s2 b u (s b u n1 n2 n3 n4 e)
theorem Off.trans (s : Off x pe pc pf H H') (s2 : Off x pe pc pf H' H2) : Off x pe pc pf H H2 := fun b u n1 n2 n3 n4 e => s2 b u n1 n2 n3 n4 (s b u n1 n2 n3 n4 e)
end
/-- an entry or none -/
def EntV (v : V) : Prop := v = .non ∨ ∃ e : Int, v = .int e
def useW (n : Nat) (tn : Int) (es : List V) (cs : List Int) (j : Nat) (t e : Int) : Str :=
  if n ≤ j then "refused" else match es[j]? with
    | some (.int e') => if (cs.getD j 0 - 1) % tn = t then (if e' = e then "done" else "fault") else "refused"
    | _ => "refused"
def spTurnOf (C : Addr) : Sp := fun vs H Q _ => ∃ (x dx pe pc pf : Addr) (n : Nat) (bk : Str) (tn : Int) (es : List V) (cs : List Int) (many start : Int) (fr : List Int) (j : Nat) (c : Int), vs = [.ref x, .int (j : Nat)] ∧ TAt H C x dx pe pc pf n bk tn es cs many start fr ∧ 0 < tn ∧ cs[j]? = some c ∧ Q (.int ((c - 1) % tn)) H
/-- a new thing under the number j -/
def spRenewed (C Ch : Addr) : Sp := fun vs H Q _ => ∃ (x dx pe pc pf : Addr) (n : Nat) (bk : Str) (tn : Int) (es : List V) (cs : List Int) (many start : Int) (fr : List Int) (j : Nat) (c : Int), vs = [.ref x, .int (j : Nat)] ∧ TAt H C x dx pe pc pf n bk tn es cs many start fr ∧ 0 < tn ∧ 0 ≤ many ∧ j < n ∧ cs[j]? = some c ∧
  ∀ H' h, Off x pe pc pf H H' → TAt H' C x dx pe pc pf n bk tn (es.set j (.int many)) (cs.set j (c + 1)) (many + 1) start fr → H h = none → HAt H' Ch h (j : Nat) (c % tn) many → Q (.ref h) H'
def spGiven (C Ch : Addr) : Sp := fun vs H Q _ => ∃ (x dx pe pc pf : Addr) (n : Nat) (bk : Str) (tn : Int) (es : List V) (cs : List Int) (many start : Int) (fr : List Int) (j : Nat) (c : Int), vs = [.ref x, .int (j : Nat)] ∧ TAt H C x dx pe pc pf n bk tn es cs many start fr ∧ 0 < tn ∧ 0 ≤ many ∧ j < n ∧ cs[j]? = some c ∧ fr.length ≤ 100 ∧
  ∀ H' h pf', Off x pe pc pf H H' → H pf' = none → TAt H' C x dx pe pc pf' n bk tn (es.set j (.int many)) (cs.set j (c + 1)) (many + 1) ((j : Int) + 1) (fr.filter fun m => !decide (m = (j : Int))) → H h = none → HAt H' Ch h (j : Nat) (c % tn) many → Q (.ref h) H'
def spUse (C Ch : Addr) : Sp := fun vs H Q _ => ∃ (x dx pe pc pf : Addr) (n : Nat) (bk : Str) (tn : Int) (es : List V) (cs : List Int) (many start : Int) (fr : List Int) (v : V), vs = [.ref x, v] ∧ TAt H C x dx pe pc pf n bk tn es cs many start fr ∧ 0 < tn ∧ (∀ u ∈ es, EntV u) ∧
  ((v = .non ∧ Q (.str "refused") H) ∨ ∃ (h : Addr) (j : Nat) (t e : Int), v = .ref h ∧ HAt H Ch h (j : Nat) t e ∧ Q (.str (useW n tn es cs j t e)) H)
def spClose (C Ch : Addr) : Sp := fun vs H Q _ => ∃ (x dx pe pc pf : Addr) (n : Nat) (bk : Str) (tn : Int) (es : List V) (cs : List Int) (many start : Int) (fr : List Int) (v : V), vs = [.ref x, v] ∧ TAt H C x dx pe pc pf n bk tn es cs many start fr ∧ 0 < tn ∧ (∀ u ∈ es, EntV u) ∧ fr.length ≤ 100 ∧
  ((v = .non ∧ Q (.str "refused") H) ∨ ∃ (h : Addr) (j : Nat) (t e : Int), v = .ref h ∧ HAt H Ch h (j : Nat) t e ∧ h ≠ x ∧ h ≠ pe ∧ h ≠ pf ∧
    (useW n tn es cs j t e ≠ "done" → Q (.str (useW n tn es cs j t e)) H) ∧
    (useW n tn es cs j t e = "done" → ∀ H', Off x pe pc pf H H' → TAt H' C x dx pe pc pf n bk tn (es.set j .non) cs many start (fr ++ [(j : Int)]) → Q (.str "done") H'))
section
variable {P : Program} {w : World} {K : PySem.W.Frag} {mg : Str → Option Value} {base : Heap}
theorem scTbTurnOf : FnScope ["self", "number"] ["self", "number"] (defScope sTbTurnOf) := ⟨rfl, rfl, rfl, by decide +kernel, rfl, by decide +kernel, by decide +kernel⟩
theorem ok_tbTurnOf {f C : Addr} {fd : FuncData} (F : Fun K "_turn_of" "Table._turn_of" sTbTurnOf f fd) (S : TbCls K mg C) : FnOk P w K mg base CX0 1 f fd ["self", "number"] (spTurnOf C) := by
  refine F.ok scTbTurnOf (fun vs H Q E h => ?_) (fun cdv A outer s H vs Q E hr h => ?_)
  · obtain ⟨x, _, _, _, _, _, _, _, _, _, _, _, _, _, _, rfl, _⟩ := h
    rfl
  · obtain ⟨x, dx, pe, pc, pf, n, bk, tn, es, cs, many, start, fr, j, c, rfl, t, ht, hc, k⟩ := h
    refine ⟨_, pss_one (ps_ret (pe_op op_mod (pe_op op_sub (pe_ix ix_list (pe_fld (pv 0) (by rfl)) (pv 1) (fun _ _ => rfl)) pe_int) (pe_fld (pv 0) (by rfl)))), ?_⟩
    have hc' : (cs.map V.int)[j]? = some (.int c) := by rw [List.getElem?_map, hc]; rfl
    exact ⟨_, rfl, x, C, dx, _, .ref pc, rfl, t.ins, S.cl, S.n5, rfl, _, rfl, pc, _, _, _, rfl, rfl, .inl (.inl t.cnt), atI_nat hc', _, _, rfl, rfl, _, rfl, x, C, dx, _, .int tn, rfl, t.ins, S.cl, S.n3, rfl, _, _, rfl, rfl, ht, k⟩
theorem scTbRenewed : FnScope ["self", "number", "entry"] ["self", "number"] (defScope sTbRenewed) := ⟨rfl, rfl, rfl, by decide +kernel, rfl, by decide +kernel, by decide +kernel⟩
theorem ok_tbRenewed {f C Ch CB fT fH : Addr} {fd fdT fdH : FuncData} (F : Fun K "_renewed" "Table._renewed" sTbRenewed f fd) (S : TbCls K mg C) (Sh : HCls K mg Ch)
    (MT : Meth K C "_turn_of" fT) (GT : FnOk P w K mg base CX0 1 fT fdT ["self", "number"] (spTurnOf C)) (bT : Binds K fdT ["self", "number"] [])
    (MH : Mk K Ch fH) (GH : FnOk P w K mg base (L2.CX P w) 3 fH fdH ["self", "number", "turn", "entry"] (spHandle K Ch CB)) (kb : KBn K fdH ["self", "number", "turn", "entry"] 3 ["entry"] (fun us ws => us ++ ws) (fun vs zs => vs ++ zs)) :
    FnOk P w K mg base CX0 5 f fd ["self", "number"] (spRenewed C Ch) := by
  refine F.ok scTbRenewed (fun vs H Q E h => ?_) (fun cdv A outer s H vs Q E hr h => ?_)
  · obtain ⟨x, _, _, _, _, _, _, _, _, _, _, _, _, _, _, rfl, _⟩ := h
    rfl
  · obtain ⟨x, dx, pe, pc, pf, n, bk, tn, es, cs, many, start, fr, j, c, rfl, t, ht, hm, hj, hc, k⟩ := h
    refine ⟨_, pss_cons (ps_set (i := 2) scTbRenewed.nd rfl (.inl rfl) (pe_fld (pv 0) (by rfl)))
      (pss_cons (ps_fldaug (pv 0) pe_int in_add)
      (pss_cons (ps_asg (pv 2) (pg_sub (pe_fld (pv 0) (by rfl)) (pv 1) set_list))
      (pss_cons (ps_augS (pe_fld (pv 0) (by rfl)) (pv 1) get_listN pe_int ip_add set_list)
      (pss_one (ps_ret (pe_makeK MH GH hr rfl Sh.g kb passF (pa_cons (pv 1) (pa_cons (pe_meth (pv 0) S.cl MT GT (hr.mono (by decide)) bT .nil pass0 (pa_cons (pv 1) pa_nil)) pa_nil)) (pk_cons (pv 2) pk_nil))))))), ?_⟩
    have nx : ∀ {a : Addr} {xs : List V}, H a = some (.lst xs) → a ≠ x := fun e q => by rw [q, t.ins] at e; cases e
    have e1 := nx t.ens
    have e2 := nx t.cnt
    have e3 := nx t.fre
    have hc' : (cs.map V.int)[j]? = some (.int c) := by rw [List.getElem?_map, hc]; rfl
    refine ⟨_, rfl, x, C, dx, _, .int many, rfl, t.ins, S.cl, S.n6, rfl, ?_⟩
    refine ⟨_, rfl, x, C, dx, _, .int many, rfl, t.ins, S.cl, S.n6, rfl, _, _, rfl, rfl, dx, _, t.ins, (show 8 < 1000 by decide), ?_⟩
    have o1 : Off x pe pc pf H (upd H x (.ins C dx (putF "_many_entries" (.int (many + 1)) (tbF (.int (n : Nat)) (.str bk) (.int tn) pe pc many start pf)))) := Off.refl.at1 _
    have i1 : (upd H x (.ins C dx (putF "_many_entries" (.int (many + 1)) (tbF (.int (n : Nat)) (.str bk) (.int tn) pe pc many start pf)))) x = some (.ins C dx (tbF (.int (n : Nat)) (.str bk) (.int tn) pe pc (many + 1) start pf)) := upd_same
    have p1 : (upd H x (.ins C dx (putF "_many_entries" (.int (many + 1)) (tbF (.int (n : Nat)) (.str bk) (.int tn) pe pc many start pf)))) pe = _ := (upd_ne e1).trans t.ens
    have c1 : (upd H x (.ins C dx (putF "_many_entries" (.int (many + 1)) (tbF (.int (n : Nat)) (.str bk) (.int tn) pe pc many start pf)))) pc = _ := (upd_ne e2).trans t.cnt
    have f1 : (upd H x (.ins C dx (putF "_many_entries" (.int (many + 1)) (tbF (.int (n : Nat)) (.str bk) (.int tn) pe pc many start pf)))) pf = _ := (upd_ne e3).trans t.fre
    generalize upd H x (.ins C dx (putF "_many_entries" (.int (many + 1)) (tbF (.int (n : Nat)) (.str bk) (.int tn) pe pc many start pf))) = H1 at o1 i1 p1 c1 f1 ⊢
    refine ⟨_, rfl, _, rfl, x, C, dx, _, .ref pe, rfl, i1, S.cl, S.n4, rfl, _, rfl, pe, es, _, j, rfl, rfl, p1, ixN_at (by rw [t.len]; exact hj), ?_⟩
    have o2 := o1.at2 (.lst (es.set j (.int many)))
    have i2 : (upd H1 pe (.lst (es.set j (.int many)))) x = _ := (upd_ne e1.symm).trans i1
    have p2 : (upd H1 pe (.lst (es.set j (.int many)))) pe = _ := upd_same
    have c2 : (upd H1 pe (.lst (es.set j (.int many)))) pc = _ := (upd_ne t.q1.symm).trans c1
    have f2 : (upd H1 pe (.lst (es.set j (.int many)))) pf = _ := (upd_ne t.q2.symm).trans f1
    generalize upd H1 pe (.lst (es.set j (.int many))) = H2 at o2 i2 p2 c2 f2 ⊢
    clear o1 i1 p1 c1 f1
    refine ⟨_, rfl, x, C, dx, _, .ref pc, rfl, i2, S.cl, S.n5, rfl, _, rfl, pc, _, j, _, rfl, rfl, .inl (.inl c2), hc', _, _, rfl, rfl, pc, _, _, j, rfl, rfl, c2, ixN_at (by rw [List.length_map, t.lec]; exact hj), ?_⟩
    have em : (cs.map V.int).set j (.int (c + 1)) = (cs.set j (c + 1)).map V.int := by rw [List.map_set]
    rw [em]
    have o3 := o2.at3 (.lst ((cs.set j (c + 1)).map V.int))
    have i3 : (upd H2 pc (.lst ((cs.set j (c + 1)).map V.int))) x = _ := (upd_ne e2.symm).trans i2
    have p3 : (upd H2 pc (.lst ((cs.set j (c + 1)).map V.int))) pe = _ := (upd_ne t.q1).trans p2
    have c3 : (upd H2 pc (.lst ((cs.set j (c + 1)).map V.int))) pc = _ := upd_same
    have f3 : (upd H2 pc (.lst ((cs.set j (c + 1)).map V.int))) pf = _ := (upd_ne t.q3.symm).trans f2
    generalize upd H2 pc (.lst ((cs.set j (c + 1)).map V.int)) = H3 at o3 i3 p3 c3 f3 ⊢
    clear o2 i2 p2 c2 f2
    have t3 : TAt H3 C x dx pe pc pf n bk tn (es.set j (.int many)) (cs.set j (c + 1)) (many + 1) start fr := ⟨i3, p3, c3, f3, by rw [List.length_set]; exact t.len, by rw [List.length_set]; exact t.lec, t.lim, t.q1, t.q2, t.q3⟩
    have hc3 : (cs.set j (c + 1))[j]? = some (c + 1) := by rw [List.getElem?_set_self (by rw [t.lec]; exact hj)]
    refine ⟨_, rfl, _, rfl, x, dx, _, rfl, i3, rfl, _, rfl, x, dx, pe, pc, pf, n, bk, tn, _, _, _, _, _, j, _, rfl, t3, ht, hc3, _, rfl, rfl, rfl, ?_⟩
    have ec : (c + 1 - 1) % tn = c % tn := by rw [Int.add_sub_cancel]
    rw [ec]
    refine mk_ok (Int.natCast_nonneg _) (Int.emod_nonneg _ (by omega)) hm fun H4 h s4 hh ha => ?_
    refine k H4 h (o3.same s4) (t3.same s4) ?_ ha
    cases e : H h with
    | none => rfl
    | some u =>
      have hne : ∀ {a : Addr} {u : HO}, H3 a = some u → h ≠ a := fun q z => by rw [z, q] at hh; cases hh
      have := o3 h u (hne i3) (hne p3) (hne c3) (hne f3) e
      rw [hh] at this
      cases this
end
theorem inV_ints {a : Int} : ∀ {F : List Int}, inV (.int a) (F.map V.int) = decide (a ∈ F)
  | [] => by simp [inV]
  | b :: F => by
    have ih := inV_ints (a := a) (F := F)
    unfold inV at ih ⊢
    rw [List.map_cons, List.any_cons, ih]
    show ((b == a) || decide (a ∈ F)) = _
    by_cases h : b = a
    · simp [h]
    · have h2 : ¬ a = b := fun q => h q.symm
      simp [h, h2]
theorem flat_ints (F : List Int) : (F.map V.int).all flatV = true := by
  rw [List.all_map]
  exact List.all_eq_true.mpr fun _ _ => rfl
def spGive (C Ch CN : Addr) : Sp := fun vs H Q E => ∃ (x dx pe pc pf : Addr) (n : Nat) (bk : Str) (tn : Int) (es : List V) (cs : List Int) (many start : Int) (fr : List Int) (v : V), vs = [.ref x, v] ∧ TAt H C x dx pe pc pf n bk tn es cs many start fr ∧ 0 < tn ∧ 0 ≤ many ∧ fr.length ≤ 100 ∧
  ((v = .non ∧ freeL bk start fr es = [] ∧ ∀ H', Same H H' → Q .non H') ∨
   (∃ (j : Nat) (c : Int), ((v = .non ∧ (freeL bk start fr es).head? = some (j : Int)) ∨ (v = .int (j : Nat) ∧ (j : Int) ∈ freeL bk start fr es)) ∧ j < n ∧ cs[j]? = some c ∧
     ∀ H' h pf', Off x pe pc pf H H' → H pf' = none → TAt H' C x dx pe pc pf' n bk tn (es.set j (.int many)) (cs.set j (c + 1)) (many + 1) ((j : Int) + 1) (fr.filter fun m => !decide (m = (j : Int))) → H h = none → HAt H' Ch h (j : Nat) (c % tn) many → Q (.ref h) H') ∨
   (∃ k, Kd H v k ∧ v ≠ .non ∧ (isCount v = false ∨ ∃ i, v = .int i ∧ i ∉ freeL bk start fr es) ∧ ∀ H', Same H H' → Bad E H' CN v))
theorem freeL_lt {bk : Str} {start : Int} {fr : List Int} {es : List V} : True := trivial
section
variable {P : Program} {w : World} {K : PySem.W.Frag} {mg : Str → Option Value} {base : Heap}
theorem scTbGiven : FnScope ["self", "number", "other"] ["self", "number"] (defScope sTbGiven) := ⟨rfl, rfl, rfl, by decide +kernel, rfl, by decide +kernel, by decide +kernel⟩
theorem ok_tbGiven {f C Ch fR : Addr} {fd fdR : FuncData} (F : Fun K "_given" "Table._given" sTbGiven f fd) (S : TbCls K mg C)
    (MR : Meth K C "_renewed" fR) (GR : FnOk P w K mg base CX0 5 fR fdR ["self", "number"] (spRenewed C Ch)) (bR : Binds K fdR ["self", "number"] []) :
    FnOk P w K mg base CX0 6 f fd ["self", "number"] (spGiven C Ch) := by
  refine F.ok scTbGiven (fun vs H Q E h => ?_) (fun cdv A outer s H vs Q E hr h => ?_)
  · obtain ⟨x, _, _, _, _, _, _, _, _, _, _, _, _, _, _, rfl, _⟩ := h
    rfl
  · obtain ⟨x, dx, pe, pc, pf, n, bk, tn, es, cs, many, start, fr, j, c, rfl, t, ht, hm, hj, hc, hf, k⟩ := h
    refine ⟨_, pss_cons (ps_fld (pv 0) (pe_op op_add (pv 1) pe_int) (by rfl))
      (pss_cons (ps_fld (pv 0) (pe_lc (own := [("other", 2)]) (g := gName 2) (by rfl) scTbGiven.nd (pi_list (pe_fld (pv 0) (by rfl))) (blkOk_by (own := [("other", 2)]) (N := ["self", "number", "other"]) (sc := defScope sTbGiven) (by decide +kernel))
        (fun _ _ _ _ _ => pg_name (i := 2) scTbGiven.nd rfl (Or.inl rfl)) (fun _ _ _ _ _ => pts_one (pt_cmpR op_ne (pv 2) (pv 1) (by rfl))) (fun _ _ _ _ _ => pv 2)) (by rfl))
      (pss_one (ps_ret (pe_meth (pv 0) S.cl MR GR hr bR .nil pass0 (pa_cons (pv 1) pa_nil))))), ?_⟩
    have nx : ∀ {a : Addr} {xs : List V}, H a = some (.lst xs) → a ≠ x := fun e q => by rw [q, t.ins] at e; cases e
    have e1 := nx t.ens
    have e2 := nx t.cnt
    have e3 := nx t.fre
    refine ⟨_, rfl, _, _, rfl, rfl, _, rfl, x, C, dx, _, rfl, t.ins, S.cl, S.n7, (show 8 < 1000 by decide), ?_⟩
    have o1 : SameX x H (upd H x (.ins C dx (putF "_start" (.int ((j : Int) + 1)) (tbF (.int (n : Nat)) (.str bk) (.int tn) pe pc many start pf)))) := SameX.put (fun _ _ _ e => e) _
    have i1 : (upd H x (.ins C dx (putF "_start" (.int ((j : Int) + 1)) (tbF (.int (n : Nat)) (.str bk) (.int tn) pe pc many start pf)))) x = some (.ins C dx (tbF (.int (n : Nat)) (.str bk) (.int tn) pe pc many ((j : Int) + 1) pf)) := upd_same
    generalize upd H x (.ins C dx (putF "_start" (.int ((j : Int) + 1)) (tbF (.int (n : Nat)) (.str bk) (.int tn) pe pc many start pf))) = H1 at o1 i1 ⊢
    have f1 := o1 _ _ e3 t.fre
    refine ⟨_, rfl, x, C, dx, _, .ref pf, rfl, i1, S.cl, S.n8, rfl, pf, rfl, ⟨_, .inl (.inl f1)⟩, fun D hD => lc_list (xs := fr.map V.int) (fun i H' => Same H1 H' ∧ H' D = some (.lst (((fr.take i).filter fun m => !decide (m = (j : Int))).map V.int))) ⟨Same.new hD, upd_same⟩ (fun i H' _ e => .inl (.inl (e.1 _ _ f1))) ?_ ?_⟩
    · rintro i z H' hz ⟨s1, d1⟩
      rw [List.getElem?_map] at hz
      obtain ⟨m, hm2, rfl⟩ := Option.map_eq_some_iff.mp hz
      have hi : i < fr.length := (List.getElem?_eq_some_iff.mp hm2).1
      have htk : fr.take (i + 1) = fr.take i ++ [m] := by rw [List.take_succ, hm2]; rfl
      refine ⟨rfl, _, rfl, _, rfl, rfl, _, rfl, ?_⟩
      have dq : decide (V.int m = V.int (j : Nat)) = decide (m = (j : Int)) := decide_eq_decide.mpr ⟨fun q => by injection q, fun q => by rw [q]⟩
      rw [dq]
      cases q : decide (m = (j : Int)) with
      | true =>
        refine iteF ⟨s1, ?_⟩
        have : [m].filter (fun m => !decide (m = (j : Int))) = [] := by simp [q]
        rw [htk, List.filter_append, this, List.append_nil, d1]
      | false =>
        have : [m].filter (fun m => !decide (m = (j : Int))) = [m] := by simp [q]
        refine iteT ⟨_, rfl, _, d1, ?_, s1.put hD, ?_⟩
        · rw [List.length_map]
          refine Nat.lt_of_le_of_lt (List.length_filter_le _ _) ?_
          rw [List.length_take]
          exact Nat.lt_of_le_of_lt (Nat.le_trans (Nat.min_le_right ..) hf) (by decide)
        · rw [upd_same, htk, List.filter_append, this, List.map_append]
          rfl
    · rintro H2 ⟨s2, d2⟩
      rw [List.length_map, List.take_length] at d2
      have nD : D ≠ x := fun q => by rw [q, i1] at hD; cases hD
      have hD0 := o1.none i1 hD
      have i2 := s2 _ _ i1
      refine ⟨_, rfl, x, C, dx, _, rfl, i2, S.cl, S.n8, (show 8 < 1000 by decide), ?_⟩
      have o3 : SameX x H (upd H2 x (.ins C dx (putF "_freed" (.ref D) (tbF (.int (n : Nat)) (.str bk) (.int tn) pe pc many ((j : Int) + 1) pf)))) := SameX.put (fun b u nb e => s2 b u (o1 b u nb e)) _
      have i3 : (upd H2 x (.ins C dx (putF "_freed" (.ref D) (tbF (.int (n : Nat)) (.str bk) (.int tn) pe pc many ((j : Int) + 1) pf)))) x = some (.ins C dx (tbF (.int (n : Nat)) (.str bk) (.int tn) pe pc many ((j : Int) + 1) D)) := upd_same
      have d3 : (upd H2 x (.ins C dx (putF "_freed" (.ref D) (tbF (.int (n : Nat)) (.str bk) (.int tn) pe pc many ((j : Int) + 1) pf)))) D = _ := (upd_ne nD).trans d2
      generalize upd H2 x (.ins C dx (putF "_freed" (.ref D) (tbF (.int (n : Nat)) (.str bk) (.int tn) pe pc many ((j : Int) + 1) pf))) = H3 at o3 i3 d3 ⊢
      have t3 : TAt H3 C x dx pe pc D n bk tn es cs many ((j : Int) + 1) (fr.filter fun m => !decide (m = (j : Int))) := ⟨i3, o3 _ _ e1 t.ens, o3 _ _ e2 t.cnt, d3, t.len, t.lec, t.lim, t.q1, ne_of_none t.ens hD0, ne_of_none t.cnt hD0⟩
      refine ⟨_, rfl, x, dx, _, rfl, i3, rfl, _, rfl, x, dx, pe, pc, D, n, bk, tn, es, cs, many, _, _, j, c, rfl, t3, ht, hm, hj, hc, fun H4 h o4 t4 hh ha => ?_⟩
      refine k H4 h D ?_ hD0 t4 ?_ ha
      · intro b u n1 n2 n3 n4 e
        exact o4 b u n1 n2 n3 (ne_of_none e hD0) (o3 b u n1 e)
      · exact o3.none i3 hh
theorem scTbUse : FnScope ["self", "handle", "entry"] ["self", "handle"] (defScope sTbUse) := ⟨rfl, rfl, rfl, by decide +kernel, rfl, by decide +kernel, by decide +kernel⟩
theorem ok_tbUse {f C Ch fT pNu pTu pEn gNu gTu gEn : Addr} {fd fdT fdNu fdTu fdEn : FuncData} (F : Fun K "use" "Table.use" sTbUse f fd) (S : TbCls K mg C) (Sh : HCls K mg Ch)
    (MT : Meth K C "_turn_of" fT) (GT : FnOk P w K mg base CX0 1 fT fdT ["self", "number"] (spTurnOf C)) (bT : Binds K fdT ["self", "number"] [])
    (pNu : PropOf K Ch "number" pNu gNu) (GNu : FnOk P w K mg base CX0 1 gNu fdNu ["self"] (spGet K "_number")) (bNu : Binds K fdNu ["self"] [])
    (pTu : PropOf K Ch "turn" pTu gTu) (GTu : FnOk P w K mg base CX0 1 gTu fdTu ["self"] (spGet K "_turn")) (bTu : Binds K fdTu ["self"] [])
    (pEn : PropOf K Ch "entry" pEn gEn) (GEn : FnOk P w K mg base CX0 1 gEn fdEn ["self"] (spGet K "_entry")) (bEn : Binds K fdEn ["self"] []) :
    FnOk P w K mg base CX0 3 f fd ["self", "handle"] (spUse C Ch) := by
  refine F.ok scTbUse (fun vs H Q E h => ?_) (fun cdv A outer s H vs Q E hr h => ?_)
  · obtain ⟨x, _, _, _, _, _, _, _, _, _, _, _, _, _, rfl, _⟩ := h
    rfl
  · obtain ⟨x, dx, pe, pc, pf, n, bk, tn, es, cs, many, start, fr, v, rfl, t, ht, hE, hv⟩ := h
    refine ⟨_, pss_cons (ps_if (PW.pt (pw_or (pt_cmp (pc_isN (pv 1))) (pw_or1 (pt_cmpR op_ge (pe_prop (pv 1) Sh.cl pNu GNu hr bNu .nil pass0 (by rfl)) (pe_fld (pv 0) (by rfl)) (by rfl))))) (pss_one (ps_ret pe_str)) pss_nil)
      (pss_cons (ps_set (i := 2) scTbUse.nd rfl (.inl rfl) (pe_ix ix_list (pe_fld (pv 0) (by rfl)) (pe_prop (pv 1) Sh.cl pNu GNu hr bNu .nil pass0 (by rfl)) (fun _ _ => rfl)))
      (pss_cons (ps_if (PW.pt (pw_or (pt_cmp (pc_isN (pv 2))) (pw_or1 (pt_cmpR op_ne (pe_meth (pv 0) S.cl MT GT (hr.mono (by decide)) bT .nil pass0 (pa_cons (pe_prop (pv 1) Sh.cl pNu GNu hr bNu .nil pass0 (by rfl)) pa_nil)) (pe_prop (pv 1) Sh.cl pTu GTu hr bTu .nil pass0 (by rfl)) (by rfl))))) (pss_one (ps_ret pe_str)) pss_nil)
      (pss_one (ps_ret (pe_ifExp (pt_cmpR op_eq (pv 2) (pe_prop (pv 1) Sh.cl pEn GEn hr bEn .nil pass0 (by rfl)) (by rfl)) pe_str pe_str))))), ?_⟩
    rcases hv with ⟨rfl, k⟩ | ⟨h, j, tt, ee, rfl, ⟨dh, hh⟩, k⟩
    · exact ⟨_, rfl, _, rfl, iteT (iteT k)⟩
    · refine ⟨_, rfl, _, rfl, iteF ⟨_, rfl, h, dh, _, rfl, hh, h, Ch, dh, _, .int (j : Nat), rfl, hh, Sh.cl, Sh.n1, rfl, _, rfl, x, C, dx, _, .int (n : Nat), rfl, t.ins, S.cl, S.n1, rfl, _, _, rfl, rfl, _, rfl, ?_⟩⟩
      by_cases hj : n ≤ j
      · rw [decide_eq_true (show ((n : Nat) : Int) ≤ (j : Nat) by omega)]
        rw [useW, if_pos hj] at k
        exact iteT k
      · rw [decide_eq_false (show ¬ ((n : Nat) : Int) ≤ (j : Nat) by omega)]
        rw [useW, if_neg hj] at k
        refine iteF ?_
        have hl : j < es.length := by rw [t.len]; omega
        have hl2 : j < cs.length := by rw [t.lec]; omega
        have hu : es[j]? = some es[j] := by simp [hl]
        have hc : cs[j]? = some cs[j] := by simp [hl2]
        have hu2 := hE es[j] (List.getElem_mem hl)
        generalize es[j] = u at hu hu2
        rw [hu] at k
        refine ⟨_, rfl, x, C, dx, _, .ref pe, rfl, t.ins, S.cl, S.n4, rfl, _, rfl, h, dh, _, rfl, hh, h, Ch, dh, _, .int (j : Nat), rfl, hh, Sh.cl, Sh.n1, rfl, pe, es, _, u, rfl, rfl, .inl (.inl t.ens), atI_nat hu, ?_⟩
        rcases hu2 with rfl | ⟨e', rfl⟩
        · exact ⟨_, rfl, _, rfl, iteT (iteT k)⟩
        · refine ⟨_, rfl, _, rfl, iteF ?_⟩
          have hcd : cs.getD j 0 = cs[j] := by rw [List.getD_eq_getElem?_getD, hc]; rfl
          generalize cs[j] = c at hc hcd
          rw [hcd] at k
          refine ⟨_, rfl, x, dx, _, rfl, t.ins, rfl, _, rfl, h, dh, _, rfl, hh, h, Ch, dh, _, .int (j : Nat), rfl, hh, Sh.cl, Sh.n1, rfl, x, dx, pe, pc, pf, n, bk, tn, es, cs, many, start, fr, j, c, rfl, t, ht, hc, ?_⟩
          refine ⟨_, rfl, h, dh, _, rfl, hh, h, Ch, dh, _, .int tt, rfl, hh, Sh.cl, Sh.n2, rfl, rfl, _, rfl, ?_⟩
          have dq : ∀ a b : Int, decide (V.int a = V.int b) = decide (a = b) := fun a b => decide_eq_decide.mpr ⟨fun q => by injection q, fun q => by rw [q]⟩
          rw [dq]
          have k2 : Q (.str (if (c - 1) % tn = tt then (if e' = ee then "done" else "fault") else "refused")) H := k
          by_cases g : (c - 1) % tn = tt
          · rw [decide_eq_true g]
            rw [if_pos g] at k2
            refine iteF ⟨_, rfl, _, rfl, h, dh, _, rfl, hh, h, Ch, dh, _, .int ee, rfl, hh, Sh.cl, Sh.n3, rfl, rfl, _, rfl, ?_⟩
            rw [dq]
            by_cases g2 : e' = ee
            · rw [decide_eq_true g2]
              rw [if_pos g2] at k2
              exact iteT k2
            · rw [decide_eq_false g2]
              rw [if_neg g2] at k2
              exact iteF k2
          · rw [decide_eq_false g]
            rw [if_neg g] at k2
            exact iteT k2
end
section
variable {P : Program} {w : World} {K : PySem.W.Frag} {mg : Str → Option Value} {base : Heap}
theorem scTbClose : FnScope ["self", "handle", "word"] ["self", "handle"] (defScope sTbClose) := ⟨rfl, rfl, rfl, by decide +kernel, rfl, by decide +kernel, by decide +kernel⟩
theorem useW_lt {n : Nat} {tn : Int} {es : List V} {cs : List Int} {j : Nat} {t e : Int} (h : useW n tn es cs j t e = "done") : j < n := by
  unfold useW at h
  by_cases q : n ≤ j
  · rw [if_pos q] at h
    exact absurd h (by decide)
  · omega
theorem ok_tbClose {f C Ch fU pNu gNu : Addr} {fd fdU fdNu : FuncData} (F : Fun K "close" "Table.close" sTbClose f fd) (S : TbCls K mg C) (Sh : HCls K mg Ch)
    (MU : Meth K C "use" fU) (GU : FnOk P w K mg base CX0 3 fU fdU ["self", "handle"] (spUse C Ch)) (bU : Binds K fdU ["self", "handle"] [])
    (pNu : PropOf K Ch "number" pNu gNu) (GNu : FnOk P w K mg base CX0 1 gNu fdNu ["self"] (spGet K "_number")) (bNu : Binds K fdNu ["self"] []) :
    FnOk P w K mg base CX0 4 f fd ["self", "handle"] (spClose C Ch) := by
  refine F.ok scTbClose (fun vs H Q E h => ?_) (fun cdv A outer s H vs Q E hr h => ?_)
  · obtain ⟨x, _, _, _, _, _, _, _, _, _, _, _, _, _, rfl, _⟩ := h
    rfl
  · obtain ⟨x, dx, pe, pc, pf, n, bk, tn, es, cs, many, start, fr, v, rfl, t, ht, hE, hf, hv⟩ := h
    refine ⟨_, pss_cons (ps_set (i := 2) scTbClose.nd rfl (.inl rfl) (pe_meth (pv 0) S.cl MU GU hr bU .nil pass0 (pa_cons (pv 1) pa_nil)))
      (pss_cons (ps_if (pt_cmpR op_eq (pv 2) pe_str (nomark _))
        (pss_cons (ps_asg pe_non (pg_sub (pe_fld (pv 0) (by rfl)) (pe_prop (pv 1) Sh.cl pNu GNu (hr.mono (by decide)) bNu .nil pass0 (by rfl)) set_list))
        (pss_one (ps_expr (pe_bm PySem.F.plainAttrs_list PySem.F.slot_list_append PySem.F.type_list_append mt_append (pe_fld (pv 0) (by rfl)) (pa_cons (pe_prop (pv 1) Sh.cl pNu GNu (hr.mono (by decide)) bNu .nil pass0 (by rfl)) pa_nil))))) pss_nil)
      (pss_one (ps_ret (pv 2)))), ?_⟩
    rcases hv with ⟨rfl, k⟩ | ⟨h, j, tt, ee, rfl, ⟨dh, hh⟩, nx, ne, nf, no, yes⟩
    · exact ⟨_, rfl, x, dx, _, rfl, t.ins, rfl, _, rfl, x, dx, pe, pc, pf, n, bk, tn, es, cs, many, start, fr, _, rfl, t, ht, hE, .inl ⟨rfl, _, rfl, rfl, _, rfl, iteF ⟨_, rfl, k⟩⟩⟩
    · refine ⟨_, rfl, x, dx, _, rfl, t.ins, rfl, _, rfl, x, dx, pe, pc, pf, n, bk, tn, es, cs, many, start, fr, _, rfl, t, ht, hE, .inr ⟨h, j, tt, ee, rfl, ⟨dh, hh⟩, _, rfl, rfl, _, rfl, ?_⟩⟩
      by_cases hd : useW n tn es cs j tt ee = "done"
      · rw [dec_str' hd]
        have hj := useW_lt hd
        have k := yes hd
        rw [hd]
        refine iteT ⟨_, rfl, x, C, dx, _, .ref pe, rfl, t.ins, S.cl, S.n4, rfl, _, rfl, h, dh, _, rfl, hh, h, Ch, dh, _, .int (j : Nat), rfl, hh, Sh.cl, Sh.n1, rfl, pe, es, _, j, rfl, rfl, t.ens, ixN_at (by rw [t.len]; exact hj), ?_⟩
        have nl : ∀ {a : Addr} {xs : List V}, H a = some (.lst xs) → a ≠ x := fun e q => by rw [q, t.ins] at e; cases e
        have o1 : Off x pe pc pf H (upd H pe (.lst (es.set j .non))) := Off.refl.at2 _
        have i1 : (upd H pe (.lst (es.set j .non))) x = _ := (upd_ne (nl t.ens).symm).trans t.ins
        have h1 : (upd H pe (.lst (es.set j .non))) h = _ := (upd_ne ne).trans hh
        have f1 : (upd H pe (.lst (es.set j .non))) pf = _ := (upd_ne t.q2.symm).trans t.fre
        have c1 : (upd H pe (.lst (es.set j .non))) pc = _ := (upd_ne t.q1.symm).trans t.cnt
        have p1 : (upd H pe (.lst (es.set j .non))) pe = _ := upd_same
        generalize upd H pe (.lst (es.set j .non)) = H1 at o1 i1 h1 f1 c1 p1 ⊢
        refine ⟨_, rfl, x, C, dx, _, .ref pf, rfl, i1, S.cl, S.n8, rfl, .inl ⟨rfl, _, .inl (.inl f1)⟩, _, rfl, h, dh, _, rfl, h1, h, Ch, dh, _, .int (j : Nat), rfl, h1, Sh.cl, Sh.n1, rfl, pf, _, _, rfl, rfl, f1, ?_, ?_⟩
        · rw [List.length_map]
          exact Nat.lt_of_le_of_lt hf (by decide)
        · have em : fr.map V.int ++ [V.int (j : Nat)] = (fr ++ [(j : Int)]).map V.int := by rw [List.map_append]; rfl
          rw [em]
          refine ⟨_, rfl, k _ (o1.at4 _) ⟨(upd_ne (nl t.fre).symm).trans i1, (upd_ne t.q2).trans p1, (upd_ne t.q3).trans c1, upd_same, by rw [List.length_set]; exact t.len, t.lec, t.lim, t.q1, t.q2, t.q3⟩⟩
      · rw [dec_str hd]
        exact iteF ⟨_, rfl, no hd⟩
theorem scTbGive : FnScope ["self", "number", "numbers"] ["self", "number"] (defScope sTbGive) := ⟨rfl, rfl, rfl, by decide +kernel, rfl, by decide +kernel, by decide +kernel⟩
theorem ok_tbGive {f C Ch CN fI fC fF fG : Addr} {fd fdI fdC fdF fdG : FuncData} (F : FunD K "give" "Table.give" (defArgs sTbGive) (defBody sTbGive) (defScope sTbGive) [.non] [] f fd) (S : TbCls K mg C)
    (eN : ErrC K mg "InvalidNumber" CN fI) (FI : Fun K "__init__" "HandleError.__init__" sHInit fI fdI) (bI : Binds K fdI ["self", "value"] [])
    (FC : Fun K "is_count" "is_count" sCount fC fdC) (bC : Binds K fdC ["value"] []) (gC : mg "is_count" = some (.ref fC)) (GC : FnOk P w K mg base CX0 1 fC fdC ["value"] spCount)
    (MF : Meth K C "free" fF) (GF : FnOk P w K mg base CX0 2 fF fdF ["self"] (spTFree C)) (bF : Binds K fdF ["self"] [])
    (MG : Meth K C "_given" fG) (GG : FnOk P w K mg base CX0 6 fG fdG ["self", "number"] (spGiven C Ch)) (bG : Binds K fdG ["self", "number"] []) :
    FnOk P w K mg base (L2.CX P w) 7 f fd ["self", "number"] (spGive C Ch CN) := by
  have GI : FnOk P w K mg base CX0 1 fI fdI ["self", "value"] (spInitE K "value") := ok_hinit FI
  refine F.ok scTbGive (fun vs H Q E h => ?_) (fun cdv A outer s H vs Q E hr h => ?_)
  · obtain ⟨x, _, _, _, _, _, _, _, _, _, _, _, _, _, rfl, _⟩ := h
    rfl
  · obtain ⟨x, dx, pe, pc, pf, n, bk, tn, es, cs, many, start, fr, v, rfl, t, ht, hm, hf, hv⟩ := h
    refine ⟨_, pss_cons (ps_set (i := 2) scTbGive.nd rfl (.inl rfl) (pe_meth0 (pv 0) S.cl MF GF (hr.mono (by decide)) bF .nil pass0))
      (pss_cons (ps_if (PW.pt (pw_and (pt_cmp (pc_isN (pv 1))) (pw_and1 (pt_not (pt_truth (pv 2) (fun _ => rfl)))))) (pss_one (ps_ret pe_non)) pss_nil)
      (pss_cons (ps_if (pt_cmp (pc_isN (pv 1))) (pss_one (ps_ret (pe_meth (pv 0) S.cl MG GG hr bG .nil pass0 (pa_cons (pe_ix ix_tup (pv 2) pe_int (fun _ _ => rfl)) pa_nil)))) pss_nil)
      (pss_cons (ps_if (PW.pt (pw_or (pt_not (pt_val (pe_call GC (hr.mono (by decide)) rfl gC FC.kp bC .nil pass0 (pa_cons (pv 1) pa_nil)))) (pw_or1 (pt_cmpR op_notIn_seq (pv 1) (pv 2) (by rfl)))))
        (pss_one (ps_raise rfl (takes_of rfl rfl rfl rfl) (pmk_oex eN.ox eN.i eN.t GI (hr.mono (by decide)) bI .nil pass0 rfl eN.g (pa_cons (pv 1) pa_nil)))) pss_nil)
      (pss_one (ps_ret (pe_meth (pv 0) S.cl MG GG hr bG .nil pass0 (pa_cons (pv 1) pa_nil))))))), ?_⟩
    refine ⟨_, rfl, x, dx, _, rfl, t.ins, rfl, x, dx, pe, pc, pf, n, bk, tn, es, cs, many, start, fr, rfl, t, fun H1 r s1 e1 => ?_⟩
    have t1 := t.same s1
    have sq : SqT K H1 r ((freeL bk start fr es).map V.int) := .inl (.inl e1)
    have back : ∀ (j : Nat) (c : Int), (∀ H' h pf', Off x pe pc pf H H' → H pf' = none → TAt H' C x dx pe pc pf' n bk tn (es.set j (.int many)) (cs.set j (c + 1)) (many + 1) ((j : Int) + 1) (fr.filter fun m => !decide (m = (j : Int))) → H h = none → HAt H' Ch h (j : Nat) (c % tn) many → Q (.ref h) H') →
        ∀ H' h pf', Off x pe pc pf H1 H' → H1 pf' = none → TAt H' C x dx pe pc pf' n bk tn (es.set j (.int many)) (cs.set j (c + 1)) (many + 1) ((j : Int) + 1) (fr.filter fun m => !decide (m = (j : Int))) → H1 h = none → HAt H' Ch h (j : Nat) (c % tn) many → Q (.ref h) H' := by
      intro j c k H' h pf' o p t' hh ha
      have nn : ∀ a, H1 a = none → H a = none := fun a e => by
        cases q : H a with
        | none => rfl
        | some u => rw [s1 _ _ q] at e; cases e
      exact k H' h pf' ((Off.of s1).trans o) (nn _ p) t' (nn _ hh) ha
    rcases hv with ⟨rfl, hF, k⟩ | ⟨j, c, hv, hj, hc, k⟩ | ⟨kk, hk, hn, hw, b⟩
    · rw [hF] at sq
      exact ⟨_, rfl, _, rfl, iteT ⟨_, rfl, false, .inr (.inl ⟨_, sq, rfl⟩), iteT (k H1 s1)⟩⟩
    · have k' := back j c k
      rcases hv with ⟨rfl, hF⟩ | ⟨rfl, hF⟩
      · obtain ⟨r0, hF'⟩ : ∃ r0, freeL bk start fr es = (j : Int) :: r0 := by
          cases q : freeL bk start fr es with
          | nil => rw [q] at hF; cases hF
          | cons a b =>
            rw [q] at hF
            cases hF
            exact ⟨b, rfl⟩
        rw [hF'] at sq
        refine ⟨_, rfl, _, rfl, iteT ⟨_, rfl, true, .inr (.inl ⟨_, sq, rfl⟩), iteF ⟨_, rfl, _, rfl, iteT ?_⟩⟩⟩
        exact ⟨_, rfl, x, dx, _, rfl, t1.ins, rfl, _, rfl, r, _, 0, _, rfl, rfl, sq, atI_nat (j := 0) rfl, x, dx, pe, pc, pf, n, bk, tn, es, cs, many, start, fr, j, c, rfl, t1, ht, hm, hj, hc, hf, k'⟩
      · refine ⟨_, rfl, _, rfl, iteF (iteF ⟨_, rfl, _, rfl, iteF ?_⟩)⟩
        have ci : isCount (.int (j : Nat)) = true := decide_eq_true (Int.natCast_nonneg j)
        refine ⟨_, rfl, _, _, rfl, .int (j : Nat), _, rfl, ?_⟩
        rw [ci]
        refine iteF ⟨_, rfl, _, rfl, r, _, rfl, .inr sq, rfl, flat_ints _, _, rfl, ?_⟩
        rw [inV_ints, decide_eq_true hF]
        exact iteF ⟨_, rfl, x, dx, _, rfl, t1.ins, rfl, _, rfl, x, dx, pe, pc, pf, n, bk, tn, es, cs, many, start, fr, j, c, rfl, t1, ht, hm, hj, hc, hf, k'⟩
    · have nd : decide (v = V.non) = false := decide_eq_false hn
      refine ⟨_, rfl, _, rfl, ?_⟩
      rw [nd]
      refine iteF (iteF ⟨_, rfl, _, rfl, ?_⟩)
      rw [nd]
      refine iteF ⟨_, rfl, _, _, rfl, hk.same s1, _, rfl, ?_⟩
      rcases hw with c0 | ⟨i, rfl, hi⟩
      · rw [c0]
        exact iteT (iteT ⟨_, rfl, (show 1 ≤ 1000 by decide), raise_ok eN (b H1 s1)⟩)
      · cases ci : isCount (.int i) with
        | false => exact iteT (iteT ⟨_, rfl, (show 1 ≤ 1000 by decide), raise_ok eN (b H1 s1)⟩)
        | true =>
          refine iteF ⟨_, rfl, _, rfl, r, _, rfl, .inr sq, rfl, flat_ints _, _, rfl, ?_⟩
          rw [inV_ints, decide_eq_false hi]
          exact iteT ⟨_, rfl, (show 1 ≤ 1000 by decide), raise_ok eN (b H1 s1)⟩
end
/-! ### a drawn order -/
abbrev sShuf : Stmt := top 20
def intsL (os : List Nat) : List V := os.map fun (m : Nat) => V.int (m : Nat)
def spShuf : Sp := fun vs H Q _ => ∃ (p q : Addr) (n : Nat), vs = [.ref p, .int (n : Nat)] ∧ PoolAt H p q ∧ n ≤ 60 ∧
  ∀ H' r (os : List Nat), But p q H H' → PoolAt H' p q → os.Perm (List.range n) → H' r = some (.lst (intsL os)) → H r = none → Q (.ref r) H'
theorem rgV_ints (n : Nat) : rgV 0 (n : Int) = intsL (List.range n) := by
  unfold rgV intsL
  have e : ((n : Int) - 0).toNat = n := by omega
  rw [e]
  refine List.map_congr_left fun i _ => ?_
  rw [Int.zero_add]
theorem eraseIdx_mapL {α β : Type} (f : α → β) : ∀ (l : List α) (i : Nat), (l.map f).eraseIdx i = (l.eraseIdx i).map f
  | [], _ => rfl
  | _ :: _, 0 => rfl
  | a :: l, i + 1 => by
    show f a :: (l.map f).eraseIdx i = f a :: (l.eraseIdx i).map f
    rw [eraseIdx_mapL f l i]
theorem cons_eraseIdx {α : Type} : ∀ (l : List α) (j : Nat) (h : j < l.length), (l[j] :: l.eraseIdx j).Perm l
  | [], _, h => absurd h (Nat.not_lt_zero _)
  | a :: l, 0, _ => List.Perm.refl _
  | a :: l, j + 1, h => by
    have h2 : j < l.length := Nat.lt_of_succ_lt_succ h
    show (l[j] :: a :: l.eraseIdx j).Perm (a :: l)
    exact (List.Perm.swap a l[j] _).trans (List.Perm.cons a (cons_eraseIdx l j h2))
structure TxS (mg : Str → Option Value) : Prop where
  list : mg "list" = none
  range : mg "range" = none
  len : mg "len" = none
section
variable {P : Program} {w : World} {K : PySem.W.Frag} {mg : Str → Option Value} {base : Heap}
theorem scShuf : FnScope ["pool", "many", "rest", "found", "k"] ["pool", "many"] (defScope sShuf) := ⟨rfl, rfl, rfl, by decide +kernel, rfl, by decide +kernel, by decide +kernel⟩
theorem ok_shuf {f fD : Addr} {fd fdD : FuncData} (F : Fun K "_law_shuffled" "_law_shuffled" sShuf f fd) (U : TxS mg) (FD : Fun K "_law_draw" "_law_draw" sDraw fD fdD) (bD : Binds K fdD ["pool", "many"] []) (gD : mg "_law_draw" = some (.ref fD))
    (GD : FnOk P w K mg base CX0 2 fD fdD ["pool", "many"] spDraw) : FnOk P w K mg base CX0 3 f fd ["pool", "many"] spShuf := by
  refine F.ok scShuf (fun vs H Q E h => ?_) (fun cdv A outer s H vs Q E hr h => ?_)
  · obtain ⟨p, q, n, rfl, _⟩ := h
    rfl
  · obtain ⟨p, q, n, rfl, hP, h60, k⟩ := h
    refine ⟨_, pss_cons (ps_par (i := 2) (j := 3) (by rfl) scShuf.nd rfl rfl (by decide) rfl rfl (pa_cons (pe_listRg (by rfl) (by rfl) U.list (prg_1 (by rfl) U.range (pv 1))) (pa_cons (pe_lst pa_nil) pa_nil)) (by rfl))
      (pss_cons (ps_for PassesOwn.never rfl (pi_range1 rfl U.range (pa_cons (pv 1) pa_nil)) (pg_name (i := 4) scShuf.nd rfl (.inl rfl))
        (pss_one (ps_expr (pe_bm PySem.F.plainAttrs_list PySem.F.slot_list_append PySem.F.type_list_append mt_append (pv 3) (pa_cons
          (pe_bm PySem.F.plainAttrs_list PySem.F.slot_list_pop PySem.F.type_list_pop mt_popAt (pv 2) (pa_cons (pe_call GD hr rfl gD FD.kp bD .nil pass0 (pa_cons (pv 0) (pa_cons (pe_callB call_len_seq (by rfl) U.len (by decide +kernel) (pa_cons (pv 2) pa_nil)) pa_nil))) pa_nil)) pa_nil)))))
      (pss_one (ps_ret (pv 3)))), ?_⟩
    refine ⟨_, rfl, n, rfl, RgOk.of_le (by decide) (by omega) (by decide) (by omega), fun R hR => ?_⟩
    rw [rgV_ints]
    refine ⟨(by show 0 ≤ sizeLine; decide), fun D hD => ?_⟩
    have fR : Sf p q (upd H R (.lst (intsL (List.range n)))) R (.lst (intsL (List.range n))) := Sf.new hP hR
    have P1 : PoolAt (upd H R (.lst (intsL (List.range n)))) p q := hP.same (Same.new hR)
    have fD := Sf.new (o := .lst []) P1 hD
    have fR2 := fR.same (Same.new (o := .lst []) hD)
    have P2 := P1.same (Same.new (o := .lst []) hD)
    have b0 : But p q H (upd (upd H R (.lst (intsL (List.range n)))) D (.lst [])) := But.of_same ((Same.new hR).trans (Same.new hD))
    have nRD : R ≠ D := ne_of_none fR.e hD
    have hD0 : H D = none := by
      rw [upd_ne nRD.symm] at hD
      exact hD
    refine ⟨_, _, rfl, _, rfl, n, rfl, (by omega), (by omega), for_range (lo := 0) (n := n) (fun i σ H' => ∃ (u4 : Option V) (fs rs : List Nat), σ = [some (.ref p), some (.int (n : Nat)), some (.ref R), some (.ref D), u4] ∧ But p q H H' ∧ PoolAt H' p q ∧ Sf p q H' R (.lst (intsL rs)) ∧ Sf p q H' D (.lst (intsL fs)) ∧ (fs ++ rs).Perm (List.range n) ∧ fs.length = i)
      ⟨_, [], _, rfl, b0, P2, fR2, fD, List.Perm.refl _, rfl⟩ ?_ ?_⟩
    · rintro i σ H1 hi ⟨u4, fs, rs, rfl, b1, P1, r1, d1, pm, hl⟩
      have hlen : fs.length + rs.length = n := by rw [← List.length_append, pm.length_eq, List.length_range]
      refine ⟨_, rfl, .inl ⟨rfl, _, .inl (.inl d1.e)⟩, _, rfl, .inl ⟨rfl, _, .inl (.inl r1.e)⟩, _, rfl, _, rfl, R, _, rfl, .inl (.inl (.inl r1.e)), p, q, _, rfl, P1, ?_, ?_, fun H2 r b2 P2 r0 rn => ?_⟩
      · rw [intsL, List.length_map]
        omega
      · rw [intsL, List.length_map]
        have : (rs.length : Int) ≤ 60 := by omega
        omega
      · rw [intsL, List.length_map] at rn
        obtain ⟨j, rfl⟩ := Int.eq_ofNat_of_zero_le r0
        have hj : j < rs.length := by omega
        have r2 := r1.but b2
        have d2 := d1.but b2
        have eg : (intsL rs)[j]? = some (.int (rs[j] : Nat)) := by
          rw [intsL, List.getElem?_map, List.getElem?_eq_getElem hj]
          rfl
        refine ⟨R, _, _, j, _, rfl, rfl, r2.e, by omega, by omega, ?_, eg, ?_⟩
        · rw [intsL, List.length_map, PySem.seqIndex_of (by omega) (by omega), Int.toNat_natCast]
        · have er : (intsL rs).eraseIdx j = intsL (rs.eraseIdx j) := by
            rw [intsL, intsL, eraseIdx_mapL]
          rw [er]
          refine ⟨D, _, _, rfl, rfl, (upd_ne nRD.symm).trans d2.e, ?_, _, fs ++ [rs[j]], rs.eraseIdx j, rfl, ?_, (P2.same' r2 _).same' ⟨(upd_ne nRD.symm).trans d2.e, d2.np, d2.nq⟩ _, ⟨(upd_ne nRD).trans upd_same, r2.np, r2.nq⟩, ⟨?_, d2.np, d2.nq⟩, ?_, ?_⟩
          · rw [intsL, List.length_map]
            exact Nat.lt_of_lt_of_le (show fs.length < 1000 by omega) (by decide)
          · intro b o n1 n2 e
            have e2 := b2 b o n1 n2 (b1 b o n1 n2 e)
            rw [upd_ne (ne_of_none e hD0), upd_ne (ne_of_none e hR)]
            exact e2
          · rw [upd_same, intsL, intsL, List.map_append]
            rfl
          · rw [List.append_assoc]
            refine (List.Perm.append_left fs ?_).trans pm
            exact cons_eraseIdx rs j hj
          · rw [List.length_append, hl]
            rfl
    · rintro σ H1 ⟨u4, fs, rs, rfl, b1, P1, r1, d1, pm, hl⟩
      have hlen : fs.length + rs.length = n := by rw [← List.length_append, pm.length_eq, List.length_range]
      have : rs = [] := List.length_eq_zero_iff.mp (by omega)
      rw [this, List.append_nil] at pm
      exact ⟨_, rfl, k H1 D fs b1 P1 pm d1.e hD0⟩
end
/-! ### the free numbers, in order -/
theorem mem_frees {es : List V} {m : Int} : m ∈ frees es ↔ ∃ j : Nat, m = (j : Nat) ∧ es[j]? = some V.non := by
  unfold frees freesN
  rw [List.mem_map]
  constructor
  · rintro ⟨j, hj, rfl⟩
    rw [List.mem_filter] at hj
    exact ⟨j, rfl, of_decide_eq_true hj.2⟩
  · rintro ⟨j, rfl, hj⟩
    refine ⟨j, List.mem_filter.mpr ⟨List.mem_range.mpr (List.getElem?_eq_some_iff.mp hj).1, decide_eq_true hj⟩, rfl⟩
theorem frees_lt (es : List V) : (frees es).Pairwise (· < ·) := by
  unfold frees freesN
  rw [List.pairwise_map]
  exact (List.Pairwise.filter _ (List.pairwise_lt_range (n := es.length))).imp fun h => by omega
theorem eq_of_mem : ∀ {l m : List Int}, l.Pairwise (· < ·) → m.Pairwise (· < ·) → (∀ a, a ∈ l ↔ a ∈ m) → l = m
  | [], [], _, _, _ => rfl
  | [], b :: m, _, _, h => absurd ((h b).mpr (List.mem_cons_self ..)) (by simp)
  | a :: l, [], _, _, h => absurd ((h a).mp (List.mem_cons_self ..)) (by simp)
  | a :: l, b :: m, h1, h2, h => by
    obtain ⟨a1, a2⟩ := List.pairwise_cons.mp h1
    obtain ⟨b1, b2⟩ := List.pairwise_cons.mp h2
    have hab : a = b := by
      rcases List.mem_cons.mp ((h a).mp (List.mem_cons_self ..)) with q | q
      · exact q
      · rcases List.mem_cons.mp ((h b).mpr (List.mem_cons_self ..)) with q2 | q2
        · exact q2.symm
        · have := b1 a q
          have := a1 b q2
          omega
    subst hab
    congr 1
    refine eq_of_mem a2 b2 fun x => ?_
    constructor
    · intro hx
      rcases List.mem_cons.mp ((h x).mp (List.mem_cons_of_mem _ hx)) with q | q
      · have := a1 x hx
        omega
      · exact q
    · intro hx
      rcases List.mem_cons.mp ((h x).mpr (List.mem_cons_of_mem _ hx)) with q | q
      · have := b1 x hx
        omega
      · exact q
def castL (l : List Nat) : List Int := l.map fun (m : Nat) => (m : Int)
theorem mem_castL {l : List Nat} {m : Int} : m ∈ castL l ↔ ∃ j : Nat, m = (j : Nat) ∧ j ∈ l := by
  unfold castL
  rw [List.mem_map]
  exact ⟨fun ⟨j, a, b⟩ => ⟨j, b.symm, a⟩, fun ⟨j, a, b⟩ => ⟨j, b, a.symm⟩⟩
theorem castL_lt {l : List Nat} (h : l.Pairwise (· < ·)) : (castL l).Pairwise (· < ·) := by
  unfold castL
  rw [List.pairwise_map]
  exact h.imp fun h => by omega
theorem frees_eq {es : List V} {l : List Nat} (hs : l.Pairwise (· < ·)) (hm : ∀ j : Nat, es[j]? = some V.non ↔ j ∈ l) : frees es = castL l := by
  refine eq_of_mem (frees_lt es) (castL_lt hs) fun a => ?_
  rw [mem_frees, mem_castL]
  exact ⟨fun ⟨j, e, h⟩ => ⟨j, e, (hm j).mp h⟩, fun ⟨j, e, h⟩ => ⟨j, e, (hm j).mpr h⟩⟩
/-- the book has the numbers rest, in the order in which it gives them -/
def Rd (bk : Str) (start : Int) (fr : List Int) (rest : List Nat) : Prop :=
  (bk = "least" ∧ rest.Pairwise (· < ·)) ∨
  (bk = "next" ∧ rest.Pairwise (· < ·) ∧ ((∀ m ∈ rest, start ≤ (m : Int)) ∨ ∀ m ∈ rest, (m : Int) < start)) ∨
  (bk = "last" ∧ ((fr = [] ∧ rest.Pairwise (· < ·)) ∨ (fr = (castL rest).reverse ∧ rest.Nodup)))
theorem Rd.any {bk : Str} {start : Int} {fr : List Int} {rest : List Nat} (h : Rd bk start fr rest) : ¬ bk = "any" := by
  rcases h with ⟨rfl, _⟩ | ⟨rfl, _⟩ | ⟨rfl, _⟩ <;> decide +kernel
theorem nodup_lt {l : List Nat} (h : l.Pairwise (· < ·)) : l.Nodup := h.imp fun h => by omega
theorem Rd.nd {bk : Str} {start : Int} {fr : List Int} {rest : List Nat} (h : Rd bk start fr rest) : rest.Nodup := by
  rcases h with ⟨_, h⟩ | ⟨_, h, _⟩ | ⟨_, ⟨_, h⟩ | ⟨_, h⟩⟩
  · exact nodup_lt h
  · exact nodup_lt h
  · exact nodup_lt h
  · exact h
theorem Rd.nil {bk : Str} {start : Int} {fr : List Int} {es : List V} (hm : ∀ j : Nat, ¬ es[j]? = some V.non) : freeL bk start fr es = [] := by
  have e : frees es = [] := by
    rw [List.eq_nil_iff_forall_not_mem]
    intro a ha
    obtain ⟨j, _, h⟩ := mem_frees.mp ha
    exact hm j h
  unfold freeL
  rw [e]
  split <;> rfl
theorem Rd.told {bk : Str} {start : Int} {fr : List Int} {es : List V} {a : Nat} {rest : List Nat} (h : Rd bk start fr (a :: rest)) (hm : ∀ j : Nat, es[j]? = some V.non ↔ j ∈ a :: rest) : freeL bk start fr es = [(a : Int)] := by
  have hne : frees es ≠ [] := by
    intro q
    have : (a : Int) ∈ frees es := mem_frees.mpr ⟨a, rfl, (hm a).mpr (List.mem_cons_self ..)⟩
    rw [q] at this
    cases this
  unfold freeL
  rw [if_neg h.any, if_neg hne]
  congr 1
  have srt : (a :: rest).Pairwise (· < ·) → frees es = (a : Int) :: castL rest := fun q => frees_eq q hm
  unfold toldN
  rcases h with ⟨rfl, h⟩ | ⟨rfl, h, hs⟩ | ⟨rfl, hs⟩
  · rw [if_neg (by decide +kernel), if_neg (by decide +kernel), srt h]
    rfl
  · rw [if_pos rfl, srt h]
    rcases hs with hs | hs
    · have : ((a : Int) :: castL rest).filter (fun m => decide (start ≤ m)) = (a : Int) :: castL rest := by
        rw [List.filter_eq_self]
        intro m hm2
        have : m ∈ castL (a :: rest) := hm2
        obtain ⟨j, rfl, hj⟩ := mem_castL.mp this
        exact decide_eq_true (hs j hj)
      rw [this]
      rfl
    · have : ((a : Int) :: castL rest).filter (fun m => decide (start ≤ m)) = [] := by
        rw [List.filter_eq_nil_iff]
        intro m hm2
        have : m ∈ castL (a :: rest) := hm2
        obtain ⟨j, rfl, hj⟩ := mem_castL.mp this
        have := hs j hj
        simp only [decide_eq_true_eq]
        omega
      rw [this]
      rfl
  · rw [if_neg (by decide +kernel), if_pos rfl]
    rcases hs with ⟨rfl, hs⟩ | ⟨rfl, hs⟩
    · rw [srt hs]
      rfl
    · have : (castL (a :: rest)).reverse.getLast? = some (a : Int) := by
        show ((a : Int) :: castL rest).reverse.getLast? = some (a : Int)
        rw [List.reverse_cons, List.getLast?_concat]
      rw [this]
      rfl
theorem Rd.step {bk : Str} {start : Int} {fr : List Int} {a : Nat} {rest : List Nat} (h : Rd bk start fr (a :: rest)) : Rd bk ((a : Int) + 1) (fr.filter fun m => !decide (m = (a : Int))) rest := by
  rcases h with ⟨rfl, h⟩ | ⟨rfl, h, hs⟩ | ⟨rfl, hs⟩
  · exact .inl ⟨rfl, (List.pairwise_cons.mp h).2⟩
  · refine .inr (.inl ⟨rfl, (List.pairwise_cons.mp h).2, .inl fun m hm => ?_⟩)
    have := (List.pairwise_cons.mp h).1 m hm
    omega
  · rcases hs with ⟨rfl, hs⟩ | ⟨rfl, hs⟩
    · exact .inr (.inr ⟨rfl, .inl ⟨rfl, (List.pairwise_cons.mp hs).2⟩⟩)
    · refine .inr (.inr ⟨rfl, .inr ⟨?_, (List.nodup_cons.mp hs).2⟩⟩)
      have e : castL (a :: rest) = (a : Int) :: castL rest := rfl
      rw [e, List.reverse_cons, List.filter_append]
      have e1 : [(a : Int)].filter (fun m => !decide (m = (a : Int))) = [] := by simp
      rw [e1, List.append_nil, List.filter_eq_self]
      intro m hm
      obtain ⟨j, rfl, hj⟩ := mem_castL.mp (List.mem_reverse.mp hm)
      have : j ≠ a := fun q => (List.nodup_cons.mp hs).1 (q ▸ hj)
      have : ¬ (j : Int) = (a : Int) := by omega
      simp [this]
/-- what is free behind a giving -/
theorem non_set {es : List V} {a : Nat} {e : Int} {rest : List Nat} (ha : a < es.length) (hn : a ∉ rest) (hm : ∀ j : Nat, es[j]? = some V.non ↔ j ∈ a :: rest) (j : Nat) : (es.set a (.int e))[j]? = some V.non ↔ j ∈ rest := by
  by_cases h : a = j
  · subst h
    rw [List.getElem?_set_self ha]
    exact ⟨fun q => (by cases q), fun q => absurd q hn⟩
  · rw [List.getElem?_set_ne h, hm j]
    constructor
    · intro q
      rcases List.mem_cons.mp q with q | q
      · exact absurd q.symm h
      · exact q
    · exact fun q => List.mem_cons_of_mem _ q
theorem ent_set {es : List V} {a : Nat} {v : V} (h : ∀ u ∈ es, EntV u) (hv : EntV v) : ∀ u ∈ es.set a v, EntV u := fun u hu => by
  rcases List.mem_or_eq_of_mem_set hu with q | q
  · exact h u q
  · exact q ▸ hv
theorem ent_rep (n : Nat) : ∀ u ∈ List.replicate n V.non, EntV u := fun u hu => .inl (List.eq_of_mem_replicate hu)
theorem between_eq {v : V} {lo hi : Int} (h : 0 ≤ lo) : isBetween v lo hi = inB v lo hi := by
  cases v with
  | int i =>
    show (decide (0 ≤ i) && (decide (lo ≤ i) && decide (i ≤ hi))) = (decide (lo ≤ i) && decide (i ≤ hi))
    by_cases g : lo ≤ i
    · have : 0 ≤ i := by omega
      simp [g, this]
    · simp [g]
  | _ => rfl
section
variable {K : PySem.W.Frag} {C CN CB : Addr} {H : Hp}
/-- all is right: a table at a new address -/
theorem mkT_ok {n m : Nat} {z : Str} {Q : Addr → Hp → Prop} {E : XK} (h1 : isBetween (.int (n : Nat)) 1 60 = true) (h2 : isBook (.str z) = true) (h3 : isBetween (.int (m : Nat)) 1 4 = true) (hz : z.length ≤ 1000)
    (k : ∀ H' x dx pe pc pf, Same H H' → H x = none → TAt H' C x dx pe pc pf n z (m : Nat) (List.replicate n .non) (List.replicate n 0) 0 0 [] → H pe = none → H pc = none → H pf = none → Q x H') :
    ∀ x dx, H x = none → H dx = none → dx ≠ x → spTable C CN CB [.ref x, .int (n : Nat), .str z, .int (m : Nat)] (upd (upd H dx (.own x)) x (.ins C dx [])) (fun v H3 => v = .non ∧ Q x H3) E := by
  intro x dx hx hd ne
  have old : ∀ a, (upd (upd H dx (.own x)) x (.ins C dx [])) a = none → H a = none := fun a e => by
    have n1 : a ≠ x := fun z => by rw [z, upd_same] at e; cases e
    rw [upd_ne n1] at e
    have n2 : a ≠ dx := fun z => by rw [z, upd_same] at e; cases e
    rwa [upd_ne n2] at e
  refine ⟨x, dx, .int (n : Nat), .str z, .int (m : Nat), _, _, _, rfl, upd_same, .int _, .str z hz, .int _, fun q => ?_, fun _ q => ?_, fun _ _ q => ?_, fun _ _ _ H' n' pe pc pf en s ei ee ec ef he hc hf q1 q2 q3 => ⟨rfl, ?_⟩⟩
  · rw [h1] at q; cases q
  · rw [h2] at q; cases q
  · rw [h3] at q; cases q
  · have n60 := (between_int h1).choose_spec
    obtain ⟨i, ei', _, _, i60⟩ := between_int h1
    injection ei' with ei'
    injection en with en
    subst en
    rw [Int.toNat_natCast] at ee ec
    refine k H' x dx pe pc pf ?_ hx ⟨ei, ee, ?_, ef, by rw [List.length_replicate], by rw [List.length_replicate], by omega, q1, q2, q3⟩ (old _ he) (old _ hc) (old _ hf)
    · intro b u q
      exact s b u (ne_of_none q hx) (same_made hx hd ne b u q)
    · rw [List.map_replicate]
      exact ec
variable {v1 v2 v3 : V} {k1 k2 k3 : String} {Q : Addr → VK} {E : XK}
/-- the first, second, third is wrong -/
theorem mkT_bad (h1 : Kd H v1 k1) (h2 : Kd H v2 k2) (h3 : Kd H v3 k3) (b1 : isBetween v1 1 60 = false → Bad E H CN v1) (b2 : isBetween v1 1 60 = true → isBook v2 = false → Bad E H CB v2) (b3 : isBetween v1 1 60 = true → isBook v2 = true → isBetween v3 1 4 = false → Bad E H CN v3)
    (no : isBetween v1 1 60 = true → isBook v2 = true → isBetween v3 1 4 = true → False) :
    ∀ x dx, H x = none → H dx = none → dx ≠ x → spTable C CN CB [.ref x, v1, v2, v3] (upd (upd H dx (.own x)) x (.ins C dx [])) (Q x) E := by
  intro x dx hx hd ne
  have s := same_made (C := C) hx hd ne
  exact ⟨x, dx, v1, v2, v3, _, _, _, rfl, upd_same, h1.same s, h2.same s, h3.same s, fun q => (b1 q).imp s, fun q1 q2 => (b2 q1 q2).imp s, fun q1 q2 q3 => (b3 q1 q2 q3).imp s, fun q1 q2 q3 => (no q1 q2 q3).elim⟩
end
/-! ### a join behind a statement -/
theorem pss_join {X : Cx} {st : Stmt} {rest : List Stmt} {t u : TS} (h1 : PS X st t) (h2 : PSs X rest u) : PSs X (st :: rest) (fun D σ H => ∃ J : L2.St → Hp → Prop, t { D with nx := J } σ H ∧ ∀ σ' H', J σ' H' → u D σ' H') := by
  refine ⟨fun pins s σ H D I h => ?_⟩
  obtain ⟨J, h, hJ⟩ := h
  refine wpAny_execs_cons (thn (h1.run pins s σ H { D with nx := J } I h) fun f s1 q => ?_)
  cases f with
  | next =>
    obtain ⟨σ', H', I', q⟩ := q
    exact h2.run pins s1 σ' H' D I' (hJ _ _ q)
  | ret v => exact q
  | brk => exact q
  | cont => exact q
def dI (l : List Nat) : PyData := .list (l.map fun (m : Nat) => PyData.int (m : Nat))
theorem dp_ints {K : PySem.W.Frag} {H : Hp} {a : Addr} {l : List Nat} (e : H a = some (.lst (intsL l))) : Dp K H (.ref a) (dI l) := by
  refine .lst (.inl (.inl e)) ?_
  clear e
  unfold intsL
  induction l with
  | nil => exact .nil
  | cons m l ih => exact .cons (.int _) ih
theorem shaped_ints (l : List Nat) : SeqAt.shaped (dI l) = true := by
  have h1 : ∀ l : List Nat, PyData.canLayAll0 (l.map fun (m : Nat) => PyData.int (m : Nat)) = true := fun l => by
    induction l with
    | nil => rfl
    | cons m l ih =>
      show (true && PyData.canLayAll0 (l.map fun (m : Nat) => PyData.int (m : Nat))) = true
      rw [ih]
      rfl
  have h2 : ∀ l : List Nat, PyData.depthAll (l.map fun (m : Nat) => PyData.int (m : Nat)) = 0 := fun l => by
    induction l with
    | nil => rfl
    | cons m l ih =>
      show max (PyData.depth (.int m)) (PyData.depthAll (l.map fun (m : Nat) => PyData.int (m : Nat))) = 0
      rw [ih]
      rfl
  show (PyData.canLayAll0 (l.map fun (m : Nat) => PyData.int (m : Nat)) && decide (PyData.depthAll (l.map fun (m : Nat) => PyData.int (m : Nat)) + 1 ≤ 64)) = true
  rw [h1, h2]
  rfl
theorem eqv_ints (l : List Nat) : PyData.eqv (dI l) (dI l) = true := by
  unfold dI
  induction l with
  | nil => rfl
  | cons m l ih =>
    show (((m : Int) == (m : Int)) && PyData.eqv (.list (l.map fun (m : Nat) => PyData.int (m : Nat))) (.list (l.map fun (m : Nat) => PyData.int (m : Nat)))) = true
    rw [ih]
    simp
def Aw (x pe pc pf b : Addr) : Prop := b ≠ x ∧ b ≠ pe ∧ b ≠ pc ∧ b ≠ pf
section
variable {K : PySem.W.Frag} {H H' : Hp} {C Ch x dx pe pc pf pf' b D p q h : Addr} {n : Nat} {bk : Str} {tn : Int} {es : List V} {cs : List Int} {many start : Int} {fr : List Int} {o : HO} {i t e : Int}
theorem Aw.new (a : Aw x pe pc pf b) (hb : H b = some o) (hn : H pf' = none) : Aw x pe pc pf' b := ⟨a.1, a.2.1, a.2.2.1, ne_of_none hb hn⟩
theorem Off.at_ (s : Off x pe pc pf H H') (a : Aw x pe pc pf b) (e : H b = some o) : H' b = some o := s b o a.1 a.2.1 a.2.2.1 a.2.2.2 e
theorem PoolAt.off (hP : PoolAt H p q) (a : Aw x pe pc pf p) (b : Aw x pe pc pf q) (s : Off x pe pc pf H H') : PoolAt H' p q := by
  obtain ⟨ns, i, x, z, y, h1, h2, h3⟩ := hP
  exact ⟨ns, i, x, z, y, s.at_ a h1, s.at_ b h2, h3⟩
theorem PoolAt.put (hP : PoolAt H p q) (n1 : p ≠ D) (n2 : q ≠ D) : PoolAt (upd H D o) p q := by
  obtain ⟨ns, i, x, z, y, h1, h2, h3⟩ := hP
  exact ⟨ns, i, x, z, y, (upd_ne n1).trans h1, (upd_ne n2).trans h2, h3⟩
theorem PoolAt.nep (hP : PoolAt H p q) (hD : H D = none) : p ≠ D ∧ q ≠ D := by
  obtain ⟨ns, i, x, z, y, h1, h2, h3⟩ := hP
  exact ⟨ne_of_none h1 hD, ne_of_none h2 hD⟩
theorem HAt.aw (ha : HAt H Ch h i t e) (tt : TAt H C x dx pe pc pf n bk tn es cs many start fr) : Aw x pe pc pf h := by
  obtain ⟨dh, hh⟩ := ha
  refine ⟨fun q => ?_, fun q => ?_, fun q => ?_, fun q => ?_⟩
  · rw [q, tt.ins] at hh
    simp [tbF] at hh
  · rw [q, tt.ens] at hh; cases hh
  · rw [q, tt.cnt] at hh; cases hh
  · rw [q, tt.fre] at hh; cases hh
theorem HAt.off (ha : HAt H Ch h i t e) (tt : TAt H C x dx pe pc pf n bk tn es cs many start fr) (s : Off x pe pc pf H H') : HAt H' Ch h i t e := by
  have a := ha.aw tt
  obtain ⟨dh, hh⟩ := ha
  exact ⟨dh, s.at_ a hh⟩
theorem HAt.put (ha : HAt H Ch h i t e) {xs : List V} (hD : H D = some (.lst xs)) : HAt (upd H D o) Ch h i t e := by
  obtain ⟨dh, hh⟩ := ha
  exact ⟨dh, (upd_ne (fun q => by rw [q, hD] at hh; cases hh)).trans hh⟩
theorem TAt.put (tt : TAt H C x dx pe pc pf n bk tn es cs many start fr) (a : Aw x pe pc pf D) : TAt (upd H D o) C x dx pe pc pf n bk tn es cs many start fr :=
  ⟨(upd_ne a.1.symm).trans tt.ins, (upd_ne a.2.1.symm).trans tt.ens, (upd_ne a.2.2.1.symm).trans tt.cnt, (upd_ne a.2.2.2.symm).trans tt.fre, tt.len, tt.lec, tt.lim, tt.q1, tt.q2, tt.q3⟩
theorem TAt.aw_none (tt : TAt H C x dx pe pc pf n bk tn es cs many start fr) (hD : H D = none) : Aw x pe pc pf D :=
  ⟨(ne_of_none tt.ins hD).symm, (ne_of_none tt.ens hD).symm, (ne_of_none tt.cnt hD).symm, (ne_of_none tt.fre hD).symm⟩
theorem TAt.but (tt : TAt H C x dx pe pc pf n bk tn es cs many start fr) (b : But p q H H') (a1 : Aw x pe pc pf p) (a2 : Aw x pe pc pf q) : TAt H' C x dx pe pc pf n bk tn es cs many start fr :=
  ⟨b _ _ a1.1.symm a2.1.symm tt.ins, b _ _ a1.2.1.symm a2.2.1.symm tt.ens, b _ _ a1.2.2.1.symm a2.2.2.1.symm tt.cnt, b _ _ a1.2.2.2.symm a2.2.2.2.symm tt.fre, tt.len, tt.lec, tt.lim, tt.q1, tt.q2, tt.q3⟩
end
theorem rng_cons {i n : Nat} (h : i < n) : List.range' i (n - i) = i :: List.range' (i + 1) (n - (i + 1)) := by
  obtain ⟨k, hk⟩ : ∃ k, n - i = k + 1 := ⟨n - i - 1, by omega⟩
  have e : n - (i + 1) = k := by omega
  rw [hk, e, List.range'_succ]
/-- the lists and the pool of the law, beside the table -/
structure Side (H : Hp) (p q O : Addr) (os : List Nat) (x pe pc pf : Addr) : Prop where
  pool : PoolAt H p q
  ap : Aw x pe pc pf p
  aq : Aw x pe pc pf q
  o : H O = some (.lst (intsL os))
  ao : Aw x pe pc pf O
theorem Side.off {H H' : Hp} {p q O : Addr} {os : List Nat} {x pe pc pf pf' : Addr} (s : Side H p q O os x pe pc pf) (f : Off x pe pc pf H H') (hn : H pf' = none) : Side H' p q O os x pe pc pf' := by
  have hp := s.pool
  obtain ⟨ns, i, y, z, b, h1, h2, h3⟩ := hp
  exact ⟨s.pool.off s.ap s.aq f, s.ap.new h1 hn, s.aq.new h2 hn, f.at_ s.ao s.o, s.ao.new s.o hn⟩
theorem Side.same {H H' : Hp} {p q O : Addr} {os : List Nat} {x pe pc pf : Addr} (s : Side H p q O os x pe pc pf) (f : Same H H') : Side H' p q O os x pe pc pf := ⟨s.pool.same f, s.ap, s.aq, f _ _ s.o, s.ao⟩
theorem Side.put {H : Hp} {p q O D : Addr} {os : List Nat} {x pe pc pf : Addr} {u : HO} (s : Side H p q O os x pe pc pf) (n1 : p ≠ D) (n2 : q ≠ D) (n3 : O ≠ D) : Side (upd H D u) p q O os x pe pc pf := ⟨s.pool.put n1 n2, s.ap, s.aq, (upd_ne n3).trans s.o, s.ao⟩
/-- the table is filled up to i -/
structure Fill (H : Hp) (C Ch x dx pe pc pf D : Addr) (n : Nat) (z : Str) (i : Nat) (es : List V) (cs : List Int) (hs : List Addr) : Prop where
  t : TAt H C x dx pe pc pf n z 1 es cs (i : Nat) (i : Nat) []
  rd : Rd z (i : Nat) [] (List.range' i (n - i))
  non : ∀ j : Nat, es[j]? = some V.non ↔ j ∈ List.range' i (n - i)
  ent : ∀ j : Nat, j < i → es[j]? = some (.int (j : Nat))
  cnt : ∀ j : Nat, j < n → cs[j]? = some (if j < i then 1 else 0)
  hl : hs.length = i
  hat : ∀ (j : Nat) (h : Addr), hs[j]? = some h → HAt H Ch h (j : Nat) 0 (j : Nat)
  d : H D = some (.lst (hs.map V.ref))
  ad : Aw x pe pc pf D
theorem Fill.same {H H' : Hp} {C Ch x dx pe pc pf D : Addr} {n : Nat} {z : Str} {i : Nat} {es : List V} {cs : List Int} {hs : List Addr} (f : Fill H C Ch x dx pe pc pf D n z i es cs hs) (s : Same H H') : Fill H' C Ch x dx pe pc pf D n z i es cs hs :=
  ⟨f.t.same s, f.rd, f.non, f.ent, f.cnt, f.hl, fun j h e => (f.hat j h e).same s, s _ _ f.d, f.ad⟩
theorem cut_ints (os : List Nat) (m : Nat) : cutV (intsL os) none (some (m : Int)) = intsL (os.take m) := by
  unfold cutV intsL
  rw [HT.sIx_nat, HT.sIx_none, Nat.sub_zero, List.drop_zero, List.map_take, List.length_map]
  by_cases h : m ≤ os.length
  · rw [Nat.min_eq_left h]
  · rw [Nat.min_eq_right (by omega), List.take_of_length_le (by rw [List.length_map]; exact Nat.le_refl _), List.take_of_length_le (by rw [List.length_map]; omega)]
/-- the first i of gs are closed -/
structure Cls_ (H : Hp) (C Ch x dx pe pc pf D G : Addr) (n : Nat) (z : Str) (gs : List Nat) (i : Nat) (es : List V) (cs : List Int) (hs : List Addr) : Prop where
  t : TAt H C x dx pe pc pf n z 1 es cs (n : Nat) (n : Nat) (castL (gs.take i))
  ent : ∀ j : Nat, j < n → es[j]? = some (if j ∈ gs.take i then V.non else .int (j : Nat))
  cnt : ∀ j : Nat, j < n → cs[j]? = some 1
  hl : hs.length = n
  hat : ∀ (j : Nat) (h : Addr), hs[j]? = some h → HAt H Ch h (j : Nat) 0 (j : Nat)
  d : H D = some (.lst (hs.map V.ref))
  ad : Aw x pe pc pf D
  g : H G = some (.lst (intsL gs))
  ag : Aw x pe pc pf G
theorem Cls_.same {H H' : Hp} {C Ch x dx pe pc pf D G : Addr} {n : Nat} {z : Str} {gs : List Nat} {i : Nat} {es : List V} {cs : List Int} {hs : List Addr} (f : Cls_ H C Ch x dx pe pc pf D G n z gs i es cs hs) (s : Same H H') : Cls_ H' C Ch x dx pe pc pf D G n z gs i es cs hs :=
  ⟨f.t.same s, f.ent, f.cnt, f.hl, fun j h e => (f.hat j h e).same s, s _ _ f.d, f.ad, s _ _ f.g, f.ag⟩
theorem use_done {n : Nat} {es : List V} {cs : List Int} {j : Nat} (hj : j < n) (he : es[j]? = some (.int (j : Nat))) (hc : cs[j]? = some 1) : useW n 1 es cs j 0 (j : Nat) = "done" := by
  unfold useW
  rw [if_neg (by omega), he]
  have hcd : cs.getD j 0 = 1 := by rw [List.getD_eq_getElem?_getD, hc]; rfl
  show (if (cs.getD j 0 - 1) % 1 = 0 then (if ((j : Nat) : Int) = (j : Nat) then ("done" : Str) else "fault") else "refused") = "done"
  rw [hcd, if_pos (by decide), if_pos rfl]
theorem HAt.but {H H' : Hp} {p q Ch h : Addr} {i t e : Int} (ha : HAt H Ch h i t e) (b : But p q H H') (hP : PoolAt H p q) : HAt H' Ch h i t e := by
  obtain ⟨dh, hh⟩ := ha
  obtain ⟨ns, i, x, z, y, h1, h2, h3⟩ := hP
  exact ⟨dh, b _ _ (fun q => by rw [q, h1] at hh; cases hh) (fun q => by rw [q, h2] at hh; cases hh) hh⟩
theorem Cls_.entV {H : Hp} {C Ch x dx pe pc pf D G : Addr} {n : Nat} {z : Str} {gs : List Nat} {i : Nat} {es : List V} {cs : List Int} {hs : List Addr} (c : Cls_ H C Ch x dx pe pc pf D G n z gs i es cs hs) : ∀ u ∈ es, EntV u := fun u hu => by
  obtain ⟨j, hj⟩ := List.mem_iff_getElem?.mp hu
  have hl : j < n := by rw [← c.t.len]; exact (List.getElem?_eq_some_iff.mp hj).1
  rw [c.ent j hl] at hj
  injection hj with hj
  rw [← hj]
  by_cases q : j ∈ gs.take i
  · rw [if_pos q]; exact .inl rfl
  · rw [if_neg q]; exact .inr ⟨_, rfl⟩
theorem castL_len (l : List Nat) : (castL l).length = l.length := by unfold castL; rw [List.length_map]
theorem not_take {gs : List Nat} (hn : gs.Nodup) {i g : Nat} (hg : gs[i]? = some g) : g ∉ gs.take i ∧ gs.take (i + 1) = gs.take i ++ [g] := by
  have e : gs.take (i + 1) = gs.take i ++ [g] := by rw [List.take_succ, hg]; rfl
  refine ⟨fun q => ?_, e⟩
  have h : (gs.take i ++ [g]).Nodup := by rw [← e]; exact List.Pairwise.sublist (List.take_sublist _ _) hn
  exact (List.pairwise_append.mp h).2.2 g q g (List.mem_singleton.mpr rfl) rfl
theorem Cls_.step {H H' : Hp} {C Ch x dx pe pc pf D G : Addr} {n : Nat} {z : Str} {gs : List Nat} {i g : Nat} {es : List V} {cs : List Int} {hs : List Addr} (c : Cls_ H C Ch x dx pe pc pf D G n z gs i es cs hs) (hn : gs.Nodup) (hg : gs[i]? = some g) (hgn : g < n) (o : Off x pe pc pf H H')
    (t : TAt H' C x dx pe pc pf n z 1 (es.set g .non) cs (n : Nat) (n : Nat) (castL (gs.take i) ++ [(g : Int)])) : Cls_ H' C Ch x dx pe pc pf D G n z gs (i + 1) (es.set g .non) cs hs := by
  obtain ⟨ng, e⟩ := not_take hn hg
  refine ⟨?_, fun j hj => ?_, c.cnt, c.hl, fun j h q => (c.hat j h q).off c.t o, o.at_ c.ad c.d, c.ad, o.at_ c.ag c.g, c.ag⟩
  · rw [e]
    have : castL (gs.take i ++ [g]) = castL (gs.take i) ++ [(g : Int)] := by unfold castL; rw [List.map_append]; rfl
    rw [this]
    exact t
  · rw [e]
    by_cases q : g = j
    · subst q
      rw [List.getElem?_set_self (by rw [c.t.len]; exact hgn), if_pos (List.mem_append_right _ (List.mem_singleton.mpr rfl))]
    · rw [List.getElem?_set_ne q, c.ent j hj]
      by_cases q2 : j ∈ gs.take i
      · rw [if_pos q2, if_pos (List.mem_append_left _ q2)]
      · rw [if_neg q2, if_neg (fun r => by
          rcases List.mem_append.mp r with r | r
          · exact q2 r
          · exact q (List.mem_singleton.mp r).symm)]
theorem Side.off2 {H H' : Hp} {p q O : Addr} {os : List Nat} {x pe pc pf : Addr} (s : Side H p q O os x pe pc pf) (f : Off x pe pc pf H H') : Side H' p q O os x pe pc pf := ⟨s.pool.off s.ap s.aq f, s.ap, s.aq, f.at_ s.ao s.o, s.ao⟩
theorem castL_toNat (l : List Nat) : (castL l).map Int.toNat = l := by
  unfold castL
  rw [List.map_map]
  exact (List.map_congr_left (fun a _ => Int.toNat_natCast a)).trans (List.map_id l)
theorem castL_V (l : List Nat) : (castL l).map V.int = intsL l := by
  unfold castL intsL
  rw [List.map_map]
  rfl
theorem exists_castL : ∀ {l : List Int}, (∀ m ∈ l, 0 ≤ m) → ∃ ds, l = castL ds
  | [], _ => ⟨[], rfl⟩
  | a :: l, h => by
    obtain ⟨ds, e⟩ := exists_castL (l := l) fun m hm => h m (List.mem_cons_of_mem _ hm)
    obtain ⟨j, hj⟩ := Int.eq_ofNat_of_zero_le (h a (List.mem_cons_self ..))
    exact ⟨j :: ds, by rw [e, hj]; rfl⟩
theorem sorted_cast {gs : List Nat} (hn : gs.Nodup) {ns : List Int} (hp : ns.Perm (castL gs)) (hr : ns.Pairwise (· ≤ ·)) : ∃ ds, ns = castL ds ∧ ds.Perm gs ∧ ds.Pairwise (· < ·) := by
  obtain ⟨ds, e⟩ := exists_castL (l := ns) fun m hm => by
    obtain ⟨j, rfl, _⟩ := mem_castL.mp (hp.mem_iff.mp hm)
    exact Int.natCast_nonneg j
  have p2 : ds.Perm gs := by
    have := hp.map Int.toNat
    rw [e, castL_toNat, castL_toNat] at this
    exact this
  refine ⟨ds, e, p2, ?_⟩
  have nd : ds.Nodup := p2.nodup_iff.mpr hn
  have le : ds.Pairwise (· ≤ ·) := by
    rw [e] at hr
    unfold castL at hr
    rw [List.pairwise_map] at hr
    exact hr.imp fun h => by omega
  exact (le.and nd).imp fun ⟨a, b⟩ => by omega
/-- a table whose free numbers are rest -/
structure Re (H : Hp) (C x dx pe pc pf : Addr) (n : Nat) (z : Str) (rest : List Nat) (es : List V) (cs : List Int) (many start : Int) (fr : List Int) : Prop where
  t : TAt H C x dx pe pc pf n z 1 es cs many start fr
  non : ∀ j : Nat, es[j]? = some V.non ↔ j ∈ rest
  ent : ∀ u ∈ es, EntV u
  m0 : 0 ≤ many
  f1 : fr.length ≤ 100
theorem Re.same {H H' : Hp} {C x dx pe pc pf : Addr} {n : Nat} {z : Str} {rest : List Nat} {es : List V} {cs : List Int} {many start : Int} {fr : List Int} (r : Re H C x dx pe pc pf n z rest es cs many start fr) (s : Same H H') : Re H' C x dx pe pc pf n z rest es cs many start fr := ⟨r.t.same s, r.non, r.ent, r.m0, r.f1⟩
theorem Re.put {H : Hp} {C x dx pe pc pf D : Addr} {n : Nat} {z : Str} {rest : List Nat} {es : List V} {cs : List Int} {many start : Int} {fr : List Int} {o : HO} (r : Re H C x dx pe pc pf n z rest es cs many start fr) (a : Aw x pe pc pf D) : Re (upd H D o) C x dx pe pc pf n z rest es cs many start fr := ⟨r.t.put a, r.non, r.ent, r.m0, r.f1⟩
theorem Re.cnt {H : Hp} {C x dx pe pc pf : Addr} {n : Nat} {z : Str} {rest : List Nat} {es : List V} {cs : List Int} {many start : Int} {fr : List Int} (r : Re H C x dx pe pc pf n z rest es cs many start fr) {g : Nat} (hg : g < n) : ∃ c, cs[g]? = some c :=
  ⟨_, List.getElem?_eq_getElem (by rw [r.t.lec]; exact hg)⟩
theorem Re.lt {H : Hp} {C x dx pe pc pf : Addr} {n : Nat} {z : Str} {rest : List Nat} {es : List V} {cs : List Int} {many start : Int} {fr : List Int} (r : Re H C x dx pe pc pf n z rest es cs many start fr) {g : Nat} (hg : g ∈ rest) : g < n := by
  rw [← r.t.len]
  exact (List.getElem?_eq_some_iff.mp ((r.non g).mpr hg)).1
theorem Re.step {H H' : Hp} {C x dx pe pc pf pf' : Addr} {n g : Nat} {z : Str} {rest : List Nat} {es : List V} {cs : List Int} {many start c : Int} {fr : List Int} (r : Re H C x dx pe pc pf n z (g :: rest) es cs many start fr) (nd : (g :: rest).Nodup)
    (t : TAt H' C x dx pe pc pf' n z 1 (es.set g (.int many)) (cs.set g (c + 1)) (many + 1) ((g : Int) + 1) (fr.filter fun m => !decide (m = (g : Int)))) : Re H' C x dx pe pc pf' n z rest (es.set g (.int many)) (cs.set g (c + 1)) (many + 1) ((g : Int) + 1) (fr.filter fun m => !decide (m = (g : Int))) := by
  have hg := r.lt (List.mem_cons_self ..)
  refine ⟨t, non_set (by rw [r.t.len]; exact hg) (List.nodup_cons.mp nd).1 r.non, ent_set r.ent (.inr ⟨_, rfl⟩), ?_, Nat.le_trans (List.length_filter_le _ _) r.f1⟩
  have := r.m0
  omega
theorem Re.nil {H : Hp} {C x dx pe pc pf : Addr} {n : Nat} {z : Str} {es : List V} {cs : List Int} {many start : Int} {fr : List Int} (r : Re H C x dx pe pc pf n z [] es cs many start fr) : freeL z start fr es = [] :=
  Rd.nil fun j e => by
    have := (r.non j).mp e
    cases this
theorem Re.count {H : Hp} {C x dx pe pc pf : Addr} {n : Nat} {z : Str} {es : List V} {cs : List Int} {many start : Int} {fr : List Int} (r : Re H C x dx pe pc pf n z [] es cs many start fr) : countE es = n := by
  have e : es.filter isSomeE = es := by
    rw [List.filter_eq_self]
    intro v hv
    unfold isSomeE
    by_cases q : v = V.non
    · obtain ⟨j, hj⟩ := List.mem_iff_getElem?.mp hv
      rw [q] at hj
      have := (r.non j).mp hj
      cases this
    · rw [decide_eq_false q]
      rfl
  unfold countE
  rw [e]
  exact r.t.len
theorem Re.any {H : Hp} {C x dx pe pc pf : Addr} {n : Nat} {rest : List Nat} {es : List V} {cs : List Int} {many start : Int} {fr : List Int} (r : Re H C x dx pe pc pf n "any" rest es cs many start fr) (g : Nat) : (g : Int) ∈ freeL "any" start fr es ↔ g ∈ rest := by
  unfold freeL
  rw [if_pos rfl, mem_frees]
  constructor
  · rintro ⟨j, e, h⟩
    have : g = j := by omega
    subst this
    exact (r.non g).mp h
  · exact fun h => ⟨g, rfl, (r.non g).mpr h⟩
theorem drop_cons {gs : List Nat} {i : Nat} (h : i < gs.length) : gs.drop i = gs[i] :: gs.drop (i + 1) := List.drop_eq_getElem_cons h
abbrev sLaw : Stmt := top 21
def spLaw (K : PySem.W.Frag) : Sp := fun vs H Q _ => ∃ (a : Addr) (ns : List Int), vs = [.ref a] ∧ SqL K H a (ns.map V.int) ∧ ns.length ≤ 63 ∧ ∀ H', Q (.bl true) H'
structure TxL (mg : Str → Option Value) : Prop where
  list : mg "list" = none
  range : mg "range" = none
  len : mg "len" = none
  sorted : mg "sorted" = none
  int : mg "int" = none
/-- the ways in which this law asks for a table, for a giving -/
theorem tb_binds1 {K : PySem.W.Frag} {f : Addr} {fd : FuncData} (F : FunD K "__init__" "Table.__init__" (defArgs sTbInit) (defBody sTbInit) (defScope sTbInit) [] [("book", .str "least"), ("turns", .int 1)] f fd) :
    ∃ mv : List Value, KBn K fd ["self", "size", "book", "turns"] 2 ["book"] (fun us ws => us ++ ws ++ mv) (fun vs zs => vs ++ zs ++ [.int 1]) := by
  refine F.kbinds0 (ps := ["self", "size", "book", "turns"]) 2 ["book"] [("turns", .int 1)] (fun {α} vs mz zs => vs ++ zs ++ mz) (by simp) (fun q h => by simp at h; simp [h]) (fun r1 r2 r3 => (r1.append r3).append r2) (fun D doc pm an cdv ct us mv ws l1 l2 l3 => by
      match us, mv, ws, l1, l2, l3 with
      | [a, b], [e], [g], _, _, _ => exact ⟨_, _, _, _, _, _, rfl, rfl, rfl⟩)
theorem gv_binds {K : PySem.W.Frag} {f : Addr} {fd : FuncData} (F : FunD K "give" "Table.give" (defArgs sTbGive) (defBody sTbGive) (defScope sTbGive) [.non] [] f fd) :
    (∃ ds, Vals [.non] ds ∧ Binds K fd ["self", "number"] ds) ∧ Binds K fd ["self", "number"] [] := by
  refine ⟨?_, ?_⟩
  · exact F.binds1 (ps := ["self", "number"]) 1 0 (by simp) rfl (fun T kV doc pm an cdv ct us its l1 l2 => by
      match us, its, l1, l2 with
      | [a], [i], _, _ => exact ⟨_, rfl, rfl⟩)
  · obtain ⟨ds, v, b⟩ := F.binds1 (ps := ["self", "number"]) 2 1 (by simp) rfl (fun T kV doc pm an cdv ct us its l1 l2 => by
      match us, its, l1, l2 with
      | [a, b], [i], _, _ => exact ⟨_, rfl, rfl⟩)
    cases v
    exact b
section
variable {P : Program} {w : World} {K : PySem.W.Frag} {mg : Str → Option Value} {base : Heap}
theorem scLaw : FnScope ["script", "pool", "turn", "wide", "order", "word", "table", "handles", "gone", "number", "due", "k", "one"] ["script"] (defScope sLaw) := ⟨rfl, rfl, rfl, by decide +kernel, rfl, by decide +kernel, by decide +kernel⟩
set_option maxHeartbeats 16000000 in
theorem ok_law {f fB fD fS C Ch CN CB fT fGi fC fF fL pNu gNu : Addr} {fdB fdD fdS fdT fdGi fdC fdF fdL fdNu : FuncData} {dsG mvT : List Value}
    {oc kV doc pm cdv ct : Value} {od an : Option Addr} {osl : Array (Option Value)}
    (lk : K.lookup f = some ⟨oc, od, .func (PySem.W.fnOf "law" "law" (defArgs sLaw) (defBody sLaw) (defScope sLaw) .none kV doc pm an cdv ct), osl⟩) (hcd : PySem.W.codeIn K cdv "law" = true)
    (U : TxL mg) (S : TbCls K mg C) (Sh : HCls K mg Ch)
    (FB : Fun K "_law_begin" "_law_begin" sBegin fB fdB) (bB : Binds K fdB ["script"] []) (gB : mg "_law_begin" = some (.ref fB)) (GB : FnOk P w K mg base CX0 1 fB fdB ["script"] (spBegin K))
    (FD : Fun K "_law_draw" "_law_draw" sDraw fD fdD) (bD : Binds K fdD ["pool", "many"] []) (gD : mg "_law_draw" = some (.ref fD)) (GD : FnOk P w K mg base CX0 2 fD fdD ["pool", "many"] spDraw)
    (FS : Fun K "_law_shuffled" "_law_shuffled" sShuf fS fdS) (bS : Binds K fdS ["pool", "many"] []) (gS : mg "_law_shuffled" = some (.ref fS)) (GS : FnOk P w K mg base CX0 3 fS fdS ["pool", "many"] spShuf)
    (MH : Mk K C fT) (GT : FnOk P w K mg base (L2.CX P w) 3 fT fdT ["self", "size", "book", "turns"] (spTable C CN CB))
    (kb : KBn K fdT ["self", "size", "book", "turns"] 2 ["book"] (fun us ws => us ++ ws ++ mvT) (fun vs zs => vs ++ zs ++ [.int 1]))
    (MGi : Meth K C "give" fGi) (GGi : FnOk P w K mg base (L2.CX P w) 7 fGi fdGi ["self", "number"] (spGive C Ch CN)) (bG1 : Binds K fdGi ["self", "number"] dsG) (dG1 : Vals [.non] dsG) (bG2 : Binds K fdGi ["self", "number"] [])
    (MC : Meth K C "close" fC) (GC : FnOk P w K mg base CX0 4 fC fdC ["self", "handle"] (spClose C Ch)) (bC : Binds K fdC ["self", "handle"] [])
    (MF : Meth K C "free" fF) (GF : FnOk P w K mg base CX0 2 fF fdF ["self"] (spTFree C)) (bF : Binds K fdF ["self"] [])
    (hsL : PySem.W.findIn K (.ref C) "__len__" = some (some (.ref fL))) (hfL : PySem.W.isFn K (.ref fL) = true) (GL : FnOk P w K mg base CX0 1 fL fdL ["self"] (spTLen C)) (bL : Binds K fdL ["self"] [])
    (pNu : PropOf K Ch "number" pNu gNu) (GNu : FnOk P w K mg base CX0 1 gNu fdNu ["self"] (spGet K "_number")) (bNu : Binds K fdNu ["self"] []) :
    FnG P w K mg base CX0 9 f (PySem.W.fnOf "law" "law" (defArgs sLaw) (defBody sLaw) (defScope sLaw) .none kV doc pm an cdv ct) ["script"] (spLaw K) := by
  refine fnG_okC lk hcd scLaw (fun vs H Q E h => ?_) (fun A outer s H vs Q E hg hr h => ?_)
  · obtain ⟨a, ns, rfl, _⟩ := h
    rfl
  · obtain ⟨a, ns, rfl, hS, hlen, k⟩ := h
    refine ⟨_, (pss_cons (ps_set (i := 1) scLaw.nd rfl (.inl rfl) (pe_call GB (hr.mono (by decide)) rfl gB FB.kp bB .nil pass0 (pa_cons (pv 0) pa_nil)))
      (pss_cons (ps_for PassesOwn.never rfl (pi_range1 rfl U.range (pa_cons pe_int pa_nil)) (pg_name (i := 2) scLaw.nd rfl (.inl rfl))
      (pss_cons (ps_set (i := 3) scLaw.nd rfl (.inl rfl) (pe_op op_add pe_int (pe_call GD (hr.mono (by decide)) rfl gD FD.kp bD .nil pass0 (pa_cons (pv 1) (pa_cons pe_int pa_nil)))))
        (pss_cons (ps_par (i := 4) (j := 5) (by rfl) scLaw.nd rfl rfl (by decide) rfl rfl (pa_cons (pe_call GS (hr.mono (by decide)) rfl gS FS.kp bS .nil pass0 (pa_cons (pv 1) (pa_cons (pv 3) pa_nil))) (pa_cons (pe_ix (r := rIxL K) ix_list (pe_lst (pa_cons pe_str (pa_cons pe_str (pa_cons pe_str pa_nil)))) (pe_call GD (hr.mono (by decide)) rfl gD FD.kp bD .nil pass0 (pa_cons (pv 1) (pa_cons pe_int pa_nil))) (fun _ _ => rfl)) pa_nil)) (by rfl))
        (pss_cons (ps_set (i := 6) scLaw.nd rfl (.inr rfl) (pe_makeK MH GT (hr.mono (by decide)) rfl S.g kb passF (pa_cons (pv 3) pa_nil) (pk_cons (pv 5) pk_nil)))
        (pss_cons (ps_setLc (i := 7) (own := [("k", 11)]) (g := gName 11) (by rfl) scLaw.nd rfl rfl (sw_true rfl rfl rfl (by decide +kernel)) (pi_range1 rfl U.range (pa_cons (pv 3) pa_nil)) (blkOk_by (own := [("k", 11)]) (N := ["script", "pool", "turn", "wide", "order", "word", "table", "handles", "gone", "number", "due", "k", "one"]) (sc := defScope sLaw) (by decide +kernel)) (fun _ _ _ _ _ => pg_name (i := 11) scLaw.nd rfl (Or.inl rfl)) (fun _ _ _ _ _ => pts_nil) (fun _ _ _ _ _ => (pe_meth0 (pv 6) S.cl MGi GGi (hr.mono (by decide)) bG1 dG1 passF)))
        (pss_cons (ps_if (PW.pt (pw_or (pt_cmpR (op_neD hr.units) (pe_lc (own := [("one", 12)]) (g := gName 12) (by rfl) scLaw.nd (pi_list (pv 7)) (blkOk_by (own := [("one", 12)]) (N := ["script", "pool", "turn", "wide", "order", "word", "table", "handles", "gone", "number", "due", "k", "one"]) (sc := defScope sLaw) (by decide +kernel)) (fun _ _ _ _ _ => pg_name (i := 12) scLaw.nd rfl (Or.inl rfl)) (fun _ _ _ _ _ => pts_nil) (fun _ _ _ _ _ => (pe_prop (pv 12) Sh.cl pNu GNu (hr.mono (by decide)) bNu .nil pass0 (by rfl)))) (pe_listRg (by rfl) (by rfl) U.list (prg_1 (by rfl) U.range (pv 3))) (by rfl)) (pw_or1 (pt_cmp (pc_notN (pe_meth0 (pv 6) S.cl MGi GGi (hr.mono (by decide)) bG1 dG1 passF)))))) (pss_one (ps_ret pe_bl)) pss_nil)
        (pss_cons (ps_set (i := 8) scLaw.nd rfl (.inl rfl) (pe_slice sl_list (pv 4) po_none (po_some (pe_call GD (hr.mono (by decide)) rfl gD FD.kp bD .nil pass0 (pa_cons (pv 1) (pa_cons (pe_op op_add (pv 3) pe_int) pa_nil))))))
        (pss_cons (ps_for PassesOwn.never rfl (pi_list (pv 8)) (pg_name (i := 9) scLaw.nd rfl (.inl rfl)) (pss_one (ps_if (pt_cmpR op_ne (pe_meth (pv 6) S.cl MC GC (hr.mono (by decide)) bC .nil pass0 (pa_cons (pe_ix (r := rIxL K) ix_list (pv 7) (pv 9) (fun _ _ => rfl)) pa_nil)) pe_str (nomark _)) (pss_one (ps_ret pe_bl)) pss_nil)))
        (pss_join (ps_set (i := 10) scLaw.nd rfl (.inl rfl) (pe_ifExp (pt_cmpR op_eq (pv 5) pe_str (nomark _)) (pe_revL (pv 8)) (pe_callB cr_sorted (by rfl) U.sorted (by decide +kernel) (pa_cons (pe_lc (own := [("one", 12)]) (g := gName 12) (by rfl) scLaw.nd (pi_list (pv 8)) (blkOk_by (own := [("one", 12)]) (N := ["script", "pool", "turn", "wide", "order", "word", "table", "handles", "gone", "number", "due", "k", "one"]) (sc := defScope sLaw) (by decide +kernel)) (fun _ _ _ _ _ => pg_name (i := 12) scLaw.nd rfl (Or.inl rfl)) (fun _ _ _ _ _ => pts_nil) (fun _ _ _ _ _ => (pe_callTy call_int1 (by rfl) U.int (by decide +kernel) (pa_cons (pv 12) pa_nil)))) pa_nil))))
        (pss_cons (ps_if (PW.pt (pw_or (pt_cmpR (op_neD hr.units) (pe_lc (own := [("number", 9)]) (g := gName 9) (by rfl) scLaw.nd (pi_list (pv 8)) (blkOk_by (own := [("number", 9)]) (N := ["script", "pool", "turn", "wide", "order", "word", "table", "handles", "gone", "number", "due", "k", "one"]) (sc := defScope sLaw) (by decide +kernel)) (fun _ _ _ _ _ => pg_name (i := 9) scLaw.nd rfl (Or.inl rfl)) (fun _ _ _ _ _ => pts_nil) (fun _ _ _ _ _ => (pe_prop (pe_meth0 (pv 6) S.cl MGi GGi (hr.mono (by decide)) bG1 dG1 passF) Sh.cl pNu GNu (hr.mono (by decide)) bNu .nil pass0 (by rfl)))) (pv 10) (by rfl)) (pw_or1 (pt_cmpR (op_neD hr.units) (pe_meth0 (pv 6) S.cl MF GF (hr.mono (by decide)) bF .nil pass0) (pe_tup pa_nil) (by rfl))))) (pss_one (ps_ret pe_bl)) pss_nil)
        (pss_cons (ps_set (i := 6) scLaw.nd rfl (.inr rfl) (pe_makeK MH GT (hr.mono (by decide)) rfl S.g kb passF (pa_cons (pv 3) pa_nil) (pk_cons pe_str pk_nil)))
        (pss_cons (ps_for PassesOwn.never rfl (pi_list (pv 4)) (pg_name (i := 9) scLaw.nd rfl (.inl rfl)) (pss_one (ps_if (PW.pt (pw_or (pt_cmpR op_notIn_seq (pv 9) (pe_meth0 (pv 6) S.cl MF GF (hr.mono (by decide)) bF .nil pass0) (by rfl)) (pw_or (pt_cmpR op_ne (pe_prop (pe_meth (pv 6) S.cl MGi GGi (hr.mono (by decide)) bG2 .nil passF (pa_cons (pv 9) pa_nil)) Sh.cl pNu GNu (hr.mono (by decide)) bNu .nil pass0 (by rfl)) (pv 9) (by rfl)) (pw_or1 (pt_cmpR op_in_seq (pv 9) (pe_meth0 (pv 6) S.cl MF GF (hr.mono (by decide)) bF .nil pass0) (by rfl)))))) (pss_one (ps_ret pe_bl)) pss_nil)))
        (pss_one (ps_if (PW.pt (pw_or (pt_cmpR (op_neD hr.units) (pe_meth0 (pv 6) S.cl MF GF (hr.mono (by decide)) bF .nil pass0) (pe_tup pa_nil) (by rfl)) (pw_or (pt_cmp (pc_notN (pe_meth0 (pv 6) S.cl MGi GGi (hr.mono (by decide)) bG1 dG1 passF))) (pw_or1 (pt_cmpR op_ne (pe_callB (call_lenO GL hsL hfL bL (hr.mono (by decide)) pass0) (by rfl) U.len (by decide +kernel) (pa_cons (pv 6) pa_nil)) (pv 3) (by rfl)))))) (pss_one (ps_ret pe_bl)) pss_nil))))))))))))))
      (pss_one (ps_ret pe_bl)))), ?_⟩
    refine ⟨_, rfl, a, ns, rfl, hS, hlen, fun H1 p q s1 p0 q0 hP => ?_⟩
    refine ⟨3, by rfl, by decide, by decide, for_range (lo := 0) (n := 3) (fun i σ H' => ∃ u2 u3 u4 u5 u6 u7 u8 u9 u10 u11 u12, σ = [some (.ref a), some (.ref p), u2, u3, u4, u5, u6, u7, u8, u9, u10, u11, u12] ∧ PoolAt H' p q)
      ⟨_, _, _, _, _, _, _, _, _, _, _, rfl, hP⟩ ?_ (fun σ H' _ => k H')⟩
    clear hP s1 p0 q0 hS H1
    rintro i σ H1 _ ⟨u2, u3, u4, u5, u6, u7, u8, u9, u10, u11, u12, rfl, hP⟩
    -- wide
    refine ⟨_, rfl, p, q, 12, rfl, hP, (by decide), (by decide), fun H2 r2 b2 P2 r20 r21 => ⟨_, _, rfl, rfl, ?_⟩⟩
    obtain ⟨n0, rfl⟩ := Int.eq_ofNat_of_zero_le r20
    change gName 3 (V.int (1 + (n0 : Int))) _ _ _
    rw [show (1 : Int) + (n0 : Int) = ((n0 + 1 : Nat) : Int) by omega]
    obtain ⟨n, hn⟩ : ∃ n, n = n0 + 1 := ⟨_, rfl⟩
    have n1 : 1 ≤ n := by omega
    have n12 : n ≤ 12 := by omega
    rw [← hn]
    clear hn r20 r21 b2 hP n0 H1
    -- order, word
    refine ⟨_, rfl, _, rfl, p, q, n, rfl, P2, by omega, fun H3 O os b3 P3 pm eO nO => ?_⟩
    refine ⟨(by show 3 ≤ sizeLine; decide), fun L hL => ?_⟩
    have P4 := P3.same (Same.new (o := .lst [.str "least", .str "next", .str "last"]) hL)
    have fO := Sf.new (o := .lst [.str "least", .str "next", .str "last"]) P3 hL
    have npO : p ≠ O := (P2.nep nO).1
    have nqO : q ≠ O := (P2.nep nO).2
    have gO : Sf p q _ O (.lst (intsL os)) := ⟨Same.new (o := .lst [.str "least", .str "next", .str "last"]) hL _ _ eO, npO.symm, nqO.symm⟩
    generalize upd H3 L (.lst [.str "least", .str "next", .str "last"]) = H4 at P4 fO gO ⊢
    refine ⟨_, rfl, p, q, 3, rfl, P4, (by decide), (by decide), fun H5 r5 b5 P5 r50 r51 => ?_⟩
    obtain ⟨j, rfl⟩ := Int.eq_ofNat_of_zero_le r50
    have fL5 := fO.but b5
    have eO5 := (gO.but b5).e
    obtain ⟨z, ez, hz⟩ : ∃ z, ([.str "least", .str "next", .str "last"] : List V)[j]? = some (.str z) ∧ (z = "least" ∨ z = "next" ∨ z = "last") := by
      match j, r51 with
      | 0, _ => exact ⟨_, rfl, .inl rfl⟩
      | 1, _ => exact ⟨_, rfl, .inr (.inl rfl)⟩
      | 2, _ => exact ⟨_, rfl, .inr (.inr rfl)⟩
      | m + 3, h => exact absurd h (by omega)
    refine ⟨L, _, _, _, rfl, rfl, .inl (.inl fL5.e), atI_nat ez, _, _, rfl, ?_⟩
    clear fL5 ez gO fO P4 b5 eO hL L P3 nO b3 P2 H2 H3 H4
    -- table
    have g1 : isBetween (.int (n : Nat)) 1 60 = true := by
      show (decide (0 ≤ (n : Int)) && (decide ((1 : Int) ≤ (n : Nat)) && decide (((n : Nat) : Int) ≤ 60))) = true
      rw [decide_eq_true (by omega), decide_eq_true (by omega), decide_eq_true (by omega)]
      rfl
    have gz : isBook (.str z) = true := by rcases hz with rfl | rfl | rfl <;> decide +kernel
    have lz : z.length ≤ 1000 := by rcases hz with rfl | rfl | rfl <;> decide
    have g3 : isBetween (.int ((1 : Nat) : Int)) 1 4 = true := by decide
    refine ⟨_, rfl, _, rfl, rfl, rfl, mkT_ok (m := 1) g1 gz g3 lz fun H6 x dx pe pc pf s6 hx t6 ne nc nf => ?_⟩
    have sd6 : Side H6 p q O os x pe pc pf := by
      obtain ⟨ms, i1, y, z1, b1, e1, e2, e3⟩ := P5
      have aw : ∀ {b : Addr} {o : HO}, H5 b = some o → Aw x pe pc pf b := fun e => ⟨ne_of_none e hx, ne_of_none e ne, ne_of_none e nc, ne_of_none e nf⟩
      exact ⟨⟨ms, i1, y, z1, b1, s6 _ _ e1, s6 _ _ e2, e3⟩, aw e1, aw e2, s6 _ _ eO5, aw eO5⟩
    clear P5 eO5 s6 hx ne nc nf H5
    -- handles
    refine ⟨_, rfl, n, rfl, by omega, by omega, fun D hD => lc_range (lo := 0) (n := n) (fun i H' => ∃ pf es cs hs, Fill H' C Ch x dx pe pc pf D n z i es cs hs ∧ Side H' p q O os x pe pc pf) ?_ ?_ ?_⟩
    · have aD := t6.aw_none hD
      have nO := ne_of_none sd6.o hD
      refine ⟨pf, _, _, [], ⟨t6.put aD, ?_, ?_, fun j hj => absurd hj (Nat.not_lt_zero _), fun j hj => ?_, rfl, fun j h e => (by cases e), upd_same, aD⟩, sd6.put (sd6.pool.nep hD).1 (sd6.pool.nep hD).2 nO⟩
      · have srt : (List.range' 0 (n - 0)).Pairwise (· < ·) := List.pairwise_lt_range'
        rcases hz with rfl | rfl | rfl
        · exact .inl ⟨rfl, srt⟩
        · exact .inr (.inl ⟨rfl, srt, .inl fun m _ => Int.natCast_nonneg m⟩)
        · exact .inr (.inr ⟨rfl, .inl ⟨rfl, srt⟩⟩)
      · intro j
        rw [List.getElem?_replicate, List.mem_range'_1]
        by_cases hj : j < n
        · rw [if_pos hj]; exact ⟨fun _ => by omega, fun _ => rfl⟩
        · rw [if_neg hj]; exact ⟨fun q => (by cases q), fun q => by omega⟩
      · rw [List.getElem?_replicate, if_pos hj, if_neg (Nat.not_lt_zero _)]
    · rintro i2 H7 hi ⟨pf, es, cs, hs, fl, sd⟩
      have t := fl.t
      have hc : cs[i2]? = some 0 := by rw [fl.cnt i2 hi, if_neg (Nat.lt_irrefl _)]
      have rd := fl.rd
      have nonI := fl.non
      rw [rng_cons hi] at rd nonI
      have told := rd.told nonI
      refine ⟨rfl, _, rfl, x, dx, _, rfl, t.ins, rfl, x, dx, pe, pc, pf, n, z, 1, es, cs, (i2 : Nat), (i2 : Nat), [], .non, rfl, t, by decide, Int.natCast_nonneg _, by decide, .inr (.inl ⟨i2, 0, .inl ⟨rfl, by rw [told]; rfl⟩, hi, hc, fun H8 h pf' o8 n8 t8 nh ha => ?_⟩)⟩
      have d8 := o8.at_ fl.ad fl.d
      have aD8 : Aw x pe pc pf' D := fl.ad.new fl.d n8
      have sd8 := sd.off o8 n8
      have nO : O ≠ D := ne_of_none sd6.o hD
      have np := sd6.pool.nep hD
      have hset : i2 < es.length := by rw [t.len]; exact hi
      have rd2 : Rd z ((i2 + 1 : Nat) : Int) [] (List.range' (i2 + 1) (n - (i2 + 1))) := rd.step
      have nn : i2 ∉ List.range' (i2 + 1) (n - (i2 + 1)) := fun q => by rw [List.mem_range'_1] at q; omega
      refine ⟨_, d8, ?_, pf', es.set i2 (.int (i2 : Nat)), cs.set i2 1, hs ++ [h], ⟨t8.put aD8, rd2, non_set hset nn nonI, fun j hj => ?_, fun j hj => ?_, ?_, fun j h' e => ?_, ?_, aD8⟩, sd8.put np.1 np.2 nO⟩
      · rw [List.length_map, fl.hl]
        exact Nat.lt_of_lt_of_le (show i2 < 1000 by omega) (by decide)
      · by_cases e : i2 = j
        · subst e
          rw [List.getElem?_set_self hset]
        · rw [List.getElem?_set_ne e]
          exact fl.ent j (by omega)
      · by_cases e : i2 = j
        · subst e
          rw [List.getElem?_set_self (by rw [t.lec]; exact hi), if_pos (by omega)]
        · rw [List.getElem?_set_ne e, fl.cnt j hj]
          by_cases g : j < i2
          · rw [if_pos g, if_pos (by omega)]
          · rw [if_neg g, if_neg (by omega)]
      · rw [List.length_append, fl.hl]
        rfl
      · by_cases g : j < hs.length
        · rw [List.getElem?_append_left g] at e
          exact ((fl.hat j h' e).off t o8).put d8
        · rw [List.getElem?_append_right (by omega)] at e
          have ej : j - hs.length = 0 := by
            cases q : j - hs.length with
            | zero => rfl
            | succ m => rw [q] at e; cases e
          rw [ej] at e
          cases e
          have : j = i2 := by rw [← fl.hl]; omega
          subst this
          exact ha.put d8
      · rw [upd_same, List.map_append]
        rfl
    · rintro H7 ⟨pf, es, cs, hs, fl, sd⟩
      have nDO : O ≠ D := ne_of_none sd6.o hD
      have npD := sd6.pool.nep hD
      clear t6 hD sd6
      -- [one.number ..] != list(range(wide)) or table.give() is not None
      refine ⟨_, rfl, D, rfl, ⟨_, .inl (.inl fl.d)⟩, fun D2 hD2 => lc_list (xs := hs.map V.ref) (fun i3 H' => Same H7 H' ∧ H' D2 = some (.lst (intsL (List.range i3)))) ⟨Same.new hD2, upd_same⟩ (fun _ _ _ e => .inl (.inl (e.1 _ _ fl.d))) ?_ ?_⟩
      · rintro i3 v H8 hv ⟨s8, e8⟩
        rw [List.getElem?_map] at hv
        obtain ⟨h, hh, rfl⟩ := Option.map_eq_some_iff.mp hv
        have hi : i3 < hs.length := (List.getElem?_eq_some_iff.mp hh).1
        obtain ⟨dh, ih⟩ := (fl.hat i3 h hh).same s8
        refine ⟨rfl, _, rfl, h, dh, _, rfl, ih, h, Ch, dh, _, .int (i3 : Nat), rfl, ih, Sh.cl, Sh.n1, rfl, _, e8, ?_, s8.put hD2, ?_⟩
        · rw [intsL, List.length_map, List.length_range]
          have := fl.hl
          exact Nat.lt_of_lt_of_le (show i3 < 1000 by omega) (by decide)
        · rw [upd_same, List.range_succ, intsL, intsL, List.map_append]
          rfl
      rintro H8 ⟨s8, e8⟩
      rw [List.length_map, fl.hl] at e8
      refine ⟨_, rfl, n, rfl, RgOk.of_le (by decide) (by omega) (by decide) (by omega), fun q2 hq2 => ?_⟩
      rw [rgV_ints]
      have s9 := s8.push (o := .lst (intsL (List.range n))) hq2
      refine ⟨_, _, dp_ints (Same.new hq2 _ _ e8), dp_ints upd_same, shaped_ints _, shaped_ints _, _, rfl, ?_⟩
      rw [eqv_ints]
      refine iteF ?_
      have fl9 := fl.same s9
      have sd9 := sd.same s9
      clear fl sd s8 e8 s9
      generalize upd H8 q2 (.lst (intsL (List.range n))) = H9 at fl9 sd9 ⊢
      have t := fl9.t
      have none_ : ∀ j : Nat, ¬ es[j]? = some V.non := fun j e => by
        have := (fl9.non j).mp e
        rw [Nat.sub_self] at this
        cases this
      refine ⟨_, rfl, x, dx, _, rfl, t.ins, rfl, x, dx, pe, pc, pf, n, z, 1, es, cs, (n : Nat), (n : Nat), [], .non, rfl, t, by decide, Int.natCast_nonneg _, by decide, .inl ⟨rfl, Rd.nil none_, fun Ha sa => ⟨_, rfl, iteF ?_⟩⟩⟩
      have fla := fl9.same sa
      have sda := sd9.same sa
      clear fl9 sd9 t sa H9
      -- gone
      refine ⟨_, rfl, _, rfl, _, rfl, _, _, rfl, rfl, p, q, _, rfl, sda.pool, by omega, by omega, fun Hb rb bb Pb rb0 rb1 => ?_⟩
      obtain ⟨m, rfl⟩ := Int.eq_ofNat_of_zero_le rb0
      have eOb := bb _ _ npO.symm nqO.symm sda.o
      refine ⟨_, rfl, O, _, rfl, .inl (.inl eOb), fun G hG => ?_⟩
      rw [cut_ints]
      obtain ⟨gs, hgs⟩ : ∃ gs, gs = os.take m := ⟨_, rfl⟩
      rw [← hgs]
      have nos : os.Nodup := pm.nodup_iff.mpr List.nodup_range
      have ngs : gs.Nodup := by rw [hgs]; exact List.Pairwise.sublist (List.take_sublist _ _) nos
      have ltg : ∀ g ∈ gs, g < n := fun g hg => by
        rw [hgs] at hg
        have := pm.mem_iff.mp (List.mem_of_mem_take hg)
        exact List.mem_range.mp this
      have lgs : gs.length ≤ n := by
        rw [hgs, List.length_take, pm.length_eq, List.length_range]
        exact Nat.min_le_right _ _
      have tb := fla.t.but bb sda.ap sda.aq
      have sG := Same.new (o := .lst (intsL gs)) hG
      have cl0 : Cls_ (upd Hb G (.lst (intsL gs))) C Ch x dx pe pc pf D G n z gs 0 es cs hs :=
        ⟨tb.same sG, fun j hj => (fla.ent j hj).trans (by rw [if_neg (by simp)]), fun j hj => (fla.cnt j hj).trans (by rw [if_pos hj]), fla.hl, fun j h e => ((fla.hat j h e).but bb sda.pool).same sG,
          sG _ _ (bb _ _ npD.1.symm npD.2.symm fla.d), fla.ad, upd_same, tb.aw_none hG⟩
      have sd0 : Side (upd Hb G (.lst (intsL gs))) p q O os x pe pc pf := ⟨Pb.same sG, sda.ap, sda.aq, sG _ _ eOb, sda.ao⟩
      clear fla sda tb sG hG eOb bb Pb hgs none_ rb0 rb1
      generalize upd Hb G (.lst (intsL gs)) = Hc at cl0 sd0 ⊢
      -- for number in gone
      refine ⟨_, rfl, G, rfl, ⟨_, .inl (.inl cl0.g)⟩, for_list (xs := intsL gs) (fun i3 σ H' => ∃ u9 es cs, σ = [some (.ref a), some (.ref p), some (.int (0 + (i : Nat))), some (.int (n : Nat)), some (.ref O), some (.str z), some (.ref x), some (.ref D), some (.ref G), u9, u10, u11, u12] ∧ Cls_ H' C Ch x dx pe pc pf D G n z gs i3 es cs hs ∧ Side H' p q O os x pe pc pf)
        ⟨_, _, _, rfl, cl0, sd0⟩ (fun i3 σ H' _ e => ?_) ?_ ?_⟩
      · obtain ⟨_, _, _, _, c, _⟩ := e
        exact .inl (.inl c.g)
      · rintro i3 v σ H' hv ⟨v9, es, cs, rfl, c, sd⟩
        rw [intsL, List.getElem?_map] at hv
        obtain ⟨g, hg, rfl⟩ := Option.map_eq_some_iff.mp hv
        have hgn : g < n := ltg g (List.mem_of_getElem? hg)
        have t := c.t
        have hl : g < hs.length := by rw [c.hl]; exact hgn
        have hh : hs[g]? = some hs[g] := by simp [hl]
        have hat := c.hat g _ hh
        have aw := hat.aw t
        have eh : (hs.map V.ref)[g]? = some (.ref hs[g]) := by rw [List.getElem?_map, hh]; rfl
        obtain ⟨ng, e3⟩ := not_take ngs hg
        have he : es[g]? = some (.int (g : Nat)) := by rw [c.ent g hgn, if_neg ng]
        have dn := use_done hgn he (c.cnt g hgn)
        have l3 : (castL (gs.take i3)).length ≤ 100 := by
          rw [castL_len, List.length_take]
          have := Nat.min_le_right i3 gs.length
          omega
        refine ⟨_, rfl, x, dx, _, rfl, t.ins, rfl, _, rfl, _, rfl, D, _, _, _, rfl, rfl, .inl (.inl c.d), atI_nat eh, x, dx, pe, pc, pf, n, z, 1, es, cs, _, _, _, _, rfl, t, by decide, c.entV, l3,
          .inr ⟨_, g, 0, _, rfl, hat, aw.1, aw.2.1, aw.2.2.2, fun q => absurd dn q, fun _ H2 o2 t2 => ⟨rfl, _, rfl, iteNS (c := V.str "done" = V.str "done") rfl ⟨_, _, _, rfl, c.step ngs hg hgn o2 t2, sd.off2 o2⟩⟩⟩⟩
      · rintro σ Hd ⟨v9, es, cs, rfl, c, sd⟩
        have el : (intsL gs).length = gs.length := by rw [intsL, List.length_map]
        rw [el] at c
        clear cl0 sd0
        -- due
        refine ⟨fun σ' H' => ∃ E ds, σ' = [some (.ref a), some (.ref p), some (.int (0 + (i : Nat))), some (.int (n : Nat)), some (.ref O), some (.str z), some (.ref x), some (.ref D), some (.ref G), v9, some (.ref E), u11, u12] ∧ Cls_ H' C Ch x dx pe pc pf D G n z gs gs.length es cs hs ∧ Side H' p q O os x pe pc pf ∧ H' E = some (.lst (intsL ds)) ∧ Aw x pe pc pf E ∧ ds.Perm gs ∧ Rd z (n : Nat) (castL gs) ds, ?_, ?_⟩
        · refine ⟨_, rfl, rfl, _, rfl, ?_⟩
          by_cases hL : z = "last"
          · rw [dec_str' hL]
            refine iteT ⟨_, rfl, G, _, rfl, .inl (.inl c.g), fun E hE => ⟨E, gs.reverse, rfl, c.same (Same.new hE), sd.same (Same.new hE), ?_, c.t.aw_none hE, List.reverse_perm gs, .inr (.inr ⟨hL, .inr ⟨?_, ?_⟩⟩)⟩⟩
            · rw [upd_same, intsL, intsL, List.map_reverse]
            · unfold castL
              rw [List.map_reverse, List.reverse_reverse]
            · exact (List.reverse_perm gs).nodup_iff.mpr ngs
          · rw [dec_str hL]
            refine iteF ⟨_, rfl, G, rfl, ⟨_, .inl (.inl c.g)⟩, fun D3 hD3 => lc_list (xs := intsL gs) (fun i3 H' => Same Hd H' ∧ H' D3 = some (.lst (intsL (gs.take i3)))) ⟨Same.new hD3, upd_same⟩ (fun _ _ _ e => .inl (.inl (e.1 _ _ c.g))) ?_ ?_⟩
            · rintro i3 v H' hv ⟨s1, e1⟩
              rw [intsL, List.getElem?_map] at hv
              obtain ⟨g, hg, rfl⟩ := Option.map_eq_some_iff.mp hv
              obtain ⟨_, e3⟩ := not_take ngs hg
              refine ⟨rfl, _, rfl, .inl ⟨_, rfl, _, e1, ?_, s1.put hD3, ?_⟩⟩
              · rw [intsL, List.length_map, List.length_take]
                exact Nat.lt_of_le_of_lt (Nat.le_trans (Nat.min_le_right ..) (show gs.length ≤ 60 by omega)) (by decide)
              · rw [upd_same, e3, intsL, intsL, List.map_append]
                rfl
            · rintro H' ⟨s1, e1⟩
              rw [el, List.take_length, ← castL_V] at e1
              refine ⟨D3, castL gs, rfl, .inl (.inl e1), by rw [castL_len]; omega, fun ms E hp hr hE => ?_⟩
              obtain ⟨ds, rfl, pd, sd2⟩ := sorted_cast ngs hp hr
              rw [castL_V]
              have s2 := s1.push (o := .lst (intsL ds)) hE
              refine ⟨E, ds, rfl, c.same s2, sd.same s2, upd_same, (c.t.same s1).aw_none hE, pd, ?_⟩
              rcases hz with rfl | rfl | rfl
              · exact .inl ⟨rfl, sd2⟩
              · exact .inr (.inl ⟨rfl, sd2, .inr fun m hm => by
                  have := ltg m (pd.mem_iff.mp hm)
                  omega⟩)
              · exact absurd rfl hL
        clear c sd Hd
        rintro _ Hd ⟨E, ds, rfl, c, sd, eE, aE, pd, rd⟩
        have lds : ds.length = gs.length := pd.length_eq
        have nds : ds.Nodup := pd.nodup_iff.mpr ngs
        have re0 : Re Hd C x dx pe pc pf n z ds es cs (n : Nat) (n : Nat) (castL gs) := by
          have tt := c.t
          rw [List.take_length] at tt
          refine ⟨tt, fun j => ?_, c.entV, Int.natCast_nonneg _, by rw [castL_len]; omega⟩
          rw [pd.mem_iff]
          by_cases hj : j < n
          · have ej := c.ent j hj
            rw [List.take_length] at ej
            rw [ej]
            by_cases q : j ∈ gs
            · rw [if_pos q]; exact ⟨fun _ => q, fun _ => rfl⟩
            · rw [if_neg q]; exact ⟨fun r => (by cases r), fun r => absurd r q⟩
          · have : es[j]? = none := by rw [List.getElem?_eq_none_iff, tt.len]; omega
            rw [this]
            exact ⟨fun r => (by cases r), fun r => absurd (ltg j r) hj⟩
        have eG := c.g
        have aG := c.ag
        have sdx := sd
        refine ⟨_, rfl, G, rfl, ⟨_, .inl (.inl eG)⟩, fun D4 hD4 => lc_list (xs := intsL gs) (fun i3 H' => ∃ pf es cs many start fr, Re H' C x dx pe pc pf n z (ds.drop i3) es cs many start fr ∧ Rd z start fr (ds.drop i3) ∧ Side H' p q O os x pe pc pf ∧ H' G = some (.lst (intsL gs)) ∧ Aw x pe pc pf G ∧ H' E = some (.lst (intsL ds)) ∧ Aw x pe pc pf E ∧
            H' D4 = some (.lst (intsL (ds.take i3))) ∧ Aw x pe pc pf D4) ?_ (fun _ _ _ e => ?_) ?_ ?_⟩
        · have a4 := c.t.aw_none hD4
          refine ⟨pf, es, cs, _, _, _, re0.put a4, rd, sd.put (sd.pool.nep hD4).1 (sd.pool.nep hD4).2 (ne_of_none sd.o hD4), (upd_ne (ne_of_none eG hD4)).trans eG, aG, (upd_ne (ne_of_none eE hD4)).trans eE, aE, upd_same, a4⟩
        · obtain ⟨_, _, _, _, _, _, _, _, _, e, _⟩ := e
          exact .inl (.inl e)
        · rintro i3 v H' hv ⟨pf, es, cs, many, start, fr, r, rd, sd, eG', aG', eE', aE', e4, a4⟩
          have hi : i3 < ds.length := by
            have := (List.getElem?_eq_some_iff.mp hv).1
            rw [el] at this
            omega
          have ed := drop_cons hi
          rw [ed] at r rd
          obtain ⟨g, hg⟩ : ∃ g, g = ds[i3] := ⟨_, rfl⟩
          rw [← hg] at r rd
          have hgn := r.lt (List.mem_cons_self ..)
          obtain ⟨cc, hc⟩ := r.cnt hgn
          have told := rd.told r.non
          refine ⟨rfl, _, rfl, x, dx, _, rfl, r.t.ins, rfl, x, dx, pe, pc, pf, n, z, 1, es, cs, many, start, fr, .non, rfl, r.t, by decide, r.m0, r.f1, .inr (.inl ⟨g, cc, .inl ⟨rfl, by rw [told]; rfl⟩, hgn, hc, fun H8 h pf' o8 n8 t8 nh ha => ?_⟩)⟩
          obtain ⟨dh, ih⟩ := ha
          have e48 := o8.at_ a4 e4
          have a48 := a4.new e4 n8
          have nG : G ≠ D4 := ne_of_none eG hD4
          have np4 := sdx.pool.nep hD4
          have nO4 : O ≠ D4 := ne_of_none sdx.o hD4
          have nE : E ≠ D4 := ne_of_none eE hD4
          refine ⟨h, dh, _, rfl, ih, h, Ch, dh, _, .int (g : Nat), rfl, ih, Sh.cl, Sh.n1, rfl, _, e48, ?_, pf', _, _, _, _, _, (r.step rd.nd t8).put a48, rd.step, (sd.off o8 n8).put np4.1 np4.2 nO4, (upd_ne nG).trans (o8.at_ aG' eG'), aG'.new eG' n8, (upd_ne nE).trans (o8.at_ aE' eE'), aE'.new eE' n8, ?_, a48⟩
          · rw [intsL, List.length_map, List.length_take]
            exact Nat.lt_of_le_of_lt (Nat.le_trans (Nat.min_le_right ..) (show ds.length ≤ 60 by omega)) (by decide)
          · rw [upd_same, List.take_succ, List.getElem?_eq_getElem hi, ← hg, intsL, intsL, List.map_append]
            rfl
        · rintro H' ⟨pf, es, cs, many, start, fr, r, rd, sd, eG', aG', eE', aE', e4, a4⟩
          rw [el, ← lds, List.take_length] at e4
          rw [el, ← lds, List.drop_length] at r
          refine ⟨_, rfl, _, _, dp_ints e4, dp_ints eE', shaped_ints _, shaped_ints _, _, rfl, ?_⟩
          rw [eqv_ints]
          refine iteF ⟨_, rfl, x, dx, _, rfl, r.t.ins, rfl, x, dx, pe, pc, pf, n, z, 1, es, cs, many, start, fr, rfl, r.t, fun H8 rr s8 e8 => ?_⟩
          rw [r.nil] at e8
          refine ⟨(by show 0 ≤ sizeLine; decide), fun t2 ht2 => ?_⟩
          have s9 := s8.push (o := .tup []) ht2
          refine ⟨_, _, .tup (.inl (.inl (Same.new ht2 _ _ e8))) .nil, .tup (.inl (.inl upd_same)) .nil, rfl, rfl, _, rfl, iteF ?_⟩
          have sd9 := sd.same s9
          clear r rd eG' aG' eE' aE' e4 a4 e8 s8 s9 sd
          generalize upd H8 t2 (.tup []) = H9 at sd9 ⊢
          -- any
          have ga : isBook (.str "any") = true := by decide +kernel
          refine ⟨_, rfl, rfl, rfl, mkT_ok (m := 1) (z := "any") g1 ga g3 (by decide) fun Ha y dy pe pc pf sa hy ta ne nc nf => ?_⟩
          have sda : Side Ha p q O os y pe pc pf := by
            obtain ⟨ms, i1, y1, z1, b1, e1, e2, e3⟩ := sd9.pool
            have aw : ∀ {b : Addr} {o : HO}, H9 b = some o → Aw y pe pc pf b := fun e => ⟨ne_of_none e hy, ne_of_none e ne, ne_of_none e nc, ne_of_none e nf⟩
            exact ⟨⟨ms, i1, y1, z1, b1, sa _ _ e1, sa _ _ e2, e3⟩, aw e1, aw e2, sa _ _ sd9.o, aw sd9.o⟩
          clear sd9 sa hy ne nc nf
          have los : (intsL os).length = os.length := by rw [intsL, List.length_map]
          have re0 : Re Ha C y dy pe pc pf n "any" os (List.replicate n .non) (List.replicate n 0) 0 0 [] := by
            refine ⟨ta, fun j => ?_, ent_rep n, by decide, by decide⟩
            rw [List.getElem?_replicate, pm.mem_iff, List.mem_range]
            by_cases hj : j < n
            · rw [if_pos hj]; exact ⟨fun _ => hj, fun _ => rfl⟩
            · rw [if_neg hj]; exact ⟨fun q => (by cases q), fun q => absurd q hj⟩
          refine ⟨_, rfl, O, rfl, ⟨_, .inl (.inl sda.o)⟩, for_list (xs := intsL os) (fun i3 σ H' => ∃ w9 pf es cs many start fr, σ = [some (.ref a), some (.ref p), some (.int (0 + (i : Nat))), some (.int (n : Nat)), some (.ref O), some (.str z), some (.ref y), some (.ref D), some (.ref G), w9, some (.ref E), u11, u12] ∧ Re H' C y dy pe pc pf n "any" (os.drop i3) es cs many start fr ∧ Side H' p q O os y pe pc pf)
            ⟨_, pf, _, _, _, _, _, rfl, re0, sda⟩ (fun _ _ _ _ e => ?_) ?_ ?_⟩
          · obtain ⟨_, _, _, _, _, _, _, _, _, e⟩ := e
            exact .inl (.inl e.o)
          · clear re0 sda
            rintro i3 v σ H' hv ⟨w9, pf, es, cs, many, start, fr, rfl, r, sd⟩
            rw [intsL, List.getElem?_map] at hv
            obtain ⟨g, hg, rfl⟩ := Option.map_eq_some_iff.mp hv
            have hi : i3 < os.length := (List.getElem?_eq_some_iff.mp hg).1
            have ed := drop_cons hi
            have eg : os[i3] = g := (List.getElem?_eq_some_iff.mp hg).2
            rw [eg] at ed
            rw [ed] at r
            have nd : (g :: os.drop (i3 + 1)).Nodup := by rw [← ed]; exact List.Pairwise.sublist (List.drop_sublist _ _) nos
            have hgn := r.lt (List.mem_cons_self ..)
            obtain ⟨cc, hc⟩ := r.cnt hgn
            refine ⟨_, rfl, _, rfl, y, dy, _, rfl, r.t.ins, rfl, y, dy, pe, pc, pf, n, "any", 1, es, cs, many, start, fr, rfl, r.t, fun H8 rr s8 e8 => ⟨rr, _, rfl, .inr (.inl (.inl e8)), rfl, flat_ints _, _, rfl, ?_⟩⟩
            rw [inV_ints, decide_eq_true ((r.any g).mpr (List.mem_cons_self ..))]
            refine iteF ?_
            have r8 := r.same s8
            have sd8 := sd.same s8
            clear r sd e8 s8
            refine ⟨_, rfl, y, dy, _, rfl, r8.t.ins, rfl, _, rfl, y, dy, pe, pc, pf, n, "any", 1, es, cs, many, start, fr, _, rfl, r8.t, by decide, r8.m0, r8.f1, .inr (.inl ⟨g, cc, .inr ⟨rfl, (r8.any g).mpr (List.mem_cons_self ..)⟩, hgn, hc, fun H9 h pf' o9 n9 t9 nh ha => ?_⟩)⟩
            obtain ⟨dh, ih⟩ := ha
            refine ⟨h, dh, _, rfl, ih, h, Ch, dh, _, .int (g : Nat), rfl, ih, Sh.cl, Sh.n1, rfl, _, rfl, rfl, _, rfl, iteNS (c := V.int (g : Nat) = V.int (g : Nat)) rfl ?_⟩
            have r9 := r8.step nd t9
            have sd9 := sd8.off o9 n9
            refine ⟨_, rfl, _, rfl, y, dy, _, rfl, r9.t.ins, rfl, y, dy, pe, pc, pf', n, "any", 1, _, _, _, _, _, rfl, r9.t, fun Hb rr sb eb => ⟨rr, _, rfl, .inr (.inl (.inl eb)), rfl, flat_ints _, _, rfl, ?_⟩⟩
            rw [inV_ints, decide_eq_false (fun q => (List.nodup_cons.mp nd).1 ((r9.any g).mp q))]
            exact iteF ⟨_, pf', _, _, _, _, _, rfl, r9.same sb, sd9.same sb⟩
          · clear re0 sda
            rintro σ H' ⟨w9, pf, es, cs, many, start, fr, rfl, r, sd⟩
            rw [los, List.drop_length] at r
            refine ⟨_, rfl, y, dy, _, rfl, r.t.ins, rfl, y, dy, pe, pc, pf, n, "any", 1, es, cs, many, start, fr, rfl, r.t, fun H8 rr s8 e8 => ?_⟩
            rw [r.nil] at e8
            refine ⟨(by show 0 ≤ sizeLine; decide), fun t2 ht2 => ?_⟩
            have s9 := s8.push (o := .tup []) ht2
            refine ⟨_, _, .tup (.inl (.inl (Same.new ht2 _ _ e8))) .nil, .tup (.inl (.inl upd_same)) .nil, rfl, rfl, _, rfl, iteF ?_⟩
            have r9 := r.same s9
            have sd9 := sd.same s9
            refine ⟨_, rfl, y, dy, _, rfl, r9.t.ins, rfl, y, dy, pe, pc, pf, n, "any", 1, es, cs, many, start, fr, .non, rfl, r9.t, by decide, r9.m0, r9.f1, .inl ⟨rfl, r9.nil, fun Hb sb => ⟨_, rfl, iteF ?_⟩⟩⟩
            have rb := r9.same sb
            have sdb := sd9.same sb
            refine ⟨_, rfl, y, dy, _, rfl, rb.t.ins, y, dy, pe, pc, pf, n, "any", 1, es, cs, many, start, fr, rfl, rb.t, fun Hc sc => ⟨_, rfl, Int.natCast_nonneg _, ?_, _, rfl, rfl, _, rfl, ?_⟩⟩
            · rw [rb.count]
              omega
            · rw [rb.count]
              exact iteNS (c := V.int (n : Nat) = V.int (n : Nat)) rfl ⟨_, _, _, _, _, _, _, _, _, _, _, rfl, (sdb.same sc).pool⟩
end
/-! ### the errors' classes by computation -/
def exB (K : PySem.W.Frag) (C : Addr) : Bool := xfB K C && PySem.W.keepIn K (.ref C) && decide (PySem.W.findIn K (.ref C) "__class__" = some (some (.builtin "object.__class__"))) &&
  decide (PySem.W.specialIn K (.builtin "object.__class__") "__get__" = some (some (.builtin "getset_descriptor.__get__"))) && decide (PySem.W.takesIn K (.builtin "object.__class__") = some true) && decide (PySem.W.mroIn K C (.type "object") = some true)
theorem exB_ok {K : PySem.W.Frag} {C : Addr} (h : exB K C = true) : XfC K C ∧ PySem.W.keepIn K (.ref C) = true ∧ ExcC K C := by
  unfold exB at h
  simp only [Bool.and_eq_true, decide_eq_true_eq] at h
  obtain ⟨⟨⟨⟨⟨h1, h2⟩, h3⟩, h4⟩, h5⟩, h6⟩ := h
  have x := xfB_ok h1
  exact ⟨x, h2, x.ga, x.gg, x.exC, x.hdC, h3, h4, h5, h6⟩
theorem mro_refs : ∀ l : List Value, PySem.HandSPX.refsVE l = true → MroOk l := fun l h => ⟨fun v => PySem.HandSPX.refsVE_pass v l h, PySem.HandSPX.refsVE_ne h, (PySem.HandSPX.refsVE_contains "object" l h).trans (by decide +kernel)⟩
def errTab (K : PySem.W.Frag) (cs : List Addr) (cH : Addr) : Bool := (List.range 13).all fun i => exB K (cs.getD i 0) && ((List.range 13).all fun j => decide (PySem.W.kitOne K (.ref (cs.getD i 0)) (.ref (cs.getD j 0)) = some (decide (i = j)))) &&
  decide (PySem.W.kitOne K (.ref (cs.getD i 0)) (.ref cH) = some (decide (i < 11))) && decide (PySem.W.exmOne K (.ref (cs.getD i 0)) (.ref cH) = some (decide (i < 11))) && (decide (11 ≤ i) || decide (PySem.W.findIn K (.ref (cs.getD i 0)) "value" = some none))
theorem errTab_ok {K : PySem.W.Frag} {cs : List Addr} {cH : Addr} (h : errTab K cs cH = true) : ∀ i, i < 13 → exB K (cs.getD i 0) = true ∧ (∀ j, j < 13 → PySem.W.kitOne K (.ref (cs.getD i 0)) (.ref (cs.getD j 0)) = some (decide (i = j))) ∧
    PySem.W.kitOne K (.ref (cs.getD i 0)) (.ref cH) = some (decide (i < 11)) ∧ PySem.W.exmOne K (.ref (cs.getD i 0)) (.ref cH) = some (decide (i < 11)) ∧ (i < 11 → PySem.W.findIn K (.ref (cs.getD i 0)) "value" = some none) := by
  intro i hi
  have h1 := List.all_eq_true.mp h i (List.mem_range.mpr hi)
  simp only [Bool.and_eq_true, Bool.or_eq_true, decide_eq_true_eq] at h1
  obtain ⟨⟨⟨⟨h2, h3⟩, h4⟩, h5⟩, h6⟩ := h1
  exact ⟨h2, fun j hj => of_decide_eq_true (List.all_eq_true.mp h3 j (List.mem_range.mpr hj)), h4, h5, fun q => h6.elim (fun z => absurd z (by omega)) id⟩
def erB (K : PySem.W.Frag) (C fI : Addr) : Bool := decide (PySem.W.findIn K (.ref C) "__setattr__" = some (some (.builtin "object.__setattr__"))) && decide (PySem.W.subIn K (.ref C) (.type "BaseException") = some true) &&
  decide (PySem.W.typeIn K (.ref C) = some (.type "type")) && PySem.W.keepIn K (.ref C) && decide (PySem.W.findIn K (.ref C) "__init__" = some (some (.ref fI))) && decide (PySem.W.typeIn K (.ref fI) = some (.type "function")) && decide (PySem.W.findIn K (.ref C) "value" = some none)
theorem errC_mk {K : PySem.W.Frag} {mg : Str → Option Value} {x : Str} {fI C N : Addr} {nm q : Str} {bs bm : List Value} {sn : List Str} {sub : List Value} {ab : Bool} {col : Option Bool} {dd : Option Addr} {k0 k1 k2 k3 k5 : Option Value}
    (gC : mg x = some (.ref C)) (hC : K.lookup C = some (excClassObj nm q C N bs bm true sn sub ab col dd k0 k1 k2 k3 k5 "ValueError.__new__")) (hb : PySem.HandSPX.refsVE bm = true) (h : erB K C fI = true) : ErrC K mg x C fI := by
  unfold erB at h
  simp only [Bool.and_eq_true, decide_eq_true_eq] at h
  obtain ⟨⟨⟨⟨⟨⟨h1, h2⟩, h3⟩, h4⟩, h5⟩, h6⟩, h7⟩ := h
  exact ⟨gC, ⟨⟨_, _, _, _, _, _, _, _, _, _, _, _, _, _, _, hC, hb⟩, h1, h2, h3, h4⟩, ⟨⟨_, _, _, _, _, _, _, _, _, _, _, _, _, _, _, _, _, _, _, hC, F.excBase_ValueError, fun Y => PySem.HandSPX.refsVE_contains Y bm hb, mro_refs _ hb⟩, h1, h4⟩, h5, h6, h7⟩
/-- a plain class -/
def clsB (K : PySem.W.Frag) (C : Addr) : Bool := PySem.W.plainGet K C Str.empty && PySem.W.hasDictIn K C && PySem.W.plainOver K C && decide (PySem.W.findIn K (.ref C) "__setattr__" = some (some (.builtin "object.__setattr__"))) &&
  decide (PySem.W.findIn K (.ref C) "__class__" = some (some (.builtin "object.__class__"))) && decide (PySem.W.specialIn K (.builtin "object.__class__") "__get__" = some (some (.builtin "getset_descriptor.__get__"))) &&
  decide (PySem.W.takesIn K (.builtin "object.__class__") = some true) && decide (PySem.W.mroIn K C (.type "object") = some true) && PySem.W.makesIn K C && PySem.W.keepIn K (.ref C)
theorem clsB_ok {K : PySem.W.Frag} {C : Addr} (h : clsB K C = true) : Cls K C ∧ (∀ (H : Hp) (x dx : Addr) (fs : List (Str × V)), H x = some (.ins C dx fs) → TyX K H (.ref x) (.ref C)) ∧ PySem.W.makesIn K C = true ∧ PySem.W.keepIn K (.ref C) = true := by
  unfold clsB at h
  simp only [Bool.and_eq_true, decide_eq_true_eq] at h
  obtain ⟨⟨⟨⟨⟨⟨⟨⟨⟨h1, h2⟩, h3⟩, h4⟩, h5⟩, h6⟩, h7⟩, h8⟩, h9⟩, h10⟩ := h
  have c : Cls K C := ⟨h1, h2, h3, h4⟩
  exact ⟨c, fun H x dx fs e => .base (.ins e c h5 h6 h7 h8), h9, h10⟩
def noB (K : PySem.W.Frag) (C : Addr) (fs : List Str) : Bool := fs.all fun f => decide (PySem.W.findIn K (.ref C) f = some none)
theorem noB_ok {K : PySem.W.Frag} {C : Addr} {fs : List Str} (h : noB K C fs = true) : ∀ f ∈ fs, NoAttr K C f := fun f hf => (of_decide_eq_true (List.all_eq_true.mp h f hf) : PySem.W.findIn K (.ref C) f = some none)
theorem all_mk {l : PySem.W.OpenLaw} {w : World} {K : PySem.W.Frag} {h : Heap} {mg : Str → Option Value} {fa : Addr} (X : K.In h) (G : h.Ns mainGlobals mg) (hfa : mg "law" = some (.ref fa))
    {odCo anCo : Option Addr}
    {slCo : Array (Option Value)}
    {ocCo kVCo dcCo pmCo cdCo ctCo : Value}
    {fCo : Addr}
    {odBt anBt : Option Addr}
    {slBt : Array (Option Value)}
    {ocBt kVBt dcBt pmBt cdBt ctBt : Value}
    {fBt : Addr}
    {odBe anBe : Option Addr}
    {slBe : Array (Option Value)}
    {ocBe kVBe dcBe pmBe cdBe ctBe : Value}
    {fBe : Addr}
    {odMi anMi : Option Addr}
    {slMi : Array (Option Value)}
    {ocMi kVMi dcMi pmMi cdMi ctMi : Value}
    {fMi : Addr}
    {odDr anDr : Option Addr}
    {slDr : Array (Option Value)}
    {ocDr kVDr dcDr pmDr cdDr ctDr : Value}
    {fDr : Addr}
    {odSf anSf : Option Addr}
    {slSf : Array (Option Value)}
    {ocSf kVSf dcSf pmSf cdSf ctSf : Value}
    {fSf : Addr}
    {odLa anLa : Option Addr}
    {slLa : Array (Option Value)}
    {ocLa kVLa dcLa pmLa cdLa ctLa : Value}
    {fLa : Addr}
    {cH fHI C0 C6 : Addr}
    {odHI anHI : Option Addr}
    {slHI : Array (Option Value)}
    {ocHI kVHI dcHI pmHI cdHI ctHI : Value}
    {nm0 q0 : Str}
    {N0 : Addr}
    {bs0 bm0 : List Value}
    {sn0 : List Str}
    {sub0 : List Value}
    {ab0 : Bool}
    {col0 : Option Bool}
    {dd0 : Option Addr}
    {x00 x10 x20 x30 x50 : Option Value}
    {nm6 q6 : Str}
    {N6 : Addr}
    {bs6 bm6 : List Value}
    {sn6 : List Str}
    {sub6 : List Value}
    {ab6 : Bool}
    {col6 : Option Bool}
    {dd6 : Option Addr}
    {x06 x16 x26 x36 x56 : Option Value}
    {Cd Ch : Addr}
    {odNu anNu : Option Addr}
    {slNu : Array (Option Value)}
    {ocNu kVNu dcNu pmNu cdNu ctNu : Value}
    {fNu pNu : Addr}
    {reNu : List Value}
    {odTu anTu : Option Addr}
    {slTu : Array (Option Value)}
    {ocTu kVTu dcTu pmTu cdTu ctTu : Value}
    {fTu pTu : Addr}
    {reTu : List Value}
    {odEn anEn : Option Addr}
    {slEn : Array (Option Value)}
    {ocEn kVEn dcEn pmEn cdEn ctEn : Value}
    {fEn pEn : Addr}
    {reEn : List Value}
    {odGn anGn : Option Addr}
    {slGn : Array (Option Value)}
    {ocGn kVGn dcGn pmGn cdGn ctGn : Value}
    {fGn : Addr}
    {odRn anRn : Option Addr}
    {slRn : Array (Option Value)}
    {ocRn kVRn dcRn pmRn cdRn ctRn : Value}
    {fRn : Addr}
    {odOt anOt : Option Addr}
    {slOt : Array (Option Value)}
    {ocOt kVOt dcOt pmOt cdOt ctOt : Value}
    {fOt : Addr}
    {odCl anCl : Option Addr}
    {slCl : Array (Option Value)}
    {ocCl kVCl dcCl pmCl cdCl ctCl : Value}
    {fCl : Addr}
    {odUs anUs : Option Addr}
    {slUs : Array (Option Value)}
    {ocUs kVUs dcUs pmUs cdUs ctUs : Value}
    {fUs : Addr}
    {odFr anFr : Option Addr}
    {slFr : Array (Option Value)}
    {ocFr kVFr dcFr pmFr cdFr ctFr : Value}
    {fFr : Addr}
    {odTo anTo : Option Addr}
    {slTo : Array (Option Value)}
    {ocTo kVTo dcTo pmTo cdTo ctTo : Value}
    {fTo : Addr}
    {odLn anLn : Option Addr}
    {slLn : Array (Option Value)}
    {ocLn kVLn dcLn pmLn cdLn ctLn : Value}
    {fLn : Addr}
    {odIn anIn : Option Addr}
    {slIn : Array (Option Value)}
    {ocIn dcIn pmIn cdIn ctIn : Value}
    {fIn : Addr}
    {Dk : Addr}
    {tD tE tN tU tT tH : Tok}
    {odHn anHn : Option Addr}
    {slHn : Array (Option Value)}
    {ocHn dcHn pmHn cdHn ctHn : Value}
    {fHn : Addr}
    {Th Dh : Addr}
    {cT : Value}
    {dT : Option Addr}
    {aT : Array Value}
    {nT : Nat}
    {slT : Array (Option Value)}
    {odGi anGi : Option Addr}
    {slGi : Array (Option Value)}
    {ocGi kVGi dcGi pmGi cdGi ctGi : Value}
    {fGi : Addr}
    {Tg : Addr}
    {cG : Value}
    {dG : Option Addr}
    {aG : Array Value}
    {nG : Nat}
    {slG : Array (Option Value)}
    {aB : Addr}
    {ocB : Value}
    {odB : Option Addr}
    {daB : PySem.Data}
    {slB : Array (Option Value)}
    (aCo : PySem.W.nsIn K mainGlobals "is_count" = some (some (.ref fCo)))
    (lCo : K.lookup fCo = some ⟨ocCo, odCo, .func (PySem.W.fnOf "is_count" "is_count" (defArgs sCount) (defBody sCount) (defScope sCount) .none kVCo dcCo pmCo anCo cdCo ctCo), slCo⟩)
    (cCo : PySem.W.codeIn K cdCo "is_count" = true)
    (kCo : PySem.W.keepIn K (.ref fCo) = true)
    (aBt : PySem.W.nsIn K mainGlobals "is_between" = some (some (.ref fBt)))
    (lBt : K.lookup fBt = some ⟨ocBt, odBt, .func (PySem.W.fnOf "is_between" "is_between" (defArgs sBetween) (defBody sBetween) (defScope sBetween) .none kVBt dcBt pmBt anBt cdBt ctBt), slBt⟩)
    (cBt : PySem.W.codeIn K cdBt "is_between" = true)
    (kBt : PySem.W.keepIn K (.ref fBt) = true)
    (aBe : PySem.W.nsIn K mainGlobals "_law_begin" = some (some (.ref fBe)))
    (lBe : K.lookup fBe = some ⟨ocBe, odBe, .func (PySem.W.fnOf "_law_begin" "_law_begin" (defArgs sBegin) (defBody sBegin) (defScope sBegin) .none kVBe dcBe pmBe anBe cdBe ctBe), slBe⟩)
    (cBe : PySem.W.codeIn K cdBe "_law_begin" = true)
    (kBe : PySem.W.keepIn K (.ref fBe) = true)
    (aMi : PySem.W.nsIn K mainGlobals "_law_mixed" = some (some (.ref fMi)))
    (lMi : K.lookup fMi = some ⟨ocMi, odMi, .func (PySem.W.fnOf "_law_mixed" "_law_mixed" (defArgs sMixed) (defBody sMixed) (defScope sMixed) .none kVMi dcMi pmMi anMi cdMi ctMi), slMi⟩)
    (cMi : PySem.W.codeIn K cdMi "_law_mixed" = true)
    (kMi : PySem.W.keepIn K (.ref fMi) = true)
    (aDr : PySem.W.nsIn K mainGlobals "_law_draw" = some (some (.ref fDr)))
    (lDr : K.lookup fDr = some ⟨ocDr, odDr, .func (PySem.W.fnOf "_law_draw" "_law_draw" (defArgs sDraw) (defBody sDraw) (defScope sDraw) .none kVDr dcDr pmDr anDr cdDr ctDr), slDr⟩)
    (cDr : PySem.W.codeIn K cdDr "_law_draw" = true)
    (kDr : PySem.W.keepIn K (.ref fDr) = true)
    (aSf : PySem.W.nsIn K mainGlobals "_law_shuffled" = some (some (.ref fSf)))
    (lSf : K.lookup fSf = some ⟨ocSf, odSf, .func (PySem.W.fnOf "_law_shuffled" "_law_shuffled" (defArgs sShuf) (defBody sShuf) (defScope sShuf) .none kVSf dcSf pmSf anSf cdSf ctSf), slSf⟩)
    (cSf : PySem.W.codeIn K cdSf "_law_shuffled" = true)
    (kSf : PySem.W.keepIn K (.ref fSf) = true)
    (aLa : PySem.W.nsIn K mainGlobals "law" = some (some (.ref fLa)))
    (lLa : K.lookup fLa = some ⟨ocLa, odLa, .func (PySem.W.fnOf "law" "law" (defArgs sLaw) (defBody sLaw) (defScope sLaw) .none kVLa dcLa pmLa anLa cdLa ctLa), slLa⟩)
    (cLa : PySem.W.codeIn K cdLa "law" = true)
    (kLa : PySem.W.keepIn K (.ref fLa) = true)
    (hH : PySem.W.nsIn K mainGlobals "HandleError" = some (some (.ref cH)))
    (n0 : PySem.W.nsIn K mainGlobals "InvalidNumber" = some (some (.ref C0)))
    (n6 : PySem.W.nsIn K mainGlobals "InvalidBook" = some (some (.ref C6)))
    (iHI : PySem.W.findIn K (.ref cH) "__init__" = some (some (.ref fHI)))
    (lHI : K.lookup fHI = some ⟨ocHI, odHI, .func (PySem.W.fnOf "__init__" "HandleError.__init__" (defArgs sHInit) (defBody sHInit) (defScope sHInit) .none kVHI dcHI pmHI anHI cdHI ctHI), slHI⟩)
    (cHI : PySem.W.codeIn K cdHI "HandleError.__init__" = true)
    (kHI : PySem.W.keepIn K (.ref fHI) = true)
    (e0 : K.lookup C0 = some (excClassObj nm0 q0 C0 N0 bs0 bm0 true sn0 sub0 ab0 col0 dd0 x00 x10 x20 x30 x50 "ValueError.__new__"))
    (m0 : PySem.HandSPX.refsVE bm0 = true)
    (r0 : erB K C0 fHI = true)
    (e6 : K.lookup C6 = some (excClassObj nm6 q6 C6 N6 bs6 bm6 true sn6 sub6 ab6 col6 dd6 x06 x16 x26 x36 x56 "ValueError.__new__"))
    (m6 : PySem.HandSPX.refsVE bm6 = true)
    (r6 : erB K C6 fHI = true)
    (hC : PySem.W.nsIn K mainGlobals "Table" = some (some (.ref Cd)))
    (hD : PySem.W.nsIn K mainGlobals "Handle" = some (some (.ref Ch)))
    (bCl : clsB K Cd = true)
    (bCh : clsB K Ch = true)
    (nCl : noB K Cd ["_size", "_book", "_turns", "_entries", "_counts", "_many_entries", "_start", "_freed"] = true)
    (nCh : noB K Ch ["_number", "_turn", "_entry"] = true)
    (kY : PySem.W.kitOne K (.ref Ch) (.ref Ch) = some true)
    (fpNu : PySem.W.findIn K (.ref Ch) "number" = some (some (.ref pNu)))
    (gpNu : PySem.W.specialIn K (.ref pNu) "__get__" = some (some (.builtin "property.__get__")))
    (tpNu : PySem.W.takesIn K (.ref pNu) = some true)
    (rpNu : PySem.W.recIn K pNu "property" = some (.ref fNu :: reNu))
    (lNu : K.lookup fNu = some ⟨ocNu, odNu, .func (PySem.W.fnOf "number" "Handle.number" (defArgs sHdNumber) (defBody sHdNumber) (defScope sHdNumber) .none kVNu dcNu pmNu anNu cdNu ctNu), slNu⟩)
    (cNu : PySem.W.codeIn K cdNu "Handle.number" = true)
    (kNu : PySem.W.keepIn K (.ref fNu) = true)
    (fpTu : PySem.W.findIn K (.ref Ch) "turn" = some (some (.ref pTu)))
    (gpTu : PySem.W.specialIn K (.ref pTu) "__get__" = some (some (.builtin "property.__get__")))
    (tpTu : PySem.W.takesIn K (.ref pTu) = some true)
    (rpTu : PySem.W.recIn K pTu "property" = some (.ref fTu :: reTu))
    (lTu : K.lookup fTu = some ⟨ocTu, odTu, .func (PySem.W.fnOf "turn" "Handle.turn" (defArgs sHdTurn) (defBody sHdTurn) (defScope sHdTurn) .none kVTu dcTu pmTu anTu cdTu ctTu), slTu⟩)
    (cTu : PySem.W.codeIn K cdTu "Handle.turn" = true)
    (kTu : PySem.W.keepIn K (.ref fTu) = true)
    (fpEn : PySem.W.findIn K (.ref Ch) "entry" = some (some (.ref pEn)))
    (gpEn : PySem.W.specialIn K (.ref pEn) "__get__" = some (some (.builtin "property.__get__")))
    (tpEn : PySem.W.takesIn K (.ref pEn) = some true)
    (rpEn : PySem.W.recIn K pEn "property" = some (.ref fEn :: reEn))
    (lEn : K.lookup fEn = some ⟨ocEn, odEn, .func (PySem.W.fnOf "entry" "Handle.entry" (defArgs sHdEntry) (defBody sHdEntry) (defScope sHdEntry) .none kVEn dcEn pmEn anEn cdEn ctEn), slEn⟩)
    (cEn : PySem.W.codeIn K cdEn "Handle.entry" = true)
    (kEn : PySem.W.keepIn K (.ref fEn) = true)
    (fmGn : PySem.W.findIn K (.ref Cd) "_given" = some (some (.ref fGn)))
    (lGn : K.lookup fGn = some ⟨ocGn, odGn, .func (PySem.W.fnOf "_given" "Table._given" (defArgs sTbGiven) (defBody sTbGiven) (defScope sTbGiven) .none kVGn dcGn pmGn anGn cdGn ctGn), slGn⟩)
    (cGn : PySem.W.codeIn K cdGn "Table._given" = true)
    (kGn : PySem.W.keepIn K (.ref fGn) = true)
    (fnGn : PySem.W.isFn K (.ref fGn) = true)
    (fmRn : PySem.W.findIn K (.ref Cd) "_renewed" = some (some (.ref fRn)))
    (lRn : K.lookup fRn = some ⟨ocRn, odRn, .func (PySem.W.fnOf "_renewed" "Table._renewed" (defArgs sTbRenewed) (defBody sTbRenewed) (defScope sTbRenewed) .none kVRn dcRn pmRn anRn cdRn ctRn), slRn⟩)
    (cRn : PySem.W.codeIn K cdRn "Table._renewed" = true)
    (kRn : PySem.W.keepIn K (.ref fRn) = true)
    (fnRn : PySem.W.isFn K (.ref fRn) = true)
    (fmOt : PySem.W.findIn K (.ref Cd) "_turn_of" = some (some (.ref fOt)))
    (lOt : K.lookup fOt = some ⟨ocOt, odOt, .func (PySem.W.fnOf "_turn_of" "Table._turn_of" (defArgs sTbTurnOf) (defBody sTbTurnOf) (defScope sTbTurnOf) .none kVOt dcOt pmOt anOt cdOt ctOt), slOt⟩)
    (cOt : PySem.W.codeIn K cdOt "Table._turn_of" = true)
    (kOt : PySem.W.keepIn K (.ref fOt) = true)
    (fnOt : PySem.W.isFn K (.ref fOt) = true)
    (fmCl : PySem.W.findIn K (.ref Cd) "close" = some (some (.ref fCl)))
    (lCl : K.lookup fCl = some ⟨ocCl, odCl, .func (PySem.W.fnOf "close" "Table.close" (defArgs sTbClose) (defBody sTbClose) (defScope sTbClose) .none kVCl dcCl pmCl anCl cdCl ctCl), slCl⟩)
    (cCl : PySem.W.codeIn K cdCl "Table.close" = true)
    (kCl : PySem.W.keepIn K (.ref fCl) = true)
    (fnCl : PySem.W.isFn K (.ref fCl) = true)
    (fmUs : PySem.W.findIn K (.ref Cd) "use" = some (some (.ref fUs)))
    (lUs : K.lookup fUs = some ⟨ocUs, odUs, .func (PySem.W.fnOf "use" "Table.use" (defArgs sTbUse) (defBody sTbUse) (defScope sTbUse) .none kVUs dcUs pmUs anUs cdUs ctUs), slUs⟩)
    (cUs : PySem.W.codeIn K cdUs "Table.use" = true)
    (kUs : PySem.W.keepIn K (.ref fUs) = true)
    (fnUs : PySem.W.isFn K (.ref fUs) = true)
    (fmFr : PySem.W.findIn K (.ref Cd) "free" = some (some (.ref fFr)))
    (lFr : K.lookup fFr = some ⟨ocFr, odFr, .func (PySem.W.fnOf "free" "Table.free" (defArgs sTbFree) (defBody sTbFree) (defScope sTbFree) .none kVFr dcFr pmFr anFr cdFr ctFr), slFr⟩)
    (cFr : PySem.W.codeIn K cdFr "Table.free" = true)
    (kFr : PySem.W.keepIn K (.ref fFr) = true)
    (fnFr : PySem.W.isFn K (.ref fFr) = true)
    (fmTo : PySem.W.findIn K (.ref Cd) "_told" = some (some (.ref fTo)))
    (lTo : K.lookup fTo = some ⟨ocTo, odTo, .func (PySem.W.fnOf "_told" "Table._told" (defArgs sTbTold) (defBody sTbTold) (defScope sTbTold) .none kVTo dcTo pmTo anTo cdTo ctTo), slTo⟩)
    (cTo : PySem.W.codeIn K cdTo "Table._told" = true)
    (kTo : PySem.W.keepIn K (.ref fTo) = true)
    (fnTo : PySem.W.isFn K (.ref fTo) = true)
    (fmLn : PySem.W.findIn K (.ref Cd) "__len__" = some (some (.ref fLn)))
    (lLn : K.lookup fLn = some ⟨ocLn, odLn, .func (PySem.W.fnOf "__len__" "Table.__len__" (defArgs sTbLen) (defBody sTbLen) (defScope sTbLen) .none kVLn dcLn pmLn anLn cdLn ctLn), slLn⟩)
    (cLn : PySem.W.codeIn K cdLn "Table.__len__" = true)
    (kLn : PySem.W.keepIn K (.ref fLn) = true)
    (fnLn : PySem.W.isFn K (.ref fLn) = true)
    (fmIn : PySem.W.findIn K (.ref Cd) "__init__" = some (some (.ref fIn)))
    (lIn : K.lookup fIn = some ⟨ocIn, odIn, .func (PySem.W.fnOf "__init__" "Table.__init__" (defArgs sTbInit) (defBody sTbInit) (defScope sTbInit) .none (.ref Dk) dcIn pmIn anIn cdIn ctIn), slIn⟩)
    (cIn : PySem.W.codeIn K cdIn "Table.__init__" = true)
    (kIn : PySem.W.keepIn K (.ref fIn) = true)
    (fnIn' : PySem.W.isFn K (.ref fIn) = true)
    (nD : PySem.W.nsIn K Dk "book" = some (some (.str "least" tD)))
    (nE : PySem.W.nsIn K Dk "turns" = some (some (.int 1 tE)))
    (fmHn : PySem.W.findIn K (.ref Ch) "__init__" = some (some (.ref fHn)))
    (lHn : K.lookup fHn = some ⟨ocHn, odHn, .func (PySem.W.fnOf "__init__" "Handle.__init__" (defArgs sHdInit) (defBody sHdInit) (defScope sHdInit) (.ref Th) (.ref Dh) dcHn pmHn anHn cdHn ctHn), slHn⟩)
    (cHn : PySem.W.codeIn K cdHn "Handle.__init__" = true)
    (kHn : PySem.W.keepIn K (.ref fHn) = true)
    (fnHn' : PySem.W.isFn K (.ref fHn) = true)
    (lT : K.lookup Th = some ⟨cT, dT, .seq aT nT, slT⟩)
    (vT : aT = [Value.int 0 tT].toArray)
    (nH : PySem.W.nsIn K Dh "entry" = some (some (.int 0 tH)))
    (fmGi : PySem.W.findIn K (.ref Cd) "give" = some (some (.ref fGi)))
    (lGi : K.lookup fGi = some ⟨ocGi, odGi, .func (PySem.W.fnOf "give" "Table.give" (defArgs sTbGive) (defBody sTbGive) (defScope sTbGive) (.ref Tg) kVGi dcGi pmGi anGi cdGi ctGi), slGi⟩)
    (cGi : PySem.W.codeIn K cdGi "Table.give" = true)
    (kGi : PySem.W.keepIn K (.ref fGi) = true)
    (fnGi : PySem.W.isFn K (.ref fGi) = true)
    (lG : K.lookup Tg = some ⟨cG, dG, .seq aG nG, slG⟩)
    (vG : aG = [Value.none].toArray)
    (hB : PySem.W.nsIn K mainGlobals "BOOKS" = some (some (.ref aB)))
    (lB : K.lookup aB = some ⟨ocB, odB, daB, slB⟩)
    (iB : isTupV ocB daB booksL = true)
    (hN : PySem.W.nsIn K mainGlobals "MOST_NUMBERS" = some (some (.int 60 tN)))
    (hU : PySem.W.nsIn K mainGlobals "MOST_TURNS" = some (some (.int 4 tU)))
    (z_int : PySem.W.nsIn K mainGlobals "int" = some none)
    (z_abs : PySem.W.nsIn K mainGlobals "abs" = some none)
    (z_len : PySem.W.nsIn K mainGlobals "len" = some none)
    (z_str : PySem.W.nsIn K mainGlobals "str" = some none)
    (z_range : PySem.W.nsIn K mainGlobals "range" = some none)
    (z_isinstance : PySem.W.nsIn K mainGlobals "isinstance" = some none)
    (z_bool : PySem.W.nsIn K mainGlobals "bool" = some none)
    (z_tuple : PySem.W.nsIn K mainGlobals "tuple" = some none)
    (z_enumerate : PySem.W.nsIn K mainGlobals "enumerate" = some none)
    (z_list : PySem.W.nsIn K mainGlobals "list" = some none)
    (z_sorted : PySem.W.nsIn K mainGlobals "sorted" = some none)
    : ∃ (fd : FuncData) (cs : List (Addr × Addr)) (sp : Sp), (∀ p ∈ cs, h.get? p.2 = some { cls := .none, data := .fields #[] } ∧ K.lookup p.2 = none ∧ PySem.W.CodeHd h p.1 p.2) ∧
        (∀ (H : Hp) (a : Addr) (ns : List Int), ns.length ≤ 63 → (∀ z ∈ ns, Builtin.Int.intBits z ≤ 1048576) → (∀ p ∈ cs, H p.2 = some (.tbl #[])) → SqL K H a (ns.map V.int) → sp [.ref a] H (fun v _ => v = .bl true) fun _ _ _ => False) ∧
        (∀ (s : Shared) (u : Value), BindsTo s fd ⟨[u], []⟩ [("script", u)]) ∧
        ∀ base : Heap, K.In base → base.Ns mainGlobals mg → (∀ p ∈ cs, LamX.TabB base mg p.1 p.2) → FnG l.prog w K mg base CX0 9 fa fd ["script"] sp := by
  have e := hfa.symm.trans (PySem.W.mg_of X G aLa)
  cases e
  have FCo := fun_mk (st := sCount) lCo cCo kCo
  have FBt := fun_mk (st := sBetween) lBt cBt kBt
  have FBe := fun_mk (st := sBegin) lBe cBe kBe
  have FMi := fun_mk (st := sMixed) lMi cMi kMi
  have FDr := fun_mk (st := sDraw) lDr cDr kDr
  have FSf := fun_mk (st := sShuf) lSf cSf kSf
  have FNu := fun_mk (st := sHdNumber) lNu cNu kNu
  have FTu := fun_mk (st := sHdTurn) lTu cTu kTu
  have FEn := fun_mk (st := sHdEntry) lEn cEn kEn
  have FHI := fun_mk (st := sHInit) lHI cHI kHI
  have FGn := fun_mk (st := sTbGiven) lGn cGn kGn
  have FRn := fun_mk (st := sTbRenewed) lRn cRn kRn
  have FOt := fun_mk (st := sTbTurnOf) lOt cOt kOt
  have FCl := fun_mk (st := sTbClose) lCl cCl kCl
  have FUs := fun_mk (st := sTbUse) lUs cUs kUs
  have FFr := fun_mk (st := sTbFree) lFr cFr kFr
  have FTo := fun_mk (st := sTbTold) lTo cTo kTo
  have FLn := fun_mk (st := sTbLen) lLn cLn kLn
  have gCo := PySem.W.mg_of X G aCo
  have gBt := PySem.W.mg_of X G aBt
  have gBe := PySem.W.mg_of X G aBe
  have gMi := PySem.W.mg_of X G aMi
  have gDr := PySem.W.mg_of X G aDr
  have gSf := PySem.W.mg_of X G aSf
  have BCo := FCo.binds (ps := ["value"]) fun _ _ _ _ _ _ us hl => match us, hl with | [_], _ => rfl
  have BBt := FBt.binds (ps := ["value", "least", "most"]) fun _ _ _ _ _ _ us hl => match us, hl with | [_, _, _], _ => rfl
  have BBe := FBe.binds (ps := ["script"]) fun _ _ _ _ _ _ us hl => match us, hl with | [_], _ => rfl
  have BMi := FMi.binds (ps := ["pool", "many"]) fun _ _ _ _ _ _ us hl => match us, hl with | [_, _], _ => rfl
  have BDr := FDr.binds (ps := ["pool", "many"]) fun _ _ _ _ _ _ us hl => match us, hl with | [_, _], _ => rfl
  have BSf := FSf.binds (ps := ["pool", "many"]) fun _ _ _ _ _ _ us hl => match us, hl with | [_, _], _ => rfl
  have BNu := FNu.binds (ps := ["self"]) fun _ _ _ _ _ _ us hl => match us, hl with | [_], _ => rfl
  have BTu := FTu.binds (ps := ["self"]) fun _ _ _ _ _ _ us hl => match us, hl with | [_], _ => rfl
  have BEn := FEn.binds (ps := ["self"]) fun _ _ _ _ _ _ us hl => match us, hl with | [_], _ => rfl
  have BHI := FHI.binds (ps := ["self", "value"]) fun _ _ _ _ _ _ us hl => match us, hl with | [_, _], _ => rfl
  have BGn := FGn.binds (ps := ["self", "number"]) fun _ _ _ _ _ _ us hl => match us, hl with | [_, _], _ => rfl
  have BRn := FRn.binds (ps := ["self", "number"]) fun _ _ _ _ _ _ us hl => match us, hl with | [_, _], _ => rfl
  have BOt := FOt.binds (ps := ["self", "number"]) fun _ _ _ _ _ _ us hl => match us, hl with | [_, _], _ => rfl
  have BCl := FCl.binds (ps := ["self", "handle"]) fun _ _ _ _ _ _ us hl => match us, hl with | [_, _], _ => rfl
  have BUs := FUs.binds (ps := ["self", "handle"]) fun _ _ _ _ _ _ us hl => match us, hl with | [_, _], _ => rfl
  have BFr := FFr.binds (ps := ["self"]) fun _ _ _ _ _ _ us hl => match us, hl with | [_], _ => rfl
  have BTo := FTo.binds (ps := ["self", "numbers"]) fun _ _ _ _ _ _ us hl => match us, hl with | [_, _], _ => rfl
  have BLn := FLn.binds (ps := ["self"]) fun _ _ _ _ _ _ us hl => match us, hl with | [_], _ => rfl
  obtain ⟨cl, _, mk1, mk2⟩ := clsB_ok bCl
  obtain ⟨clh, _, mh1, mh2⟩ := clsB_ok bCh
  have no := noB_ok nCl
  have noh := noB_ok nCh
  have TC : TbCls K mg Cd := ⟨cl, no _ (by simp), no _ (by simp), no _ (by simp), no _ (by simp), no _ (by simp), no _ (by simp), no _ (by simp), no _ (by simp), PySem.W.mg_of X G hC⟩
  have HC : HCls K mg Ch := ⟨clh, noh _ (by simp), noh _ (by simp), noh _ (by simp), PySem.W.mg_of X G hD, kY⟩
  have TX : TbTxt K mg aB := ⟨PySem.W.mg_of X G hB, fun H => sqT_written lB iB, PySem.W.mg_none_of X G z_str, ⟨_, PySem.W.mg_of X G hN⟩, ⟨_, PySem.W.mg_of X G hU⟩⟩
  have TX2 : TbTxt2 mg := ⟨PySem.W.mg_none_of X G z_len, PySem.W.mg_none_of X G z_tuple, PySem.W.mg_none_of X G z_enumerate⟩
  have PT : PTxt mg := ⟨PySem.W.mg_none_of X G z_int, PySem.W.mg_none_of X G z_abs, PySem.W.mg_none_of X G z_len, PySem.W.mg_none_of X G z_str, PySem.W.mg_none_of X G z_range⟩
  have MT : MTxt K mg := ⟨PySem.W.mg_none_of X G z_isinstance, PySem.W.mg_none_of X G z_int, PySem.W.mg_none_of X G z_bool⟩
  have TS : TxS mg := ⟨PySem.W.mg_none_of X G z_list, PySem.W.mg_none_of X G z_range, PySem.W.mg_none_of X G z_len⟩
  have TL : TxL mg := ⟨PySem.W.mg_none_of X G z_list, PySem.W.mg_none_of X G z_range, PySem.W.mg_none_of X G z_len, PySem.W.mg_none_of X G z_sorted, PySem.W.mg_none_of X G z_int⟩
  have E0' : ErrC K mg "InvalidNumber" C0 fHI := errC_mk (PySem.W.mg_of X G n0) e0 m0 r0
  have E6' : ErrC K mg "InvalidBook" C6 fHI := errC_mk (PySem.W.mg_of X G n6) e6 m6 r6
  have FIn : FunD K "__init__" "Table.__init__" (defArgs sTbInit) (defBody sTbInit) (defScope sTbInit) [] [("book", .str "least"), ("turns", .int 1)] fIn _ :=
    ⟨⟨_, _, _, _, _, _, _, _, _, _, rfl, lIn, cIn, .inl ⟨rfl, rfl⟩, .inr ⟨Dk, rfl, fun q hq => by
      rcases List.mem_cons.mp hq with rfl | hq
      · exact ⟨_, nD, _, rfl⟩
      · rw [List.mem_singleton.mp hq]
        exact ⟨_, nE, _, rfl⟩⟩⟩, kIn⟩
  have FHn : FunD K "__init__" "Handle.__init__" (defArgs sHdInit) (defBody sHdInit) (defScope sHdInit) [.int 0] [("entry", .int 0)] fHn _ :=
    ⟨⟨_, _, _, _, _, _, _, _, _, _, rfl, lHn, cHn, .inr ⟨by simp, Th, _, _, _, rfl, lT, (by rw [vT]), .cons ⟨_, rfl⟩ .nil⟩, .inr ⟨Dh, rfl, fun q hq => by
      rw [List.mem_singleton.mp hq]
      exact ⟨_, nH, _, rfl⟩⟩⟩, kHn⟩
  have FGi : FunD K "give" "Table.give" (defArgs sTbGive) (defBody sTbGive) (defScope sTbGive) [.non] [] fGi _ :=
    ⟨⟨_, _, _, _, _, _, _, _, _, _, rfl, lGi, cGi, .inr ⟨by simp, Tg, _, _, _, rfl, lG, (by rw [vG]), .cons rfl .nil⟩, .inl rfl⟩, kGi⟩
  obtain ⟨mvT, kb⟩ := tb_binds1 FIn
  obtain ⟨kbh, _, _⟩ := hd_binds FHn
  obtain ⟨⟨dsG, dG1, bG1⟩, bG2⟩ := gv_binds FGi
  refine ⟨PySem.W.fnOf "law" "law" (defArgs sLaw) (defBody sLaw) (defScope sLaw) .none kVLa dcLa pmLa anLa cdLa ctLa, [], spLaw K, fun p hp => (by cases hp), fun H a ns hl _ _ hS => ⟨a, ns, rfl, hS, hl, fun _ => rfl⟩, fun s v => .of_eq rfl, fun base _ _ hTB => ?_⟩
  have GDr : FnOk l.prog w K mg base CX0 2 fDr _ ["pool", "many"] spDraw := ok_draw FDr PT FMi BMi gMi
  have GTo : FnOk l.prog w K mg base CX0 1 fOt _ ["self", "number"] (spTurnOf Cd) := ok_tbTurnOf FOt TC
  have GRn : FnOk l.prog w K mg base CX0 5 fRn _ ["self", "number"] (spRenewed Cd Ch) := ok_tbRenewed FRn TC HC ⟨fmOt, fnOt, kOt⟩ GTo BOt ⟨mh1, fmHn, fnHn', mh2⟩ (ok_handle FHn MT E0' HC FHI BHI FCo BCo gCo) kbh
  have GGn : FnOk l.prog w K mg base CX0 6 fGn _ ["self", "number"] (spGiven Cd Ch) := ok_tbGiven FGn TC ⟨fmRn, fnRn, kRn⟩ GRn BRn
  have GFr : FnOk l.prog w K mg base CX0 2 fFr _ ["self"] (spTFree Cd) := ok_tbFree FFr TC TX2 ⟨fmTo, fnTo, kTo⟩ FTo BTo
  have PNu : PropOf K Ch "number" pNu fNu := ⟨fpNu, gpNu, tpNu, _, rpNu⟩
  have GUs : FnOk l.prog w K mg base CX0 3 fUs _ ["self", "handle"] (spUse Cd Ch) := ok_tbUse FUs TC HC ⟨fmOt, fnOt, kOt⟩ GTo BOt PNu (ok_hdNumber FNu) BNu ⟨fpTu, gpTu, tpTu, _, rpTu⟩ (ok_hdTurn FTu) BTu ⟨fpEn, gpEn, tpEn, _, rpEn⟩ (ok_hdEntry FEn) BEn
  exact ok_law lLa cLa TL TC HC FBe BBe gBe (ok_begin FBe PT) FDr BDr gDr GDr FSf BSf gSf (ok_shuf FSf TS FDr BDr gDr GDr) ⟨mk1, fmIn, fnIn', mk2⟩ (ok_table FIn MT TC TX E0' E6' FHI BHI FBt BBt gBt (ok_between FBt FCo MT BCo gCo)) kb
    ⟨fmGi, fnGi, kGi⟩ (ok_tbGive FGi TC E0' FHI BHI FCo BCo gCo (ok_count FCo MT) ⟨fmFr, fnFr, kFr⟩ GFr BFr ⟨fmGn, fnGn, kGn⟩ GGn BGn) bG1 dG1 bG2 ⟨fmCl, fnCl, kCl⟩ (ok_tbClose FCl TC HC ⟨fmUs, fnUs, kUs⟩ GUs BUs PNu (ok_hdNumber FNu) BNu) BCl
    ⟨fmFr, fnFr, kFr⟩ GFr BFr fmLn fnLn (ok_tbLen FLn TC TX2) BLn PNu (ok_hdNumber FNu) BNu
end Toy

open PySem PySem.W PyProof.Rows in
set_option maxRecDepth 100000 in
set_option maxHeartbeats 0 in
theorem PySem.Challenge.cw_handlesagain_k46_whole_orders_of_numbers_holds : PySem.Challenge.rw_handlesagain_k46_whole_orders_of_numbers.Holds := by
  w_on; o_law; k_head; (case hw => w_witness2)
  k_fill
  refine Toy.walkGT (l := PySem.Challenge.rw_handlesagain_k46_whole_orders_of_numbers) (k := 9) (CX := fun _ => L2.CX0) rfl rfl ⟨rfl, by decide, by decide⟩ (fun w h Y => PySem.W.kIn_of Y) (fun _ _ _ _ _ z => z) ?F
  case F =>
    intro w mg fa h Y KX G hmg
    refine' Toy.all_mk KX G hmg ?aCo ?lCo ?cCo ?kCo ?aBt ?lBt ?cBt ?kBt ?aBe ?lBe ?cBe ?kBe ?aMi ?lMi ?cMi ?kMi ?aDr ?lDr ?cDr ?kDr ?aSf ?lSf ?cSf ?kSf ?aLa ?lLa ?cLa ?kLa ?hH ?n0 ?n6 ?iHI ?lHI ?cHI ?kHI ?e0 ?m0 ?r0 ?e6 ?m6 ?r6 ?hC ?hD ?bCl ?bCh ?nCl ?nCh ?kY ?fpNu ?gpNu ?tpNu ?rpNu ?lNu ?cNu ?kNu ?fpTu ?gpTu ?tpTu ?rpTu ?lTu ?cTu ?kTu ?fpEn ?gpEn ?tpEn ?rpEn ?lEn ?cEn ?kEn ?fmGn ?lGn ?cGn ?kGn ?fnGn ?fmRn ?lRn ?cRn ?kRn ?fnRn ?fmOt ?lOt ?cOt ?kOt ?fnOt ?fmCl ?lCl ?cCl ?kCl ?fnCl ?fmUs ?lUs ?cUs ?kUs ?fnUs ?fmFr ?lFr ?cFr ?kFr ?fnFr ?fmTo ?lTo ?cTo ?kTo ?fnTo ?fmLn ?lLn ?cLn ?kLn ?fnLn ?fmIn ?lIn ?cIn ?kIn ?fnIn' ?nD ?nE ?fmHn ?lHn ?cHn ?kHn ?fnHn' ?lT ?vT ?nH ?fmGi ?lGi ?cGi ?kGi ?fnGi ?lG ?vG ?hB ?lB ?iB ?hN ?hU ?z_int ?z_abs ?z_len ?z_str ?z_range ?z_isinstance ?z_bool ?z_tuple ?z_enumerate ?z_list ?z_sorted
    (case aCo => k_is)
    (case lCo => k_is)
    (case cCo => k_is)
    (case kCo => k_is)
    (case aBt => k_is)
    (case lBt => k_is)
    (case cBt => k_is)
    (case kBt => k_is)
    (case aBe => k_is)
    (case lBe => k_is)
    (case cBe => k_is)
    (case kBe => k_is)
    (case aMi => k_is)
    (case lMi => k_is)
    (case cMi => k_is)
    (case kMi => k_is)
    (case aDr => k_is)
    (case lDr => k_is)
    (case cDr => k_is)
    (case kDr => k_is)
    (case aSf => k_is)
    (case lSf => k_is)
    (case cSf => k_is)
    (case kSf => k_is)
    (case aLa => k_is)
    (case lLa => k_is)
    (case cLa => k_is)
    (case kLa => k_is)
    (case hH => k_is)
    (case n0 => k_is)
    (case n6 => k_is)
    (case iHI => k_is)
    (case lHI => k_is)
    (case cHI => k_is)
    (case kHI => k_is)
    (case e0 => k_is)
    (case m0 => decide +kernel)
    (case r0 => kernel_rfl)
    (case e6 => k_is)
    (case m6 => decide +kernel)
    (case r6 => kernel_rfl)
    (case hC => k_is)
    (case hD => k_is)
    (case bCl => kernel_rfl)
    (case bCh => kernel_rfl)
    (case nCl => kernel_rfl)
    (case nCh => kernel_rfl)
    (case kY => kernel_rfl)
    (case fpNu => k_is)
    (case gpNu => k_is)
    (case tpNu => k_is)
    (case rpNu => k_is)
    (case lNu => k_is)
    (case cNu => k_is)
    (case kNu => k_is)
    (case fpTu => k_is)
    (case gpTu => k_is)
    (case tpTu => k_is)
    (case rpTu => k_is)
    (case lTu => k_is)
    (case cTu => k_is)
    (case kTu => k_is)
    (case fpEn => k_is)
    (case gpEn => k_is)
    (case tpEn => k_is)
    (case rpEn => k_is)
    (case lEn => k_is)
    (case cEn => k_is)
    (case kEn => k_is)
    (case fmGn => k_is)
    (case lGn => k_is)
    (case cGn => k_is)
    (case kGn => k_is)
    (case fnGn => k_is)
    (case fmRn => k_is)
    (case lRn => k_is)
    (case cRn => k_is)
    (case kRn => k_is)
    (case fnRn => k_is)
    (case fmOt => k_is)
    (case lOt => k_is)
    (case cOt => k_is)
    (case kOt => k_is)
    (case fnOt => k_is)
    (case fmCl => k_is)
    (case lCl => k_is)
    (case cCl => k_is)
    (case kCl => k_is)
    (case fnCl => k_is)
    (case fmUs => k_is)
    (case lUs => k_is)
    (case cUs => k_is)
    (case kUs => k_is)
    (case fnUs => k_is)
    (case fmFr => k_is)
    (case lFr => k_is)
    (case cFr => k_is)
    (case kFr => k_is)
    (case fnFr => k_is)
    (case fmTo => k_is)
    (case lTo => k_is)
    (case cTo => k_is)
    (case kTo => k_is)
    (case fnTo => k_is)
    (case fmLn => k_is)
    (case lLn => k_is)
    (case cLn => k_is)
    (case kLn => k_is)
    (case fnLn => k_is)
    (case fmIn => k_is)
    (case lIn => k_is)
    (case cIn => k_is)
    (case kIn => k_is)
    (case fnIn' => k_is)
    (case nD => k_is)
    (case nE => k_is)
    (case fmHn => k_is)
    (case lHn => k_is)
    (case cHn => k_is)
    (case kHn => k_is)
    (case fnHn' => k_is)
    (case lT => k_is)
    (case vT => exact rfl)
    (case nH => k_is)
    (case fmGi => k_is)
    (case lGi => k_is)
    (case cGi => k_is)
    (case kGi => k_is)
    (case fnGi => k_is)
    (case lG => k_is)
    (case vG => exact rfl)
    (case hB => k_is)
    (case lB => k_is)
    (case iB => kernel_rfl)
    (case hN => k_is)
    (case hU => k_is)
    (case z_int => k_is)
    (case z_abs => k_is)
    (case z_len => k_is)
    (case z_str => k_is)
    (case z_range => k_is)
    (case z_isinstance => k_is)
    (case z_bool => k_is)
    (case z_tuple => k_is)
    (case z_enumerate => k_is)
    (case z_list => k_is)
    (case z_sorted => k_is)
