import PyProof.Rows.All
import Wide.All
import OpenK.AllK
import Wide.FinOn
import HandS.ForMost
import HandS.Wide
import HandS.IsInst
import HandS.EndBits
import HandS.ExcInit
import HandS.ExcIs
import HandS.ExcField
import HandS.ExcValue
import PyProof.ExcBaseAll.OverflowError
import PyProof.ExcBaseAll.LookupError
import PyProof.ExcBaseAll.ValueError
import HandS.TupAny
import HandS.Walk
import HandS.TupMul
import PyProof.ReprRoads
import HandS.Lambda
import HandS.EndTab
import HandS.HotCalls
import HandS.TryMany
import PyProof.ReprLen
import HandS.MakeKwOnly
import HandS.Property
import HandS.FStr
import HandS.SlotsOwn
import HandS.WordsExc
import KE.KNestM
import HandS.Conv
import HandS.Style
import HandS.TupSets
import HandS.TryOnly
import PySem.Challenge.RW_handlesagain_k06_tables
set_option Elab.async false
set_option maxRecDepth 100000
set_option maxHeartbeats 2000000
namespace PySem
namespace ExK
open PySem.W PySem.Calls PyProof.Rows PySem.HandSPX
open Builtin Builtin.ObjectAttr
/-! ### an own exception class called with keywords -/
section
variable {M : Model} {A : Around} {E : Value → Shared → Prop} {h : Heap} {g : Array GenState} {d : Drawn} {t : Nat} {os : OsState}
  {nm q : Str} {C N : Addr} {bs bm bmB : List Value} {hdct : Bool} {sn : List Str} {sub : List Value} {ab : Bool} {col : Option Bool} {dd : Option Addr}
  {k0 k1 k2 k3 k5 : Option Value} {B newId initId : String} {xs : List Value} {kw : List (Str × Value)}
/-- bm has the built-in classes of bmB, and no other -/
def SameB (bm bmB : List Value) : Prop := ∀ X : String, bm.contains (.type X) = bmB.contains (.type X)
/-- the class at C -/
def ClsAt (h : Heap) (nm q : Str) (C N : Addr) (bs bm : List Value) (hdct : Bool) (sn : List Str) (sub : List Value) (ab : Bool) (col : Option Bool) (dd : Option Addr) (k0 k1 k2 k3 k5 : Option Value) (newId : String) : Prop :=
  h.get? C = some (excClassObj nm q C N bs bm hdct sn sub ab col dd k0 k1 k2 k3 k5 newId)
theorem sub_of (hT : SameB bm bmB) (X : String) : (Value.ref C :: bm).contains (.type X) = bmB.contains (.type X) := by
  rw [List.contains_cons, hT X]
  rfl
theorem ck_new (F : ExcBaseFacts B newId initId bmB) (hT : SameB bm bmB) {Q : Unit → Shared → Prop} (hC : ClsAt h nm q C N bs bm hdct sn sub ab col dd k0 k1 k2 k3 k5 newId)
    (hq : Q () ⟨h, g, d, t, os⟩) : wpAny M A (checkBuiltinCall newId ⟨.ref C :: xs, kw⟩) Q E ⟨h, g, d, t, os⟩ := by
  have e1 : (Value.ref C :: bm).contains (.type B) = true := (sub_of hT B).trans F.hasB
  have z9 := F.noStar
  unfold ClsAt at hC
  simp only [checkBuiltinCall, F.newKind, F.newSplit, F.newRow]
  repeat (first
    | refine wpAny_loadPart_at hC ?_
    | (refine wpAny_isSubtype_exc hC ?_
       rw [e1])
    | refine wpAny_staticBase_exc hC ?_
    | refine wpAny_madeBy_exc hC ?_
    | simp only [bne_self_eq_false, Bool.false_eq_true, if_false]
    | wp_step)
  exact hq
end
section
variable {prog : Program} {w : World} {A : Around} {E : Value → Shared → Prop} {R : Result → Shared → Prop} {h : Heap} {g : Array GenState} {d : Drawn} {t : Nat} {os : OsState}
  {nm q : Str} {C N : Addr} {bs bm bmB : List Value} {hdct : Bool} {sn : List Str} {sub : List Value} {ab : Bool} {col : Option Bool} {dd : Option Addr}
  {k0 k1 k2 k3 k5 : Option Value} {B newId initId : String} {xs : List Value} {kw : List (Str × Value)}
theorem nw_kw (F : ExcBaseFacts B newId initId bmB) (hT : SameB bm bmB) (hC : ClsAt h nm q C N bs bm hdct sn sub ab col dd k0 k1 k2 k3 k5 newId)
    (hq : R (.ok (.ret (.ref (h.objs.size + 1)))) ⟨(h.push (W.kdv_tup xs)).push (excO C h.objs.size), g, d, t, os⟩) (hl : xs.length ≤ sizeLine) :
    codeAny (model prog w) A (.builtin newId ⟨.ref C :: xs, kw⟩) R ⟨h, g, d, t, os⟩ := by
  have z0 := F.ends
  have z1 : (Value.ref C :: bm).contains (.type B) = true := (sub_of hT B).trans F.hasB
  have z2 : (Value.ref C :: bm).contains (.type "AttributeError") = false := (sub_of hT _).trans F.noAttr
  have z3 : (Value.ref C :: bm).contains (.type "NameError") = false := (sub_of hT _).trans F.noName
  unfold ClsAt at hC
  apply codeAny_builtinAt F.entry
  unfold Builtin.«BaseException.__new__»
  apply wpAt_bind
  show wpAt _ _ _ (stack >>= _) _ _ _
  refine wpAt_bind (wpAt_stack fun p below => wpAt_of_wpAny ?_)
  wp_walk
  apply wpAt_of_wpAny
  rw [F.owner]
  repeat (first
    | with_reducible refine wpAny_madeHere_exc F.canon hC ?_
    | with_reducible refine wpAny_loadPart_at hC ?_
    | (with_reducible refine wpAny_isSubtype_exc hC ?_
       first | rw [z1] | rw [z2] | rw [z3])
    | wp_step)
  show R _ _
  rw [Heap.size_push]
  exact hq
theorem ck_call {M : Model} {Q : Unit → Shared → Prop} (hC : ClsAt h nm q C N bs bm hdct sn sub ab col dd k0 k1 k2 k3 k5 newId) (hq : Q () ⟨h, g, d, t, os⟩) :
    wpAny M A (checkBuiltinCall "type.__call__" ⟨.ref C :: xs, kw⟩) Q E ⟨h, g, d, t, os⟩ := by
  have z0 := tc_sub
  unfold ClsAt at hC
  have z1 : (⟨h, g, d, t, os⟩ : Shared).TypeIs (.ref C) "type" := ⟨_, hC, rfl⟩
  simp only [checkBuiltinCall, tc_kind, tc_split]
  repeat (any_goals (first
    | assumption
    | with_reducible refine wpAny_loadPart_at hC ?_
    | with_reducible refine wpAny_onRaise ?_
    | with_reducible refine wpAny_map ?_
    | wp_step))
/-- what __init__ hands back is None -/
def BackI (a : Addr) (E : Value → Shared → Prop) (Q : Fin → Shared → Prop) : Result → Shared → Prop := fun r s' => match r with
  | .ok (.ret v) => v = .none ∧ Q (.done (.ret (.ref a))) s'
  | .ok _ => False
  | .error e => E e s'
theorem tc_kw {fI : Addr} {Q : Fin → Shared → Prop} (F : ExcBaseFacts B newId initId bmB) (hT : SameB bm bmB) (hC : ClsAt h nm q C N bs bm hdct sn sub ab col dd k0 k1 k2 k3 k5 newId)
    (hi : W.Looks (model prog w) h (typeLookup (.ref C) "__init__") (some (.ref fI))) (hb : ∀ v, W.Looks (model prog w) h (bindSpecial (.ref fI) v) (.ref fI, [v])) (hl : xs.length ≤ sizeLine)
    (hq : codeAny (model prog w) A (.call (.ref fI) ⟨.ref (h.objs.size + 1) :: xs, kw⟩) (BackI (h.objs.size + 1) E Q) ⟨(h.push (W.kdv_tup xs)).push (excO C h.objs.size), g, d, t, os⟩) :
    wpAny (model prog w) A (Builtin.«type.__call__» ⟨.ref C :: xs, kw⟩) Q E ⟨h, g, d, t, os⟩ := by
  have hC0 := hC
  unfold ClsAt at hC
  repeat (first
    | with_reducible refine wpAny_loadPart_at hC ?_
    | with_reducible refine wpAny_madeBy_exc hC ?_
    | wp_step)
  apply codeAny_call_builtin_code (Code.quiet_builtin _ F.quiet) (ck_new F hT hC0 _)
  refine nw_kw F hT hC0 ?_ hl
  show wpAny _ _ _ _ _ _
  have kp : ∀ b o, h.get? b = some o → ((h.push (W.kdv_tup xs)).push (excO C h.objs.size)).get? b = some o := fun b o e =>
    Heap.get?_push_of_some _ (Heap.get?_push_of_some _ e)
  have y1 := kp _ _ hC
  have y2 : ((h.push (W.kdv_tup xs)).push (excO C h.objs.size)).get? (h.objs.size + 1) = some (excO C h.objs.size) := by
    heap_get
  have y3 : (Value.ref C :: bm).contains (.ref C) = true := by
    simp
  have y4 := hi.keeps kp
  have y5 := (hb (.ref (h.objs.size + 1))).keeps kp
  unfold isInstance
  repeat (first
    | with_reducible refine wpAny_loadPart_at y2 ?_
    | (with_reducible refine wpAny_isSubtype_exc y1 ?_
       rw [y3])
    | wp_step)
  show wpAny _ _ (typeLookup (.ref C) _) _ _ _
  refine y4.at ?_
  refine wpAny_holding (wpAny_bind (y5.at ?_))
  refine wpAny_bind (wpAny_call (codeAny_mono hq fun r s' z => ?_))
  cases r with
  | error e => exact z
  | ok fl =>
    cases fl with
    | ret v =>
      obtain ⟨rfl, z⟩ := z
      first
        | exact wpAny_pure (wpAny_pure z)
        | (wp_walk
           exact z)
    | next => exact z.elim
    | brk => exact z.elim
    | cont => exact z.elim
theorem own_kw {fI : Addr} (F : ExcBaseFacts B newId initId bmB) (hT : SameB bm bmB) (hC : ClsAt h nm q C N bs bm hdct sn sub ab col dd k0 k1 k2 k3 k5 newId)
    (hi : W.Looks (model prog w) h (typeLookup (.ref C) "__init__") (some (.ref fI))) (hb : ∀ v, W.Looks (model prog w) h (bindSpecial (.ref fI) v) (.ref fI, [v])) (hl : xs.length ≤ sizeLine)
    (hq : codeAny (model prog w) (A.under (.builtin "type.__call__" ⟨.ref C :: xs, kw⟩)) (.call (.ref fI) ⟨.ref (h.objs.size + 1) :: xs, kw⟩) (W.InitBack (h.objs.size + 1) R)
      ⟨(h.push (W.kdv_tup xs)).push (excO C h.objs.size), g, d, t, os⟩) :
    codeAny (model prog w) A (.call (.ref C) ⟨xs, kw⟩) R ⟨h, g, d, t, os⟩ := by
  have x1 := tc_lookup
  have x2 := tc_bind (.ref C)
  have hC0 := hC
  unfold ClsAt at hC
  have x3 : (⟨h, g, d, t, os⟩ : Shared).TypeIs (.ref C) "type" := ⟨_, hC, rfl⟩
  apply codeAny_of_tree
  show wpAny _ _ (callAny (.ref C) _) _ _ _
  repeat (any_goals (first
    | assumption
    | with_reducible refine wpAny_loadPart_at hC ?_
    | wp_step))
  refine ⟨rfl, ?_⟩
  refine codeAny_call_builtin_at (Code.quiet_builtin _ (by decide +kernel)) entry_typeCall (ck_call hC0 (tc_kw F hT hC0 hi hb hl ?_))
  refine codeAny_mono hq fun r s' z => ?_
  rcases r with e | (v | _ | _ | _) <;> exact z
end
/-! ### self.f = v on such an exception -/
def MroOk (l : List Value) : Prop := (∀ v, refuseLoop v "__setattr__" l = pure ()) ∧ l.isEmpty = false ∧ l.contains (.type "object") = true
section
variable {prog : Program} {w : World} {A : Around} {E : Value → Shared → Prop} {R : Result → Shared → Prop} {hp : Heap} {g : Array GenState} {d : Drawn} {t : Nat} {os : OsState}
theorem st_gen {K : W.Frag} {f : Str} {tk : Tok} {v : Value} {x C : Addr} {fv : Array Value} {cd : ClassData} (X : K.In hp) (hx : hp.get? x = some { cls := .ref C, data := .fields fv })
    (hcd : W.clsIn K C = some cd) (hm : MroOk cd.mro) (hh : cd.hasDict = true) (ha : W.findIn K (.ref C) f = some none)
    (hq : ∀ h' tk' dx, (∀ b o, b ≠ x → hp.get? b = some o → h'.get? b = some o) → hp.objs.size ≤ dx → dx ≠ x → h'.get? x = some { cls := .ref C, dict := some dx, data := .fields fv } →
      h'.Ns1 dx (fun y => if y = f then some v else none) → R (.ok (.ret .none)) ⟨h', g, d, tk', os⟩) :
    codeAny (model prog w) A (.call (.builtin "object.__setattr__") ⟨[.ref x, .str f tk, v], []⟩) R ⟨hp, g, d, t, os⟩ := by
  obtain ⟨m1, m2, m3⟩ := hm
  have J : W.InstAt hp x { cls := .ref C, data := .fields fv } C none := ⟨hx, rfl, rfl, trivial⟩
  have S := F.store_object
  have nx : x ≠ hp.objs.size := Nat.ne_of_lt (Heap.lt_size hx)
  have e0 : W.mroIn K C (.type "object") = some true := by
    unfold W.mroIn
    rw [hcd, Option.bind_some, if_neg (by rw [m2]; decide), m3]
  have e1 : W.Looks (model prog w) hp (isInstance (.ref x) (.type "object")) true :=
    J.type.andThen (W.looks_mroIn X e0)
  have e2 : W.Looks (model prog w) hp (mroOf (.ref C)) cd.mro := (W.looks_clsIn X hcd).andThen .now
  have e3 : W.Looks (model prog w) hp (storeTaker? none) none := .now
  have e4 : W.Looks (model prog w) hp (classData C) cd := W.looks_clsIn X hcd
  refine codeAny_call_builtin S.slot.plain S.entry ?_
  refine @W.check_slot (model prog w) _ _ ⟨hp, g, d, t, os⟩ "object.__setattr__" "object" "__setattr__" (.ref x) [.str f tk, v] [] _ S.kind S.split e1 (S.args (.ref x) (.str f tk) v) ?_
  rw [W.osa_eq, refuse_eq]
  refine wpAny_bind (wpAny_bind (J.type.at (wpAny_bind (e2.at ?_))))
  rw [m1]
  refine wpAny_pure (wpAny_bind (J.type.at (wpAny_bind ?_)))
  refine (W.looks_findIn X ha).at (wpAny_bind (e3.at ?_))
  show wpAny _ _ (storeInOwnDict (.ref x) (.ref C) (.str f tk) f v false) _ _ _
  obtain ⟨nm, bs, mro, ns, qn, hd, sn, sb, ab, col, del⟩ := cd
  dsimp only at hh
  subst hh
  unfold storeInOwnDict ownDictForStores
  repeat (first
    | with_reducible refine store_in_new ?_ ?_
    | with_reducible refine wpAny_loadPart_at hx ?_
    | with_reducible refine e4.at ?_
    | wp_step)
  · have y : (hp.push { cls := .type "dict", data := .dict #[] }).get? hp.objs.size = _ := Heap.get?_push_at rfl rfl
    exact ⟨_, #[], _, (Heap.get?_update_ne _ _ _ _ nx.symm).trans y, rfl, fun e he => absurd he (by simp), fun _ => rfl⟩
  · intro h' tk' hn' hs
    have y : (hp.push { cls := .type "dict", data := .dict #[] }).get? x = some { cls := .ref C, data := .fields fv } :=
      Heap.get?_push_of_some _ hx
    refine hq h' tk' hp.objs.size (fun b o hb ho => ?_) (Nat.le_refl _) nx.symm ?_ hn'
    · have z := Heap.get?_push_of_some { cls := .type "dict", data := .dict #[] } ho
      exact (hs.2 b (Nat.ne_of_lt (Heap.lt_size ho))).trans ((Heap.get?_update_ne _ _ _ _ hb).trans z)
    · exact (hs.2 x nx).trans (Heap.get?_update_self _ y rfl)
end
end ExK
namespace W
open PySem PySem.Spec PySem.Calls PyProof.Rows
section
variable {prog : Program} {w : World} {A : Around} {E : Value → Shared → Prop} {s : Shared} {K : Frag} {x D : Addr} {ox : Obj} {od : Option Obj}
/-- x.__class__, x an exception, with a dict or without -/
theorem exk_class {Q : Option Value → Shared → Prop} (ga : findIn K (.ref D) "__getattribute__" = some (some (.builtin "BaseException.__getattribute__")))
    (gg : findIn K (.ref D) "__getattr__" = some none) (sb : subIn K (.ref D) (.type "BaseException") = some true) (hf : findObj K D od "__class__" = some (.bind (.builtin "getset_descriptor.__get__") (.builtin "object.__class__")))
    (hm : mroIn K D (.type "object") = some true) (X : K.In s.heap) (I : InstAt s.heap x ox D od) (h : Q (some (.ref D)) { s with toks := s.toks + 1 }) :
    wpAny (model prog w) A (getAttr? (.ref x) "__class__") Q E s := by
  obtain ⟨hp, g, d, t, os⟩ := s
  have l0 := I.type (M := model prog w)
  have l1 := looks_findIn (M := model prog w) X ga
  have l2 := looks_findIn (M := model prog w) X gg
  have l3 := looks_find (M := model prog w) X I hf
  have l4 : Looks (model prog w) hp (isInstance (.ref x) (.type "BaseException")) true :=
    l0.andThen (looks_subIn X sb)
  have b0 : (false && onTheHeap (Value.builtin "BaseException.__getattribute__")) = false := rfl
  have b1 : (onTheHeap (Value.ref D) && Value.builtin "BaseException.__getattribute__" == Value.builtin "object.__getattribute__") = false := by
    rw [show (Value.builtin "BaseException.__getattribute__" == Value.builtin "object.__getattribute__") = false by decide +kernel]
    rfl
  unfold getAttr? getAttrBy? getAttrBy
  refine wpAny_bind (wpAny_mkText (wpAny_bind (wpAny_attempt ?_)))
  refine wpAny_holding (wpAny_bind (l0.at (wpAny_bind (l1.at ?_))))
  show wpAny _ _ (if (onTheHeap (Value.ref D) && Value.builtin "BaseException.__getattribute__" == Value.builtin "object.__getattribute__") = true
    then _ else _) _ _ _
  rw [b1, if_neg Bool.false_ne_true]
  unfold getAttrByItsOwn hookBefore
  apply wpAny_bind
  rw [if_pos (show onTheHeap (Value.ref D) = true from rfl)]
  apply l2.at
  apply wpAny_bind
  refine wpAny_attempt (wpAny_holding ?_)
  unfold callGetattribute
  rw [b0, if_neg Bool.false_ne_true]
  unfold boundAndCalled
  rw [PySem.F.excAttr_ValueError.ga.bind (.ref x)]
  refine wpAny_bind (wpAny_pure ?_)
  show wpAny _ _ (call (.builtin "BaseException.__getattribute__")
    [.ref x, .str "__class__" t]) _ _ _
  apply wpAny_call
  apply codeAny_call_builtin PySem.F.excAttr_ValueError.ga.plain PySem.F.entry_bexc_ga
  refine @check_slot (model prog w) _ _ ⟨hp, g, d, t + 1, os⟩ "BaseException.__getattribute__" "BaseException" "__getattribute__" (.ref x)
    [.str "__class__" t] [] _ (by decide +kernel) (by decide +kernel) l4 (PySem.F.args_bexc_ga (.ref x) (.str "__class__" t)) ?_
  unfold Builtin.«object.__getattribute__»
  refine wpAny_bind (wpAny_of_eq (a := ((Value.ref x : Value), [Value.str "__class__" t])) (by
    first
      | rfl
      | (simp only [slotArgs]
         rfl)) ?_)
  refine wpAny_bind (wpAny_pure (wpAny_bind (l0.at ?_)))
  refine wpAny_bind (l3.at ?_)
  show wpAny _ _ (holding [Value.builtin "object.__class__"]
    (call (.builtin "getset_descriptor.__get__") [.builtin "object.__class__", .ref x, .ref D]) >>= ret) _ _ _
  refine wpAny_bind (wpAny_holding (wpAny_call ?_))
  refine class_get (s := ⟨hp, g, d, t + 1, os⟩) (ox := ox) (od := od) X I hm ?_
  apply wpAny_pure
  show wpAny _ _ (handedOut (.ref D)) _ _ _
  rw [handedOut_of (v := .ref D) rfl]
  first
    | exact wpAny_pure (wpAny_pure h)
    | exact wpAny_pure h
    | exact wpAny_pure (wpAny_bind (wpAny_pure (wpAny_pure h)))
theorem exk_kit (ga : findIn K (.ref D) "__getattribute__" = some (some (.builtin "BaseException.__getattribute__"))) (gg : findIn K (.ref D) "__getattr__" = some none)
    (sb : subIn K (.ref D) (.type "BaseException") = some true) (hd : hasDictIn K D = true) (hf : findObj K D od "__class__" = some (.bind (.builtin "getset_descriptor.__get__") (.builtin "object.__class__")))
    (hm : mroIn K D (.type "object") = some true) : KitX K (.ref x) (.ref D) (fun h => InstAt h x ox D od) := by
  have there : ∀ h : Heap, K.In h → ∃ o : Obj, h.get? D = some o ∧ (∀ its n, o.data ≠ .seq its n) ∧ ∃ cd, o.data = .cls cd := fun h X => by
    obtain ⟨cd, hc, _⟩ := any_some hd
    unfold clsIn at hc
    split at hc
    · rename_i ho
      exact ⟨_, X _ _ ho, fun _ _ z => (nomatch z), _, rfl⟩
    · cases hc
  refine ⟨fun _ _ _ I => I.type, fun M h X _ => ?_, fun h tp dd its n sl X htp => ?_, fun X I k => exk_class ga gg sb hf hm X I k⟩
  · obtain ⟨o, ho, _, cd, hcd⟩ := there h X
    obtain ⟨oc, odd, oda, osl⟩ := o
    dsimp only at hcd
    subst hcd
    intro A' Q' E' s' k q
    unfold isType loadHead
    exact wpAny_bind (wpAny_loadPart (k _ _ ho) (wpAny_pure q))
  · refine Bool.eq_false_iff.mpr fun q => ?_
    obtain rfl : D = tp := Value.ref.inj (beq_iff_eq.mp q)
    obtain ⟨o, ho, hn, _⟩ := there h X
    rw [ho] at htp
    cases htp
    exact hn _ _ rfl
end
end W
end PySem
namespace L2
open PySem PySem.Spec PyProof.Rows PySem.ExK
/-- what the written part says of an own exception class at C, of whatever base -/
structure ExvC (K : PySem.W.Frag) (C : Addr) : Prop where
  cls : ∃ nm q N bs bm sn sub ab col dd k0 k1 k2 k3 k5 B newId initId bmB, K.lookup C = some (excClassObj nm q C N bs bm true sn sub ab col dd k0 k1 k2 k3 k5 newId) ∧
    ExcBaseFacts B newId initId bmB ∧ SameB bm bmB ∧ MroOk (.ref C :: bm)
  sa : PySem.W.findIn K (.ref C) "__setattr__" = some (some (.builtin "object.__setattr__"))
  kC : PySem.W.keepIn K (.ref C) = true
section
variable {X : Cx} {pins : List (Addr × Obj)} {σ : St} {H : Hp} {s : Shared} {a C dx : Addr} {f : Str} {y : V} {u : Value}
theorem st_ex (T : ExvC X.K C) (I : Inv X pins σ H s) (e : H a = some (exo a C none)) (hno : PySem.W.findIn X.K (.ref C) f = some none) (ry : RelV y u) {A : Around} {Q : Unit → Shared → Prop} {E : Value → Shared → Prop}
    (h : ∀ dx s', H dx = none → dx ≠ a → Inv X pins σ (upd (upd H dx (exd dx [(f, y)])) a (exo a C (some dx))) s' → Q () s') : wpAny (model X.prog X.w) A (setAttr (.ref a) f u) Q E s := by
  obtain ⟨nm, q, N, bs, bm, sn, sub, ab, col, dd, k0, k1, k2, k3, k5, B, newId, initId, bmB, hC, FB, hS, hM⟩ := T.cls
  obtain ⟨cd, hcd, c1, c2⟩ : ∃ cd : ClassData, PySem.W.clsIn X.K C = some cd ∧ cd.mro = .ref C :: bm ∧ cd.hasDict = true := by
    unfold PySem.W.clsIn
    rw [hC]
    exact ⟨_, rfl, rfl, rfl⟩
  obtain ⟨t1, ho⟩ := exo_at I.hok e
  obtain ⟨hp, g, d, t, os⟩ := s
  have J : PySem.W.InstAt hp a ({ cls := .ref C, dict := none, data := .fields #[.ref t1, .none, .none, .none, .bool false, .none] } : Obj) C none := ⟨ho, rfl, rfl, trivial⟩
  refine PySem.W.set_plain I.kIn J T.sa (st_gen I.kIn ho hcd (by rw [c1]; exact hM) c2 hno fun h' tk' dx k dn dne hx hn => ?_)
  have hnd : H dx = none := I.hok.fresh dn
  have n1 : ∀ {b : Addr} {o : Obj}, hp.get? b = some o → b ≠ dx := fun {b o} q =>
    Nat.ne_of_lt (Nat.lt_of_lt_of_le (Heap.lt_size q) dn)
  have n2 : ∀ {b : Addr}, H b = none → b ≠ a := fun {b} n z => by
    rw [z, e] at n
    cases n
  have stay : ∀ {b : Addr} {o : HO}, H b = some o → exo a C none ≠ o → (upd (upd H dx (exd dx [(f, y)])) a (exo a C (some dx))) b = some o := fun {b o} q n => by
    rw [upd_ne (at_ne e q n), upd_ne (ne_of_none q hnd)]
    exact q
  have U : Un X.fs [] H (upd (upd H dx (exd dx [(f, y)])) a (exo a C (some dx))) hp h' := {
    keep := fun b o q n _ _ => k b o (n2 n) q
    slot := fun b o q n _ _ => ⟨o.slots, k b o (n2 n) q⟩
    free := fun b o q n _ => by
      rw [upd_ne (n2 n), upd_ne (n1 q)]
      exact n
    there := fun b o q _ => by
      by_cases hb : b = a
      · subst hb
        exact ⟨_, hx⟩
      · exact ⟨o, k b o hb q⟩
    tups := fun b xs q => stay q exo_tup
    frzs := fun b o v q => stay q exo_frz
    tbls := fun b ps q => ⟨#[], by rw [stay q exo_tbl]; simp⟩ }
  refine h dx _ hnd dne (I.un (t' := tk') U fun b o q => ?_)
  by_cases hb : b = a
  · subst hb
    rw [upd_same] at q
    cases q
    exact exo_ok hx
  rw [upd_ne hb] at q
  by_cases hd : b = dx
  · subst hd
    rw [upd_same] at q
    cases q
    exact exd_ok hn (relO_put (fs := []) ry fun g => True.intro)
  rw [upd_ne hd] at q
  refine (I.hok b o q).stay (fun c v hc z => k c v (fun e2 => ?_) z) (fun c hc => stay hc exo_own) (fun c xs hc => stay hc exo_tup)
  rcases hc with hc | hc
  · exact hb (hc.symm.trans e2)
  · exact at_ne e hc exo_own e2
/-- self.f = e, self an exception that has no field yet -/
def tStx (K : PySem.W.Frag) (f : Str) (to te : TE) : TS := fun D σ H => te σ H fun y H1 => to σ H1 fun x H2 => ∃ a C : Addr, x = .ref a ∧ ExvC K C ∧ PySem.W.findIn K (.ref C) f = some none ∧
  H2 a = some (exo a C none) ∧ ∀ dx, H2 dx = none → dx ≠ a → D.nx σ (upd (upd H2 dx (exd dx [(f, y)])) a (exo a C (some dx)))
end
section
variable {X : Cx} {o e : Expr} {es : List Expr} {to te : TE} {ta tk : TA} {f : Str} {p p' pos : Pos}
theorem ps_stx (ho : PE X o to) (he : PE X e te) (hs : swapsWith e (some (.Attribute o f p')) pos.line X.env = pure false := by rfl) :
    PS X (.Assign [.Attribute o f p'] e pos) (tStx X.K f to te) := by
  constructor
  intro pins s σ H D I h
  refine plainObj_wpAny_Assign_Attribute (thn (he.run pins s σ H _ I h) fun v s1 ⟨y, H1, I1, r1, q1⟩ => ?_) hs
  refine thn (ho.run pins s1 σ H1 _ I1 q1) fun u s2 ⟨x, H2, I2, r2, a, C, ex, T, hno, ea, q⟩ => ?_
  subst ex
  obtain rfl : u = Value.ref a := r2
  exact st_ex T I2 ea hno r1 fun dx s' n ne J => ⟨σ, _, J, q dx n ne⟩
/-- the making: us, the positional values; kw, the keywords; ws, what the parameters get -/
theorem run_ex {pins : List (Addr × Obj)} {σ : St} {H1 : Hp} {s1 : Shared} {Q : VK} {C fI : Addr} {k : Nat} {fd : FuncData} {ps : List Str} {sp : Sp} {CX : CXT} (T : ExvC X.K C) (iC : PySem.W.findIn X.K (.ref C) "__init__" = some (some (.ref fI)))
    (tI : PySem.W.typeIn X.K (.ref fI) = some (.type "function")) (F1 : FnOk X.prog X.w X.K X.mg X.base CX k fI fd ps sp) (hr : Room (k + 1) X.A) (hx : Passes CX X (fun _ _ _ => False)) (I1 : Inv X pins σ H1 s1)
    {us ws : List Value} {vs : List V} {kw : List (Str × Value)} (hl : us.length ≤ 1000) (rv : Vals vs ws) (hb : ∀ (s : Shared) (r : Value), BindsTo s fd ⟨r :: us, kw⟩ (ps.zip (r :: ws)))
    (h : ∀ a, H1 a = none → sp (.ref a :: vs) (upd H1 a (exo a C none)) (fun v H2 => v = .non ∧ Q (.ref a) H2) (fun _ _ _ => False)) :
    wpAny (model X.prog X.w) X.A (call (.ref C) us kw) (EP X pins σ Q) X.xe s1 := by
  obtain ⟨nm, q, N, bs, bm, sn, sub, ab, col, dd, k0, k1, k2, k3, k5, B, newId, initId, bmB, hC, FB, hS, hM⟩ := T.cls
  obtain ⟨hp, g, dr, tk, os⟩ := s1
  have z1 : hp.objs.size ≤ hp.objs.size + 1 := Nat.le_succ _
  have hq := h (hp.objs.size + 1) (I1.hok.fresh z1)
  have kk : ∀ b o, hp.get? b = some o → ((hp.push (PySem.W.kdv_tup us)).push (PySem.HandSPX.excO C hp.objs.size)).get? b = some o := fun b o e =>
    Heap.get?_push_of_some _ (Heap.get?_push_of_some _ e)
  have z2 : ((hp.push (PySem.W.kdv_tup us)).push (PySem.HandSPX.excO C hp.objs.size)).get? (hp.objs.size + 1) = some (PySem.HandSPX.excO C hp.objs.size) := by
    heap_get
  have I2 : Inv X pins σ (upd H1 (hp.objs.size + 1) (exo (hp.objs.size + 1) C none)) ⟨(hp.push (PySem.W.kdv_tup us)).push (PySem.HandSPX.excO C hp.objs.size), g, dr, tk, os⟩ :=
    I1.laid (t' := tk) (a := hp.objs.size + 1) (o := exo (hp.objs.size + 1) C none) kk z1 (exo_ok z2)
  have r2 : Vals (V.ref (hp.objs.size + 1) :: vs) (Value.ref (hp.objs.size + 1) :: ws) := .cons rfl rv
  have hus : us.length ≤ sizeLine := Nat.le_trans hl (by decide)
  have run := F1.run _ X.stack _ _ ⟨Value.ref (hp.objs.size + 1) :: us, kw⟩ (Value.ref (hp.objs.size + 1) :: ws) _ _ (fun _ _ _ => False) (hr.make C us kw) (I2.env0.make C us kw) (hb _ _) r2 hq
  refine wpAny_call (own_kw FB hS (I1.kIn _ _ hC) (PySem.W.looks_findIn I1.kIn iC) (fun v => PySem.W.bind_fn I1.kIn v tI) hus (codeAny_mono run fun r s' hq' => ?_))
  cases r with
  | error er => exact hx pins σ _ _ er s' I2 hq'
  | ok fl =>
    cases fl with
    | ret u =>
      obtain ⟨v, H', I3, rv, ev, q3⟩ := I2.after hq'
      subst ev
      exact ⟨rv, ⟨V.ref (hp.objs.size + 1), H', I3, rfl, q3⟩⟩
    | next => exact False.elim hq'
    | brk => exact False.elim hq'
    | cont => exact False.elim hq'
/-- C(e, ..) | C(k = e, ..): an own exception with its own __init__, as a value -/
def tExv (C : Addr) (sp : Sp) (ta : TA) : TE := fun σ H Q => ta σ H fun vs H1 => vs.length = 1 ∧ ∀ a, H1 a = none → sp (.ref a :: vs) (upd H1 a (exo a C none)) (fun v H2 => v = .non ∧ Q (.ref a) H2) (fun _ _ _ => False)
variable {CX : CXT} {x : Str} {C fI : Addr} {k : Nat} {fd : FuncData} {ps : List Str} {sp : Sp}
theorem pe_exv (T : ExvC X.K C) (iC : PySem.W.findIn X.K (.ref C) "__init__" = some (some (.ref fI))) (tI : PySem.W.typeIn X.K (.ref fI) = some (.type "function")) (F1 : FnOk X.prog X.w X.K X.mg X.base CX k fI fd ps sp)
    (hr : Room (k + 1) X.A) (hb : ∀ (s : Shared) (r u : Value), BindsTo s fd ⟨[r, u], []⟩ (ps.zip [r, u])) (hx : Passes CX X (fun _ _ _ => False)) (hg : Gl X x) (hm : X.mg x = some (.ref C)) (ha : PA X [e] ta)
    (hdb : (x == ("__debug__" : Str)) = false := by decide) (he : starEach [e] X.env = (false, eval e X.env) :: starEach [] X.env := by rfl) (hpl : (backTo pos (starEach [] X.env)).any (·.1) = false := by rfl) :
    PE X (.Call (.Name x p) [e] [] pos) (tExv C sp ta) := by
  constructor
  intro pins s σ H Q I h
  refine wpAny_Call_Name_kw (ld_glob I hg hm ?_ hdb)
  refine PySem.W.callWith_K (h₀ := X.base) I.ok.mod.kin T.kC (thn (ha.run pos pins s σ H _ I h) fun us s1 ⟨vs, H1, I1, r1, hz, q1⟩ => ⟨I1.kIn, ?_⟩) he hpl
  match vs, hz, r1 with
  | [v], _, r1 =>
    obtain ⟨u, rfl, ru⟩ := vals1 r1
    exact run_ex (us := [u]) T iC tI F1 hr hx I1 (show 1 ≤ 1000 by decide) r1 (fun s r => hb s r u) q1
theorem pe_exvK {kws : List Keyword} {kn : Str} (T : ExvC X.K C) (iC : PySem.W.findIn X.K (.ref C) "__init__" = some (some (.ref fI))) (tI : PySem.W.typeIn X.K (.ref fI) = some (.type "function")) (F1 : FnOk X.prog X.w X.K X.mg X.base CX k fI fd ps sp)
    (hr : Room (k + 1) X.A) (hb : ∀ (s : Shared) (r u : Value), BindsTo s fd ⟨[r], [(kn, u)]⟩ (ps.zip [r, u])) (hx : Passes CX X (fun _ _ _ => False)) (hg : Gl X x) (hm : X.mg x = some (.ref C)) (hkw : PK X kws tk)
    (hall : (backToKw pos (keywordEach kws X.env)).all (·.1.isSome) = true := by rfl) (hks : (backToKw pos (keywordEach kws X.env)).filterMap (·.1) = [kn] := by rfl)
    (hdb : (x == ("__debug__" : Str)) = false := by decide) (hpl : ((backTo pos (starEach [] X.env)).any (·.1) || (backToKw pos (keywordEach kws X.env)).any (·.1.isNone)) = false := by rfl) :
    PE X (.Call (.Name x p) [] kws pos) (tExv C sp tk) := by
  constructor
  intro pins s σ H Q I h
  refine wpAny_Call_Name_kw (ld_glob I hg hm ?_ hdb)
  refine PySem.W.callWith_KW0 (h₀ := X.base) I.ok.mod.kin T.kC hall (thn (hkw.run pos pins s σ H _ I h) fun us s1 ⟨vs, H1, I1, r1, hz, q1⟩ => ⟨I1.kIn, ?_⟩) hpl
  rw [hks]
  match vs, hz, r1 with
  | [v], _, r1 =>
    obtain ⟨u, rfl, ru⟩ := vals1 r1
    exact run_ex (us := []) (kw := [(kn, u)]) T iC tI F1 hr hx I1 (by decide) r1 (fun s r => hb s r u) q1
/-- C(), an own exception class without an __init__ of its own -/
theorem pe_exv0 {bmB : List Value} {B newId initId : String} (F : ExcBaseFacts B newId initId bmB) (q : PySem.W.excIn X.K C bmB newId = true) (gC : X.mg x = some (.ref C)) (kC : PySem.W.keepIn X.K (.ref C) = true) (hg : Gl X x)
    (hdb : (x == ("__debug__" : Str)) = false := by decide) : PE X (.Call (.Name x p) [] [] pos) (fun _ H Q => ∀ a, H a = none → Q (.ref a) (upd H a (ExO (.ref C) a))) := by
  constructor
  intro pins s σ H Q I h
  refine wpAny_Call_Name_kw (ld_glob I hg gC ?_ hdb)
  refine PySem.W.callWith_K0 I.kIn kC ?_
  show wpAny _ _ (call (.ref C) []) _ _ _
  obtain ⟨bm, N, nm, qn, bs, hdct, sn, sub, ab, col, dd, k0, k1, k2, k3, k5, mN, hC, hN, hni, T⟩ := exc_obj I.kIn q
  refine wpAny_call_exc_subT F T hC hN hni (fun h' a hm => ?_) (Nat.zero_le _)
  have hn : H a = none := I.hok.gone hm.new
  obtain ⟨t, ht, _, _⟩ := hm.there
  exact ⟨.ref a, upd H a (ExO (.ref C) a), I.laidN hm.keeps hm.new hn (exO_ok ht ⟨rfl, rfl⟩ rfl rfl rfl (show 4 < 6 by decide)), rfl, h a hn⟩
/-- e.f, e an exception that has the field -/
def tFx (K : PySem.W.Frag) (f : Str) (te : TE) : TE := fun σ H Q => te σ H fun x H1 => ∃ (a C d : Addr) (v : V), x = .ref a ∧ XfC K C ∧ PySem.W.findIn K (.ref C) f = some none ∧ H1 a = some (exo a C (some d)) ∧ H1 d = some (exd d [(f, v)]) ∧ Q v H1
theorem pe_fx (he : PE X e te) (hb : attributeBase e f X.env (eval e X.env) = eval e X.env := by rfl) : PE X (.Attribute e f pos) (tFx X.K f te) := by
  constructor
  intro pins s σ H Q I h
  refine attr_of hb (thn (he.run pins s σ H _ I h) fun u s1 hh => ?_)
  obtain ⟨x, H1, I1, rx, a, C, d, v, ex, T, hno, ea, ed, q⟩ := hh
  subst ex
  obtain rfl : u = Value.ref a := rx
  obtain ⟨t1, ho⟩ := exo_at I1.hok ea
  obtain ⟨mA, hns, hr⟩ := exd_at I1.hok ed
  obtain ⟨od, hod, hl⟩ := lookIn_ns hns
  have l : [(f, v)].lookup f = some v := by simp
  obtain ⟨w, hw, rw'⟩ := RelO.some_of (v := v) (o := mA f) (by rw [← l]; exact hr f)
  have J : PySem.W.InstAt s1.heap a _ C (some od) := ⟨ho, rfl, rfl, hod⟩
  exact HandSPX.exc_get I1.kIn J T.ga T.gg T.exC (PySem.W.findObj_own T.hdC hno rfl (by rw [hl, hw])) (handed_of rw') ⟨v, H1, I1.tok _, rw', q⟩
/-- isinstance(e, c), e an exception that stands in H -/
def ExAt (H : Hp) (a C : Addr) : Prop := (∃ d fs, H a = some (exo a C (some d)) ∧ H d = some (exd d fs)) ∨ H a = some (ExO (.ref C) a)
def rIsV (K : PySem.W.Frag) : List V → Hp → VK → Prop := fun xs H Q => ∃ (a C : Addr) (c : V) (u : Value) (b : Bool), xs = [.ref a, c] ∧ ExAt H a C ∧ ExcC K C ∧ ClsV c u ∧ PySem.W.kitOne K (.ref C) u = some b ∧ Q (.bl b) H
theorem call_isV : CallR X (.builtin "isinstance") (rIsV X.K) := by
  intro pins s σ H xs us Q I r h
  obtain ⟨a, C, c, u, b, rfl, ea, hc, k, e, q⟩ := h
  obtain ⟨u1, u2, rfl, r1, r2⟩ := vals2 r
  have e2 := k.eq r2
  subst e2
  cases r1
  have ok : ∀ {od : Option Obj}, PySem.W.findObj X.K C od "__class__" = some (.bind (.builtin "getset_descriptor.__get__") (.builtin "object.__class__")) := fun {od} => by
    obtain ⟨cd, hcd, _⟩ := PySem.W.any_some hc.hd
    have hs : (PySem.W.clsIn X.K C).isSome = true := by
      rw [hcd]
      rfl
    cases od with
    | none => exact PySem.W.findObj_dataN hs hc.ha hc.hn hc.ht
    | some o => exact PySem.W.findObj_data hs hc.ha hc.hn hc.ht
  obtain ⟨oe, od, J⟩ : ∃ oe od, PySem.W.InstAt s.heap a oe C od := by
    rcases ea with ⟨d, fs, ea, ed⟩ | ea
    · obtain ⟨t1, ho⟩ := exo_at I.hok ea
      obtain ⟨mA, hns, _⟩ := exd_at I.hok ed
      obtain ⟨od, hod, _⟩ := lookIn_ns hns
      exact ⟨_, some od, ho, rfl, rfl, hod⟩
    · have z : ObjOk X.prog X.w H s.heap a (ExO (.ref C) a) := I.hok a _ ea
      obtain ⟨⟨oe, vs, h1, ⟨h2, h3⟩, h4, _⟩, _⟩ := z
      exact ⟨oe, none, h1, h2, by unfold PySem.W.notCls; rw [h4], by rw [h3]; trivial⟩
  exact PySem.W.kia_one (PySem.W.exk_kit hc.hg hc.hk hc.hs hc.hd ok hc.hm) I.kIn J e (fun z => nomatch z) fun tk => ⟨.bl b, H, I.tok tk, rfl, q⟩
end
end L2

namespace Toy
open PySem L2 PySem.Spec PyProof.Rows PySem.ExK
def top (i : Nat) : Stmt := PySem.Challenge.pw_handlesagain_k06_tables.main.body.getD i (.Pass ⟨0, 0, 0, 0⟩)
theorem _root_.L2.Same.new {H : Hp} {a : Addr} {o : HO} (h : H a = none) : Same H (upd H a o) := fun b u e => by
  rw [upd_ne (ne_of_none e h)]
  exact e
/-! ### where no repr is under way -/
section
/-- a def's promise, where no repr is under way around the call -/
structure FnG (P : Program) (w : World) (K : PySem.W.Frag) (mg : Str → Option Value) (base : Heap) (CX : CXT) (k : Nat) (f : Addr) (fd : FuncData) (ps : List Str) (sp : Sp) : Prop where
  len : ∀ vs H Q E, sp vs H Q E → vs.length = ps.length
  run : ∀ (A : Around) (outer : List Env) (s : Shared) (H : Hp) (args : Args) (us : List Value) (vs : List V) (Q : VK) (E : XK), A.guards = some [] → Room k A → Env0 P w K mg base A outer s H →
    BindsTo s fd args (ps.zip us) → Vals vs us → sp vs H Q E → codeAny (model P w) A (.call (.ref f) args) (CR CX outer P w H s Q E) s
theorem fnG_ok {P : Program} {w : World} {K : PySem.W.Frag} {mg : Str → Option Value} {base : Heap} {k : Nat} {x qual : Str} {st : Stmt} {f : Addr} {fd : FuncData} {N ps : List Str} {sp : Sp} (F : Fun K x qual st f fd) (S : FnScope N ps (defScope st))
    (len : ∀ vs H Q E, sp vs H Q E → vs.length = ps.length)
    (body : ∀ (cdv : Value) (A : Around) (outer : List Env) (s : Shared) (H : Hp) (vs : List V) (Q : VK) (E : XK), A.guards = some [] → Room k (A.deeper (PyProof.Rows.envOfC qual (defScope st) s.heap.objs.size f cdv)) → sp vs H Q E →
      ∃ t, PSs (cxOf CX0 P w K mg base N qual (defScope st) f cdv A outer s H E).nox (defBody st) t ∧ t { nx := fun _ H' => Q .non H', rt := Q } (start N vs) H) :
    FnG P w K mg base CX0 (k + 1) f fd ps sp := by
  obtain ⟨oc, od, kV, doc, pm, an, cdv, ct, osl, rfl, lk, hcd⟩ := F.ex
  constructor
  · exact len
  intro A outer s H args us vs Q E hg hr e0 hb r hsp
  have hl := len _ _ _ _ hsp
  have old : ∀ b o, base.get? b = some o → s.heap.get? b = some o := fun b o e => (e0.bs b o e).1
  have KX : K.In s.heap := e0.mod.kin.keeps old
  have kinds : ∀ y ∈ ps.zip us, (defScope st).names.lookup y.1 = some .local ∨
      ((defScope st).names.lookup y.1 = some .cell ∧ ((cellsFrom (s.heap.objs.size + 1) (defScope st).names []).lookup y.1).isSome = true) := by
    rintro ⟨n, v⟩ hy
    have q := S.par n (List.of_mem_zip hy).1
    refine q.imp id fun q => ⟨q, ?_⟩
    exact PySem.W.cellsFrom_some _ _ _ (.inl q)
  refine codeAny_call_function hr.depth (KX _ _ lk) rfl S.co S.gen rfl (PySem.W.codeRec_of KX hcd) (hb _ _ _ _ ?_)
  refine wpAny_newFunctionEnv_cells S.kind kinds fun env he s1 z => ?_
  subst he
  refine ⟨(e0.mod.nolimit.keeps old).keeps z.toInCall.keep, PySem.codeAny_func ?_⟩
  obtain ⟨t, ht, hq⟩ := body cdv A outer s H vs Q E hg (hr.deeper _) hsp
  have I := inv_start (CX := CX0) (E := E) (cd := cdv) (f := f) S hr.hd e0 hl r z
  refine wpAny_mono (ht.nox.run [] s1 (start N vs) H _ I hq) (fun fl s' hs => ?_) fun e s' hs => hs
  cases fl with
  | ret u =>
    obtain ⟨v, σ', H', J, rv, q⟩ := hs
    exact ⟨v, H', J.os, J.bare, J.base, J.hok, rv, q⟩
  | next =>
    obtain ⟨σ', H', J, q⟩ := hs
    exact ⟨V.non, H', J.os, J.bare, J.base, J.hok, rfl, q⟩
  | brk => exact hs.choose_spec.choose_spec.2.elim
  | cont => exact hs.choose_spec.choose_spec.2.elim
/-- the law's own call -/
theorem lawG {P : Program} {w : World} {K : PySem.W.Frag} {mg mb : Str → Option Value} {k : Nat} {fa a : Addr} {fd : FuncData} {sp : Sp} {s₁ : Shared} {vs : List Value} {ns : List Int} (KX : K.In s₁.heap) (hns : s₁.heap.Ns mainGlobals mg)
    (hb : s₁.heap.Ns builtinsNs mb) (hbb : ∀ x : Str, x ≠ "__name__" → mb x = bootBuiltins x) (hlim : s₁.heap.NoLimit) (hg : s₁.gens = #[])
    (ha : s₁.heap.get? a = some { cls := .type "list", data := .seq vs.toArray }) (hi : PyProof.Rows.IntsAre vs ns) (hl : ns.length ≤ sizeLine) (hr : Room k callerA)
    (F : ∀ base : Heap, K.In base → base.Ns mainGlobals mg → FnG P w K mg base CX0 k fa fd ["script"] sp) (bind : ∀ (s : Shared) (u : Value), BindsTo s fd ⟨[u], []⟩ [("script", u)])
    (hsp : ∀ H : Hp, SqL K H a (ns.map V.int) → sp [.ref a] H (fun v _ => v = .bl true) fun _ _ _ => False) :
    codeAny (model P w) callerA (.call (.ref fa) ⟨[.ref a], []⟩) (fun r s' => r = .ok (.ret (.bool true)) ∧ PySem.OldK s₁.heap s'.heap ∧ s'.os = s₁.os ∧ AllBare s'.gens) s₁ := by
  have rv := vals_ints hi
  have lenV := hi.length
  -- the abstract heap: nothing, or the script, locked
  have go : ∀ H : Hp, (∀ b o, H b = some o → b = a ∧ K.lookup a = none ∧ o = .frz { cls := .type "list", data := .seq vs.toArray } (.lst (ns.map V.int))) → SqL K H a (ns.map V.int) →
      codeAny (model P w) callerA (.call (.ref fa) ⟨[.ref a], []⟩) (fun r s' => r = .ok (.ret (.bool true)) ∧ PySem.OldK s₁.heap s'.heap ∧ s'.os = s₁.os ∧ AllBare s'.gens) s₁ := by
    intro H hA hS
    have hok : HOk P w H s₁.heap := fun b o q => by
      obtain ⟨rfl, _, rfl⟩ := hA b o q
      exact ⟨ha, by rw [List.length_map]; exact hl, vs, _, rv, ha⟩
    have low : ∀ {b : Addr} {o : Obj}, s₁.heap.get? b = some o → H b = none → (hidT s₁.heap H).get? b = some o := fun e n => hidT_get e n
    have free : ∀ {b : Addr} {o : Obj}, s₁.heap.get? b = some o → (∀ its n, o.data ≠ .seq its n) → H b = none := fun {b o} e d => by
      cases q : H b with
      | none => rfl
      | some u =>
        obtain ⟨rfl, _⟩ := hA b u q
        rw [ha] at e
        cases e
        exact absurd rfl (d _ _)
    have nsT : ∀ {b : Addr} {m : Str → Option Value}, s₁.heap.Ns b m → (hidT s₁.heap H).Ns b m := fun {b m} z => by
      obtain ⟨o, es, ep, e, d, r⟩ := z
      exact ⟨o, es, ep, low e (free e fun its n y => by rw [d] at y; cases y), d, r⟩
    have kT : K.In (hidT s₁.heap H) := fun b o e => by
      refine low (KX b o e) ?_
      cases q : H b with
      | none => rfl
      | some u =>
        obtain ⟨rfl, z, _⟩ := hA b u q
        rw [z] at e
        cases e
    have hM : Mod K mg (hidT s₁.heap H) := by
      obtain ⟨mc, h1, h2⟩ := hlim
      exact ⟨kT, nsT hns, ⟨mb, nsT hb, hbb⟩, ⟨mc, nsT h1, h2⟩⟩
    have e0 : Env0 P w K mg (hidT s₁.heap H) callerA [] s₁ H :=
      ⟨rfl, hM, fun b o e => of_hidT e, Nat.le_of_eq (hidT_size _ _), trivial, fun b hb => (nomatch hb), hok, .of_eq hg⟩
    have run := (F _ kT (nsT hns)).run callerA [] s₁ H ⟨[.ref a], []⟩ [.ref a] [.ref a] _ _ rfl hr e0 (bind s₁ (.ref a)) (.cons rfl .nil) (hsp H hS)
    refine codeAny_mono run fun r s' h => ?_
    cases r with
    | error e => exact False.elim h
    | ok fl =>
      cases fl with
      | next => exact False.elim h
      | brk => exact False.elim h
      | cont => exact False.elim h
      | ret u =>
        obtain ⟨v, H', os, bare, un, hok', r', q⟩ := h
        obtain rfl : v = .bl true := q
        obtain rfl : u = Value.bool true := r'
        refine ⟨rfl, PySem.OldK.of_keep fun b o e => ?_, os, bare⟩
        cases q : H b with
        | none => exact un.keep b o e q (fun z => nomatch z) (fun z => nomatch z)
        | some u =>
          obtain ⟨rfl, _, rfl⟩ := hA b u q
          have z := un.frzs b _ _ q
          rw [ha] at e
          cases e
          exact (hok' b _ z).1
  cases hk : K.lookup a with
  | some o =>
    have e := KX a o hk
    rw [ha] at e
    cases e
    refine go (fun _ => none) (fun b o z => nomatch z) (.inr ⟨_, vs.toArray, _, hk, rfl, rfl, rfl, ?_, by simpa using rv⟩)
    rw [List.size_toArray, lenV]
    exact hl
  | none =>
    refine go (fun b => if b = a then some (.frz { cls := .type "list", data := .seq vs.toArray } (.lst (ns.map V.int))) else none) (fun b o z => ?_) (.inl (.inr ⟨_, if_pos rfl⟩))
    by_cases hb : b = a
    · rw [if_pos hb] at z
      exact ⟨hb, hk, (Option.some.inj z).symm⟩
    · rw [if_neg hb] at z
      cases z
theorem walkG {l : PySem.W.OpenLaw} {k : Nat} {q : Program} {loose : List Str} {XP : (Str → Option Value) → Heap → Prop} {YP : World → Heap → Prop} {d : DefRec} {K : Params → PySem.W.Frag} {sp : PySem.W.Frag → Sp} (hn : l.most = some 63) (hdf : d.params.defaults = [])
    (hr : Room k callerA) (hY : ∀ (w : World) (h : Heap), YP w h → (K w.params).In h)
    (F : ∀ (w : World) (mg : Str → Option Value) (fa : Addr) (h : Heap), (K w.params).In h → h.Ns mainGlobals mg → mg d.name = some (.ref fa) →
      ∃ fd : FuncData, (∀ (s : Shared) (u : Value), BindsTo s fd ⟨[u], []⟩ [("script", u)]) ∧
        ∀ base : Heap, (K w.params).In base → base.Ns mainGlobals mg → FnG l.prog w (K w.params) mg base CX0 k fa fd ["script"] (sp (K w.params)))
    (hsp : ∀ (K : PySem.W.Frag) (H : Hp) (a : Addr) (ns : List Int), ns.length ≤ 63 → SqL K H a (ns.map V.int) → sp K [.ref a] H (fun v _ => v = .bl true) fun _ _ _ => False) :
    PySem.W.WalkO q loose XP YP l.row.toRowW d [] (fun f vs => PySem.call f vs) := by
  refine Att.attach_callB hn hdf fun w s₀ s₁ mg mb fa o pm cd doc a vs ns G Y ho hd hcd hmg hobj hints hlen hbits hg => ?_
  have KX := hY w _ Y
  obtain ⟨fd, hb, hF⟩ := F w mg fa _ KX G.T.g hmg
  exact lawG KX G.T.g G.T.b G.T.builtins G.T.nolimit hg hobj hints (Nat.le_trans hlen (by decide)) hr hF hb fun H hS => hsp (K w.params) H a ns hlen hS
end
/-! ### more rules of my own: repr of data, count, != of lists, tuple * n -/
section
variable {X : Cx}
/-- data that repr shows: as Dp says, or a dict that is empty -/
def Rp (K : PySem.W.Frag) (H : Hp) (v : V) (d : PyData) : Prop := Dp K H v d ∨ ∃ (a : Addr), v = .ref a ∧ H a = some (.dK []) ∧ d = .dict []
mutual
theorem dp_noDict {K : PySem.W.Frag} {H : Hp} : ∀ (d : PyData) (v : V), Dp K H v d → d.hasDict = false
  | .none, _, _ => rfl
  | .bool _, _, _ => rfl
  | .int _, _, _ => rfl
  | .str _, _, _ => rfl
  | .list ds, _, h => by
    cases h with
    | lst _ ha => exact dp_noDictAll ds _ ha
  | .tuple ds, _, h => by
    cases h with
    | tup _ ha => exact dp_noDictAll ds _ ha
  | .dict _, _, h => by cases h
theorem dp_noDictAll {K : PySem.W.Frag} {H : Hp} : ∀ (ds : List PyData) (vs : List V), DpAll K H vs ds → PyData.hasDictAll ds = false
  | [], _, _ => rfl
  | d :: ds, _, h => by
    cases h with
    | cons h1 h2 =>
      show (d.hasDict || PyData.hasDictAll ds) = false
      rw [dp_noDict d _ h1, dp_noDictAll ds _ h2]
      rfl
end
theorem Rp.reads {pins : List (Addr × Obj)} {σ : L2.St} {H : Hp} {s : Shared} (I : L2.Inv X pins σ H s) {v : V} {u : Value} {d : PyData} (h : Rp X.K H v d) (r : RelV v u) : ∃ as, Reads s.heap u d as ∧ (d.hasDict = true → sysModules ∉ as) := by
  rcases h with h | ⟨a, rfl, e, rfl⟩
  · obtain ⟨as, hr⟩ := Dp.reads I d v u h r
    refine ⟨as, hr, fun z => ?_⟩
    rw [dp_noDict d v h] at z
    cases z
  · cases r
    obtain ⟨_, hs, vs, kv, o, es, ep, h1, h2, h3, _, h5, _⟩ := (show ObjOk X.prog X.w H s.heap a (.dK []) from I.hok a _ e)
    cases kv
    cases hes : es.toList with
    | cons x xs =>
      rw [hes] at h5
      cases h5
    | nil =>
      refine ⟨_, Reads.dict (kvs := []) h1 h2.1 h3 (as := []) (bs := []) ?_ ?_, fun _ z => ?_⟩
      · rw [hes]
        exact .nil
      · rw [hes]
        exact .nil
      · rcases List.mem_cons.mp z with z | z
        · rw [z] at hs
          simp at hs
        · cases z
def okD (d : PyData) : Bool := d.showable && decide (d.depth ≤ 50) && decide (d.shown.length ≤ 100000) && PyData.strOk d.shown
theorem call_reprW (hg : X.A.guards = some []) (hu : X.A.units + 64 < cLine) : CallR X (.builtin "repr") (fun xs H Q => ∃ v d, xs = [v] ∧ Rp X.K H v d ∧ (d.showable = true ∧ d.depth ≤ 50 ∧ d.shown.length ≤ 100000) ∧ Q (.str d.shown) H) := by
  intro pins s σ H xs us Q I r h
  obtain ⟨v, d, rfl, hd, ho, q⟩ := h
  obtain ⟨u, rfl, ru⟩ := vals1 r
  obtain ⟨h1, h2, h3⟩ := ho
  obtain ⟨as, hr, hm⟩ := hd.reads I ru
  have fin : ∀ (h' : Heap) (t : Tok) (tk : Nat), (∀ b o, s.heap.get? b = some o → h'.get? b = some o) → EP X pins σ Q (.str d.shown t) { s with heap := h', toks := tk } := fun h' t tk kp =>
    ⟨.str d.shown, H, I.kept (t' := tk) kp, ⟨t, rfl⟩, q⟩
  have hsz : d.shown.length ≤ sizeLine := Nat.le_trans h3 (by decide)
  cases v with
  | ref a =>
    cases ru
    exact repr_of_reads' hr h1 hm hg (by omega) (fun b o e => e) (fun h' t tk kp => fin h' t tk kp) hsz
  | non =>
    cases ru
    cases hr
    exact PySem.P.repr_of_none (fin s.heap _ _ fun b o e => e)
  | bl b =>
    cases ru
    cases hr
    exact PySem.P.repr_of_bool (fin s.heap _ _ fun b o e => e)
  | int i =>
    obtain ⟨t, rfl⟩ := ru
    cases hr
    exact PySem.P.repr_of_int (by simpa [PyData.showable] using h1) (fin s.heap _ _ fun b o e => e)
  | str z =>
    obtain ⟨t, rfl⟩ := ru
    cases hr
    exact PySem.P.repr_of_str (fin s.heap _ _ fun b o e => e) hsz
  | byt b =>
    obtain ⟨t, rfl⟩ := ru
    cases hr
  | flt b =>
    obtain ⟨t, rfl⟩ := ru
    cases hr
  | ty n =>
    cases ru
    cases hr
theorem okD_w {d : PyData} (ho : okD d = true) : d.showable = true ∧ d.depth ≤ 50 ∧ d.shown.length ≤ 100000 := by
  unfold okD at ho
  simp only [Bool.and_eq_true, decide_eq_true_eq] at ho
  obtain ⟨⟨⟨h1, h2⟩, h3⟩, _⟩ := ho
  exact ⟨h1, h2, h3⟩
theorem call_reprD (hg : X.A.guards = some []) (hu : X.A.units + 64 < cLine) : CallR X (.builtin "repr") (fun xs H Q => ∃ v d, xs = [v] ∧ Rp X.K H v d ∧ okD d = true ∧ Q (.str d.shown) H) := by
  intro pins s σ H xs us Q I r h
  obtain ⟨v, d, e, hd, ho, q⟩ := h
  exact call_reprW hg hu pins s σ H xs us Q I r ⟨v, d, e, hd, okD_w ho, q⟩
/-- xs.count(y), flat things -/
def rCnt (K : PySem.W.Frag) : V → List V → Hp → VK → Prop := fun x xs H Q => ∃ (a : Addr) (ys : List V) (y : V), x = .ref a ∧ xs = [y] ∧ SqL K H a ys ∧ flatV y = true ∧ ys.all flatV = true ∧ Q (.int (ys.countP (eqV · y) : Nat)) H
theorem countP_eqU {x : V} : ∀ {xs : List V} {us : List Value}, Vals xs us → xs.all flatV = true → us.countP (eqU x) = xs.countP fun y => eqV y x
  | _, _, .nil, _ => rfl
  | y :: xs, u :: us, .cons r t, f => by
    rw [List.all_cons, Bool.and_eq_true] at f
    rw [List.countP_cons, List.countP_cons, eqU_of r f.1, countP_eqU t f.2]
theorem mt_count : MtR X "list.count" (rCnt X.K) := by
  intro pins s σ H x xs v us Q I rx rxs h
  obtain ⟨a, ys, y, rfl, rfl, hs, fy, fys, q⟩ := h
  cases rx
  obtain ⟨u, rfl, ru⟩ := rxs.one
  obtain ⟨its, rv, ⟨⟨cls, dd, data, sl⟩, n, ho, hc, hdn, hd⟩, hlen⟩ := I.list hs
  simp only at hc hd
  subst hc hd
  have cnt := SeqAt.list_countAt a its.toArray n dd sl u (eqU y)
  refine call_meets PySem.F.slot_list_count ⟨_, ho, rfl⟩ PySem.F.entry_list_count (PySem.F.args_list_count_2 _ _) cnt ?_
  refine ⟨ho, fun z hz => mem_eqAt ru fy rv fys z (by simpa using hz), ?_⟩
  refine ⟨.int (ys.countP (eqV · y) : Nat), H, I.tok _, ⟨s.toks, ?_⟩, q⟩
  rw [← countP_eqU rv fys]
end
/-! ### a tuple, once or not at all -/
section
/-- t * 1: t itself -/
theorem mul_one (l : Addr) (items : Array Value) (n : Nat) (dd : Option Addr) (sl : Array (Option Value)) (u : Tok) (c2 : items.isEmpty = false) :
    Meets (Builtin.«tuple.__mul__» ⟨[.ref l, .int 1 u], []⟩) (fun _ R s => s.heap.get? l = some { cls := .type "tuple", dict := dd, data := .seq items n, slots := sl } ∧ R (.ok (.ret (Value.ref l))) s) :=
  .of_wp fun prog w A R s h => by
    obtain ⟨hp, g, d, tk, os⟩ := s
    obtain ⟨hl, h⟩ := h
    have f1 := AutoSeq1.idx_int
    wp_walk using wpAny_loadPart' hl
    exact ⟨_, rfl, h⟩
/-- t * 0: an empty tuple -/
theorem mul_zero (l : Addr) (items : Array Value) (n : Nat) (dd : Option Addr) (sl : Array (Option Value)) (u : Tok) (c2 : items.isEmpty = false) :
    Meets (Builtin.«tuple.__mul__» ⟨[.ref l, .int 0 u], []⟩) (fun _ R s => s.heap.get? l = some { cls := .type "tuple", dict := dd, data := .seq items n, slots := sl } ∧
      R (.ok (.ret (Value.ref s.heap.objs.size))) { s with heap := s.heap.push { cls := Value.type "tuple", data := Data.seq #[] } }) :=
  .of_wp fun prog w A R s h => by
    obtain ⟨hp, g, d, tk, os⟩ := s
    obtain ⟨hl, h⟩ := h
    have f1 := AutoSeq1.idx_int
    wp_walk using wpAny_loadPart' hl
    exact ⟨_, rfl, h⟩
/-- t * k, k from 0 to 3: some tuple of that -/
def rRep3 (K : PySem.W.Frag) : V → V → Hp → VK → Prop := fun x y H Q => ∃ (l : Addr) (k : Int) (xs : List V), x = .ref l ∧ y = .int k ∧ SqT K H l xs ∧ H l = some (.tup xs) ∧ xs ≠ [] ∧ 0 ≤ k ∧ k ≤ 3 ∧ xs.length ≤ 1000 ∧
  ∀ p H', (∀ b o, H b = some o → H' b = some o) → H' p = some (.tup (List.replicate k.toNat xs).flatten) → Q (.ref p) H'
theorem op_rep3 {X : Cx} : OpR X (binaryOp .Mult) (rRep3 X.K) := by
  intro pins s σ H x y v u Q I rx ry h
  obtain ⟨l, k, xs, rfl, rfl, hT, eT, hne, h0, h3, hz, q⟩ := h
  by_cases hk : 2 ≤ k
  · refine op_repT pins s σ H _ _ v u Q I rx ry ⟨l, k, xs, rfl, rfl, hT, hne, hk, by omega, hz, fun p hp => q p _ (fun b o e => ?_) upd_same⟩
    rw [upd_ne (ne_of_none e hp)]
    exact e
  cases rx
  obtain ⟨t, rfl⟩ := ry
  obtain ⟨its, r, ⟨⟨cls, dd, data, sl⟩, ho, hc, n, hd⟩, hs⟩ := I.tuple hT
  simp only at hc hd
  subst hc hd
  have hi : its.toArray.isEmpty = false := by
    cases r with
    | nil => exact absurd rfl hne
    | cons a b => rfl
  have ty : s.TypeIs (.ref l) "tuple" := ⟨_, ho, rfl⟩
  have key : ∀ (i : Int), k = i → wpAny (model X.prog X.w) X.A (call (.builtin "tuple.__mul__") [.ref l, .int i t]) (EP X pins σ Q) X.xe s → wpAny (model X.prog X.w) X.A (binaryOp .Mult (.ref l) (.int k t)) (EP X pins σ Q) X.xe s := by
    rintro i rfl hq
    refine wpAny_binaryOp_repeat_ref (T := "tuple") (U := "int") (by decide) ty (fun s' => typeIs_int s' k t) noFill_tuple_mul F.fills_int_mul F.slot_int_rmul repeat_tuple F.slot_int_index.lookup ?_
    exact call_meets F.slot_int_rmul (typeIs_int s k t) F.entry_int_rmul (F.args_int_rmul_2 _ _) (int_rmul_tuple k t l its.toArray n dd sl) ⟨ho, rfl, ty, hq⟩
  have k01 : k = 0 ∨ k = 1 := by omega
  rcases k01 with rfl | rfl
  · refine key 0 rfl (call_meets F.slot_tuple_mul ty F.entry_tuple_mul (F.args_tuple_mul_2 _ _) (mul_zero l its.toArray n dd sl t hi) ⟨ho, ?_⟩)
    have I1 := I.laid (t' := s.toks) (a := s.heap.objs.size) (o := .tup []) (h' := s.heap.push { cls := Value.type "tuple", data := Data.seq #[] }) (fun _ _ q => Heap.get?_push_of_some _ q) (Nat.le_refl _)
      ⟨Nat.zero_le _, [], .nil, _, Heap.get?_push_at rfl rfl, rfl, _, rfl⟩
    have hn := I.hok.fresh (Nat.le_refl s.heap.objs.size)
    exact ⟨.ref s.heap.objs.size, _, I1, rfl, q _ _ (fun b o e => by rw [upd_ne (ne_of_none e hn)]; exact e) upd_same⟩
  · refine key 1 rfl (call_meets F.slot_tuple_mul ty F.entry_tuple_mul (F.args_tuple_mul_2 _ _) (mul_one l its.toArray n dd sl t hi) ⟨ho, ?_⟩)
    refine ⟨.ref l, H, I, rfl, q l H (fun b o e => e) ?_⟩
    rw [eT]
    simp
end
/-! ### data stays data; texts of ints -/
mutual
theorem dp_same {K : PySem.W.Frag} {H H' : Hp} (s : Same H H') : ∀ (d : PyData) (v : V), Dp K H v d → Dp K H' v d
  | .none, _, h => by cases h; exact .non
  | .bool _, _, h => by cases h; exact .bl _
  | .int _, _, h => by cases h; exact .int _
  | .str _, _, h => by cases h; exact .str _
  | .list ds, _, h => by
    cases h with
    | lst q ha => exact .lst (s.seq q) (dp_sameAll s ds _ ha)
  | .tuple ds, _, h => by
    cases h with
    | tup q ha =>
      refine .tup ?_ (dp_sameAll s ds _ ha)
      rcases q with (q | ⟨o, q⟩) | q
      · exact .inl (.inl (s _ _ q))
      · exact .inl (.inr ⟨o, s _ _ q⟩)
      · exact .inr q
  | .dict _, _, h => by cases h
theorem dp_sameAll {K : PySem.W.Frag} {H H' : Hp} (s : Same H H') : ∀ (ds : List PyData) (vs : List V), DpAll K H vs ds → DpAll K H' vs ds
  | [], _, h => by cases h; exact .nil
  | d :: ds, _, h => by
    cases h with
    | cons h1 h2 => exact .cons (dp_same s d _ h1) (dp_sameAll s ds _ h2)
end
theorem rp_same {K : PySem.W.Frag} {H H' : Hp} {v : V} {d : PyData} (h : Rp K H v d) (s : Same H H') : Rp K H' v d := by
  rcases h with h | ⟨a, rfl, e, rfl⟩
  · exact .inl (dp_same s d v h)
  · exact .inr ⟨a, rfl, s _ _ e, rfl⟩
theorem char_lt (c : Char) : c.toNat < 1114112 := by
  have h := c.valid
  have e : c.toNat = c.val.toNat := rfl
  rcases h with h | ⟨_, h⟩
  · rw [e]
    exact Nat.lt_trans h (by decide)
  · rw [e]
    exact h
theorem strOk_of (s : String) : PyData.strOk (Str.ofString s) = true := by
  unfold PyData.strOk
  rw [PySem.Str.ofString_eq_toList]
  show (List.map Char.toNat s.toList).toArray.all (fun x => decide (x < 1114112)) = true
  rw [Array.all_eq_true']
  intro x hx
  have hx2 : x ∈ List.map Char.toNat s.toList := by simpa using hx
  obtain ⟨c, _, rfl⟩ := List.mem_map.mp hx2
  exact decide_eq_true (char_lt c)
theorem okD_int {i : Int} (h : i.natAbs < 10 ^ 40) : okD (.int i) = true := by
  have h1 : i.natAbs < 2 ^ 140 := Nat.lt_of_lt_of_le h (by decide)
  have h2 : i.natAbs.log2 < 1920 := Nat.lt_trans (PySem.Flt.log2_lt_of (by decide) h1) (by decide)
  have h3 := int_text_length_le10 (k := 40) (by decide) h
  have e1 : PyData.showable (.int i) = true := decide_eq_true h2
  have e2 : PyData.shown (.int i) = Str.ofString (toString i) := rfl
  have e3 : (Str.ofString (toString i)).length ≤ 100000 := by
    rw [PySem.ofString_length]
    omega
  unfold okD
  rw [e1, e2, strOk_of, decide_eq_true e3]
  rfl
/-! ### try: .. except A as n: .. except B as m: .. -/
/-- what such clauses wish of an exception of the body; i, the slot of the clause's name -/
def wManyA (K : PySem.W.Frag) (Wout : WX) (D : Ends) : List (Value × Nat × (Addr → Value → Option Addr → TS)) → WX
  | [] => Wout
  | (c, i, ts) :: r => fun cls d σ H => ∃ b, PySem.W.exmOne K cls c = some b ∧
      (b = true → ∀ a, H a = none → ts a cls d { nx := fun σ' H' => D.nx (σ'.set i none) H', rt := D.rt, bk := fun σ' H' => D.bk (σ'.set i none) H', ct := fun σ' H' => D.ct (σ'.set i none) H' } (σ.set i (some (.ref a))) H) ∧
      (b = false → wManyA K Wout D r cls d σ H)
inductive HdsAs (X : Cx) : List ExceptHandler → List (Value × Nat × (Addr → Value → Option Addr → TS)) → Prop
  | nil : HdsAs X [] []
  | cons {x n : Str} {i : Nat} {c : Value} {ts : Addr → Value → Option Addr → TS} {b₀ : Stmt} {suite : List Stmt} {np pos' : Pos} {hds : List ExceptHandler} {l : List (Value × Nat × (Addr → Value → Option Addr → TS))}
      (hc : Names X x c) (hi : X.N[i]? = some n) (hln : X.env.kindOf n = some .local)
      (hsu : ∀ (a : Addr) (oe : Obj) (cls : Value) (d : Option Addr) (pn : List (Addr × Obj)), Zc cls d oe → (∃ vs, oe.data = .fields vs) → PSs (X.suite a ((a, oe) :: pn)) (b₀ :: suite) (ts a cls d))
      (r : HdsAs X hds l) : HdsAs X (.ExceptHandler (some (.Name x np)) (some n) (b₀ :: suite) pos' :: hds) ((c, i, ts) :: l)
section
variable {X : Cx} {body : List Stmt} {h₀ : ExceptHandler} {hds : List ExceptHandler} {l : List (Value × Nat × (Addr → Value → Option Addr → TS))} {pos : Pos} {tb : WX → TS} {Wout : WX}
theorem ps_try_manyA (hs : X.stack = X.env :: X.outer) (hf : X.env.frame = some X.env.locals) (hN : X.N.Nodup) (tk : Takes X Wout)
    (hb : ∀ (W : WX) (pn : List (Addr × Obj)) (xe : Value → Shared → Prop), Takes (X.tr pn xe) W → PassesOwn (model X.prog X.w) X.A X.env xe → PSs (X.tr pn xe) body (tb W))
    (hh : HdsAs X (h₀ :: hds) l) : PS X (.Try body (h₀ :: hds) [] [] pos) (fun D σ H => tb (wManyA X.K Wout D l) D σ H) := by
  constructor
  intro pins s σ H D I h
  have ok := I.ok
  have hfr : X.A.frames = some (X.env :: X.outer) := by
    rw [ok.frames, hs]
  apply wpAny_Try_except
  let xe1 : Value → Shared → Prop := fun e s₁ => wpAny (model X.prog X.w) X.A (noteFrame e X.env)
    (fun _ s₂ => wpAny (model X.prog X.w) X.A (setFlight e none)
      (fun _ s₃ => wpAny (model X.prog X.w) X.A (handleBy e X.env (h₀ :: hds)) (SP X pins D) X.xe s₃) X.xe s₂) X.xe s₁
  refine wpAny_mono ((hb (wManyA X.K Wout D l) (X.pn ++ pins) xe1 (fun u s' xx => ?_) PassesOwn.looking).run [] s σ H D (I.toTry _) h) (fun f s1 hsp => ?_) (fun e s1 he => he)
  · obtain ⟨a, B, sI, pins', σ', H', cls, d, rfl, J', nb, up, sky, na, os, ag, w⟩ := xx
    have J : Inv X pins σ' H' sI := J'.ofTry ok
    have sky' : Sky B (X.env :: X.outer) a (Zc cls d) X.env.locals s'.heap := by
      rw [← hs]
      exact sky
    show wpAny (model X.prog X.w) X.A (noteFrame (.ref a) X.env) _ _ _
    refine Sky.land Zc.steady hfr hf sky' fun h3 fl3 up3 => ?_
    have J3 : Inv X pins σ' H' { s' with heap := h3 } := J.landed nb fl3.1 (up.trans up3) os ag
    obtain ⟨oe3, vs3, he3, hz3, hd3⟩ := fl3.there
    have nfr : a ∉ frs (X.env :: X.outer) := fun hm => by
      obtain ⟨_, o', e', hnf⟩ := fl3.2.2.1.mem hm
      rw [he3] at e'
      cases e'
      exact hnf _ hd3
    have nL : a ≠ X.env.locals := fun z =>
      nfr (List.mem_filterMap.mpr ⟨X.env, List.mem_cons_self, by rw [hf, z]⟩)
    have nF : a ∉ X.fs := fun hm => by
      obtain ⟨e, he, q⟩ := List.mem_filterMap.mp hm
      exact nfr (List.mem_filterMap.mpr ⟨e, List.mem_cons_of_mem _ he, q⟩)
    have S3 := J3.suite he3 hd3 na nL nF
    -- one clause after the other
    have go : ∀ (hds : List ExceptHandler) (l : List (Value × Nat × (Addr → Value → Option Addr → TS))), HdsAs X hds l → wManyA X.K Wout D l cls d σ' H' →
        wpAny (model X.prog X.w) X.A (handleBy (.ref a) X.env hds) (SP X pins D) X.xe { s' with heap := h3 } := by
      intro hds l hh
      induction hh with
      | nil =>
        intro w
        apply wpAny_handleBy_nil
        obtain ⟨k1, k2, k3, oe, vs, T, oT, ts', he, hz, hd, h1, hr⟩ := id fl3
        unfold PySem.passOn
        refine wpAny_bind (wpAny_field he hd h1 ?_)
        rw [if_neg (show ¬ ((Value.ref T == Value.none) = true) from by simp)]
        have fin : wpAny (model X.prog X.w) X.A (setFlight (.ref a) X.env.frame)
            (fun _ s4 => wpAny (model X.prog X.w) X.A (throw (.ref a) : Sem Flow) (SP X pins D) X.xe s4) X.xe { s' with heap := h3 } := by
          rw [hf]
          refine HandSPX.setFlight_upZ fl3 fun h4 hh4 up4 => wpAny_throw (tk _ _ ?_)
          refine ⟨a, B, sI, pins, σ', H', cls, d, rfl, J, nb, (up.trans up3).trans up4, .inr (.inr ?_), na, os, ag, w⟩
          rw [hs]
          exact hh4
        first
          | exact wpAny_bind (wpAny_pure (wpAny_bind fin))
          | exact wpAny_bind fin
      | @cons x n i c ts b₀ suite np pos' hds l hc hi hln hsu r ih =>
        rintro ⟨b, hb1, hyes, hno⟩
        have hloc : Loc X.env.scope n := .inl hln
        refine wpAny_handleBy_cons (codeAny_handlers_test ?_) (by intro q; cases q)
        have l1 : PySem.W.Looks (model X.prog X.w) h3 (typeOf (.ref a)) cls := fun A Q E s k q =>
          wpAny_typeOf_ref (k _ _ he3) (by rw [hz3.1]; exact q)
        have l2 := PySem.W.exm_one (M := model X.prog X.w) (J3.kIn) l1 hb1
        have test : ∀ {Q : Value → Shared → Prop} {E : Value → Shared → Prop}, Q c { s' with heap := h3 } →
            wpAny (model X.prog X.w) (X.A.mark (some (.ref a))) (eval (.Name x np) X.env) Q E { s' with heap := h3 } := fun {Q E} q => by
          obtain ⟨hg, hdbg, hm | ⟨hm, hv, hnn⟩⟩ := hc
          · exact ld_glob (X := X.suite a ((a, oe3) :: (X.pn ++ pins))) S3 hg hm q hdbg
          · exact ld_blt (X := X.suite a ((a, oe3) :: (X.pn ++ pins))) S3 hg hm hv q hnn hdbg
        refine test (l2.here ?_)
        cases b with
        | false => exact ih (hno rfl)
        | true =>
          apply codeAny_handlers_suite_as
          refine HandSPX.lands_againZ fl3 fun h4 fl4 up4 => ?_
          have J4 : Inv X pins σ' H' { s' with heap := h4 } := J.landed nb fl4.1 ((up.trans up3).trans up4) os ag
          obtain ⟨oe4, vs4, he4, hz4, hd4⟩ := fl4.there
          have S4 := J4.suite he4 hd4 na nL nF
          refine store_ok (X := X.suite a ((a, oe4) :: (X.pn ++ pins))) (v := .ref a) S4 hN hi hloc rfl (fun s5 S5 => ?_) (.inr hln)
          have run := (hsu a oe4 cls d (X.pn ++ pins) hz4 ⟨_, hd4⟩).run [] s5 _ H' _ S5 (hyes rfl a na)
          refine wpAny_mono run (fun f s6 hsp => ?_) (fun _ _ z => False.elim z)
          have gone : ∀ {σ6 : L2.St} {H6 : Hp} {Q : Shared → Prop}, Inv (X.suite a ((a, oe4) :: (X.pn ++ pins))) [] σ6 H6 s6 → (∀ s7, Inv X pins (σ6.set i none) H6 s7 → Q s7) →
              wpAny (model X.prog X.w) X.A (do bindName X.env n .none; unbindBehindTheSuite X.env n pos') (fun _ s7 => Q s7) X.xe s6 := fun {σ6 H6 Q} S6 hq =>
            gone_ok (S6.unsuite ok) hN hi hln hq
          cases f with
          | next =>
            obtain ⟨σ6, H6, S6, q6⟩ := hsp
            exact gone S6 fun s7 J7 => ⟨_, _, J7, q6⟩
          | brk =>
            obtain ⟨σ6, H6, S6, q6⟩ := hsp
            exact gone S6 fun s7 J7 => ⟨_, _, J7, q6⟩
          | cont =>
            obtain ⟨σ6, H6, S6, q6⟩ := hsp
            exact gone S6 fun s7 J7 => ⟨_, _, J7, q6⟩
          | ret u =>
            obtain ⟨v6, σ6, H6, S6, r6, q6⟩ := hsp
            exact gone S6 fun s7 J7 => ⟨_, _, _, J7, r6, q6⟩
    exact go _ _ hh w
  · cases f with
    | next =>
      obtain ⟨σ', H', J', q⟩ := hsp
      exact wpAny_execs_nil ⟨σ', H', J'.ofTry ok, q⟩
    | brk =>
      obtain ⟨σ', H', J', q⟩ := hsp
      exact ⟨σ', H', J'.ofTry ok, q⟩
    | cont =>
      obtain ⟨σ', H', J', q⟩ := hsp
      exact ⟨σ', H', J'.ofTry ok, q⟩
    | ret u =>
      obtain ⟨v, σ', H', J', r, q⟩ := hsp
      exact ⟨v, σ', H', J'.ofTry ok, r, q⟩
end
/-! ### defs called within an except suite, about the error that is caught -/
/-- a def's promise there; p, the error that is caught and its object -/
structure FnP (P : Program) (w : World) (K : PySem.W.Frag) (mg : Str → Option Value) (base : Heap) (k : Nat) (f : Addr) (fd : FuncData) (ps : List Str) (sp : Addr × Obj → Sp) : Prop where
  len : ∀ p vs H Q E, sp p vs H Q E → vs.length = ps.length
  run : ∀ (A : Around) (outer : List Env) (s : Shared) (H : Hp) (args : Args) (us : List Value) (vs : List V) (Q : VK) (E : XK) (p : Addr × Obj), L2H.RoomH k A → L2H.PinOk outer H s p → Env0 P w K mg base A outer s H →
    BindsTo s fd args (ps.zip us) → Vals vs us → sp p vs H Q E → codeAny (model P w) A (.call (.ref f) args) (CR CX0 outer P w H s Q E) s
theorem fnP_ok {P : Program} {w : World} {K : PySem.W.Frag} {mg : Str → Option Value} {base : Heap} {k : Nat} {x qual : Str} {st : Stmt} {f : Addr} {fd : FuncData} {N ps : List Str} {sp : Addr × Obj → Sp} (F : Fun K x qual st f fd) (S : FnScope N ps (defScope st))
    (len : ∀ p vs H Q E, sp p vs H Q E → vs.length = ps.length)
    (body : ∀ (cdv : Value) (A : Around) (outer : List Env) (s : Shared) (H : Hp) (vs : List V) (Q : VK) (E : XK) (p : Addr × Obj), L2H.RoomH k (A.deeper (PyProof.Rows.envOfC qual (defScope st) s.heap.objs.size f cdv)) → sp p vs H Q E →
      ∃ t, PSs (L2H.cxH CX0 P w K mg base N qual (defScope st) f cdv A outer s H E p).nox (defBody st) t ∧ t { nx := fun _ H' => Q .non H', rt := Q } (L2.start N vs) H) :
    FnP P w K mg base (k + 1) f fd ps sp := by
  obtain ⟨oc, od, kV, doc, pm, an, cdv, ct, osl, rfl, lk, hcd⟩ := F.ex
  constructor
  · exact len
  intro A outer s H args us vs Q E p hr hpin e0 hb r hsp
  have hl := len _ _ _ _ _ hsp
  have old : ∀ b o, base.get? b = some o → s.heap.get? b = some o := fun b o e => (e0.bs b o e).1
  have KX : K.In s.heap := e0.mod.kin.keeps old
  have kinds : ∀ y ∈ ps.zip us, (defScope st).names.lookup y.1 = some .local ∨
      ((defScope st).names.lookup y.1 = some .cell ∧ ((cellsFrom (s.heap.objs.size + 1) (defScope st).names []).lookup y.1).isSome = true) := by
    rintro ⟨n, v⟩ hy
    have q := S.par n (List.of_mem_zip hy).1
    refine q.imp id fun q => ⟨q, ?_⟩
    exact PySem.W.cellsFrom_some _ _ _ (.inl q)
  refine codeAny_call_function hr.depth (KX _ _ lk) rfl S.co S.gen rfl (PySem.W.codeRec_of KX hcd) (hb _ _ _ _ ?_)
  refine wpAny_newFunctionEnv_cells S.kind kinds fun env he s1 z => ?_
  subst he
  refine ⟨(e0.mod.nolimit.keeps old).keeps z.toInCall.keep, PySem.codeAny_func ?_⟩
  obtain ⟨t, ht, hq⟩ := body cdv A outer s H vs Q E p (hr.deeper _) hsp
  have I := L2H.inv_startH (CX := CX0) (E := E) (cd := cdv) (f := f) S hpin e0 hl r z
  refine wpAny_mono (ht.nox.run [] s1 (L2.start N vs) H _ I hq) (fun fl s' hs => ?_) fun e s' hs => hs
  cases fl with
  | ret u =>
    obtain ⟨v, σ', H', J, rv, q⟩ := hs
    exact ⟨v, H', J.os, J.bare, J.base, J.hok, rv, q⟩
  | next =>
    obtain ⟨σ', H', J, q⟩ := hs
    exact ⟨V.non, H', J.os, J.bare, J.base, J.hok, rfl, q⟩
  | brk => exact hs.choose_spec.choose_spec.2.elim
  | cont => exact hs.choose_spec.choose_spec.2.elim
section
variable {X : Cx} {k : Nat} {f : Addr} {fd : FuncData} {ps : List Str} {sp : Addr × Obj → Sp} {x : Str} {q pos : Pos} {e : Expr} {es : List Expr} {t : TA}
/-- f(e, ..) within the suite -/
theorem pe_callP {p : Addr × Obj} {spr : Sp} (imp : ∀ vs H Q E, spr vs H Q E → sp p vs H Q E) (F : FnP X.prog X.w X.K X.mg X.base k f fd ps sp) (hr : L2H.RoomH k X.A) (hp : p ∈ X.pn) (hg : Gl X x) (hm : X.mg x = some (.ref f)) (hk : PySem.W.keepIn X.K (.ref f) = true) (hb : L2.Binds X.K fd ps []) (ha : PA X (e :: es) t)
    (hdb : (x == ("__debug__" : Str)) = false := by decide) (he : starEach (e :: es) X.env = (false, eval e X.env) :: starEach es X.env := by rfl) (hpl : (backTo pos (starEach es X.env)).any (·.1) = false := by rfl) :
    PE X (.Call (.Name x q) (e :: es) [] pos) (fun σ H Q => t σ H fun vs H1 => spr vs H1 Q E0) := by
  constructor
  intro pins s σ H Q I h
  refine wpAny_Call_Name_kw (ld_glob I hg hm ?_ hdb)
  refine PySem.W.callWith_K (h₀ := X.base) I.ok.mod.kin hk (thn (ha.run pos pins s σ H _ I h) fun us s1 ⟨vs, H1, I1, r, hq0⟩ => ⟨I1.kIn, ?_⟩) he hpl
  have hq := imp _ _ _ _ hq0
  have hl : us.length = ps.length := by
    rw [← r.length]
    exact F.len _ _ _ _ _ hq
  have b := hb s1 us I1.kIn (by rw [List.append_nil]; exact hl)
  rw [List.append_nil] at b
  have P1 := I1.pin p (List.mem_append_left _ hp)
  have hpin : L2H.PinOk X.stack H1 s1 p := ⟨P1.1, P1.2.1, fun hm => (List.mem_cons.mp (I1.stkSub p.1 hm)).elim P1.2.2.1 P1.2.2.2.1, P1.2.2.2.2⟩
  refine wpAny_call (codeAny_mono (F.run X.A X.stack s1 H1 ⟨us, []⟩ us vs Q E0 p hr hpin I1.env0 b r hq) fun r s' hq' => ?_)
  cases r with
  | error er => exact False.elim hq'
  | ok fl =>
    cases fl with
    | ret u => exact I1.after hq'
    | next => exact False.elim hq'
    | brk => exact False.elim hq'
    | cont => exact False.elim hq'
/-- isinstance(e, c), e the error that is caught -/
def rIsP (K : PySem.W.Frag) (p : Addr × Obj) : List V → Hp → VK → Prop := fun xs H Q => ∃ (C : Addr) (c : V) (u : Value) (b : Bool), xs = [.ref p.1, c] ∧ p.2.cls = .ref C ∧ (∃ vs, p.2.data = .fields vs) ∧ ExcC K C ∧
  (p.2.dict = none ∨ ∃ dd fs, p.2.dict = some dd ∧ H dd = some (.xd fs)) ∧ ClsV c u ∧ PySem.W.kitOne K (.ref C) u = some b ∧ Q (.bl b) H
theorem call_isP {p : Addr × Obj} (hp : p ∈ X.pn) : CallR X (.builtin "isinstance") (rIsP X.K p) := by
  intro pins s σ H xs us Q I r h
  obtain ⟨C, c, u, b, rfl, h1, ⟨vs, h2⟩, hc, hd, k, e, q⟩ := h
  obtain ⟨u1, u2, rfl, r1, r2⟩ := vals2 r
  have e2 := k.eq r2
  subst e2
  cases r1
  have P1 := I.pin p (List.mem_append_left _ hp)
  have ok : ∀ {od : Option Obj}, PySem.W.findObj X.K C od "__class__" = some (.bind (.builtin "getset_descriptor.__get__") (.builtin "object.__class__")) := fun {od} => by
    obtain ⟨cd, hcd, _⟩ := PySem.W.any_some hc.hd
    have hs : (PySem.W.clsIn X.K C).isSome = true := by
      rw [hcd]
      rfl
    cases od with
    | none => exact PySem.W.findObj_dataN hs hc.ha hc.hn hc.ht
    | some o => exact PySem.W.findObj_data hs hc.ha hc.hn hc.ht
  obtain ⟨od, J⟩ : ∃ od, PySem.W.InstAt s.heap p.1 p.2 C od := by
    rcases hd with hd | ⟨dd, fs, hd, ed⟩
    · exact ⟨none, P1.1, h1, by unfold PySem.W.notCls; rw [h2], by rw [hd]; trivial⟩
    · have z : ObjOk X.prog X.w H s.heap dd (.xd fs) := I.hok dd _ ed
      obtain ⟨mA, hns, _⟩ := z
      obtain ⟨o, ho, _⟩ := lookIn_ns hns
      exact ⟨some o, P1.1, h1, by unfold PySem.W.notCls; rw [h2], by rw [hd]; exact ho⟩
  exact PySem.W.kia_one (PySem.W.exk_kit hc.hg hc.hk hc.hs hc.hd ok hc.hm) I.kIn J e (fun z => nomatch z) fun tk => ⟨.bl b, H, I.tok tk, rfl, q⟩
end
/-! ### the pool that a law draws from -/
abbrev sBegin : Stmt := top 27
abbrev sMixed : Stmt := top 28
abbrev sDraw : Stmt := top 29

structure PTxt (mg : Str → Option Value) : Prop where
  int : mg "int" = none
  abs : mg "abs" = none
  len : mg "len" = none
  str : mg "str" = none
  range : mg "range" = none

/-- what stands at p is a pool, whose numbers stand at q -/
def PoolAt (H : Hp) (p q : Addr) : Prop := ∃ (ns : List Int) (i a s b : Int), H p = some (.lst [.ref q, .int i, .int a, .int s, .int b]) ∧ H q = some (.lst (ns.map V.int)) ∧ 0 ≤ i ∧ ∀ n ∈ ns, 0 ≤ n
theorem PoolAt.ne {H : Hp} {p q : Addr} (h : PoolAt H p q) : p ≠ q := by
  obtain ⟨ns, i, a, s, b, h1, h2, _, _⟩ := h
  refine ne_of h1 h2 ?_
  intro e
  injection e with e
  cases ns with
  | nil => cases e
  | cons n r => injection e with e _; cases e
/-- all but the pool is as it was -/
def But (p q : Addr) (H H' : Hp) : Prop := ∀ b o, b ≠ p → b ≠ q → H b = some o → H' b = some o
theorem But.refl (p q : Addr) (H : Hp) : But p q H H := fun _ _ _ _ h => h
theorem But.trans {p q : Addr} {H H1 H2 : Hp} (a : But p q H H1) (b : But p q H1 H2) : But p q H H2 := fun c o n1 n2 h => b c o n1 n2 (a c o n1 n2 h)
theorem But.of_same {p q : Addr} {H H1 : Hp} (a : Same H H1) : But p q H H1 := fun c o _ _ h => a c o h
theorem But.updP {p q : Addr} {H : Hp} {o : HO} : But p q H (upd H p o) := fun c u n1 _ h => by rw [upd_ne n1]; exact h
theorem But.updQ {p q : Addr} {H : Hp} {o : HO} : But p q H (upd H q o) := fun c u _ n2 h => by rw [upd_ne n2]; exact h
theorem PoolAt.same {H H' : Hp} {p q : Addr} (h : PoolAt H p q) (s : Same H H') : PoolAt H' p q := by
  obtain ⟨ns, i, a, z, b, h1, h2, h3⟩ := h
  exact ⟨ns, i, a, z, b, s _ _ h1, s _ _ h2, h3⟩

def spBegin (K : PySem.W.Frag) : Sp := fun vs H Q _ => ∃ (a : Addr) (ns : List Int), vs = [.ref a] ∧ SqL K H a (ns.map V.int) ∧ ns.length ≤ 63 ∧
  ∀ H' p q, Same H H' → H p = none → H q = none → PoolAt H' p q → Q (.ref p) H'
def spMixed : Sp := fun vs H Q _ => ∃ (p q : Addr) (m : Int), vs = [.ref p, .int m] ∧ PoolAt H p q ∧ 1 ≤ m ∧ m < 10 ^ 40 ∧
  ∀ H' (r : Int), But p q H H' → PoolAt H' p q → 0 ≤ r → r < m → Q (.int r) H'
/-- from a pool a number from 0 to m - 1 -/
def spDraw : Sp := fun vs H Q _ => ∃ (p q : Addr) (m : Int), vs = [.ref p, .int m] ∧ PoolAt H p q ∧ 1 ≤ m ∧ m < 10 ^ 40 ∧
  ∀ H' (r : Int), But p q H H' → PoolAt H' p q → 0 ≤ r → r < m → Q (.int r) H'

theorem map_int_get {ns : List Int} {i : Nat} {y : V} (hi : (ns.map V.int)[i]? = some y) : ∃ u, y = V.int u ∧ ns[i]? = some u := by
  rw [List.getElem?_map] at hi
  cases e : ns[i]? with
  | none => rw [e] at hi; cases hi
  | some u => rw [e] at hi; exact ⟨u, (Option.some.inj hi).symm, rfl⟩

section
variable {P : Program} {w : World} {K : PySem.W.Frag} {mg : Str → Option Value} {base : Heap}
theorem scBegin : FnScope ["script", "seed", "cell"] ["script"] (defScope sBegin) := ⟨rfl, rfl, rfl, by decide +kernel, rfl, by decide +kernel, by decide +kernel⟩
theorem ok_begin {f : Addr} {fd : FuncData} (F : Fun K "_law_begin" "_law_begin" sBegin f fd) (T : PTxt mg) : FnOk P w K mg base CX0 1 f fd ["script"] (spBegin K) := by
  refine F.ok scBegin (fun vs H Q E h => ?_) (fun cdv A outer s H vs Q E hr h => ?_)
  · obtain ⟨a, ns, rfl, _⟩ := h
    rfl
  · obtain ⟨a, ns, rfl, hS, hlen, k⟩ := h
    refine ⟨_, pss_cons (ps_set (i := 1) scBegin.nd rfl (.inl rfl) pe_int)
      (pss_cons (ps_for PassesOwn.never rfl (pi_list (pe_slice sl_list (pv 0) po_none (po_some pe_int))) (pg_name (i := 2) scBegin.nd rfl (.inl rfl))
        (pss_one (ps_set (i := 1) scBegin.nd rfl (.inl rfl) (pe_op op_mod (pe_op op_add (pe_op op_add (pe_op op_mul (pv 1) pe_int) (pe_op op_mod (pe_callTy call_int1 (by rfl) T.int (by decide +kernel) (pa_cons (pv 2) pa_nil)) pe_int)) pe_int) pe_int))))
      (pss_one (ps_ret (pe_lst (pa_cons (pe_lc (own := [("cell", 2)]) (g := gName 2) (by rfl) scBegin.nd (pi_list (pv 0)) (blkOk_by (own := [("cell", 2)]) (N := ["script", "seed", "cell"]) (sc := defScope sBegin) (by decide +kernel))
        (fun _ _ _ _ _ => pg_name (i := 2) scBegin.nd rfl (Or.inl rfl)) (fun _ _ _ _ _ => pts_nil)
        (fun _ _ _ _ _ => pe_callB call_abs (by rfl) T.abs (by decide +kernel) (pa_cons (pe_callTy call_int1 (by rfl) T.int (by decide +kernel) (pa_cons (pv 2) pa_nil)) pa_nil)))
        (pa_cons pe_int (pa_cons pe_int (pa_cons (pv 1) (pa_cons pe_int pa_nil))))))))), ?_⟩
    refine ⟨_, rfl, _, rfl, a, _, rfl, hS, fun p hp => ?_⟩
    refine ⟨p, rfl, ⟨_, .inl (.inl upd_same)⟩, for_list (K := K) (a := p) (xs := cutV (ns.map V.int) none (some 40)) (fun i σ H' => ∃ (z : Int) (v : Option V), σ = [some (.ref a), some (.int z), v] ∧ H' = upd H p (.lst (cutV (ns.map V.int) none (some 40)))) 
      ⟨7, none, rfl, rfl⟩ (fun i σ H' _ ⟨_, _, _, e⟩ => by rw [e]; exact .inl (.inl upd_same)) ?_ ?_⟩
    · rintro i y σ H' hi ⟨z, v, rfl, rfl⟩
      obtain ⟨u, rfl⟩ : ∃ u, y = V.int u := by
        have hm := List.mem_of_getElem? hi
        have hm2 := List.mem_of_mem_drop (List.mem_of_mem_take hm)
        obtain ⟨u, _, e⟩ := List.mem_map.mp hm2
        exact ⟨u, e.symm⟩
      refine ⟨_, rfl, _, _, rfl, rfl, .inr ⟨by decide, by decide⟩, _, rfl, .inl ⟨_, rfl, _, _, rfl, rfl, (by show (0 : Int) < 2147483647; decide), _, _, rfl, rfl, _, _, rfl, rfl, _, _, rfl, rfl, (by show (0 : Int) < 2147483647; decide), _, _, rfl, rfl⟩⟩
    · rintro σ H' ⟨z, v, rfl, rfl⟩
      have sp : Same H (upd H p (.lst (cutV (ns.map V.int) none (some 40)))) := fun b o e => by
        rw [upd_ne (ne_of_none e hp)]
        exact e
      refine ⟨_, rfl, a, rfl, ⟨_, sp.seq hS⟩, fun D hD => ?_⟩
      have hS1 := sp.seq hS
      generalize hH1 : upd H p (.lst (cutV (ns.map V.int) none (some 40))) = H1 at *
      have sD : ∀ u, Same H1 (upd H1 D u) := fun u b o e => by
        rw [upd_ne (ne_of_none e hD)]
        exact e
      refine lc_list (K := K) (a := a) (xs := ns.map V.int) (fun i H' => ∃ zs : List Int, H' = upd H1 D (.lst (zs.map V.int)) ∧ zs.length = i ∧ ∀ n ∈ zs, 0 ≤ n) ⟨[], rfl, rfl, fun _ h => nomatch h⟩ (fun i H' _ ⟨zs, e, _⟩ => by rw [e]; exact (sD _).seq hS1) ?_ ?_
      · rintro i y H' hi ⟨zs, rfl, hz, hp0⟩
        obtain ⟨u, rfl, hu⟩ := map_int_get hi
        have hi63 : i < ns.length := (List.getElem?_eq_some_iff.mp hu).1
        refine ⟨rfl, _, rfl, .inl ⟨_, rfl, _, rfl, _, upd_same, ?_, zs ++ [if u < 0 then -u else u], ?_, ?_, ?_⟩⟩
        · rw [List.length_map]
          exact Nat.lt_of_le_of_lt (show zs.length ≤ 63 by omega) (by decide)
        · rw [upd_upd, List.map_append]
          rfl
        · rw [List.length_append, hz]
          rfl
        · intro n hn
          rcases List.mem_append.mp hn with h | h
          · exact hp0 n h
          · rw [List.mem_singleton.mp h]
            split <;> omega
      · rintro H' ⟨zs, rfl, hz, hp0⟩
        refine ⟨_, rfl, (by show 5 ≤ sizeLine; decide), fun p2 hp2 => ?_⟩
        have nDp : D ≠ p2 := fun e => by
          rw [← e, upd_same] at hp2
          cases hp2
        have hp2' : H1 p2 = Option.none := by
          rw [upd_ne nDp.symm] at hp2
          exact hp2
        refine k _ p2 D (Same.trans sp (fun b o e => ?_)) (sp.free hp2') (sp.free hD) ⟨zs, 0, 0, z, 0, upd_same, ?_, by decide, hp0⟩
        · rw [upd_ne (ne_of_none e hp2')]
          exact sD _ _ _ e
        · rw [upd_ne nDp, upd_same]

theorem numlen {m : Int} (h0 : 0 ≤ m) (h1 : m < 10 ^ 40) : (Str.ofString (toString m)).length ≤ 40 := PyProof.Rows.toString_length_le h0 (by decide) h1

theorem natlt {m : Int} (h1 : 1 ≤ m) (h2 : m < 10 ^ 40) : m.natAbs < 2 ^ 140 := by
  have e : (10 : Int) ^ 40 ≤ 2 ^ 140 := by decide
  have e2 : ((2 ^ 140 : Nat) : Int) = (2 : Int) ^ 140 := by decide
  omega
theorem natlog {m : Int} (h1 : 1 ≤ m) (h2 : m < 10 ^ 40) : m.natAbs.log2 < 140 := PySem.Flt.log2_lt_of (by decide) (natlt h1 h2)
theorem scMixed : FnScope ["pool", "many", "found", "turn"] ["pool", "many"] (defScope sMixed) := ⟨rfl, rfl, rfl, by decide +kernel, rfl, by decide +kernel, by decide +kernel⟩
theorem ok_mixed {f : Addr} {fd : FuncData} (F : Fun K "_law_mixed" "_law_mixed" sMixed f fd) (T : PTxt mg) : FnOk P w K mg base CX0 1 f fd ["pool", "many"] spMixed := by
  refine F.ok scMixed (fun vs H Q E h => ?_) (fun cdv A outer s H vs Q E hr h => ?_)
  · obtain ⟨p, q, m, rfl, _⟩ := h
    rfl
  · obtain ⟨p, q, m, rfl, hP, h1, h2, k⟩ := h
    have npq := hP.ne
    obtain ⟨ns, i, a, z, b, hp, hq, hi, hns⟩ := hP
    refine ⟨_, pss_cons (ps_asg (pe_op op_add (pe_ix ix_list (pv 0) pe_int (fun _ _ => rfl)) pe_int) (pg_sub (pv 0) pe_int set_list))
      (pss_cons (ps_set (i := 2) scMixed.nd rfl (.inl rfl) (pe_ix ix_list (pv 0) pe_int (fun _ _ => rfl)))
      (pss_cons (ps_for PassesOwn.never rfl (pi_range1 rfl T.range (pa_cons (pe_op op_add pe_int (pe_op op_fdiv (pe_callB call_len_str (by rfl) T.len PySem.boot_len (pa_cons (pe_callTy call_str_int (by rfl) T.str (by decide +kernel) (pa_cons (pv 1) pa_nil)) pa_nil)) pe_int)) pa_nil)) (pg_name (i := 3) scMixed.nd rfl (.inl rfl))
        (pss_cons (ps_asg (pe_op op_mod (pe_op op_add (pe_op op_add (pe_op op_mul (pe_ix ix_list (pv 0) pe_int (fun _ _ => rfl)) pe_int) (pe_op op_mul (pe_ix ix_list (pv 0) pe_int (fun _ _ => rfl)) pe_int)) pe_int) pe_int) (pg_sub (pv 0) pe_int set_list))
        (pss_one (ps_set (i := 2) scMixed.nd rfl (.inl rfl) (pe_op op_add (pe_op op_mul (pv 2) pe_int) (pe_op op_fdiv (pe_ix ix_list (pv 0) pe_int (fun _ _ => rfl)) pe_int))))))
      (pss_one (ps_ret (pe_op op_mod (pv 2) (pv 1)))))), ?_⟩
    refine ⟨_, rfl, p, _, 2, _, rfl, rfl, .inl (.inl hp), rfl, _, _, rfl, rfl, _, rfl, p, _, 2, 2, rfl, rfl, hp, rfl, ?_⟩
    refine ⟨_, rfl, p, _, 3, _, rfl, rfl, .inl (.inl upd_same), rfl, ?_⟩
    have hl := numlen (by omega : 0 ≤ m) h2
    have hlog : m.natAbs.log2 < 1920 := Nat.lt_trans (natlog h1 h2) (by decide)
    refine ⟨_, rfl, _, rfl, hlog, _, rfl, Nat.le_trans hl (by decide), _, _, rfl, rfl, ⟨by decide, by decide⟩, _, _, rfl, rfl, _, rfl, ?_, ?_, ?_⟩
    · show -(2 ^ 62) ≤ (1 : Int) + ((Str.ofString (toString m)).length : Int) / 9
      omega
    · show (1 : Int) + ((Str.ofString (toString m)).length : Int) / 9 < 2 ^ 62
      omega
    · refine for_range (lo := 0) (n := ((1 : Int) + ((Str.ofString (toString m)).length : Int) / 9).toNat) (fun j σ H' => ∃ (s' f' : Int) (v : Option V), σ = [some (.ref p), some (.int m), some (.int f'), v] ∧ H' = upd H p (.lst [.ref q, .int i, .int (a + 1), .int s', .int b]))
        ⟨_, _, none, rfl, rfl⟩ ?_ ?_
      · rintro j σ H' _ ⟨s', f', v, rfl, rfl⟩
        refine ⟨_, rfl, p, _, 3, _, rfl, rfl, .inl (.inl upd_same), rfl, _, _, rfl, rfl, .inr ⟨by decide, by decide⟩, _, rfl, p, _, 2, _, rfl, rfl, .inl (.inl upd_same), rfl, _, _, rfl, rfl, .inr ⟨by decide, by decide⟩, _, _, rfl, rfl, _, _, rfl, rfl, _, _, rfl, rfl, (by show (0 : Int) < 2147483647; decide), _, rfl, p, _, 3, 3, rfl, rfl, upd_same, rfl, ?_⟩
        refine ⟨_, rfl, _, _, rfl, rfl, .inr ⟨by decide, by decide⟩, _, rfl, p, _, 3, _, rfl, rfl, .inl (.inl upd_same), rfl, _, _, rfl, rfl, ⟨by decide, by decide⟩, _, _, rfl, rfl, ?_⟩
        exact ⟨_, _, _, rfl, by rw [upd_upd]; rfl⟩
      · rintro σ H' ⟨s', f', v, rfl, rfl⟩
        refine ⟨_, rfl, _, rfl, _, _, rfl, rfl, (by show (0 : Int) < m; omega), ?_⟩
        exact k _ _ But.updP ⟨ns, i, a + 1, s', b, upd_same, by rw [upd_ne npq.symm]; exact hq, hi, hns⟩ (Int.emod_nonneg _ (by omega)) (Int.emod_lt_of_pos _ (by omega))

theorem ixN_nat {n i : Nat} (h : i < n) : ixN n (i : Int) = some i := by
  unfold ixN
  rw [if_pos (by omega), if_pos (by omega), Int.toNat_natCast]
theorem scDraw : FnScope ["pool", "many", "found"] ["pool", "many"] (defScope sDraw) := ⟨rfl, rfl, rfl, by decide +kernel, rfl, by decide +kernel, by decide +kernel⟩
theorem ok_draw {f fM : Addr} {fd fdM : FuncData} (F : Fun K "_law_draw" "_law_draw" sDraw f fd) (T : PTxt mg) (FM : Fun K "_law_mixed" "_law_mixed" sMixed fM fdM) (bM : Binds K fdM ["pool", "many"] []) (gM : mg "_law_mixed" = some (.ref fM)) : FnOk P w K mg base CX0 2 f fd ["pool", "many"] spDraw := by
  have GM : FnOk P w K mg base CX0 1 fM fdM ["pool", "many"] spMixed := ok_mixed FM T
  refine F.ok scDraw (fun vs H Q E h => ?_) (fun cdv A outer s H vs Q E hr h => ?_)
  · obtain ⟨p, q, m, rfl, _⟩ := h
    rfl
  · obtain ⟨p, q, m, rfl, hP, h1, h2, k⟩ := h
    have npq := hP.ne
    have hP0 := hP
    obtain ⟨ns, i, a, z, b, hp, hq, hi, hns⟩ := hP
    refine ⟨_, pss_cons (ps_if (PW.pt (pw_or (pt_cmpR op_ge (pe_ix ix_list (pv 0) pe_int (fun _ _ => rfl)) (pe_callB call_len_seq (by rfl) T.len PySem.boot_len (pa_cons (pe_ix ix_list (pv 0) pe_int (fun _ _ => rfl)) pa_nil)) (nomark _)) (pw_or1 (pt_cmpR op_eq (pv 1) pe_int (nomark _)))))
        (pss_one (ps_ret (pe_ifExp (pt_cmpR op_gt (pv 1) pe_int (nomark _)) (pe_call GM hr rfl gM FM.kp bM .nil pass0 (pa_cons (pv 0) (pa_cons (pv 1) pa_nil))) pe_int))) pss_nil)
      (pss_cons (ps_if (pt_cmpR op_lt (pe_ix ix_list (pe_ix ix_list (pv 0) pe_int (fun _ _ => rfl)) (pe_ix ix_list (pv 0) pe_int (fun _ _ => rfl)) (fun _ _ => rfl)) (pe_op op_pow pe_int pe_int) (nomark _))
        (pss_cons (ps_asg (pe_op op_mod (pe_op op_add (pe_op op_add (pe_op op_add (pe_op op_mul (pe_ix ix_list (pv 0) pe_int (fun _ _ => rfl)) pe_int) (pe_ix ix_list (pe_ix ix_list (pv 0) pe_int (fun _ _ => rfl)) (pe_ix ix_list (pv 0) pe_int (fun _ _ => rfl)) (fun _ _ => rfl))) (pe_ix ix_list (pv 0) pe_int (fun _ _ => rfl))) pe_int) pe_int) (pg_sub (pv 0) pe_int set_list))
        (pss_cons (ps_asg (pe_op op_add (pe_ix ix_list (pv 0) pe_int (fun _ _ => rfl)) pe_int) (pg_sub (pv 0) pe_int set_list))
        (pss_cons (ps_if (pt_cmpR op_eq (pe_op op_mod (pe_ix ix_list (pv 0) pe_int (fun _ _ => rfl)) pe_int) pe_int (nomark _)) (pss_one (ps_asg (pe_op op_add (pe_ix ix_list (pv 0) pe_int (fun _ _ => rfl)) pe_int) (pg_sub (pv 0) pe_int set_list))) pss_nil)
        (pss_one (ps_ret (pe_call GM hr rfl gM FM.kp bM .nil pass0 (pa_cons (pv 0) (pa_cons (pv 1) pa_nil)))))))) pss_nil)
      (pss_cons (ps_set (i := 2) scDraw.nd rfl (.inl rfl) (pe_op op_mod (pe_ix ix_list (pe_ix ix_list (pv 0) pe_int (fun _ _ => rfl)) (pe_ix ix_list (pv 0) pe_int (fun _ _ => rfl)) (fun _ _ => rfl)) (pv 1)))
      (pss_cons (ps_asg (pe_op op_fdivW (pe_ix ix_list (pe_ix ix_list (pv 0) pe_int (fun _ _ => rfl)) (pe_ix ix_list (pv 0) pe_int (fun _ _ => rfl)) (fun _ _ => rfl)) (pv 1)) (pg_sub (pe_ix ix_list (pv 0) pe_int (fun _ _ => rfl)) (pe_ix ix_list (pv 0) pe_int (fun _ _ => rfl)) set_list))
      (pss_cons (ps_if (pt_cmpR op_eq (pe_ix ix_list (pe_ix ix_list (pv 0) pe_int (fun _ _ => rfl)) (pe_ix ix_list (pv 0) pe_int (fun _ _ => rfl)) (fun _ _ => rfl)) pe_int (nomark _)) (pss_one (ps_asg (pe_op op_add (pe_ix ix_list (pv 0) pe_int (fun _ _ => rfl)) pe_int) (pg_sub (pv 0) pe_int set_list))) pss_nil)
      (pss_one (ps_ret (pv 2))))))), ?_⟩
    have sp : SqL K H p [.ref q, .int i, .int a, .int z, .int b] := .inl (.inl hp)
    have sq : SqL K H q (ns.map V.int) := .inl (.inl hq)
    have cmix : ∀ H1 : Hp, But p q H H1 → PoolAt H1 p q → spMixed [.ref p, .int m] H1 Q E := fun H1 e1 e2 => ⟨p, q, m, rfl, e2, h1, h2, fun H2 r b2 p2 r0 r1 => k H2 r (e1.trans b2) p2 r0 r1⟩
    -- if pool[1] >= len(pool[0]) or many == 1
    refine ⟨_, rfl, p, _, 1, _, rfl, rfl, sp, rfl, _, rfl, p, _, 0, _, rfl, rfl, sp, rfl, q, _, rfl, .inl sq, _, _, rfl, rfl, _, rfl, ?_⟩
    have hlen : ((ns.map V.int).length : Int) = (ns.length : Int) := by rw [List.length_map]
    refine ite2 (fun _ => ?_) (fun hlt => ?_)
    · refine ⟨_, rfl, _, _, rfl, rfl, _, rfl, ite2 (fun _ => ?_) (fun e => ?_)⟩
      · exact ⟨_, rfl, _, rfl, cmix H (But.refl _ _ _) hP0⟩
      · exact k H 0 (But.refl _ _ _) hP0 (by omega) (by omega)
    · refine ⟨_, rfl, rfl, _, rfl, ite2 (fun e => ?_) (fun hm1 => ?_)⟩
      · refine ⟨_, rfl, _, _, rfl, rfl, _, rfl, ite2 (fun _ => ?_) (fun e => ?_)⟩
        · exact ⟨_, rfl, _, rfl, cmix H (But.refl _ _ _) hP0⟩
        · exact k H 0 (But.refl _ _ _) hP0 (by omega) (by omega)
      · have hil : i < (ns.length : Int) := by
          have := hlt
          simp only [decide_eq_true_eq] at this
          omega
        obtain ⟨j, rfl⟩ : ∃ j : Nat, i = (j : Int) := ⟨i.toNat, by omega⟩
        have hj : j < ns.length := by omega
        obtain ⟨x, hx⟩ : ∃ x, ns[j]? = some x := ⟨ns[j], List.getElem?_eq_getElem hj⟩
        have hxm : (ns.map V.int)[j]? = some (V.int x) := by rw [List.getElem?_map, hx]; rfl
        have hat : atI (ns.map V.int) (j : Int) = some (V.int x) := atI_nat hxm
        have hx0 : 0 ≤ x := hns x (List.mem_of_getElem? hx)
        have hixN : ixN (ns.map V.int).length (j : Int) = some j := ixN_nat (by rw [List.length_map]; exact hj)
        -- if pool[0][pool[1]] < 10 ** 18
        refine ⟨_, rfl, p, _, 0, _, rfl, rfl, sp, rfl, _, rfl, p, _, 1, _, rfl, rfl, sp, rfl, q, _, _, _, rfl, rfl, sq, hat, _, _, rfl, rfl, ⟨by decide, by decide, by decide⟩, _, _, rfl, rfl, _, rfl, ite2 (fun _ => ?_) (fun _ => ?_)⟩
        · refine ⟨_, rfl, p, _, 3, _, rfl, rfl, sp, rfl, _, _, rfl, rfl, .inr ⟨by decide, by decide⟩, _, rfl, p, _, 0, _, rfl, rfl, sp, rfl, _, rfl, p, _, 1, _, rfl, rfl, sp, rfl, q, _, _, _, rfl, rfl, sq, hat, _, _, rfl, rfl, _, rfl, p, _, 2, _, rfl, rfl, sp, rfl, _, _, rfl, rfl, _, _, rfl, rfl, _, _, rfl, rfl, (by show (0 : Int) < 2147483647; decide), _, rfl, p, _, 3, 3, rfl, rfl, hp, rfl, ?_⟩
          refine ⟨_, rfl, p, _, 4, _, rfl, rfl, .inl (.inl upd_same), rfl, _, _, rfl, rfl, _, rfl, p, _, 4, 4, rfl, rfl, upd_same, rfl, ?_⟩
          rw [upd_upd]
          refine ⟨_, rfl, p, _, 4, _, rfl, rfl, .inl (.inl upd_same), rfl, _, _, rfl, rfl, (by show (0 : Int) < 3; decide), rfl, _, rfl, ite2 (fun _ => ?_) (fun _ => ?_)⟩
          · refine ⟨_, rfl, p, _, 1, _, rfl, rfl, .inl (.inl upd_same), rfl, _, _, rfl, rfl, _, rfl, p, _, 1, 1, rfl, rfl, upd_same, rfl, ?_⟩
            rw [upd_upd]
            refine ⟨_, rfl, _, rfl, cmix _ But.updP ⟨ns, (j : Int) + 1, a, (z * 31 + x + a + 1) % 2147483647, b + 1, upd_same, by rw [upd_ne npq.symm]; exact hq, by omega, hns⟩⟩
          · refine ⟨_, rfl, _, rfl, cmix _ But.updP ⟨ns, (j : Int), a, (z * 31 + x + a + 1) % 2147483647, b + 1, upd_same, by rw [upd_ne npq.symm]; exact hq, by omega, hns⟩⟩
        · -- found = pool[0][pool[1]] % many
          refine ⟨_, rfl, p, _, 0, _, rfl, rfl, sp, rfl, _, rfl, p, _, 1, _, rfl, rfl, sp, rfl, q, _, _, _, rfl, rfl, sq, hat, _, rfl, _, _, rfl, rfl, (by show (0 : Int) < m; omega), ?_⟩
          refine ⟨_, rfl, p, _, 0, _, rfl, rfl, sp, rfl, _, rfl, p, _, 1, _, rfl, rfl, sp, rfl, q, _, _, _, rfl, rfl, sq, hat, _, rfl, _, _, rfl, rfl, wide_div (by omega) (natlt h1 h2) (by decide) (by decide), _, rfl, p, _, 0, _, rfl, rfl, sp, rfl, _, rfl, p, _, 1, _, rfl, rfl, sp, rfl, q, _, _, _, rfl, rfl, hq, hixN, ?_⟩
          have eS : (ns.map V.int).set j (V.int (x / m)) = (ns.set j (x / m)).map V.int := by rw [List.map_set]
          rw [eS]
          have hns' : ∀ n ∈ ns.set j (x / m), 0 ≤ n := fun n hn => by
            rcases List.mem_or_eq_of_mem_set hn with h | h
            · exact hns n h
            · rw [h]
              exact Int.ediv_nonneg hx0 (by omega)
          have hp' : (upd H q (HO.lst ((ns.set j (x / m)).map V.int))) p = some (.lst [.ref q, .int (j : Int), .int a, .int z, .int b]) := by
            rw [upd_ne npq]
            exact hp
          have hq' : (upd H q (HO.lst ((ns.set j (x / m)).map V.int))) q = some (.lst ((ns.set j (x / m)).map V.int)) := upd_same
          have hat' : atI ((ns.set j (x / m)).map V.int) (j : Int) = some (V.int (x / m)) := atI_nat (by
            rw [List.getElem?_map, List.getElem?_set_self hj]
            rfl)
          have r0 : 0 ≤ x % m := Int.emod_nonneg _ (by omega)
          have r1 : x % m < m := Int.emod_lt_of_pos _ (by omega)
          have hB : But p q H (upd H q (HO.lst ((ns.set j (x / m)).map V.int))) := But.updQ
          generalize upd H q (HO.lst ((ns.set j (x / m)).map V.int)) = H1 at *
          have sp1 : SqL K H1 p [.ref q, .int (j : Int), .int a, .int z, .int b] := .inl (.inl hp')
          have sq1 : SqL K H1 q ((ns.set j (x / m)).map V.int) := .inl (.inl hq')
          refine ⟨_, rfl, p, _, 0, _, rfl, rfl, sp1, rfl, _, rfl, p, _, 1, _, rfl, rfl, sp1, rfl, q, _, _, _, rfl, rfl, sq1, hat', rfl, _, rfl, ite2 (fun _ => ?_) (fun _ => ?_)⟩
          · refine ⟨_, rfl, p, _, 1, _, rfl, rfl, sp1, rfl, _, _, rfl, rfl, _, rfl, p, _, 1, 1, rfl, rfl, hp', rfl, ?_⟩
            exact ⟨_, rfl, k _ _ (hB.trans But.updP) ⟨_, (j : Int) + 1, a, z, b, upd_same, by rw [upd_ne npq.symm]; exact hq', by omega, hns'⟩ r0 r1⟩
          · exact ⟨_, rfl, k _ _ hB ⟨_, (j : Int), a, z, b, hp', hq', by omega, hns'⟩ r0 r1⟩
end
set_option maxHeartbeats 4000000
/-! ### the errors, caught -/
abbrev sWhich : Stmt := top 38
abbrev sCaught : Stmt := top 39
/-- what the written part says of the errors, for those who catch them -/
structure HTxt (K : PySem.W.Frag) (mg : Str → Option Value) (cH : Addr) (cs : List Addr) : Prop where
  isi : mg "isinstance" = none
  reprN : mg "repr" = none
  gH : mg "HandleError" = some (.ref cH)
  g0 : mg "InvalidNumber" = some (.ref (cs.getD 0 0))
  g1 : mg "InvalidName" = some (.ref (cs.getD 1 0))
  g2 : mg "InvalidRow" = some (.ref (cs.getD 2 0))
  g3 : mg "InvalidSort" = some (.ref (cs.getD 3 0))
  g4 : mg "InvalidProgram" = some (.ref (cs.getD 4 0))
  g5 : mg "InvalidText" = some (.ref (cs.getD 5 0))
  g6 : mg "InvalidBook" = some (.ref (cs.getD 6 0))
  g7 : mg "InvalidHands" = some (.ref (cs.getD 7 0))
  g8 : mg "InvalidStep" = some (.ref (cs.getD 8 0))
  g9 : mg "InvalidEdit" = some (.ref (cs.getD 9 0))
  g10 : mg "InvalidCommand" = some (.ref (cs.getD 10 0))
  g11 : mg "TooMany" = some (.ref (cs.getD 11 0))
  g12 : mg "NothingToUndo" = some (.ref (cs.getD 12 0))
  ex : ∀ i, i < 13 → ExcC K (cs.getD i 0)
  xf : ∀ i, i < 12 → XfC K (cs.getD i 0)
  noV : ∀ i, i < 11 → PySem.W.findIn K (.ref (cs.getD i 0)) "value" = some none
  kit : ∀ i j, i < 13 → j < 13 → PySem.W.kitOne K (.ref (cs.getD i 0)) (.ref (cs.getD j 0)) = some (decide (i = j))
  kitH : ∀ i, i < 13 → PySem.W.kitOne K (.ref (cs.getD i 0)) (.ref cH) = some (decide (i < 11))
  exmH : ∀ i, i < 13 → PySem.W.exmOne K (.ref (cs.getD i 0)) (.ref cH) = some (decide (i < 11))
def whichL : List Str := ["number", "name", "row", "sort", "program", "text", "book", "hands", "step", "edit", "command", "many", "undo"]
/-- which error it is that is caught -/
def spWhichP (K : PySem.W.Frag) (cs : List Addr) (p : Addr × Obj) : Sp := fun vs H Q _ => ∃ i : Nat, vs = [.ref p.1] ∧ i < 13 ∧ p.2.cls = .ref (cs.getD i 0) ∧ (∃ vs, p.2.data = .fields vs) ∧
  (p.2.dict = none ∨ ∃ dd fs, p.2.dict = some dd ∧ H dd = some (.xd fs)) ∧ ∀ H', Same H H' → Q (.str (whichL.getD i "")) H'
theorem same_xd {H H' : Hp} {p : Addr × Obj} (h : p.2.dict = none ∨ ∃ dd fs, p.2.dict = some dd ∧ H dd = some (.xd fs)) (s : Same H H') : p.2.dict = none ∨ ∃ dd fs, p.2.dict = some dd ∧ H' dd = some (.xd fs) := by
  rcases h with h | ⟨dd, fs, h, e⟩
  · exact .inl h
  · exact .inr ⟨dd, fs, h, s _ _ e⟩
section
variable {P : Program} {w : World} {K : PySem.W.Frag} {mg : Str → Option Value} {base : Heap} {cH : Addr} {cs : List Addr}
theorem scWhich : FnScope ["error", "kinds", "names"] ["error"] (defScope sWhich) := ⟨rfl, rfl, rfl, by decide +kernel, rfl, by decide +kernel, by decide +kernel⟩
def kindsL (i : Nat) (n : Nat) : List V := (List.range n).map fun j => V.bl (decide (i = j))
theorem ok_whichP {f : Addr} {fd : FuncData} (F : Fun K "_law_which" "_law_which" sWhich f fd) (T : HTxt K mg cH cs) : FnP P w K mg base 1 f fd ["error"] (spWhichP K cs) := by
  refine fnP_ok F scWhich (fun p vs H Q E h => ?_) (fun cdv A outer s H vs Q E p hr h => ?_)
  · obtain ⟨i, rfl, _⟩ := h
    rfl
  · obtain ⟨i, rfl, hi, c1, c2, c3, k⟩ := h
    have hex := T.ex i hi
    have hp : p ∈ [p] := List.mem_singleton.mpr rfl
    refine ⟨_, (pss_cons (ps_set (i := 1) scWhich.nd rfl (.inl rfl) (pe_lst (pa_cons (pe_callB (id := "isinstance") (r := rIsP K p) (call_isP hp) (by rfl) T.isi (by decide +kernel) (pa_cons (pv 0) (pa_cons (pe_glob (v := .ref (cs.getD 0 0)) rfl T.g0 rfl) pa_nil))) (pa_cons (pe_callB (id := "isinstance") (r := rIsP K p) (call_isP hp) (by rfl) T.isi (by decide +kernel) (pa_cons (pv 0) (pa_cons (pe_glob (v := .ref (cs.getD 1 0)) rfl T.g1 rfl) pa_nil))) (pa_cons (pe_callB (id := "isinstance") (r := rIsP K p) (call_isP hp) (by rfl) T.isi (by decide +kernel) (pa_cons (pv 0) (pa_cons (pe_glob (v := .ref (cs.getD 2 0)) rfl T.g2 rfl) pa_nil))) pa_nil)))))
      (pss_cons (ps_set (i := 1) scWhich.nd rfl (.inl rfl) (pe_op op_cat (pv 1) (pe_lst (pa_cons (pe_callB (id := "isinstance") (r := rIsP K p) (call_isP hp) (by rfl) T.isi (by decide +kernel) (pa_cons (pv 0) (pa_cons (pe_glob (v := .ref (cs.getD 3 0)) rfl T.g3 rfl) pa_nil))) (pa_cons (pe_callB (id := "isinstance") (r := rIsP K p) (call_isP hp) (by rfl) T.isi (by decide +kernel) (pa_cons (pv 0) (pa_cons (pe_glob (v := .ref (cs.getD 4 0)) rfl T.g4 rfl) pa_nil))) (pa_cons (pe_callB (id := "isinstance") (r := rIsP K p) (call_isP hp) (by rfl) T.isi (by decide +kernel) (pa_cons (pv 0) (pa_cons (pe_glob (v := .ref (cs.getD 5 0)) rfl T.g5 rfl) pa_nil))) pa_nil))))))
      (pss_cons (ps_set (i := 1) scWhich.nd rfl (.inl rfl) (pe_op op_cat (pv 1) (pe_lst (pa_cons (pe_callB (id := "isinstance") (r := rIsP K p) (call_isP hp) (by rfl) T.isi (by decide +kernel) (pa_cons (pv 0) (pa_cons (pe_glob (v := .ref (cs.getD 6 0)) rfl T.g6 rfl) pa_nil))) (pa_cons (pe_callB (id := "isinstance") (r := rIsP K p) (call_isP hp) (by rfl) T.isi (by decide +kernel) (pa_cons (pv 0) (pa_cons (pe_glob (v := .ref (cs.getD 7 0)) rfl T.g7 rfl) pa_nil))) (pa_cons (pe_callB (id := "isinstance") (r := rIsP K p) (call_isP hp) (by rfl) T.isi (by decide +kernel) (pa_cons (pv 0) (pa_cons (pe_glob (v := .ref (cs.getD 8 0)) rfl T.g8 rfl) pa_nil))) pa_nil))))))
      (pss_cons (ps_set (i := 1) scWhich.nd rfl (.inl rfl) (pe_op op_cat (pv 1) (pe_lst (pa_cons (pe_callB (id := "isinstance") (r := rIsP K p) (call_isP hp) (by rfl) T.isi (by decide +kernel) (pa_cons (pv 0) (pa_cons (pe_glob (v := .ref (cs.getD 9 0)) rfl T.g9 rfl) pa_nil))) (pa_cons (pe_callB (id := "isinstance") (r := rIsP K p) (call_isP hp) (by rfl) T.isi (by decide +kernel) (pa_cons (pv 0) (pa_cons (pe_glob (v := .ref (cs.getD 10 0)) rfl T.g10 rfl) pa_nil))) (pa_cons (pe_callB (id := "isinstance") (r := rIsP K p) (call_isP hp) (by rfl) T.isi (by decide +kernel) (pa_cons (pv 0) (pa_cons (pe_glob (v := .ref (cs.getD 11 0)) rfl T.g11 rfl) pa_nil))) pa_nil))))))
      (pss_cons (ps_set (i := 1) scWhich.nd rfl (.inl rfl) (pe_op op_cat (pv 1) (pe_lst (pa_cons (pe_callB (id := "isinstance") (r := rIsP K p) (call_isP hp) (by rfl) T.isi (by decide +kernel) (pa_cons (pv 0) (pa_cons (pe_glob (v := .ref (cs.getD 12 0)) rfl T.g12 rfl) pa_nil))) pa_nil))))
      (pss_cons (ps_if (PW.pt (pw_or (pt_cmpR op_ne (pe_bm PySem.F.plainAttrs_list PySem.F.slot_list_count PySem.F.type_list_count mt_count (pv 1) (pa_cons pe_bl pa_nil)) pe_int (nomark _)) (pw_or1 (pt_cmpR op_ne (pe_callB (id := "isinstance") (r := rIsP K p) (call_isP hp) (by rfl) T.isi (by decide +kernel) (pa_cons (pv 0) (pa_cons (pe_glob (v := .ref cH) rfl T.gH rfl) pa_nil))) (pe_cmpR op_lt (pe_bm PySem.F.plainAttrs_list PySem.F.slot_list_index PySem.F.type_list_index mt_index (pv 1) (pa_cons pe_bl pa_nil)) pe_int (nomark _)) (by rfl))))) (pss_one (ps_ret pe_str)) pss_nil)
      (pss_cons (ps_set (i := 2) scWhich.nd rfl (.inl rfl) (pe_lst (pa_cons pe_str (pa_cons pe_str (pa_cons pe_str (pa_cons pe_str (pa_cons pe_str (pa_cons pe_str (pa_cons pe_str (pa_cons pe_str (pa_cons pe_str (pa_cons pe_str (pa_cons pe_str (pa_cons pe_str pa_nil))))))))))))))
      (pss_one (ps_ret (pe_ix ix_list (pe_op op_cat (pv 2) (pe_lst (pa_cons pe_str pa_nil))) (pe_bm PySem.F.plainAttrs_list PySem.F.slot_list_index PySem.F.type_list_index mt_index (pv 1) (pa_cons pe_bl pa_nil)) (fun _ _ => rfl))))))))))), ?_⟩
    refine ⟨_, rfl, _, .ref _, _, decide (i = 0), rfl, c1, c2, hex, c3, .own _, T.kit i 0 hi (by decide), ⟨_, rfl, _, .ref _, _, decide (i = 1), rfl, c1, c2, hex, c3, .own _, T.kit i 1 hi (by decide), ⟨_, rfl, _, .ref _, _, decide (i = 2), rfl, c1, c2, hex, c3, .own _, T.kit i 2 hi (by decide), (by show 3 ≤ sizeLine; decide), fun p0 hp0 => ?_⟩⟩⟩
    have z0 : Same H (upd H p0 (.lst [V.bl (decide (i = 0)), V.bl (decide (i = 1)), V.bl (decide (i = 2))])) := Same.new hp0
    have f0 : (upd H p0 (.lst [V.bl (decide (i = 0)), V.bl (decide (i = 1)), V.bl (decide (i = 2))])) p0 = some (.lst (kindsL i 3)) := upd_same
    generalize upd H p0 (.lst [V.bl (decide (i = 0)), V.bl (decide (i = 1)), V.bl (decide (i = 2))]) = G0 at *
    refine ⟨_, rfl, ⟨_, rfl, _, .ref _, _, decide (i = 3), rfl, c1, c2, hex, (same_xd c3 z0), .own _, T.kit i 3 hi (by decide), ⟨_, rfl, _, .ref _, _, decide (i = 4), rfl, c1, c2, hex, (same_xd c3 z0), .own _, T.kit i 4 hi (by decide), ⟨_, rfl, _, .ref _, _, decide (i = 5), rfl, c1, c2, hex, (same_xd c3 z0), .own _, T.kit i 5 hi (by decide), (by show 3 ≤ sizeLine; decide), fun l1 hl1 => ⟨p0, l1, kindsL i 3, [V.bl (decide (i = 3)), V.bl (decide (i = 4)), V.bl (decide (i = 5))], rfl, rfl, (Same.new hl1) _ _ f0, upd_same, (by show 6 ≤ sizeLine; decide), fun p1 hp1 => ?_⟩⟩⟩⟩⟩
    have z1 : Same H (upd (upd G0 l1 (.lst [V.bl (decide (i = 3)), V.bl (decide (i = 4)), V.bl (decide (i = 5))])) p1 (.lst (kindsL i 3 ++ [V.bl (decide (i = 3)), V.bl (decide (i = 4)), V.bl (decide (i = 5))]))) := z0.trans ((Same.new hl1).trans (Same.new hp1))
    have f1 : (upd (upd G0 l1 (.lst [V.bl (decide (i = 3)), V.bl (decide (i = 4)), V.bl (decide (i = 5))])) p1 (.lst (kindsL i 3 ++ [V.bl (decide (i = 3)), V.bl (decide (i = 4)), V.bl (decide (i = 5))]))) p1 = some (.lst (kindsL i 6)) := upd_same
    generalize upd (upd G0 l1 (.lst [V.bl (decide (i = 3)), V.bl (decide (i = 4)), V.bl (decide (i = 5))])) p1 (.lst (kindsL i 3 ++ [V.bl (decide (i = 3)), V.bl (decide (i = 4)), V.bl (decide (i = 5))])) = G1 at *
    refine ⟨_, rfl, ⟨_, rfl, _, .ref _, _, decide (i = 6), rfl, c1, c2, hex, (same_xd c3 z1), .own _, T.kit i 6 hi (by decide), ⟨_, rfl, _, .ref _, _, decide (i = 7), rfl, c1, c2, hex, (same_xd c3 z1), .own _, T.kit i 7 hi (by decide), ⟨_, rfl, _, .ref _, _, decide (i = 8), rfl, c1, c2, hex, (same_xd c3 z1), .own _, T.kit i 8 hi (by decide), (by show 3 ≤ sizeLine; decide), fun l2 hl2 => ⟨p1, l2, kindsL i 6, [V.bl (decide (i = 6)), V.bl (decide (i = 7)), V.bl (decide (i = 8))], rfl, rfl, (Same.new hl2) _ _ f1, upd_same, (by show 9 ≤ sizeLine; decide), fun p2 hp2 => ?_⟩⟩⟩⟩⟩
    have z2 : Same H (upd (upd G1 l2 (.lst [V.bl (decide (i = 6)), V.bl (decide (i = 7)), V.bl (decide (i = 8))])) p2 (.lst (kindsL i 6 ++ [V.bl (decide (i = 6)), V.bl (decide (i = 7)), V.bl (decide (i = 8))]))) := z1.trans ((Same.new hl2).trans (Same.new hp2))
    have f2 : (upd (upd G1 l2 (.lst [V.bl (decide (i = 6)), V.bl (decide (i = 7)), V.bl (decide (i = 8))])) p2 (.lst (kindsL i 6 ++ [V.bl (decide (i = 6)), V.bl (decide (i = 7)), V.bl (decide (i = 8))]))) p2 = some (.lst (kindsL i 9)) := upd_same
    generalize upd (upd G1 l2 (.lst [V.bl (decide (i = 6)), V.bl (decide (i = 7)), V.bl (decide (i = 8))])) p2 (.lst (kindsL i 6 ++ [V.bl (decide (i = 6)), V.bl (decide (i = 7)), V.bl (decide (i = 8))])) = G2 at *
    refine ⟨_, rfl, ⟨_, rfl, _, .ref _, _, decide (i = 9), rfl, c1, c2, hex, (same_xd c3 z2), .own _, T.kit i 9 hi (by decide), ⟨_, rfl, _, .ref _, _, decide (i = 10), rfl, c1, c2, hex, (same_xd c3 z2), .own _, T.kit i 10 hi (by decide), ⟨_, rfl, _, .ref _, _, decide (i = 11), rfl, c1, c2, hex, (same_xd c3 z2), .own _, T.kit i 11 hi (by decide), (by show 3 ≤ sizeLine; decide), fun l3 hl3 => ⟨p2, l3, kindsL i 9, [V.bl (decide (i = 9)), V.bl (decide (i = 10)), V.bl (decide (i = 11))], rfl, rfl, (Same.new hl3) _ _ f2, upd_same, (by show 12 ≤ sizeLine; decide), fun p3 hp3 => ?_⟩⟩⟩⟩⟩
    have z3 : Same H (upd (upd G2 l3 (.lst [V.bl (decide (i = 9)), V.bl (decide (i = 10)), V.bl (decide (i = 11))])) p3 (.lst (kindsL i 9 ++ [V.bl (decide (i = 9)), V.bl (decide (i = 10)), V.bl (decide (i = 11))]))) := z2.trans ((Same.new hl3).trans (Same.new hp3))
    have f3 : (upd (upd G2 l3 (.lst [V.bl (decide (i = 9)), V.bl (decide (i = 10)), V.bl (decide (i = 11))])) p3 (.lst (kindsL i 9 ++ [V.bl (decide (i = 9)), V.bl (decide (i = 10)), V.bl (decide (i = 11))]))) p3 = some (.lst (kindsL i 12)) := upd_same
    generalize upd (upd G2 l3 (.lst [V.bl (decide (i = 9)), V.bl (decide (i = 10)), V.bl (decide (i = 11))])) p3 (.lst (kindsL i 9 ++ [V.bl (decide (i = 9)), V.bl (decide (i = 10)), V.bl (decide (i = 11))])) = G3 at *
    refine ⟨_, rfl, ⟨_, rfl, _, .ref _, _, decide (i = 12), rfl, c1, c2, hex, (same_xd c3 z3), .own _, T.kit i 12 hi (by decide), (by show 1 ≤ sizeLine; decide), fun l4 hl4 => ⟨p3, l4, kindsL i 12, [V.bl (decide (i = 12))], rfl, rfl, (Same.new hl4) _ _ f3, upd_same, (by show 13 ≤ sizeLine; decide), fun p4 hp4 => ?_⟩⟩⟩
    have z4 : Same H (upd (upd G3 l4 (.lst [V.bl (decide (i = 12))])) p4 (.lst (kindsL i 12 ++ [V.bl (decide (i = 12))]))) := z3.trans ((Same.new hl4).trans (Same.new hp4))
    have f4 : (upd (upd G3 l4 (.lst [V.bl (decide (i = 12))])) p4 (.lst (kindsL i 12 ++ [V.bl (decide (i = 12))]))) p4 = some (.lst (kindsL i 13)) := upd_same
    generalize upd (upd G3 l4 (.lst [V.bl (decide (i = 12))])) p4 (.lst (kindsL i 12 ++ [V.bl (decide (i = 12))])) = G4 at *
    have hflat : (kindsL i 13).all flatV = true := rfl
    have key : ∀ i, i < 13 → (kindsL i 13).countP (eqV · (.bl true)) = 1 ∧ (kindsL i 13)[i]? = some (.bl true) ∧ (∀ m, m < i → (kindsL i 13)[m]? = some (.bl false)) ∧ whichL[i]? = some (whichL.getD i "") := by
      decide +kernel
    obtain ⟨q1, q2, q3, q4⟩ := key i hi
    have q3' : ∀ (m : Nat) (z' : V), m < i → (kindsL i 13)[m]? = some z' → eqV z' (.bl true) = false := fun m z' hm e => by
      rw [q3 m hm] at e
      cases e
      rfl
    -- kinds.count(True) != 1 or ..
    refine ⟨_, rfl, .inl ⟨rfl, _, SqL.of f4⟩, p4, _, _, rfl, rfl, SqL.of f4, rfl, hflat, rfl, _, rfl, ?_⟩
    rw [q1]
    refine iteF ⟨_, rfl, _, .ref _, _, decide (i < 11), rfl, c1, c2, hex, same_xd c3 z4, .own _, T.kitH i hi, _, rfl, .inl ⟨rfl, _, SqL.of f4⟩, p4, _, _, i, _, rfl, rfl, SqL.of f4, rfl, hflat, q2, rfl, q3', _, _, rfl, rfl, rfl, _, rfl, ?_⟩
    have e11 : (decide ((i : Int) < 11)) = decide (i < 11) := decide_eq_decide.mpr (by omega)
    refine iteNS (c := V.bl (decide (i < 11)) = V.bl (decide ((i : Int) < 11))) (by rw [e11]) ?_
    refine ⟨(by show 12 ≤ sizeLine; decide), fun p5 hp5 => ⟨_, rfl, (by show 1 ≤ sizeLine; decide), fun l6 hl6 => ⟨p5, l6, _, _, rfl, rfl, (Same.new hl6) _ _ upd_same, upd_same, (by show 13 ≤ sizeLine; decide), fun p6 hp6 => ?_⟩⟩⟩
    have s5 := ((Same.new (o := .lst [.str "number", .str "name", .str "row", .str "sort", .str "program", .str "text", .str "book", .str "hands", .str "step", .str "edit", .str "command", .str "many"]) hp5).trans (Same.new (o := .lst [.str "undo"]) hl6)).trans
      (Same.new (o := .lst ([.str "number", .str "name", .str "row", .str "sort", .str "program", .str "text", .str "book", .str "hands", .str "step", .str "edit", .str "command", .str "many"] ++ [.str "undo"])) hp6)
    have g4 := s5 _ _ f4
    have q4' : (([.str "number", .str "name", .str "row", .str "sort", .str "program", .str "text", .str "book", .str "hands", .str "step", .str "edit", .str "command", .str "many"] : List V) ++ [.str "undo"])[i]? = some (.str (whichL.getD i "")) := by
      have e : (([.str "number", .str "name", .str "row", .str "sort", .str "program", .str "text", .str "book", .str "hands", .str "step", .str "edit", .str "command", .str "many"] : List V) ++ [.str "undo"]) = whichL.map V.str := rfl
      rw [e, List.getElem?_map, q4]
      rfl
    refine ⟨_, rfl, .inl ⟨rfl, _, SqL.of g4⟩, p4, _, _, i, _, rfl, rfl, SqL.of g4, rfl, hflat, q2, rfl, q3', ?_⟩
    exact ⟨p6, _, (i : Int), _, rfl, rfl, SqL.of upd_same, atI_nat q4', k _ (z4.trans s5)⟩
theorem scCaught : FnScope ["call", "e"] ["call"] (defScope sCaught) := ⟨rfl, rfl, rfl, by decide +kernel, rfl, by decide +kernel, by decide +kernel⟩
end

/-- _law_which, by the error's class and dict alone -/
def spWh (K : PySem.W.Frag) (cs : List Addr) (a : Addr) (cls : Value) (d : Option Addr) : Sp := fun vs H Q _ => ∃ i : Nat, vs = [.ref a] ∧ i < 13 ∧ cls = .ref (cs.getD i 0) ∧
  (d = none ∨ ∃ dd fs, d = some dd ∧ H dd = some (.xd fs)) ∧ ∀ H', Same H H' → Q (.str (whichL.getD i "")) H'
theorem spWh_imp {K : PySem.W.Frag} {cs : List Addr} {a : Addr} {oe : Obj} {cls : Value} {d : Option Addr} (hz : Zc cls d oe) (hf : ∃ vs, oe.data = .fields vs) : ∀ vs H Q E, spWh K cs a cls d vs H Q E → spWhichP K cs (a, oe) vs H Q E := by
  rintro vs H Q E ⟨i, rfl, hi, hc, hd, k⟩
  refine ⟨i, rfl, hi, hz.1.trans hc, hf, ?_, k⟩
  have e : oe.dict = d := hz.2
  rcases hd with hd | ⟨dd, fs, hd, ed⟩
  · exact .inl (e.trans hd)
  · exact .inr ⟨dd, fs, e.trans hd, ed⟩
/-- e.f, e the error that is caught, of whatever own class -/
def tXfG (K : PySem.W.Frag) (a : Addr) (cls : Value) (d : Option Addr) (f : Str) (te : TE) : TE := fun σ H Q => te σ H fun x H1 => x = .ref a ∧ ∃ (C dd : Addr) (fs : List (Str × V)) (v : V), cls = .ref C ∧ XfC K C ∧ PySem.W.findIn K (.ref C) f = some none ∧
  d = some dd ∧ H1 dd = some (.xd fs) ∧ fs.lookup f = some v ∧ Q v H1
theorem pe_xfG {X : Cx} {a : Addr} {oe : Obj} {cls : Value} {d : Option Addr} {pn : List (Addr × Obj)} {e : Expr} {te : TE} {pos : Pos} {n : Str} (hz : Zc cls d oe) (hf : ∃ vs, oe.data = .fields vs) (he : PE (X.suite a ((a, oe) :: pn)) e te)
    (hb : attributeBase e n X.env (eval e X.env) = eval e X.env := by rfl) : PE (X.suite a ((a, oe) :: pn)) (.Attribute e n pos) (tXfG X.K a cls d n te) := by
  constructor
  intro pins s σ H Q I h
  refine attr_of hb (thn (he.run pins s σ H _ I h) fun u s1 hh => ?_)
  obtain ⟨x, H1, I1, rx, ex, C, dd, fs, v, ec, T, hno, ed, ea, l, q⟩ := hh
  subst ex
  obtain rfl : u = Value.ref a := rx
  subst ec
  subst ed
  have P1 := I1.pin (a, oe) (List.mem_append_left _ List.mem_cons_self)
  obtain ⟨vs, hd⟩ := hf
  have z : ObjOk X.prog X.w H1 s1.heap dd (.xd fs) := I1.hok dd _ ea
  obtain ⟨mA, hns, hr⟩ := z
  obtain ⟨od, ho, hl⟩ := lookIn_ns hns
  obtain ⟨w, hw, rw'⟩ := RelO.some_of (v := v) (o := mA n) (by rw [← l]; exact hr n)
  have J : PySem.W.InstAt s1.heap a oe C (some od) := ⟨P1.1, hz.1, by unfold PySem.W.notCls; rw [hd], by rw [hz.2]; exact ho⟩
  exact HandSPX.exc_get I1.kIn J T.ga T.gg T.exC (PySem.W.findObj_own T.hdC hno rfl (by rw [hl, hw])) (handed_of rw') ⟨v, H1, I1.tok _, rw', q⟩
abbrev rReprD (K : PySem.W.Frag) : List V → Hp → VK → Prop := fun xs H Q => ∃ v d, xs = [v] ∧ Rp K H v d ∧ okD d = true ∧ Q (.str d.shown) H
/-- what is wished of an error that the lambda raises -/
def ECt (K : PySem.W.Frag) (cs : List Addr) (Q : VK) : XK := fun cls d H' => ∃ (i : Nat) (dd : Addr) (v : V) (dv : PyData), i < 11 ∧ cls = .ref (cs.getD i 0) ∧ d = some dd ∧ H' dd = some (.xd [("value", v)]) ∧ Rp K H' v dv ∧ okD dv = true ∧
  ∀ H'' p, Same H' H'' → H'' p = some (.lst [.str (whichL.getD i ""), .str dv.shown]) → Q (.ref p) H''
/-- _law_caught of a lambda of the reading tl -/
def TTc (K : PySem.W.Frag) (cs : List Addr) (tl : XK → Hp → VK → Prop) : Hp → VK → Prop := fun H Q => ∀ E : XK, (∀ cls d H', ECt K cs Q cls d H' → E cls d H') → tl E H (fun _ H' => Q .non H')
/-- the slots are as many as the names -/
theorem pss_len {X : Cx} {st : List Stmt} {t : TS} (n : Nat) (hn : X.N.length = n) (h : PSs X st t) : PSs X st (fun D σ H => σ.length = n → t D σ H) :=
  ⟨fun pins s σ H D I hq => h.run pins s σ H D I (hq (I.len.trans hn))⟩
section
variable {Z : Cx} {cH fW a : Addr} {fdW : FuncData} {cs : List Addr} {oe : Obj} {cls : Value} {d : Option Addr} {pn : List (Addr × Obj)} {i : Nat}
theorem pe_whichC {p1 p2 p3 : Pos} (GW : FnP Z.prog Z.w Z.K Z.mg Z.base 1 fW fdW ["error"] (spWhichP Z.K cs)) (hr : L2H.RoomH 1 Z.A) (hz : Zc cls d oe) (hf : ∃ vs, oe.data = .fields vs) (hgl : Gl Z "_law_which") (gW : Z.mg "_law_which" = some (.ref fW))
    (hk : PySem.W.keepIn Z.K (.ref fW) = true) (bW : L2.Binds Z.K fdW ["error"] []) (hN : Z.N[i]? = some "e") (hv : Vis Z.env.scope "e") :
    PE (Z.suite a ((a, oe) :: pn)) (.Call (.Name "_law_which" p1) [.Name "e" p2] [] p3) (fun σ H Q => tCons (tVar i) tNil σ H fun vs H1 => spWh Z.K cs a cls d vs H1 Q E0) :=
  pe_callP (X := Z.suite a ((a, oe) :: pn)) (p := (a, oe)) (spr := spWh Z.K cs a cls d) (spWh_imp hz hf) GW ⟨hr.dp, hr.un⟩ (List.mem_cons_self ..) hgl gW hk bW (pa_cons (pv i hN hv) pa_nil)
theorem pe_reprC {p1 p2 p3 p4 : Pos} {f : Str} (hg : Z.A.guards = some []) (hu : Z.A.units + 64 < cLine) (hz : Zc cls d oe) (hf : ∃ vs, oe.data = .fields vs) (hgl : Gl Z "repr") (hm : Z.mg "repr" = none) (hN : Z.N[i]? = some "e") (hv : Vis Z.env.scope "e")
    (hb : attributeBase (.Name "e" p2) f Z.env (eval (.Name "e" p2) Z.env) = eval (.Name "e" p2) Z.env) :
    PE (Z.suite a ((a, oe) :: pn)) (.Call (.Name "repr" p1) [.Attribute (.Name "e" p2) f p3] [] p4) (tCB (rReprD Z.K) (tCons (tXfG Z.K a cls d f (tVar i)) tNil)) :=
  pe_callB (X := Z.suite a ((a, oe) :: pn)) (id := "repr") (r := rReprD Z.K) (call_reprD (X := Z.suite a ((a, oe) :: pn)) hg hu) hgl hm (by decide +kernel) (pa_cons (pe_xfG (X := Z) hz hf (pv i hN hv) hb) pa_nil)
end
section
variable {X : Cx} {cH : Addr} {cs : List Addr}
theorem gives_caught {g fW : Addr} {cdg : Value} {fdW : FuncData} {q : Str} (T : HTxt X.K X.mg cH cs) (FW : Fun X.K "_law_which" "_law_which" sWhich fW fdW) (bW : L2.Binds X.K fdW ["error"] []) (gW : X.mg "_law_which" = some (.ref fW)) (hg : X.A.guards = some [])
    (hr : Room 8 X.A) : LamX.GivesTo X ["call", "e"] "_law_caught" (defScope sCaught) g cdg (defBody sCaught) "call" q (TTc X.K cs) := by
  intro f c' s H Q tl hc hcc hTT
  have GW : FnP X.prog X.w X.K X.mg X.base 1 fW fdW ["error"] (spWhichP X.K cs) := ok_whichP FW T
  have hrH : ∀ env : Env, L2H.RoomH 1 (X.A.deeper env) := fun env => (L2H.roomH_of (hr.deeper env)).mono (by decide)
  have hu : ∀ env : Env, (X.A.deeper env).units + 64 < cLine := fun env => (hr.deeper env).units
  let Z : Cx := (cxOf C8.CX0 X.prog X.w X.K X.mg X.base ["call", "e"] "_law_caught" (defScope sCaught) g cdg X.A X.stack s H C8.E0).nox
  refine ⟨_, pss_cons (X := Z) (ps_try_manyA (X := Z) rfl rfl scCaught.nd takes_none5 (fun W pn xe tk _ => pss_one (ps_expr (hc W pn xe (fun cls d H' => ∀ σ', W cls d σ' H') _ _ tk (fun cls d σ' H' h => h σ'))))
      (.cons (i := 1) ⟨by rfl, by decide, .inl T.gH⟩ rfl rfl (fun a oe cls d pn hz hf => pss_len 2 rfl (pss_one (ps_ret (pe_lst (pa_cons (pe_whichC (Z := Z) (i := 1) (a := a) (pn := pn) GW (hrH _) hz hf (by rfl) gW FW.kp bW rfl (.inl rfl))
          (pa_cons (pe_reprC (Z := Z) (i := 1) (a := a) (pn := pn) hg (hu _) hz hf (by rfl) T.reprN rfl (.inl rfl) rfl) pa_nil))))))
      (.cons (i := 1) ⟨by rfl, by decide, .inl T.g11⟩ rfl rfl (fun a oe cls d pn hz hf => pss_len 2 rfl (pss_one (ps_ret (pe_lst (pa_cons (pe_whichC (Z := Z) (i := 1) (a := a) (pn := pn) GW (hrH _) hz hf (by rfl) gW FW.kp bW rfl (.inl rfl))
          (pa_cons (pe_reprC (Z := Z) (i := 1) (a := a) (pn := pn) hg (hu _) hz hf (by rfl) T.reprN rfl (.inl rfl) rfl) pa_nil))))))
      (.cons (i := 1) ⟨by rfl, by decide, .inl T.g12⟩ rfl rfl (fun a oe cls d pn hz hf => pss_len 2 rfl (pss_one (ps_ret (pe_lst (pa_cons (pe_whichC (Z := Z) (i := 1) (a := a) (pn := pn) GW (hrH _) hz hf (by rfl) gW FW.kp bW rfl (.inl rfl))
          (pa_cons (pe_str (x := Str.ofString "")) pa_nil))))))
      .nil)))) (pss_one (ps_ret pe_non)), ?_⟩
  refine ⟨rfl, hcc, hTT _ fun cls d H' hE σ' => ?_⟩
  obtain ⟨i, dd, v, dv, hi, rfl, rfl, ed, hv, ho, k⟩ := hE
  refine ⟨true, (T.exmH i (by omega)).trans (by rw [decide_eq_true hi]), fun _ a na hlen => ?_, fun q => nomatch q⟩
  have h1 : (σ'.set 1 (some (V.ref a)))[1]? = some (some (V.ref a)) := by
    have : (σ'.set 1 (some (V.ref a))).length = 2 := hlen
    rw [List.length_set] at this
    exact List.getElem?_set_self (by omega)
  refine ⟨_, h1, i, rfl, by omega, rfl, .inr ⟨dd, _, rfl, ed⟩, fun H2 s2 => ?_⟩
  have hv2 : Rp X.K H2 v dv := rp_same hv s2
  refine ⟨_, h1, rfl, cs.getD i 0, dd, _, v, rfl, T.xf i (by omega), T.noV i hi, rfl, s2 _ _ ed, (by simp), v, dv, rfl, hv2, ho, (by show 2 ≤ sizeLine; decide), fun p hp => ?_⟩
  exact k _ p (s2.trans (Same.new hp)) upd_same
end
/-! ### the end of a law: no repr under way, tables of lambdas -/
section
open LamX
/-- the law's own call, tables of code at hand -/
theorem lawGT {cs : List (Addr × Addr)} {CX : CXT} {P : Program} {w : World} {K : PySem.W.Frag} {mg mb : Str → Option Value} {k : Nat} {fa a : Addr} {fd : FuncData} {sp : Sp} {s₁ : Shared} {vs : List Value} {ns : List Int} (dcx : ∀ D e s', CX [] D s₁ (fun _ _ _ => False) e s' → False) (tz : ∀ p ∈ cs, s₁.heap.get? p.2 = some { cls := .none, data := .fields #[] }) (tn : ∀ p ∈ cs, K.lookup p.2 = none) (th : ∀ p ∈ cs, PySem.W.CodeHd s₁.heap p.1 p.2)
    (bmn : ∃ (c : Addr) (y : Obj), mg "__builtins__" = some (.ref c) ∧ c ≠ builtinsNs ∧ s₁.heap.get? c = some y ∧ y.cls = .type "module" ∧ y.dict = some builtinsNs ∧ y.data = .plain) (KX : K.In s₁.heap) (hns : s₁.heap.Ns mainGlobals mg)
    (hb : s₁.heap.Ns builtinsNs mb) (hbb : ∀ x : Str, x ≠ "__name__" → mb x = bootBuiltins x) (hlim : s₁.heap.NoLimit) (hg : s₁.gens = #[])
    (ha : s₁.heap.get? a = some { cls := .type "list", data := .seq vs.toArray }) (hi : PyProof.Rows.IntsAre vs ns) (hl : ns.length ≤ sizeLine) (hr : Room k callerA)
    (F : ∀ base : Heap, K.In base → base.Ns mainGlobals mg → (∀ p ∈ cs, TabB base mg p.1 p.2) → FnG P w K mg base CX k fa fd ["script"] sp) (bind : ∀ (s : Shared) (u : Value), BindsTo s fd ⟨[u], []⟩ [("script", u)])
    (hsp : ∀ H : Hp, (∀ p ∈ cs, H p.2 = some (.tbl #[])) → SqL K H a (ns.map V.int) → sp [.ref a] H (fun v _ => v = .bl true) fun _ _ _ => False) :
    codeAny (model P w) callerA (.call (.ref fa) ⟨[.ref a], []⟩) (fun r s' => r = .ok (.ret (.bool true)) ∧ PySem.OldK s₁.heap s'.heap ∧ s'.os = s₁.os ∧ AllBare s'.gens) s₁ := by
  have rv := vals_ints hi
  have lenV := hi.length
  -- the abstract heap: nothing, or the script, locked
  have go : ∀ H : Hp, (∀ b o, H b = some o → ((∃ p ∈ cs, b = p.2) ∧ o = .tbl #[]) ∨ (b = a ∧ K.lookup a = none ∧ o = .frz { cls := .type "list", data := .seq vs.toArray } (.lst (ns.map V.int)))) → (∀ p ∈ cs, H p.2 = some (.tbl #[])) → SqL K H a (ns.map V.int) →
      codeAny (model P w) callerA (.call (.ref fa) ⟨[.ref a], []⟩) (fun r s' => r = .ok (.ret (.bool true)) ∧ PySem.OldK s₁.heap s'.heap ∧ s'.os = s₁.os ∧ AllBare s'.gens) s₁ := by
    intro H hA hC hS
    have hok : HOk P w H s₁.heap := fun b o q => by
      rcases hA b o q with ⟨⟨p, hp, rfl⟩, rfl⟩ | ⟨rfl, _, rfl⟩
      · exact tz p hp
      exact ⟨ha, by rw [List.length_map]; exact hl, vs, _, rv, ha⟩
    have low : ∀ {b : Addr} {o : Obj}, s₁.heap.get? b = some o → H b = none → (hidT s₁.heap H).get? b = some o := fun e n => hidT_get e n
    have free : ∀ {b : Addr} {o : Obj}, s₁.heap.get? b = some o → (∀ its n, o.data ≠ .seq its n) → o.data ≠ .fields #[] → H b = none := fun {b o} e d d2 => by
      cases q : H b with
      | none => rfl
      | some u =>
        rcases hA b u q with ⟨⟨p, hp, rfl⟩, _⟩ | ⟨rfl, _⟩
        · rw [tz p hp] at e
          cases e
          exact absurd rfl d2
        · rw [ha] at e
          cases e
          exact absurd rfl (d _ _)
    have nsT : ∀ {b : Addr} {m : Str → Option Value}, s₁.heap.Ns b m → (hidT s₁.heap H).Ns b m := fun {b m} z => by
      obtain ⟨o, es, ep, e, d, r⟩ := z
      exact ⟨o, es, ep, low e (free e (fun its n y => by rw [d] at y; cases y) fun y => by rw [d] at y; cases y), d, r⟩
    have kT : K.In (hidT s₁.heap H) := fun b o e => by
      refine low (KX b o e) ?_
      cases q : H b with
      | none => rfl
      | some u =>
        rcases hA b u q with ⟨⟨p, hp, rfl⟩, _⟩ | ⟨rfl, z, _⟩
        · rw [tn p hp] at e
          cases e
        · rw [z] at e
          cases e
    have hM : Mod K mg (hidT s₁.heap H) := by
      obtain ⟨mc, h1, h2⟩ := hlim
      exact ⟨kT, nsT hns, ⟨mb, nsT hb, hbb⟩, ⟨mc, nsT h1, h2⟩⟩
    have hT : ∀ p ∈ cs, TabB (hidT s₁.heap H) mg p.1 p.2 := fun p hp => by
      have tp := tz p hp
      refine ⟨?_, ?_, fun z => ?_⟩
      · obtain ⟨y, q1, q2, q3, q4, q5, q6, q7, q8, g, c1, c2, c3, c4, c5, c6, c7, c8, c9⟩ := th p hp
        exact ⟨y, q1, q2, q3, q4, q5, q6, q7, q8, low g (free g (fun its n z => by rw [c2] at z; cases z) fun z => by rw [c2] at z; cases z; simp at c3), c1, c2, c3, c4, c5, c6, c7, c8, c9⟩
      · obtain ⟨c, y, g1, g2, g3, g4, g5, g6⟩ := bmn
        refine ⟨c, y, g1, g2, fun z => ?_, fun z => ?_, low g3 (free g3 (fun its n z => by rw [g6] at z; cases z) fun z => by rw [g6] at z; cases z), g4, g5, g6⟩
        · obtain ⟨_, _, _, ge, gd, _⟩ := hns
          rw [z, ge] at g3
          cases g3
          rw [gd] at g6
          cases g6
        · rw [z, tp] at g3
          cases g3
          cases g6
      · obtain ⟨_, _, _, ge, gd, _⟩ := hns
        rw [z, tp] at ge
        cases ge
        cases gd
    have e0 : Env0 P w K mg (hidT s₁.heap H) callerA [] s₁ H :=
      ⟨rfl, hM, fun b o e => of_hidT e, Nat.le_of_eq (hidT_size _ _), trivial, fun b hb => (nomatch hb), hok, .of_eq hg⟩
    have run := (F _ kT (nsT hns) hT).run callerA [] s₁ H ⟨[.ref a], []⟩ [.ref a] [.ref a] _ _ rfl hr e0 (bind s₁ (.ref a)) (.cons rfl .nil) (hsp H hC hS)
    refine codeAny_mono run fun r s' h => ?_
    cases r with
    | error e => exact (dcx H e s' h).elim
    | ok fl =>
      cases fl with
      | next => exact False.elim h
      | brk => exact False.elim h
      | cont => exact False.elim h
      | ret u =>
        obtain ⟨v, H', os, bare, un, hok', r', q⟩ := h
        obtain rfl : v = .bl true := q
        obtain rfl : u = Value.bool true := r'
        have kept : ∀ b o, (∀ p ∈ cs, b ≠ p.2) → s₁.heap.get? b = some o → s'.heap.get? b = some o := fun b o nb e => by
          cases q : H b with
          | none => exact un.keep b o e q (fun z => nomatch z) (fun z => nomatch z)
          | some u =>
            rcases hA b u q with ⟨⟨p, hp, rfl⟩, _⟩ | ⟨rfl, _, rfl⟩
            · exact absurd rfl (nb p hp)
            have z := un.frzs b _ _ q
            rw [ha] at e
            cases e
            exact (hok' b _ z).1
        have more : ∀ p ∈ cs, ∃ ys : Array Value, s'.heap.get? p.2 = some { cls := .none, data := .fields ys } := fun p hp => by
          obtain ⟨ys, z⟩ := un.tbls _ _ (hC p hp)
          exact ⟨_, hok' _ _ z⟩
        have split : ∀ b : Addr, (∃ p ∈ cs, b = p.2) ∨ ∀ p ∈ cs, b ≠ p.2 := fun b => by
          by_cases z : ∃ p ∈ cs, b = p.2
          · exact .inl z
          · exact .inr fun p hp e => z ⟨p, hp, e⟩
        refine ⟨rfl, ⟨fun b o e => ?_, fun b o e => ?_⟩, os, bare⟩
        · rcases split b with ⟨p, hp, rfl⟩ | nb
          · obtain ⟨ys, hys⟩ := more p hp
            rw [tz p hp] at e
            cases e
            exact .inr (.inl ⟨((th p hp).tab (tz p hp)).isCodeTable, rfl, #[], ys, rfl, by rw [hys, Array.empty_append]⟩)
          · exact .inl (kept b o nb e)
        · rcases split b with ⟨p, hp, rfl⟩ | nb
          · obtain ⟨ys, hys⟩ := more p hp
            exact ⟨_, hys⟩
          · exact ⟨o, kept b o nb e⟩
  have aT : ¬ ∃ p ∈ cs, a = p.2 := fun ⟨p, hp, e⟩ => by
    have q := tz p hp
    rw [← e, ha] at q
    cases q
  cases hk : K.lookup a with
  | some o =>
    have e := KX a o hk
    rw [ha] at e
    cases e
    refine go (fun b => open Classical in if ∃ p ∈ cs, b = p.2 then some (.tbl #[]) else none) (fun b o z => ?_) (fun p hp => if_pos ⟨p, hp, rfl⟩) (.inr ⟨_, vs.toArray, _, hk, rfl, rfl, rfl, ?_, by simpa using rv⟩)
    · by_cases hb : ∃ p ∈ cs, b = p.2
      · exact .inl ⟨hb, by have q := (if_pos hb).symm.trans z; cases q; rfl⟩
      · have q := (if_neg hb).symm.trans z
        cases q
    · rw [List.size_toArray, lenV]
      exact hl
  | none =>
    refine go (fun b => open Classical in if ∃ p ∈ cs, b = p.2 then some (.tbl #[]) else if b = a then some (.frz { cls := .type "list", data := .seq vs.toArray } (.lst (ns.map V.int))) else none) (fun b o z => ?_) (fun p hp => if_pos ⟨p, hp, rfl⟩)
      (.inl (.inr ⟨_, (if_neg aT).trans (if_pos rfl)⟩))
    by_cases hb : ∃ p ∈ cs, b = p.2
    · exact .inl ⟨hb, by have q := (if_pos hb).symm.trans z; cases q; rfl⟩
    · have q := (if_neg hb).symm.trans z
      by_cases hb2 : b = a
      · exact .inr ⟨hb2, hk, (Option.some.inj ((if_pos hb2).symm.trans q)).symm⟩
      · have q2 := (if_neg hb2).symm.trans q
        cases q2
theorem walkGT {CX : World → CXT} {l : PySem.W.OpenLaw} {k : Nat} {q : Program} {loose : List Str} {XP : (Str → Option Value) → Heap → Prop} {YP : World → Heap → Prop} {d : DefRec} {K : Params → PySem.W.Frag} (hn : l.most = some 63) (hdf : d.params.defaults = [])
    (hr : Room k callerA) (hY : ∀ (w : World) (h : Heap), YP w h → (K w.params).In h)
    (dcx : ∀ (w : World) D s e s', CX w [] D s (fun _ _ _ => False) e s' → False)
    (F : ∀ (w : World) (mg : Str → Option Value) (fa : Addr) (h : Heap), YP w h → (K w.params).In h → h.Ns mainGlobals mg → mg d.name = some (.ref fa) →
      ∃ (fd : FuncData) (cs : List (Addr × Addr)) (sp : Sp), (∀ p ∈ cs, h.get? p.2 = some { cls := .none, data := .fields #[] } ∧ (K w.params).lookup p.2 = none ∧ PySem.W.CodeHd h p.1 p.2) ∧
        (∀ (H : Hp) (a : Addr) (ns : List Int), ns.length ≤ 63 → (∀ z ∈ ns, Builtin.Int.intBits z ≤ 1048576) → (∀ p ∈ cs, H p.2 = some (.tbl #[])) → SqL (K w.params) H a (ns.map V.int) → sp [.ref a] H (fun v _ => v = .bl true) fun _ _ _ => False) ∧
        (∀ (s : Shared) (u : Value), BindsTo s fd ⟨[u], []⟩ [("script", u)]) ∧
        ∀ base : Heap, (K w.params).In base → base.Ns mainGlobals mg → (∀ p ∈ cs, TabB base mg p.1 p.2) → FnG l.prog w (K w.params) mg base (CX w) k fa fd ["script"] sp) :
    PySem.W.WalkO q loose XP YP l.row.toRowW d [] (fun f vs => PySem.call f vs) := by
  refine Att.attach_callB hn hdf fun w s₀ s₁ mg mb fa o pm cd doc a vs ns G Y ho hd hcd hmg hobj hints hlen hbits hg => ?_
  have KX := hY w _ Y
  obtain ⟨fd, cs, sp, hcs, hsp, hb, hF⟩ := F w mg fa _ Y KX G.T.g hmg
  exact lawGT (fun D e s' => dcx w D s₁ e s') (fun p hp => (hcs p hp).1) (fun p hp => (hcs p hp).2.1) (fun p hp => (hcs p hp).2.2) G.T.bmain KX G.T.g G.T.b G.T.builtins G.T.nolimit hg hobj hints (Nat.le_trans hlen (by decide)) hr hF hb
    fun H hC hS => hsp H a ns hlen hbits hC hS
end
/-! ### rules of my own -/
section
variable {X : Cx}
/-- == of a list (a tuple) and an empty one -/
def rEqNil (K : PySem.W.Frag) : V → V → Hp → VK → Prop := fun x y H Q => ∃ (p q : Addr) (xs : List V), x = .ref p ∧ y = .ref q ∧ ((SqL K H p xs ∧ SqL K H q []) ∨ (SqT K H p xs ∧ SqT K H q [])) ∧ Q (.bl xs.isEmpty) H
theorem op_eqNil (hu : X.A.units < cLine) : OpR X (compareOp .Eq) (rEqNil X.K) := by
  intro pins s σ H x y v u Q I rx ry h
  obtain ⟨p, q, xs, rfl, rfl, hpq, k⟩ := h
  cases rx
  cases ry
  rcases hpq with ⟨h1, h2⟩ | ⟨h1, h2⟩
  · obtain ⟨its, r, pl, hz⟩ := I.list h1
    obtain ⟨its2, r2, pl2, hz2⟩ := I.list h2
    cases r2
    have hl := r.length
    cases xs with
    | nil =>
      cases r
      exact SeqAt.eq_listAt (e := fun _ => true) pl.isList pl2.isList rfl hu (fun j h1 _ => absurd h1 (Nat.not_lt_zero _)) ⟨.bl true, H, I, rfl, k⟩
    | cons a b =>
      refine SeqAt.eq_list_lengthsAt pl.isList pl2.isList ?_ hu ⟨.bl false, H, I, rfl, k⟩
      cases its with
      | nil => cases r
      | cons c d => simp
  · obtain ⟨its, r, pl, hz⟩ := I.tuple h1
    obtain ⟨its2, r2, pl2, hz2⟩ := I.tuple h2
    cases r2
    have e1 : s.heap.IsTuple p its.toArray := pl
    have e2 : s.heap.IsTuple q #[] := pl2
    refine SeqAt.eq_tupleAt (e := fun _ => true) e1 e2 hu (fun j _ h2 => absurd h2 (Nat.not_lt_zero _)) ⟨.bl xs.isEmpty, H, I, ?_, k⟩
    cases xs with
    | nil => cases r; rfl
    | cons a b =>
      cases its with
      | nil => cases r
      | cons c d =>
        show Value.bool _ = Value.bool false
        congr 1
/-- + of tuples, the left one not empty: some tuple of both -/
def rCatA1 (K : PySem.W.Frag) : V → V → Hp → VK → Prop := fun x y H Q => ∃ a b xs ys, x = .ref a ∧ y = .ref b ∧ SqT K H a xs ∧ H a = some (.tup xs) ∧ SqT K H b ys ∧ xs.length + ys.length ≤ sizeLine ∧ xs ≠ [] ∧
  ∀ p H', (∀ b o, H b = some o → H' b = some o) → H' p = some (.tup (xs ++ ys)) → Q (.ref p) H'
theorem op_catA1 : OpR X (binaryOp .Add) (rCatA1 X.K) := by
  intro pins s σ H x y v u Q I rx ry h
  obtain ⟨a, b, xs, ys, rfl, rfl, h1, h1', h2, hz, hne, q⟩ := h
  refine op_catA pins s σ H _ _ v u Q I rx ry ⟨a, b, xs, ys, rfl, rfl, h1, h2, hz, fun e => absurd e hne, fun _ e => ?_, fun _ _ p hp => ?_⟩
  · subst e
    exact q a H (fun _ _ h => h) (by rw [List.append_nil]; exact h1')
  · exact q p _ (fun b o e => by rw [upd_ne (ne_of_none e hp)]; exact e) upd_same
theorem call_repr_bool : CallR X (.builtin "repr") (fun xs H Q => ∃ b, xs = [.bl b] ∧ Q (.str (if b then "True" else "False")) H) := by
  intro pins s σ H xs us Q I r h
  obtain ⟨b, rfl, q⟩ := h
  obtain ⟨u, rfl, rfl⟩ := vals1 r
  exact PySem.P.repr_of_bool ⟨.str _, H, I.tok _, ⟨_, rfl⟩, q⟩
end

/-- a thing and its built-in kind -/
inductive Kd (H : Hp) : V → String → Prop where
  | non : Kd H .non "NoneType"
  | bl (b : Bool) : Kd H (.bl b) "bool"
  | int (i : Int) : Kd H (.int i) "int"
  | str (z : Str) (h : z.length ≤ 1000) : Kd H (.str z) "str"
  | lst {a : Addr} {xs : List V} (e : H a = some (.lst xs)) : Kd H (.ref a) "list"
  | tup {a : Addr} {xs : List V} (e : H a = some (.tup xs)) : Kd H (.ref a) "tuple"
  | dK {a : Addr} {kvs : List (Key × V)} (e : H a = some (.dK kvs)) : Kd H (.ref a) "dict"
theorem Kd.ty {K : PySem.W.Frag} {H : Hp} {v : V} {n : String} (h : Kd H v n) : TyX K H v (.type n) := by
  cases h with
  | non => exact .base .non
  | bl b => exact .base (.bl b)
  | int i => exact .base (.int i)
  | str z h => exact .base (.str z)
  | lst e => exact .base (.lst e)
  | tup e => exact .base (.tup e)
  | dK e => exact .base (.dK e)
theorem Kd.same {H H' : Hp} {v : V} {n : String} (h : Kd H v n) (s : Same H H') : Kd H' v n := by
  cases h with
  | non => exact .non
  | bl b => exact .bl b
  | int i => exact .int i
  | str z h => exact .str z h
  | lst e => exact .lst (s _ _ e)
  | tup e => exact .tup (s _ _ e)
  | dK e => exact .dK (s _ _ e)
theorem _root_.L2.Same.seqT {K : PySem.W.Frag} {H H' : Hp} {a : Addr} {xs : List V} (e : Same H H') (h : SqT K H a xs) : SqT K H' a xs := by
  rcases h with (h | ⟨o, h⟩) | h
  · exact .inl (.inl (e _ _ h))
  · exact .inl (.inr ⟨o, e _ _ h⟩)
  · exact .inr h
/-- a written tuple -/
def isTupV (oc : Value) (d : PySem.Data) (xs : List V) : Bool := match oc, d with
  | .type n, .seq its _ => (n == "tuple") && decide (its.size ≤ 1000) && decide (its.toList.map absV = xs.map some)
  | _, _ => false
theorem vals_of_abs : ∀ {xs : List V} {us : List Value}, us.map absV = xs.map some → Vals xs us
  | [], [], _ => .nil
  | [], _ :: _, h => by cases h
  | _ :: _, [], h => by cases h
  | x :: xs, u :: us, h => by
    rw [List.map_cons, List.map_cons] at h
    injection h with h1 h2
    refine .cons ?_ (vals_of_abs h2)
    cases u <;> simp only [absV, Option.some.injEq, reduceCtorEq] at h1 <;> subst h1 <;> first | rfl | exact ⟨_, rfl⟩
theorem sqT_written {K : PySem.W.Frag} {H : Hp} {a : Addr} {oc : Value} {od : Option Addr} {d : PySem.Data} {sl : Array (Option Value)} {xs : List V} (l : K.lookup a = some ⟨oc, od, d, sl⟩) (h : isTupV oc d xs = true) : SqT K H a xs := by
  unfold isTupV at h
  split at h
  · simp only [Bool.and_eq_true, beq_iff_eq, decide_eq_true_eq] at h
    obtain ⟨⟨h1, h2⟩, h3⟩ := h
    subst h1
    exact .inr ⟨_, _, _, l, rfl, rfl, Nat.le_trans h2 (by decide), vals_of_abs h3⟩
  · cases h

/-! ### counts -/
abbrev sCount : Stmt := top 1
def isCount : V → Bool
  | .int i => decide (0 ≤ i)
  | _ => false
structure MTxt (K : PySem.W.Frag) (mg : Str → Option Value) : Prop where
  isi : mg "isinstance" = none
  int : mg "int" = none
  bool : mg "bool" = none
def spCount : Sp := fun vs H Q _ => ∃ (v : V) (n : String), vs = [v] ∧ Kd H v n ∧ Q (.bl (isCount v)) H
section
variable {P : Program} {w : World} {K : PySem.W.Frag} {mg : Str → Option Value} {base : Heap}
theorem scCount : FnScope ["value"] ["value"] (defScope sCount) := ⟨rfl, rfl, rfl, by decide +kernel, rfl, by decide +kernel, by decide +kernel⟩
theorem ok_count {f : Addr} {fd : FuncData} (F : Fun K "is_count" "is_count" sCount f fd) (T : MTxt K mg) : FnOk P w K mg base CX0 1 f fd ["value"] spCount := by
  refine F.ok scCount (fun vs H Q E h => ?_) (fun cdv A outer s H vs Q E hr h => ?_)
  · obtain ⟨v, n, rfl, _⟩ := h
    rfl
  · obtain ⟨v, n, rfl, hk, k⟩ := h
    refine ⟨_, pss_one (ps_ret (pe_and (pe_callB call_isi (by rfl) T.isi (by decide +kernel) (pa_cons (pv 0) (pa_cons (pe_bltn (v := .ty "int") (by rfl) T.int (by decide +kernel) rfl) pa_nil)))
      (pe_and (pe_not (pe_callB call_isi (by rfl) T.isi (by decide +kernel) (pa_cons (pv 0) (pa_cons (pe_bltn (v := .ty "bool") (by rfl) T.bool (by decide +kernel) rfl) pa_nil)))) (pe_one (pe_cmpR op_ge (pv 0) pe_int (nomark _)))))), ?_⟩
    have ty : TyX K H v (.type n) := hk.ty
    cases hk with
    | int i => exact ⟨_, rfl, _, _, _, _, true, rfl, .ty _, ty, kit_ty (by decide +kernel), _, rfl, iteT ⟨_, rfl, _, _, _, _, false, rfl, .ty _, ty, kit_ty (by decide +kernel), _, rfl, _, rfl, iteT ⟨_, rfl, _, _, rfl, rfl, k⟩⟩⟩
    | bl b => exact ⟨_, rfl, _, _, _, _, true, rfl, .ty _, ty, kit_ty (by decide +kernel), _, rfl, iteT ⟨_, rfl, _, _, _, _, true, rfl, .ty _, ty, kit_ty (by decide +kernel), _, rfl, _, rfl, iteF k⟩⟩
    | non => exact ⟨_, rfl, _, _, _, _, false, rfl, .ty _, ty, kit_ty (by decide +kernel), _, rfl, iteF k⟩
    | str z hz => exact ⟨_, rfl, _, _, _, _, false, rfl, .ty _, ty, kit_ty (by decide +kernel), _, rfl, iteF k⟩
    | lst e => exact ⟨_, rfl, _, _, _, _, false, rfl, .ty _, ty, kit_ty (by decide +kernel), _, rfl, iteF k⟩
    | tup e => exact ⟨_, rfl, _, _, _, _, false, rfl, .ty _, ty, kit_ty (by decide +kernel), _, rfl, iteF k⟩
    | dK e => exact ⟨_, rfl, _, _, _, _, false, rfl, .ty _, ty, kit_ty (by decide +kernel), _, rfl, iteF k⟩
end
/-! ### == and != by an own __eq__ -/
section
variable {prog : Program} {w : World} {A : Around} {E : Value → Shared → Prop} {s : Shared} {K : PySem.W.Frag} {x C f : Addr} {ox : Obj} {od : Option Obj} {name : Str} {y : Addr}
/-- x.name(..), the name's def a built-in slot -/
theorem ifBound_B {M : Model} {B : String} {id : String} {args : List Value} {Q : Option Value → Shared → Prop} (X : K.In s.heap) (I : PySem.W.InstAt s.heap x ox C od) (hs : PySem.W.findIn K (.ref C) name = some (some (.builtin id))) (S : Slot B name id)
    (h : wpAny M A (call (.builtin id) (.ref x :: args)) (fun v => Q (some v)) E s) : wpAny M A (callSpecialIfBound? (.ref x) name args) Q E s := by
  simp only [callSpecialIfBound?, bindSpecialIfBound?]
  refine wpAny_holding (wpAny_bind (wpAny_bind (wpAny_bind (I.type.here ((PySem.W.looks_findIn X hs).here ?_)))))
  simp only [S.bind]
  refine wpAny_bind (wpAny_askSetting (wpAny_ite ?_))
  have fin : wpAny M A (call (.builtin id) ([.ref x] ++ args) >>= fun v => pure (some v)) Q E s :=
    wpAny_bind (wpAny_mono h (fun v s' h' => wpAny_pure h') fun _ _ h' => h')
  split
  · exact wpAny_bind (wpAny_pure (wpAny_pure fin))
  · exact wpAny_tryCatch (wpAny_bind (wpAny_pure (wpAny_pure fin)))
theorem objNe_K {Q : Fin → Shared → Prop} (hu : A.units < cLine) (X : K.In s.heap) (I : PySem.W.InstAt s.heap x ox C od) (hs : PySem.W.findIn K (.ref C) "__eq__" = some (some (.ref f))) (hf : PySem.W.isFn K (.ref f) = true)
    (hcall : wpAny (model prog w) A (call (.ref f) [.ref x, .ref y]) (fun v s' => ∃ b, v = .bool b ∧ Q (.done (.ret (.bool (!b)))) s') E s) :
    wpAny (model prog w) A (Builtin.«object.__ne__» ⟨[.ref x, .ref y], []⟩) Q E s := by
  unfold Builtin.«object.__ne__»
  repeat (first
    | with_reducible refine wpAny_cRoomFor hu ?_
    | (refine wpAny_bind (m := callSpecialIfBound? (.ref x) (Str.ofString "__eq__") [.ref y])
        (PySem.W.ifBound_K X I hs hf (wpAny_mono hcall (fun r s' hr => by
          obtain ⟨b, rfl, hq⟩ := hr
          repeat (first | exact hq | exact wpAny_pure hq | exact wpAny_truthy_bool hq | (refine wpAny_bind (m := truthy (.bool _)) (wpAny_truthy_bool ?_)) | wp_step)) fun _ _ e => e)))
    | wp_step)
/-- the class, as != asks of it -/
structure NeC (K : PySem.W.Frag) (C : Addr) : Prop where
  ne : PySem.W.findIn K (.ref C) "__ne__" = some (some (.builtin "object.__ne__"))
  cls : ∃ nm q N bs hdct sn sub ab col dd k0 k1 k2 k3 k5 newId, K.lookup C = some (excClassObj nm q C N bs [.type "object"] hdct sn sub ab col dd k0 k1 k2 k3 k5 newId)
theorem richNe_K {oy : Obj} {Q : Value → Shared → Prop} (hu : A.units + 1 < cLine) (X : K.In s.heap) (T : NeC K C) (I : PySem.W.InstAt s.heap x ox C od) (hy : s.heap.get? y = some oy) (hyc : oy.cls = .ref C)
    (hs : PySem.W.findIn K (.ref C) "__eq__" = some (some (.ref f))) (hf : PySem.W.isFn K (.ref f) = true)
    (hcall : wpAny (model prog w) A.in1 (call (.ref f) [.ref x, .ref y]) (fun v s' => ∃ b, v = .bool b ∧ Q (.bool (!b)) s') E s) :
    wpAny (model prog w) A (richCompare .NotEq (.ref x) (.ref y)) Q E s := by
  obtain ⟨nm, q, N, bs, hdct, sn, sub, ab, col, dd, k0, k1, k2, k3, k5, newId, hC⟩ := T.cls
  have hx := I.at_
  have hc := I.cls
  have one : wpAny (model prog w) A (tryCompare (.ref x) "__ne__" (.ref y)) (fun r s' => ∃ v, r = some v ∧ Q v s') E s := by
    simp only [tryCompare]
    refine wpAny_bind (ifBound_B X I T.ne PySem.F.cmp_object.ne (wpAny_call (codeAny_call_builtin PySem.F.cmp_object.ne.plain PySem.F.cmpEntry_ne
      (wpAny_check_slot_inst (h := s.heap) (g := s.gens) (d := s.drawn) (t := s.toks) (os := s.os) PySem.F.cmpKind_ne PySem.F.cmpSplit_ne (PySem.F.cmpArgs_ne _ _) PySem.F.cmp_object.hasObject hx hc (X _ _ hC)
        (objNe_K (A := A.in1) hu X I hs hf (wpAny_mono hcall (fun v s' hv => ?_) fun _ _ e => e))))))
    obtain ⟨b, rfl, hq⟩ := hv
    first | exact ⟨b, rfl, _, rfl, hq⟩ | exact ⟨b, rfl, wpAny_pure ⟨_, rfl, hq⟩⟩ | exact ⟨b, rfl, wpAny_pure (wpAny_pure ⟨_, rfl, hq⟩)⟩
  unfold richCompare
  simp only [oneThing_ref]
  refine wpAny_holding ?_
  refine wpAny_bind (wpAny_cRoomFor (Nat.lt_of_succ_lt hu) ?_)
  rw [cmpInfo_NotEq]
  dsimp only
  refine wpAny_bind (wpAny_typeOf_ref hx ?_)
  rw [hc]
  refine wpAny_bind (wpAny_typeOf_ref hy ?_)
  rw [hyc]
  rw [show (Value.ref C != Value.ref C) = false from by simp]
  simp only [Bool.false_eq_true, if_false]
  refine wpAny_bind (wpAny_pure ?_)
  simp only [Bool.false_eq_true, if_false]
  refine wpAny_bind (wpAny_mono one (fun r s' hv => ?_) fun _ _ e => e)
  obtain ⟨b, rfl, hq⟩ := hv
  first | exact wpAny_pure hq | exact wpAny_pure (wpAny_pure hq)
end
/-- a value's kind, as == asks: an instance of the class, a text, a tuple -/
inductive EqR (H : Hp) (C : Addr) : V → Prop where
  | ins {b dy : Addr} {gs : List (Str × V)} (e : H b = some (.ins C dy gs)) : EqR H C (.ref b)
  | str (z : Str) : EqR H C (.str z)
  | tup {b : Addr} {xs : List V} (e : H b = some (.tup xs)) : EqR H C (.ref b)
/-- the class, as == asks of it -/
structure EqC (K : PySem.W.Frag) (C f : Addr) : Prop where
  eq : PySem.W.findIn K (.ref C) "__eq__" = some (some (.ref f))
  fn : PySem.W.isFn K (.ref f) = true
  n1 : PySem.W.notFirst K C (.ref C) = true
  n2 : PySem.W.notFirst K C (.type "str") = true
  n3 : PySem.W.notFirst K C (.type "tuple") = true
def rEqO (C : Addr) (sp : Sp) (E : XK) : R2 := fun x y H Q => ∃ a dx fs, x = .ref a ∧ H a = some (.ins C dx fs) ∧ EqR H C y ∧ sp [x, y] H Q E
def rNeO (C : Addr) (sp : Sp) (E : XK) : R2 := fun x y H Q => ∃ a dx fs b dy gs, x = .ref a ∧ y = .ref b ∧ H a = some (.ins C dx fs) ∧ H b = some (.ins C dy gs) ∧ sp [x, y] H (fun z H' => ∃ k, z = .bl k ∧ Q (.bl (!k)) H') E
section
variable {X : Cx} {CX : CXT} {n : Nat} {f C : Addr} {fd : FuncData} {ps : List Str} {sp : Sp} {E : XK}
theorem op_eqO (F : FnOk X.prog X.w X.K X.mg X.base CX n f fd ps sp) (T : EqC X.K C f) (hb : Binds X.K fd ps []) (hr : Room n X.A) (hx : Passes CX X E) : OpR X (compareOp .Eq) (rEqO C sp E) := by
  intro pins s σ H x y v u Q I rx ry h
  obtain ⟨a, dx, fs, rfl, ha, hy, hsp⟩ := h
  cases rx
  obtain ⟨mA, J, _⟩ := ins_get I.hok ha
  obtain ⟨od, J, _⟩ := J.look
  obtain ⟨m, hF⟩ := I.fr
  have hl := F.len _ _ _ _ hsp
  have run : wpAny (model X.prog X.w) X.A (call (.ref f) [.ref a, u]) (PySem.W.CmpBack (EP X pins σ Q)) X.xe s := by
    have r2 : Vals [V.ref a, y] [Value.ref a, u] := .cons rfl (.cons ry .nil)
    refine wpAny_call (codeAny_mono (F.run X.A X.stack s H ⟨[.ref a, u], []⟩ [.ref a, u] [.ref a, y] Q E hr I.env0 (by
      have := hb s [.ref a, u] I.kIn (by simpa using hl)
      simpa using this) r2 hsp) fun r s' hq => ?_)
    cases r with
    | error e => exact hx pins σ H s e s' I hq
    | ok fl =>
      cases fl with
      | ret w =>
        obtain ⟨z, H', I', rz, qz⟩ := I.after hq
        exact SlX.cmpback rz ⟨z, H', I', rz, qz⟩
      | next => exact False.elim hq
      | brk => exact False.elim hq
      | cont => exact False.elim hq
  show wpAny (model X.prog X.w) X.A (richCompare .Eq (.ref a) u) (EP X pins σ Q) X.xe s
  cases hy with
  | ins e =>
    cases ry
    obtain ⟨mB, J', _⟩ := ins_get I.hok e
    obtain ⟨od', J', _⟩ := J'.look
    exact PySem.W.cmp_K (op := .Eq) (tb := .ref C) hr.units0 hF I.ok.mod.kin J J'.type T.n1 T.eq T.fn run
  | str z =>
    obtain ⟨t, rfl⟩ := ry
    exact PySem.W.cmp_K (op := .Eq) (tb := .type "str") hr.units0 hF I.ok.mod.kin J (PySem.W.kitx_str.ty _ _ I.kIn True.intro) T.n2 T.eq T.fn run
  | tup e =>
    cases ry
    obtain ⟨its, r, ⟨o, ho, hc, n, hd⟩, hs⟩ := I.tuple (X := X) (.inl (.inl e))
    exact PySem.W.cmp_K (op := .Eq) (tb := .type "tuple") hr.units0 hF I.ok.mod.kin J (PySem.W.kitx_tuple.ty _ _ I.kIn ⟨_, ho, hc⟩) T.n3 T.eq T.fn run
theorem op_neO (F : FnOk X.prog X.w X.K X.mg X.base CX n f fd ps sp) (T : EqC X.K C f) (N : NeC X.K C) (hb : Binds X.K fd ps []) (hr : Room (n + 1) X.A) (hx : Passes CX X E) : OpR X (compareOp .NotEq) (rNeO C sp E) := by
  intro pins s σ H x y v u Q I rx ry h
  obtain ⟨a, dx, fs, b, dy, gs, rfl, rfl, ha, hbb, hsp⟩ := h
  cases rx
  cases ry
  obtain ⟨mA, J, _⟩ := ins_get I.hok ha
  obtain ⟨od, J, _⟩ := J.look
  obtain ⟨mB, J', _⟩ := ins_get I.hok hbb
  obtain ⟨od', J', _⟩ := J'.look
  have hl := F.len _ _ _ _ hsp
  show wpAny (model X.prog X.w) X.A (richCompare .NotEq (.ref a) (.ref b)) (EP X pins σ Q) X.xe s
  refine richNe_K (by have := hr.un; omega) I.kIn N J J'.at_ J'.cls T.eq T.fn ?_
  have r2 : Vals [V.ref a, V.ref b] [Value.ref a, Value.ref b] := .cons rfl (.cons rfl .nil)
  refine wpAny_call (codeAny_mono (F.run X.A.in1 X.stack s H ⟨[.ref a, .ref b], []⟩ [.ref a, .ref b] [.ref a, .ref b] _ E hr.in1 I.env0.in1 (by
    have := hb s [.ref a, .ref b] I.kIn (by simpa using hl)
    simpa using this) r2 hsp) fun r s' hq => ?_)
  cases r with
  | error e => exact hx pins σ H s e s' I hq
  | ok fl =>
    cases fl with
    | ret w =>
      obtain ⟨z, H', I', rz, k, ez, qz⟩ := I.after hq
      subst ez
      cases rz
      exact ⟨k, rfl, .bl (!k), H', I', rfl, qz⟩
    | next => exact False.elim hq
    | brk => exact False.elim hq
    | cont => exact False.elim hq
end
/-! ### len, item reading and `in` by own methods -/
section
variable {X : Cx} {CX : CXT} {n : Nat} {f C : Addr} {fd : FuncData} {ps : List Str} {sp : Sp} {E : XK} {pins : List (Addr × Obj)} {s : Shared} {σ : L2.St} {H : Hp} {xs : List V} {us : List Value} {Q : VK} {R : Value → Shared → Prop}
theorem run_at0 (F : FnOk X.prog X.w X.K X.mg X.base CX n f fd ps sp) (hb : Binds X.K fd ps []) (hr : Room n X.A) (hx : Passes CX X E) (I : Inv X pins σ H s) (r : Vals xs us) (h : sp xs H Q E)
    (k : ∀ w s' z H', Inv X pins σ H' s' → RelV z w → Q z H' → R w s') : wpAny (model X.prog X.w) X.A (call (.ref f) us) R X.xe s := by
  have hl := F.len _ _ _ _ h
  have hu := r.length
  refine wpAny_call (codeAny_mono (F.run X.A X.stack s H ⟨us, []⟩ us xs Q E hr I.env0 (by
      have := hb s us I.kIn (by first | omega | (simp; omega))
      simpa using this) r h) fun r' s' hq => ?_)
  cases r' with
  | error e => exact hx pins σ H s e s' I hq
  | ok fl =>
    cases fl with
    | ret w =>
      obtain ⟨z, H', I', rz, qz⟩ := I.after hq
      exact k w s' z H' I' rz qz
    | next => exact False.elim hq
    | brk => exact False.elim hq
    | cont => exact False.elim hq
theorem run_in1 (F : FnOk X.prog X.w X.K X.mg X.base CX n f fd ps sp) (hb : Binds X.K fd ps []) (hr : Room (n + 1) X.A) (hx : Passes CX X E) (I : Inv X pins σ H s) (r : Vals xs us) (h : sp xs H Q E)
    (k : ∀ w s' z H', Inv X pins σ H' s' → RelV z w → Q z H' → R w s') : wpAny (model X.prog X.w) X.A.in1 (call (.ref f) us) R X.xe s := by
  have hl := F.len _ _ _ _ h
  have hu := r.length
  refine wpAny_call (codeAny_mono (F.run X.A.in1 X.stack s H ⟨us, []⟩ us xs Q E hr.in1 I.env0.in1 (by
      have := hb s us I.kIn (by first | omega | (simp; omega))
      simpa using this) r h) fun r' s' hq => ?_)
  cases r' with
  | error e => exact hx pins σ H s e s' I hq
  | ok fl =>
    cases fl with
    | ret w =>
      obtain ⟨z, H', I', rz, qz⟩ := I.after hq
      exact k w s' z H' I' rz qz
    | next => exact False.elim hq
    | brk => exact False.elim hq
    | cont => exact False.elim hq
/-- len(o) -/
def rLenO (C : Addr) (sp : Sp) (E : XK) : List V → Hp → VK → Prop := fun xs H Q => ∃ x dx fs, xs = [.ref x] ∧ H x = some (.ins C dx fs) ∧ sp [.ref x] H (fun z H' => ∃ k : Int, z = .int k ∧ 0 ≤ k ∧ k < 2 ^ 63 ∧ Q (.int k) H') E
theorem call_lenO (F : FnOk X.prog X.w X.K X.mg X.base CX n f fd ps sp) (hs : PySem.W.findIn X.K (.ref C) "__len__" = some (some (.ref f))) (hf : PySem.W.isFn X.K (.ref f) = true) (hb : Binds X.K fd ps []) (hr : Room (n + 1) X.A) (hx : Passes CX X E) :
    CallR X (.builtin "len") (rLenO C sp E) := by
  intro pins s σ H xs us Q I r h
  obtain ⟨x, dx, fs, rfl, hX, hsp⟩ := h
  obtain ⟨u, rfl, ru⟩ := vals1 r
  cases ru
  obtain ⟨mA, J, _⟩ := ins_get I.hok hX
  obtain ⟨od, J, _⟩ := J.look
  obtain ⟨m, hF⟩ := I.fr
  refine PySem.W.len_K hF I.ok.mod.kin J hs hf (run_in1 F hb hr hx I (.cons (show RelV (V.ref x) (Value.ref x) from rfl) .nil) hsp fun w s' z H' I' rz q => ?_)
  obtain ⟨k, rfl, h0, h1, q⟩ := q
  obtain ⟨t, rfl⟩ := rz
  exact ⟨⟨h0, h1⟩, .int k, H', I'.tok _, ⟨_, rfl⟩, q⟩
/-- o[i] -/
def rIxO (C : Addr) (sp : Sp) (E : XK) : R2 := fun x y H Q => ∃ a dx fs, x = .ref a ∧ H a = some (.ins C dx fs) ∧ sp [.ref a, y] H Q E
theorem pe_ixO {a b : Expr} {ta tb : TE} {pos : Pos} (F : FnOk X.prog X.w X.K X.mg X.base CX n f fd ps sp) (hs : PySem.W.findIn X.K (.ref C) "__getitem__" = some (some (.ref f))) (hf : PySem.W.fnIn X.K f = true) (hfn : PySem.W.isFn X.K (.ref f) = true) (hb : Binds X.K fd ps [])
    (hr : Room (n + 1) X.A) (hx : Passes CX X E) (ha : PE X a ta) (hi : PE X b tb) (hsl : ∀ o i, subscripted b true (.ref o) i = runValue (.builtin "lifetime.subscript" ⟨[.ref o, i], []⟩)) : PE X (.Subscript a b pos) (tOp (rIxO C sp E) ta tb) := by
  refine ⟨fun pins s σ H Q I h => ?_⟩
  refine Subscript_ (binT ha hi I h fun v u s2 x y H2 I2 rx ry q => ?_)
  obtain ⟨p, dx, fs, rfl, hX, hsp⟩ := q
  cases rx
  obtain ⟨mA, J, _⟩ := ins_get I2.hok hX
  obtain ⟨od, J, _⟩ := J.look
  obtain ⟨m, hF⟩ := I2.fr
  exact PySem.W.sub_K hF I2.ok.mod.kin J hs hf hfn (run_in1 F hb hr hx I2 (.cons (show RelV (V.ref p) (Value.ref p) from rfl) (.cons ry .nil)) hsp fun w s' z H' I' rz q => ⟨z, H', I', rz, q⟩) (hsl _ _)
/-- v in o -/
def rInO (C : Addr) (sp : Sp) (E : XK) : R2 := fun x y H Q => ∃ a dx fs, y = .ref a ∧ H a = some (.ins C dx fs) ∧ sp [.ref a, x] H (fun z H' => ∃ k, z = .bl k ∧ Q (.bl k) H') E
theorem op_inO (F : FnOk X.prog X.w X.K X.mg X.base CX n f fd ps sp) (hs : PySem.W.findIn X.K (.ref C) "__contains__" = some (some (.ref f))) (hfn : PySem.W.isFn X.K (.ref f) = true) (hb : Binds X.K fd ps []) (hr : Room n X.A) (hx : Passes CX X E) : OpR X (compareOp .In) (rInO C sp E) := by
  intro pins s σ H x y v u Q I rx ry h
  obtain ⟨a, dx, fs, rfl, hX, hsp⟩ := h
  cases ry
  obtain ⟨mA, J, _⟩ := ins_get I.hok hX
  obtain ⟨od, J, _⟩ := J.look
  obtain ⟨m, hF⟩ := I.fr
  refine PySem.W.in_K hF I.ok.mod.kin J hs hfn (run_at0 F hb hr hx I (.cons (show RelV (V.ref a) (Value.ref a) from rfl) (.cons rx .nil)) hsp fun w s' z H' I' rz q => ?_)
  obtain ⟨k, rfl, q⟩ := q
  cases rz
  exact wpAny_truthy_bool ⟨.bl k, H', I', rfl, q⟩
end
abbrev sHInit : Stmt := inClass (top 5) 0
/-- self.f = v, self a new exception -/
def spInitE (K : PySem.W.Frag) (f : Str) : Sp := fun vs H Q _ => ∃ (a C : Addr) (v : V), vs = [.ref a, v] ∧ ExvC K C ∧ PySem.W.findIn K (.ref C) f = some none ∧ H a = some (exo a C none) ∧
  ∀ dx, H dx = none → dx ≠ a → Q .non (upd (upd H dx (exd dx [(f, v)])) a (exo a C (some dx)))
section
variable {P : Program} {w : World} {K : PySem.W.Frag} {mg : Str → Option Value} {base : Heap}
theorem scH : FnScope ["self", "value"] ["self", "value"] (defScope sHInit) := ⟨rfl, rfl, rfl, by decide +kernel, rfl, by decide +kernel, by decide +kernel⟩
theorem ok_hinit {f : Addr} {fd : FuncData} (F : Fun K "__init__" "HandleError.__init__" sHInit f fd) : FnOk P w K mg base CX0 1 f fd ["self", "value"] (spInitE K "value") := by
  refine F.ok scH (fun vs H Q E h => ?_) (fun cdv A outer s H vs Q E hr h => ?_)
  · obtain ⟨a, C, v, rfl, _⟩ := h
    rfl
  · obtain ⟨a, C, v, rfl, T, hno, ea, k⟩ := h
    refine ⟨_, pss_one (ps_stx (pv 0) (pv 1)), ?_⟩
    exact ⟨_, rfl, _, rfl, a, C, rfl, T, hno, ea, fun dx n ne => k dx n ne⟩
end

/-! ### the errors that the package raises -/
structure ErrC (K : PySem.W.Frag) (mg : Str → Option Value) (x : Str) (C fI : Addr) : Prop where
  g : mg x = some (.ref C)
  ox : OexC K C
  ev : ExvC K C
  i : PySem.W.findIn K (.ref C) "__init__" = some (some (.ref fI))
  t : PySem.W.typeIn K (.ref fI) = some (.type "function")
  no : PySem.W.findIn K (.ref C) "value" = some none
/-- an error of C with this value is let out -/
def Bad (E : XK) (H : Hp) (C : Addr) (v : V) : Prop := ∀ d H', Same H H' → H' d = some (.xd [("value", v)]) → E (.ref C) (some d) H'
theorem Bad.imp {E : XK} {H H' : Hp} {C : Addr} {v : V} (b : Bad E H C v) (s : Same H H') : Bad E H' C v := fun d H2 s2 e => b d H2 (s.trans s2) e
/-- what is asked ahead of a raise of C(v) -/
theorem raise_ok {K : PySem.W.Frag} {mg : Str → Option Value} {x : Str} {C fI : Addr} {H : Hp} {v : V} {E : XK} (e : ErrC K mg x C fI) (b : Bad E H C v) : ∀ a, H a = none →
    spInitE K "value" (.ref a :: ([v] ++ [])) (upd H a (exo a C none)) (fun u H2 => u = .non ∧ ∃ (d : Addr) (fs : List (Str × V)), H2 a = some (exo a C (some d)) ∧ H2 d = some (exd d fs) ∧ H d = none ∧ E (.ref C) (some d) (upd (del H2 a) d (.xd fs))) (fun _ _ _ => False) := by
  intro a ha
  refine ⟨a, C, v, rfl, e.ev, e.no, upd_same, fun dx n ne => ⟨rfl, dx, _, upd_same, ?_, ?_, b dx _ ?_ upd_same⟩⟩
  · rw [upd_ne ne, upd_same]
  · rw [upd_ne ne] at n
    exact n
  · intro b' u q
    have n1 : b' ≠ a := ne_of_none q ha
    have n2 : b' ≠ dx := fun z => by
      rw [z] at q
      rw [upd_ne ne, q] at n
      cases n
    rw [upd_ne n2, del_ne n1, upd_ne n1, upd_ne n2, upd_ne n1]
    exact q
def SameX (x : Addr) (H H' : Hp) : Prop := ∀ b u, b ≠ x → H b = some u → H' b = some u
/-- o.f, as a def that is called -/
def spGet (K : PySem.W.Frag) (f : Str) : Sp := fun vs H Q _ => ∃ (x C dx : Addr) (fs : List (Str × V)) (v : V), vs = [.ref x] ∧ H x = some (.ins C dx fs) ∧ Cls K C ∧ NoAttr K C f ∧ fs.lookup f = some v ∧ Q v H
theorem intlen {m : Int} (h0 : 0 ≤ m) (h1 : m < 10 ^ 40) : (Str.ofString (toString m)).length ≤ 40 ∧ m.natAbs.log2 < 1920 := by
  refine ⟨numlen h0 h1, ?_⟩
  have h2 : m.natAbs < 2 ^ 140 := by
    have e : (10 : Int) ^ 40 ≤ 2 ^ 140 := by decide
    have e2 : ((2 ^ 140 : Nat) : Int) = (2 : Int) ^ 140 := by decide
    omega
  exact Nat.lt_trans (PySem.Flt.log2_lt_of (by decide) h2) (by decide)
theorem empty_add (z : Str) : Str.empty ++ z = z := by
  cases z with
  | mk a =>
    show Str.mk (#[] ++ a) = Str.mk a
    rw [Array.empty_append]
theorem len_add (a b : Str) : (a ++ b).length = a.length + b.length := by
  cases a with
  | mk a =>
    cases b with
    | mk b =>
      show (a ++ b).size = a.size + b.size
      exact Array.size_append
/-! ### handles -/
abbrev sHdInit : Stmt := inClass (top 20) 0
abbrev sHdNumber : Stmt := inClass (top 20) 1
abbrev sHdTurn : Stmt := inClass (top 20) 2
abbrev sHdEntry : Stmt := inClass (top 20) 3
abbrev sHdText : Stmt := inClass (top 20) 4
abbrev sHdEq : Stmt := inClass (top 20) 5
/-- the class of handles, as its methods ask -/
structure HCls (K : PySem.W.Frag) (mg : Str → Option Value) (C : Addr) : Prop where
  cl : Cls K C
  n1 : NoAttr K C "_number"
  n2 : NoAttr K C "_turn"
  n3 : NoAttr K C "_entry"
  g : mg "Handle" = some (.ref C)
  yes : PySem.W.kitOne K (.ref C) (.ref C) = some true
/-- a handle is made, or the error of the first that is no count -/
def spHandle (K : PySem.W.Frag) (C CB : Addr) : Sp := fun vs H Q E => ∃ (x dx : Addr) (v1 v2 v3 : V) (k1 k2 k3 : String), vs = [.ref x, v1, v2, v3] ∧ H x = some (.ins C dx []) ∧ Kd H v1 k1 ∧ Kd H v2 k2 ∧ Kd H v3 k3 ∧
  (isCount v1 = false → Bad E H CB v1) ∧ (isCount v1 = true → isCount v2 = false → Bad E H CB v2) ∧ (isCount v1 = true → isCount v2 = true → isCount v3 = false → Bad E H CB v3) ∧
  (isCount v1 = true → isCount v2 = true → isCount v3 = true → ∀ H', SameX x H H' → H' x = some (.ins C dx [("_number", v1), ("_turn", v2), ("_entry", v3)]) → Q .non H')
/-- a handle of these numbers -/
def HAt (H : Hp) (C x : Addr) (n t e : Int) : Prop := ∃ dx, H x = some (.ins C dx [("_number", .int n), ("_turn", .int t), ("_entry", .int e)])
theorem HAt.same {H H' : Hp} {C x : Addr} {n t e : Int} (h : HAt H C x n t e) (s : Same H H') : HAt H' C x n t e := by
  obtain ⟨dx, h⟩ := h
  exact ⟨dx, s _ _ h⟩
def hText (n t : Int) : Str := Str.ofString (toString n) ++ Str.ofString "." ++ Str.ofString (toString t)
def spText (K : PySem.W.Frag) (C : Addr) : Sp := fun vs H Q _ => ∃ (x : Addr) (n t e : Int), vs = [.ref x] ∧ HAt H C x n t e ∧ 0 ≤ n ∧ n < 10 ^ 40 ∧ 0 ≤ t ∧ t < 10 ^ 40 ∧ Q (.str (hText n t)) H
def spHEq (K : PySem.W.Frag) (C : Addr) : Sp := fun vs H Q _ => ∃ (x : Addr) (v : V) (n t e : Int), vs = [.ref x, v] ∧ HAt H C x n t e ∧
  ((∃ u, TyX K H v u ∧ PySem.W.kitOne K u (.ref C) = some false ∧ Q (.bl false) H) ∨ ∃ (y : Addr) (n' t' e' : Int), v = .ref y ∧ TyX K H v (.ref C) ∧ HAt H C y n' t' e' ∧ Q (.bl (if n = n' then decide (t = t') else false)) H)
section
variable {P : Program} {w : World} {K : PySem.W.Frag} {mg : Str → Option Value} {base : Heap}
theorem scHd : FnScope ["self", "number", "turn", "entry", "value"] ["self", "number", "turn", "entry"] (defScope sHdInit) := ⟨rfl, rfl, rfl, by decide +kernel, rfl, by decide +kernel, by decide +kernel⟩
theorem ok_handle {f C CB fI fC : Addr} {fd fdI fdC : FuncData} (F : FunD K "__init__" "Handle.__init__" (defArgs sHdInit) (defBody sHdInit) (defScope sHdInit) [.int 0] [("entry", .int 0)] f fd) (T : MTxt K mg) (eB : ErrC K mg "InvalidNumber" CB fI) (S : HCls K mg C)
    (FI : Fun K "__init__" "HandleError.__init__" sHInit fI fdI) (bI : Binds K fdI ["self", "value"] [])
    (FC : Fun K "is_count" "is_count" sCount fC fdC) (bC : Binds K fdC ["value"] []) (gC : mg "is_count" = some (.ref fC)) :
    FnOk P w K mg base (L2.CX P w) 3 f fd ["self", "number", "turn", "entry"] (spHandle K C CB) := by
  have GI : FnOk P w K mg base CX0 1 fI fdI ["self", "value"] (spInitE K "value") := ok_hinit FI
  have GC : FnOk P w K mg base CX0 1 fC fdC ["value"] spCount := ok_count FC T
  refine F.ok scHd (fun vs H Q E h => ?_) (fun cdv A outer s H vs Q E hr h => ?_)
  · obtain ⟨x, dx, v1, v2, v3, k1, k2, k3, rfl, _⟩ := h
    rfl
  · obtain ⟨x, dx, v1, v2, v3, k1, k2, k3, rfl, hx, h1, h2, h3, b1, b2, b3, k⟩ := h
    have hr1 := hr.mono (j := 1) (by decide)
    refine ⟨_, pss_cons (ps_for (passes_of rfl) rfl (pi_tup (pe_tup (pa_cons (pv 1) (pa_cons (pv 2) (pa_cons (pv 3) pa_nil))))) (pg_name (i := 4) scHd.nd rfl (.inl rfl))
        (pss_one (ps_if (pt_not (pt_val (pe_call GC hr1 rfl gC FC.kp bC .nil pass0 (pa_cons (pv 4) pa_nil))))
          (pss_one (ps_raise rfl (takes_of rfl rfl rfl rfl) (pmk_oex eB.ox eB.i eB.t GI hr bI .nil pass0 rfl eB.g (pa_cons (pv 4) pa_nil)))) pss_nil)))
      (pss_cons (ps_fld (pv 0) (pv 1) (by rfl)) (pss_cons (ps_fld (pv 0) (pv 2) (by rfl)) (pss_one (ps_fld (pv 0) (pv 3) (by rfl))))), ?_⟩
    refine ⟨v1, rfl, v2, rfl, v3, rfl, (by show 3 ≤ sizeLine; decide), fun t ht => ?_⟩
    have s1 : Same H (upd H t (.tup [v1, v2, v3])) := Same.new ht
    have kd : ∀ (i : Nat) (y : V), [v1, v2, v3][i]? = some y → ∃ n, Kd H y n := fun i y hy => by
      match i, hy with
      | 0, hy => cases hy; exact ⟨_, h1⟩
      | 1, hy => cases hy; exact ⟨_, h2⟩
      | 2, hy => cases hy; exact ⟨_, h3⟩
    refine ⟨t, rfl, ⟨_, .inl (.inl upd_same)⟩, for_it walk_tup (fun i σ H' => (∃ u4, σ = [some (.ref x), some v1, some v2, some v3, u4]) ∧ Same (upd H t (.tup [v1, v2, v3])) H' ∧ ∀ (j : Nat) (z : V), j < i → [v1, v2, v3][j]? = some z → isCount z = true)
      ⟨⟨_, rfl⟩, Same.refl _, fun j z hj => absurd hj (Nat.not_lt_zero _)⟩ (fun i σ H' _ e => .inl (.inl (e.2.1 _ _ upd_same))) ?_ ?_⟩
    · rintro i y σ H' H'' hi ⟨⟨u4, rfl⟩, s3, ok⟩ ⟨rfl, hy⟩
      obtain ⟨n, ky⟩ := kd i y hy
      refine ⟨y, rfl, y, n, rfl, (ky.same s1).same s3, _, rfl, ?_⟩
      cases hb : isCount y with
      | false =>
        refine iteT ⟨y, rfl, (show 1 ≤ 1000 by decide), raise_ok eB (Bad.imp ?_ (s1.trans s3))⟩
        match i, hy, ok with
        | 0, hy, ok => cases hy; exact b1 hb
        | 1, hy, ok => cases hy; exact b2 (ok 0 _ (by decide) rfl) hb
        | 2, hy, ok => cases hy; exact b3 (ok 0 _ (by decide) rfl) (ok 1 _ (by decide) rfl) hb
      | true =>
        refine iteF ⟨⟨_, rfl⟩, s3, fun j z hj hz => ?_⟩
        rcases Nat.lt_succ_iff_lt_or_eq.mp hj with q | q
        · exact ok j z q hz
        · rw [q, hy] at hz
          cases hz
          exact hb
    · rintro σ H' ⟨⟨u4, rfl⟩, s3, ok⟩
      have s13 := s1.trans s3
      refine ⟨v1, rfl, _, rfl, x, C, dx, [], rfl, s13 _ _ hx, S.cl, S.n1, (by decide), v2, rfl, _, rfl, x, C, dx, _, rfl, upd_same, S.cl, S.n2, (show 1 < 1000 by decide),
        v3, rfl, _, rfl, x, C, dx, _, rfl, upd_same, S.cl, S.n3, (show 2 < 1000 by decide), ?_⟩
      refine k (ok 0 _ (show 0 < 3 by decide) rfl) (ok 1 _ (show 1 < 3 by decide) rfl) (ok 2 _ (show 2 < 3 by decide) rfl) _ (fun b u hb e => ?_) upd_same
      rw [upd_ne hb, upd_ne hb, upd_ne hb]
      exact s13 _ _ e
theorem scHdNumber : FnScope ["self"] ["self"] (defScope sHdNumber) := ⟨rfl, rfl, rfl, by decide +kernel, rfl, by decide +kernel, by decide +kernel⟩
theorem ok_hdNumber {f : Addr} {fd : FuncData} (F : Fun K "number" "Handle.number" sHdNumber f fd) : FnOk P w K mg base CX0 1 f fd ["self"] (spGet K "_number") := by
  refine F.ok scHdNumber (fun vs H Q E h => ?_) (fun cdv A outer s H vs Q E hr h => ?_)
  · obtain ⟨x, _, _, _, _, rfl, _⟩ := h
    rfl
  · obtain ⟨x, C, dx, fs, v, rfl, hx, cl, no, l, k⟩ := h
    exact ⟨_, pss_one (ps_ret (pe_fld (pv 0) (by rfl))), ⟨_, rfl, x, C, dx, fs, v, rfl, hx, cl, no, l, k⟩⟩
theorem scHdTurn : FnScope ["self"] ["self"] (defScope sHdTurn) := ⟨rfl, rfl, rfl, by decide +kernel, rfl, by decide +kernel, by decide +kernel⟩
theorem ok_hdTurn {f : Addr} {fd : FuncData} (F : Fun K "turn" "Handle.turn" sHdTurn f fd) : FnOk P w K mg base CX0 1 f fd ["self"] (spGet K "_turn") := by
  refine F.ok scHdTurn (fun vs H Q E h => ?_) (fun cdv A outer s H vs Q E hr h => ?_)
  · obtain ⟨x, _, _, _, _, rfl, _⟩ := h
    rfl
  · obtain ⟨x, C, dx, fs, v, rfl, hx, cl, no, l, k⟩ := h
    exact ⟨_, pss_one (ps_ret (pe_fld (pv 0) (by rfl))), ⟨_, rfl, x, C, dx, fs, v, rfl, hx, cl, no, l, k⟩⟩
theorem scHdEntry : FnScope ["self"] ["self"] (defScope sHdEntry) := ⟨rfl, rfl, rfl, by decide +kernel, rfl, by decide +kernel, by decide +kernel⟩
theorem ok_hdEntry {f : Addr} {fd : FuncData} (F : Fun K "entry" "Handle.entry" sHdEntry f fd) : FnOk P w K mg base CX0 1 f fd ["self"] (spGet K "_entry") := by
  refine F.ok scHdEntry (fun vs H Q E h => ?_) (fun cdv A outer s H vs Q E hr h => ?_)
  · obtain ⟨x, _, _, _, _, rfl, _⟩ := h
    rfl
  · obtain ⟨x, C, dx, fs, v, rfl, hx, cl, no, l, k⟩ := h
    exact ⟨_, pss_one (ps_ret (pe_fld (pv 0) (by rfl))), ⟨_, rfl, x, C, dx, fs, v, rfl, hx, cl, no, l, k⟩⟩
end
/-! ### indexes, bounds -/
abbrev sIndex : Stmt := top 2
abbrev sBetween : Stmt := top 3
def ltV (v : V) (m : Int) : Bool := match v with
  | .int i => decide (i < m)
  | _ => false
def inB (v : V) (lo hi : Int) : Bool := match v with
  | .int i => decide (lo ≤ i) && decide (i ≤ hi)
  | _ => false
def isIndex (v : V) (m : Int) : Bool := isCount v && ltV v m
def isBetween (v : V) (lo hi : Int) : Bool := isCount v && inB v lo hi
def spIndex : Sp := fun vs H Q _ => ∃ (v : V) (n : String) (m : Int), vs = [v, .int m] ∧ Kd H v n ∧ Q (.bl (isIndex v m)) H
def spBetween : Sp := fun vs H Q _ => ∃ (v : V) (n : String) (lo hi : Int), vs = [v, .int lo, .int hi] ∧ Kd H v n ∧ Q (.bl (isBetween v lo hi)) H
theorem count_int {v : V} (h : isCount v = true) : ∃ i : Int, v = .int i ∧ 0 ≤ i := by
  cases v <;> first | (cases h; done) | exact ⟨_, rfl, of_decide_eq_true h⟩
theorem between_int {v : V} {lo hi : Int} (h : isBetween v lo hi = true) : ∃ i : Int, v = .int i ∧ 0 ≤ i ∧ lo ≤ i ∧ i ≤ hi := by
  obtain ⟨h1, h2⟩ := Bool.and_eq_true_iff.mp h
  obtain ⟨i, rfl, h0⟩ := count_int h1
  obtain ⟨h3, h4⟩ := Bool.and_eq_true_iff.mp h2
  exact ⟨i, rfl, h0, of_decide_eq_true h3, of_decide_eq_true h4⟩
section
variable {P : Program} {w : World} {K : PySem.W.Frag} {mg : Str → Option Value} {base : Heap}
theorem scIndex : FnScope ["value", "many"] ["value", "many"] (defScope sIndex) := ⟨rfl, rfl, rfl, by decide +kernel, rfl, by decide +kernel, by decide +kernel⟩
theorem ok_index {f fC : Addr} {fd fdC : FuncData} (F : Fun K "is_index" "is_index" sIndex f fd) (FC : Fun K "is_count" "is_count" sCount fC fdC) (T : MTxt K mg) (bC : Binds K fdC ["value"] []) (gC : mg "is_count" = some (.ref fC)) :
    FnOk P w K mg base CX0 2 f fd ["value", "many"] spIndex := by
  have GC : FnOk P w K mg base CX0 1 fC fdC ["value"] spCount := ok_count FC T
  refine F.ok scIndex (fun vs H Q E h => ?_) (fun cdv A outer s H vs Q E hr h => ?_)
  · obtain ⟨v, n, m, rfl, _⟩ := h
    rfl
  · obtain ⟨v, n, m, rfl, hk, k⟩ := h
    refine ⟨_, pss_one (ps_ret (pe_and (pe_call GC hr rfl gC FC.kp bC .nil pass0 (pa_cons (pv 0) pa_nil)) (pe_one (pe_cmpR op_lt (pv 0) (pv 1) (nomark _))))), ?_⟩
    refine ⟨_, rfl, v, n, rfl, hk, _, rfl, ?_⟩
    cases e : isCount v with
    | false =>
      refine iteF ?_
      have k' := k
      rw [isIndex, e] at k'
      exact k'
    | true =>
      obtain ⟨i, rfl, _⟩ := count_int e
      have k' := k
      rw [isIndex, e] at k'
      exact iteT ⟨_, rfl, _, rfl, _, _, rfl, rfl, k'⟩
theorem scBetween : FnScope ["value", "least", "most"] ["value", "least", "most"] (defScope sBetween) := ⟨rfl, rfl, rfl, by decide +kernel, rfl, by decide +kernel, by decide +kernel⟩
theorem ok_between {f fC : Addr} {fd fdC : FuncData} (F : Fun K "is_between" "is_between" sBetween f fd) (FC : Fun K "is_count" "is_count" sCount fC fdC) (T : MTxt K mg) (bC : Binds K fdC ["value"] []) (gC : mg "is_count" = some (.ref fC)) :
    FnOk P w K mg base CX0 2 f fd ["value", "least", "most"] spBetween := by
  have GC : FnOk P w K mg base CX0 1 fC fdC ["value"] spCount := ok_count FC T
  refine F.ok scBetween (fun vs H Q E h => ?_) (fun cdv A outer s H vs Q E hr h => ?_)
  · obtain ⟨v, n, lo, hi, rfl, _⟩ := h
    rfl
  · obtain ⟨v, n, lo, hi, rfl, hk, k⟩ := h
    refine ⟨_, pss_one (ps_ret (pe_and (pe_call GC hr rfl gC FC.kp bC .nil pass0 (pa_cons (pv 0) pa_nil)) (pe_one (pe_chain op_le op_le (pv 1) (pv 0) (pv 2))))), ?_⟩
    refine ⟨_, rfl, v, n, rfl, hk, _, rfl, ?_⟩
    cases e : isCount v with
    | false =>
      refine iteF ?_
      have k' := k
      rw [isBetween, e] at k'
      exact k'
    | true =>
      obtain ⟨i, rfl, _⟩ := count_int e
      have k' := k
      rw [isBetween, e] at k'
      refine iteT ⟨_, rfl, _, rfl, _, _, rfl, rfl, _, rfl, ?_⟩
      cases e2 : decide (lo ≤ i) with
      | false =>
        refine iteF ?_
        have k2 : Q (.bl (decide (lo ≤ i) && decide (i ≤ hi))) H := k'
        rw [e2] at k2
        exact k2
      | true =>
        have k2 : Q (.bl (decide (lo ≤ i) && decide (i ≤ hi))) H := k'
        rw [e2] at k2
        exact iteT ⟨_, rfl, _, _, rfl, rfl, k2⟩
end
/-! ### tables -/
abbrev sTbInit : Stmt := inClass (top 25) 0
def booksL : List V := [.str "least", .str "any", .str "next", .str "last"]
def isBook : V → Bool
  | .str z => inV (.str z) booksL
  | _ => false
structure TbCls (K : PySem.W.Frag) (mg : Str → Option Value) (C : Addr) : Prop where
  cl : Cls K C
  n1 : NoAttr K C "_size"
  n2 : NoAttr K C "_book"
  n3 : NoAttr K C "_turns"
  n4 : NoAttr K C "_entries"
  n5 : NoAttr K C "_counts"
  n6 : NoAttr K C "_many_entries"
  n7 : NoAttr K C "_start"
  n8 : NoAttr K C "_freed"
  g : mg "Table" = some (.ref C)
/-- the constants and built-in names of the module -/
structure TbTxt (K : PySem.W.Frag) (mg : Str → Option Value) (aB : Addr) : Prop where
  books : mg "BOOKS" = some (.ref aB)
  booksT : ∀ H, SqT K H aB booksL
  str : mg "str" = none
  numbers : ∃ t, mg "MOST_NUMBERS" = some (.int 60 t)
  turns : ∃ t, mg "MOST_TURNS" = some (.int 4 t)
/-- the fields of a table -/
def tbF (v1 v2 v3 : V) (pe pc : Addr) (many start : Int) (pf : Addr) : List (Str × V) :=
  [("_size", v1), ("_book", v2), ("_turns", v3), ("_entries", .ref pe), ("_counts", .ref pc), ("_many_entries", .int many), ("_start", .int start), ("_freed", .ref pf)]
/-- a table is made, or the error of the first that is wrong -/
def spTable (C CN CB : Addr) : Sp := fun vs H Q E => ∃ (x dx : Addr) (v1 v2 v3 : V) (k1 k2 k3 : String), vs = [.ref x, v1, v2, v3] ∧ H x = some (.ins C dx []) ∧ Kd H v1 k1 ∧ Kd H v2 k2 ∧ Kd H v3 k3 ∧
  (isBetween v1 1 60 = false → Bad E H CN v1) ∧ (isBetween v1 1 60 = true → isBook v2 = false → Bad E H CB v2) ∧ (isBetween v1 1 60 = true → isBook v2 = true → isBetween v3 1 4 = false → Bad E H CN v3) ∧
  (isBetween v1 1 60 = true → isBook v2 = true → isBetween v3 1 4 = true → ∀ (H' : Hp) (n : Int) (pe pc pf : Addr), v1 = .int n → SameX x H H' → H' x = some (.ins C dx (tbF v1 v2 v3 pe pc 0 0 pf)) → H' pe = some (.lst (List.replicate n.toNat .non)) →
    H' pc = some (.lst (List.replicate n.toNat (.int 0))) → H' pf = some (.lst []) → H pe = none → H pc = none → H pf = none → pe ≠ pc → pe ≠ pf → pc ≠ pf → Q .non H')
theorem rep_one (v : V) (k : Nat) : (List.replicate k [v]).flatten = List.replicate k v := by
  induction k with
  | zero => rfl
  | succ k ih => rw [List.replicate_succ, List.flatten_cons, ih, List.replicate_succ]; rfl
theorem SameX.put {x : Addr} {H H' : Hp} (s : SameX x H H') (o : HO) : SameX x H (upd H' x o) := fun b u nb e => by
  rw [upd_ne nb]
  exact s b u nb e
theorem SameX.new {x a : Addr} {H H' : Hp} {o : HO} (s : SameX x H H') (h : H' a = none) : SameX x H (upd H' a o) := fun b u nb e => by
  rw [upd_ne (ne_of_none (s b u nb e) h)]
  exact s b u nb e
theorem SameX.none {x a : Addr} {H H' : Hp} {o : HO} (s : SameX x H H') (hx : H' x = some o) (h : H' a = none) : H a = none := by
  cases e : H a with
  | none => rfl
  | some u =>
    have n : a ≠ x := fun z => by rw [z, hx] at h; cases h
    rw [s a u n e] at h
    cases h
section
variable {P : Program} {w : World} {K : PySem.W.Frag} {mg : Str → Option Value} {base : Heap}
theorem scTb : FnScope ["self", "size", "book", "turns"] ["self", "size", "book", "turns"] (defScope sTbInit) := ⟨rfl, rfl, rfl, by decide +kernel, rfl, by decide +kernel, by decide +kernel⟩
theorem ok_table {f C CN CB aB fI fB : Addr} {fd fdI fdB : FuncData} (F : FunD K "__init__" "Table.__init__" (defArgs sTbInit) (defBody sTbInit) (defScope sTbInit) [] [("book", .str "least"), ("turns", .int 1)] f fd) (T : MTxt K mg) (S : TbCls K mg C) (U : TbTxt K mg aB)
    (eN : ErrC K mg "InvalidNumber" CN fI) (eK : ErrC K mg "InvalidBook" CB fI) (FI : Fun K "__init__" "HandleError.__init__" sHInit fI fdI) (bI : Binds K fdI ["self", "value"] [])
    (FB : Fun K "is_between" "is_between" sBetween fB fdB) (bB : Binds K fdB ["value", "least", "most"] []) (gB : mg "is_between" = some (.ref fB)) (GB : FnOk P w K mg base CX0 2 fB fdB ["value", "least", "most"] spBetween) :
    FnOk P w K mg base (L2.CX P w) 3 f fd ["self", "size", "book", "turns"] (spTable C CN CB) := by
  have GI : FnOk P w K mg base CX0 1 fI fdI ["self", "value"] (spInitE K "value") := ok_hinit FI
  refine F.ok scTb (fun vs H Q E h => ?_) (fun cdv A outer s H vs Q E hr h => ?_)
  · obtain ⟨x, dx, v1, v2, v3, k1, k2, k3, rfl, _⟩ := h
    rfl
  · obtain ⟨x, dx, v1, v2, v3, k1, k2, k3, rfl, hx, h1, h2, h3, b1, b2, b3, k⟩ := h
    obtain ⟨t60, m60⟩ := U.numbers
    obtain ⟨t4, m4⟩ := U.turns
    refine ⟨_, (pss_cons (ps_if (pt_not (pt_val (pe_call GB hr rfl gB FB.kp bB .nil pass0 (pa_cons (pv 1) (pa_cons pe_int (pa_cons (pe_glob (v := .int 60) rfl m60 ⟨_, rfl⟩) pa_nil))))))
        (pss_one (ps_raise rfl (takes_of rfl rfl rfl rfl) (pmk_oex eN.ox eN.i eN.t GI (hr.mono (by decide)) bI .nil pass0 rfl eN.g (pa_cons (pv 1) pa_nil)))) pss_nil)
      (pss_cons (ps_if (PW.pt (pw_or (pt_not (pt_val (pe_callB call_isi (by rfl) T.isi (by decide +kernel) (pa_cons (pv 2) (pa_cons (pe_bltn (v := .ty "str") (by rfl) U.str (by decide +kernel) rfl) pa_nil))))) (pw_or1 (pt_cmpR op_notIn_seq (pv 2) (pe_glob (v := .ref aB) rfl U.books rfl) (by rfl)))))
        (pss_one (ps_raise rfl (takes_of rfl rfl rfl rfl) (pmk_oex eK.ox eK.i eK.t GI (hr.mono (by decide)) bI .nil pass0 rfl eK.g (pa_cons (pv 2) pa_nil)))) pss_nil)
      (pss_cons (ps_if (pt_not (pt_val (pe_call GB hr rfl gB FB.kp bB .nil pass0 (pa_cons (pv 3) (pa_cons pe_int (pa_cons (pe_glob (v := .int 4) rfl m4 ⟨_, rfl⟩) pa_nil))))))
        (pss_one (ps_raise rfl (takes_of rfl rfl rfl rfl) (pmk_oex eN.ox eN.i eN.t GI (hr.mono (by decide)) bI .nil pass0 rfl eN.g (pa_cons (pv 3) pa_nil)))) pss_nil)
      (pss_cons (ps_fld (pv 0) (pv 1) (by rfl)) (pss_cons (ps_fld (pv 0) (pv 2) (by rfl)) (pss_cons (ps_fld (pv 0) (pv 3) (by rfl))
      (pss_cons (ps_fld (pv 0) (pe_op op_rep (pe_lst (pa_cons pe_non pa_nil)) (pv 1)) (by rfl)) (pss_cons (ps_fld (pv 0) (pe_op op_rep (pe_lst (pa_cons pe_int pa_nil)) (pv 1)) (by rfl))
      (pss_cons (ps_fld (pv 0) pe_int (by rfl)) (pss_cons (ps_fld (pv 0) pe_int (by rfl)) (pss_one (ps_fld (pv 0) (pe_lst pa_nil) (by rfl))))))))))))), ?_⟩
    refine ⟨v1, rfl, v1, _, _, _, rfl, h1, _, rfl, ?_⟩
    cases e1 : isBetween v1 1 60 with
    | false => exact iteT ⟨v1, rfl, (show 1 ≤ 1000 by decide), raise_ok eN (b1 e1)⟩
    | true =>
    refine iteF ?_
    obtain ⟨n, rfl, n0, n1, n60⟩ := between_int e1
    have two : isBook v2 = false → Bad E H CB v2 := b2 e1
    -- a later bound
    have rest : isBook v2 = true → ∃ z, v2 = .str z := fun q => by
      cases v2 <;> first | exact ⟨_, rfl⟩ | cases q
    have noBook : isBook v2 = false → Bad E H CB v2 := two
    cases hB : isBook v2 with
    | false =>
      have ty := h2.ty (K := K)
      have ra : ∀ a, H a = none → _ := raise_ok eK (noBook hB)
      cases h2 with
      | str z hz => 
        have hB' : inV (.str z) booksL = false := hB
        refine ⟨_, rfl, _, _, _, _, true, rfl, .ty _, ty, kit_ty (by decide +kernel), _, rfl, iteF ⟨_, rfl, aB, booksL, rfl, .inr (U.booksT H), rfl, rfl, _, rfl, ?_⟩⟩
        rw [hB']
        refine iteT ?_
        exact ⟨_, rfl, (show 1 ≤ 1000 by decide), ra⟩
      | _ => exact ⟨_, rfl, _, _, _, _, false, rfl, .ty _, ty, kit_ty (by decide +kernel), _, rfl, iteT (iteT ⟨_, rfl, (show 1 ≤ 1000 by decide), ra⟩)⟩
    | true =>
    obtain ⟨z, rfl⟩ := rest hB
    have hB' : inV (.str z) booksL = true := hB
    obtain rfl : k2 = "str" := by cases h2; rfl
    have ty := h2.ty (K := K)
    refine ⟨_, rfl, _, _, _, _, true, rfl, .ty _, ty, kit_ty (by decide +kernel), _, rfl, iteF ⟨_, rfl, aB, booksL, rfl, .inr (U.booksT H), rfl, rfl, _, rfl, ?_⟩⟩
    rw [hB']
    refine iteF ?_
    refine ⟨v3, rfl, v3, _, _, _, rfl, h3, _, rfl, ?_⟩
    cases e3 : isBetween v3 1 4 with
    | false => exact iteT ⟨v3, rfl, (show 1 ≤ 1000 by decide), raise_ok eN (b3 e1 hB e3)⟩
    | true =>
    refine iteF ?_
    obtain ⟨m, rfl, m0, m1, m4⟩ := between_int e3
    refine ⟨.int n, rfl, _, rfl, x, C, dx, [], rfl, hx, S.cl, S.n1, (by decide), .str z, rfl, _, rfl, x, C, dx, _, rfl, upd_same, S.cl, S.n2, (show 1 < 1000 by decide), .int m, rfl, _, rfl, x, C, dx, _, rfl, upd_same, S.cl, S.n3, (show 2 < 1000 by decide), ?_⟩
    have s3 : SameX x H (upd (upd (upd H x (.ins C dx (putF "_size" (.int n) []))) x (.ins C dx (putF "_book" (.str z) (putF "_size" (.int n) [])))) x (.ins C dx (putF "_turns" (.int m) (putF "_book" (.str z) (putF "_size" (.int n) []))))) := ((SameX.put (SameX.put (fun _ _ _ e => e) _) _).put _)
    have x3 : (upd (upd (upd H x (.ins C dx (putF "_size" (.int n) []))) x (.ins C dx (putF "_book" (.str z) (putF "_size" (.int n) [])))) x (.ins C dx (putF "_turns" (.int m) (putF "_book" (.str z) (putF "_size" (.int n) []))))) x = some (.ins C dx [("_size", .int n), ("_book", .str z), ("_turns", .int m)]) := upd_same
    generalize upd (upd (upd H x (.ins C dx (putF "_size" (.int n) []))) x (.ins C dx (putF "_book" (.str z) (putF "_size" (.int n) [])))) x (.ins C dx (putF "_turns" (.int m) (putF "_book" (.str z) (putF "_size" (.int n) [])))) = G3 at s3 x3 ⊢
    have rl : ∀ v : V, [v].length * n.toNat ≤ sizeLine := fun v => Nat.le_trans (show 1 * n.toNat ≤ 60 by omega) (by decide)
    have lo63 : -(2 ^ 63) ≤ n := by omega
    have hi63 : n < 2 ^ 63 := by omega
    refine ⟨(by show 1 ≤ sizeLine; decide), fun l hl => ⟨_, rfl, l, n, [.non], rfl, rfl, upd_same, lo63, hi63, rl _, fun p hp => ?_⟩⟩
    rw [rep_one]
    have s4 := s3.new (o := .lst [.non]) hl
    have x4 : (upd G3 l (.lst [.non])) x = _ := (upd_ne (ne_of_none x3 hl)).trans x3
    have hp0 := s4.none x4 hp
    have s5 := s4.new (o := .lst (List.replicate n.toNat .non)) hp
    have x5 : (upd (upd G3 l (.lst [.non])) p (.lst (List.replicate n.toNat .non))) x = _ := (upd_ne (ne_of_none x4 hp)).trans x4
    have p5 : (upd (upd G3 l (.lst [.non])) p (.lst (List.replicate n.toNat .non))) p = _ := upd_same
    have px : p ≠ x := fun q => by rw [q, x4] at hp; cases hp
    generalize upd (upd G3 l (.lst [.non])) p (.lst (List.replicate n.toNat .non)) = G5 at s5 x5 p5 ⊢
    clear s4 x4 hp hl l
    refine ⟨_, rfl, x, C, dx, _, rfl, x5, S.cl, S.n4, (show 3 < 1000 by decide), ?_⟩
    have s6 := s5.put (.ins C dx (putF "_entries" (.ref p) [("_size", .int n), ("_book", .str z), ("_turns", .int m)]))
    have x6 : (upd G5 x (.ins C dx (putF "_entries" (.ref p) [("_size", .int n), ("_book", .str z), ("_turns", .int m)]))) x = some (.ins C dx [("_size", .int n), ("_book", .str z), ("_turns", .int m), ("_entries", .ref p)]) := upd_same
    have p6 : (upd G5 x (.ins C dx (putF "_entries" (.ref p) [("_size", .int n), ("_book", .str z), ("_turns", .int m)]))) p = _ := (upd_ne px).trans p5
    generalize upd G5 x (.ins C dx (putF "_entries" (.ref p) [("_size", .int n), ("_book", .str z), ("_turns", .int m)])) = G6 at s6 x6 p6 ⊢
    clear s5 x5 p5
    refine ⟨(by show 1 ≤ sizeLine; decide), fun l hl => ⟨_, rfl, l, n, [.int 0], rfl, rfl, upd_same, lo63, hi63, rl _, fun c hc => ?_⟩⟩
    rw [rep_one]
    have s7 := s6.new (o := .lst [.int 0]) hl
    have x7 : (upd G6 l (.lst [.int 0])) x = _ := (upd_ne (ne_of_none x6 hl)).trans x6
    have p7 : (upd G6 l (.lst [.int 0])) p = _ := (upd_ne (ne_of_none p6 hl)).trans p6
    have hc0 := s7.none x7 hc
    have s8 := s7.new (o := .lst (List.replicate n.toNat (.int 0))) hc
    have x8 : (upd (upd G6 l (.lst [.int 0])) c (.lst (List.replicate n.toNat (.int 0)))) x = _ := (upd_ne (ne_of_none x7 hc)).trans x7
    have p8 : (upd (upd G6 l (.lst [.int 0])) c (.lst (List.replicate n.toNat (.int 0)))) p = _ := (upd_ne (ne_of_none p7 hc)).trans p7
    have c8 : (upd (upd G6 l (.lst [.int 0])) c (.lst (List.replicate n.toNat (.int 0)))) c = _ := upd_same
    have cx : c ≠ x := fun q => by rw [q, x7] at hc; cases hc
    have pcn : p ≠ c := ne_of_none p7 hc
    generalize upd (upd G6 l (.lst [.int 0])) c (.lst (List.replicate n.toNat (.int 0))) = G8 at s8 x8 p8 c8 ⊢
    clear s7 x7 p7 hc hl l s6 x6 p6
    refine ⟨_, rfl, x, C, dx, _, rfl, x8, S.cl, S.n5, (show 4 < 1000 by decide), _, rfl, x, C, dx, _, rfl, upd_same, S.cl, S.n6, (show 5 < 1000 by decide), _, rfl, x, C, dx, _, rfl, upd_same, S.cl, S.n7, (show 6 < 1000 by decide), ?_⟩
    have s9 : SameX x H (upd (upd (upd G8 x (.ins C dx (putF "_counts" (.ref c) [("_size", .int n), ("_book", .str z), ("_turns", .int m), ("_entries", .ref p)]))) x (.ins C dx (putF "_many_entries" (.int 0) (putF "_counts" (.ref c) [("_size", .int n), ("_book", .str z), ("_turns", .int m), ("_entries", .ref p)])))) x (.ins C dx (putF "_start" (.int 0) (putF "_many_entries" (.int 0) (putF "_counts" (.ref c) [("_size", .int n), ("_book", .str z), ("_turns", .int m), ("_entries", .ref p)]))))) := (((s8.put _).put _).put _)
    have x9 : (upd (upd (upd G8 x (.ins C dx (putF "_counts" (.ref c) [("_size", .int n), ("_book", .str z), ("_turns", .int m), ("_entries", .ref p)]))) x (.ins C dx (putF "_many_entries" (.int 0) (putF "_counts" (.ref c) [("_size", .int n), ("_book", .str z), ("_turns", .int m), ("_entries", .ref p)])))) x (.ins C dx (putF "_start" (.int 0) (putF "_many_entries" (.int 0) (putF "_counts" (.ref c) [("_size", .int n), ("_book", .str z), ("_turns", .int m), ("_entries", .ref p)]))))) x = some (.ins C dx [("_size", .int n), ("_book", .str z), ("_turns", .int m), ("_entries", .ref p), ("_counts", .ref c), ("_many_entries", .int 0), ("_start", .int 0)]) := upd_same
    have p9 : (upd (upd (upd G8 x (.ins C dx (putF "_counts" (.ref c) [("_size", .int n), ("_book", .str z), ("_turns", .int m), ("_entries", .ref p)]))) x (.ins C dx (putF "_many_entries" (.int 0) (putF "_counts" (.ref c) [("_size", .int n), ("_book", .str z), ("_turns", .int m), ("_entries", .ref p)])))) x (.ins C dx (putF "_start" (.int 0) (putF "_many_entries" (.int 0) (putF "_counts" (.ref c) [("_size", .int n), ("_book", .str z), ("_turns", .int m), ("_entries", .ref p)]))))) p = _ := (upd_ne px).trans ((upd_ne px).trans ((upd_ne px).trans p8))
    have c9 : (upd (upd (upd G8 x (.ins C dx (putF "_counts" (.ref c) [("_size", .int n), ("_book", .str z), ("_turns", .int m), ("_entries", .ref p)]))) x (.ins C dx (putF "_many_entries" (.int 0) (putF "_counts" (.ref c) [("_size", .int n), ("_book", .str z), ("_turns", .int m), ("_entries", .ref p)])))) x (.ins C dx (putF "_start" (.int 0) (putF "_many_entries" (.int 0) (putF "_counts" (.ref c) [("_size", .int n), ("_book", .str z), ("_turns", .int m), ("_entries", .ref p)]))))) c = _ := (upd_ne cx).trans ((upd_ne cx).trans ((upd_ne cx).trans c8))
    generalize upd (upd (upd G8 x (.ins C dx (putF "_counts" (.ref c) [("_size", .int n), ("_book", .str z), ("_turns", .int m), ("_entries", .ref p)]))) x (.ins C dx (putF "_many_entries" (.int 0) (putF "_counts" (.ref c) [("_size", .int n), ("_book", .str z), ("_turns", .int m), ("_entries", .ref p)])))) x (.ins C dx (putF "_start" (.int 0) (putF "_many_entries" (.int 0) (putF "_counts" (.ref c) [("_size", .int n), ("_book", .str z), ("_turns", .int m), ("_entries", .ref p)])))) = G9 at s9 x9 p9 c9 ⊢
    refine ⟨(by show 0 ≤ sizeLine; decide), fun q hq => ?_⟩
    have hq0 := s9.none x9 hq
    have qx : q ≠ x := fun e => by rw [e, x9] at hq; cases hq
    refine ⟨_, rfl, x, C, dx, _, rfl, (upd_ne qx.symm).trans x9, S.cl, S.n8, (show 7 < 1000 by decide), ?_⟩
    refine k e1 hB e3 _ n p c q rfl ((s9.new hq).put _) upd_same ?_ ?_ ?_ hp0 hc0 hq0 pcn (ne_of_none p9 hq) (ne_of_none c9 hq)
    · exact (upd_ne px).trans ((upd_ne (ne_of_none p9 hq)).trans p9)
    · exact (upd_ne cx).trans ((upd_ne (ne_of_none c9 hq)).trans c9)
    · exact (upd_ne qx).trans upd_same
end
/-! ### a table's state; what tells of it -/
abbrev sTbSize : Stmt := inClass (top 25) 1
abbrev sTbBook : Stmt := inClass (top 25) 2
abbrev sTbTurns : Stmt := inClass (top 25) 3
abbrev sTbFree : Stmt := inClass (top 25) 4
abbrev sTbTold : Stmt := inClass (top 25) 5
abbrev sTbItem : Stmt := inClass (top 25) 13
abbrev sTbLen : Stmt := inClass (top 25) 15
structure TAt (H : Hp) (C x dx pe pc pf : Addr) (n : Nat) (bk : Str) (tn : Int) (es : List V) (cs : List Int) (many start : Int) (fr : List Int) : Prop where
  ins : H x = some (.ins C dx (tbF (.int (n : Nat)) (.str bk) (.int tn) pe pc many start pf))
  ens : H pe = some (.lst es)
  cnt : H pc = some (.lst (cs.map V.int))
  fre : H pf = some (.lst (fr.map V.int))
  len : es.length = n
  lec : cs.length = n
  lim : n ≤ 60
  q1 : pe ≠ pc
  q2 : pe ≠ pf
  q3 : pc ≠ pf
section
variable {H H' : Hp} {C x dx pe pc pf : Addr} {n : Nat} {bk : Str} {tn : Int} {es : List V} {cs : List Int} {many start : Int} {fr : List Int}
theorem TAt.same (h : TAt H C x dx pe pc pf n bk tn es cs many start fr) (s : Same H H') : TAt H' C x dx pe pc pf n bk tn es cs many start fr := ⟨s _ _ h.ins, s _ _ h.ens, s _ _ h.cnt, s _ _ h.fre, h.len, h.lec, h.lim, h.q1, h.q2, h.q3⟩
theorem _root_.L2.Same.put {D : Addr} {o : HO} (s : Same H H') (h : H D = none) : Same H (upd H' D o) := fun b u e => by
  rw [upd_ne (ne_of_none e h)]
  exact s b u e
end
def isSomeE (v : V) : Bool := !decide (v = V.non)
def countE (es : List V) : Nat := (es.filter isSomeE).length
def freesN (es : List V) (k : Nat) : List Nat := (List.range k).filter fun i => decide (es[i]? = some V.non)
/-- the numbers that are free -/
def frees (es : List V) : List Int := (freesN es es.length).map fun (i : Nat) => (i : Int)
/-- the one of the free numbers that the book tells -/
def toldN (bk : Str) (start : Int) (fr ns : List Int) : Int :=
  if bk = "next" then ((ns.filter fun m => decide (start ≤ m)) ++ ns).headD 0 else if bk = "last" then (fr.getLast?).getD (ns.headD 0) else ns.headD 0
def freeL (bk : Str) (start : Int) (fr : List Int) (es : List V) : List Int := if bk = "any" then frees es else if frees es = [] then [] else [toldN bk start fr (frees es)]
def spTLen (C : Addr) : Sp := fun vs H Q _ => ∃ (x dx pe pc pf : Addr) (n : Nat) (bk : Str) (tn : Int) (es : List V) (cs : List Int) (many start : Int) (fr : List Int), vs = [.ref x] ∧ TAt H C x dx pe pc pf n bk tn es cs many start fr ∧ ∀ H', Same H H' → Q (.int (countE es : Nat)) H'
def spTItem (C CN : Addr) : Sp := fun vs H Q E => ∃ (x dx pe pc pf : Addr) (n : Nat) (bk : Str) (tn : Int) (es : List V) (cs : List Int) (many start : Int) (fr : List Int) (v : V) (kn : String), vs = [.ref x, v] ∧ TAt H C x dx pe pc pf n bk tn es cs many start fr ∧ Kd H v kn ∧
  (isIndex v n = false → Bad E H CN v) ∧ ∀ (i : Nat) (u : V), v = .int (i : Nat) → es[i]? = some u → Q u H
def spTold (C : Addr) : Sp := fun vs H Q _ => ∃ (x dx pe pc pf pn : Addr) (n : Nat) (bk : Str) (tn : Int) (es : List V) (cs : List Int) (many start : Int) (fr ns : List Int), vs = [.ref x, .ref pn] ∧ TAt H C x dx pe pc pf n bk tn es cs many start fr ∧ H pn = some (.lst (ns.map V.int)) ∧ ns ≠ [] ∧ ns.length ≤ 60 ∧
  ∀ H', Same H H' → Q (.int (toldN bk start fr ns)) H'
def spTFree (C : Addr) : Sp := fun vs H Q _ => ∃ (x dx pe pc pf : Addr) (n : Nat) (bk : Str) (tn : Int) (es : List V) (cs : List Int) (many start : Int) (fr : List Int), vs = [.ref x] ∧ TAt H C x dx pe pc pf n bk tn es cs many start fr ∧
  ∀ H' t, Same H H' → H' t = some (.tup ((freeL bk start fr es).map V.int)) → Q (.ref t) H'
structure TbTxt2 (mg : Str → Option Value) : Prop where
  len : mg "len" = none
  tuple : mg "tuple" = none
  enumerate : mg "enumerate" = none
section
variable {P : Program} {w : World} {K : PySem.W.Frag} {mg : Str → Option Value} {base : Heap}
theorem scTbSize : FnScope ["self"] ["self"] (defScope sTbSize) := ⟨rfl, rfl, rfl, by decide +kernel, rfl, by decide +kernel, by decide +kernel⟩
theorem ok_tbSize {f : Addr} {fd : FuncData} (F : Fun K "size" "Table.size" sTbSize f fd) : FnOk P w K mg base CX0 1 f fd ["self"] (spGet K "_size") := by
  refine F.ok scTbSize (fun vs H Q E h => ?_) (fun cdv A outer s H vs Q E hr h => ?_)
  · obtain ⟨x, _, _, _, _, rfl, _⟩ := h
    rfl
  · obtain ⟨x, C, dx, fs, v, rfl, hx, cl, no, l, k⟩ := h
    exact ⟨_, pss_one (ps_ret (pe_fld (pv 0) (by rfl))), ⟨_, rfl, x, C, dx, fs, v, rfl, hx, cl, no, l, k⟩⟩
theorem scTbBook : FnScope ["self"] ["self"] (defScope sTbBook) := ⟨rfl, rfl, rfl, by decide +kernel, rfl, by decide +kernel, by decide +kernel⟩
theorem ok_tbBook {f : Addr} {fd : FuncData} (F : Fun K "book" "Table.book" sTbBook f fd) : FnOk P w K mg base CX0 1 f fd ["self"] (spGet K "_book") := by
  refine F.ok scTbBook (fun vs H Q E h => ?_) (fun cdv A outer s H vs Q E hr h => ?_)
  · obtain ⟨x, _, _, _, _, rfl, _⟩ := h
    rfl
  · obtain ⟨x, C, dx, fs, v, rfl, hx, cl, no, l, k⟩ := h
    exact ⟨_, pss_one (ps_ret (pe_fld (pv 0) (by rfl))), ⟨_, rfl, x, C, dx, fs, v, rfl, hx, cl, no, l, k⟩⟩
theorem scTbTurns : FnScope ["self"] ["self"] (defScope sTbTurns) := ⟨rfl, rfl, rfl, by decide +kernel, rfl, by decide +kernel, by decide +kernel⟩
theorem ok_tbTurns {f : Addr} {fd : FuncData} (F : Fun K "turns" "Table.turns" sTbTurns f fd) : FnOk P w K mg base CX0 1 f fd ["self"] (spGet K "_turns") := by
  refine F.ok scTbTurns (fun vs H Q E h => ?_) (fun cdv A outer s H vs Q E hr h => ?_)
  · obtain ⟨x, _, _, _, _, rfl, _⟩ := h
    rfl
  · obtain ⟨x, C, dx, fs, v, rfl, hx, cl, no, l, k⟩ := h
    exact ⟨_, pss_one (ps_ret (pe_fld (pv 0) (by rfl))), ⟨_, rfl, x, C, dx, fs, v, rfl, hx, cl, no, l, k⟩⟩
end
section
variable {P : Program} {w : World} {K : PySem.W.Frag} {mg : Str → Option Value} {base : Heap}
theorem scTbLen : FnScope ["self", "entry"] ["self"] (defScope sTbLen) := ⟨rfl, rfl, rfl, by decide +kernel, rfl, by decide +kernel, by decide +kernel⟩
theorem ok_tbLen {f C : Addr} {fd : FuncData} (F : Fun K "__len__" "Table.__len__" sTbLen f fd) (S : TbCls K mg C) (U : TbTxt2 mg) : FnOk P w K mg base CX0 1 f fd ["self"] (spTLen C) := by
  refine F.ok scTbLen (fun vs H Q E h => ?_) (fun cdv A outer s H vs Q E hr h => ?_)
  · obtain ⟨x, _, _, _, _, _, _, _, _, _, _, _, _, rfl, _⟩ := h
    rfl
  · obtain ⟨x, dx, pe, pc, pf, n, bk, tn, es, cs, many, start, fr, rfl, t, k⟩ := h
    refine ⟨_, pss_one (ps_ret (pe_callB call_len_seq (by rfl) U.len (by decide +kernel) (pa_cons (pe_lc (own := [("entry", 1)]) (g := gName 1) (by rfl) scTbLen.nd (pi_list (pe_fld (pv 0) (by rfl))) (blkOk_by (own := [("entry", 1)]) (N := ["self", "entry"]) (sc := defScope sTbLen) (by decide +kernel))
      (fun _ _ _ _ _ => pg_name (i := 1) scTbLen.nd rfl (Or.inl rfl)) (fun _ _ _ _ _ => pts_one (pt_cmp (pc_notN (pv 1)))) (fun _ _ _ _ _ => pv 1)) pa_nil))), ?_⟩
    refine ⟨_, rfl, x, C, dx, _, .ref pe, rfl, t.ins, S.cl, S.n4, rfl, pe, rfl, ⟨_, .inl (.inl t.ens)⟩, fun D hD => lc_list (xs := es) (fun i H' => Same H H' ∧ H' D = some (.lst ((es.take i).filter isSomeE))) ⟨Same.new hD, upd_same⟩ (fun i H' _ e => .inl (.inl (e.1 _ _ t.ens))) ?_ ?_⟩
    · rintro i z H' hz ⟨s1, e1⟩
      have hi : i < es.length := (List.getElem?_eq_some_iff.mp hz).1
      have ht : es.take (i + 1) = es.take i ++ [z] := by rw [List.take_succ, hz]; rfl
      refine ⟨rfl, _, rfl, _, rfl, ?_⟩
      cases q : decide (z = V.non) with
      | true =>
        refine iteF ⟨s1, ?_⟩
        rw [ht, List.filter_append, e1]
        have : [z].filter isSomeE = [] := by simp [isSomeE, q]
        rw [this, List.append_nil]
      | false =>
        refine iteT ⟨_, rfl, _, e1, ?_, s1.put hD, ?_⟩
        · refine Nat.lt_of_le_of_lt (List.length_filter_le _ _) ?_
          rw [List.length_take]
          have l1 := t.len
          have l2 := t.lim
          exact Nat.lt_of_le_of_lt (Nat.le_trans (Nat.min_le_left ..) (show i ≤ 60 by omega)) (by decide)
        · rw [upd_same, ht, List.filter_append]
          have : [z].filter isSomeE = [z] := by simp [isSomeE, q]
          rw [this]
    · rintro H' ⟨s1, e1⟩
      rw [List.take_length] at e1
      exact ⟨D, _, rfl, .inl (.inl (.inl e1)), k H' s1⟩
end
section
variable {P : Program} {w : World} {K : PySem.W.Frag} {mg : Str → Option Value} {base : Heap}
theorem scTbItem : FnScope ["self", "at"] ["self", "at"] (defScope sTbItem) := ⟨rfl, rfl, rfl, by decide +kernel, rfl, by decide +kernel, by decide +kernel⟩
theorem ok_tbItem {f C CN fI fX : Addr} {fd fdI fdX : FuncData} (F : Fun K "__getitem__" "Table.__getitem__" sTbItem f fd) (S : TbCls K mg C)
    (eN : ErrC K mg "InvalidNumber" CN fI) (FI : Fun K "__init__" "HandleError.__init__" sHInit fI fdI) (bI : Binds K fdI ["self", "value"] [])
    (FX : Fun K "is_index" "is_index" sIndex fX fdX) (bX : Binds K fdX ["value", "many"] []) (gX : mg "is_index" = some (.ref fX)) (GX : FnOk P w K mg base CX0 2 fX fdX ["value", "many"] spIndex) :
    FnOk P w K mg base (L2.CX P w) 3 f fd ["self", "at"] (spTItem C CN) := by
  have GI : FnOk P w K mg base CX0 1 fI fdI ["self", "value"] (spInitE K "value") := ok_hinit FI
  refine F.okX scTbItem (fun vs H Q E h => ?_) (fun cdv A outer s H vs Q E hr h => ?_)
  · obtain ⟨x, _, _, _, _, _, _, _, _, _, _, _, _, _, _, rfl, _⟩ := h
    rfl
  · obtain ⟨x, dx, pe, pc, pf, n, bk, tn, es, cs, many, start, fr, v, kn, rfl, t, hk, b, k⟩ := h
    refine ⟨_, pss_cons (ps_if (pt_not (pt_val (pe_call GX hr rfl gX FX.kp bX .nil pass0 (pa_cons (pv 1) (pa_cons (pe_fld (pv 0) (by rfl)) pa_nil)))))
        (pss_one (ps_raise rfl (takes_of rfl rfl rfl rfl) (pmk_oex eN.ox eN.i eN.t GI (hr.mono (by decide)) bI .nil pass0 rfl eN.g (pa_cons (pv 1) pa_nil)))) pss_nil)
      (pss_one (ps_ret (pe_ix ix_list (pe_fld (pv 0) (by rfl)) (pv 1) (fun _ _ => rfl)))), ?_⟩
    refine ⟨v, rfl, _, rfl, x, C, dx, _, .int (n : Nat), rfl, t.ins, S.cl, S.n1, rfl, v, kn, n, rfl, hk, _, rfl, ?_⟩
    cases e : isIndex v n with
    | false => exact iteT ⟨v, rfl, (show 1 ≤ 1000 by decide), raise_ok eN (b e)⟩
    | true =>
      obtain ⟨e1, e2⟩ := Bool.and_eq_true_iff.mp e
      obtain ⟨i, rfl, i0⟩ := count_int e1
      obtain ⟨j, rfl⟩ := Int.eq_ofNat_of_zero_le i0
      have hj : (j : Int) < (n : Nat) := of_decide_eq_true e2
      have hl : j < es.length := by rw [t.len]; omega
      have hu : es[j]? = some es[j] := by simp [hl]
      exact iteF ⟨_, rfl, x, C, dx, _, .ref pe, rfl, t.ins, S.cl, S.n4, rfl, _, rfl, pe, es, _, _, rfl, rfl, .inl (.inl t.ens), atI_nat hu, k j _ rfl hu⟩
end
section
variable {P : Program} {w : World} {K : PySem.W.Frag} {mg : Str → Option Value} {base : Heap}
theorem _root_.L2.Same.push {H H' : Hp} {a : Addr} {o : HO} (s : Same H H') (h : H' a = none) : Same H (upd H' a o) := s.trans (Same.new h)
theorem dec_str {a b : Str} (h : a ≠ b) : decide (V.str a = V.str b) = false := decide_eq_false fun q => h (by injection q)
theorem dec_str' {a b : Str} (h : a = b) : decide (V.str a = V.str b) = true := decide_eq_true (by rw [h])
theorem scTbTold : FnScope ["self", "numbers", "behind", "number"] ["self", "numbers"] (defScope sTbTold) := ⟨rfl, rfl, rfl, by decide +kernel, rfl, by decide +kernel, by decide +kernel⟩
theorem ok_tbTold {f C : Addr} {fd : FuncData} (F : Fun K "_told" "Table._told" sTbTold f fd) (S : TbCls K mg C) : FnOk P w K mg base CX0 1 f fd ["self", "numbers"] (spTold C) := by
  refine F.ok scTbTold (fun vs H Q E h => ?_) (fun cdv A outer s H vs Q E hr h => ?_)
  · obtain ⟨x, _, _, _, _, _, _, _, _, _, _, _, _, _, _, rfl, _⟩ := h
    rfl
  · obtain ⟨x, dx, pe, pc, pf, pn, n, bk, tn, es, cs, many, start, fr, ns, rfl, t, hpn, hne, h60, k⟩ := h
    refine ⟨_, pss_cons (ps_if (pt_cmpR op_eq (pe_fld (pv 0) (by rfl)) pe_str (nomark _))
       (pss_cons (ps_setLc (i := 2) (own := [("number", 3)]) (g := gName 3) (tt := tTest (tOp (rI0 fun i j => .bl (decide (j ≤ i))) (tVar 3) (tFld K (tVar 0) "_start"))) (by rfl) scTbTold.nd rfl rfl (sw_true rfl rfl rfl (by decide +kernel)) (pi_list (pv 1)) (blkOk_by (own := [("number", 3)]) (N := ["self", "numbers", "behind", "number"]) (sc := defScope sTbTold) (by decide +kernel))
          (fun _ _ _ _ _ => pg_name (i := 3) scTbTold.nd rfl (Or.inl rfl)) (fun _ _ _ _ _ => pts_one (pt_cmpR op_ge (pv 3) (pe_fld (pv 0) (by rfl)) (by rfl))) (fun _ _ _ _ _ => pv 3))
        (pss_one (ps_ret (pe_ifExp (pt_truth (pv 2) (fun _ => rfl)) (pe_ix ix_list (pv 2) pe_int (fun _ _ => rfl)) (pe_ix ix_list (pv 1) pe_int (fun _ _ => rfl))))))
       pss_nil)
     (pss_cons (ps_if (PW.pt (pw_and (pt_cmpR op_eq (pe_fld (pv 0) (by rfl)) pe_str (nomark _)) (pw_and1 (pt_truth (pe_fld (pv 0) (by rfl)) (fun _ => rfl)))))
        (pss_one (ps_ret (pe_ix ix_list (pe_fld (pv 0) (by rfl)) (pe_un un_neg pe_int) (fun _ _ => rfl)))) pss_nil)
     (pss_one (ps_ret (pe_ix ix_list (pv 1) pe_int (fun _ _ => rfl))))), ?_⟩
    obtain ⟨m0, r0, rfl⟩ : ∃ m0 r0, ns = m0 :: r0 := by
      cases ns with
      | nil => exact absurd rfl hne
      | cons a b => exact ⟨a, b, rfl⟩
    have sn : SqL K H pn ((m0 :: r0).map V.int) := .inl (.inl hpn)
    refine ⟨_, rfl, x, C, dx, _, .str bk, rfl, t.ins, S.cl, S.n2, rfl, rfl, _, rfl, ?_⟩
    by_cases hN : bk = "next"
    · rw [dec_str' hN]
      refine iteT ?_
      refine ⟨_, rfl, pn, rfl, ⟨_, sn⟩, fun D hD => lc_list (xs := (m0 :: r0).map V.int) (fun i H' => Same H H' ∧ H' D = some (.lst ((((m0 :: r0).take i).filter fun m => decide (start ≤ m)).map V.int))) ⟨Same.new hD, upd_same⟩ (fun i H' _ e => e.1.seq sn) ?_ ?_⟩
      · rintro i z H' hz ⟨s1, e1⟩
        rw [List.getElem?_map] at hz
        obtain ⟨m, hm, rfl⟩ := Option.map_eq_some_iff.mp hz
        have hi : i < (m0 :: r0).length := (List.getElem?_eq_some_iff.mp hm).1
        have ht : (m0 :: r0).take (i + 1) = (m0 :: r0).take i ++ [m] := by rw [List.take_succ, hm]; rfl
        refine ⟨rfl, _, rfl, _, rfl, x, C, dx, _, .int start, rfl, s1 _ _ t.ins, S.cl, S.n7, rfl, _, _, rfl, rfl, _, rfl, ?_⟩
        cases q : decide (start ≤ m) with
        | false =>
          refine iteF ⟨s1, ?_⟩
          have : [m].filter (fun m => decide (start ≤ m)) = [] := by simp [q]
          rw [ht, List.filter_append, this, List.append_nil, e1]
        | true =>
          have : [m].filter (fun m => decide (start ≤ m)) = [m] := by simp [q]
          refine iteT ⟨_, rfl, _, e1, ?_, s1.put hD, ?_⟩
          · rw [List.length_map]
            refine Nat.lt_of_le_of_lt (List.length_filter_le _ _) ?_
            rw [List.length_take]
            exact Nat.lt_of_le_of_lt (Nat.le_trans (Nat.min_le_right ..) h60) (by decide)
          · rw [upd_same, ht, List.filter_append, this, List.map_append]
            rfl
      · rintro H' ⟨s1, e1⟩
        rw [List.length_map, List.take_length] at e1
        have k' := k H' s1
        rw [toldN, if_pos hN] at k'
        cases hf : (m0 :: r0).filter fun m => decide (start ≤ m) with
        | nil =>
          rw [hf] at e1 k'
          refine ⟨_, rfl, false, .inl ⟨_, .inl (.inl e1), rfl⟩, iteF ⟨_, rfl, pn, _, 0, _, rfl, rfl, s1.seq sn, atI_nat (j := 0) rfl, k'⟩⟩
        | cons a b =>
          rw [hf] at e1 k'
          refine ⟨_, rfl, true, .inl ⟨_, .inl (.inl e1), rfl⟩, iteT ⟨_, rfl, D, _, 0, _, rfl, rfl, .inl (.inl e1), atI_nat (j := 0) rfl, k'⟩⟩
    · rw [dec_str hN]
      refine iteF ?_
      have k' := k H (Same.refl H)
      rw [toldN, if_neg hN] at k'
      refine ⟨_, rfl, x, C, dx, _, .str bk, rfl, t.ins, S.cl, S.n2, rfl, rfl, _, rfl, ?_⟩
      by_cases hL : bk = "last"
      · rw [dec_str' hL]
        rw [if_pos hL] at k'
        refine iteT ?_
        rcases List.eq_nil_or_concat fr with rfl | ⟨fi, m, rfl⟩
        · exact ⟨_, rfl, x, C, dx, _, .ref pf, rfl, t.ins, S.cl, S.n8, rfl, false, .inl ⟨_, .inl (.inl t.fre), rfl⟩, iteF ⟨_, rfl, pn, _, 0, _, rfl, rfl, sn, atI_nat (j := 0) rfl, k'⟩⟩
        · have ef : H pf = some (.lst (fi.map V.int ++ [.int m])) := by
            have := t.fre
            rw [List.concat_eq_append, List.map_append] at this
            exact this
          rw [List.concat_eq_append, List.getLast?_concat] at k'
          refine ⟨_, rfl, x, C, dx, _, .ref pf, rfl, t.ins, S.cl, S.n8, rfl, true, .inl ⟨_, .inl (.inl ef), ?_⟩, iteT ⟨_, rfl, x, C, dx, _, .ref pf, rfl, t.ins, S.cl, S.n8, rfl, _, rfl, pf, _, _, _, rfl, rfl, .inl (.inl ef), atI_last _ _, k'⟩⟩
          cases fi <;> rfl
      · rw [dec_str hL]
        rw [if_neg hL] at k'
        exact iteF (iteF ⟨_, rfl, pn, _, 0, _, rfl, rfl, sn, atI_nat (j := 0) rfl, k'⟩)
theorem freesN_succ (es : List V) (k : Nat) : freesN es (k + 1) = freesN es k ++ (if es[k]? = some V.non then [k] else []) := by
  unfold freesN
  rw [List.range_succ, List.filter_append]
  congr 1
  by_cases h : es[k]? = some V.non
  · rw [if_pos h]; simp [h]
  · rw [if_neg h]; simp [h]
theorem freesN_le (es : List V) (k : Nat) : (freesN es k).length ≤ k := by
  refine Nat.le_trans (List.length_filter_le _ _) ?_
  rw [List.length_range]
  exact Nat.le_refl _
theorem scTbFree : FnScope ["self", "numbers", "number", "entry"] ["self"] (defScope sTbFree) := ⟨rfl, rfl, rfl, by decide +kernel, rfl, by decide +kernel, by decide +kernel⟩
theorem ok_tbFree {f C fT : Addr} {fd fdT : FuncData} (F : Fun K "free" "Table.free" sTbFree f fd) (S : TbCls K mg C) (U : TbTxt2 mg)
    (M : Meth K C "_told" fT) (FT : Fun K "_told" "Table._told" sTbTold fT fdT) (bT : Binds K fdT ["self", "numbers"] []) : FnOk P w K mg base CX0 2 f fd ["self"] (spTFree C) := by
  have GT : FnOk P w K mg base CX0 1 fT fdT ["self", "numbers"] (spTold C) := ok_tbTold FT S
  refine F.ok scTbFree (fun vs H Q E h => ?_) (fun cdv A outer s H vs Q E hr h => ?_)
  · obtain ⟨x, _, _, _, _, _, _, _, _, _, _, _, _, rfl, _⟩ := h
    rfl
  · obtain ⟨x, dx, pe, pc, pf, n, bk, tn, es, cs, many, start, fr, rfl, t, k⟩ := h
    refine ⟨_, pss_cons (ps_setLc (i := 1) (own := [("number", 2), ("entry", 3)]) (g := gTup K 2 (gCons (gName 2) (gCons (gName 3) gNil))) (by rfl) scTbFree.nd rfl rfl (sw_true rfl rfl rfl (by decide +kernel)) (pi_enum (by rfl) U.enumerate (pa_cons (pe_fld (pv 0) (by rfl)) pa_nil)) (blkOk_by (own := [("number", 2), ("entry", 3)]) (N := ["self", "numbers", "number", "entry"]) (sc := defScope sTbFree) (by decide +kernel))
          (fun _ _ _ _ _ => pg_tup (by rfl) (pgs_cons (pg_name (i := 2) scTbFree.nd rfl (.inl rfl)) (pgs_cons (pg_name (i := 3) scTbFree.nd rfl (.inl rfl)) pgs_nil))) (fun _ _ _ _ _ => pts_one (pt_cmp (pc_isN (pv 3)))) (fun _ _ _ _ _ => pv 2))
      (pss_cons (ps_if (PW.pt (pw_or (pt_cmpR op_eq (pe_fld (pv 0) (by rfl)) pe_str (nomark _)) (pw_or1 (pt_not (pt_truth (pv 1) (fun _ => rfl))))))
        (pss_one (ps_ret (pe_callTy call_tuple_of (by rfl) U.tuple (by decide +kernel) (pa_cons (pv 1) pa_nil)))) pss_nil)
      (pss_one (ps_ret (pe_tup (pa_cons (pe_meth (pv 0) S.cl M GT hr bT .nil pass0 (pa_cons (pv 1) pa_nil)) pa_nil))))), ?_⟩
    refine ⟨_, rfl, x, C, dx, _, .ref pe, rfl, t.ins, S.cl, S.n4, rfl, pe, es, rfl, .inl (.inl t.ens), fun D hD => lc_it walk_enum (fun i H' => Same H H' ∧ H' D = some (.lst ((freesN es i).map fun (m : Nat) => V.int m))) ⟨Same.new hD, upd_same⟩ (fun i H' _ e => .inl (.inl (e.1 _ _ t.ens))) ?_ ?_⟩
    · rintro i _ H' _ hi ⟨s1, e1⟩ ⟨T, a, z, rfl, hT, rfl, ea, ez⟩
      cases ea
      replace ez : es[i]? = some z := ez
      have s2 := s1.push (o := .tup [.int (i : Nat), z]) hT
      have e2 := (Same.new (o := .tup [.int (i : Nat), z]) hT) _ _ e1
      refine ⟨T, _, rfl, .inl (.inl upd_same), rfl, _, _, rfl, _, _, rfl, rfl, rfl, _, rfl, _, rfl, ?_⟩
      cases q : decide (z = V.non) with
      | false =>
        refine iteF ⟨s2, ?_⟩
        have hq : ¬ es[i]? = some V.non := fun q2 => by
          rw [ez] at q2
          injection q2 with q2
          exact of_decide_eq_false q q2
        rw [freesN_succ, if_neg hq, List.append_nil]
        exact e2
      | true =>
        have hq : es[i]? = some V.non := by rw [ez, of_decide_eq_true q]
        refine iteT ⟨_, rfl, _, e2, ?_, s2.put hD, ?_⟩
        · rw [List.length_map]
          have l1 := t.len
          have l2 := t.lim
          have l3 := freesN_le es i
          exact Nat.lt_of_le_of_lt (show (freesN es i).length ≤ 60 by omega) (by decide)
        · rw [upd_same, freesN_succ, if_pos hq, List.map_append]
          rfl
    · rintro H1 ⟨s1, e1⟩
      have e1 : H1 D = some (.lst ((frees es).map V.int)) := by
        rw [e1, frees, List.map_map]
        rfl
      have l60 : (frees es).length ≤ 60 := by
        rw [frees, List.length_map]
        exact Nat.le_trans (freesN_le _ _) (by rw [t.len]; exact t.lim)
      have t1 := t.same s1
      refine ⟨_, rfl, x, C, dx, _, .str bk, rfl, t1.ins, S.cl, S.n2, rfl, rfl, _, rfl, ?_⟩
      by_cases hA : bk = "any"
      · rw [dec_str' hA]
        have k' := k
        rw [freeL, if_pos hA] at k'
        exact iteT (iteT ⟨_, rfl, D, _, rfl, .inl ⟨.inl (.inl e1), fun q hq => k' _ q (s1.push hq) upd_same⟩⟩)
      · rw [dec_str hA]
        have k' := k
        rw [freeL, if_neg hA] at k'
        refine iteF ?_
        cases hf : frees es with
        | nil =>
          rw [hf] at e1 k'
          rw [if_pos rfl] at k'
          exact ⟨_, rfl, false, .inl ⟨_, .inl (.inl e1), rfl⟩, iteT ⟨_, rfl, D, _, rfl, .inl ⟨.inl (.inl e1), fun q hq => k' _ q (s1.push hq) upd_same⟩⟩⟩
        | cons a b =>
          rw [hf] at e1 k' l60
          rw [if_neg (by simp)] at k'
          refine ⟨_, rfl, true, .inl ⟨_, .inl (.inl e1), rfl⟩, iteF ?_⟩
          refine ⟨_, rfl, x, dx, _, rfl, t1.ins, rfl, _, rfl, x, dx, pe, pc, pf, D, n, bk, tn, es, cs, many, start, fr, a :: b, rfl, t1, e1, by simp, l60, fun H2 s2 => ?_⟩
          exact ⟨(by show 1 ≤ sizeLine; decide), fun q hq => k' _ q ((s1.trans s2).push hq) upd_same⟩
end
/-! ### what stays; bad numbers -/
/-- all but the pool and the tables of code is as it was -/
def Mv (p q : Addr) (H H' : Hp) : Prop := ∀ b o, b ≠ p → b ≠ q → (∀ ps, o ≠ .tbl ps) → H b = some o → H' b = some o
theorem Mv.refl (p q : Addr) (H : Hp) : Mv p q H H := fun _ _ _ _ _ h => h
theorem Mv.trans {p q : Addr} {H H1 H2 : Hp} (a : Mv p q H H1) (b : Mv p q H1 H2) : Mv p q H H2 := fun c o n1 n2 n3 h => b c o n1 n2 n3 (a c o n1 n2 n3 h)
theorem Mv.same {p q : Addr} {H H1 : Hp} (a : Same H H1) : Mv p q H H1 := fun c o _ _ _ h => a c o h
theorem Mv.but {p q : Addr} {H H1 : Hp} (a : But p q H H1) : Mv p q H H1 := fun c o n1 n2 _ h => a c o n1 n2 h
theorem Mv.ext {p q : Addr} {H H1 : Hp} (a : LamX.ExtN H H1) : Mv p q H H1 := fun c o _ _ n3 h => a c o h n3
theorem PoolAt.ext {p q : Addr} {H H' : Hp} (h : PoolAt H p q) (a : LamX.ExtN H H') : PoolAt H' p q := by
  obtain ⟨ns, i, x, z, b, h1, h2, h3⟩ := h
  exact ⟨ns, i, x, z, b, a _ _ h1 (fun _ e => by cases e), a _ _ h2 (fun _ e => by cases e), h3⟩
theorem tabs_but {T : List (Addr × Str)} {p q : Addr} {H H' : Hp} (hP : PoolAt H p q) (t : LamX.Tabs T H) (b : But p q H H') : LamX.Tabs T H' := by
  obtain ⟨ns, i, x, z, y, h1, h2, _⟩ := hP
  intro r hr
  obtain ⟨ps, e1, e2, e3⟩ := t r hr
  have far : ∀ c o, H c = some o → (∀ xs, o ≠ .lst xs) → H' c = some o := fun c o e n => b c o (fun q => n _ (by rw [q, h1] at e; exact (Option.some.inj e).symm)) (fun q => n _ (by rw [q, h2] at e; exact (Option.some.inj e).symm)) e
  refine ⟨ps, far _ _ e1 (fun _ e => by cases e), e2, fun pos cv hc => ?_⟩
  obtain ⟨c, e4, e5⟩ := e3 pos cv hc
  exact ⟨c, e4, far _ _ e5 (fun _ e => by unfold LamX.CodeO at e; cases e)⟩
/-- an object beside the pool -/
structure Sf (p q : Addr) (H : Hp) (a : Addr) (o : HO) : Prop where
  e : H a = some o
  np : a ≠ p
  nq : a ≠ q
theorem Sf.same {p q : Addr} {H H' : Hp} {a : Addr} {o : HO} (h : Sf p q H a o) (s : Same H H') : Sf p q H' a o := ⟨s _ _ h.e, h.np, h.nq⟩
theorem Sf.mv {p q : Addr} {H H' : Hp} {a : Addr} {o : HO} (h : Sf p q H a o) (b : Mv p q H H') (n : ∀ ps, o ≠ .tbl ps := by intro _ z; cases z) : Sf p q H' a o := ⟨b _ _ h.np h.nq n h.e, h.np, h.nq⟩
theorem Sf.but {p q : Addr} {H H' : Hp} {a : Addr} {o : HO} (h : Sf p q H a o) (b : But p q H H') : Sf p q H' a o := ⟨b _ _ h.np h.nq h.e, h.np, h.nq⟩
theorem Sf.new {p q : Addr} {H : Hp} {a : Addr} {o : HO} (hP : PoolAt H p q) (h : H a = none) : Sf p q (upd H a o) a o := by
  obtain ⟨ns, i, x, s, b, h1, h2, _⟩ := hP
  exact ⟨upd_same, fun z => ne_of_none h1 h z.symm, fun z => ne_of_none h2 h z.symm⟩
def badBig : Int := 0 - 10 ^ 30
inductive OddV (p q : Addr) (H : Hp) : V → PyData → Prop
  | neg : OddV p q H (.int (-1)) (.int (-1))
  | non : OddV p q H .non .none
  | bl (b : Bool) : OddV p q H (.bl b) (.bool b)
  | one : OddV p q H (.str "1") (.str "1")
  | tup {a : Addr} (h : Sf p q H a (.tup [.int 1])) : OddV p q H (.ref a) (.tuple [.int 1])
  | lst {a : Addr} (h : Sf p q H a (.lst [.int 1])) : OddV p q H (.ref a) (.list [.int 1])
  | dct {a : Addr} (h : Sf p q H a (.dK [])) : OddV p q H (.ref a) (.dict [])
  | big : OddV p q H (.int badBig) (.int badBig)
theorem OddV.mv {p q : Addr} {H H' : Hp} {v : V} {d : PyData} (h : OddV p q H v d) (b : Mv p q H H') : OddV p q H' v d := by
  cases h with
  | neg => exact .neg
  | non => exact .non
  | bl b => exact .bl b
  | one => exact .one
  | tup h => exact .tup (h.mv b)
  | lst h => exact .lst (h.mv b)
  | dct h => exact .dct (h.mv b)
  | big => exact .big
theorem OddV.kd {p q : Addr} {H : Hp} {v : V} {d : PyData} (h : OddV p q H v d) : ∃ n, Kd H v n := by
  cases h with
  | neg => exact ⟨_, .int _⟩
  | non => exact ⟨_, .non⟩
  | bl b => exact ⟨_, .bl b⟩
  | one => exact ⟨_, .str _ (by decide)⟩
  | tup h => exact ⟨_, .tup h.e⟩
  | lst h => exact ⟨_, .lst h.e⟩
  | dct h => exact ⟨_, .dK h.e⟩
  | big => exact ⟨_, .int _⟩
theorem OddV.cnt {p q : Addr} {H : Hp} {v : V} {d : PyData} (h : OddV p q H v d) : isCount v = false := by
  cases h <;> rfl
theorem OddV.rp {K : PySem.W.Frag} {p q : Addr} {H : Hp} {v : V} {d : PyData} (h : OddV p q H v d) : Rp K H v d := by
  cases h with
  | neg => exact .inl (.int _)
  | non => exact .inl .non
  | bl b => exact .inl (.bl b)
  | one => exact .inl (.str _)
  | tup h => exact .inl (.tup (.inl (.inl h.e)) (.cons (.int _) .nil))
  | lst h => exact .inl (.lst (.inl (.inl h.e)) (.cons (.int _) .nil))
  | dct h => exact .inr ⟨_, rfl, h.e, rfl⟩
  | big => exact .inl (.int _)
theorem OddV.ok {p q : Addr} {H : Hp} {v : V} {d : PyData} (h : OddV p q H v d) : okD d = true := by
  cases h with
  | bl b => cases b <;> decide +kernel
  | _ => decide +kernel
theorem okD_strOk {d : PyData} (h : okD d = true) : PyData.strOk d.shown = true := by
  unfold okD at h
  rw [Bool.and_eq_true] at h
  exact h.2
/-- ['word', repr(..)] as data -/
theorem shaped_two {x : String} {z : Str} (h : PyData.strOk z = true) : SeqAt.shaped (.list [.str (Str.ofString x), .str z]) = true := by
  have e : PyData.canLay0 (.list [.str (Str.ofString x), .str z]) = true := by
    show ((PyData.strOk (Str.ofString x)) && (PyData.strOk z && true)) = true
    rw [strOk_of, h]
    rfl
  unfold SeqAt.shaped
  rw [e]
  rfl
theorem eqv_two (x z : Str) : PyData.eqv (.list [.str x, .str z]) (.list [.str x, .str z]) = true := by
  show ((x == x) && ((z == z) && true)) = true
  simp
theorem dp_two {K : PySem.W.Frag} {H : Hp} {a : Addr} {x z : Str} (e : H a = some (.lst [.str x, .str z])) : Dp K H (.ref a) (.list [.str x, .str z]) := .lst (.inl (.inl e)) (.cons (.str _) (.cons (.str _) .nil))
/-! ### handles made -/
section
variable {K : PySem.W.Frag} {C CB : Addr} {H : Hp}
theorem same_made {x dx : Addr} (hx : H x = none) (hd : H dx = none) (ne : dx ≠ x) : Same H (upd (upd H dx (.own x)) x (.ins C dx [])) := fun b o e => by
  rw [upd_ne (ne_of_none e hx), upd_ne (ne_of_none e hd)]
  exact e
/-- three counts: a handle at a new address -/
theorem mk_ok {a b c : Int} {Q : Addr → Hp → Prop} {E : XK} (ha : 0 ≤ a) (hb : 0 ≤ b) (hc : 0 ≤ c) (k : ∀ H' x, Same H H' → H x = none → HAt H' C x a b c → Q x H') :
    ∀ x dx, H x = none → H dx = none → dx ≠ x → spHandle K C CB [.ref x, .int a, .int b, .int c] (upd (upd H dx (.own x)) x (.ins C dx [])) (fun v H3 => v = .non ∧ Q x H3) E := by
  intro x dx hx hd ne
  have e1 : isCount (.int a) = true := decide_eq_true ha
  have e2 : isCount (.int b) = true := decide_eq_true hb
  have e3 : isCount (.int c) = true := decide_eq_true hc
  refine ⟨x, dx, .int a, .int b, .int c, _, _, _, rfl, upd_same, .int a, .int b, .int c, fun q => ?_, fun _ q => ?_, fun _ _ q => ?_, fun _ _ _ H' s e => ⟨rfl, k H' x ?_ hx ⟨dx, e⟩⟩⟩
  · rw [e1] at q; cases q
  · rw [e2] at q; cases q
  · rw [e3] at q; cases q
  · intro b u q
    have n1 : b ≠ x := ne_of_none q hx
    exact s b u n1 (same_made hx hd ne b u q)
/-- the first, second, third is no count -/
theorem mk_bad1 {v1 v2 v3 : V} {k1 k2 k3 : String} {Q : Addr → VK} {E : XK} (h1 : Kd H v1 k1) (h2 : Kd H v2 k2) (h3 : Kd H v3 k3) (c1 : isCount v1 = false) (b : Bad E H CB v1) :
    ∀ x dx, H x = none → H dx = none → dx ≠ x → spHandle K C CB [.ref x, v1, v2, v3] (upd (upd H dx (.own x)) x (.ins C dx [])) (Q x) E := by
  intro x dx hx hd ne
  have s := same_made (C := C) hx hd ne
  refine ⟨x, dx, v1, v2, v3, _, _, _, rfl, upd_same, h1.same s, h2.same s, h3.same s, fun _ => b.imp s, fun q => ?_, fun q => ?_, fun q => ?_⟩ <;> (rw [c1] at q; cases q)
theorem mk_bad2 {v1 v2 v3 : V} {k1 k2 k3 : String} {Q : Addr → VK} {E : XK} (h1 : Kd H v1 k1) (h2 : Kd H v2 k2) (h3 : Kd H v3 k3) (c1 : isCount v1 = true) (c2 : isCount v2 = false) (b : Bad E H CB v2) :
    ∀ x dx, H x = none → H dx = none → dx ≠ x → spHandle K C CB [.ref x, v1, v2, v3] (upd (upd H dx (.own x)) x (.ins C dx [])) (Q x) E := by
  intro x dx hx hd ne
  have s := same_made (C := C) hx hd ne
  refine ⟨x, dx, v1, v2, v3, _, _, _, rfl, upd_same, h1.same s, h2.same s, h3.same s, fun q => ?_, fun _ _ => b.imp s, fun _ q => ?_, fun _ q => ?_⟩
  · rw [c1] at q; cases q
  · rw [c2] at q; cases q
  · rw [c2] at q; cases q
theorem mk_bad3 {v1 v2 v3 : V} {k1 k2 k3 : String} {Q : Addr → VK} {E : XK} (h1 : Kd H v1 k1) (h2 : Kd H v2 k2) (h3 : Kd H v3 k3) (c1 : isCount v1 = true) (c2 : isCount v2 = true) (c3 : isCount v3 = false) (b : Bad E H CB v3) :
    ∀ x dx, H x = none → H dx = none → dx ≠ x → spHandle K C CB [.ref x, v1, v2, v3] (upd (upd H dx (.own x)) x (.ins C dx [])) (Q x) E := by
  intro x dx hx hd ne
  have s := same_made (C := C) hx hd ne
  refine ⟨x, dx, v1, v2, v3, _, _, _, rfl, upd_same, h1.same s, h2.same s, h3.same s, fun q => ?_, fun _ q => ?_, fun _ _ _ => b.imp s, fun _ _ q => ?_⟩
  · rw [c1] at q; cases q
  · rw [c2] at q; cases q
  · rw [c3] at q; cases q
end
theorem passF {P : Program} {w : World} {X : Cx} : Passes (L2.CX P w) X (fun _ _ _ => False) := fun _ _ _ _ _ _ _ c => by
  obtain ⟨_, _, _, _, _, _, _, _, _, _, _, _, z⟩ := c
  exact z.elim
/-! ### a def whose code object is known -/
theorem fnG_okC {P : Program} {w : World} {K : PySem.W.Frag} {mg : Str → Option Value} {base : Heap} {k : Nat} {x qual : Str} {st : Stmt} {f : Addr} {oc : Value} {od an : Option Addr} {osl : Array (Option Value)} {kV doc pm cdv ct : Value} {N ps : List Str} {sp : Sp}
    (lk : K.lookup f = some ⟨oc, od, .func (PySem.W.fnOf x qual (defArgs st) (defBody st) (defScope st) .none kV doc pm an cdv ct), osl⟩) (hcd : PySem.W.codeIn K cdv qual = true) (S : FnScope N ps (defScope st))
    (len : ∀ vs H Q E, sp vs H Q E → vs.length = ps.length)
    (body : ∀ (A : Around) (outer : List Env) (s : Shared) (H : Hp) (vs : List V) (Q : VK) (E : XK), A.guards = some [] → Room k (A.deeper (PyProof.Rows.envOfC qual (defScope st) s.heap.objs.size f cdv)) → sp vs H Q E →
      ∃ t, PSs (cxOf CX0 P w K mg base N qual (defScope st) f cdv A outer s H E).nox (defBody st) t ∧ t { nx := fun _ H' => Q .non H', rt := Q } (start N vs) H) :
    FnG P w K mg base CX0 (k + 1) f (PySem.W.fnOf x qual (defArgs st) (defBody st) (defScope st) .none kV doc pm an cdv ct) ps sp := by
  constructor
  · exact len
  intro A outer s H args us vs Q E hg hr e0 hb r hsp
  have hl := len _ _ _ _ hsp
  have old : ∀ b o, base.get? b = some o → s.heap.get? b = some o := fun b o e => (e0.bs b o e).1
  have KX : K.In s.heap := e0.mod.kin.keeps old
  have kinds : ∀ y ∈ ps.zip us, (defScope st).names.lookup y.1 = some .local ∨
      ((defScope st).names.lookup y.1 = some .cell ∧ ((cellsFrom (s.heap.objs.size + 1) (defScope st).names []).lookup y.1).isSome = true) := by
    rintro ⟨n, v⟩ hy
    have q := S.par n (List.of_mem_zip hy).1
    refine q.imp id fun q => ⟨q, ?_⟩
    exact PySem.W.cellsFrom_some _ _ _ (.inl q)
  refine codeAny_call_function hr.depth (KX _ _ lk) rfl S.co S.gen rfl (PySem.W.codeRec_of KX hcd) (hb _ _ _ _ ?_)
  refine wpAny_newFunctionEnv_cells S.kind kinds fun env he s1 z => ?_
  subst he
  refine ⟨(e0.mod.nolimit.keeps old).keeps z.toInCall.keep, PySem.codeAny_func ?_⟩
  obtain ⟨t, ht, hq⟩ := body A outer s H vs Q E hg (hr.deeper _) hsp
  have I := inv_start (CX := CX0) (E := E) (cd := cdv) (f := f) S hr.hd e0 hl r z
  refine wpAny_mono (ht.nox.run [] s1 (start N vs) H _ I hq) (fun fl s' hs => ?_) fun e s' hs => hs
  cases fl with
  | ret u =>
    obtain ⟨v, σ', H', J, rv, q⟩ := hs
    exact ⟨v, H', J.os, J.bare, J.base, J.hok, rv, q⟩
  | next =>
    obtain ⟨σ', H', J, q⟩ := hs
    exact ⟨V.non, H', J.os, J.bare, J.base, J.hok, rfl, q⟩
  | brk => exact hs.choose_spec.choose_spec.2.elim
  | cont => exact hs.choose_spec.choose_spec.2.elim
/-- texts of lists of a few ints -/
theorem okW_ints {ns : List Int} (hl : ns.length ≤ 100) (h : ∀ n ∈ ns, 0 ≤ n ∧ n < 10 ^ 40) : (PyData.list (ns.map PyData.int)).showable = true ∧ (PyData.list (ns.map PyData.int)).depth ≤ 50 ∧ (PyData.list (ns.map PyData.int)).shown.length ≤ 100000 := by
  have a1 : ∀ ms : List Int, (∀ n ∈ ms, 0 ≤ n ∧ n < 10 ^ 40) → PyData.showableAll (ms.map PyData.int) = true := fun ms => by
    induction ms with
    | nil => intro _; rfl
    | cons m ms ih =>
      intro q
      have e1 : PyData.showable (.int m) = true := decide_eq_true (intlen (q m (List.mem_cons_self ..)).1 (q m (List.mem_cons_self ..)).2).2
      show (PyData.showable (.int m) && PyData.showableAll (ms.map PyData.int)) = true
      rw [e1, ih fun n hn => q n (List.mem_cons_of_mem _ hn)]
      rfl
  have a2 : ∀ ms : List Int, PyData.depthAll (ms.map PyData.int) = 0 := fun ms => by
    induction ms with
    | nil => rfl
    | cons m ms ih =>
      show max (PyData.depth (.int m)) (PyData.depthAll (ms.map PyData.int)) = 0
      rw [ih]
      rfl
  have a3 : ∀ ms : List Int, (∀ n ∈ ms, 0 ≤ n ∧ n < 10 ^ 40) → (PyData.shownAll (ms.map PyData.int)).length = ms.length ∧ ((PyData.shownAll (ms.map PyData.int)).map (·.length)).sum ≤ 40 * ms.length := fun ms => by
    induction ms with
    | nil => intro _; exact ⟨rfl, Nat.le_refl _⟩
    | cons m ms ih =>
      intro q
      obtain ⟨i1, i2⟩ := ih fun n hn => q n (List.mem_cons_of_mem _ hn)
      have l1 := (intlen (q m (List.mem_cons_self ..)).1 (q m (List.mem_cons_self ..)).2).1
      have e : PyData.shownAll ((m :: ms).map PyData.int) = Str.ofString (toString m) :: PyData.shownAll (ms.map PyData.int) := rfl
      rw [e, List.length_cons, List.map_cons, List.sum_cons, List.length_cons, i1]
      refine ⟨rfl, ?_⟩
      show (Str.ofString (toString m)).length + _ ≤ _
      omega
  refine ⟨a1 ns h, ?_, ?_⟩
  · show PyData.depthAll (ns.map PyData.int) + 1 ≤ 50
    rw [a2]
    decide
  · obtain ⟨b1, b2⟩ := a3 ns h
    have b3 := PySem.listText_len_le (PyData.shownAll (ns.map PyData.int))
    show (listText (PyData.shownAll (ns.map PyData.int))).length ≤ 100000
    rw [b1] at b3
    omega
theorem pairEq (a b c d : Int) : (if a = c then decide (b = d) else false) = PyData.eqv (.list [.int a, .int b]) (.list [.int c, .int d]) := by
  show _ = ((a == c) && ((b == d) && true))
  by_cases h : a = c
  · rw [if_pos h, h]
    by_cases g : b = d
    · rw [g]
      simp
    · simp [g]
  · rw [if_neg h]
    simp [h]
/-- an object beside the pool is stored to -/
theorem PoolAt.same' {p q a : Addr} {H : Hp} {o : HO} (h : PoolAt H p q) (f : Sf p q H a o) (o' : HO) : PoolAt (upd H a o') p q := by
  obtain ⟨ns, i, x, z, b, h1, h2, h3⟩ := h
  exact ⟨ns, i, x, z, b, by rw [upd_ne f.np.symm]; exact h1, by rw [upd_ne f.nq.symm]; exact h2, h3⟩
theorem tabs_put {T : List (Addr × Str)} {p q a : Addr} {H : Hp} {xs : List V} (t : LamX.Tabs T H) (f : Sf p q H a (.lst xs)) (o' : HO) : LamX.Tabs T (upd H a o') := by
  intro r hr
  obtain ⟨ps, e1, e2, e3⟩ := t r hr
  have far : ∀ c o, H c = some o → (∀ xs, o ≠ .lst xs) → upd H a o' c = some o := fun c o e n => by
    rw [upd_ne (fun z => n xs (by rw [z, f.e] at e; exact (Option.some.inj e).symm))]
    exact e
  refine ⟨ps, far _ _ e1 (fun _ e => by cases e), e2, fun pos cv hc => ?_⟩
  obtain ⟨c, e4, e5⟩ := e3 pos cv hc
  exact ⟨c, e4, far _ _ e5 (fun _ e => by unfold LamX.CodeO at e; cases e)⟩
theorem ifTwo {A B : Prop} {x z : Str} (h : B) : if (!PyData.eqv (.list [.str x, .str z]) (.list [.str x, .str z])) = true then A else B := by
  rw [eqv_two]
  exact h
/-! ### the ways in which a handle is asked for -/
theorem hd_binds {K : PySem.W.Frag} {f : Addr} {fd : FuncData} (F : FunD K "__init__" "Handle.__init__" (defArgs sHdInit) (defBody sHdInit) (defScope sHdInit) [.int 0] [("entry", .int 0)] f fd) :
    KBn K fd ["self", "number", "turn", "entry"] 3 ["entry"] (fun us ws => us ++ ws) (fun vs zs => vs ++ zs) ∧
    (∃ ds, Vals [.int 0, .int 0] ds ∧ Binds K fd ["self", "number", "turn", "entry"] ds) ∧ ∃ ds, Vals [.int 0] ds ∧ Binds K fd ["self", "number", "turn", "entry"] ds := by
  refine ⟨?_, ?_, ?_⟩
  · obtain ⟨_, _, z⟩ := F.kbinds (ps := ["self", "number", "turn", "entry"]) 3 ["entry"] [] (fun {α} vs _ _ zs => vs ++ zs) (by simp) (by simp) (fun _ h => nomatch h) (fun r1 _ _ r4 => r1.append r4) (fun T D doc pm an cdv ct us its mv ws l1 l2 l3 l4 => by
      match us, its, mv, ws, l1, l2, l3, l4 with
      | [a, b, c], [i], [], [e], _, _, _, _ => exact ⟨_, rfl, rfl⟩)
    exact z
  · exact F.binds (ps := ["self", "number", "turn", "entry"]) 2 0 (by simp) rfl (fun T D doc pm an cdv ct us its ks l1 l2 l3 => by
      match us, its, ks, l1, l2, l3 with
      | [a, b], [i], [e], _, _, _ => exact ⟨_, rfl, ⟨_, _, _, _, _, _, rfl, rfl, rfl⟩⟩) (by simp)
  · exact F.binds (ps := ["self", "number", "turn", "entry"]) 3 1 (by simp) rfl (fun T D doc pm an cdv ct us its ks l1 l2 l3 => by
      match us, its, ks, l1, l2, l3 with
      | [a, b, c], [i], [e], _, _, _ => exact ⟨_, rfl, ⟨_, _, _, _, _, _, rfl, rfl, rfl⟩⟩) (by simp)
/-! ### deeds -/
abbrev sTbGive : Stmt := inClass (top 25) 6
abbrev sTbGiven : Stmt := inClass (top 25) 7
abbrev sTbRenewed : Stmt := inClass (top 25) 8
abbrev sTbTurnOf : Stmt := inClass (top 25) 9
abbrev sTbClose : Stmt := inClass (top 25) 10
abbrev sTbUse : Stmt := inClass (top 25) 12
section
variable {X : Cx}
/-- xs[i], i a count -/
def rGetN (K : PySem.W.Frag) : V → V → Hp → VK → Prop := fun x y H Q => ∃ p xs, ∃ (j : Nat), ∃ v, x = .ref p ∧ y = .int (j : Nat) ∧ SqL K H p xs ∧ xs[j]? = some v ∧ Q v H
theorem get_listN : PGet X (rGetN X.K) := by
  intro pins s σ H x y ov iv Q I rx ry h
  obtain ⟨p, xs, j, z, rfl, rfl, hq, he, q⟩ := h
  cases rx
  obtain ⟨t, rfl⟩ := ry
  obtain ⟨its, r, pl, hz⟩ := I.list hq
  obtain ⟨w, ew, rw'⟩ := r.get he
  have hl := r.length
  have hn := line63
  have hj : j < xs.length := (List.getElem?_eq_some_iff.mp he).1
  exact PySem.wpAny_getItem_list (x := w) pl.isList (Int.natCast_nonneg _) (by omega) (by rw [Int.toNat_natCast]; simpa using ew) ⟨z, H, I, rw', q⟩
end
theorem ixN_at {n j : Nat} (hj : j < n) : ixN n (j : Int) = some j := by
  unfold ixN
  rw [if_pos (by omega), if_pos (by omega), Int.toNat_natCast]
/-- all but the table's own objects is as it was -/
def Off (x pe pc pf : Addr) (H H' : Hp) : Prop := ∀ b o, b ≠ x → b ≠ pe → b ≠ pc → b ≠ pf → H b = some o → H' b = some o
section
variable {x pe pc pf a : Addr} {H H' H2 : Hp} {o : HO}
theorem Off.refl : Off x pe pc pf H H := fun _ _ _ _ _ _ e => e
theorem Off.of (s : Same H H') : Off x pe pc pf H H' := fun b o _ _ _ _ e => s b o e
theorem Off.at1 (s : Off x pe pc pf H H') (o : HO) : Off x pe pc pf H (upd H' x o) := fun b u n1 n2 n3 n4 e => by
  rw [upd_ne n1]
  exact s b u n1 n2 n3 n4 e
theorem Off.at2 (s : Off x pe pc pf H H') (o : HO) : Off x pe pc pf H (upd H' pe o) := fun b u n1 n2 n3 n4 e => by
  rw [upd_ne n2]
  exact s b u n1 n2 n3 n4 e
theorem Off.at3 (s : Off x pe pc pf H H') (o : HO) : Off x pe pc pf H (upd H' pc o) := fun b u n1 n2 n3 n4 e => by
  rw [upd_ne n3]
  exact s b u n1 n2 n3 n4 e
theorem Off.at4 (s : Off x pe pc pf H H') (o : HO) : Off x pe pc pf H (upd H' pf o) := fun b u n1 n2 n3 n4 e => by
  rw [upd_ne n4]
  exact s b u n1 n2 n3 n4 e
theorem Off.same (s : Off x pe pc pf H H') (s2 : Same H' H2) : Off x pe pc pf H H2 := fun b u n1 n2 n3 n4 e => s2 b u (s b u n1 n2 n3 n4 e)
theorem Off.trans (s : Off x pe pc pf H H') (s2 : Off x pe pc pf H' H2) : Off x pe pc pf H H2 := fun b u n1 n2 n3 n4 e => s2 b u n1 n2 n3 n4 (s b u n1 n2 n3 n4 e)
end
/-- an entry or none -/
def EntV (v : V) : Prop := v = .non ∨ ∃ e : Int, v = .int e
def useW (n : Nat) (tn : Int) (es : List V) (cs : List Int) (j : Nat) (t e : Int) : Str :=
  if n ≤ j then "refused" else match es[j]? with
    | some (.int e') => if (cs.getD j 0 - 1) % tn = t then (if e' = e then "done" else "fault") else "refused"
    | _ => "refused"
def spTurnOf (C : Addr) : Sp := fun vs H Q _ => ∃ (x dx pe pc pf : Addr) (n : Nat) (bk : Str) (tn : Int) (es : List V) (cs : List Int) (many start : Int) (fr : List Int) (j : Nat) (c : Int), vs = [.ref x, .int (j : Nat)] ∧ TAt H C x dx pe pc pf n bk tn es cs many start fr ∧ 0 < tn ∧ cs[j]? = some c ∧ Q (.int ((c - 1) % tn)) H
/-- a new thing under the number j -/
def spRenewed (C Ch : Addr) : Sp := fun vs H Q _ => ∃ (x dx pe pc pf : Addr) (n : Nat) (bk : Str) (tn : Int) (es : List V) (cs : List Int) (many start : Int) (fr : List Int) (j : Nat) (c : Int), vs = [.ref x, .int (j : Nat)] ∧ TAt H C x dx pe pc pf n bk tn es cs many start fr ∧ 0 < tn ∧ 0 ≤ many ∧ j < n ∧ cs[j]? = some c ∧
  ∀ H' h, Off x pe pc pf H H' → TAt H' C x dx pe pc pf n bk tn (es.set j (.int many)) (cs.set j (c + 1)) (many + 1) start fr → H h = none → HAt H' Ch h (j : Nat) (c % tn) many → Q (.ref h) H'
def spGiven (C Ch : Addr) : Sp := fun vs H Q _ => ∃ (x dx pe pc pf : Addr) (n : Nat) (bk : Str) (tn : Int) (es : List V) (cs : List Int) (many start : Int) (fr : List Int) (j : Nat) (c : Int), vs = [.ref x, .int (j : Nat)] ∧ TAt H C x dx pe pc pf n bk tn es cs many start fr ∧ 0 < tn ∧ 0 ≤ many ∧ j < n ∧ cs[j]? = some c ∧ fr.length ≤ 100 ∧
  ∀ H' h pf', Off x pe pc pf H H' → H pf' = none → TAt H' C x dx pe pc pf' n bk tn (es.set j (.int many)) (cs.set j (c + 1)) (many + 1) ((j : Int) + 1) (fr.filter fun m => !decide (m = (j : Int))) → H h = none → HAt H' Ch h (j : Nat) (c % tn) many → Q (.ref h) H'
def spUse (C Ch : Addr) : Sp := fun vs H Q _ => ∃ (x dx pe pc pf : Addr) (n : Nat) (bk : Str) (tn : Int) (es : List V) (cs : List Int) (many start : Int) (fr : List Int) (v : V), vs = [.ref x, v] ∧ TAt H C x dx pe pc pf n bk tn es cs many start fr ∧ 0 < tn ∧ (∀ u ∈ es, EntV u) ∧
  ((v = .non ∧ Q (.str "refused") H) ∨ ∃ (h : Addr) (j : Nat) (t e : Int), v = .ref h ∧ HAt H Ch h (j : Nat) t e ∧ Q (.str (useW n tn es cs j t e)) H)
def spClose (C Ch : Addr) : Sp := fun vs H Q _ => ∃ (x dx pe pc pf : Addr) (n : Nat) (bk : Str) (tn : Int) (es : List V) (cs : List Int) (many start : Int) (fr : List Int) (v : V), vs = [.ref x, v] ∧ TAt H C x dx pe pc pf n bk tn es cs many start fr ∧ 0 < tn ∧ (∀ u ∈ es, EntV u) ∧ fr.length ≤ 100 ∧
  ((v = .non ∧ Q (.str "refused") H) ∨ ∃ (h : Addr) (j : Nat) (t e : Int), v = .ref h ∧ HAt H Ch h (j : Nat) t e ∧ h ≠ x ∧ h ≠ pe ∧ h ≠ pf ∧
    (useW n tn es cs j t e ≠ "done" → Q (.str (useW n tn es cs j t e)) H) ∧
    (useW n tn es cs j t e = "done" → ∀ H', Off x pe pc pf H H' → TAt H' C x dx pe pc pf n bk tn (es.set j .non) cs many start (fr ++ [(j : Int)]) → Q (.str "done") H'))
section
variable {P : Program} {w : World} {K : PySem.W.Frag} {mg : Str → Option Value} {base : Heap}
theorem scTbTurnOf : FnScope ["self", "number"] ["self", "number"] (defScope sTbTurnOf) := ⟨rfl, rfl, rfl, by decide +kernel, rfl, by decide +kernel, by decide +kernel⟩
theorem ok_tbTurnOf {f C : Addr} {fd : FuncData} (F : Fun K "_turn_of" "Table._turn_of" sTbTurnOf f fd) (S : TbCls K mg C) : FnOk P w K mg base CX0 1 f fd ["self", "number"] (spTurnOf C) := by
  refine F.ok scTbTurnOf (fun vs H Q E h => ?_) (fun cdv A outer s H vs Q E hr h => ?_)
  · obtain ⟨x, _, _, _, _, _, _, _, _, _, _, _, _, _, _, rfl, _⟩ := h
    rfl
  · obtain ⟨x, dx, pe, pc, pf, n, bk, tn, es, cs, many, start, fr, j, c, rfl, t, ht, hc, k⟩ := h
    refine ⟨_, pss_one (ps_ret (pe_op op_mod (pe_op op_sub (pe_ix ix_list (pe_fld (pv 0) (by rfl)) (pv 1) (fun _ _ => rfl)) pe_int) (pe_fld (pv 0) (by rfl)))), ?_⟩
    have hc' : (cs.map V.int)[j]? = some (.int c) := by rw [List.getElem?_map, hc]; rfl
    exact ⟨_, rfl, x, C, dx, _, .ref pc, rfl, t.ins, S.cl, S.n5, rfl, _, rfl, pc, _, _, _, rfl, rfl, .inl (.inl t.cnt), atI_nat hc', _, _, rfl, rfl, _, rfl, x, C, dx, _, .int tn, rfl, t.ins, S.cl, S.n3, rfl, _, _, rfl, rfl, ht, k⟩
theorem scTbRenewed : FnScope ["self", "number", "entry"] ["self", "number"] (defScope sTbRenewed) := ⟨rfl, rfl, rfl, by decide +kernel, rfl, by decide +kernel, by decide +kernel⟩
theorem ok_tbRenewed {f C Ch CB fT fH : Addr} {fd fdT fdH : FuncData} (F : Fun K "_renewed" "Table._renewed" sTbRenewed f fd) (S : TbCls K mg C) (Sh : HCls K mg Ch)
    (MT : Meth K C "_turn_of" fT) (GT : FnOk P w K mg base CX0 1 fT fdT ["self", "number"] (spTurnOf C)) (bT : Binds K fdT ["self", "number"] [])
    (MH : Mk K Ch fH) (GH : FnOk P w K mg base (L2.CX P w) 3 fH fdH ["self", "number", "turn", "entry"] (spHandle K Ch CB)) (kb : KBn K fdH ["self", "number", "turn", "entry"] 3 ["entry"] (fun us ws => us ++ ws) (fun vs zs => vs ++ zs)) :
    FnOk P w K mg base CX0 5 f fd ["self", "number"] (spRenewed C Ch) := by
  refine F.ok scTbRenewed (fun vs H Q E h => ?_) (fun cdv A outer s H vs Q E hr h => ?_)
  · obtain ⟨x, _, _, _, _, _, _, _, _, _, _, _, _, _, _, rfl, _⟩ := h
    rfl
  · obtain ⟨x, dx, pe, pc, pf, n, bk, tn, es, cs, many, start, fr, j, c, rfl, t, ht, hm, hj, hc, k⟩ := h
    refine ⟨_, pss_cons (ps_set (i := 2) scTbRenewed.nd rfl (.inl rfl) (pe_fld (pv 0) (by rfl)))
      (pss_cons (ps_fldaug (pv 0) pe_int in_add)
      (pss_cons (ps_asg (pv 2) (pg_sub (pe_fld (pv 0) (by rfl)) (pv 1) set_list))
      (pss_cons (ps_augS (pe_fld (pv 0) (by rfl)) (pv 1) get_listN pe_int ip_add set_list)
      (pss_one (ps_ret (pe_makeK MH GH hr rfl Sh.g kb passF (pa_cons (pv 1) (pa_cons (pe_meth (pv 0) S.cl MT GT (hr.mono (by decide)) bT .nil pass0 (pa_cons (pv 1) pa_nil)) pa_nil)) (pk_cons (pv 2) pk_nil))))))), ?_⟩
    have nx : ∀ {a : Addr} {xs : List V}, H a = some (.lst xs) → a ≠ x := fun e q => by rw [q, t.ins] at e; cases e
    have e1 := nx t.ens
    have e2 := nx t.cnt
    have e3 := nx t.fre
    have hc' : (cs.map V.int)[j]? = some (.int c) := by rw [List.getElem?_map, hc]; rfl
    refine ⟨_, rfl, x, C, dx, _, .int many, rfl, t.ins, S.cl, S.n6, rfl, ?_⟩
    refine ⟨_, rfl, x, C, dx, _, .int many, rfl, t.ins, S.cl, S.n6, rfl, _, _, rfl, rfl, dx, _, t.ins, (show 8 < 1000 by decide), ?_⟩
    have o1 : Off x pe pc pf H (upd H x (.ins C dx (putF "_many_entries" (.int (many + 1)) (tbF (.int (n : Nat)) (.str bk) (.int tn) pe pc many start pf)))) := Off.refl.at1 _
    have i1 : (upd H x (.ins C dx (putF "_many_entries" (.int (many + 1)) (tbF (.int (n : Nat)) (.str bk) (.int tn) pe pc many start pf)))) x = some (.ins C dx (tbF (.int (n : Nat)) (.str bk) (.int tn) pe pc (many + 1) start pf)) := upd_same
    have p1 : (upd H x (.ins C dx (putF "_many_entries" (.int (many + 1)) (tbF (.int (n : Nat)) (.str bk) (.int tn) pe pc many start pf)))) pe = _ := (upd_ne e1).trans t.ens
    have c1 : (upd H x (.ins C dx (putF "_many_entries" (.int (many + 1)) (tbF (.int (n : Nat)) (.str bk) (.int tn) pe pc many start pf)))) pc = _ := (upd_ne e2).trans t.cnt
    have f1 : (upd H x (.ins C dx (putF "_many_entries" (.int (many + 1)) (tbF (.int (n : Nat)) (.str bk) (.int tn) pe pc many start pf)))) pf = _ := (upd_ne e3).trans t.fre
    generalize upd H x (.ins C dx (putF "_many_entries" (.int (many + 1)) (tbF (.int (n : Nat)) (.str bk) (.int tn) pe pc many start pf))) = H1 at o1 i1 p1 c1 f1 ⊢
    refine ⟨_, rfl, _, rfl, x, C, dx, _, .ref pe, rfl, i1, S.cl, S.n4, rfl, _, rfl, pe, es, _, j, rfl, rfl, p1, ixN_at (by rw [t.len]; exact hj), ?_⟩
    have o2 := o1.at2 (.lst (es.set j (.int many)))
    have i2 : (upd H1 pe (.lst (es.set j (.int many)))) x = _ := (upd_ne e1.symm).trans i1
    have p2 : (upd H1 pe (.lst (es.set j (.int many)))) pe = _ := upd_same
    have c2 : (upd H1 pe (.lst (es.set j (.int many)))) pc = _ := (upd_ne t.q1.symm).trans c1
    have f2 : (upd H1 pe (.lst (es.set j (.int many)))) pf = _ := (upd_ne t.q2.symm).trans f1
    generalize upd H1 pe (.lst (es.set j (.int many))) = H2 at o2 i2 p2 c2 f2 ⊢
    clear o1 i1 p1 c1 f1
    refine ⟨_, rfl, x, C, dx, _, .ref pc, rfl, i2, S.cl, S.n5, rfl, _, rfl, pc, _, j, _, rfl, rfl, .inl (.inl c2), hc', _, _, rfl, rfl, pc, _, _, j, rfl, rfl, c2, ixN_at (by rw [List.length_map, t.lec]; exact hj), ?_⟩
    have em : (cs.map V.int).set j (.int (c + 1)) = (cs.set j (c + 1)).map V.int := by rw [List.map_set]
    rw [em]
    have o3 := o2.at3 (.lst ((cs.set j (c + 1)).map V.int))
    have i3 : (upd H2 pc (.lst ((cs.set j (c + 1)).map V.int))) x = _ := (upd_ne e2.symm).trans i2
    have p3 : (upd H2 pc (.lst ((cs.set j (c + 1)).map V.int))) pe = _ := (upd_ne t.q1).trans p2
    have c3 : (upd H2 pc (.lst ((cs.set j (c + 1)).map V.int))) pc = _ := upd_same
    have f3 : (upd H2 pc (.lst ((cs.set j (c + 1)).map V.int))) pf = _ := (upd_ne t.q3.symm).trans f2
    generalize upd H2 pc (.lst ((cs.set j (c + 1)).map V.int)) = H3 at o3 i3 p3 c3 f3 ⊢
    clear o2 i2 p2 c2 f2
    have t3 : TAt H3 C x dx pe pc pf n bk tn (es.set j (.int many)) (cs.set j (c + 1)) (many + 1) start fr := ⟨i3, p3, c3, f3, by rw [List.length_set]; exact t.len, by rw [List.length_set]; exact t.lec, t.lim, t.q1, t.q2, t.q3⟩
    have hc3 : (cs.set j (c + 1))[j]? = some (c + 1) := by rw [List.getElem?_set_self (by rw [t.lec]; exact hj)]
    refine ⟨_, rfl, _, rfl, x, dx, _, rfl, i3, rfl, _, rfl, x, dx, pe, pc, pf, n, bk, tn, _, _, _, _, _, j, _, rfl, t3, ht, hc3, _, rfl, rfl, rfl, ?_⟩
    have ec : (c + 1 - 1) % tn = c % tn := by rw [Int.add_sub_cancel]
    rw [ec]
    refine mk_ok (Int.natCast_nonneg _) (Int.emod_nonneg _ (by omega)) hm fun H4 h s4 hh ha => ?_
    refine k H4 h (o3.same s4) (t3.same s4) ?_ ha
    cases e : H h with
    | none => rfl
    | some u =>
      have hne : ∀ {a : Addr} {u : HO}, H3 a = some u → h ≠ a := fun q z => by rw [z, q] at hh; cases hh
      have := o3 h u (hne i3) (hne p3) (hne c3) (hne f3) e
      rw [hh] at this
      cases this
end
theorem inV_ints {a : Int} : ∀ {F : List Int}, inV (.int a) (F.map V.int) = decide (a ∈ F)
  | [] => by simp [inV]
  | b :: F => by
    have ih := inV_ints (a := a) (F := F)
    unfold inV at ih ⊢
    rw [List.map_cons, List.any_cons, ih]
    show ((b == a) || decide (a ∈ F)) = _
    by_cases h : b = a
    · simp [h]
    · have h2 : ¬ a = b := fun q => h q.symm
      simp [h, h2]
theorem flat_ints (F : List Int) : (F.map V.int).all flatV = true := by
  rw [List.all_map]
  exact List.all_eq_true.mpr fun _ _ => rfl
def spGive (C Ch CN : Addr) : Sp := fun vs H Q E => ∃ (x dx pe pc pf : Addr) (n : Nat) (bk : Str) (tn : Int) (es : List V) (cs : List Int) (many start : Int) (fr : List Int) (v : V), vs = [.ref x, v] ∧ TAt H C x dx pe pc pf n bk tn es cs many start fr ∧ 0 < tn ∧ 0 ≤ many ∧ fr.length ≤ 100 ∧
  ((v = .non ∧ freeL bk start fr es = [] ∧ ∀ H', Same H H' → Q .non H') ∨
   (∃ (j : Nat) (c : Int), ((v = .non ∧ (freeL bk start fr es).head? = some (j : Int)) ∨ (v = .int (j : Nat) ∧ (j : Int) ∈ freeL bk start fr es)) ∧ j < n ∧ cs[j]? = some c ∧
     ∀ H' h pf', Off x pe pc pf H H' → H pf' = none → TAt H' C x dx pe pc pf' n bk tn (es.set j (.int many)) (cs.set j (c + 1)) (many + 1) ((j : Int) + 1) (fr.filter fun m => !decide (m = (j : Int))) → H h = none → HAt H' Ch h (j : Nat) (c % tn) many → Q (.ref h) H') ∨
   (∃ k, Kd H v k ∧ v ≠ .non ∧ (isCount v = false ∨ ∃ i, v = .int i ∧ i ∉ freeL bk start fr es) ∧ ∀ H', Same H H' → Bad E H' CN v))
theorem freeL_lt {bk : Str} {start : Int} {fr : List Int} {es : List V} : True := trivial
section
variable {P : Program} {w : World} {K : PySem.W.Frag} {mg : Str → Option Value} {base : Heap}
theorem scTbGiven : FnScope ["self", "number", "other"] ["self", "number"] (defScope sTbGiven) := ⟨rfl, rfl, rfl, by decide +kernel, rfl, by decide +kernel, by decide +kernel⟩
theorem ok_tbGiven {f C Ch fR : Addr} {fd fdR : FuncData} (F : Fun K "_given" "Table._given" sTbGiven f fd) (S : TbCls K mg C)
    (MR : Meth K C "_renewed" fR) (GR : FnOk P w K mg base CX0 5 fR fdR ["self", "number"] (spRenewed C Ch)) (bR : Binds K fdR ["self", "number"] []) :
    FnOk P w K mg base CX0 6 f fd ["self", "number"] (spGiven C Ch) := by
  refine F.ok scTbGiven (fun vs H Q E h => ?_) (fun cdv A outer s H vs Q E hr h => ?_)
  · obtain ⟨x, _, _, _, _, _, _, _, _, _, _, _, _, _, _, rfl, _⟩ := h
    rfl
  · obtain ⟨x, dx, pe, pc, pf, n, bk, tn, es, cs, many, start, fr, j, c, rfl, t, ht, hm, hj, hc, hf, k⟩ := h
    refine ⟨_, pss_cons (ps_fld (pv 0) (pe_op op_add (pv 1) pe_int) (by rfl))
      (pss_cons (ps_fld (pv 0) (pe_lc (own := [("other", 2)]) (g := gName 2) (by rfl) scTbGiven.nd (pi_list (pe_fld (pv 0) (by rfl))) (blkOk_by (own := [("other", 2)]) (N := ["self", "number", "other"]) (sc := defScope sTbGiven) (by decide +kernel))
        (fun _ _ _ _ _ => pg_name (i := 2) scTbGiven.nd rfl (Or.inl rfl)) (fun _ _ _ _ _ => pts_one (pt_cmpR op_ne (pv 2) (pv 1) (by rfl))) (fun _ _ _ _ _ => pv 2)) (by rfl))
      (pss_one (ps_ret (pe_meth (pv 0) S.cl MR GR hr bR .nil pass0 (pa_cons (pv 1) pa_nil))))), ?_⟩
    have nx : ∀ {a : Addr} {xs : List V}, H a = some (.lst xs) → a ≠ x := fun e q => by rw [q, t.ins] at e; cases e
    have e1 := nx t.ens
    have e2 := nx t.cnt
    have e3 := nx t.fre
    refine ⟨_, rfl, _, _, rfl, rfl, _, rfl, x, C, dx, _, rfl, t.ins, S.cl, S.n7, (show 8 < 1000 by decide), ?_⟩
    have o1 : SameX x H (upd H x (.ins C dx (putF "_start" (.int ((j : Int) + 1)) (tbF (.int (n : Nat)) (.str bk) (.int tn) pe pc many start pf)))) := SameX.put (fun _ _ _ e => e) _
    have i1 : (upd H x (.ins C dx (putF "_start" (.int ((j : Int) + 1)) (tbF (.int (n : Nat)) (.str bk) (.int tn) pe pc many start pf)))) x = some (.ins C dx (tbF (.int (n : Nat)) (.str bk) (.int tn) pe pc many ((j : Int) + 1) pf)) := upd_same
    generalize upd H x (.ins C dx (putF "_start" (.int ((j : Int) + 1)) (tbF (.int (n : Nat)) (.str bk) (.int tn) pe pc many start pf))) = H1 at o1 i1 ⊢
    have f1 := o1 _ _ e3 t.fre
    refine ⟨_, rfl, x, C, dx, _, .ref pf, rfl, i1, S.cl, S.n8, rfl, pf, rfl, ⟨_, .inl (.inl f1)⟩, fun D hD => lc_list (xs := fr.map V.int) (fun i H' => Same H1 H' ∧ H' D = some (.lst (((fr.take i).filter fun m => !decide (m = (j : Int))).map V.int))) ⟨Same.new hD, upd_same⟩ (fun i H' _ e => .inl (.inl (e.1 _ _ f1))) ?_ ?_⟩
    · rintro i z H' hz ⟨s1, d1⟩
      rw [List.getElem?_map] at hz
      obtain ⟨m, hm2, rfl⟩ := Option.map_eq_some_iff.mp hz
      have hi : i < fr.length := (List.getElem?_eq_some_iff.mp hm2).1
      have htk : fr.take (i + 1) = fr.take i ++ [m] := by rw [List.take_succ, hm2]; rfl
      refine ⟨rfl, _, rfl, _, rfl, rfl, _, rfl, ?_⟩
      have dq : decide (V.int m = V.int (j : Nat)) = decide (m = (j : Int)) := decide_eq_decide.mpr ⟨fun q => by injection q, fun q => by rw [q]⟩
      rw [dq]
      cases q : decide (m = (j : Int)) with
      | true =>
        refine iteF ⟨s1, ?_⟩
        have : [m].filter (fun m => !decide (m = (j : Int))) = [] := by simp [q]
        rw [htk, List.filter_append, this, List.append_nil, d1]
      | false =>
        have : [m].filter (fun m => !decide (m = (j : Int))) = [m] := by simp [q]
        refine iteT ⟨_, rfl, _, d1, ?_, s1.put hD, ?_⟩
        · rw [List.length_map]
          refine Nat.lt_of_le_of_lt (List.length_filter_le _ _) ?_
          rw [List.length_take]
          exact Nat.lt_of_le_of_lt (Nat.le_trans (Nat.min_le_right ..) hf) (by decide)
        · rw [upd_same, htk, List.filter_append, this, List.map_append]
          rfl
    · rintro H2 ⟨s2, d2⟩
      rw [List.length_map, List.take_length] at d2
      have nD : D ≠ x := fun q => by rw [q, i1] at hD; cases hD
      have hD0 := o1.none i1 hD
      have i2 := s2 _ _ i1
      refine ⟨_, rfl, x, C, dx, _, rfl, i2, S.cl, S.n8, (show 8 < 1000 by decide), ?_⟩
      have o3 : SameX x H (upd H2 x (.ins C dx (putF "_freed" (.ref D) (tbF (.int (n : Nat)) (.str bk) (.int tn) pe pc many ((j : Int) + 1) pf)))) := SameX.put (fun b u nb e => s2 b u (o1 b u nb e)) _
      have i3 : (upd H2 x (.ins C dx (putF "_freed" (.ref D) (tbF (.int (n : Nat)) (.str bk) (.int tn) pe pc many ((j : Int) + 1) pf)))) x = some (.ins C dx (tbF (.int (n : Nat)) (.str bk) (.int tn) pe pc many ((j : Int) + 1) D)) := upd_same
      have d3 : (upd H2 x (.ins C dx (putF "_freed" (.ref D) (tbF (.int (n : Nat)) (.str bk) (.int tn) pe pc many ((j : Int) + 1) pf)))) D = _ := (upd_ne nD).trans d2
      generalize upd H2 x (.ins C dx (putF "_freed" (.ref D) (tbF (.int (n : Nat)) (.str bk) (.int tn) pe pc many ((j : Int) + 1) pf))) = H3 at o3 i3 d3 ⊢
      have t3 : TAt H3 C x dx pe pc D n bk tn es cs many ((j : Int) + 1) (fr.filter fun m => !decide (m = (j : Int))) := ⟨i3, o3 _ _ e1 t.ens, o3 _ _ e2 t.cnt, d3, t.len, t.lec, t.lim, t.q1, ne_of_none t.ens hD0, ne_of_none t.cnt hD0⟩
      refine ⟨_, rfl, x, dx, _, rfl, i3, rfl, _, rfl, x, dx, pe, pc, D, n, bk, tn, es, cs, many, _, _, j, c, rfl, t3, ht, hm, hj, hc, fun H4 h o4 t4 hh ha => ?_⟩
      refine k H4 h D ?_ hD0 t4 ?_ ha
      · intro b u n1 n2 n3 n4 e
        exact o4 b u n1 n2 n3 (ne_of_none e hD0) (o3 b u n1 e)
      · exact o3.none i3 hh
theorem scTbUse : FnScope ["self", "handle", "entry"] ["self", "handle"] (defScope sTbUse) := ⟨rfl, rfl, rfl, by decide +kernel, rfl, by decide +kernel, by decide +kernel⟩
theorem ok_tbUse {f C Ch fT pNu pTu pEn gNu gTu gEn : Addr} {fd fdT fdNu fdTu fdEn : FuncData} (F : Fun K "use" "Table.use" sTbUse f fd) (S : TbCls K mg C) (Sh : HCls K mg Ch)
    (MT : Meth K C "_turn_of" fT) (GT : FnOk P w K mg base CX0 1 fT fdT ["self", "number"] (spTurnOf C)) (bT : Binds K fdT ["self", "number"] [])
    (pNu : PropOf K Ch "number" pNu gNu) (GNu : FnOk P w K mg base CX0 1 gNu fdNu ["self"] (spGet K "_number")) (bNu : Binds K fdNu ["self"] [])
    (pTu : PropOf K Ch "turn" pTu gTu) (GTu : FnOk P w K mg base CX0 1 gTu fdTu ["self"] (spGet K "_turn")) (bTu : Binds K fdTu ["self"] [])
    (pEn : PropOf K Ch "entry" pEn gEn) (GEn : FnOk P w K mg base CX0 1 gEn fdEn ["self"] (spGet K "_entry")) (bEn : Binds K fdEn ["self"] []) :
    FnOk P w K mg base CX0 3 f fd ["self", "handle"] (spUse C Ch) := by
  refine F.ok scTbUse (fun vs H Q E h => ?_) (fun cdv A outer s H vs Q E hr h => ?_)
  · obtain ⟨x, _, _, _, _, _, _, _, _, _, _, _, _, _, rfl, _⟩ := h
    rfl
  · obtain ⟨x, dx, pe, pc, pf, n, bk, tn, es, cs, many, start, fr, v, rfl, t, ht, hE, hv⟩ := h
    refine ⟨_, pss_cons (ps_if (PW.pt (pw_or (pt_cmp (pc_isN (pv 1))) (pw_or1 (pt_cmpR op_ge (pe_prop (pv 1) Sh.cl pNu GNu hr bNu .nil pass0 (by rfl)) (pe_fld (pv 0) (by rfl)) (by rfl))))) (pss_one (ps_ret pe_str)) pss_nil)
      (pss_cons (ps_set (i := 2) scTbUse.nd rfl (.inl rfl) (pe_ix ix_list (pe_fld (pv 0) (by rfl)) (pe_prop (pv 1) Sh.cl pNu GNu hr bNu .nil pass0 (by rfl)) (fun _ _ => rfl)))
      (pss_cons (ps_if (PW.pt (pw_or (pt_cmp (pc_isN (pv 2))) (pw_or1 (pt_cmpR op_ne (pe_meth (pv 0) S.cl MT GT (hr.mono (by decide)) bT .nil pass0 (pa_cons (pe_prop (pv 1) Sh.cl pNu GNu hr bNu .nil pass0 (by rfl)) pa_nil)) (pe_prop (pv 1) Sh.cl pTu GTu hr bTu .nil pass0 (by rfl)) (by rfl))))) (pss_one (ps_ret pe_str)) pss_nil)
      (pss_one (ps_ret (pe_ifExp (pt_cmpR op_eq (pv 2) (pe_prop (pv 1) Sh.cl pEn GEn hr bEn .nil pass0 (by rfl)) (by rfl)) pe_str pe_str))))), ?_⟩
    rcases hv with ⟨rfl, k⟩ | ⟨h, j, tt, ee, rfl, ⟨dh, hh⟩, k⟩
    · exact ⟨_, rfl, _, rfl, iteT (iteT k)⟩
    · refine ⟨_, rfl, _, rfl, iteF ⟨_, rfl, h, dh, _, rfl, hh, h, Ch, dh, _, .int (j : Nat), rfl, hh, Sh.cl, Sh.n1, rfl, _, rfl, x, C, dx, _, .int (n : Nat), rfl, t.ins, S.cl, S.n1, rfl, _, _, rfl, rfl, _, rfl, ?_⟩⟩
      by_cases hj : n ≤ j
      · rw [decide_eq_true (show ((n : Nat) : Int) ≤ (j : Nat) by omega)]
        rw [useW, if_pos hj] at k
        exact iteT k
      · rw [decide_eq_false (show ¬ ((n : Nat) : Int) ≤ (j : Nat) by omega)]
        rw [useW, if_neg hj] at k
        refine iteF ?_
        have hl : j < es.length := by rw [t.len]; omega
        have hl2 : j < cs.length := by rw [t.lec]; omega
        have hu : es[j]? = some es[j] := by simp [hl]
        have hc : cs[j]? = some cs[j] := by simp [hl2]
        have hu2 := hE es[j] (List.getElem_mem hl)
        generalize es[j] = u at hu hu2
        rw [hu] at k
        refine ⟨_, rfl, x, C, dx, _, .ref pe, rfl, t.ins, S.cl, S.n4, rfl, _, rfl, h, dh, _, rfl, hh, h, Ch, dh, _, .int (j : Nat), rfl, hh, Sh.cl, Sh.n1, rfl, pe, es, _, u, rfl, rfl, .inl (.inl t.ens), atI_nat hu, ?_⟩
        rcases hu2 with rfl | ⟨e', rfl⟩
        · exact ⟨_, rfl, _, rfl, iteT (iteT k)⟩
        · refine ⟨_, rfl, _, rfl, iteF ?_⟩
          have hcd : cs.getD j 0 = cs[j] := by rw [List.getD_eq_getElem?_getD, hc]; rfl
          generalize cs[j] = c at hc hcd
          rw [hcd] at k
          refine ⟨_, rfl, x, dx, _, rfl, t.ins, rfl, _, rfl, h, dh, _, rfl, hh, h, Ch, dh, _, .int (j : Nat), rfl, hh, Sh.cl, Sh.n1, rfl, x, dx, pe, pc, pf, n, bk, tn, es, cs, many, start, fr, j, c, rfl, t, ht, hc, ?_⟩
          refine ⟨_, rfl, h, dh, _, rfl, hh, h, Ch, dh, _, .int tt, rfl, hh, Sh.cl, Sh.n2, rfl, rfl, _, rfl, ?_⟩
          have dq : ∀ a b : Int, decide (V.int a = V.int b) = decide (a = b) := fun a b => decide_eq_decide.mpr ⟨fun q => by injection q, fun q => by rw [q]⟩
          rw [dq]
          have k2 : Q (.str (if (c - 1) % tn = tt then (if e' = ee then "done" else "fault") else "refused")) H := k
          by_cases g : (c - 1) % tn = tt
          · rw [decide_eq_true g]
            rw [if_pos g] at k2
            refine iteF ⟨_, rfl, _, rfl, h, dh, _, rfl, hh, h, Ch, dh, _, .int ee, rfl, hh, Sh.cl, Sh.n3, rfl, rfl, _, rfl, ?_⟩
            rw [dq]
            by_cases g2 : e' = ee
            · rw [decide_eq_true g2]
              rw [if_pos g2] at k2
              exact iteT k2
            · rw [decide_eq_false g2]
              rw [if_neg g2] at k2
              exact iteF k2
          · rw [decide_eq_false g]
            rw [if_neg g] at k2
            exact iteT k2
end
section
variable {P : Program} {w : World} {K : PySem.W.Frag} {mg : Str → Option Value} {base : Heap}
theorem scTbClose : FnScope ["self", "handle", "word"] ["self", "handle"] (defScope sTbClose) := ⟨rfl, rfl, rfl, by decide +kernel, rfl, by decide +kernel, by decide +kernel⟩
theorem useW_lt {n : Nat} {tn : Int} {es : List V} {cs : List Int} {j : Nat} {t e : Int} (h : useW n tn es cs j t e = "done") : j < n := by
  unfold useW at h
  by_cases q : n ≤ j
  · rw [if_pos q] at h
    exact absurd h (by decide)
  · omega
theorem ok_tbClose {f C Ch fU pNu gNu : Addr} {fd fdU fdNu : FuncData} (F : Fun K "close" "Table.close" sTbClose f fd) (S : TbCls K mg C) (Sh : HCls K mg Ch)
    (MU : Meth K C "use" fU) (GU : FnOk P w K mg base CX0 3 fU fdU ["self", "handle"] (spUse C Ch)) (bU : Binds K fdU ["self", "handle"] [])
    (pNu : PropOf K Ch "number" pNu gNu) (GNu : FnOk P w K mg base CX0 1 gNu fdNu ["self"] (spGet K "_number")) (bNu : Binds K fdNu ["self"] []) :
    FnOk P w K mg base CX0 4 f fd ["self", "handle"] (spClose C Ch) := by
  refine F.ok scTbClose (fun vs H Q E h => ?_) (fun cdv A outer s H vs Q E hr h => ?_)
  · obtain ⟨x, _, _, _, _, _, _, _, _, _, _, _, _, _, rfl, _⟩ := h
    rfl
  · obtain ⟨x, dx, pe, pc, pf, n, bk, tn, es, cs, many, start, fr, v, rfl, t, ht, hE, hf, hv⟩ := h
    refine ⟨_, pss_cons (ps_set (i := 2) scTbClose.nd rfl (.inl rfl) (pe_meth (pv 0) S.cl MU GU hr bU .nil pass0 (pa_cons (pv 1) pa_nil)))
      (pss_cons (ps_if (pt_cmpR op_eq (pv 2) pe_str (nomark _))
        (pss_cons (ps_asg pe_non (pg_sub (pe_fld (pv 0) (by rfl)) (pe_prop (pv 1) Sh.cl pNu GNu (hr.mono (by decide)) bNu .nil pass0 (by rfl)) set_list))
        (pss_one (ps_expr (pe_bm PySem.F.plainAttrs_list PySem.F.slot_list_append PySem.F.type_list_append mt_append (pe_fld (pv 0) (by rfl)) (pa_cons (pe_prop (pv 1) Sh.cl pNu GNu (hr.mono (by decide)) bNu .nil pass0 (by rfl)) pa_nil))))) pss_nil)
      (pss_one (ps_ret (pv 2)))), ?_⟩
    rcases hv with ⟨rfl, k⟩ | ⟨h, j, tt, ee, rfl, ⟨dh, hh⟩, nx, ne, nf, no, yes⟩
    · exact ⟨_, rfl, x, dx, _, rfl, t.ins, rfl, _, rfl, x, dx, pe, pc, pf, n, bk, tn, es, cs, many, start, fr, _, rfl, t, ht, hE, .inl ⟨rfl, _, rfl, rfl, _, rfl, iteF ⟨_, rfl, k⟩⟩⟩
    · refine ⟨_, rfl, x, dx, _, rfl, t.ins, rfl, _, rfl, x, dx, pe, pc, pf, n, bk, tn, es, cs, many, start, fr, _, rfl, t, ht, hE, .inr ⟨h, j, tt, ee, rfl, ⟨dh, hh⟩, _, rfl, rfl, _, rfl, ?_⟩⟩
      by_cases hd : useW n tn es cs j tt ee = "done"
      · rw [dec_str' hd]
        have hj := useW_lt hd
        have k := yes hd
        rw [hd]
        refine iteT ⟨_, rfl, x, C, dx, _, .ref pe, rfl, t.ins, S.cl, S.n4, rfl, _, rfl, h, dh, _, rfl, hh, h, Ch, dh, _, .int (j : Nat), rfl, hh, Sh.cl, Sh.n1, rfl, pe, es, _, j, rfl, rfl, t.ens, ixN_at (by rw [t.len]; exact hj), ?_⟩
        have nl : ∀ {a : Addr} {xs : List V}, H a = some (.lst xs) → a ≠ x := fun e q => by rw [q, t.ins] at e; cases e
        have o1 : Off x pe pc pf H (upd H pe (.lst (es.set j .non))) := Off.refl.at2 _
        have i1 : (upd H pe (.lst (es.set j .non))) x = _ := (upd_ne (nl t.ens).symm).trans t.ins
        have h1 : (upd H pe (.lst (es.set j .non))) h = _ := (upd_ne ne).trans hh
        have f1 : (upd H pe (.lst (es.set j .non))) pf = _ := (upd_ne t.q2.symm).trans t.fre
        have c1 : (upd H pe (.lst (es.set j .non))) pc = _ := (upd_ne t.q1.symm).trans t.cnt
        have p1 : (upd H pe (.lst (es.set j .non))) pe = _ := upd_same
        generalize upd H pe (.lst (es.set j .non)) = H1 at o1 i1 h1 f1 c1 p1 ⊢
        refine ⟨_, rfl, x, C, dx, _, .ref pf, rfl, i1, S.cl, S.n8, rfl, .inl ⟨rfl, _, .inl (.inl f1)⟩, _, rfl, h, dh, _, rfl, h1, h, Ch, dh, _, .int (j : Nat), rfl, h1, Sh.cl, Sh.n1, rfl, pf, _, _, rfl, rfl, f1, ?_, ?_⟩
        · rw [List.length_map]
          exact Nat.lt_of_le_of_lt hf (by decide)
        · have em : fr.map V.int ++ [V.int (j : Nat)] = (fr ++ [(j : Int)]).map V.int := by rw [List.map_append]; rfl
          rw [em]
          refine ⟨_, rfl, k _ (o1.at4 _) ⟨(upd_ne (nl t.fre).symm).trans i1, (upd_ne t.q2).trans p1, (upd_ne t.q3).trans c1, upd_same, by rw [List.length_set]; exact t.len, t.lec, t.lim, t.q1, t.q2, t.q3⟩⟩
      · rw [dec_str hd]
        exact iteF ⟨_, rfl, no hd⟩
theorem scTbGive : FnScope ["self", "number", "numbers"] ["self", "number"] (defScope sTbGive) := ⟨rfl, rfl, rfl, by decide +kernel, rfl, by decide +kernel, by decide +kernel⟩
theorem ok_tbGive {f C Ch CN fI fC fF fG : Addr} {fd fdI fdC fdF fdG : FuncData} (F : FunD K "give" "Table.give" (defArgs sTbGive) (defBody sTbGive) (defScope sTbGive) [.non] [] f fd) (S : TbCls K mg C)
    (eN : ErrC K mg "InvalidNumber" CN fI) (FI : Fun K "__init__" "HandleError.__init__" sHInit fI fdI) (bI : Binds K fdI ["self", "value"] [])
    (FC : Fun K "is_count" "is_count" sCount fC fdC) (bC : Binds K fdC ["value"] []) (gC : mg "is_count" = some (.ref fC)) (GC : FnOk P w K mg base CX0 1 fC fdC ["value"] spCount)
    (MF : Meth K C "free" fF) (GF : FnOk P w K mg base CX0 2 fF fdF ["self"] (spTFree C)) (bF : Binds K fdF ["self"] [])
    (MG : Meth K C "_given" fG) (GG : FnOk P w K mg base CX0 6 fG fdG ["self", "number"] (spGiven C Ch)) (bG : Binds K fdG ["self", "number"] []) :
    FnOk P w K mg base (L2.CX P w) 7 f fd ["self", "number"] (spGive C Ch CN) := by
  have GI : FnOk P w K mg base CX0 1 fI fdI ["self", "value"] (spInitE K "value") := ok_hinit FI
  refine F.ok scTbGive (fun vs H Q E h => ?_) (fun cdv A outer s H vs Q E hr h => ?_)
  · obtain ⟨x, _, _, _, _, _, _, _, _, _, _, _, _, _, rfl, _⟩ := h
    rfl
  · obtain ⟨x, dx, pe, pc, pf, n, bk, tn, es, cs, many, start, fr, v, rfl, t, ht, hm, hf, hv⟩ := h
    refine ⟨_, pss_cons (ps_set (i := 2) scTbGive.nd rfl (.inl rfl) (pe_meth0 (pv 0) S.cl MF GF (hr.mono (by decide)) bF .nil pass0))
      (pss_cons (ps_if (PW.pt (pw_and (pt_cmp (pc_isN (pv 1))) (pw_and1 (pt_not (pt_truth (pv 2) (fun _ => rfl)))))) (pss_one (ps_ret pe_non)) pss_nil)
      (pss_cons (ps_if (pt_cmp (pc_isN (pv 1))) (pss_one (ps_ret (pe_meth (pv 0) S.cl MG GG hr bG .nil pass0 (pa_cons (pe_ix ix_tup (pv 2) pe_int (fun _ _ => rfl)) pa_nil)))) pss_nil)
      (pss_cons (ps_if (PW.pt (pw_or (pt_not (pt_val (pe_call GC (hr.mono (by decide)) rfl gC FC.kp bC .nil pass0 (pa_cons (pv 1) pa_nil)))) (pw_or1 (pt_cmpR op_notIn_seq (pv 1) (pv 2) (by rfl)))))
        (pss_one (ps_raise rfl (takes_of rfl rfl rfl rfl) (pmk_oex eN.ox eN.i eN.t GI (hr.mono (by decide)) bI .nil pass0 rfl eN.g (pa_cons (pv 1) pa_nil)))) pss_nil)
      (pss_one (ps_ret (pe_meth (pv 0) S.cl MG GG hr bG .nil pass0 (pa_cons (pv 1) pa_nil))))))), ?_⟩
    refine ⟨_, rfl, x, dx, _, rfl, t.ins, rfl, x, dx, pe, pc, pf, n, bk, tn, es, cs, many, start, fr, rfl, t, fun H1 r s1 e1 => ?_⟩
    have t1 := t.same s1
    have sq : SqT K H1 r ((freeL bk start fr es).map V.int) := .inl (.inl e1)
    have back : ∀ (j : Nat) (c : Int), (∀ H' h pf', Off x pe pc pf H H' → H pf' = none → TAt H' C x dx pe pc pf' n bk tn (es.set j (.int many)) (cs.set j (c + 1)) (many + 1) ((j : Int) + 1) (fr.filter fun m => !decide (m = (j : Int))) → H h = none → HAt H' Ch h (j : Nat) (c % tn) many → Q (.ref h) H') →
        ∀ H' h pf', Off x pe pc pf H1 H' → H1 pf' = none → TAt H' C x dx pe pc pf' n bk tn (es.set j (.int many)) (cs.set j (c + 1)) (many + 1) ((j : Int) + 1) (fr.filter fun m => !decide (m = (j : Int))) → H1 h = none → HAt H' Ch h (j : Nat) (c % tn) many → Q (.ref h) H' := by
      intro j c k H' h pf' o p t' hh ha
      have nn : ∀ a, H1 a = none → H a = none := fun a e => by
        cases q : H a with
        | none => rfl
        | some u => rw [s1 _ _ q] at e; cases e
      exact k H' h pf' ((Off.of s1).trans o) (nn _ p) t' (nn _ hh) ha
    rcases hv with ⟨rfl, hF, k⟩ | ⟨j, c, hv, hj, hc, k⟩ | ⟨kk, hk, hn, hw, b⟩
    · rw [hF] at sq
      exact ⟨_, rfl, _, rfl, iteT ⟨_, rfl, false, .inr (.inl ⟨_, sq, rfl⟩), iteT (k H1 s1)⟩⟩
    · have k' := back j c k
      rcases hv with ⟨rfl, hF⟩ | ⟨rfl, hF⟩
      · obtain ⟨r0, hF'⟩ : ∃ r0, freeL bk start fr es = (j : Int) :: r0 := by
          cases q : freeL bk start fr es with
          | nil => rw [q] at hF; cases hF
          | cons a b =>
            rw [q] at hF
            cases hF
            exact ⟨b, rfl⟩
        rw [hF'] at sq
        refine ⟨_, rfl, _, rfl, iteT ⟨_, rfl, true, .inr (.inl ⟨_, sq, rfl⟩), iteF ⟨_, rfl, _, rfl, iteT ?_⟩⟩⟩
        exact ⟨_, rfl, x, dx, _, rfl, t1.ins, rfl, _, rfl, r, _, 0, _, rfl, rfl, sq, atI_nat (j := 0) rfl, x, dx, pe, pc, pf, n, bk, tn, es, cs, many, start, fr, j, c, rfl, t1, ht, hm, hj, hc, hf, k'⟩
      · refine ⟨_, rfl, _, rfl, iteF (iteF ⟨_, rfl, _, rfl, iteF ?_⟩)⟩
        have ci : isCount (.int (j : Nat)) = true := decide_eq_true (Int.natCast_nonneg j)
        refine ⟨_, rfl, _, _, rfl, .int (j : Nat), _, rfl, ?_⟩
        rw [ci]
        refine iteF ⟨_, rfl, _, rfl, r, _, rfl, .inr sq, rfl, flat_ints _, _, rfl, ?_⟩
        rw [inV_ints, decide_eq_true hF]
        exact iteF ⟨_, rfl, x, dx, _, rfl, t1.ins, rfl, _, rfl, x, dx, pe, pc, pf, n, bk, tn, es, cs, many, start, fr, j, c, rfl, t1, ht, hm, hj, hc, hf, k'⟩
    · have nd : decide (v = V.non) = false := decide_eq_false hn
      refine ⟨_, rfl, _, rfl, ?_⟩
      rw [nd]
      refine iteF (iteF ⟨_, rfl, _, rfl, ?_⟩)
      rw [nd]
      refine iteF ⟨_, rfl, _, _, rfl, hk.same s1, _, rfl, ?_⟩
      rcases hw with c0 | ⟨i, rfl, hi⟩
      · rw [c0]
        exact iteT (iteT ⟨_, rfl, (show 1 ≤ 1000 by decide), raise_ok eN (b H1 s1)⟩)
      · cases ci : isCount (.int i) with
        | false => exact iteT (iteT ⟨_, rfl, (show 1 ≤ 1000 by decide), raise_ok eN (b H1 s1)⟩)
        | true =>
          refine iteF ⟨_, rfl, _, rfl, r, _, rfl, .inr sq, rfl, flat_ints _, _, rfl, ?_⟩
          rw [inV_ints, decide_eq_false hi]
          exact iteT ⟨_, rfl, (show 1 ≤ 1000 by decide), raise_ok eN (b H1 s1)⟩
end
/-! ### renewing, and what is in a table -/
abbrev sTbRenew : Stmt := inClass (top 25) 11
abbrev sTbIn : Stmt := inClass (top 25) 16
def inW (n : Nat) (es : List V) (j : Nat) (e : Int) : Bool := if n ≤ j then false else decide (es[j]? = some (V.int e))
def spRenew (C Ch : Addr) : Sp := fun vs H Q _ => ∃ (x dx pe pc pf : Addr) (n : Nat) (bk : Str) (tn : Int) (es : List V) (cs : List Int) (many start : Int) (fr : List Int) (h : Addr) (j : Nat) (t e : Int), vs = [.ref x, .ref h] ∧ TAt H C x dx pe pc pf n bk tn es cs many start fr ∧ 0 < tn ∧ (∀ u ∈ es, EntV u) ∧ 0 ≤ many ∧
  HAt H Ch h (j : Nat) t e ∧ (useW n tn es cs j t e ≠ "done" → Q (.str (useW n tn es cs j t e)) H) ∧
  (useW n tn es cs j t e = "done" → ∃ c, cs[j]? = some c ∧ ∀ H' h', Off x pe pc pf H H' → TAt H' C x dx pe pc pf n bk tn (es.set j (.int many)) (cs.set j (c + 1)) (many + 1) start fr → H h' = none → HAt H' Ch h' (j : Nat) (c % tn) many → Q (.ref h') H')
def spTIn (K : PySem.W.Frag) (C Ch : Addr) : Sp := fun vs H Q _ => ∃ (x dx pe pc pf : Addr) (n : Nat) (bk : Str) (tn : Int) (es : List V) (cs : List Int) (many start : Int) (fr : List Int) (h : Addr) (j : Nat) (t e : Int), vs = [.ref x, .ref h] ∧ TAt H C x dx pe pc pf n bk tn es cs many start fr ∧ (∀ u ∈ es, EntV u) ∧
  HAt H Ch h (j : Nat) t e ∧ TyX K H (.ref h) (.ref Ch) ∧ Q (.bl (inW n es j e)) H
section
variable {P : Program} {w : World} {K : PySem.W.Frag} {mg : Str → Option Value} {base : Heap}
theorem scTbRenew : FnScope ["self", "handle", "word"] ["self", "handle"] (defScope sTbRenew) := ⟨rfl, rfl, rfl, by decide +kernel, rfl, by decide +kernel, by decide +kernel⟩
theorem ok_tbRenew {f C Ch fU fR pNu gNu : Addr} {fd fdU fdR fdNu : FuncData} (F : Fun K "renew" "Table.renew" sTbRenew f fd) (S : TbCls K mg C) (Sh : HCls K mg Ch)
    (MU : Meth K C "use" fU) (GU : FnOk P w K mg base CX0 3 fU fdU ["self", "handle"] (spUse C Ch)) (bU : Binds K fdU ["self", "handle"] [])
    (MR : Meth K C "_renewed" fR) (GR : FnOk P w K mg base CX0 5 fR fdR ["self", "number"] (spRenewed C Ch)) (bR : Binds K fdR ["self", "number"] [])
    (pNu : PropOf K Ch "number" pNu gNu) (GNu : FnOk P w K mg base CX0 1 gNu fdNu ["self"] (spGet K "_number")) (bNu : Binds K fdNu ["self"] []) :
    FnOk P w K mg base CX0 6 f fd ["self", "handle"] (spRenew C Ch) := by
  refine F.ok scTbRenew (fun vs H Q E h => ?_) (fun cdv A outer s H vs Q E hr h => ?_)
  · obtain ⟨x, _, _, _, _, _, _, _, _, _, _, _, _, _, _, _, _, rfl, _⟩ := h
    rfl
  · obtain ⟨x, dx, pe, pc, pf, n, bk, tn, es, cs, many, start, fr, h, j, tt, ee, rfl, t, ht, hE, hm, hat, no, yes⟩ := h
    refine ⟨_, pss_cons (ps_set (i := 2) scTbRenew.nd rfl (.inl rfl) (pe_meth (pv 0) S.cl MU GU (hr.mono (by decide)) bU .nil pass0 (pa_cons (pv 1) pa_nil)))
      (pss_one (ps_ret (pe_ifExp (pt_cmpR op_eq (pv 2) pe_str (nomark _)) (pe_meth (pv 0) S.cl MR GR hr bR .nil pass0 (pa_cons (pe_prop (pv 1) Sh.cl pNu GNu (hr.mono (by decide)) bNu .nil pass0 (by rfl)) pa_nil)) (pv 2)))), ?_⟩
    refine ⟨_, rfl, x, dx, _, rfl, t.ins, rfl, _, rfl, x, dx, pe, pc, pf, n, bk, tn, es, cs, many, start, fr, _, rfl, t, ht, hE, .inr ⟨h, j, tt, ee, rfl, hat, _, rfl, rfl, _, rfl, ?_⟩⟩
    by_cases hd : useW n tn es cs j tt ee = "done"
    · rw [dec_str' hd]
      have hj := useW_lt hd
      obtain ⟨c, hc, k⟩ := yes hd
      obtain ⟨dh, hh⟩ := hat
      exact iteT ⟨_, rfl, x, dx, _, rfl, t.ins, rfl, _, rfl, h, dh, _, rfl, hh, h, Ch, dh, _, .int (j : Nat), rfl, hh, Sh.cl, Sh.n1, rfl, x, dx, pe, pc, pf, n, bk, tn, es, cs, many, start, fr, j, c, rfl, t, ht, hm, hj, hc, k⟩
    · rw [dec_str hd]
      exact iteF ⟨_, rfl, no hd⟩
theorem scTbIn : FnScope ["self", "x"] ["self", "x"] (defScope sTbIn) := ⟨rfl, rfl, rfl, by decide +kernel, rfl, by decide +kernel, by decide +kernel⟩
theorem ok_tbIn {f C Ch pNu gNu pEn gEn : Addr} {fd fdNu fdEn : FuncData} (F : Fun K "__contains__" "Table.__contains__" sTbIn f fd) (T : MTxt K mg) (S : TbCls K mg C) (Sh : HCls K mg Ch)
    (pNu : PropOf K Ch "number" pNu gNu) (GNu : FnOk P w K mg base CX0 1 gNu fdNu ["self"] (spGet K "_number")) (bNu : Binds K fdNu ["self"] [])
    (pEn : PropOf K Ch "entry" pEn gEn) (GEn : FnOk P w K mg base CX0 1 gEn fdEn ["self"] (spGet K "_entry")) (bEn : Binds K fdEn ["self"] []) :
    FnOk P w K mg base CX0 3 f fd ["self", "x"] (spTIn K C Ch) := by
  refine F.ok scTbIn (fun vs H Q E h => ?_) (fun cdv A outer s H vs Q E hr h => ?_)
  · obtain ⟨x, _, _, _, _, _, _, _, _, _, _, _, _, _, _, _, _, rfl, _⟩ := h
    rfl
  · obtain ⟨x, dx, pe, pc, pf, n, bk, tn, es, cs, many, start, fr, h, j, tt, ee, rfl, t, hE, ⟨dh, hh⟩, ty, k⟩ := h
    refine ⟨_, pss_one (ps_ret (pe_and (pe_callB call_isi (by rfl) T.isi (by decide +kernel) (pa_cons (pv 1) (pa_cons (pe_glob (v := .ref Ch) rfl Sh.g rfl) pa_nil)))
      (pe_and (pe_cmpR op_lt (pe_prop (pv 1) Sh.cl pNu GNu hr bNu .nil pass0 (by rfl)) (pe_fld (pv 0) (by rfl)) (nomark _))
      (pe_one (pe_cmpR op_eq (pe_ix ix_list (pe_fld (pv 0) (by rfl)) (pe_prop (pv 1) Sh.cl pNu GNu hr bNu .nil pass0 (by rfl)) (fun _ _ => rfl)) (pe_prop (pv 1) Sh.cl pEn GEn hr bEn .nil pass0 (by rfl)) (nomark _)))))), ?_⟩
    refine ⟨_, rfl, _, _, _, _, true, rfl, .own Ch, ty, Sh.yes, _, rfl, iteT ?_⟩
    refine ⟨_, rfl, h, dh, _, rfl, hh, h, Ch, dh, _, .int (j : Nat), rfl, hh, Sh.cl, Sh.n1, rfl, _, rfl, x, C, dx, _, .int (n : Nat), rfl, t.ins, S.cl, S.n1, rfl, _, _, rfl, rfl, _, rfl, ?_⟩
    by_cases hj : n ≤ j
    · rw [decide_eq_false (show ¬ ((j : Nat) : Int) < (n : Nat) by omega)]
      rw [inW, if_pos hj] at k
      exact iteF k
    · rw [decide_eq_true (show ((j : Nat) : Int) < (n : Nat) by omega)]
      rw [inW, if_neg hj] at k
      have hl : j < es.length := by rw [t.len]; omega
      have hu : es[j]? = some es[j] := by simp [hl]
      have hu2 := hE es[j] (List.getElem_mem hl)
      generalize es[j] = u at hu hu2
      refine iteT ⟨_, rfl, x, C, dx, _, .ref pe, rfl, t.ins, S.cl, S.n4, rfl, _, rfl, h, dh, _, rfl, hh, h, Ch, dh, _, .int (j : Nat), rfl, hh, Sh.cl, Sh.n1, rfl, pe, es, _, u, rfl, rfl, .inl (.inl t.ens), atI_nat hu, _, rfl, h, dh, _, rfl, hh, h, Ch, dh, _, .int ee, rfl, hh, Sh.cl, Sh.n3, rfl, ?_, ?_⟩
      · rcases hu2 with rfl | ⟨_, rfl⟩ <;> rfl
      · have e : decide (u = V.int ee) = decide (es[j]? = some (V.int ee)) := decide_eq_decide.mpr ⟨fun q => by rw [hu, q], fun q => by rw [hu] at q; injection q⟩
        rw [e]
        exact k
end
def intsL (os : List Nat) : List V := os.map fun (m : Nat) => V.int (m : Nat)
/-! ### the free numbers, in order -/
theorem mem_frees {es : List V} {m : Int} : m ∈ frees es ↔ ∃ j : Nat, m = (j : Nat) ∧ es[j]? = some V.non := by
  unfold frees freesN
  rw [List.mem_map]
  constructor
  · rintro ⟨j, hj, rfl⟩
    rw [List.mem_filter] at hj
    exact ⟨j, rfl, of_decide_eq_true hj.2⟩
  · rintro ⟨j, rfl, hj⟩
    refine ⟨j, List.mem_filter.mpr ⟨List.mem_range.mpr (List.getElem?_eq_some_iff.mp hj).1, decide_eq_true hj⟩, rfl⟩
theorem frees_lt (es : List V) : (frees es).Pairwise (· < ·) := by
  unfold frees freesN
  rw [List.pairwise_map]
  exact (List.Pairwise.filter _ (List.pairwise_lt_range (n := es.length))).imp fun h => by omega
theorem eq_of_mem : ∀ {l m : List Int}, l.Pairwise (· < ·) → m.Pairwise (· < ·) → (∀ a, a ∈ l ↔ a ∈ m) → l = m
  | [], [], _, _, _ => rfl
  | [], b :: m, _, _, h => absurd ((h b).mpr (List.mem_cons_self ..)) (by simp)
  | a :: l, [], _, _, h => absurd ((h a).mp (List.mem_cons_self ..)) (by simp)
  | a :: l, b :: m, h1, h2, h => by
    obtain ⟨a1, a2⟩ := List.pairwise_cons.mp h1
    obtain ⟨b1, b2⟩ := List.pairwise_cons.mp h2
    have hab : a = b := by
      rcases List.mem_cons.mp ((h a).mp (List.mem_cons_self ..)) with q | q
      · exact q
      · rcases List.mem_cons.mp ((h b).mpr (List.mem_cons_self ..)) with q2 | q2
        · exact q2.symm
        · have := b1 a q
          have := a1 b q2
          omega
    subst hab
    congr 1
    refine eq_of_mem a2 b2 fun x => ?_
    constructor
    · intro hx
      rcases List.mem_cons.mp ((h x).mp (List.mem_cons_of_mem _ hx)) with q | q
      · have := a1 x hx
        omega
      · exact q
    · intro hx
      rcases List.mem_cons.mp ((h x).mpr (List.mem_cons_of_mem _ hx)) with q | q
      · have := b1 x hx
        omega
      · exact q
def castL (l : List Nat) : List Int := l.map fun (m : Nat) => (m : Int)
theorem mem_castL {l : List Nat} {m : Int} : m ∈ castL l ↔ ∃ j : Nat, m = (j : Nat) ∧ j ∈ l := by
  unfold castL
  rw [List.mem_map]
  exact ⟨fun ⟨j, a, b⟩ => ⟨j, b.symm, a⟩, fun ⟨j, a, b⟩ => ⟨j, b, a.symm⟩⟩
theorem castL_lt {l : List Nat} (h : l.Pairwise (· < ·)) : (castL l).Pairwise (· < ·) := by
  unfold castL
  rw [List.pairwise_map]
  exact h.imp fun h => by omega
theorem frees_eq {es : List V} {l : List Nat} (hs : l.Pairwise (· < ·)) (hm : ∀ j : Nat, es[j]? = some V.non ↔ j ∈ l) : frees es = castL l := by
  refine eq_of_mem (frees_lt es) (castL_lt hs) fun a => ?_
  rw [mem_frees, mem_castL]
  exact ⟨fun ⟨j, e, h⟩ => ⟨j, e, (hm j).mp h⟩, fun ⟨j, e, h⟩ => ⟨j, e, (hm j).mpr h⟩⟩
/-- the book has the numbers rest, in the order in which it gives them -/
def Rd (bk : Str) (start : Int) (fr : List Int) (rest : List Nat) : Prop :=
  (bk = "least" ∧ rest.Pairwise (· < ·)) ∨
  (bk = "next" ∧ rest.Pairwise (· < ·) ∧ ((∀ m ∈ rest, start ≤ (m : Int)) ∨ ∀ m ∈ rest, (m : Int) < start)) ∨
  (bk = "last" ∧ ((fr = [] ∧ rest.Pairwise (· < ·)) ∨ (fr = (castL rest).reverse ∧ rest.Nodup)))
theorem Rd.any {bk : Str} {start : Int} {fr : List Int} {rest : List Nat} (h : Rd bk start fr rest) : ¬ bk = "any" := by
  rcases h with ⟨rfl, _⟩ | ⟨rfl, _⟩ | ⟨rfl, _⟩ <;> decide +kernel
theorem nodup_lt {l : List Nat} (h : l.Pairwise (· < ·)) : l.Nodup := h.imp fun h => by omega
theorem Rd.nd {bk : Str} {start : Int} {fr : List Int} {rest : List Nat} (h : Rd bk start fr rest) : rest.Nodup := by
  rcases h with ⟨_, h⟩ | ⟨_, h, _⟩ | ⟨_, ⟨_, h⟩ | ⟨_, h⟩⟩
  · exact nodup_lt h
  · exact nodup_lt h
  · exact nodup_lt h
  · exact h
theorem Rd.nil {bk : Str} {start : Int} {fr : List Int} {es : List V} (hm : ∀ j : Nat, ¬ es[j]? = some V.non) : freeL bk start fr es = [] := by
  have e : frees es = [] := by
    rw [List.eq_nil_iff_forall_not_mem]
    intro a ha
    obtain ⟨j, _, h⟩ := mem_frees.mp ha
    exact hm j h
  unfold freeL
  rw [e]
  split <;> rfl
theorem Rd.told {bk : Str} {start : Int} {fr : List Int} {es : List V} {a : Nat} {rest : List Nat} (h : Rd bk start fr (a :: rest)) (hm : ∀ j : Nat, es[j]? = some V.non ↔ j ∈ a :: rest) : freeL bk start fr es = [(a : Int)] := by
  have hne : frees es ≠ [] := by
    intro q
    have : (a : Int) ∈ frees es := mem_frees.mpr ⟨a, rfl, (hm a).mpr (List.mem_cons_self ..)⟩
    rw [q] at this
    cases this
  unfold freeL
  rw [if_neg h.any, if_neg hne]
  congr 1
  have srt : (a :: rest).Pairwise (· < ·) → frees es = (a : Int) :: castL rest := fun q => frees_eq q hm
  unfold toldN
  rcases h with ⟨rfl, h⟩ | ⟨rfl, h, hs⟩ | ⟨rfl, hs⟩
  · rw [if_neg (by decide +kernel), if_neg (by decide +kernel), srt h]
    rfl
  · rw [if_pos rfl, srt h]
    rcases hs with hs | hs
    · have : ((a : Int) :: castL rest).filter (fun m => decide (start ≤ m)) = (a : Int) :: castL rest := by
        rw [List.filter_eq_self]
        intro m hm2
        have : m ∈ castL (a :: rest) := hm2
        obtain ⟨j, rfl, hj⟩ := mem_castL.mp this
        exact decide_eq_true (hs j hj)
      rw [this]
      rfl
    · have : ((a : Int) :: castL rest).filter (fun m => decide (start ≤ m)) = [] := by
        rw [List.filter_eq_nil_iff]
        intro m hm2
        have : m ∈ castL (a :: rest) := hm2
        obtain ⟨j, rfl, hj⟩ := mem_castL.mp this
        have := hs j hj
        simp only [decide_eq_true_eq]
        omega
      rw [this]
      rfl
  · rw [if_neg (by decide +kernel), if_pos rfl]
    rcases hs with ⟨rfl, hs⟩ | ⟨rfl, hs⟩
    · rw [srt hs]
      rfl
    · have : (castL (a :: rest)).reverse.getLast? = some (a : Int) := by
        show ((a : Int) :: castL rest).reverse.getLast? = some (a : Int)
        rw [List.reverse_cons, List.getLast?_concat]
      rw [this]
      rfl
theorem Rd.step {bk : Str} {start : Int} {fr : List Int} {a : Nat} {rest : List Nat} (h : Rd bk start fr (a :: rest)) : Rd bk ((a : Int) + 1) (fr.filter fun m => !decide (m = (a : Int))) rest := by
  rcases h with ⟨rfl, h⟩ | ⟨rfl, h, hs⟩ | ⟨rfl, hs⟩
  · exact .inl ⟨rfl, (List.pairwise_cons.mp h).2⟩
  · refine .inr (.inl ⟨rfl, (List.pairwise_cons.mp h).2, .inl fun m hm => ?_⟩)
    have := (List.pairwise_cons.mp h).1 m hm
    omega
  · rcases hs with ⟨rfl, hs⟩ | ⟨rfl, hs⟩
    · exact .inr (.inr ⟨rfl, .inl ⟨rfl, (List.pairwise_cons.mp hs).2⟩⟩)
    · refine .inr (.inr ⟨rfl, .inr ⟨?_, (List.nodup_cons.mp hs).2⟩⟩)
      have e : castL (a :: rest) = (a : Int) :: castL rest := rfl
      rw [e, List.reverse_cons, List.filter_append]
      have e1 : [(a : Int)].filter (fun m => !decide (m = (a : Int))) = [] := by simp
      rw [e1, List.append_nil, List.filter_eq_self]
      intro m hm
      obtain ⟨j, rfl, hj⟩ := mem_castL.mp (List.mem_reverse.mp hm)
      have : j ≠ a := fun q => (List.nodup_cons.mp hs).1 (q ▸ hj)
      have : ¬ (j : Int) = (a : Int) := by omega
      simp [this]
/-- what is free behind a giving -/
theorem non_set {es : List V} {a : Nat} {e : Int} {rest : List Nat} (ha : a < es.length) (hn : a ∉ rest) (hm : ∀ j : Nat, es[j]? = some V.non ↔ j ∈ a :: rest) (j : Nat) : (es.set a (.int e))[j]? = some V.non ↔ j ∈ rest := by
  by_cases h : a = j
  · subst h
    rw [List.getElem?_set_self ha]
    exact ⟨fun q => (by cases q), fun q => absurd q hn⟩
  · rw [List.getElem?_set_ne h, hm j]
    constructor
    · intro q
      rcases List.mem_cons.mp q with q | q
      · exact absurd q.symm h
      · exact q
    · exact fun q => List.mem_cons_of_mem _ q
theorem ent_set {es : List V} {a : Nat} {v : V} (h : ∀ u ∈ es, EntV u) (hv : EntV v) : ∀ u ∈ es.set a v, EntV u := fun u hu => by
  rcases List.mem_or_eq_of_mem_set hu with q | q
  · exact h u q
  · exact q ▸ hv
theorem ent_rep (n : Nat) : ∀ u ∈ List.replicate n V.non, EntV u := fun u hu => .inl (List.eq_of_mem_replicate hu)
theorem between_eq {v : V} {lo hi : Int} (h : 0 ≤ lo) : isBetween v lo hi = inB v lo hi := by
  cases v with
  | int i =>
    show (decide (0 ≤ i) && (decide (lo ≤ i) && decide (i ≤ hi))) = (decide (lo ≤ i) && decide (i ≤ hi))
    by_cases g : lo ≤ i
    · have : 0 ≤ i := by omega
      simp [g, this]
    · simp [g]
  | _ => rfl
section
variable {K : PySem.W.Frag} {C CN CB : Addr} {H : Hp}
/-- all is right: a table at a new address -/
theorem mkT_ok {n m : Nat} {z : Str} {Q : Addr → Hp → Prop} {E : XK} (h1 : isBetween (.int (n : Nat)) 1 60 = true) (h2 : isBook (.str z) = true) (h3 : isBetween (.int (m : Nat)) 1 4 = true) (hz : z.length ≤ 1000)
    (k : ∀ H' x dx pe pc pf, Same H H' → H x = none → TAt H' C x dx pe pc pf n z (m : Nat) (List.replicate n .non) (List.replicate n 0) 0 0 [] → H pe = none → H pc = none → H pf = none → Q x H') :
    ∀ x dx, H x = none → H dx = none → dx ≠ x → spTable C CN CB [.ref x, .int (n : Nat), .str z, .int (m : Nat)] (upd (upd H dx (.own x)) x (.ins C dx [])) (fun v H3 => v = .non ∧ Q x H3) E := by
  intro x dx hx hd ne
  have old : ∀ a, (upd (upd H dx (.own x)) x (.ins C dx [])) a = none → H a = none := fun a e => by
    have n1 : a ≠ x := fun z => by rw [z, upd_same] at e; cases e
    rw [upd_ne n1] at e
    have n2 : a ≠ dx := fun z => by rw [z, upd_same] at e; cases e
    rwa [upd_ne n2] at e
  refine ⟨x, dx, .int (n : Nat), .str z, .int (m : Nat), _, _, _, rfl, upd_same, .int _, .str z hz, .int _, fun q => ?_, fun _ q => ?_, fun _ _ q => ?_, fun _ _ _ H' n' pe pc pf en s ei ee ec ef he hc hf q1 q2 q3 => ⟨rfl, ?_⟩⟩
  · rw [h1] at q; cases q
  · rw [h2] at q; cases q
  · rw [h3] at q; cases q
  · have n60 := (between_int h1).choose_spec
    obtain ⟨i, ei', _, _, i60⟩ := between_int h1
    injection ei' with ei'
    injection en with en
    subst en
    rw [Int.toNat_natCast] at ee ec
    refine k H' x dx pe pc pf ?_ hx ⟨ei, ee, ?_, ef, by rw [List.length_replicate], by rw [List.length_replicate], by omega, q1, q2, q3⟩ (old _ he) (old _ hc) (old _ hf)
    · intro b u q
      exact s b u (ne_of_none q hx) (same_made hx hd ne b u q)
    · rw [List.map_replicate]
      exact ec
variable {v1 v2 v3 : V} {k1 k2 k3 : String} {Q : Addr → VK} {E : XK}
/-- the first, second, third is wrong -/
theorem mkT_bad (h1 : Kd H v1 k1) (h2 : Kd H v2 k2) (h3 : Kd H v3 k3) (b1 : isBetween v1 1 60 = false → Bad E H CN v1) (b2 : isBetween v1 1 60 = true → isBook v2 = false → Bad E H CB v2) (b3 : isBetween v1 1 60 = true → isBook v2 = true → isBetween v3 1 4 = false → Bad E H CN v3)
    (no : isBetween v1 1 60 = true → isBook v2 = true → isBetween v3 1 4 = true → False) :
    ∀ x dx, H x = none → H dx = none → dx ≠ x → spTable C CN CB [.ref x, v1, v2, v3] (upd (upd H dx (.own x)) x (.ins C dx [])) (Q x) E := by
  intro x dx hx hd ne
  have s := same_made (C := C) hx hd ne
  exact ⟨x, dx, v1, v2, v3, _, _, _, rfl, upd_same, h1.same s, h2.same s, h3.same s, fun q => (b1 q).imp s, fun q1 q2 => (b2 q1 q2).imp s, fun q1 q2 q3 => (b3 q1 q2 q3).imp s, fun q1 q2 q3 => (no q1 q2 q3).elim⟩
end
/-! ### a join behind a statement -/
theorem pss_join {X : Cx} {st : Stmt} {rest : List Stmt} {t u : TS} (h1 : PS X st t) (h2 : PSs X rest u) : PSs X (st :: rest) (fun D σ H => ∃ J : L2.St → Hp → Prop, t { D with nx := J } σ H ∧ ∀ σ' H', J σ' H' → u D σ' H') := by
  refine ⟨fun pins s σ H D I h => ?_⟩
  obtain ⟨J, h, hJ⟩ := h
  refine wpAny_execs_cons (thn (h1.run pins s σ H { D with nx := J } I h) fun f s1 q => ?_)
  cases f with
  | next =>
    obtain ⟨σ', H', I', q⟩ := q
    exact h2.run pins s1 σ' H' D I' (hJ _ _ q)
  | ret v => exact q
  | brk => exact q
  | cont => exact q
def dI (l : List Nat) : PyData := .list (l.map fun (m : Nat) => PyData.int (m : Nat))
theorem dp_ints {K : PySem.W.Frag} {H : Hp} {a : Addr} {l : List Nat} (e : H a = some (.lst (intsL l))) : Dp K H (.ref a) (dI l) := by
  refine .lst (.inl (.inl e)) ?_
  clear e
  unfold intsL
  induction l with
  | nil => exact .nil
  | cons m l ih => exact .cons (.int _) ih
theorem shaped_ints (l : List Nat) : SeqAt.shaped (dI l) = true := by
  have h1 : ∀ l : List Nat, PyData.canLayAll0 (l.map fun (m : Nat) => PyData.int (m : Nat)) = true := fun l => by
    induction l with
    | nil => rfl
    | cons m l ih =>
      show (true && PyData.canLayAll0 (l.map fun (m : Nat) => PyData.int (m : Nat))) = true
      rw [ih]
      rfl
  have h2 : ∀ l : List Nat, PyData.depthAll (l.map fun (m : Nat) => PyData.int (m : Nat)) = 0 := fun l => by
    induction l with
    | nil => rfl
    | cons m l ih =>
      show max (PyData.depth (.int m)) (PyData.depthAll (l.map fun (m : Nat) => PyData.int (m : Nat))) = 0
      rw [ih]
      rfl
  show (PyData.canLayAll0 (l.map fun (m : Nat) => PyData.int (m : Nat)) && decide (PyData.depthAll (l.map fun (m : Nat) => PyData.int (m : Nat)) + 1 ≤ 64)) = true
  rw [h1, h2]
  rfl
theorem eqv_ints (l : List Nat) : PyData.eqv (dI l) (dI l) = true := by
  unfold dI
  induction l with
  | nil => rfl
  | cons m l ih =>
    show (((m : Int) == (m : Int)) && PyData.eqv (.list (l.map fun (m : Nat) => PyData.int (m : Nat))) (.list (l.map fun (m : Nat) => PyData.int (m : Nat)))) = true
    rw [ih]
    simp
def Aw (x pe pc pf b : Addr) : Prop := b ≠ x ∧ b ≠ pe ∧ b ≠ pc ∧ b ≠ pf
section
variable {K : PySem.W.Frag} {H H' : Hp} {C Ch x dx pe pc pf pf' b D p q h : Addr} {n : Nat} {bk : Str} {tn : Int} {es : List V} {cs : List Int} {many start : Int} {fr : List Int} {o : HO} {i t e : Int}
theorem Aw.new (a : Aw x pe pc pf b) (hb : H b = some o) (hn : H pf' = none) : Aw x pe pc pf' b := ⟨a.1, a.2.1, a.2.2.1, ne_of_none hb hn⟩
theorem Off.at_ (s : Off x pe pc pf H H') (a : Aw x pe pc pf b) (e : H b = some o) : H' b = some o := s b o a.1 a.2.1 a.2.2.1 a.2.2.2 e
theorem PoolAt.off (hP : PoolAt H p q) (a : Aw x pe pc pf p) (b : Aw x pe pc pf q) (s : Off x pe pc pf H H') : PoolAt H' p q := by
  obtain ⟨ns, i, x, z, y, h1, h2, h3⟩ := hP
  exact ⟨ns, i, x, z, y, s.at_ a h1, s.at_ b h2, h3⟩
theorem PoolAt.put (hP : PoolAt H p q) (n1 : p ≠ D) (n2 : q ≠ D) : PoolAt (upd H D o) p q := by
  obtain ⟨ns, i, x, z, y, h1, h2, h3⟩ := hP
  exact ⟨ns, i, x, z, y, (upd_ne n1).trans h1, (upd_ne n2).trans h2, h3⟩
theorem PoolAt.nep (hP : PoolAt H p q) (hD : H D = none) : p ≠ D ∧ q ≠ D := by
  obtain ⟨ns, i, x, z, y, h1, h2, h3⟩ := hP
  exact ⟨ne_of_none h1 hD, ne_of_none h2 hD⟩
theorem HAt.aw (ha : HAt H Ch h i t e) (tt : TAt H C x dx pe pc pf n bk tn es cs many start fr) : Aw x pe pc pf h := by
  obtain ⟨dh, hh⟩ := ha
  refine ⟨fun q => ?_, fun q => ?_, fun q => ?_, fun q => ?_⟩
  · rw [q, tt.ins] at hh
    simp [tbF] at hh
  · rw [q, tt.ens] at hh; cases hh
  · rw [q, tt.cnt] at hh; cases hh
  · rw [q, tt.fre] at hh; cases hh
theorem HAt.off (ha : HAt H Ch h i t e) (tt : TAt H C x dx pe pc pf n bk tn es cs many start fr) (s : Off x pe pc pf H H') : HAt H' Ch h i t e := by
  have a := ha.aw tt
  obtain ⟨dh, hh⟩ := ha
  exact ⟨dh, s.at_ a hh⟩
theorem HAt.put (ha : HAt H Ch h i t e) {xs : List V} (hD : H D = some (.lst xs)) : HAt (upd H D o) Ch h i t e := by
  obtain ⟨dh, hh⟩ := ha
  exact ⟨dh, (upd_ne (fun q => by rw [q, hD] at hh; cases hh)).trans hh⟩
theorem TAt.put (tt : TAt H C x dx pe pc pf n bk tn es cs many start fr) (a : Aw x pe pc pf D) : TAt (upd H D o) C x dx pe pc pf n bk tn es cs many start fr :=
  ⟨(upd_ne a.1.symm).trans tt.ins, (upd_ne a.2.1.symm).trans tt.ens, (upd_ne a.2.2.1.symm).trans tt.cnt, (upd_ne a.2.2.2.symm).trans tt.fre, tt.len, tt.lec, tt.lim, tt.q1, tt.q2, tt.q3⟩
theorem TAt.aw_none (tt : TAt H C x dx pe pc pf n bk tn es cs many start fr) (hD : H D = none) : Aw x pe pc pf D :=
  ⟨(ne_of_none tt.ins hD).symm, (ne_of_none tt.ens hD).symm, (ne_of_none tt.cnt hD).symm, (ne_of_none tt.fre hD).symm⟩
theorem TAt.but (tt : TAt H C x dx pe pc pf n bk tn es cs many start fr) (b : But p q H H') (a1 : Aw x pe pc pf p) (a2 : Aw x pe pc pf q) : TAt H' C x dx pe pc pf n bk tn es cs many start fr :=
  ⟨b _ _ a1.1.symm a2.1.symm tt.ins, b _ _ a1.2.1.symm a2.2.1.symm tt.ens, b _ _ a1.2.2.1.symm a2.2.2.1.symm tt.cnt, b _ _ a1.2.2.2.symm a2.2.2.2.symm tt.fre, tt.len, tt.lec, tt.lim, tt.q1, tt.q2, tt.q3⟩
end
theorem HAt.but {H H' : Hp} {p q Ch h : Addr} {i t e : Int} (ha : HAt H Ch h i t e) (b : But p q H H') (hP : PoolAt H p q) : HAt H' Ch h i t e := by
  obtain ⟨dh, hh⟩ := ha
  obtain ⟨ns, i, x, z, y, h1, h2, h3⟩ := hP
  exact ⟨dh, b _ _ (fun q => by rw [q, h1] at hh; cases hh) (fun q => by rw [q, h2] at hh; cases hh) hh⟩
theorem castL_len (l : List Nat) : (castL l).length = l.length := by unfold castL; rw [List.length_map]
theorem castL_V (l : List Nat) : (castL l).map V.int = intsL l := by
  unfold castL intsL
  rw [List.map_map]
  rfl
theorem tb_binds {K : PySem.W.Frag} {f : Addr} {fd : FuncData} (F : FunD K "__init__" "Table.__init__" (defArgs sTbInit) (defBody sTbInit) (defScope sTbInit) [] [("book", .str "least"), ("turns", .int 1)] f fd) :
    KBn K fd ["self", "size", "book", "turns"] 2 ["book", "turns"] (fun us ws => us ++ ws) (fun vs zs => vs ++ zs) ∧
    ∃ ds, Vals [.str "least", .int 1] ds ∧ Binds K fd ["self", "size", "book", "turns"] ds := by
  refine ⟨?_, ?_⟩
  · obtain ⟨_, z⟩ := F.kbinds0 (ps := ["self", "size", "book", "turns"]) 2 ["book", "turns"] [] (fun {α} vs _ zs => vs ++ zs) (by simp) (fun _ h => nomatch h) (fun r1 _ r3 => r1.append r3) (fun D doc pm an cdv ct us mv ws l1 l2 l3 => by
      match us, mv, ws, l1, l2, l3 with
      | [a, b], [], [e, g], _, _, _ => rfl)
    exact z
  · exact F.binds0 (ps := ["self", "size", "book", "turns"]) 2 (by simp) rfl (fun D doc pm an cdv ct us ks l1 l2 => by
      match us, ks, l1, l2 with
      | [a, b], [e, g], _, _ => exact ⟨_, _, _, _, _, _, rfl, rfl, ⟨_, _, _, _, _, _, rfl, rfl, rfl⟩⟩)
theorem gv_binds {K : PySem.W.Frag} {f : Addr} {fd : FuncData} (F : FunD K "give" "Table.give" (defArgs sTbGive) (defBody sTbGive) (defScope sTbGive) [.non] [] f fd) :
    (∃ ds, Vals [.non] ds ∧ Binds K fd ["self", "number"] ds) ∧ Binds K fd ["self", "number"] [] := by
  refine ⟨?_, ?_⟩
  · exact F.binds1 (ps := ["self", "number"]) 1 0 (by simp) rfl (fun T kV doc pm an cdv ct us its l1 l2 => by
      match us, its, l1, l2 with
      | [a], [i], _, _ => exact ⟨_, rfl, rfl⟩)
  · obtain ⟨ds, v, b⟩ := F.binds1 (ps := ["self", "number"]) 2 1 (by simp) rfl (fun T kV doc pm an cdv ct us its l1 l2 => by
      match us, its, l1, l2 with
      | [a, b], [i], _, _ => exact ⟨_, rfl, rfl⟩)
    cases v
    exact b
/-! ### copies; `in` of anything; the law's own tables -/
abbrev sTbCopied : Stmt := inClass (top 25) 17
abbrev sDrawT : Stmt := top 31
abbrev sNewT : Stmt := top 32
def spTInB (K : PySem.W.Frag) (C Ch : Addr) : Sp := fun vs H Q E => spTIn K C Ch vs H Q E ∨ ∃ (x : Addr) (v u : _), vs = [.ref x, v] ∧ TyX K H v u ∧ PySem.W.kitOne K u (.ref Ch) = some false ∧ Q (.bl false) H
/-- the law's own table -/
def StAt (H : Hp) (s e c f : Addr) (es : List V) (cs : List Int) (last : Int) (fr : List Int) (many : Int) : Prop :=
  H s = some (.lst [.ref e, .ref c, .int last, .ref f, .int many]) ∧ H e = some (.lst es) ∧ H c = some (.lst (cs.map V.int)) ∧ H f = some (.lst (fr.map V.int))
theorem StAt.same {H H' : Hp} {s e c f : Addr} {es : List V} {cs : List Int} {last : Int} {fr : List Int} {many : Int} (h : StAt H s e c f es cs last fr many) (q : Same H H') : StAt H' s e c f es cs last fr many := ⟨q _ _ h.1, q _ _ h.2.1, q _ _ h.2.2.1, q _ _ h.2.2.2⟩
/-- a size, a book and turns that a table takes -/
structure Good (n : Nat) (z : Str) (m : Nat) : Prop where
  g1 : isBetween (.int (n : Nat)) 1 60 = true
  gz : isBook (.str z) = true
  g3 : isBetween (.int (m : Nat)) 1 4 = true
  lz : z.length ≤ 1000
  n1 : 1 ≤ n
  m1 : 1 ≤ m
  m4 : m ≤ 4
def spCopied (C : Addr) : Sp := fun vs H Q _ => ∃ (x dx pe pc pf : Addr) (n : Nat) (z : Str) (m : Nat) (es : List V) (cs : List Int) (many start : Int) (fr : List Int), vs = [.ref x] ∧ TAt H C x dx pe pc pf n z (m : Nat) es cs many start fr ∧ Good n z m ∧
  ∀ H' y dy pe' pc' pf', Same H H' → TAt H' C y dy pe' pc' pf' n z (m : Nat) es cs many start fr → H y = none → H pe' = none → H pc' = none → H pf' = none → Q (.ref y) H'
def spDrawT : Sp := fun vs H Q _ => ∃ (p q : Addr) (mo : Nat), vs = [.ref p, .int (mo : Nat)] ∧ PoolAt H p q ∧ 1 ≤ mo ∧ mo ≤ 60 ∧
  ∀ H' r (n : Nat) (z : Str) (m : Nat), But p q H H' → PoolAt H' p q → H' r = some (.lst [.int (n : Nat), .str z, .int (m : Nat)]) → H r = none → Good n z m → n ≤ mo → Q (.ref r) H'
def spNewT : Sp := fun vs H Q _ => ∃ (n : Nat), vs = [.int (n : Nat)] ∧ n ≤ 60 ∧ ∀ H' s e c f, Same H H' → StAt H' s e c f (List.replicate n .non) (List.replicate n 0) ((n : Int) - 1) [] 0 → H s = none → H e = none → H c = none → H f = none → Q (.ref s) H'
section
variable {P : Program} {w : World} {K : PySem.W.Frag} {mg : Str → Option Value} {base : Heap}
theorem ok_tbInB {f C Ch pNu gNu pEn gEn : Addr} {fd fdNu fdEn : FuncData} (F : Fun K "__contains__" "Table.__contains__" sTbIn f fd) (T : MTxt K mg) (S : TbCls K mg C) (Sh : HCls K mg Ch)
    (pNu : PropOf K Ch "number" pNu gNu) (GNu : FnOk P w K mg base CX0 1 gNu fdNu ["self"] (spGet K "_number")) (bNu : Binds K fdNu ["self"] [])
    (pEn : PropOf K Ch "entry" pEn gEn) (GEn : FnOk P w K mg base CX0 1 gEn fdEn ["self"] (spGet K "_entry")) (bEn : Binds K fdEn ["self"] []) :
    FnOk P w K mg base CX0 3 f fd ["self", "x"] (spTInB K C Ch) := by
  refine F.ok scTbIn (fun vs H Q E h => ?_) (fun cdv A outer s H vs Q E hr h => ?_)
  · rcases h with ⟨x, _, _, _, _, _, _, _, _, _, _, _, _, _, _, _, _, rfl, _⟩ | ⟨x, v, u, rfl, _⟩ <;> rfl
  · have nofalse : True := trivial
    refine ⟨_, pss_one (ps_ret (pe_and (pe_callB call_isi (by rfl) T.isi (by decide +kernel) (pa_cons (pv 1) (pa_cons (pe_glob (v := .ref Ch) rfl Sh.g rfl) pa_nil)))
      (pe_and (pe_cmpR op_lt (pe_prop (pv 1) Sh.cl pNu GNu hr bNu .nil pass0 (by rfl)) (pe_fld (pv 0) (by rfl)) (nomark _))
      (pe_one (pe_cmpR op_eq (pe_ix ix_list (pe_fld (pv 0) (by rfl)) (pe_prop (pv 1) Sh.cl pNu GNu hr bNu .nil pass0 (by rfl)) (fun _ _ => rfl)) (pe_prop (pv 1) Sh.cl pEn GEn hr bEn .nil pass0 (by rfl)) (nomark _)))))), ?_⟩
    rcases h with ⟨x, dx, pe, pc, pf, n, bk, tn, es, cs, many, start, fr, h, j, tt, ee, rfl, t, hE, ⟨dh, hh⟩, ty, k⟩ | ⟨x, v, u, rfl, ty, no, k⟩
    rotate_left
    · exact ⟨_, rfl, _, _, _, _, false, rfl, .own Ch, ty, no, _, rfl, iteF k⟩
    refine ⟨_, rfl, _, _, _, _, true, rfl, .own Ch, ty, Sh.yes, _, rfl, iteT ?_⟩
    refine ⟨_, rfl, h, dh, _, rfl, hh, h, Ch, dh, _, .int (j : Nat), rfl, hh, Sh.cl, Sh.n1, rfl, _, rfl, x, C, dx, _, .int (n : Nat), rfl, t.ins, S.cl, S.n1, rfl, _, _, rfl, rfl, _, rfl, ?_⟩
    by_cases hj : n ≤ j
    · rw [decide_eq_false (show ¬ ((j : Nat) : Int) < (n : Nat) by omega)]
      rw [inW, if_pos hj] at k
      exact iteF k
    · rw [decide_eq_true (show ((j : Nat) : Int) < (n : Nat) by omega)]
      rw [inW, if_neg hj] at k
      have hl : j < es.length := by rw [t.len]; omega
      have hu : es[j]? = some es[j] := by simp [hl]
      have hu2 := hE es[j] (List.getElem_mem hl)
      generalize es[j] = u at hu hu2
      refine iteT ⟨_, rfl, x, C, dx, _, .ref pe, rfl, t.ins, S.cl, S.n4, rfl, _, rfl, h, dh, _, rfl, hh, h, Ch, dh, _, .int (j : Nat), rfl, hh, Sh.cl, Sh.n1, rfl, pe, es, _, u, rfl, rfl, .inl (.inl t.ens), atI_nat hu, _, rfl, h, dh, _, rfl, hh, h, Ch, dh, _, .int ee, rfl, hh, Sh.cl, Sh.n3, rfl, ?_, ?_⟩
      · rcases hu2 with rfl | ⟨_, rfl⟩ <;> rfl
      · have e : decide (u = V.int ee) = decide (es[j]? = some (V.int ee)) := decide_eq_decide.mpr ⟨fun q => by rw [hu, q], fun q => by rw [hu] at q; injection q⟩
        rw [e]
        exact k
theorem scTbCopied : FnScope ["self", "table"] ["self"] (defScope sTbCopied) := ⟨rfl, rfl, rfl, by decide +kernel, rfl, by decide +kernel, by decide +kernel⟩
theorem ok_tbCopied {f C CN CB fT : Addr} {fd fdT : FuncData} (F : Fun K "copied" "Table.copied" sTbCopied f fd) (S : TbCls K mg C) (hlist : mg "list" = none)
    (MH : Mk K C fT) (GT : FnOk P w K mg base (L2.CX P w) 3 fT fdT ["self", "size", "book", "turns"] (spTable C CN CB)) (kb : KBn K fdT ["self", "size", "book", "turns"] 2 ["book", "turns"] (fun us ws => us ++ ws) (fun vs zs => vs ++ zs)) :
    FnOk P w K mg base CX0 5 f fd ["self"] (spCopied C) := by
  refine F.ok scTbCopied (fun vs H Q E h => ?_) (fun cdv A outer s H vs Q E hr h => ?_)
  · obtain ⟨x, _, _, _, _, _, _, _, _, _, _, _, _, rfl, _⟩ := h
    rfl
  · obtain ⟨x, dx, pe, pc, pf, n, z, m, es, cs, many, start, fr, rfl, t, g, k⟩ := h
    refine ⟨_, pss_cons (ps_set (i := 1) scTbCopied.nd rfl (.inl rfl) (pe_makeK MH GT hr rfl S.g kb passF (pa_cons (pe_fld (pv 0) (by rfl)) pa_nil) (pk_cons (pe_fld (pv 0) (by rfl)) (pk_cons (pe_fld (pv 0) (by rfl)) pk_nil))))
      (pss_cons (ps_fld (pv 1) (pe_callTy call_list_of (by rfl) hlist (by decide +kernel) (pa_cons (pe_fld (pv 0) (by rfl)) pa_nil)) (by rfl))
      (pss_cons (ps_fld (pv 1) (pe_callTy call_list_of (by rfl) hlist (by decide +kernel) (pa_cons (pe_fld (pv 0) (by rfl)) pa_nil)) (by rfl))
      (pss_cons (ps_fld (pv 1) (pe_fld (pv 0) (by rfl)) (by rfl))
      (pss_cons (ps_fld (pv 1) (pe_fld (pv 0) (by rfl)) (by rfl))
      (pss_cons (ps_fld (pv 1) (pe_callTy call_list_of (by rfl) hlist (by decide +kernel) (pa_cons (pe_fld (pv 0) (by rfl)) pa_nil)) (by rfl))
      (pss_one (ps_ret (pv 1)))))))), ?_⟩
    refine ⟨_, rfl, x, C, dx, _, .int (n : Nat), rfl, t.ins, S.cl, S.n1, rfl, _, rfl, x, C, dx, _, .str z, rfl, t.ins, S.cl, S.n2, rfl, _, rfl, x, C, dx, _, .int (m : Nat), rfl, t.ins, S.cl, S.n3, rfl, rfl, rfl, mkT_ok g.g1 g.gz g.g3 g.lz fun H1 y dy pe1 pc1 pf1 s1 hy t1 _ _ _ => ?_⟩
    have t0 := t.same s1
    have nxy : x ≠ y := ne_of_none t.ins hy
    have o1 : SameX y H H1 := fun b u _ e => s1 b u e
    have i1 := t1.ins
    clear t1 s1
    -- _entries
    refine ⟨_, rfl, x, C, dx, _, .ref pe, rfl, t0.ins, S.cl, S.n4, rfl, pe, es, rfl, .inl (.inl (.inl t0.ens)), fun l1 h1 => ⟨_, rfl, y, C, dy, _, rfl, (upd_ne (ne_of_none i1 h1)).trans i1, S.cl, S.n4, (show 8 < 1000 by decide), ?_⟩⟩
    have ny1 : l1 ≠ y := fun q => by rw [q, i1] at h1; cases h1
    have hl1 := o1.none i1 h1
    have o2 := (o1.new (o := .lst es) h1).put (.ins C dy (putF "_entries" (.ref l1) (tbF (.int (n : Nat)) (.str z) (.int (m : Nat)) pe1 pc1 0 0 pf1)))
    have i2 : (upd (upd H1 l1 (.lst es)) y (.ins C dy (putF "_entries" (.ref l1) (tbF (.int (n : Nat)) (.str z) (.int (m : Nat)) pe1 pc1 0 0 pf1)))) y = some (.ins C dy (tbF (.int (n : Nat)) (.str z) (.int (m : Nat)) l1 pc1 0 0 pf1)) := upd_same
    have e2 : (upd (upd H1 l1 (.lst es)) y (.ins C dy (putF "_entries" (.ref l1) (tbF (.int (n : Nat)) (.str z) (.int (m : Nat)) pe1 pc1 0 0 pf1)))) l1 = some (.lst es) := (upd_ne ny1).trans upd_same
    generalize upd (upd H1 l1 (.lst es)) y (.ins C dy (putF "_entries" (.ref l1) (tbF (.int (n : Nat)) (.str z) (.int (m : Nat)) pe1 pc1 0 0 pf1))) = H2 at o2 i2 e2 ⊢
    clear o1 i1 t0 h1
    have x2 := o2 _ _ nxy t.ins
    have c2 := o2 _ _ (ne_of_none t.cnt hy) t.cnt
    -- _counts
    refine ⟨_, rfl, x, C, dx, _, .ref pc, rfl, x2, S.cl, S.n5, rfl, pc, _, rfl, .inl (.inl (.inl c2)), fun l2 h2 => ⟨_, rfl, y, C, dy, _, rfl, (upd_ne (ne_of_none i2 h2)).trans i2, S.cl, S.n5, (show 8 < 1000 by decide), ?_⟩⟩
    have ny2 : l2 ≠ y := fun q => by rw [q, i2] at h2; cases h2
    have n12 : l1 ≠ l2 := ne_of_none e2 h2
    have hl2 := o2.none i2 h2
    have o3 := (o2.new (o := .lst (cs.map V.int)) h2).put (.ins C dy (putF "_counts" (.ref l2) (tbF (.int (n : Nat)) (.str z) (.int (m : Nat)) l1 pc1 0 0 pf1)))
    have i3 : (upd (upd H2 l2 (.lst (cs.map V.int))) y (.ins C dy (putF "_counts" (.ref l2) (tbF (.int (n : Nat)) (.str z) (.int (m : Nat)) l1 pc1 0 0 pf1)))) y = some (.ins C dy (tbF (.int (n : Nat)) (.str z) (.int (m : Nat)) l1 l2 0 0 pf1)) := upd_same
    have e3 : (upd (upd H2 l2 (.lst (cs.map V.int))) y (.ins C dy (putF "_counts" (.ref l2) (tbF (.int (n : Nat)) (.str z) (.int (m : Nat)) l1 pc1 0 0 pf1)))) l1 = some (.lst es) := (upd_ne ny1).trans ((upd_ne n12).trans e2)
    have c3 : (upd (upd H2 l2 (.lst (cs.map V.int))) y (.ins C dy (putF "_counts" (.ref l2) (tbF (.int (n : Nat)) (.str z) (.int (m : Nat)) l1 pc1 0 0 pf1)))) l2 = some (.lst (cs.map V.int)) := (upd_ne ny2).trans upd_same
    generalize upd (upd H2 l2 (.lst (cs.map V.int))) y (.ins C dy (putF "_counts" (.ref l2) (tbF (.int (n : Nat)) (.str z) (.int (m : Nat)) l1 pc1 0 0 pf1))) = H3 at o3 i3 e3 c3 ⊢
    clear o2 i2 e2 h2 x2 c2
    have x3 := o3 _ _ nxy t.ins
    -- _many_entries, _start
    refine ⟨_, rfl, x, C, dx, _, .int many, rfl, x3, S.cl, S.n6, rfl, _, rfl, y, C, dy, _, rfl, i3, S.cl, S.n6, (show 8 < 1000 by decide), ?_⟩
    have o4 := o3.put (.ins C dy (putF "_many_entries" (.int many) (tbF (.int (n : Nat)) (.str z) (.int (m : Nat)) l1 l2 0 0 pf1)))
    have i4 : (upd H3 y (.ins C dy (putF "_many_entries" (.int many) (tbF (.int (n : Nat)) (.str z) (.int (m : Nat)) l1 l2 0 0 pf1)))) y = some (.ins C dy (tbF (.int (n : Nat)) (.str z) (.int (m : Nat)) l1 l2 many 0 pf1)) := upd_same
    have e4 : (upd H3 y (.ins C dy (putF "_many_entries" (.int many) (tbF (.int (n : Nat)) (.str z) (.int (m : Nat)) l1 l2 0 0 pf1)))) l1 = some (.lst es) := (upd_ne ny1).trans e3
    have c4 : (upd H3 y (.ins C dy (putF "_many_entries" (.int many) (tbF (.int (n : Nat)) (.str z) (.int (m : Nat)) l1 l2 0 0 pf1)))) l2 = some (.lst (cs.map V.int)) := (upd_ne ny2).trans c3
    generalize upd H3 y (.ins C dy (putF "_many_entries" (.int many) (tbF (.int (n : Nat)) (.str z) (.int (m : Nat)) l1 l2 0 0 pf1))) = H4 at o4 i4 e4 c4 ⊢
    clear o3 i3 e3 c3 x3
    have x4 := o4 _ _ nxy t.ins
    refine ⟨_, rfl, x, C, dx, _, .int start, rfl, x4, S.cl, S.n7, rfl, _, rfl, y, C, dy, _, rfl, i4, S.cl, S.n7, (show 8 < 1000 by decide), ?_⟩
    have o5 := o4.put (.ins C dy (putF "_start" (.int start) (tbF (.int (n : Nat)) (.str z) (.int (m : Nat)) l1 l2 many 0 pf1)))
    have i5 : (upd H4 y (.ins C dy (putF "_start" (.int start) (tbF (.int (n : Nat)) (.str z) (.int (m : Nat)) l1 l2 many 0 pf1)))) y = some (.ins C dy (tbF (.int (n : Nat)) (.str z) (.int (m : Nat)) l1 l2 many start pf1)) := upd_same
    have e5 : (upd H4 y (.ins C dy (putF "_start" (.int start) (tbF (.int (n : Nat)) (.str z) (.int (m : Nat)) l1 l2 many 0 pf1)))) l1 = some (.lst es) := (upd_ne ny1).trans e4
    have c5 : (upd H4 y (.ins C dy (putF "_start" (.int start) (tbF (.int (n : Nat)) (.str z) (.int (m : Nat)) l1 l2 many 0 pf1)))) l2 = some (.lst (cs.map V.int)) := (upd_ne ny2).trans c4
    generalize upd H4 y (.ins C dy (putF "_start" (.int start) (tbF (.int (n : Nat)) (.str z) (.int (m : Nat)) l1 l2 many 0 pf1))) = H5 at o5 i5 e5 c5 ⊢
    clear o4 i4 e4 c4 x4
    have x5 := o5 _ _ nxy t.ins
    have f5 := o5 _ _ (ne_of_none t.fre hy) t.fre
    refine ⟨_, rfl, x, C, dx, _, .ref pf, rfl, x5, S.cl, S.n8, rfl, pf, _, rfl, .inl (.inl (.inl f5)), fun l3 h3 => ⟨_, rfl, y, C, dy, _, rfl, (upd_ne (ne_of_none i5 h3)).trans i5, S.cl, S.n8, (show 8 < 1000 by decide), ?_⟩⟩
    have ny3 : l3 ≠ y := fun q => by rw [q, i5] at h3; cases h3
    have hl3 := o5.none i5 h3
    have s6 : Same H (upd (upd H5 l3 (.lst (fr.map V.int))) y (.ins C dy (putF "_freed" (.ref l3) (tbF (.int (n : Nat)) (.str z) (.int (m : Nat)) l1 l2 many start pf1)))) := fun b u e => ((o5.new (o := .lst (fr.map V.int)) h3).put _) b u (ne_of_none e hy) e
    exact ⟨_, rfl, k _ y dy l1 l2 l3 s6 ⟨upd_same, (upd_ne ny1).trans ((upd_ne (ne_of_none e5 h3)).trans e5), (upd_ne ny2).trans ((upd_ne (ne_of_none c5 h3)).trans c5), (upd_ne ny3).trans upd_same, t.len, t.lec, t.lim, n12, ne_of_none e5 h3, ne_of_none c5 h3⟩ hy hl1 hl2 hl3⟩
theorem scDrawT : FnScope ["pool", "most", "wide", "word"] ["pool", "most"] (defScope sDrawT) := ⟨rfl, rfl, rfl, by decide +kernel, rfl, by decide +kernel, by decide +kernel⟩
theorem ok_drawT {f fD : Addr} {fd fdD : FuncData} (F : Fun K "_law_draw_table" "_law_draw_table" sDrawT f fd) (FD : Fun K "_law_draw" "_law_draw" sDraw fD fdD) (bD : Binds K fdD ["pool", "many"] []) (gD : mg "_law_draw" = some (.ref fD))
    (GD : FnOk P w K mg base CX0 2 fD fdD ["pool", "many"] spDraw) : FnOk P w K mg base CX0 3 f fd ["pool", "most"] spDrawT := by
  refine F.ok scDrawT (fun vs H Q E h => ?_) (fun cdv A outer s H vs Q E hr h => ?_)
  · obtain ⟨p, q, mo, rfl, _⟩ := h
    rfl
  · obtain ⟨p, q, mo, rfl, hP, h1, h60, k⟩ := h
    refine ⟨_, pss_cons (ps_par (i := 2) (j := 3) (by rfl) scDrawT.nd rfl rfl (by decide) rfl rfl (pa_cons (pe_op op_add pe_int (pe_call GD hr rfl gD FD.kp bD .nil pass0 (pa_cons (pv 0) (pa_cons (pv 1) pa_nil))))
        (pa_cons (pe_ix ix_list (pe_lst (pa_cons pe_str (pa_cons pe_str (pa_cons pe_str (pa_cons pe_str pa_nil))))) (pe_call GD hr rfl gD FD.kp bD .nil pass0 (pa_cons (pv 0) (pa_cons pe_int pa_nil))) (fun _ _ => rfl)) pa_nil)) (by rfl))
      (pss_one (ps_ret (pe_lst (pa_cons (pv 2) (pa_cons (pv 3) (pa_cons (pe_ix ix_list (pe_lst (pa_cons pe_int (pa_cons pe_int (pa_cons pe_int (pa_cons pe_int pa_nil))))) (pe_call GD hr rfl gD FD.kp bD .nil pass0 (pa_cons (pv 0) (pa_cons pe_int pa_nil))) (fun _ _ => rfl)) pa_nil)))))), ?_⟩
    refine ⟨_, rfl, _, rfl, p, q, mo, rfl, hP, by omega, by omega, fun H1 r1 b1 P1 r10 r11 => ⟨_, _, rfl, rfl, ?_⟩⟩
    obtain ⟨n0, rfl⟩ := Int.eq_ofNat_of_zero_le r10
    refine ⟨(by show 4 ≤ sizeLine; decide), fun L hL => ?_⟩
    have fL := Sf.new (o := .lst [.str "least", .str "any", .str "next", .str "last"]) P1 hL
    have P2 := P1.same (Same.new (o := .lst [.str "least", .str "any", .str "next", .str "last"]) hL)
    have b2 := b1.trans (But.of_same (p := p) (q := q) (Same.new (o := .lst [.str "least", .str "any", .str "next", .str "last"]) hL))
    generalize upd H1 L (.lst [.str "least", .str "any", .str "next", .str "last"]) = H2 at fL P2 b2 ⊢
    refine ⟨_, rfl, p, q, 4, rfl, P2, (by decide), (by decide), fun H3 r3 b3 P3 r30 r31 => ?_⟩
    obtain ⟨j, rfl⟩ := Int.eq_ofNat_of_zero_le r30
    obtain ⟨z, ez, hz⟩ : ∃ z, ([.str "least", .str "any", .str "next", .str "last"] : List V)[j]? = some (.str z) ∧ (z = "least" ∨ z = "any" ∨ z = "next" ∨ z = "last") := by
      match j, r31 with
      | 0, _ => exact ⟨_, rfl, .inl rfl⟩
      | 1, _ => exact ⟨_, rfl, .inr (.inl rfl)⟩
      | 2, _ => exact ⟨_, rfl, .inr (.inr (.inl rfl))⟩
      | 3, _ => exact ⟨_, rfl, .inr (.inr (.inr rfl))⟩
      | m + 4, h => exact absurd h (by omega)
    refine ⟨L, _, _, _, rfl, rfl, .inl (.inl (fL.but b3).e), atI_nat ez, .int ((n0 + 1 : Nat) : Int), .str z, ?_, ?_⟩
    · show [V.int (1 + (n0 : Int)), V.str z] = [V.int ((n0 + 1 : Nat) : Int), V.str z]
      rw [show (1 : Int) + (n0 : Int) = ((n0 + 1 : Nat) : Int) by omega]
    have b4 := b2.trans b3
    refine ⟨_, rfl, _, rfl, (by show 4 ≤ sizeLine; decide), fun L2 hL2 => ?_⟩
    have fL2 := Sf.new (o := .lst [.int 1, .int 1, .int 2, .int 3]) P3 hL2
    have P5 := P3.same (Same.new (o := .lst [.int 1, .int 1, .int 2, .int 3]) hL2)
    have b5 := b4.trans (But.of_same (p := p) (q := q) (Same.new (o := .lst [.int 1, .int 1, .int 2, .int 3]) hL2))
    generalize upd H3 L2 (.lst [.int 1, .int 1, .int 2, .int 3]) = H5 at fL2 P5 b5 ⊢
    refine ⟨_, rfl, p, q, 4, rfl, P5, (by decide), (by decide), fun H6 r6 b6 P6 r60 r61 => ?_⟩
    obtain ⟨j2, rfl⟩ := Int.eq_ofNat_of_zero_le r60
    obtain ⟨m, em, hm⟩ : ∃ m : Nat, ([.int 1, .int 1, .int 2, .int 3] : List V)[j2]? = some (.int (m : Nat)) ∧ 1 ≤ m ∧ m ≤ 4 := by
      match j2, r61 with
      | 0, _ => exact ⟨1, rfl, by decide, by decide⟩
      | 1, _ => exact ⟨1, rfl, by decide, by decide⟩
      | 2, _ => exact ⟨2, rfl, by decide, by decide⟩
      | 3, _ => exact ⟨3, rfl, by decide, by decide⟩
      | m + 4, h => exact absurd h (by omega)
    refine ⟨L2, _, _, _, rfl, rfl, .inl (.inl (fL2.but b6).e), atI_nat em, (by show 3 ≤ sizeLine; decide), fun R hR => ?_⟩
    have b7 := b5.trans b6
    have sR := Same.new (o := .lst [.int ((n0 + 1 : Nat) : Int), .str z, .int (m : Nat)]) hR
    refine k _ R (n0 + 1) z m (b7.trans (But.of_same sR)) (P6.same sR) upd_same ?_ ⟨?_, ?_, ?_, ?_, by omega, hm.1, hm.2⟩ (by omega)
    · cases q0 : H R with
      | none => rfl
      | some u =>
        have np := P6.nep hR
        rw [b7 R u np.1.symm np.2.symm q0] at hR
        cases hR
    · show (decide (0 ≤ ((n0 + 1 : Nat) : Int)) && (decide ((1 : Int) ≤ ((n0 + 1 : Nat) : Int)) && decide (((n0 + 1 : Nat) : Int) ≤ 60))) = true
      rw [decide_eq_true (by omega), decide_eq_true (by omega), decide_eq_true (by omega)]
      rfl
    · rcases hz with rfl | rfl | rfl | rfl <;> decide +kernel
    · show (decide (0 ≤ (m : Int)) && (decide ((1 : Int) ≤ (m : Nat)) && decide (((m : Nat) : Int) ≤ 4))) = true
      rw [decide_eq_true (by omega), decide_eq_true (by omega), decide_eq_true (by omega)]
      rfl
    · rcases hz with rfl | rfl | rfl | rfl <;> decide
theorem scNewT : FnScope ["wide"] ["wide"] (defScope sNewT) := ⟨rfl, rfl, rfl, by decide +kernel, rfl, by decide +kernel, by decide +kernel⟩
theorem ok_newT {f : Addr} {fd : FuncData} (F : Fun K "_law_new_table" "_law_new_table" sNewT f fd) : FnOk P w K mg base CX0 1 f fd ["wide"] spNewT := by
  refine F.ok scNewT (fun vs H Q E h => ?_) (fun cdv A outer s H vs Q E hr h => ?_)
  · obtain ⟨n, rfl, _⟩ := h
    rfl
  · obtain ⟨n, rfl, h60, k⟩ := h
    refine ⟨_, pss_one (ps_ret (pe_lst (pa_cons (pe_op op_rep (pe_lst (pa_cons pe_non pa_nil)) (pv 0)) (pa_cons (pe_op op_rep (pe_lst (pa_cons pe_int pa_nil)) (pv 0)) (pa_cons (pe_op op_sub (pv 0) pe_int) (pa_cons (pe_lst pa_nil) (pa_cons pe_int pa_nil))))))), ?_⟩
    have rl : ∀ v : V, [v].length * ((n : Nat) : Int).toNat ≤ sizeLine := fun v => by
      rw [Int.toNat_natCast]
      exact Nat.le_trans (show 1 * n ≤ 60 by omega) (by decide)
    refine ⟨(by show 1 ≤ sizeLine; decide), fun l hl => ⟨_, rfl, l, (n : Nat), [.non], rfl, rfl, upd_same, by omega, by omega, rl _, fun e he => ?_⟩⟩
    rw [rep_one, Int.toNat_natCast]
    have s1 := (Same.new (o := .lst [.non]) hl).push (o := .lst (List.replicate n .non)) he
    have e1 : (upd (upd H l (.lst [.non])) e (.lst (List.replicate n .non))) e = _ := upd_same
    have hn : ∀ {G : Hp} {b : Addr}, Same H G → G b = none → H b = none := fun s q => by
      cases q0 : H _ with
      | none => rfl
      | some u => rw [s _ _ q0] at q; cases q
    have he0 := hn (Same.new (o := .lst [.non]) hl) he
    generalize upd (upd H l (.lst [.non])) e (.lst (List.replicate n .non)) = H1 at s1 e1 ⊢
    refine ⟨(by show 1 ≤ sizeLine; decide), fun l2 hl2 => ⟨_, rfl, l2, (n : Nat), [.int 0], rfl, rfl, upd_same, by omega, by omega, rl _, fun c hc => ?_⟩⟩
    rw [rep_one, Int.toNat_natCast]
    have sx := Same.new (o := .lst [.int 0]) hl2
    have hc0 := hn (s1.trans sx) hc
    have s2 := (s1.trans sx).push (o := .lst (List.replicate n (.int 0))) hc
    have e2 := (Same.new (o := .lst (List.replicate n (.int 0))) hc) _ _ (sx _ _ e1)
    have c2 : (upd (upd H1 l2 (.lst [.int 0])) c (.lst (List.replicate n (.int 0)))) c = _ := upd_same
    generalize upd (upd H1 l2 (.lst [.int 0])) c (.lst (List.replicate n (.int 0))) = H2 at s2 e2 c2 ⊢
    refine ⟨_, rfl, _, _, rfl, rfl, (by show 0 ≤ sizeLine; decide), fun f' hf => ?_⟩
    have hf0 := hn s2 hf
    have sf := Same.new (o := .lst []) hf
    refine ⟨(by show 5 ≤ sizeLine; decide), fun S hS => ?_⟩
    have hS0 := hn (s2.trans sf) hS
    have sS := Same.new (o := .lst [.ref e, .ref c, .int ((n : Int) - 1), .ref f', .int 0]) hS
    refine k _ S e c f' ((s2.trans sf).trans sS) ⟨upd_same, sS _ _ (sf _ _ e2), ?_, sS _ _ upd_same⟩ hS0 he0 hc0 hf0
    rw [List.map_replicate]
    exact sS _ _ (sf _ _ c2)
end
/-! ### the law's own tables: what is offered, entered, given, ended, judged -/
abbrev sOffers : Stmt := top 33
abbrev sEnter : Stmt := top 34
abbrev sLGive : Stmt := top 35
abbrev sLEnd : Stmt := top 36
abbrev sJudge : Stmt := top 37
def dZ (l : List Int) : PyData := .list (l.map PyData.int)
theorem dp_Z {K : PySem.W.Frag} {H : Hp} {a : Addr} {l : List Int} (e : H a = some (.lst (l.map V.int))) : Dp K H (.ref a) (dZ l) := by
  refine .lst (.inl (.inl e)) ?_
  clear e
  induction l with
  | nil => exact .nil
  | cons m l ih => exact .cons (.int _) ih
theorem shaped_Z (l : List Int) : SeqAt.shaped (dZ l) = true := by
  have h1 : ∀ l : List Int, PyData.canLayAll0 (l.map PyData.int) = true := fun l => by
    induction l with
    | nil => rfl
    | cons m l ih =>
      show (true && PyData.canLayAll0 (l.map PyData.int)) = true
      rw [ih]
      rfl
  have h2 : ∀ l : List Int, PyData.depthAll (l.map PyData.int) = 0 := fun l => by
    induction l with
    | nil => rfl
    | cons m l ih =>
      show max (PyData.depth (.int m)) (PyData.depthAll (l.map PyData.int)) = 0
      rw [ih]
      rfl
  show (PyData.canLayAll0 (l.map PyData.int) && decide (PyData.depthAll (l.map PyData.int) + 1 ≤ 64)) = true
  rw [h1, h2]
  rfl
theorem eqv_Z (l : List Int) : PyData.eqv (dZ l) (dZ l) = true := by
  unfold dZ
  induction l with
  | nil => rfl
  | cons m l ih =>
    show ((m == m) && PyData.eqv (.list (l.map PyData.int)) (.list (l.map PyData.int))) = true
    rw [ih]
    simp
theorem cut_take (xs : List V) (m : Nat) : cutV xs none (some (m : Int)) = xs.take m := by
  unfold cutV
  rw [HT.sIx_nat, HT.sIx_none, Nat.sub_zero, List.drop_zero]
  by_cases h : m ≤ xs.length
  · rw [Nat.min_eq_left h]
  · rw [Nat.min_eq_right (by omega), List.take_of_length_le (Nat.le_refl _), List.take_of_length_le (by omega)]
theorem cut_back (xs : List V) (m : Nat) (hm : 1 ≤ m) : cutV xs (some (-(m : Int))) none = xs.drop (xs.length - m) := by
  unfold cutV
  have e : HT.sIx xs.length 0 (some (-(m : Int))) = xs.length - m := by
    show (if -(m : Int) < 0 then (-(m : Int) + (xs.length : Int)).toNat else _) = _
    rw [if_pos (by omega)]
    omega
  rw [e, HT.sIx_none, List.take_of_length_le (by rw [List.length_drop]; exact Nat.le_refl _)]
def spOffers : Sp := fun vs H Q _ => ∃ (z : Str) (s e c f : Addr) (es : List V) (cs : List Int) (last : Int) (fr : List Int) (many : Int), vs = [.str z, .ref s] ∧ StAt H s e c f es cs last fr many ∧ es.length ≤ 60 ∧ fr.length ≤ 100 ∧
  ∀ H' r, Same H H' → H' r = some (.lst ((freeL z (last + 1) fr es).map V.int)) → H r = none → Q (.ref r) H'
def spEnter : Sp := fun vs H Q _ => ∃ (s e c f : Addr) (es : List V) (cs : List Int) (last : Int) (fr : List Int) (many : Int) (m j : Nat) (cc : Int), vs = [.ref s, .int (m : Nat), .int (j : Nat)] ∧ StAt H s e c f es cs last fr many ∧ 1 ≤ m ∧ j < es.length ∧ cs[j]? = some cc ∧ fr.length ≤ 100 ∧
  ∀ H' r s' t' e' c' f', Same H H' → H' r = some (.lst [.ref s', .ref t']) → StAt H' s' e' c' f' (es.set j (.int many)) (cs.set j (cc + 1)) last (fr.filter fun x => !decide (x = (j : Int))) (many + 1) → H' t' = some (.tup [.int (j : Nat), .int (cc % (m : Nat)), .int many]) → H s' = none → H t' = none → H e' = none → H c' = none → H f' = none → Q (.ref r) H'
def spLGive : Sp := fun vs H Q _ => ∃ (s e c f : Addr) (es : List V) (cs : List Int) (last : Int) (fr : List Int) (many : Int) (m j : Nat) (cc : Int), vs = [.ref s, .int (m : Nat), .int (j : Nat)] ∧ StAt H s e c f es cs last fr many ∧ 1 ≤ m ∧ j < es.length ∧ cs[j]? = some cc ∧ fr.length ≤ 100 ∧
  ∀ H' r s' t' e' c' f', Same H H' → H' r = some (.lst [.ref s', .ref t']) → StAt H' s' e' c' f' (es.set j (.int many)) (cs.set j (cc + 1)) (j : Nat) (fr.filter fun x => !decide (x = (j : Int))) (many + 1) → H' t' = some (.tup [.int (j : Nat), .int (cc % (m : Nat)), .int many]) → H s' = none → H t' = none → H e' = none → H c' = none → H f' = none → Q (.ref r) H'
def spLEnd : Sp := fun vs H Q _ => ∃ (s e c f : Addr) (es : List V) (cs : List Int) (last : Int) (fr : List Int) (many : Int) (j : Nat), vs = [.ref s, .int (j : Nat)] ∧ StAt H s e c f es cs last fr many ∧ j < es.length ∧ fr.length ≤ 100 ∧
  ∀ H' s' e' f', Same H H' → StAt H' s' e' c f' (es.set j .non) cs last (fr ++ [(j : Int)]) many → H s' = none → H e' = none → H f' = none → Q (.ref s') H'
def spJudge : Sp := fun vs H Q _ => ∃ (s e c f : Addr) (es : List V) (cs : List Int) (last : Int) (fr : List Int) (many : Int) (m : Nat) (v : V), vs = [.ref s, .int (m : Nat), v] ∧ StAt H s e c f es cs last fr many ∧ 1 ≤ m ∧ (∀ u ∈ es, EntV u) ∧ cs.length = es.length ∧
  ((v = .non ∧ Q (.str "refused") H) ∨ ∃ (t : Addr) (j : Nat) (tt ee : Int), v = .ref t ∧ H t = some (.tup [.int (j : Nat), .int tt, .int ee]) ∧ Q (.str (useW es.length (m : Nat) es cs j tt ee)) H)
theorem none_same {H H' : Hp} {b : Addr} (s : Same H H') (q : H' b = none) : H b = none := by
  cases q0 : H b with
  | none => rfl
  | some u => rw [s _ _ q0] at q; cases q
section
variable {P : Program} {w : World} {K : PySem.W.Frag} {mg : Str → Option Value} {base : Heap}
theorem scOffers : FnScope ["word", "table", "numbers", "k"] ["word", "table"] (defScope sOffers) := ⟨rfl, rfl, rfl, by decide +kernel, rfl, by decide +kernel, by decide +kernel⟩
theorem ok_offers {f0 : Addr} {fd : FuncData} (F : Fun K "_law_offers" "_law_offers" sOffers f0 fd) (hlen : mg "len" = none) (hrng : mg "range" = none) : FnOk P w K mg base CX0 1 f0 fd ["word", "table"] spOffers := by
  refine F.ok scOffers (fun vs H Q E h => ?_) (fun cdv A outer s0 H vs Q E hr h => ?_)
  · obtain ⟨z, s, _, _, _, _, _, _, _, _, rfl, _⟩ := h
    rfl
  · obtain ⟨z, s, e, c, f, es, cs, last, fr, many, rfl, st, h60, hf, k⟩ := h
    have hu64 : (A.deeper (PyProof.Rows.envOfC "_law_offers" (defScope sOffers) s0.heap.objs.size f0 cdv)).units + 64 < cLine := hr.units
    have hu0 : (A.deeper (PyProof.Rows.envOfC "_law_offers" (defScope sOffers) s0.heap.objs.size f0 cdv)).units < cLine := by omega
    refine ⟨_, pss_cons (ps_setLc (i := 2) (own := [("k", 3)]) (g := gName 3) (by rfl) scOffers.nd rfl rfl (sw_true rfl rfl rfl (by decide +kernel)) (pi_range1 rfl hrng (pa_cons (pe_callB call_len_seq (by rfl) hlen (by decide +kernel) (pa_cons (pe_ix ix_list (pv 1) pe_int (fun _ _ => rfl)) pa_nil)) pa_nil))
          (blkOk_by (own := [("k", 3)]) (N := ["word", "table", "numbers", "k"]) (sc := defScope sOffers) (by decide +kernel)) (fun _ _ _ _ _ => pg_name (i := 3) scOffers.nd rfl (Or.inl rfl))
          (fun _ _ _ _ _ => pts_one (pt_cmp (pc_isN (pe_ix (r := rIxL K) ix_list (pe_ix (r := rIxL K) ix_list (pv 1) pe_int (fun _ _ => rfl)) (pv 3) (fun _ _ => rfl))))) (fun _ _ _ _ _ => pv 3))
      (pss_cons (ps_if (PW.pt (pw_or (pt_cmpR op_eq (pv 0) pe_str (nomark _)) (pw_or1 (pt_cmpR (op_eqNil hu0) (pv 2) (pe_lst pa_nil) (by rfl))))) (pss_one (ps_ret (pv 2))) pss_nil)
      (pss_cons (ps_if (pt_cmpR op_eq (pv 0) pe_str (nomark _)) (pss_one (ps_ret (pe_slice sl_list (pe_op op_cat (pe_lc (own := [("k", 3)]) (g := gName 3) (by rfl) scOffers.nd (pi_list (pv 2))
          (blkOk_by (own := [("k", 3)]) (N := ["word", "table", "numbers", "k"]) (sc := defScope sOffers) (by decide +kernel)) (fun _ _ _ _ _ => pg_name (i := 3) scOffers.nd rfl (Or.inl rfl))
          (fun _ _ _ _ _ => pts_one (pt_cmpR op_gt (pv 3) (pe_ix (r := rIxL K) ix_list (pv 1) pe_int (fun _ _ => rfl)) (by rfl))) (fun _ _ _ _ _ => pv 3)) (pv 2)) po_none (po_some pe_int)))) pss_nil)
      (pss_cons (ps_if (PW.pt (pw_and (pt_cmpR op_eq (pv 0) pe_str (nomark _)) (pw_and1 (pt_cmpR (op_neD hu64) (pe_ix ix_list (pv 1) pe_int (fun _ _ => rfl)) (pe_lst pa_nil) (by rfl)))))
          (pss_one (ps_ret (pe_slice sl_list (pe_ix ix_list (pv 1) pe_int (fun _ _ => rfl)) (po_some (pe_un un_neg pe_int)) po_none))) pss_nil)
      (pss_one (ps_ret (pe_slice sl_list (pv 2) po_none (po_some pe_int))))))), ?_⟩
    obtain ⟨e0, e1, e2, e3⟩ := st
    have sq : ∀ {H'}, Same H H' → SqL K H' s [.ref e, .ref c, .int last, .ref f, .int many] := fun q => .inl (.inl (q _ _ e0))
    refine ⟨_, rfl, s, _, 0, _, rfl, rfl, sq (Same.refl _), rfl, e, es, rfl, .inl (.inl (.inl e1)), _, rfl, by omega, by omega, fun D hD => lc_range (lo := 0) (n := es.length) (fun i H' => Same H H' ∧ H' D = some (.lst ((freesN es i).map fun (m : Nat) => V.int m))) ⟨Same.new hD, upd_same⟩ ?_ ?_⟩
    · rintro i H' hi ⟨s1, d1⟩
      have hu : es[i]? = some es[i] := List.getElem?_eq_getElem hi
      have ei : atI es (0 + (i : Int)) = some es[i] := by rw [Int.zero_add]; exact atI_nat hu
      refine ⟨rfl, _, rfl, s, _, 0, _, rfl, rfl, sq s1, rfl, _, rfl, e, es, _, _, rfl, rfl, .inl (.inl (s1 _ _ e1)), ei, _, rfl, ?_⟩
      cases q : decide (es[i] = V.non) with
      | false =>
        refine iteF ⟨s1, ?_⟩
        have hq : ¬ es[i]? = some V.non := fun q2 => by
          rw [hu] at q2
          exact of_decide_eq_false q (Option.some.inj q2)
        rw [freesN_succ, if_neg hq, List.append_nil]
        exact d1
      | true =>
        have hq : es[i]? = some V.non := by rw [hu, of_decide_eq_true q]
        refine iteT ⟨_, rfl, _, d1, ?_, s1.put hD, ?_⟩
        · rw [List.length_map]
          have l3 := freesN_le es i
          exact Nat.lt_of_le_of_lt (show (freesN es i).length ≤ 60 by omega) (by decide)
        · rw [upd_same, freesN_succ, if_pos hq, List.map_append, Int.zero_add]
          rfl
    · rintro H1 ⟨s1, d1⟩
      have d1 : H1 D = some (.lst ((frees es).map V.int)) := by
        rw [d1, frees, List.map_map]
        rfl
      have l60 : (frees es).length ≤ 60 := by
        rw [frees, List.length_map]
        exact Nat.le_trans (freesN_le _ _) h60
      refine ⟨_, rfl, rfl, _, rfl, ?_⟩
      by_cases hA : z = "any"
      · rw [dec_str' hA]
        refine iteT (iteT ⟨_, rfl, k H1 D s1 ?_ hD⟩)
        rw [freeL, if_pos hA]
        exact d1
      · rw [dec_str hA]
        refine iteF ⟨_, rfl, (by show 0 ≤ sizeLine; decide), fun e9 h9 => ⟨D, e9, _, rfl, rfl, .inl ⟨.inl (.inl (Same.new h9 _ _ d1)), .inl (.inl upd_same)⟩, _, rfl, ?_⟩⟩
        have s2 := s1.push (o := .lst []) h9
        have d2 := (Same.new (o := .lst []) h9) _ _ d1
        generalize upd H1 e9 (.lst []) = H2 at s2 d2 ⊢
        clear h9 d1 s1
        cases hf2 : frees es with
        | nil =>
          rw [hf2] at d2
          refine iteT ⟨_, rfl, k H2 D s2 ?_ hD⟩
          rw [freeL, if_neg hA, if_pos hf2]
          exact d2
        | cons a r =>
          rw [hf2] at d2 l60
          refine iteF ⟨_, rfl, rfl, _, rfl, ?_⟩
          have fe : freeL z (last + 1) fr es = [toldN z (last + 1) fr (a :: r)] := by rw [freeL, if_neg hA, if_neg (by rw [hf2]; simp), hf2]
          have t1 : ∀ (xs : List V) (b : V), xs.take 1 = [b] → cutV xs none (some 1) = [b] := fun xs b q => (cut_take xs 1).trans q
          by_cases hN : z = "next"
          · rw [dec_str' hN]
            refine iteT ⟨_, rfl, D, rfl, ⟨_, .inl (.inl d2)⟩, fun D2 hD2 => lc_list (xs := (a :: r).map V.int) (fun i H' => Same H2 H' ∧ H' D2 = some (.lst ((((a :: r).take i).filter fun x => decide (last + 1 ≤ x)).map V.int))) ⟨Same.new hD2, upd_same⟩ (fun _ _ _ q => .inl (.inl (q.1 _ _ d2))) ?_ ?_⟩
            · rintro i v H' hv ⟨s3, d3⟩
              rw [List.getElem?_map] at hv
              obtain ⟨x, hx, rfl⟩ := Option.map_eq_some_iff.mp hv
              have htk : (a :: r).take (i + 1) = (a :: r).take i ++ [x] := by rw [List.take_succ, hx]; rfl
              refine ⟨rfl, _, rfl, _, rfl, s, _, 2, _, rfl, rfl, sq (s2.trans s3), rfl, _, _, rfl, rfl, _, rfl, ?_⟩
              have dd : decide (last < x) = decide (last + 1 ≤ x) := decide_eq_decide.mpr (by omega)
              rw [dd]
              cases q : decide (last + 1 ≤ x) with
              | false =>
                refine iteF ⟨s3, ?_⟩
                have : [x].filter (fun x => decide (last + 1 ≤ x)) = [] := by simp [q]
                rw [htk, List.filter_append, this, List.append_nil, d3]
              | true =>
                have : [x].filter (fun x => decide (last + 1 ≤ x)) = [x] := by simp [q]
                refine iteT ⟨_, rfl, _, d3, ?_, s3.put hD2, ?_⟩
                · rw [List.length_map]
                  refine Nat.lt_of_le_of_lt (List.length_filter_le _ _) ?_
                  rw [List.length_take]
                  exact Nat.lt_of_le_of_lt (Nat.le_trans (Nat.min_le_right ..) l60) (by decide)
                · rw [upd_same, htk, List.filter_append, this, List.map_append]
                  rfl
            · rintro H' ⟨s3, d3⟩
              rw [List.length_map, List.take_length] at d3
              have hl2 : (((a :: r).filter fun x => decide (last + 1 ≤ x)).map V.int).length + ((a :: r).map V.int).length ≤ sizeLine := by
                rw [List.length_map, List.length_map]
                have := List.length_filter_le (fun x => decide (last + 1 ≤ x)) (a :: r)
                exact Nat.le_trans (show _ ≤ 120 by omega) (by decide)
              refine ⟨_, rfl, D2, D, _, _, rfl, rfl, d3, s3 _ _ d2, hl2, fun p hp => ⟨_, rfl, p, _, rfl, .inl (.inl upd_same), fun p2 hp2 => ?_⟩⟩
              have s4 := ((s2.trans s3).push hp).push (o := .lst [V.int (toldN z (last + 1) fr (a :: r))]) hp2
              have ec : cutV (((a :: r).filter fun x => decide (last + 1 ≤ x)).map V.int ++ (a :: r).map V.int) none (some 1) = [V.int (toldN z (last + 1) fr (a :: r))] := by
                refine t1 _ _ ?_
                rw [toldN, if_pos hN, ← List.map_append]
                cases (a :: r).filter (fun x => decide (last + 1 ≤ x)) <;> rfl
              rw [ec]
              refine k _ p2 s4 ?_ (none_same ((s2.trans s3).push hp) hp2)
              rw [upd_same, fe]
              rfl
          · rw [dec_str hN]
            refine iteF ⟨_, rfl, rfl, _, rfl, ?_⟩
            have last1 : ∀ H3, Same H H3 → H3 D = some (.lst ((a :: r).map V.int)) → toldN z (last + 1) fr (a :: r) = a → ∀ p, H3 p = none → Q (.ref p) (upd H3 p (.lst (cutV ((a :: r).map V.int) none (some 1)))) := fun H3 s3 d3 ht p hp => by
              have ec : cutV ((a :: r).map V.int) none (some 1) = [V.int a] := t1 _ _ rfl
              rw [ec]
              refine k _ p (s3.push hp) ?_ (none_same s3 hp)
              rw [upd_same, fe, ht]
              rfl
            by_cases hL : z = "last"
            · rw [dec_str' hL]
              refine iteT ⟨_, rfl, s, _, 3, _, rfl, rfl, sq s2, rfl, (by show 0 ≤ sizeLine; decide), fun e8 h8 => ?_⟩
              have s3 := s2.push (o := .lst []) h8
              have d3 := (Same.new (o := .lst []) h8) _ _ d2
              have e83 : (upd H2 e8 (.lst [])) e8 = some (.lst []) := upd_same
              generalize upd H2 e8 (.lst []) = H3 at s3 d3 e83 ⊢
              refine ⟨dZ fr, dZ [], dp_Z (s3 _ _ e3), dp_Z e83, shaped_Z _, shaped_Z _, _, rfl, ?_⟩
              rcases List.eq_nil_or_concat fr with rfl | ⟨fi, x, rfl⟩
              · rw [eqv_Z]
                refine iteF ⟨_, rfl, _, rfl, D, _, rfl, .inl (.inl d3), fun p hp => last1 H3 s3 d3 ?_ p hp⟩
                rw [toldN, if_neg hN, if_pos hL]
                rfl
              · have en : PyData.eqv (dZ (fi.concat x)) (dZ []) = false := by
                  cases fi <;> rfl
                rw [en]
                have s3e := s3 _ _ e3
                refine iteT ⟨_, rfl, s, _, 3, _, rfl, rfl, sq s3, rfl, _, rfl, _, rfl, f, _, rfl, .inl (.inl s3e), fun p hp => ?_⟩
                have ec : cutV ((fi.concat x).map V.int) (some (-1)) none = [V.int x] := by
                  have := cut_back ((fi.concat x).map V.int) 1 (by decide)
                  rw [List.concat_eq_append, List.map_append, List.length_append] at this
                  have l1 : (List.map V.int [x]).length = 1 := rfl
                  rw [l1, Nat.add_sub_cancel, List.drop_append_of_le_length (Nat.le_refl _), List.drop_length] at this
                  rw [List.concat_eq_append, List.map_append]
                  exact this
                rw [ec]
                refine k _ p (s3.push hp) ?_ (none_same s3 hp)
                rw [upd_same, fe, toldN, if_neg hN, if_pos hL, List.concat_eq_append, List.getLast?_concat]
                rfl
            · rw [dec_str hL]
              refine iteF (iteF ⟨_, rfl, _, rfl, D, _, rfl, .inl (.inl d2), fun p hp => last1 H2 s2 d2 ?_ p hp⟩)
              rw [toldN, if_neg hN, if_neg hL]
              rfl
theorem scEnter : FnScope ["table", "cycle", "number", "entries", "counts", "freed", "k"] ["table", "cycle", "number"] (defScope sEnter) := ⟨rfl, rfl, rfl, by decide +kernel, rfl, by decide +kernel, by decide +kernel⟩
theorem ok_enter {f0 : Addr} {fd : FuncData} (F : Fun K "_law_enter" "_law_enter" sEnter f0 fd) (hlist : mg "list" = none) : FnOk P w K mg base CX0 1 f0 fd ["table", "cycle", "number"] spEnter := by
  refine F.ok scEnter (fun vs H Q E h => ?_) (fun cdv A outer s0 H vs Q E hr h => ?_)
  · obtain ⟨s, _, _, _, _, _, _, _, _, m, j, cc, rfl, _⟩ := h
    rfl
  · obtain ⟨s, e, c, f, es, cs, last, fr, many, m, j, cc, rfl, st, m1, hj, hc, hf, k⟩ := h
    refine ⟨_, pss_cons (ps_par (i := 3) (j := 4) (by rfl) scEnter.nd rfl rfl (by decide) rfl rfl (pa_cons (pe_callTy call_list_of (by rfl) hlist (by decide +kernel) (pa_cons (pe_ix ix_list (pv 0) pe_int (fun _ _ => rfl)) pa_nil)) (pa_cons (pe_callTy call_list_of (by rfl) hlist (by decide +kernel) (pa_cons (pe_ix ix_list (pv 0) pe_int (fun _ _ => rfl)) pa_nil)) pa_nil)) (by rfl))
      (pss_cons (ps_asg (pe_tup (pa_cons (pe_ix ix_list (pv 0) pe_int (fun _ _ => rfl)) (pa_cons (pe_op op_add (pe_ix ix_list (pv 4) (pv 2) (fun _ _ => rfl)) pe_int) pa_nil))) (pg_tup (by rfl) (pgs_cons (pg_sub (pv 3) (pv 2) set_list) (pgs_cons (pg_sub (pv 4) (pv 2) set_list) pgs_nil))))
      (pss_cons (ps_setLc (i := 5) (own := [("k", 6)]) (g := gName 6) (by rfl) scEnter.nd rfl rfl (sw_true rfl rfl rfl (by decide +kernel)) (pi_list (pe_ix ix_list (pv 0) pe_int (fun _ _ => rfl)))
          (blkOk_by (own := [("k", 6)]) (N := ["table", "cycle", "number", "entries", "counts", "freed", "k"]) (sc := defScope sEnter) (by decide +kernel)) (fun _ _ _ _ _ => pg_name (i := 6) scEnter.nd rfl (Or.inl rfl)) (fun _ _ _ _ _ => pts_one (pt_cmpR op_ne (pv 6) (pv 2) (by rfl))) (fun _ _ _ _ _ => pv 6))
      (pss_one (ps_ret (pe_lst (pa_cons (pe_lst (pa_cons (pv 3) (pa_cons (pv 4) (pa_cons (pe_ix ix_list (pv 0) pe_int (fun _ _ => rfl)) (pa_cons (pv 5) (pa_cons (pe_op op_add (pe_ix ix_list (pv 0) pe_int (fun _ _ => rfl)) pe_int) pa_nil))))))
          (pa_cons (pe_tup (pa_cons (pv 2) (pa_cons (pe_op op_mod (pe_op op_sub (pe_ix ix_list (pv 4) (pv 2) (fun _ _ => rfl)) pe_int) (pv 1)) (pa_cons (pe_ix ix_list (pv 0) pe_int (fun _ _ => rfl)) pa_nil)))) pa_nil))))))), ?_⟩
    obtain ⟨e0, e1, e2, e3⟩ := st
    have sq : ∀ {H'}, Same H H' → SqL K H' s [.ref e, .ref c, .int last, .ref f, .int many] := fun q => .inl (.inl (q _ _ e0))
    have hjc : j < cs.length := (List.getElem?_eq_some_iff.mp hc).1
    have hc' : (cs.map V.int)[j]? = some (.int cc) := by rw [List.getElem?_map, hc]; rfl
    refine ⟨_, rfl, s, _, 0, _, rfl, rfl, sq (Same.refl _), rfl, e, es, rfl, .inl (.inl (.inl e1)), fun l1 h1 => ?_⟩
    have s1 := Same.new (o := .lst es) h1
    have a1 : (upd H l1 (.lst es)) l1 = some (.lst es) := upd_same
    generalize upd H l1 (.lst es) = H1 at s1 a1 ⊢
    refine ⟨_, rfl, s, _, 1, _, rfl, rfl, sq s1, rfl, c, _, rfl, .inl (.inl (.inl (s1 _ _ e2))), fun l2 h2 => ⟨_, _, rfl, ?_⟩⟩
    have hl2 := none_same s1 h2
    have s2 := s1.push (o := .lst (cs.map V.int)) h2
    have a2 := (Same.new (o := .lst (cs.map V.int)) h2) _ _ a1
    have b2 : (upd H1 l2 (.lst (cs.map V.int))) l2 = some (.lst (cs.map V.int)) := upd_same
    have n12 : l1 ≠ l2 := ne_of_none a1 h2
    generalize upd H1 l2 (.lst (cs.map V.int)) = H2 at s2 a2 b2 ⊢
    -- entries[number], counts[number] = ..
    refine ⟨_, rfl, s, _, 4, _, rfl, rfl, sq s2, rfl, _, rfl, _, rfl, l2, _, _, _, rfl, rfl, .inl (.inl b2), atI_nat hc', _, _, rfl, rfl, (by show 2 ≤ sizeLine; decide), fun tp htp => ?_⟩
    have s3 := s2.push (o := .tup [.int many, .int (cc + 1)]) htp
    have a3 := (Same.new (o := .tup [.int many, .int (cc + 1)]) htp) _ _ a2
    have b3 := (Same.new (o := .tup [.int many, .int (cc + 1)]) htp) _ _ b2
    have t3 : (upd H2 tp (.tup [.int many, .int (cc + 1)])) tp = some (.tup [.int many, .int (cc + 1)]) := upd_same
    generalize upd H2 tp (.tup [.int many, .int (cc + 1)]) = H3 at s3 a3 b3 t3 ⊢
    refine ⟨tp, _, rfl, .inl (.inl t3), rfl, _, _, rfl, _, rfl, _, rfl, l1, es, _, j, rfl, rfl, a3, ixN_at hj, ?_⟩
    have s4 := s3.put (o := .lst (es.set j (.int many))) h1
    have a4 : (upd H3 l1 (.lst (es.set j (.int many)))) l1 = _ := upd_same
    have b4 : (upd H3 l1 (.lst (es.set j (.int many)))) l2 = _ := (upd_ne n12.symm).trans b3
    generalize upd H3 l1 (.lst (es.set j (.int many))) = H4 at s4 a4 b4 ⊢
    refine ⟨_, _, rfl, _, rfl, _, rfl, l2, _, _, j, rfl, rfl, b4, ixN_at (by rw [List.length_map]; exact hjc), rfl, ?_⟩
    have em : (cs.map V.int).set j (.int (cc + 1)) = (cs.set j (cc + 1)).map V.int := by rw [List.map_set]
    rw [em]
    have s5 := s4.put (o := .lst ((cs.set j (cc + 1)).map V.int)) hl2
    have a5 : (upd H4 l2 (.lst ((cs.set j (cc + 1)).map V.int))) l1 = _ := (upd_ne n12).trans a4
    have b5 : (upd H4 l2 (.lst ((cs.set j (cc + 1)).map V.int))) l2 = _ := upd_same
    generalize upd H4 l2 (.lst ((cs.set j (cc + 1)).map V.int)) = H5 at s5 a5 b5 ⊢
    -- freed
    refine ⟨_, rfl, s, _, 3, _, rfl, rfl, sq s5, rfl, f, rfl, ⟨_, .inl (.inl (s5 _ _ e3))⟩, fun D hD => lc_list (xs := fr.map V.int) (fun i H' => Same H5 H' ∧ H' D = some (.lst (((fr.take i).filter fun x => !decide (x = (j : Int))).map V.int))) ⟨Same.new hD, upd_same⟩ (fun _ _ _ q => .inl (.inl (q.1 _ _ (s5 _ _ e3)))) ?_ ?_⟩
    · rintro i v H' hv ⟨s6, d6⟩
      rw [List.getElem?_map] at hv
      obtain ⟨x, hx, rfl⟩ := Option.map_eq_some_iff.mp hv
      have htk : fr.take (i + 1) = fr.take i ++ [x] := by rw [List.take_succ, hx]; rfl
      refine ⟨rfl, _, rfl, _, rfl, rfl, _, rfl, ?_⟩
      have dq : decide (V.int x = V.int (j : Nat)) = decide (x = (j : Int)) := decide_eq_decide.mpr ⟨fun q => by injection q, fun q => by rw [q]⟩
      rw [dq]
      cases q : decide (x = (j : Int)) with
      | true =>
        refine iteF ⟨s6, ?_⟩
        have : [x].filter (fun x => !decide (x = (j : Int))) = [] := by simp [q]
        rw [htk, List.filter_append, this, List.append_nil, d6]
      | false =>
        have : [x].filter (fun x => !decide (x = (j : Int))) = [x] := by simp [q]
        refine iteT ⟨_, rfl, _, d6, ?_, s6.put hD, ?_⟩
        · rw [List.length_map]
          refine Nat.lt_of_le_of_lt (List.length_filter_le _ _) ?_
          rw [List.length_take]
          exact Nat.lt_of_le_of_lt (Nat.le_trans (Nat.min_le_right ..) hf) (by decide)
        · rw [upd_same, htk, List.filter_append, this, List.map_append]
          rfl
    · rintro H6 ⟨s6, d6⟩
      rw [List.length_map, List.take_length] at d6
      have s56 := s5.trans s6
      have b6 := s6 _ _ b5
      have hb : ((cs.set j (cc + 1)).map V.int)[j]? = some (.int (cc + 1)) := by rw [List.getElem?_map, List.getElem?_set_self hjc]; rfl
      refine ⟨_, rfl, _, rfl, _, rfl, s, _, 2, _, rfl, rfl, sq s56, rfl, _, rfl, _, rfl, s, _, 4, _, rfl, rfl, sq s56, rfl, _, _, rfl, rfl, (by show 5 ≤ sizeLine; decide), fun S hS => ?_⟩
      have s7 := s56.push (o := .lst [.ref l1, .ref l2, .int last, .ref D, .int (many + 1)]) hS
      have sS := Same.new (o := .lst [.ref l1, .ref l2, .int last, .ref D, .int (many + 1)]) hS
      have S7 : (upd H6 S (.lst [.ref l1, .ref l2, .int last, .ref D, .int (many + 1)])) S = _ := upd_same
      have a7 := sS _ _ (s6 _ _ a5)
      have b7 := sS _ _ b6
      have d7 := sS _ _ d6
      have hS0 := none_same s56 hS
      generalize upd H6 S (.lst [.ref l1, .ref l2, .int last, .ref D, .int (many + 1)]) = H7 at s7 S7 a7 b7 d7 ⊢
      refine ⟨_, rfl, _, rfl, _, rfl, l2, _, _, _, rfl, rfl, .inl (.inl b7), atI_nat hb, _, _, rfl, rfl, _, rfl, _, _, rfl, rfl, (by omega), _, rfl, s, _, 4, _, rfl, rfl, sq s7, rfl, (by show 3 ≤ sizeLine; decide), fun T hT => ?_⟩
      rw [Int.add_sub_cancel]
      have sT := Same.new (o := .tup [.int (j : Nat), .int (cc % (m : Nat)), .int many]) hT
      have hT0 := none_same s7 hT
      refine ⟨(by show 2 ≤ sizeLine; decide), fun R hR => ?_⟩
      have sR := Same.new (o := .lst [.ref S, .ref T]) hR
      have st := sT.trans sR
      exact k _ R S T l1 l2 D (s7.trans st) upd_same ⟨st _ _ S7, st _ _ a7, st _ _ b7, st _ _ d7⟩ (sR _ _ upd_same) hS0 hT0 h1 hl2 (none_same s5 hD)
end
section
variable {P : Program} {w : World} {K : PySem.W.Frag} {mg : Str → Option Value} {base : Heap}
theorem scLGive : FnScope ["table", "cycle", "number", "later", "handle"] ["table", "cycle", "number"] (defScope sLGive) := ⟨rfl, rfl, rfl, by decide +kernel, rfl, by decide +kernel, by decide +kernel⟩
theorem ok_lgive {f0 fE : Addr} {fd fdE : FuncData} (F : Fun K "_law_give" "_law_give" sLGive f0 fd) (FE : Fun K "_law_enter" "_law_enter" sEnter fE fdE) (bE : Binds K fdE ["table", "cycle", "number"] []) (gE : mg "_law_enter" = some (.ref fE)) (GE : FnOk P w K mg base CX0 1 fE fdE ["table", "cycle", "number"] spEnter) :
    FnOk P w K mg base CX0 2 f0 fd ["table", "cycle", "number"] spLGive := by
  refine F.ok scLGive (fun vs H Q E h => ?_) (fun cdv A outer s0 H vs Q E hr h => ?_)
  · obtain ⟨s, _, _, _, _, _, _, _, _, m, j, cc, rfl, _⟩ := h
    rfl
  · obtain ⟨s, e, c, f, es, cs, last, fr, many, m, j, cc, rfl, st, m1, hj, hc, hf, k⟩ := h
    refine ⟨_, pss_cons (ps_asg (pe_call GE hr rfl gE FE.kp bE .nil pass0 (pa_cons (pv 0) (pa_cons (pv 1) (pa_cons (pv 2) pa_nil)))) (pg_lst (by rfl) (pgs_cons (pg_name (i := 3) scLGive.nd rfl (.inl rfl)) (pgs_cons (pg_name (i := 4) scLGive.nd rfl (.inl rfl)) pgs_nil))))
      (pss_one (ps_ret (pe_lst (pa_cons (pe_lst (pa_cons (pe_ix ix_list (pv 3) pe_int (fun _ _ => rfl)) (pa_cons (pe_ix ix_list (pv 3) pe_int (fun _ _ => rfl)) (pa_cons (pv 2) (pa_cons (pe_ix ix_list (pv 3) pe_int (fun _ _ => rfl)) (pa_cons (pe_ix ix_list (pv 3) pe_int (fun _ _ => rfl)) pa_nil)))))) (pa_cons (pv 4) pa_nil))))), ?_⟩
    refine ⟨_, rfl, _, rfl, _, rfl, s, e, c, f, es, cs, last, fr, many, m, j, cc, rfl, st, m1, hj, hc, hf, fun H1 r s' t' e' c' f' s1 er st' et hs ht he hc2 hf2 => ?_⟩
    refine ⟨r, _, rfl, .inl (.inl er), rfl, _, _, rfl, _, _, rfl, rfl, ?_⟩
    have sq : SqL K H1 s' [.ref e', .ref c', .int last, .ref f', .int (many + 1)] := .inl (.inl st'.1)
    refine ⟨_, rfl, s', _, 0, _, rfl, rfl, sq, rfl, _, rfl, s', _, 1, _, rfl, rfl, sq, rfl, _, rfl, _, rfl, s', _, 3, _, rfl, rfl, sq, rfl, _, rfl, s', _, 4, _, rfl, rfl, sq, rfl, (by show 5 ≤ sizeLine; decide), fun S hS => ⟨_, rfl, (by show 2 ≤ sizeLine; decide), fun R hR => ?_⟩⟩
    have sS := Same.new (o := .lst [.ref e', .ref c', .int (j : Nat), .ref f', .int (many + 1)]) hS
    have sR := Same.new (o := .lst [.ref S, .ref t']) hR
    have sa := sS.trans sR
    exact k _ R S t' e' c' f' (s1.trans sa) upd_same ⟨sR _ _ upd_same, sa _ _ st'.2.1, sa _ _ st'.2.2.1, sa _ _ st'.2.2.2⟩ (sa _ _ et) (none_same s1 hS) ht he hc2 hf2
theorem scLEnd : FnScope ["table", "number", "entries"] ["table", "number"] (defScope sLEnd) := ⟨rfl, rfl, rfl, by decide +kernel, rfl, by decide +kernel, by decide +kernel⟩
theorem ok_lend {f0 : Addr} {fd : FuncData} (F : Fun K "_law_end" "_law_end" sLEnd f0 fd) (hlist : mg "list" = none) : FnOk P w K mg base CX0 1 f0 fd ["table", "number"] spLEnd := by
  refine F.ok scLEnd (fun vs H Q E h => ?_) (fun cdv A outer s0 H vs Q E hr h => ?_)
  · obtain ⟨s, _, _, _, _, _, _, _, _, j, rfl, _⟩ := h
    rfl
  · obtain ⟨s, e, c, f, es, cs, last, fr, many, j, rfl, st, hj, hf, k⟩ := h
    refine ⟨_, pss_cons (ps_set (i := 2) scLEnd.nd rfl (.inl rfl) (pe_callTy call_list_of (by rfl) hlist (by decide +kernel) (pa_cons (pe_ix ix_list (pv 0) pe_int (fun _ _ => rfl)) pa_nil)))
      (pss_cons (ps_asg pe_non (pg_sub (pv 2) (pv 1) set_list))
      (pss_one (ps_ret (pe_lst (pa_cons (pv 2) (pa_cons (pe_ix ix_list (pv 0) pe_int (fun _ _ => rfl)) (pa_cons (pe_ix ix_list (pv 0) pe_int (fun _ _ => rfl)) (pa_cons (pe_op op_cat (pe_ix ix_list (pv 0) pe_int (fun _ _ => rfl)) (pe_lst (pa_cons (pv 1) pa_nil))) (pa_cons (pe_ix ix_list (pv 0) pe_int (fun _ _ => rfl)) pa_nil))))))))), ?_⟩
    obtain ⟨e0, e1, e2, e3⟩ := st
    have sq : ∀ {H'}, Same H H' → SqL K H' s [.ref e, .ref c, .int last, .ref f, .int many] := fun q => .inl (.inl (q _ _ e0))
    refine ⟨_, rfl, s, _, 0, _, rfl, rfl, sq (Same.refl _), rfl, e, es, rfl, .inl (.inl (.inl e1)), fun l1 h1 => ?_⟩
    refine ⟨_, rfl, _, rfl, l1, es, _, j, rfl, rfl, upd_same, ixN_at hj, ?_⟩
    have s2 : Same H (upd (upd H l1 (.lst es)) l1 (.lst (es.set j .non))) := (Same.new (o := .lst es) h1).put h1
    have a2 : (upd (upd H l1 (.lst es)) l1 (.lst (es.set j .non))) l1 = _ := upd_same
    generalize upd (upd H l1 (.lst es)) l1 (.lst (es.set j .non)) = H2 at s2 a2 ⊢
    refine ⟨_, rfl, _, rfl, s, _, 1, _, rfl, rfl, sq s2, rfl, _, rfl, s, _, 2, _, rfl, rfl, sq s2, rfl, _, rfl, s, _, 3, _, rfl, rfl, sq s2, rfl, _, rfl, (by show 1 ≤ sizeLine; decide), fun l2 h2 => ?_⟩
    have s3 := s2.push (o := .lst [.int (j : Nat)]) h2
    have a3 := (Same.new (o := .lst [.int (j : Nat)]) h2) _ _ a2
    have b3 : (upd H2 l2 (.lst [.int (j : Nat)])) l2 = _ := upd_same
    generalize upd H2 l2 (.lst [.int (j : Nat)]) = H3 at s3 a3 b3 ⊢
    have hsz : (fr.map V.int).length + [V.int (j : Nat)].length ≤ sizeLine := by
      rw [List.length_map]
      exact Nat.le_trans (show fr.length + 1 ≤ 200 by omega) (by decide)
    refine ⟨f, l2, _, _, rfl, rfl, s3 _ _ e3, b3, hsz, fun l3 h3 => ?_⟩
    have em : fr.map V.int ++ [V.int (j : Nat)] = (fr ++ [(j : Int)]).map V.int := by rw [List.map_append]; rfl
    rw [em]
    have s4 := s3.push (o := .lst ((fr ++ [(j : Int)]).map V.int)) h3
    have a4 := (Same.new (o := .lst ((fr ++ [(j : Int)]).map V.int)) h3) _ _ a3
    have f4 : (upd H3 l3 (.lst ((fr ++ [(j : Int)]).map V.int))) l3 = _ := upd_same
    have hl3 := none_same s3 h3
    generalize upd H3 l3 (.lst ((fr ++ [(j : Int)]).map V.int)) = H4 at s4 a4 f4 ⊢
    refine ⟨_, rfl, s, _, 4, _, rfl, rfl, sq s4, rfl, (by show 5 ≤ sizeLine; decide), fun S hS => ?_⟩
    have sS := Same.new (o := .lst [.ref l1, .ref c, .int last, .ref l3, .int many]) hS
    exact k _ S l1 l3 (s4.trans sS) ⟨upd_same, sS _ _ a4, sS _ _ (s4 _ _ e2), sS _ _ f4⟩ (none_same s4 hS) h1 hl3
theorem scJudge : FnScope ["table", "cycle", "handle"] ["table", "cycle", "handle"] (defScope sJudge) := ⟨rfl, rfl, rfl, by decide +kernel, rfl, by decide +kernel, by decide +kernel⟩
theorem ok_judge {f0 : Addr} {fd : FuncData} (F : Fun K "_law_judge" "_law_judge" sJudge f0 fd) (hlen : mg "len" = none) : FnOk P w K mg base CX0 1 f0 fd ["table", "cycle", "handle"] spJudge := by
  refine F.ok scJudge (fun vs H Q E h => ?_) (fun cdv A outer s0 H vs Q E hr h => ?_)
  · obtain ⟨s, _, _, _, _, _, _, _, _, m, v, rfl, _⟩ := h
    rfl
  · obtain ⟨s, e, c, f, es, cs, last, fr, many, m, v, rfl, st, m1, hE, hcl, hv⟩ := h
    have H0 := "x"
    refine ⟨_, pss_cons (ps_if (PW.pt (pw_or (pt_cmp (pc_isN (pv 2))) (pw_or (pt_cmpR op_ge (pe_ix ix_tup (pv 2) pe_int (fun _ _ => rfl)) (pe_callB call_len_seq (by rfl) hlen (by decide +kernel) (pa_cons (pe_ix ix_list (pv 0) pe_int (fun _ _ => rfl)) pa_nil)) (by rfl))
        (pw_or1 (pt_cmp (pc_isN (pe_ix ix_list (pe_ix ix_list (pv 0) pe_int (fun _ _ => rfl)) (pe_ix ix_tup (pv 2) pe_int (fun _ _ => rfl)) (fun _ _ => rfl)))))))) (pss_one (ps_ret pe_str)) pss_nil)
      (pss_cons (ps_if (pt_cmpR op_ne (pe_op op_mod (pe_op op_sub (pe_ix ix_list (pe_ix ix_list (pv 0) pe_int (fun _ _ => rfl)) (pe_ix ix_tup (pv 2) pe_int (fun _ _ => rfl)) (fun _ _ => rfl)) pe_int) (pv 1)) (pe_ix ix_tup (pv 2) pe_int (fun _ _ => rfl)) (by rfl)) (pss_one (ps_ret pe_str)) pss_nil)
      (pss_one (ps_ret (pe_ifExp (pt_cmpR op_eq (pe_ix ix_list (pe_ix ix_list (pv 0) pe_int (fun _ _ => rfl)) (pe_ix ix_tup (pv 2) pe_int (fun _ _ => rfl)) (fun _ _ => rfl)) (pe_ix ix_tup (pv 2) pe_int (fun _ _ => rfl)) (by rfl)) pe_str pe_str)))), ?_⟩
    obtain ⟨e0, e1, e2, e3⟩ := st
    have sq : SqL K H s [.ref e, .ref c, .int last, .ref f, .int many] := .inl (.inl e0)
    rcases hv with ⟨rfl, k⟩ | ⟨t, j, tt, ee, rfl, et, k⟩
    · exact ⟨_, rfl, _, rfl, iteT (iteT k)⟩
    · have tq : SqT K H t [.int (j : Nat), .int tt, .int ee] := .inl (.inl et)
      refine ⟨_, rfl, _, rfl, iteF ⟨_, rfl, t, _, 0, _, rfl, rfl, tq, rfl, _, rfl, s, _, 0, _, rfl, rfl, sq, rfl, e, es, rfl, .inl (.inl (.inl e1)), _, _, rfl, rfl, _, rfl, ?_⟩⟩
      by_cases hj : es.length ≤ j
      · rw [decide_eq_true (show ((es.length : Nat) : Int) ≤ (j : Nat) by omega)]
        rw [useW, if_pos hj] at k
        exact iteT (iteT k)
      · rw [decide_eq_false (show ¬ ((es.length : Nat) : Int) ≤ (j : Nat) by omega)]
        have hl : j < es.length := by omega
        have hl2 : j < cs.length := by omega
        have hu : es[j]? = some es[j] := List.getElem?_eq_getElem hl
        have hc : cs[j]? = some cs[j] := List.getElem?_eq_getElem hl2
        have hc' : (cs.map V.int)[j]? = some (.int cs[j]) := by rw [List.getElem?_map, hc]; rfl
        have hu2 := hE es[j] (List.getElem_mem hl)
        generalize es[j] = u at hu hu2
        refine iteF ⟨_, rfl, s, _, 0, _, rfl, rfl, sq, rfl, _, rfl, t, _, 0, _, rfl, rfl, tq, rfl, e, es, _, u, rfl, rfl, .inl (.inl e1), atI_nat hu, _, rfl, ?_⟩
        rcases hu2 with rfl | ⟨e', rfl⟩
        · refine iteT ?_
          rw [useW, if_neg hj, hu] at k
          exact k
        · refine iteF ?_
          have hcd : cs.getD j 0 = cs[j] := by rw [List.getD_eq_getElem?_getD, hc]; rfl
          rw [useW, if_neg hj, hu] at k
          generalize cs[j] = cj at hc hcd hc'
          rw [hcd] at k
          have k2 : Q (.str (if (cj - 1) % ((m : Nat) : Int) = tt then (if e' = ee then Str.ofString "done" else Str.ofString "fault") else Str.ofString "refused")) H := k
          have dq : ∀ a b : Int, decide (V.int a = V.int b) = decide (a = b) := fun a b => decide_eq_decide.mpr ⟨fun q => by injection q, fun q => by rw [q]⟩
          refine ⟨_, rfl, s, _, 1, _, rfl, rfl, sq, rfl, _, rfl, t, _, 0, _, rfl, rfl, tq, rfl, c, _, _, _, rfl, rfl, .inl (.inl e2), atI_nat hc', _, _, rfl, rfl, _, rfl, _, _, rfl, rfl, (by omega), _, rfl, t, _, 1, _, rfl, rfl, tq, rfl, rfl, _, rfl, ?_⟩
          rw [dq]
          by_cases g : (cj - 1) % ((m : Nat) : Int) = tt
          · rw [decide_eq_true g]
            rw [if_pos g] at k2
            refine iteF ⟨_, rfl, s, _, 0, _, rfl, rfl, sq, rfl, _, rfl, t, _, 0, _, rfl, rfl, tq, rfl, e, es, _, _, rfl, rfl, .inl (.inl e1), atI_nat hu, _, rfl, t, _, 2, _, rfl, rfl, tq, rfl, rfl, _, rfl, ?_⟩
            rw [dq]
            by_cases g2 : e' = ee
            · rw [decide_eq_true g2]
              rw [if_pos g2] at k2
              exact iteT k2
            · rw [decide_eq_false g2]
              rw [if_neg g2] at k2
              exact iteF k2
          · rw [decide_eq_false g]
            rw [if_neg g] at k2
            exact iteT k2
end
/-! ### calls where no repr is under way -/
section
variable {X : Cx} {k : Nat} {f f2 : Addr} {fd fd2 : FuncData} {ps ps2 : List Str} {sp sp2 : Sp} {x : Str} {p pos : Pos} {e : Expr} {es : List Expr} {t : TA} {tc : TE}
theorem run_fnG {pins : List (Addr × Obj)} {σ : L2.St} {H : Hp} {s : Shared} {Q : VK} {us : List Value} {vs : List V} (F : FnG X.prog X.w X.K X.mg X.base CX0 k f fd ps sp) (hg : X.A.guards = some []) (hr : Room k X.A) (hb : Binds X.K fd ps [])
    (I : Inv X pins σ H s) (r : Vals vs us) (h : sp vs H Q E0) : wpAny (model X.prog X.w) X.A (call (.ref f) us) (EP X pins σ Q) X.xe s := by
  have hl := F.len _ _ _ _ h
  have hu := r.length
  refine wpAny_call (codeAny_mono (F.run X.A X.stack s H ⟨us, []⟩ us vs Q E0 hg hr I.env0 (by
      have := hb s us I.kIn (by first | omega | (simp; omega))
      simpa using this) r h) fun r' s' hq => ?_)
  cases r' with
  | error e => exact (pass0 : Passes CX0 X E0) pins σ H s e s' I hq
  | ok fl =>
    cases fl with
    | ret w => exact I.after hq
    | next => exact False.elim hq
    | brk => exact False.elim hq
    | cont => exact False.elim hq
theorem pe_callGd (F : FnG X.prog X.w X.K X.mg X.base CX0 k f fd ps sp) (hgd : X.A.guards = some []) (hr : Room k X.A) (hg : Gl X x) (hm : X.mg x = some (.ref f)) (hk : PySem.W.keepIn X.K (.ref f) = true) (hb : Binds X.K fd ps [])
    (ha : PA X (e :: es) t) (hdb : (x == ("__debug__" : Str)) = false := by decide) (he : starEach (e :: es) X.env = (false, eval e X.env) :: starEach es X.env := by rfl) (hpl : (backTo pos (starEach es X.env)).any (·.1) = false := by rfl) :
    PE X (.Call (.Name x p) (e :: es) [] pos) (fun σ H Q => t σ H fun vs H1 => sp vs H1 Q E0) := by
  refine ⟨fun pins s σ H Q I h => ?_⟩
  refine wpAny_Call_Name_kw (ld_glob I hg hm ?_ hdb)
  refine PySem.W.callWith_K (h₀ := X.base) I.ok.mod.kin hk (thn (ha.run pos pins s σ H _ I h) fun us s1 ⟨vs, H1, I1, r, q⟩ => ⟨I1.kIn, ?_⟩) he hpl
  exact run_fnG F hgd hr hb I1 r q
/-- a def that a variable holds, one of two -/
theorem pe_callV (ho : PE X (.Name x p) tc) (F : FnG X.prog X.w X.K X.mg X.base CX0 k f fd ps sp) (F2 : FnG X.prog X.w X.K X.mg X.base CX0 k f2 fd2 ps2 sp2) (hgd : X.A.guards = some []) (hr : Room k X.A)
    (hk : PySem.W.keepIn X.K (.ref f) = true) (hk2 : PySem.W.keepIn X.K (.ref f2) = true) (hb : Binds X.K fd ps []) (hb2 : Binds X.K fd2 ps2 [])
    (ha : PA X (e :: es) t) (he : starEach (e :: es) X.env = (false, eval e X.env) :: starEach es X.env := by rfl) (hpl : (backTo pos (starEach es X.env)).any (·.1) = false := by rfl) :
    PE X (.Call (.Name x p) (e :: es) [] pos) (fun σ H Q => tc σ H fun v H1 => (v = .ref f ∧ t σ H1 fun vs H2 => sp vs H2 Q E0) ∨ (v = .ref f2 ∧ t σ H1 fun vs H2 => sp2 vs H2 Q E0)) := by
  refine ⟨fun pins s σ H Q I h => ?_⟩
  refine wpAny_Call_Name_kw (thn (ho.run pins s σ H _ I h) fun u s0 ⟨v, H0, I0, r0, q0⟩ => ?_)
  rcases q0 with ⟨rfl, q0⟩ | ⟨rfl, q0⟩
  · cases r0
    refine PySem.W.callWith_K (h₀ := X.base) I0.ok.mod.kin hk (thn (ha.run pos pins s0 σ H0 _ I0 q0) fun us s1 ⟨vs, H1, I1, r, q⟩ => ⟨I1.kIn, ?_⟩) he hpl
    exact run_fnG F hgd hr hb I1 r q
  · cases r0
    refine PySem.W.callWith_K (h₀ := X.base) I0.ok.mod.kin hk2 (thn (ha.run pos pins s0 σ H0 _ I0 q0) fun us s1 ⟨vs, H1, I1, r, q⟩ => ⟨I1.kIn, ?_⟩) he hpl
    exact run_fnG F2 hgd hr hb2 I1 r q
end
/-! ### what is told of a handle; whether a table fits -/
abbrev sToldH : Stmt := top 40
abbrev sFits : Stmt := top 41
abbrev rReprW (K : PySem.W.Frag) : List V → Hp → VK → Prop := fun xs H Q => ∃ v d, xs = [v] ∧ Rp K H v d ∧ (d.showable = true ∧ d.depth ≤ 50 ∧ d.shown.length ≤ 100000) ∧ Q (.str d.shown) H
/-- the numbers of a handle, as a tuple -/
def Row3 (H : Hp) (t : Addr) (j : Nat) (tt ee : Int) : Prop := H t = some (.tup [.int (j : Nat), .int tt, .int ee])
structure Sm (j : Nat) (tt ee : Int) : Prop where
  a : j < 1000
  b : 0 ≤ tt ∧ tt < 1000
  c : 0 ≤ ee ∧ ee < 1000
theorem okW_tup {a b c : Int} (ha : 0 ≤ a ∧ a < 10 ^ 40) (hb : 0 ≤ b ∧ b < 10 ^ 40) (hc : 0 ≤ c ∧ c < 10 ^ 40) : (PyData.tuple [.int a, .int b, .int c]).showable = true ∧ (PyData.tuple [.int a, .int b, .int c]).depth ≤ 50 ∧ (PyData.tuple [.int a, .int b, .int c]).shown.length ≤ 100000 := by
  obtain ⟨l1, g1⟩ := intlen ha.1 ha.2
  obtain ⟨l2, g2⟩ := intlen hb.1 hb.2
  obtain ⟨l3, g3⟩ := intlen hc.1 hc.2
  have e1 : PyData.showable (.int a) = true := decide_eq_true g1
  have e2 : PyData.showable (.int b) = true := decide_eq_true g2
  have e3 : PyData.showable (.int c) = true := decide_eq_true g3
  refine ⟨?_, (show 1 ≤ 50 by decide), ?_⟩
  · show (PyData.showable (.int a) && (PyData.showable (.int b) && (PyData.showable (.int c) && true))) = true
    rw [e1, e2, e3]
    rfl
  · have b3 := PySem.tupleText_len_le [Str.ofString (toString a), Str.ofString (toString b), Str.ofString (toString c)]
    show (tupleText [Str.ofString (toString a), Str.ofString (toString b), Str.ofString (toString c)]).length ≤ 100000
    simp only [List.map_cons, List.map_nil, List.sum_cons, List.sum_nil, List.length_cons, List.length_nil] at b3
    omega
theorem okW_int {a : Int} (ha : 0 ≤ a ∧ a < 10 ^ 40) : (PyData.int a).showable = true ∧ (PyData.int a).depth ≤ 50 ∧ (PyData.int a).shown.length ≤ 100000 := by
  obtain ⟨l1, g1⟩ := intlen ha.1 ha.2
  exact ⟨decide_eq_true g1, (show 0 ≤ 50 by decide), Nat.le_trans l1 (by decide)⟩
theorem okW_bool (b : Bool) : (PyData.bool b).showable = true ∧ (PyData.bool b).depth ≤ 50 ∧ (PyData.bool b).shown.length ≤ 100000 := by
  cases b <;> exact ⟨rfl, by decide, by decide +kernel⟩
def spToldH (Ch : Addr) : Sp := fun vs H Q _ => ∃ (h t : Addr) (j : Nat) (tt ee : Int), vs = [.ref h, .ref t] ∧ HAt H Ch h (j : Nat) tt ee ∧ Row3 H t j tt ee ∧ Sm j tt ee ∧ ∀ H', Same H H' → Q (.bl true) H'
def vD : V → PyData
  | .int i => .int i
  | _ => .none
theorem dp_ents {K : PySem.W.Frag} {H : Hp} {a : Addr} {l : List V} (h : ∀ u ∈ l, EntV u) (e : H a = some (.lst l)) : Dp K H (.ref a) (.list (l.map vD)) := by
  refine .lst (.inl (.inl e)) ?_
  clear e
  induction l with
  | nil => exact .nil
  | cons m l ih =>
    refine .cons ?_ (ih fun u hu => h u (List.mem_cons_of_mem _ hu))
    rcases h m (List.mem_cons_self ..) with rfl | ⟨i, rfl⟩
    · exact .non
    · exact .int _
theorem shaped_ents {l : List V} (h : ∀ u ∈ l, EntV u) : SeqAt.shaped (.list (l.map vD)) = true := by
  have h1 : ∀ l : List V, PyData.canLayAll0 (l.map vD) = true := fun l => by
    induction l with
    | nil => rfl
    | cons m l ih =>
      show (PyData.canLay0 (vD m) && PyData.canLayAll0 (l.map vD)) = true
      rw [ih]
      cases m <;> rfl
  have h2 : ∀ l : List V, PyData.depthAll (l.map vD) = 0 := fun l => by
    induction l with
    | nil => rfl
    | cons m l ih =>
      show max (PyData.depth (vD m)) (PyData.depthAll (l.map vD)) = 0
      rw [ih]
      cases m <;> rfl
  show (PyData.canLayAll0 (l.map vD) && decide (PyData.depthAll (l.map vD) + 1 ≤ 64)) = true
  rw [h1, h2]
  rfl
theorem eqv_ents (l : List V) : PyData.eqv (.list (l.map vD)) (.list (l.map vD)) = true := by
  induction l with
  | nil => rfl
  | cons m l ih =>
    show (PyData.eqv (vD m) (vD m) && PyData.eqv (.list (l.map vD)) (.list (l.map vD))) = true
    rw [ih]
    cases m with
    | int i => show ((i == i) && true) = true; simp
    | _ => rfl
abbrev K3 := Addr × Nat × Int
/-- the table and the law's own table agree -/
structure Agree (z : Str) (start last : Int) (fr : List Int) (es : List V) : Prop where
  off : freeL z (last + 1) fr es = freeL z start fr es
  ent : ∀ u ∈ es, EntV u
def spFits (K : PySem.W.Frag) (C Ch : Addr) : Sp := fun vs H Q _ => ∃ (x dx pe pc pf dk s e c f kn : Addr) (n : Nat) (z : Str) (m : Nat) (es : List V) (cs : List Int) (many start last : Int) (fr : List Int) (ts : List K3), vs = [.ref x, .ref dk, .ref s, .ref kn] ∧
  TAt H C x dx pe pc pf n z (m : Nat) es cs many start fr ∧ H dk = some (.lst [.int (n : Nat), .str z, .int (m : Nat)]) ∧ StAt H s e c f es cs last fr many ∧ Agree z start last fr es ∧ fr.length ≤ 100 ∧ H kn = some (.lst (ts.map fun t => V.ref t.1)) ∧ ts.length ≤ 60 ∧
  (∀ t ∈ ts, ∃ (j : Nat) (tt ee : Int), Row3 H t.1 j tt ee ∧ Sm j tt ee) ∧ (∀ (H : Hp) (g dg : Addr) (fs : List (Str × V)), H g = some (.ins Ch dg fs) → TyX K H (.ref g) (.ref Ch)) ∧ ∀ H', Same H H' → Q (.bl true) H'
structure TxF (mg : Str → Option Value) : Prop where
  isi : mg "isinstance" = none
  tup : mg "tuple" = none
  list : mg "list" = none
  len : mg "len" = none
  rng : mg "range" = none
  repr : mg "repr" = none
section
variable {P : Program} {w : World} {K : PySem.W.Frag} {mg : Str → Option Value} {base : Heap}
theorem scToldH : FnScope ["found", "due"] ["found", "due"] (defScope sToldH) := ⟨rfl, rfl, rfl, by decide +kernel, rfl, by decide +kernel, by decide +kernel⟩
theorem ok_toldH {f0 Ch pNu pTu pEn gNu gTu gEn : Addr} {fd fdNu fdTu fdEn : FuncData} (F : Fun K "_law_told_handle" "_law_told_handle" sToldH f0 fd) (U : TxF mg) (Sh : HCls K mg Ch)
    (pNu : PropOf K Ch "number" pNu gNu) (GNu : FnOk P w K mg base CX0 1 gNu fdNu ["self"] (spGet K "_number")) (bNu : Binds K fdNu ["self"] [])
    (pTu : PropOf K Ch "turn" pTu gTu) (GTu : FnOk P w K mg base CX0 1 gTu fdTu ["self"] (spGet K "_turn")) (bTu : Binds K fdTu ["self"] [])
    (pEn : PropOf K Ch "entry" pEn gEn) (GEn : FnOk P w K mg base CX0 1 gEn fdEn ["self"] (spGet K "_entry")) (bEn : Binds K fdEn ["self"] [])
    (tyI : ∀ (H : Hp) (g dg : Addr) (fs : List (Str × V)), H g = some (.ins Ch dg fs) → TyX K H (.ref g) (.ref Ch)) : FnG P w K mg base CX0 3 f0 fd ["found", "due"] (spToldH Ch) := by
  refine fnG_ok F scToldH (fun vs H Q E h => ?_) (fun cdv A outer s0 H vs Q E hg hr h => ?_)
  · obtain ⟨h, t, j, tt, ee, rfl, _⟩ := h
    rfl
  · obtain ⟨h, t, j, tt, ee, rfl, ⟨dh, hh⟩, ht, sm, k⟩ := h
    have hgX : (cxOf CX0 P w K mg base ["found", "due"] "_law_told_handle" (defScope sToldH) f0 cdv A outer s0 H E).nox.A.guards = some [] := hg
    refine ⟨_, pss_cons (ps_if (pt_cmp (pc_isN (pv 1))) (pss_one (ps_ret (pe_cmp (pc_isN (pv 0))))) pss_nil)
      (pss_one (ps_ret (pe_and (pe_callB call_isi (by rfl) U.isi (by decide +kernel) (pa_cons (pv 0) (pa_cons (pe_glob (v := .ref Ch) rfl Sh.g rfl) pa_nil)))
        (pe_one (pe_cmpR op_eq (pe_callB (id := "repr") (r := rReprW K) (call_reprW hgX hr.units) (by rfl) U.repr (by decide +kernel) (pa_cons (pe_tup (pa_cons (pe_prop (pv 0) Sh.cl pNu GNu (hr.mono (by decide)) bNu .nil pass0 (by rfl)) (pa_cons (pe_prop (pv 0) Sh.cl pTu GTu (hr.mono (by decide)) bTu .nil pass0 (by rfl)) (pa_cons (pe_prop (pv 0) Sh.cl pEn GEn (hr.mono (by decide)) bEn .nil pass0 (by rfl)) pa_nil)))) pa_nil))
          (pe_callB (id := "repr") (r := rReprW K) (call_reprW hgX hr.units) (by rfl) U.repr (by decide +kernel) (pa_cons (pv 1) pa_nil)) (by rfl)))))), ?_⟩
    have okw := okW_tup (a := (j : Nat)) (b := tt) (c := ee) ⟨by omega, by have := sm.a; omega⟩ ⟨sm.b.1, by have := sm.b.2; omega⟩ ⟨sm.c.1, by have := sm.c.2; omega⟩
    refine ⟨_, rfl, _, rfl, iteF ⟨_, rfl, _, _, _, _, true, rfl, .own Ch, tyI H h dh _ hh, Sh.yes, _, rfl, iteT ?_⟩⟩
    refine ⟨_, rfl, h, dh, _, rfl, hh, h, Ch, dh, _, .int (j : Nat), rfl, hh, Sh.cl, Sh.n1, rfl, _, rfl, h, dh, _, rfl, hh, h, Ch, dh, _, .int tt, rfl, hh, Sh.cl, Sh.n2, rfl, _, rfl, h, dh, _, rfl, hh, h, Ch, dh, _, .int ee, rfl, hh, Sh.cl, Sh.n3, rfl, (by show 3 ≤ sizeLine; decide), fun T hT => ?_⟩
    have sT := Same.new (o := .tup [.int (j : Nat), .int tt, .int ee]) hT
    have dt : ∀ {H' : Hp} {a : Addr}, H' a = some (.tup [.int (j : Nat), .int tt, .int ee]) → Dp K H' (.ref a) (.tuple [.int (j : Nat), .int tt, .int ee]) := fun e => .tup (.inl (.inl e)) (.cons (.int _) (.cons (.int _) (.cons (.int _) .nil)))
    refine ⟨_, _, rfl, .inl (dt upd_same), okw, _, rfl, _, _, rfl, .inl (dt (sT _ _ ht)), okw, rfl, ?_⟩
    rw [decide_eq_true rfl]
    exact k _ sT
theorem scFits : FnScope ["table", "desk", "state", "known", "row", "made", "k", "one", "odd"] ["table", "desk", "state", "known"] (defScope sFits) := ⟨rfl, rfl, rfl, by decide +kernel, rfl, by decide +kernel, by decide +kernel⟩
theorem ok_fits {f0 C Ch CN CB fF fO fL fI fX fH : Addr} {fd fdF fdO fdL fdI fdX fdH : FuncData} (F : Fun K "_law_fits" "_law_fits" sFits f0 fd) (U : TxF mg) (S : TbCls K mg C) (Sh : HCls K mg Ch)
    (MF : Meth K C "free" fF) (GF : FnOk P w K mg base CX0 2 fF fdF ["self"] (spTFree C)) (bF : Binds K fdF ["self"] [])
    (FO : Fun K "_law_offers" "_law_offers" sOffers fO fdO) (bO : Binds K fdO ["word", "table"] []) (gO : mg "_law_offers" = some (.ref fO)) (GO : FnOk P w K mg base CX0 1 fO fdO ["word", "table"] spOffers)
    (hsL : PySem.W.findIn K (.ref C) "__len__" = some (some (.ref fL))) (hfL : PySem.W.isFn K (.ref fL) = true) (GL : FnOk P w K mg base CX0 1 fL fdL ["self"] (spTLen C)) (bL : Binds K fdL ["self"] [])
    (hsI : PySem.W.findIn K (.ref C) "__getitem__" = some (some (.ref fI))) (hfI : PySem.W.fnIn K fI = true) (hfnI : PySem.W.isFn K (.ref fI) = true) (GI : FnOk P w K mg base (L2.CX P w) 3 fI fdI ["self", "at"] (spTItem C CN)) (bI : Binds K fdI ["self", "at"] [])
    (hsX : PySem.W.findIn K (.ref C) "__contains__" = some (some (.ref fX))) (hfX : PySem.W.isFn K (.ref fX) = true) (GX : FnOk P w K mg base CX0 3 fX fdX ["self", "x"] (spTInB K C Ch)) (bX : Binds K fdX ["self", "x"] [])
    (MH : Mk K Ch fH) (GH : FnOk P w K mg base (L2.CX P w) 3 fH fdH ["self", "number", "turn", "entry"] (spHandle K Ch CB)) (kbh : KBn K fdH ["self", "number", "turn", "entry"] 3 ["entry"] (fun us ws => us ++ ws) (fun vs zs => vs ++ zs))
    (hno : ∀ n ∈ ["NoneType", "int", "str", "tuple", "list", "dict"], PySem.W.kitOne K (.type n) (.ref Ch) = some false) :
    FnG P w K mg base CX0 5 f0 fd ["table", "desk", "state", "known"] (spFits K C Ch) := by
  refine fnG_ok F scFits (fun vs H Q E h => ?_) (fun cdv A outer s0 H vs Q E hg hr h => ?_)
  · obtain ⟨x, dx, pe, pc, pf, dk, s, e, c, f, kn, n, z, m, es, cs, many, start, last, fr, ts, rfl, _⟩ := h
    rfl
  · obtain ⟨x, dx, pe, pc, pf, dk, s, e, c, f, kn, n, z, m, es, cs, many, start, last, fr, ts, rfl, t, hdk, st, ag, hf, hkn, h60, hts, tyI, k⟩ := h
    have hgX : (cxOf CX0 P w K mg base ["table", "desk", "state", "known", "row", "made", "k", "one", "odd"] "_law_fits" (defScope sFits) f0 cdv A outer s0 H E).nox.A.guards = some [] := hg
    refine ⟨_, (pss_cons (ps_if (PW.pt (pw_or (pt_not (pt_val (pe_callB call_isi (by rfl) U.isi (by decide +kernel) (pa_cons (pe_meth0 (pv 0) S.cl MF GF (hr.mono (by decide)) bF .nil pass0) (pa_cons (pe_bltn (v := .ty "tuple") (by rfl) U.tup (by decide +kernel) rfl) pa_nil))))) (pw_or1 (pt_cmpR (op_neD hr.units) (pe_callTy call_list_of (by rfl) U.list (by decide +kernel) (pa_cons (pe_meth0 (pv 0) S.cl MF GF (hr.mono (by decide)) bF .nil pass0) pa_nil)) (pe_call GO (hr.mono (by decide)) rfl gO FO.kp bO .nil pass0 (pa_cons (pe_ix (r := rIxL K) ix_list (pv 1) pe_int (fun _ _ => rfl)) (pa_cons (pv 2) pa_nil))) (by rfl))))) (pss_one (ps_ret pe_bl)) pss_nil)
      (pss_cons (ps_if (pt_cmpR (op_neD hr.units) (pe_lc (own := [("k", 6)]) (g := gName 6) (by rfl) scFits.nd (pi_range1 rfl U.rng (pa_cons (pe_ix (r := rIxL K) ix_list (pv 1) pe_int (fun _ _ => rfl)) pa_nil)) (blkOk_by (own := [("k", 6)]) (N := ["table", "desk", "state", "known", "row", "made", "k", "one", "odd"]) (sc := defScope sFits) (by decide +kernel)) (fun _ _ _ _ _ => pg_name (i := 6) scFits.nd rfl (Or.inl rfl)) (fun _ _ _ _ _ => pts_nil) (fun _ _ _ _ _ => pe_ixO GI hsI hfI hfnI bI (hr.mono (by decide)) passF (pv 0) (pv 6) (fun _ _ => rfl))) (pe_ix (r := rIxL K) ix_list (pv 2) pe_int (fun _ _ => rfl)) (by rfl)) (pss_one (ps_ret pe_bl)) pss_nil)
      (pss_cons (ps_if (pt_cmpR op_ne (pe_callB (id := "repr") (r := rReprW K) (call_reprW hgX hr.units) (by rfl) U.repr (by decide +kernel) (pa_cons (pe_callB (call_lenO GL hsL hfL bL (hr.mono (by decide)) pass0) (by rfl) U.len (by decide +kernel) (pa_cons (pv 0) pa_nil)) pa_nil)) (pe_callB (id := "repr") (r := rReprW K) (call_reprW hgX hr.units) (by rfl) U.repr (by decide +kernel) (pa_cons (pe_callB call_len_seq (by rfl) U.len (by decide +kernel) (pa_cons (pe_lc (own := [("one", 7)]) (g := gName 7) (by rfl) scFits.nd (pi_list (pe_ix (r := rIxL K) ix_list (pv 2) pe_int (fun _ _ => rfl))) (blkOk_by (own := [("one", 7)]) (N := ["table", "desk", "state", "known", "row", "made", "k", "one", "odd"]) (sc := defScope sFits) (by decide +kernel)) (fun _ _ _ _ _ => pg_name (i := 7) scFits.nd rfl (Or.inl rfl)) (fun _ _ _ _ _ => pts_one (pt_cmp (pc_notN (pv 7)))) (fun _ _ _ _ _ => pv 7)) pa_nil)) pa_nil)) (by rfl)) (pss_one (ps_ret pe_bl)) pss_nil)
      (pss_cons (ps_for PassesOwn.never rfl (pi_list (pv 3)) (pg_name (i := 4) scFits.nd rfl (.inl rfl)) (pss_cons (ps_set (i := 5) scFits.nd rfl (.inl rfl) (pe_makeK MH GH (hr.mono (by decide)) rfl Sh.g kbh passF (pa_cons (pe_ix ix_tup (pv 4) pe_int (fun _ _ => rfl)) (pa_cons (pe_ix ix_tup (pv 4) pe_int (fun _ _ => rfl)) pa_nil)) (pk_cons (pe_ix ix_tup (pv 4) pe_int (fun _ _ => rfl)) pk_nil))) (pss_one (ps_if (pt_cmpR op_ne (pe_callB (id := "repr") (r := rReprW K) (call_reprW hgX hr.units) (by rfl) U.repr (by decide +kernel) (pa_cons (pe_cmpR (op_inO GX hsX hfX bX (hr.mono (by decide)) pass0) (pv 5) (pv 0) (by rfl)) pa_nil)) (pe_callB (id := "repr") (r := rReprW K) (call_reprW hgX hr.units) (by rfl) U.repr (by decide +kernel) (pa_cons (pe_and (pe_cmpR op_lt (pe_ix ix_tup (pv 4) pe_int (fun _ _ => rfl)) (pe_ix (r := rIxL K) ix_list (pv 1) pe_int (fun _ _ => rfl)) (by rfl)) (pe_one (pe_cmpR op_eq (pe_ix (r := rIxL K) ix_list (pe_ix (r := rIxL K) ix_list (pv 2) pe_int (fun _ _ => rfl)) (pe_ix ix_tup (pv 4) pe_int (fun _ _ => rfl)) (fun _ _ => rfl)) (pe_ix ix_tup (pv 4) pe_int (fun _ _ => rfl)) (by rfl)))) pa_nil)) (by rfl)) (pss_one (ps_ret pe_bl)) pss_nil))))
      (pss_one (ps_ret (pe_cmpR (op_eqD hr.units) (pe_lc (own := [("odd", 8)]) (g := gName 8) (by rfl) scFits.nd (pi_list (pe_lst (pa_cons pe_non (pa_cons pe_int (pa_cons pe_str (pa_cons (pe_tup (pa_cons pe_int (pa_cons pe_int (pa_cons pe_int pa_nil)))) (pa_cons (pe_lst (pa_cons pe_int pa_nil)) (pa_cons pe_dnewK pa_nil)))))))) (blkOk_by (own := [("odd", 8)]) (N := ["table", "desk", "state", "known", "row", "made", "k", "one", "odd"]) (sc := defScope sFits) (by decide +kernel)) (fun _ _ _ _ _ => pg_name (i := 8) scFits.nd rfl (Or.inl rfl)) (fun _ _ _ _ _ => pts_nil) (fun _ _ _ _ _ => (pe_cmpR (op_inO GX hsX hfX bX (hr.mono (by decide)) pass0) (pv 8) (pv 0) (by rfl)))) (pe_op op_rep (pe_lst (pa_cons pe_bl pa_nil)) pe_int) (by rfl)))))))), ?_⟩
    have sqd : ∀ {H'}, Same H H' → SqL K H' dk [.int (n : Nat), .str z, .int (m : Nat)] := fun q => .inl (.inl (q _ _ hdk))
    have sqs : ∀ {H'}, Same H H' → SqL K H' s [.ref e, .ref c, .int last, .ref f, .int many] := fun q => .inl (.inl (q _ _ st.1))
    have sqe : ∀ {H'}, Same H H' → H' e = some (.lst es) := fun q => q _ _ st.2.1
    have hlen : es.length = n := t.len
    have hlim := t.lim
    -- free
    refine ⟨_, rfl, x, dx, _, rfl, t.ins, rfl, x, dx, pe, pc, pf, n, z, _, es, cs, many, start, fr, rfl, t, fun H1 r1 s1 e1 => ⟨_, _, _, _, true, rfl, .ty _, .base (.tup e1), kit_ty (by decide +kernel), _, rfl, iteF ?_⟩⟩
    have t1 := t.same s1
    refine ⟨_, rfl, x, dx, _, rfl, t1.ins, rfl, x, dx, pe, pc, pf, n, z, _, es, cs, many, start, fr, rfl, t1, fun H2 r2 s2 e2 => ⟨r2, _, rfl, .inr (.inl (.inl e2)), fun L hL => ?_⟩⟩
    have s12 := (s1.trans s2).push (o := .lst ((freeL z start fr es).map V.int)) hL
    have eL : (upd H2 L (.lst ((freeL z start fr es).map V.int))) L = _ := upd_same
    generalize upd H2 L (.lst ((freeL z start fr es).map V.int)) = H3 at s12 eL ⊢
    refine ⟨_, rfl, dk, _, 1, _, rfl, rfl, sqd s12, rfl, _, rfl, z, s, e, c, f, es, cs, last, fr, many, rfl, st.same s12, by omega, hf, fun H4 r4 s4 e4 _ => ?_⟩
    rw [ag.off] at e4
    refine ⟨_, _, dp_Z (s4 _ _ eL), dp_Z e4, shaped_Z _, shaped_Z _, _, rfl, ?_⟩
    rw [eqv_Z]
    refine iteF ?_
    have s5 := s12.trans s4
    clear e4 eL s12 s4 e2 s2 s1 e1 t1
    -- table[k]
    refine ⟨_, rfl, dk, _, 0, _, rfl, rfl, sqd s5, rfl, (n : Nat), rfl, by omega, by omega, fun D hD => lc_range (lo := 0) (n := n) (fun i H' => Same H4 H' ∧ H' D = some (.lst (es.take i))) ⟨Same.new hD, upd_same⟩ ?_ ?_⟩
    · rintro i H' hi ⟨s6, d6⟩
      have t6 := t.same (s5.trans s6)
      have hil : i < es.length := by omega
      have hu : es[i]? = some es[i] := List.getElem?_eq_getElem hil
      have e0 : (0 : Int) + (i : Int) = ((i : Nat) : Int) := Int.zero_add _
      refine ⟨rfl, _, rfl, _, rfl, x, dx, _, rfl, t6.ins, x, dx, pe, pc, pf, n, z, _, es, cs, many, start, fr, _, _, rfl, t6, .int _, fun q => ?_, fun i4 u hi4 hu4 => ⟨_, d6, ?_, s6.put hD, ?_⟩⟩
      · rw [e0] at q
        have : isIndex (.int (i : Nat)) n = true := by
          show (decide (0 ≤ (i : Int)) && decide ((i : Int) < (n : Nat))) = true
          rw [decide_eq_true (by omega), decide_eq_true (by omega)]
          rfl
        rw [this] at q
        cases q
      · rw [List.length_take]
        exact Nat.lt_of_le_of_lt (Nat.le_trans (Nat.min_le_right ..) (show es.length ≤ 60 by omega)) (by decide)
      · have : i4 = i := by
          have := V.int.inj hi4
          omega
        subst this
        rw [upd_same, List.take_succ, hu4]
        rfl
    rintro H6 ⟨s6, d6⟩
    rw [← hlen, List.take_length] at d6
    have s56 := s5.trans s6
    refine ⟨_, rfl, s, _, 0, _, rfl, rfl, sqs s56, rfl, _, _, dp_ents ag.ent d6, dp_ents ag.ent (sqe s56), shaped_ents ag.ent, shaped_ents ag.ent, _, rfl, ?_⟩
    rw [eqv_ents]
    refine iteF ?_
    clear d6 hD s6 s5
    -- len
    have t6 := t.same s56
    have okc : ∀ q : Nat, q ≤ 60 → _ := fun q hq => okW_int (a := (q : Nat)) ⟨by omega, by omega⟩
    have c60 : countE es ≤ 60 := Nat.le_trans (List.length_filter_le _ _) (by omega)
    refine ⟨_, rfl, x, dx, _, rfl, t6.ins, x, dx, pe, pc, pf, n, z, _, es, cs, many, start, fr, rfl, t6, fun H7 s7 => ⟨_, rfl, Int.natCast_nonneg _, by omega, _, _, rfl, .inl (.int _), okc _ c60, ?_⟩⟩
    have s57 := s56.trans s7
    refine ⟨_, rfl, s, _, 0, _, rfl, rfl, sqs s57, rfl, e, rfl, ⟨_, .inl (.inl (sqe s57))⟩, fun D hD => lc_list (xs := es) (fun i H' => Same H7 H' ∧ H' D = some (.lst ((es.take i).filter isSomeE))) ⟨Same.new hD, upd_same⟩ (fun i H' _ q => .inl (.inl (sqe (s57.trans q.1)))) ?_ ?_⟩
    · rintro i v H' hv ⟨s8, e8⟩
      have htk : es.take (i + 1) = es.take i ++ [v] := by rw [List.take_succ, hv]; rfl
      refine ⟨rfl, _, rfl, _, rfl, ?_⟩
      cases q : decide (v = V.non) with
      | true =>
        refine iteF ⟨s8, ?_⟩
        have : [v].filter isSomeE = [] := by simp [isSomeE, q]
        rw [htk, List.filter_append, e8, this, List.append_nil]
      | false =>
        refine iteT ⟨_, rfl, _, e8, ?_, s8.put hD, ?_⟩
        · refine Nat.lt_of_le_of_lt (List.length_filter_le _ _) ?_
          rw [List.length_take]
          exact Nat.lt_of_le_of_lt (Nat.le_trans (Nat.min_le_right ..) (show es.length ≤ 60 by omega)) (by decide)
        · have : [v].filter isSomeE = [v] := by simp [isSomeE, q]
          rw [upd_same, htk, List.filter_append, this]
    rintro H8 ⟨s8, e8⟩
    rw [List.take_length] at e8
    refine ⟨D, _, rfl, .inl (.inl (.inl e8)), _, _, rfl, .inl (.int _), okc _ c60, rfl, _, rfl, iteNS (c := V.str _ = V.str _) rfl ?_⟩
    have s58 := s57.trans s8
    clear e8 hD s8 s57 s7 t6 s56
    -- for row in known
    refine ⟨_, rfl, kn, rfl, ⟨_, .inl (.inl (s58 _ _ hkn))⟩, for_list (xs := ts.map fun t => V.ref t.1) (fun i σ H' => ∃ u4 u5 u6 u7 u8, σ = [some (.ref x), some (.ref dk), some (.ref s), some (.ref kn), u4, u5, u6, u7, u8] ∧ Same H8 H') ⟨_, _, _, _, _, rfl, Same.refl _⟩ (fun _ _ _ _ q => ?_) ?_ ?_⟩
    · obtain ⟨_, _, _, _, _, _, q⟩ := q
      exact .inl (.inl ((s58.trans q) _ _ hkn))
    · rintro i v σ H9 hv ⟨u4, u5, u6, u7, u8, rfl, s9⟩
      rw [List.getElem?_map] at hv
      obtain ⟨k3, hk3, rfl⟩ := Option.map_eq_some_iff.mp hv
      obtain ⟨j, tt, ee, hrow, sm⟩ := hts k3 (List.mem_of_getElem? hk3)
      have s59 := s58.trans s9
      have tq : ∀ {H'}, Same H9 H' → SqT K H' k3.1 [.int (j : Nat), .int tt, .int ee] := fun q => .inl (.inl ((s59.trans q) _ _ hrow))
      refine ⟨_, rfl, k3.1, _, 0, _, rfl, rfl, tq (Same.refl _), rfl, _, rfl, k3.1, _, 1, _, rfl, rfl, tq (Same.refl _), rfl, _, rfl, k3.1, _, 2, _, rfl, rfl, tq (Same.refl _), rfl, rfl, rfl, mk_ok (Int.natCast_nonneg _) sm.b.1 sm.c.1 fun Ha h sa hh ha => ?_⟩
      have s5a := s59.trans sa
      have ta := t.same s5a
      obtain ⟨dh, ih⟩ := id ha
      refine ⟨_, rfl, _, rfl, x, dx, _, rfl, ta.ins, .inl ⟨x, dx, pe, pc, pf, n, z, _, es, cs, many, start, fr, h, j, tt, ee, rfl, ta, ag.ent, ha, tyI _ _ _ _ ih, _, rfl, _, _, rfl, .inl (.bl _), okW_bool _, ?_⟩⟩
      refine ⟨_, rfl, k3.1, _, 0, _, rfl, rfl, tq sa, rfl, _, rfl, dk, _, 0, _, rfl, rfl, sqd s5a, rfl, _, _, rfl, rfl, _, rfl, ?_⟩
      by_cases hj : j < n
      · rw [decide_eq_true (show ((j : Nat) : Int) < (n : Nat) by omega)]
        have hu : es[j]? = some es[j] := List.getElem?_eq_getElem (by omega)
        have hu2 := ag.ent es[j] (List.getElem_mem (by omega))
        have hin : inW n es j ee = decide (es[j] = V.int ee) := by
          unfold inW
          rw [if_neg (by omega), hu]
          exact decide_eq_decide.mpr ⟨fun q => Option.some.inj q, fun q => by rw [q]⟩
        generalize es[j] = u at hu hu2 hin
        refine iteT ⟨_, rfl, s, _, 0, _, rfl, rfl, sqs s5a, rfl, _, rfl, k3.1, _, 0, _, rfl, rfl, tq sa, rfl, e, es, _, u, rfl, rfl, .inl (.inl (sqe s5a)), atI_nat hu, _, rfl, k3.1, _, 2, _, rfl, rfl, tq sa, rfl, ?_, _, _, rfl, .inl (.bl _), okW_bool _, rfl, _, rfl, ?_⟩
        · rcases hu2 with rfl | ⟨_, rfl⟩ <;> rfl
        · rw [hin]
          exact iteNS (c := V.str _ = V.str _) rfl ⟨_, _, _, _, _, rfl, s9.trans sa⟩
      · rw [decide_eq_false (show ¬ ((j : Nat) : Int) < (n : Nat) by omega)]
        have hin : inW n es j ee = false := by
          unfold inW
          rw [if_pos (by omega)]
        refine iteF ⟨_, _, rfl, .inl (.bl _), okW_bool _, rfl, _, rfl, ?_⟩
        rw [hin]
        exact iteNS (c := V.str _ = V.str _) rfl ⟨_, _, _, _, _, rfl, s9.trans sa⟩
    · rintro σ H9 ⟨u4, u5, u6, u7, u8, rfl, s9⟩
      have s59 := s58.trans s9
      clear s9 s58
      refine ⟨(by show 3 ≤ sizeLine; decide), fun t1 h1 => ?_⟩
      have sa := s59.push (o := .tup [.int 0, .int 0, .int 0]) h1
      have ea : (upd H9 t1 (.tup [.int 0, .int 0, .int 0])) t1 = _ := upd_same
      generalize upd H9 t1 (.tup [.int 0, .int 0, .int 0]) = Ha at sa ea ⊢
      refine ⟨(by show 1 ≤ sizeLine; decide), fun l1 h2 => ?_⟩
      have sb := sa.push (o := .lst [.int 0]) h2
      have eb := (Same.new (o := .lst [.int 0]) h2) _ _ ea
      have fb : (upd Ha l1 (.lst [.int 0])) l1 = _ := upd_same
      generalize upd Ha l1 (.lst [.int 0]) = Hb at sb eb fb ⊢
      refine fun d1 h3 => ?_
      have sc := sb.push (o := .dK []) h3
      have ec := (Same.new (o := .dK []) h3) _ _ eb
      have fc := (Same.new (o := .dK []) h3) _ _ fb
      have gc : (upd Hb d1 (.dK [])) d1 = _ := upd_same
      generalize upd Hb d1 (.dK []) = Hc at sc ec fc gc ⊢
      refine ⟨(by show 6 ≤ sizeLine; decide), fun L h4 => ?_⟩
      have sd := sc.push (o := .lst [.non, .int 0, .str "0.0", .ref t1, .ref l1, .ref d1]) h4
      have sn := Same.new (o := .lst [.non, .int 0, .str "0.0", .ref t1, .ref l1, .ref d1]) h4
      have ed := sn _ _ ec
      have fd' := sn _ _ fc
      have gd := sn _ _ gc
      have hd : (upd Hc L (.lst [.non, .int 0, .str "0.0", .ref t1, .ref l1, .ref d1])) L = _ := upd_same
      generalize upd Hc L (.lst [.non, .int 0, .str "0.0", .ref t1, .ref l1, .ref d1]) = Hd at sd ed fd' gd hd ⊢
      have kind : ∀ (i : Nat) (v : V) (H' : Hp), Same Hd H' → ([.non, .int 0, .str "0.0", .ref t1, .ref l1, .ref d1] : List V)[i]? = some v → ∃ u, TyX K H' v u ∧ PySem.W.kitOne K u (.ref Ch) = some false := fun i v H' q hv => by
        match i, hv with
        | 0, e => cases e; exact ⟨_, Kd.non.ty, hno _ (by simp)⟩
        | 1, e => cases e; exact ⟨_, (Kd.int 0).ty, hno _ (by simp)⟩
        | 2, e => cases e; exact ⟨_, (Kd.str "0.0" (by decide)).ty, hno _ (by simp)⟩
        | 3, e => cases e; exact ⟨_, (Kd.tup (q _ _ ed)).ty, hno _ (by simp)⟩
        | 4, e => cases e; exact ⟨_, (Kd.lst (q _ _ fd')).ty, hno _ (by simp)⟩
        | 5, e => cases e; exact ⟨_, (Kd.dK (q _ _ gd)).ty, hno _ (by simp)⟩
      refine ⟨L, rfl, ⟨_, .inl (.inl hd)⟩, fun D hD => lc_list (xs := [.non, .int 0, .str "0.0", .ref t1, .ref l1, .ref d1]) (fun i H' => i ≤ 6 ∧ Same Hd H' ∧ H' D = some (.lst (List.replicate i (.bl false)))) ⟨by omega, Same.new hD, upd_same⟩ (fun _ _ _ q => .inl (.inl (q.2.1 _ _ hd))) ?_ ?_⟩
      · rintro i v H' hv ⟨i6, se, ee⟩
        obtain ⟨u, ty, no⟩ := kind i v H' se hv
        have hi : i < 6 := (List.getElem?_eq_some_iff.mp hv).1
        refine ⟨rfl, _, rfl, _, rfl, x, dx, _, rfl, (t.same (sd.trans se)).ins, .inr ⟨x, v, u, rfl, ty, no, _, rfl, _, ee, ?_, by omega, se.put hD, ?_⟩⟩
        · rw [List.length_replicate]
          exact Nat.lt_of_lt_of_le (show i < 100 by omega) (by decide)
        · rw [upd_same, List.replicate_succ']
      · rintro He ⟨_, se, ee⟩
        refine ⟨(by show 1 ≤ sizeLine; decide), fun l2 h5 => ⟨l2, 6, [.bl false], rfl, rfl, upd_same, by omega, by omega, (by show 1 * 6 ≤ sizeLine; decide), fun p hp => ?_⟩⟩
        rw [rep_one]
        have sf := (Same.new (o := .lst [.bl false]) h5).trans (Same.new (o := .lst (List.replicate (6 : Int).toNat (.bl false))) hp)
        have db : ∀ {H' : Hp} {a : Addr}, H' a = some (.lst (List.replicate 6 (.bl false))) → Dp K H' (.ref a) (.list [.bool false, .bool false, .bool false, .bool false, .bool false, .bool false]) := fun e => .lst (.inl (.inl e)) (.cons (.bl _) (.cons (.bl _) (.cons (.bl _) (.cons (.bl _) (.cons (.bl _) (.cons (.bl _) .nil))))))
        refine ⟨_, _, db (sf _ _ ee), db upd_same, by decide +kernel, by decide +kernel, ?_⟩
        have ev : PyData.eqv (.list [.bool false, .bool false, .bool false, .bool false, .bool false, .bool false]) (.list [.bool false, .bool false, .bool false, .bool false, .bool false, .bool false]) = true := by decide +kernel
        rw [ev]
        exact k _ ((sd.trans se).trans sf)
end
/-! ### the twin of a table -/
abbrev sPick : Stmt := top 30
def spPick : Sp := fun vs H Q _ => ∃ (p q a : Addr) (xs : List V), vs = [.ref p, .ref a] ∧ PoolAt H p q ∧ Sf p q H a (.lst xs) ∧ xs ≠ [] ∧ xs.length ≤ 1000 ∧ ∀ H' (j : Nat) v, But p q H H' → PoolAt H' p q → xs[j]? = some v → Q v H'
section
variable {P : Program} {w : World} {K : PySem.W.Frag} {mg : Str → Option Value} {base : Heap}
theorem scPick : FnScope ["pool", "some"] ["pool", "some"] (defScope sPick) := ⟨rfl, rfl, rfl, by decide +kernel, rfl, by decide +kernel, by decide +kernel⟩
theorem ok_pick {f fD : Addr} {fd fdD : FuncData} (F : Fun K "_law_pick" "_law_pick" sPick f fd) (hlen : mg "len" = none) (FD : Fun K "_law_draw" "_law_draw" sDraw fD fdD) (bD : Binds K fdD ["pool", "many"] []) (gD : mg "_law_draw" = some (.ref fD))
    (GD : FnOk P w K mg base CX0 2 fD fdD ["pool", "many"] spDraw) : FnOk P w K mg base CX0 3 f fd ["pool", "some"] spPick := by
  refine F.ok scPick (fun vs H Q E h => ?_) (fun cdv A outer s H vs Q E hr h => ?_)
  · obtain ⟨p, q, a, xs, rfl, _⟩ := h
    rfl
  · obtain ⟨p, q, a, xs, rfl, hP, ha, hne, hl, k⟩ := h
    refine ⟨_, pss_one (ps_ret (pe_ix ix_list (pv 1) (pe_call GD hr rfl gD FD.kp bD .nil pass0 (pa_cons (pv 0) (pa_cons (pe_callB call_len_seq (by rfl) hlen (by decide +kernel) (pa_cons (pv 1) pa_nil)) pa_nil))) (fun _ _ => rfl))), ?_⟩
    have h1 : 1 ≤ xs.length := List.length_pos_iff.mpr hne
    refine ⟨_, rfl, _, rfl, _, rfl, a, _, rfl, .inl (.inl (.inl ha.e)), p, q, _, rfl, hP, by omega, by omega, fun H' r b P' r0 r1 => ?_⟩
    obtain ⟨j, rfl⟩ := Int.eq_ofNat_of_zero_le r0
    have hj : j < xs.length := by omega
    exact ⟨a, _, _, xs[j], rfl, rfl, .inl (.inl (ha.but b).e), atI_nat (List.getElem?_eq_getElem hj), k H' j _ b P' (List.getElem?_eq_getElem hj)⟩
end
theorem frees_nil {es : List V} : frees es = [] ↔ ∀ j : Nat, ¬ es[j]? = some V.non := by
  rw [List.eq_nil_iff_forall_not_mem]
  constructor
  · exact fun h j q => h (j : Nat) (mem_frees.mpr ⟨j, rfl, q⟩)
  · intro h a ha
    obtain ⟨j, _, q⟩ := mem_frees.mp ha
    exact h j q
/-- the numbers that became free are free -/
def FrOk (es : List V) (fr : List Int) : Prop := ∀ m ∈ fr, ∃ j : Nat, m = (j : Nat) ∧ es[j]? = some V.non
theorem headD_mem {l : List Int} (h : l ≠ []) : l.headD 0 ∈ l := by
  cases l with
  | nil => exact absurd rfl h
  | cons a l => exact List.mem_cons_self ..
theorem head_free {bk : Str} {start : Int} {fr : List Int} {es : List V} (hf : FrOk es fr) (hn : frees es ≠ []) : ∃ j : Nat, (freeL bk start fr es).head? = some (j : Int) ∧ es[j]? = some V.non := by
  have key : ∀ a : Int, a ∈ frees es → ∃ j : Nat, some a = some (j : Int) ∧ es[j]? = some V.non := fun a ha => by
    obtain ⟨j, e, h⟩ := mem_frees.mp ha
    exact ⟨j, by rw [e], h⟩
  unfold freeL
  by_cases hA : bk = "any"
  · rw [if_pos hA]
    cases q : frees es with
    | nil => exact absurd q hn
    | cons a l => exact key a (by rw [q]; exact List.mem_cons_self ..)
  · rw [if_neg hA, if_neg hn]
    show ∃ j : Nat, some (toldN bk start fr (frees es)) = some (j : Int) ∧ _
    refine key _ ?_
    unfold toldN
    split
    · have ne : (((frees es).filter fun m => decide (start ≤ m)) ++ frees es) ≠ [] := fun q => hn (List.append_eq_nil_iff.mp q).2
      rcases List.mem_append.mp (headD_mem ne) with q | q
      · exact (List.mem_filter.mp q).1
      · exact q
    · split
      · rcases List.eq_nil_or_concat fr with rfl | ⟨fi, m, rfl⟩
        · exact headD_mem hn
        · rw [List.concat_eq_append, List.getLast?_concat]
          obtain ⟨j, e, h⟩ := hf m (by rw [List.concat_eq_append]; exact List.mem_append_right _ (List.mem_singleton.mpr rfl))
          exact mem_frees.mpr ⟨j, e, h⟩
      · exact headD_mem hn
theorem FrOk.give {es : List V} {fr : List Int} (h : FrOk es fr) {j : Nat} (v : V) : FrOk (es.set j v) (fr.filter fun m => !decide (m = (j : Int))) := fun m hm => by
  obtain ⟨h1, h2⟩ := List.mem_filter.mp hm
  obtain ⟨i, rfl, e⟩ := h m h1
  have : ¬ (i : Int) = (j : Int) := fun q => by rw [decide_eq_true q] at h2; cases h2
  exact ⟨i, rfl, by rw [List.getElem?_set_ne (by omega)]; exact e⟩
theorem FrOk.close {es : List V} {fr : List Int} (h : FrOk es fr) {j : Nat} (hj : j < es.length) : FrOk (es.set j .non) (fr ++ [(j : Int)]) := fun m hm => by
  rcases List.mem_append.mp hm with q | q
  · obtain ⟨i, rfl, e⟩ := h m q
    by_cases g : j = i
    · subst g
      exact ⟨_, rfl, List.getElem?_set_self hj⟩
    · exact ⟨i, rfl, by rw [List.getElem?_set_ne g]; exact e⟩
  · exact ⟨j, List.mem_singleton.mp q, List.getElem?_set_self hj⟩
theorem FrOk.renew {es : List V} {fr : List Int} (h : FrOk es fr) {j : Nat} {e : Int} (v : V) (hj : es[j]? = some (.int e)) : FrOk (es.set j v) fr := fun m hm => by
  obtain ⟨i, rfl, q⟩ := h m hm
  by_cases g : j = i
  · subst g
    rw [hj] at q
    cases q
  · exact ⟨i, rfl, by rw [List.getElem?_set_ne g]; exact q⟩

theorem mem_freeL {z : Str} {start : Int} {fr : List Int} {es : List V} (hf : FrOk es fr) {x : Int} (h : x ∈ freeL z start fr es) : ∃ j : Nat, x = (j : Nat) ∧ es[j]? = some V.non := by
  by_cases hn : frees es = []
  · unfold freeL at h
    rw [if_pos hn, hn] at h
    split at h <;> cases h
  · by_cases hA : z = "any"
    · rw [freeL, if_pos hA] at h
      exact mem_frees.mp h
    · obtain ⟨j, e1, e2⟩ := head_free (bk := z) (start := start) hf hn
      rw [freeL, if_neg hA, if_neg hn] at h e1
      rw [List.mem_singleton.mp h]
      exact ⟨j, Option.some.inj e1, e2⟩
theorem off_of {z : Str} {start last : Int} {fr : List Int} {es : List V} (h : last + 1 = start ∨ (start = 0 ∧ last + 1 = (es.length : Nat))) : freeL z (last + 1) fr es = freeL z start fr es := by
  rcases h with h | ⟨h1, h2⟩
  · rw [h]
  · rw [h1, h2]
    unfold freeL
    by_cases hA : z = "any"
    · rw [if_pos hA, if_pos hA]
    · rw [if_neg hA, if_neg hA]
      by_cases hn : frees es = []
      · rw [if_pos hn, if_pos hn]
      · rw [if_neg hn, if_neg hn]
        congr 1
        unfold toldN
        by_cases hN : z = "next"
        · rw [if_pos hN, if_pos hN]
          have f1 : (frees es).filter (fun m => decide (((es.length : Nat) : Int) ≤ m)) = [] := by
            rw [List.filter_eq_nil_iff]
            intro a ha
            obtain ⟨j, rfl, hj⟩ := mem_frees.mp ha
            have := (List.getElem?_eq_some_iff.mp hj).1
            simp only [decide_eq_true_eq]
            omega
          have f2 : (frees es).filter (fun m => decide ((0 : Int) ≤ m)) = frees es := by
            rw [List.filter_eq_self]
            intro a ha
            obtain ⟨j, rfl, hj⟩ := mem_frees.mp ha
            exact decide_eq_true (Int.natCast_nonneg j)
          rw [f1, f2]
          cases q : frees es with
          | nil => exact absurd q hn
          | cons a l => rfl
        · rw [if_neg hN, if_neg hN]
/-- all but these is as it was -/
def Fm (M : List Addr) (H H' : Hp) : Prop := ∀ b o, b ∉ M → H b = some o → H' b = some o
theorem Fm.of {M : List Addr} {H H' : Hp} (s : Same H H') : Fm M H H' := fun b o _ e => s b o e
theorem Fm.trans {M : List Addr} {H H1 H2 : Hp} (a : Fm M H H1) (b : Fm M H1 H2) : Fm M H H2 := fun c o n e => b c o n (a c o n e)
theorem Fm.but {x pe pc pf p q kn : Addr} {H H' : Hp} (b : But p q H H') : Fm [x, pe, pc, pf, p, q, kn] H H' := fun c o n e => b c o (fun z => n (by rw [z]; simp)) (fun z => n (by rw [z]; simp)) e
theorem Fm.off {x pe pc pf p q kn : Addr} {H H' : Hp} (s : Off x pe pc pf H H') : Fm [x, pe, pc, pf, p, q, kn] H H' := fun c o n e => s c o (fun z => n (by rw [z]; simp)) (fun z => n (by rw [z]; simp)) (fun z => n (by rw [z]; simp)) (fun z => n (by rw [z]; simp)) e
theorem Fm.put {x pe pc pf p q kn : Addr} {H : Hp} {o : HO} : Fm [x, pe, pc, pf, p, q, kn] H (upd H kn o) := fun c u n e => by
  rw [upd_ne (fun z => n (by rw [z]; simp))]
  exact e
/-- the law's world about one table -/
structure Lw6 (H : Hp) (C x dx pe pc pf p q dk s e c f kn : Addr) (n : Nat) (z : Str) (m : Nat) (es : List V) (cs : List Int) (many start last : Int) (fr : List Int) (ts : List K3) (k : Nat) : Prop where
  t : TAt H C x dx pe pc pf n z (m : Nat) es cs many start fr
  st : StAt H s e c f es cs last fr many
  rel : last + 1 = start ∨ (start = 0 ∧ last + 1 = (n : Nat))
  ent : ∀ u ∈ es, EntV u
  fo : FrOk es fr
  m0 : 0 ≤ many
  my : many ≤ k
  fl : fr.length ≤ k
  tl : ts.length ≤ k
  pool : PoolAt H p q
  edk : H dk = some (.lst [.int (n : Nat), .str z, .int (m : Nat)])
  ekn : H kn = some (.lst (ts.map fun t => V.ref t.1))
  rows : ∀ t ∈ ts, ∃ (j : Nat) (tt ee : Int), Row3 H t.1 j tt ee ∧ Sm j tt ee
  ap : Aw x pe pc pf p
  aq : Aw x pe pc pf q
  ad : Aw x pe pc pf dk
  a1 : Aw x pe pc pf s
  ae : Aw x pe pc pf e
  ac : Aw x pe pc pf c
  af : Aw x pe pc pf f
  ak : Aw x pe pc pf kn
  pd : dk ≠ p ∧ dk ≠ q ∧ dk ≠ kn
  p1 : s ≠ p ∧ s ≠ q ∧ s ≠ kn
  p2 : e ≠ p ∧ e ≠ q ∧ e ≠ kn
  p3 : c ≠ p ∧ c ≠ q ∧ c ≠ kn
  p4 : f ≠ p ∧ f ≠ q ∧ f ≠ kn
  p5 : kn ≠ p ∧ kn ≠ q
section
variable {H H' : Hp} {C x dx pe pc pf pf' p q dk s e c f s' e' c' f' kn : Addr} {n : Nat} {z : Str} {m : Nat} {es es' : List V} {cs cs' : List Int} {many start last many' start' last' : Int} {fr fr' : List Int} {ts : List K3} {k : Nat}
theorem Row3.same {t : Addr} {j : Nat} {tt ee : Int} (h : Row3 H t j tt ee) (q : Same H H') : Row3 H' t j tt ee := q _ _ h
theorem Lw6.same (l : Lw6 H C x dx pe pc pf p q dk s e c f kn n z m es cs many start last fr ts k) (g : Same H H') : Lw6 H' C x dx pe pc pf p q dk s e c f kn n z m es cs many start last fr ts k :=
  ⟨l.t.same g, l.st.same g, l.rel, l.ent, l.fo, l.m0, l.my, l.fl, l.tl, l.pool.same g, g _ _ l.edk, g _ _ l.ekn, fun t ht => (by obtain ⟨j, tt, ee, r, sm⟩ := l.rows t ht; exact ⟨j, tt, ee, g _ _ r, sm⟩), l.ap, l.aq, l.ad, l.a1, l.ae, l.ac, l.af, l.ak, l.pd, l.p1, l.p2, l.p3, l.p4, l.p5⟩
theorem Lw6.but (l : Lw6 H C x dx pe pc pf p q dk s e c f kn n z m es cs many start last fr ts k) (b : But p q H H') (P : PoolAt H' p q) : Lw6 H' C x dx pe pc pf p q dk s e c f kn n z m es cs many start last fr ts k := by
  have hp := l.pool
  obtain ⟨ns, i, y, w, v, h1, h2, h3⟩ := hp
  refine ⟨l.t.but b l.ap l.aq, ⟨b _ _ l.p1.1 l.p1.2.1 l.st.1, b _ _ l.p2.1 l.p2.2.1 l.st.2.1, b _ _ l.p3.1 l.p3.2.1 l.st.2.2.1, b _ _ l.p4.1 l.p4.2.1 l.st.2.2.2⟩, l.rel, l.ent, l.fo, l.m0, l.my, l.fl, l.tl, P, b _ _ l.pd.1 l.pd.2.1 l.edk, b _ _ l.p5.1 l.p5.2 l.ekn, fun t ht => ?_,
    l.ap, l.aq, l.ad, l.a1, l.ae, l.ac, l.af, l.ak, l.pd, l.p1, l.p2, l.p3, l.p4, l.p5⟩
  obtain ⟨j, tt, ee, r, sm⟩ := l.rows t ht
  exact ⟨j, tt, ee, b _ _ (fun w => by unfold Row3 at r; rw [w, h1] at r; cases r) (fun w => by unfold Row3 at r; rw [w, h2] at r; cases r) r, sm⟩
theorem Lw6.up (l : Lw6 H C x dx pe pc pf p q dk s e c f kn n z m es cs many start last fr ts k) : Lw6 H C x dx pe pc pf p q dk s e c f kn n z m es cs many start last fr ts (k + 1) :=
  ⟨l.t, l.st, l.rel, l.ent, l.fo, l.m0, by have := l.my; omega, Nat.le_succ_of_le l.fl, Nat.le_succ_of_le l.tl, l.pool, l.edk, l.ekn, l.rows, l.ap, l.aq, l.ad, l.a1, l.ae, l.ac, l.af, l.ak, l.pd, l.p1, l.p2, l.p3, l.p4, l.p5⟩
theorem Lw6.agree (l : Lw6 H C x dx pe pc pf p q dk s e c f kn n z m es cs many start last fr ts k) : Agree z start last fr es := ⟨off_of (by rw [l.t.len]; exact l.rel), l.ent⟩
/-- the table has changed, the law's own one not yet -/
theorem Lw6.rows_off (l : Lw6 H C x dx pe pc pf p q dk s e c f kn n z m es cs many start last fr ts k) (o : Off x pe pc pf H H') : ∀ t ∈ ts, ∃ (j : Nat) (tt ee : Int), Row3 H' t.1 j tt ee ∧ Sm j tt ee := fun t ht => by
  obtain ⟨j, tt, ee, r, sm⟩ := l.rows t ht
  unfold Row3 at r
  have tt' := l.t
  exact ⟨j, tt, ee, o.at_ ⟨fun w => (by rw [w, tt'.ins] at r; cases r), fun w => (by rw [w, tt'.ens] at r; cases r), fun w => (by rw [w, tt'.cnt] at r; cases r), fun w => (by rw [w, tt'.fre] at r; cases r)⟩ r, sm⟩
theorem StAt.off (h : StAt H s e c f es cs last fr many) (o : Off x pe pc pf H H') (a1 : Aw x pe pc pf s) (a2 : Aw x pe pc pf e) (a3 : Aw x pe pc pf c) (a4 : Aw x pe pc pf f) : StAt H' s e c f es cs last fr many := ⟨o.at_ a1 h.1, o.at_ a2 h.2.1, o.at_ a3 h.2.2.1, o.at_ a4 h.2.2.2⟩
theorem Aw.news {b : Addr} (t : TAt H C x dx pe pc pf n z (m : Nat) es cs many start fr) (hb : H b = none) : Aw x pe pc pf b := t.aw_none hb
end
section
variable {H H' H2 H3 : Hp} {C x dx pe pc pf pf' p q dk s e c f s' e' c' f' kn : Addr} {n : Nat} {z : Str} {m : Nat} {es es' : List V} {cs cs' : List Int} {many start last many' start' last' : Int} {fr fr' : List Int} {ts : List K3} {k : Nat}
theorem Aw.old {b : Addr} {o : HO} (a : Aw x pe pc pf b) (hb : H b = some o) (np : pf' = pf ∨ H pf' = none) : Aw x pe pc pf' b := by
  rcases np with rfl | np
  · exact a
  · exact a.new hb np
theorem Lw6.step (l : Lw6 H C x dx pe pc pf p q dk s e c f kn n z m es cs many start last fr ts k) (o : Off x pe pc pf H H2) (np : pf' = pf ∨ H pf' = none) (t2 : TAt H2 C x dx pe pc pf' n z (m : Nat) es' cs' many' start' fr') (s3 : Same H2 H3) (st3 : StAt H3 s' e' c' f' es' cs' last' fr' many')
    (n1 : H2 s' = none) (n2 : H2 e' = none) (n3 : c' = c ∨ H2 c' = none) (n4 : H2 f' = none) (rel' : last' + 1 = start' ∨ (start' = 0 ∧ last' + 1 = (n : Nat))) (ent' : ∀ u ∈ es', EntV u) (fo' : FrOk es' fr') (m0' : 0 ≤ many') (my' : many' ≤ (k : Nat) + 1) (fl' : fr'.length ≤ k + 1) :
    Lw6 H3 C x dx pe pc pf' p q dk s' e' c' f' kn n z m es' cs' many' start' last' fr' ts (k + 1) := by
  have P2 := l.pool.off l.ap l.aq o
  obtain ⟨q1, q2⟩ : Aw x pe pc pf' p ∧ Aw x pe pc pf' q := by
    obtain ⟨ns, i, y, w, v, h1, h2, h3⟩ := l.pool
    exact ⟨l.ap.old h1 np, l.aq.old h2 np⟩
  have dk2 := o.at_ l.ad l.edk
  have kn2 := o.at_ l.ak l.ekn
  have c2 := o.at_ l.ac l.st.2.2.1
  have fresh : ∀ {b : Addr}, H2 b = none → b ≠ p ∧ b ≠ q ∧ b ≠ kn := fun hb => ⟨(P2.nep hb).1.symm, (P2.nep hb).2.symm, (ne_of_none kn2 hb).symm⟩
  refine ⟨t2.same s3, st3, rel', ent', fo', m0', by rw [Int.natCast_succ]; exact my', fl', Nat.le_succ_of_le l.tl, P2.same s3, s3 _ _ dk2, s3 _ _ kn2, fun t ht => ?_, q1, q2, l.ad.old l.edk np, t2.aw_none n1, t2.aw_none n2, ?_, t2.aw_none n4, l.ak.old l.ekn np, l.pd, fresh n1, fresh n2, ?_, fresh n4, l.p5⟩
  · obtain ⟨j, tt, ee, r, sm⟩ := l.rows_off o t ht
    exact ⟨j, tt, ee, s3 _ _ r, sm⟩
  · rcases n3 with rfl | n3
    · exact l.ac.old l.st.2.2.1 np
    · exact t2.aw_none n3
  · rcases n3 with rfl | n3
    · exact l.p3
    · exact fresh n3
theorem Lw6.app {t' : Addr} {j : Nat} {tt ee : Int} (l : Lw6 H C x dx pe pc pf p q dk s e c f kn n z m es cs many start last fr ts k) (row : Row3 H t' j tt ee) (sm : Sm j tt ee) (hl : ts.length + 1 ≤ k) :
    Lw6 (upd H kn (.lst ((ts.map fun t => V.ref t.1) ++ [.ref t']))) C x dx pe pc pf p q dk s e c f kn n z m es cs many start last fr (ts ++ [(t', 0, 0)]) k := by
  have row' : ∀ {t : Addr} {j : Nat} {tt ee : Int}, Row3 H t j tt ee → Row3 (upd H kn (.lst ((ts.map fun t => V.ref t.1) ++ [.ref t']))) t j tt ee := fun r => (upd_ne (fun w => by unfold Row3 at r; rw [w, l.ekn] at r; cases r)).trans r
  refine ⟨l.t.put l.ak, ⟨(upd_ne l.p1.2.2).trans l.st.1, (upd_ne l.p2.2.2).trans l.st.2.1, (upd_ne l.p3.2.2).trans l.st.2.2.1, (upd_ne l.p4.2.2).trans l.st.2.2.2⟩, l.rel, l.ent, l.fo, l.m0, l.my, l.fl, by rw [List.length_append]; exact hl, l.pool.put l.p5.1.symm l.p5.2.symm, (upd_ne l.pd.2.2).trans l.edk, ?_, fun t ht => ?_,
    l.ap, l.aq, l.ad, l.a1, l.ae, l.ac, l.af, l.ak, l.pd, l.p1, l.p2, l.p3, l.p4, l.p5⟩
  · rw [upd_same, List.map_append]
    rfl
  · rcases List.mem_append.mp ht with h | h
    · obtain ⟨j, tt, ee, r, sm⟩ := l.rows t h
      exact ⟨j, tt, ee, row' r, sm⟩
    · rw [List.mem_singleton.mp h]
      exact ⟨j, tt, ee, row' row, sm⟩
end
abbrev sGives : Stmt := top 42
/-- what is wished of a giving and of a deed -/
def Post6 (C x dx pe pc pf p q dk kn : Addr) (n : Nat) (z : Str) (m k : Nat) (H : Hp) (Q : VK) : Prop := ∀ (H' : Hp) (r pf' s' e' c' f' : Addr) (es' : List V) (cs' : List Int) (many' start' last' : Int) (fr' : List Int) (ts' : List K3),
  Lw6 H' C x dx pe pc pf' p q dk s' e' c' f' kn n z m es' cs' many' start' last' fr' ts' (k + 1) → Fm [x, pe, pc, pf, p, q, kn] H H' → (pf' = pf ∨ H pf' = none) → H' r = some (.lst [.bl true, .ref s']) → Q (.ref r) H'
def spGives (C : Addr) : Sp := fun vs H Q _ => ∃ (x dx pe pc pf p q dk s e c f kn : Addr) (n : Nat) (z : Str) (m : Nat) (es : List V) (cs : List Int) (many start last : Int) (fr : List Int) (ts : List K3) (k : Nat), vs = [.ref p, .ref x, .ref dk, .ref s, .ref kn] ∧
  Lw6 H C x dx pe pc pf p q dk s e c f kn n z m es cs many start last fr ts k ∧ Good n z m ∧ k ≤ 50 ∧ Post6 C x dx pe pc pf p q dk kn n z m k H Q
section
variable {P : Program} {w : World} {K : PySem.W.Frag} {mg : Str → Option Value} {base : Heap}
theorem scGives : FnScope ["pool", "table", "desk", "state", "known", "numbers", "number", "found", "later", "row"] ["pool", "table", "desk", "state", "known"] (defScope sGives) := ⟨rfl, rfl, rfl, by decide +kernel, rfl, by decide +kernel, by decide +kernel⟩
theorem ok_gives {f0 C Ch CN fO fD fP fG fL fT : Addr} {fd fdO fdD fdP fdG fdL fdT : FuncData} (F : Fun K "_law_gives" "_law_gives" sGives f0 fd) (S : TbCls K mg C)
    (FO : Fun K "_law_offers" "_law_offers" sOffers fO fdO) (bO : Binds K fdO ["word", "table"] []) (gO : mg "_law_offers" = some (.ref fO)) (GO : FnOk P w K mg base CX0 1 fO fdO ["word", "table"] spOffers)
    (FD : Fun K "_law_draw" "_law_draw" sDraw fD fdD) (bD : Binds K fdD ["pool", "many"] []) (gD : mg "_law_draw" = some (.ref fD)) (GD : FnOk P w K mg base CX0 2 fD fdD ["pool", "many"] spDraw)
    (FP : Fun K "_law_pick" "_law_pick" sPick fP fdP) (bP : Binds K fdP ["pool", "some"] []) (gP : mg "_law_pick" = some (.ref fP)) (GP : FnOk P w K mg base CX0 3 fP fdP ["pool", "some"] spPick)
    (MG : Meth K C "give" fG) (GG : FnOk P w K mg base (L2.CX P w) 7 fG fdG ["self", "number"] (spGive C Ch CN)) (bG : Binds K fdG ["self", "number"] [])
    (FL : Fun K "_law_give" "_law_give" sLGive fL fdL) (bL : Binds K fdL ["table", "cycle", "number"] []) (gL : mg "_law_give" = some (.ref fL)) (GL : FnOk P w K mg base CX0 2 fL fdL ["table", "cycle", "number"] spLGive)
    (FT : Fun K "_law_told_handle" "_law_told_handle" sToldH fT fdT) (bT : Binds K fdT ["found", "due"] []) (gT : mg "_law_told_handle" = some (.ref fT)) (GT : FnG P w K mg base CX0 3 fT fdT ["found", "due"] (spToldH Ch)) :
    FnG P w K mg base CX0 8 f0 fd ["pool", "table", "desk", "state", "known"] (spGives C) := by
  refine fnG_ok F scGives (fun vs H Q E h => ?_) (fun cdv A outer s0 H vs Q E hg hr h => ?_)
  · obtain ⟨x, dx, pe, pc, pf, p, q, dk, s, e, c, f, kn, n, z, m, es, cs, many, start, last, fr, ts, k, rfl, _⟩ := h
    rfl
  · obtain ⟨x, dx, pe, pc, pf, p, q, dk, s, e, c, f, kn, n, z, m, es, cs, many, start, last, fr, ts, k, rfl, l, good, hk, post⟩ := h
    have hgX : (cxOf CX0 P w K mg base ["pool", "table", "desk", "state", "known", "numbers", "number", "found", "later", "row"] "_law_gives" (defScope sGives) f0 cdv A outer s0 H E).nox.A.guards = some [] := hg
    have hu0 : (cxOf CX0 P w K mg base ["pool", "table", "desk", "state", "known", "numbers", "number", "found", "later", "row"] "_law_gives" (defScope sGives) f0 cdv A outer s0 H E).nox.A.units < cLine := by
      have := hr.units
      show (A.deeper _).units < cLine
      omega
    refine ⟨_, pss_cons (ps_set (i := 5) scGives.nd rfl (.inl rfl) (pe_call GO (hr.mono (by decide)) rfl gO FO.kp bO .nil pass0 (pa_cons (pe_ix ix_list (pv 2) pe_int (fun _ _ => rfl)) (pa_cons (pv 3) pa_nil))))
      (pss_cons (ps_set (i := 6) scGives.nd rfl (.inl rfl) pe_non)
      (pss_join (ps_if (PW.pt (pw_and (pt_cmpR op_eq (pe_ix ix_list (pv 2) pe_int (fun _ _ => rfl)) pe_str (nomark _)) (pw_and (pt_cmpR (op_neD hr.units) (pv 5) (pe_lst pa_nil) (by rfl)) (pw_and1 (pt_cmpR op_eq (pe_call GD (hr.mono (by decide)) rfl gD FD.kp bD .nil pass0 (pa_cons (pv 0) (pa_cons pe_int pa_nil))) pe_int (nomark _))))))
          (pss_one (ps_set (i := 6) scGives.nd rfl (.inl rfl) (pe_call GP (hr.mono (by decide)) rfl gP FP.kp bP .nil pass0 (pa_cons (pv 0) (pa_cons (pv 5) pa_nil))))) pss_nil)
      (pss_cons (ps_set (i := 7) scGives.nd rfl (.inl rfl) (pe_meth (pv 1) S.cl MG GG hr bG .nil passF (pa_cons (pv 6) pa_nil)))
      (pss_cons (ps_if (pt_cmpR (op_eqNil hu0) (pv 5) (pe_lst pa_nil) (by rfl)) (pss_one (ps_ret (pe_lst (pa_cons (pe_cmp (pc_isN (pv 7))) (pa_cons (pv 3) pa_nil))))) pss_nil)
      (pss_cons (ps_asg (pe_call GL (hr.mono (by decide)) rfl gL FL.kp bL .nil pass0 (pa_cons (pv 3) (pa_cons (pe_ix ix_list (pv 2) pe_int (fun _ _ => rfl)) (pa_cons (pe_ifExp (pt_cmp (pc_isN (pv 6))) (pe_ix ix_list (pv 5) pe_int (fun _ _ => rfl)) (pv 6)) pa_nil)))) (pg_lst (by rfl) (pgs_cons (pg_name (i := 8) scGives.nd rfl (.inl rfl)) (pgs_cons (pg_name (i := 9) scGives.nd rfl (.inl rfl)) pgs_nil))))
      (pss_cons (ps_expr (pe_bm PySem.F.plainAttrs_list PySem.F.slot_list_append PySem.F.type_list_append mt_append (pv 4) (pa_cons (pv 9) pa_nil)))
      (pss_one (ps_ret (pe_lst (pa_cons (pe_callGd GT hgX (hr.mono (by decide)) rfl gT FT.kp bT (pa_cons (pv 7) (pa_cons (pv 9) pa_nil))) (pa_cons (pv 8) pa_nil))))))))))), ?_⟩
    have st := l.st
    have sq2 : ∀ {H'}, Same H H' → SqL K H' dk [.int (n : Nat), .str z, .int (m : Nat)] := fun g => .inl (.inl (g _ _ l.edk))
    have kk := l.fl
    -- numbers, number
    refine ⟨_, rfl, dk, _, 1, _, rfl, rfl, sq2 (Same.refl _), rfl, _, rfl, z, s, e, c, f, es, cs, last, fr, many, rfl, st, by rw [l.t.len]; exact l.t.lim, by omega, fun H1 r1 s1 e1 n1 => ?_⟩
    have hoff : freeL z (last + 1) fr es = freeL z start fr es := l.agree.off
    rw [hoff] at e1
    have l1 := l.same s1
    have np1 := l.pool.nep n1
    have fr1 : Sf p q H1 r1 (.lst ((freeL z start fr es).map V.int)) := ⟨e1, np1.1.symm, np1.2.symm⟩
    have awr : Aw x pe pc pf r1 := l.t.aw_none n1
    refine ⟨fun σ' H' => ∃ v, σ' = [some (.ref p), some (.ref x), some (.ref dk), some (.ref s), some (.ref kn), some (.ref r1), some v, none, none, none] ∧ But p q H1 H' ∧ PoolAt H' p q ∧ (v = .non ∨ ∃ j : Nat, v = .int (j : Nat) ∧ (j : Int) ∈ freeL z start fr es), ?_, ?_⟩
    · refine ⟨_, rfl, dk, _, 1, _, rfl, rfl, sq2 s1, rfl, rfl, _, rfl, ?_⟩
      by_cases hA : z = "any"
      · rw [dec_str' hA]
        refine iteT ⟨_, rfl, (by show 0 ≤ sizeLine; decide), fun e9 h9 => ?_⟩
        have s9 := Same.new (o := .lst []) h9
        have fr9 := fr1.same s9
        have e99 : (upd H1 e9 (.lst [])) e9 = some (.lst []) := upd_same
        have P9 := l1.pool.same s9
        generalize upd H1 e9 (.lst []) = H2 at s9 fr9 e99 P9 ⊢
        refine ⟨_, _, dp_Z fr9.e, dp_Z (l := []) e99, shaped_Z _, shaped_Z _, _, rfl, ?_⟩
        cases hF : freeL z start fr es with
        | nil =>
          rw [eqv_Z]
          exact iteF (iteF ⟨_, rfl, But.of_same s9, P9, .inl rfl⟩)
        | cons a r0 =>
          have en : PyData.eqv (dZ (a :: r0)) (dZ []) = false := rfl
          rw [en]
          refine iteT ⟨_, rfl, p, q, 2, rfl, P9, (by decide), (by decide), fun H3 r3 b3 P3 r30 r31 => ⟨rfl, _, rfl, ?_⟩⟩
          have b13 := (But.of_same (p := p) (q := q) s9).trans b3
          by_cases h0 : r3 = 0
          · rw [decide_eq_true (show V.int r3 = V.int 0 by rw [h0])]
            have fr3 := fr9.but b3
            rw [hF] at fr3
            have lenF : ((a :: r0).map V.int).length ≤ 1000 := by
              rw [List.length_map, ← hF, freeL, if_pos hA, frees, List.length_map]
              exact Nat.le_trans (freesN_le _ _) (by have := l.t.len; have := l.t.lim; omega)
            refine iteT ⟨_, rfl, _, rfl, p, q, r1, _, rfl, P3, fr3, by simp, lenF, fun H4 jj v b4 P4 ev => ?_⟩
            rw [List.getElem?_map] at ev
            obtain ⟨y, hy, rfl⟩ := Option.map_eq_some_iff.mp ev
            have hm : y ∈ freeL z start fr es := by rw [hF]; exact List.mem_of_getElem? hy
            obtain ⟨j, rfl, _⟩ := mem_freeL l.fo hm
            exact ⟨_, rfl, b13.trans b4, P4, .inr ⟨j, rfl, by rw [← hF]; exact hm⟩⟩
          · rw [decide_eq_false (show ¬ V.int r3 = V.int 0 from fun w => h0 (V.int.inj w))]
            exact iteF ⟨_, rfl, b13, P3, .inl rfl⟩
      · rw [dec_str hA]
        exact iteF (iteF ⟨_, rfl, But.refl _ _ _, l1.pool, .inl rfl⟩)
    · rintro _ H2 ⟨v, rfl, b2, P2, hv⟩
      have l2 := l1.but b2 P2
      have fr2 := fr1.but b2
      have h12 : Fm [x, pe, pc, pf, p, q, kn] H H2 := (Fm.of s1).trans (Fm.but b2)
      have mpos : (0 : Int) < (m : Nat) := by have := good.m1; omega
      have nn : ∀ b, H2 b = none → H b = none := fun b g => by
        cases g0 : H b with
        | none => rfl
        | some u =>
          have := h12 b u
          by_cases w : b ∈ [x, pe, pc, pf, p, q, kn]
          · exfalso
            have lt2 := l2.t
            obtain ⟨ns, i1, y, z1, w1, h1, h2, _⟩ := l2.pool
            simp only [List.mem_cons, List.not_mem_nil, or_false] at w
            rcases w with rfl | rfl | rfl | rfl | rfl | rfl | rfl
            · rw [lt2.ins] at g; cases g
            · rw [lt2.ens] at g; cases g
            · rw [lt2.cnt] at g; cases g
            · rw [lt2.fre] at g; cases g
            · rw [h1] at g; cases g
            · rw [h2] at g; cases g
            · rw [l2.ekn] at g; cases g
          · rw [this w g0] at g; cases g
      refine ⟨_, rfl, x, dx, _, rfl, l2.t.ins, rfl, _, rfl, x, dx, pe, pc, pf, n, z, _, es, cs, many, start, fr, v, rfl, l2.t, mpos, l2.m0, by omega, ?_⟩
      by_cases hF : freeL z start fr es = []
      · have hv0 : v = .non := by
          rcases hv with h | ⟨j, _, h⟩
          · exact h
          · rw [hF] at h; cases h
        refine .inl ⟨hv0, hF, fun H3 s3 => ?_⟩
        have fF3 := s3 _ _ fr2.e
        rw [hF] at fF3
        refine ⟨_, rfl, (by show 0 ≤ sizeLine; decide), fun e9 h9 => ⟨r1, e9, [], rfl, rfl, .inl ⟨.inl (.inl (Same.new h9 _ _ fF3)), .inl (.inl upd_same)⟩, _, rfl, iteT ⟨_, rfl, _, rfl, (by show 2 ≤ sizeLine; decide), fun R hR => ?_⟩⟩⟩
        have s4 := (s3.push (o := .lst []) h9).push (o := .lst [.bl (decide (V.non = V.non)), .ref s]) hR
        exact post _ R pf s e c f _ _ _ _ _ _ _ ((l2.same s4).up) (h12.trans (Fm.of s4)) (.inl rfl) (upd_same.trans (by rw [decide_eq_true rfl]))
      · have hF0 : ((freeL z start fr es).map V.int).isEmpty = false := by
          cases w : freeL z start fr es with
          | nil => exact absurd w hF
          | cons a b => rfl
        rcases hv with rfl | ⟨j, rfl, hm⟩
        · have hfr : frees es ≠ [] := fun w => hF (by unfold freeL; rw [if_pos w, w]; split <;> rfl)
          obtain ⟨j, hh, hj⟩ := head_free (bk := z) (start := start) l2.fo hfr
          obtain ⟨r0, hF'⟩ : ∃ r0, freeL z start fr es = (j : Int) :: r0 := by
            cases w : freeL z start fr es with
            | nil => exact absurd w hF
            | cons a b =>
              rw [w] at hh
              cases hh
              exact ⟨b, rfl⟩
          have hjn : j < n := by rw [← l2.t.len]; exact (List.getElem?_eq_some_iff.mp hj).1
          have hcl : j < cs.length := by rw [l2.t.lec]; exact hjn
          obtain ⟨cc, hc⟩ : ∃ cc, cs[j]? = some cc := ⟨_, List.getElem?_eq_getElem hcl⟩
          refine .inr (.inl ⟨j, cc, .inl ⟨rfl, hh⟩, hjn, hc, fun H3 h pf' o3 np3 t3 nh ha => ?_⟩)
          have fF3 := o3.at_ awr fr2.e
          refine ⟨_, rfl, (by show 0 ≤ sizeLine; decide), fun e9 h9 => ⟨r1, e9, _, rfl, rfl, .inl ⟨.inl (.inl (Same.new h9 _ _ fF3)), .inl (.inl upd_same)⟩, _, rfl, ?_⟩⟩
          have s9 := Same.new (o := .lst []) h9
          have fF4 := s9 _ _ fF3
          have o4 := o3.same s9
          have t4 := t3.same s9
          have ha4 := ha.same s9
          generalize upd H3 e9 (.lst []) = H4 at s9 fF4 o4 t4 ha4 ⊢
          rw [hF0]
          refine iteF ⟨_, rfl, _, rfl, dk, _, 2, _, rfl, rfl, .inl (.inl (o4.at_ l2.ad l2.edk)), rfl, _, rfl, _, rfl, iteT ⟨_, rfl, r1, _, 0, _, rfl, rfl, .inl (.inl fF4), by rw [hF']; exact atI_nat (j := 0) rfl, ?_⟩⟩
          refine ⟨s, e, c, f, es, cs, last, fr, many, m, j, cc, rfl, l2.st.off o4 l2.a1 l2.ae l2.ac l2.af, good.m1, by rw [l2.t.len]; exact hjn, hc, by omega, fun H5 r5 s' t' e' c' f' s5 e5 st5 et hs ht he hc5 hf5 => ?_⟩
          refine ⟨r5, _, rfl, .inl (.inl e5), rfl, _, _, rfl, _, _, rfl, rfl, ?_⟩
          have l5 := l2.step o4 (.inr np3) t4 s5 st5 hs he (.inr hc5) hf5 (.inl rfl) (ent_set l2.ent (.inr ⟨_, rfl⟩)) (l2.fo.give _) (by have := l2.m0; omega) (by have := l2.my; omega) (Nat.le_trans (List.length_filter_le _ _) (Nat.le_succ_of_le l2.fl))
          have ha5 := ha4.same s5
          have sm : Sm j (cc % (m : Nat)) many := ⟨by have := l2.t.lim; omega, ⟨Int.emod_nonneg _ (by have := good.m1; omega), by have := Int.emod_lt_of_pos cc (show (0 : Int) < (m : Nat) by have := good.m1; omega); have := good.m4; omega⟩, ⟨l2.m0, by have := l2.my; omega⟩⟩
          have l6 := l5.app et sm (Nat.succ_le_succ l2.tl)
          have hat6 : HAt (upd H5 kn (.lst ((ts.map fun t => V.ref t.1) ++ [.ref t']))) Ch h (j : Nat) (cc % (m : Nat)) many := ha5.put l5.ekn
          have et6 : Row3 (upd H5 kn (.lst ((ts.map fun t => V.ref t.1) ++ [.ref t']))) t' j (cc % (m : Nat)) many := (upd_ne (fun w => by rw [w, l5.ekn] at et; cases et)).trans et
          have fm6 : Fm [x, pe, pc, pf, p, q, kn] H (upd H5 kn (.lst ((ts.map fun t => V.ref t.1) ++ [.ref t']))) := ((h12.trans (Fm.off o4)).trans (Fm.of s5)).trans Fm.put
          refine ⟨_, rfl, .inl ⟨rfl, _, .inl (.inl l5.ekn)⟩, _, rfl, kn, _, _, rfl, rfl, l5.ekn, ?_, ?_⟩
          · rw [List.length_map]
            have := l2.tl
            exact Nat.lt_of_le_of_lt (show ts.length ≤ 60 by omega) (by decide)
          · generalize upd H5 kn (.lst ((ts.map fun t => V.ref t.1) ++ [.ref t'])) = H6 at l6 hat6 et6 fm6 ⊢
            refine ⟨_, rfl, _, rfl, h, t', j, _, _, rfl, hat6, et6, sm, fun H7 s7 => ⟨_, rfl, (by show 2 ≤ sizeLine; decide), fun R hR => ?_⟩⟩
            have s8 := s7.push (o := .lst [.bl true, .ref s']) hR
            refine post _ R pf' s' e' c' f' _ _ _ _ _ _ _ (l6.same s8) (fm6.trans (Fm.of s8)) (.inr ?_) upd_same
            exact nn _ np3
        · obtain ⟨j', e', hj⟩ := mem_freeL l2.fo hm
          have e2 : j = j' := by omega
          subst e2
          have hjn : j < n := by rw [← l2.t.len]; exact (List.getElem?_eq_some_iff.mp hj).1
          have hcl : j < cs.length := by rw [l2.t.lec]; exact hjn
          obtain ⟨cc, hc⟩ : ∃ cc, cs[j]? = some cc := ⟨_, List.getElem?_eq_getElem hcl⟩
          clear e'
          refine .inr (.inl ⟨j, cc, .inr ⟨rfl, hm⟩, hjn, hc, fun H3 h pf' o3 np3 t3 nh ha => ?_⟩)
          have fF3 := o3.at_ awr fr2.e
          refine ⟨_, rfl, (by show 0 ≤ sizeLine; decide), fun e9 h9 => ⟨r1, e9, _, rfl, rfl, .inl ⟨.inl (.inl (Same.new h9 _ _ fF3)), .inl (.inl upd_same)⟩, _, rfl, ?_⟩⟩
          have s9 := Same.new (o := .lst []) h9
          have fF4 := s9 _ _ fF3
          have o4 := o3.same s9
          have t4 := t3.same s9
          have ha4 := ha.same s9
          generalize upd H3 e9 (.lst []) = H4 at s9 fF4 o4 t4 ha4 ⊢
          rw [hF0]
          refine iteF ⟨_, rfl, _, rfl, dk, _, 2, _, rfl, rfl, .inl (.inl (o4.at_ l2.ad l2.edk)), rfl, _, rfl, _, rfl, iteF ⟨_, rfl, ?_⟩⟩
          refine ⟨s, e, c, f, es, cs, last, fr, many, m, j, cc, rfl, l2.st.off o4 l2.a1 l2.ae l2.ac l2.af, good.m1, by rw [l2.t.len]; exact hjn, hc, by omega, fun H5 r5 s' t' e' c' f' s5 e5 st5 et hs ht he hc5 hf5 => ?_⟩
          refine ⟨r5, _, rfl, .inl (.inl e5), rfl, _, _, rfl, _, _, rfl, rfl, ?_⟩
          have l5 := l2.step o4 (.inr np3) t4 s5 st5 hs he (.inr hc5) hf5 (.inl rfl) (ent_set l2.ent (.inr ⟨_, rfl⟩)) (l2.fo.give _) (by have := l2.m0; omega) (by have := l2.my; omega) (Nat.le_trans (List.length_filter_le _ _) (Nat.le_succ_of_le l2.fl))
          have ha5 := ha4.same s5
          have sm : Sm j (cc % (m : Nat)) many := ⟨by have := l2.t.lim; omega, ⟨Int.emod_nonneg _ (by have := good.m1; omega), by have := Int.emod_lt_of_pos cc (show (0 : Int) < (m : Nat) by have := good.m1; omega); have := good.m4; omega⟩, ⟨l2.m0, by have := l2.my; omega⟩⟩
          have l6 := l5.app et sm (Nat.succ_le_succ l2.tl)
          have hat6 : HAt (upd H5 kn (.lst ((ts.map fun t => V.ref t.1) ++ [.ref t']))) Ch h (j : Nat) (cc % (m : Nat)) many := ha5.put l5.ekn
          have et6 : Row3 (upd H5 kn (.lst ((ts.map fun t => V.ref t.1) ++ [.ref t']))) t' j (cc % (m : Nat)) many := (upd_ne (fun w => by rw [w, l5.ekn] at et; cases et)).trans et
          have fm6 : Fm [x, pe, pc, pf, p, q, kn] H (upd H5 kn (.lst ((ts.map fun t => V.ref t.1) ++ [.ref t']))) := ((h12.trans (Fm.off o4)).trans (Fm.of s5)).trans Fm.put
          refine ⟨_, rfl, .inl ⟨rfl, _, .inl (.inl l5.ekn)⟩, _, rfl, kn, _, _, rfl, rfl, l5.ekn, ?_, ?_⟩
          · rw [List.length_map]
            have := l2.tl
            exact Nat.lt_of_le_of_lt (show ts.length ≤ 60 by omega) (by decide)
          · generalize upd H5 kn (.lst ((ts.map fun t => V.ref t.1) ++ [.ref t'])) = H6 at l6 hat6 et6 fm6 ⊢
            refine ⟨_, rfl, _, rfl, h, t', j, _, _, rfl, hat6, et6, sm, fun H7 s7 => ⟨_, rfl, (by show 2 ≤ sizeLine; decide), fun R hR => ?_⟩⟩
            have s8 := s7.push (o := .lst [.bl true, .ref s']) hR
            refine post _ R pf' s' e' c' f' _ _ _ _ _ _ _ (l6.same s8) (fm6.trans (Fm.of s8)) (.inr ?_) upd_same
            exact nn _ np3
end
/-! ### deeds of the law -/
abbrev sDeeds : Stmt := top 43
def spRenewB (C Ch : Addr) : Sp := fun vs H Q E => spRenew C Ch vs H Q E ∨ ∃ (x dx pe pc pf : Addr) (n : Nat) (bk : Str) (tn : Int) (es : List V) (cs : List Int) (many start : Int) (fr : List Int), vs = [.ref x, .non] ∧ TAt H C x dx pe pc pf n bk tn es cs many start fr ∧ 0 < tn ∧ (∀ u ∈ es, EntV u) ∧ Q (.str "refused") H
def RV (H : Hp) (v : V) : Prop := v = .non ∨ ∃ (t : Addr) (j : Nat) (tt ee : Int), v = .ref t ∧ Row3 H t j tt ee ∧ Sm j tt ee
theorem RV.same {H H' : Hp} {v : V} (h : RV H v) (g : Same H H') : RV H' v := by
  rcases h with rfl | ⟨t, j, tt, ee, rfl, r, sm⟩
  · exact .inl rfl
  · exact .inr ⟨t, j, tt, ee, rfl, g _ _ r, sm⟩
theorem Row3.but {H H' : Hp} {p q t : Addr} {j : Nat} {tt ee : Int} (r : Row3 H t j tt ee) (b : But p q H H') (hP : PoolAt H p q) : Row3 H' t j tt ee := by
  obtain ⟨ns, i, y, w, v, h1, h2, h3⟩ := hP
  unfold Row3 at r
  exact b _ _ (fun z => by rw [z, h1] at r; cases r) (fun z => by rw [z, h2] at r; cases r) r
theorem RV.but {H H' : Hp} {p q : Addr} {v : V} (h : RV H v) (b : But p q H H') (hP : PoolAt H p q) : RV H' v := by
  rcases h with rfl | ⟨t, j, tt, ee, rfl, r, sm⟩
  · exact .inl rfl
  · exact .inr ⟨t, j, tt, ee, rfl, r.but b hP, sm⟩
def spDeeds (C : Addr) : Sp := fun vs H Q _ => ∃ (x dx pe pc pf p q dk s e c f kn : Addr) (n : Nat) (z : Str) (m : Nat) (es : List V) (cs : List Int) (many start last : Int) (fr : List Int) (ts : List K3) (k : Nat), vs = [.ref p, .ref x, .ref dk, .ref s, .ref kn] ∧
  Lw6 H C x dx pe pc pf p q dk s e c f kn n z m es cs many start last fr ts k ∧ Good n z m ∧ k ≤ 50 ∧ Post6 C x dx pe pc pf p q dk kn n z m k H Q
section
variable {P : Program} {w : World} {K : PySem.W.Frag} {mg : Str → Option Value} {base : Heap}
theorem scTbRenewB : FnScope ["self", "handle", "word"] ["self", "handle"] (defScope sTbRenew) := ⟨rfl, rfl, rfl, by decide +kernel, rfl, by decide +kernel, by decide +kernel⟩
theorem ok_tbRenewB {f C Ch fU fR pNu gNu : Addr} {fd fdU fdR fdNu : FuncData} (F : Fun K "renew" "Table.renew" sTbRenew f fd) (S : TbCls K mg C) (Sh : HCls K mg Ch)
    (MU : Meth K C "use" fU) (GU : FnOk P w K mg base CX0 3 fU fdU ["self", "handle"] (spUse C Ch)) (bU : Binds K fdU ["self", "handle"] [])
    (MR : Meth K C "_renewed" fR) (GR : FnOk P w K mg base CX0 5 fR fdR ["self", "number"] (spRenewed C Ch)) (bR : Binds K fdR ["self", "number"] [])
    (pNu : PropOf K Ch "number" pNu gNu) (GNu : FnOk P w K mg base CX0 1 gNu fdNu ["self"] (spGet K "_number")) (bNu : Binds K fdNu ["self"] []) :
    FnOk P w K mg base CX0 6 f fd ["self", "handle"] (spRenewB C Ch) := by
  refine F.ok scTbRenewB (fun vs H Q E h => ?_) (fun cdv A outer s H vs Q E hr h => ?_)
  · rcases h with ⟨x, _, _, _, _, _, _, _, _, _, _, _, _, _, _, _, _, rfl, _⟩ | ⟨x, _, _, _, _, _, _, _, _, _, _, _, _, rfl, _⟩ <;> rfl
  · have trv : True := trivial
    refine ⟨_, pss_cons (ps_set (i := 2) scTbRenewB.nd rfl (.inl rfl) (pe_meth (pv 0) S.cl MU GU (hr.mono (by decide)) bU .nil pass0 (pa_cons (pv 1) pa_nil)))
      (pss_one (ps_ret (pe_ifExp (pt_cmpR op_eq (pv 2) pe_str (nomark _)) (pe_meth (pv 0) S.cl MR GR hr bR .nil pass0 (pa_cons (pe_prop (pv 1) Sh.cl pNu GNu (hr.mono (by decide)) bNu .nil pass0 (by rfl)) pa_nil)) (pv 2)))), ?_⟩
    rcases h with ⟨x, dx, pe, pc, pf, n, bk, tn, es, cs, many, start, fr, h, j, tt, ee, rfl, t, ht, hE, hm, hat, no, yes⟩ | ⟨x, dx, pe, pc, pf, n, bk, tn, es, cs, many, start, fr, rfl, t, ht, hE, k0⟩
    rotate_left
    · exact ⟨_, rfl, x, dx, _, rfl, t.ins, rfl, _, rfl, x, dx, pe, pc, pf, n, bk, tn, es, cs, many, start, fr, _, rfl, t, ht, hE, .inl ⟨rfl, _, rfl, rfl, _, rfl, iteF ⟨_, rfl, k0⟩⟩⟩
    refine ⟨_, rfl, x, dx, _, rfl, t.ins, rfl, _, rfl, x, dx, pe, pc, pf, n, bk, tn, es, cs, many, start, fr, _, rfl, t, ht, hE, .inr ⟨h, j, tt, ee, rfl, hat, _, rfl, rfl, _, rfl, ?_⟩⟩
    by_cases hd : useW n tn es cs j tt ee = "done"
    · rw [dec_str' hd]
      have hj := useW_lt hd
      obtain ⟨c, hc, k⟩ := yes hd
      obtain ⟨dh, hh⟩ := hat
      exact iteT ⟨_, rfl, x, dx, _, rfl, t.ins, rfl, _, rfl, h, dh, _, rfl, hh, h, Ch, dh, _, .int (j : Nat), rfl, hh, Sh.cl, Sh.n1, rfl, x, dx, pe, pc, pf, n, bk, tn, es, cs, many, start, fr, j, c, rfl, t, ht, hm, hj, hc, k⟩
    · rw [dec_str hd]
      exact iteF ⟨_, rfl, no hd⟩
theorem scDeeds : FnScope ["pool", "table", "desk", "state", "known", "late", "row", "word", "way", "made", "found", "later"] ["pool", "table", "desk", "state", "known"] (defScope sDeeds) := ⟨rfl, rfl, rfl, by decide +kernel, rfl, by decide +kernel, by decide +kernel⟩
theorem ok_deeds {f0 C Ch CB fD fP fJ fH fU fC fE fR fN fT : Addr} {fd fdD fdP fdJ fdH fdU fdC fdE fdR fdN fdT : FuncData} (F : Fun K "_law_deeds" "_law_deeds" sDeeds f0 fd) (S : TbCls K mg C) (Sh : HCls K mg Ch)
    (FD : Fun K "_law_draw" "_law_draw" sDraw fD fdD) (bD : Binds K fdD ["pool", "many"] []) (gD : mg "_law_draw" = some (.ref fD)) (GD : FnOk P w K mg base CX0 2 fD fdD ["pool", "many"] spDraw)
    (FP : Fun K "_law_pick" "_law_pick" sPick fP fdP) (bP : Binds K fdP ["pool", "some"] []) (gP : mg "_law_pick" = some (.ref fP)) (GP : FnOk P w K mg base CX0 3 fP fdP ["pool", "some"] spPick)
    (FJ : Fun K "_law_judge" "_law_judge" sJudge fJ fdJ) (bJ : Binds K fdJ ["table", "cycle", "handle"] []) (gJ : mg "_law_judge" = some (.ref fJ)) (GJ : FnOk P w K mg base CX0 1 fJ fdJ ["table", "cycle", "handle"] spJudge)
    (MH : Mk K Ch fH) (GH : FnOk P w K mg base (L2.CX P w) 3 fH fdH ["self", "number", "turn", "entry"] (spHandle K Ch CB)) (kbh : KBn K fdH ["self", "number", "turn", "entry"] 3 ["entry"] (fun us ws => us ++ ws) (fun vs zs => vs ++ zs))
    (MU : Meth K C "use" fU) (GU : FnOk P w K mg base CX0 3 fU fdU ["self", "handle"] (spUse C Ch)) (bU : Binds K fdU ["self", "handle"] [])
    (MC : Meth K C "close" fC) (GC : FnOk P w K mg base CX0 4 fC fdC ["self", "handle"] (spClose C Ch)) (bC : Binds K fdC ["self", "handle"] [])
    (FE : Fun K "_law_end" "_law_end" sLEnd fE fdE) (bE : Binds K fdE ["table", "number"] []) (gE : mg "_law_end" = some (.ref fE)) (GE : FnOk P w K mg base CX0 1 fE fdE ["table", "number"] spLEnd)
    (MR : Meth K C "renew" fR) (GR : FnOk P w K mg base CX0 6 fR fdR ["self", "handle"] (spRenewB C Ch)) (bR : Binds K fdR ["self", "handle"] [])
    (FN : Fun K "_law_enter" "_law_enter" sEnter fN fdN) (bN : Binds K fdN ["table", "cycle", "number"] []) (gN : mg "_law_enter" = some (.ref fN)) (GN : FnOk P w K mg base CX0 1 fN fdN ["table", "cycle", "number"] spEnter)
    (FT : Fun K "_law_told_handle" "_law_told_handle" sToldH fT fdT) (bT : Binds K fdT ["found", "due"] []) (gT : mg "_law_told_handle" = some (.ref fT)) (GT : FnG P w K mg base CX0 3 fT fdT ["found", "due"] (spToldH Ch)) :
    FnG P w K mg base CX0 8 f0 fd ["pool", "table", "desk", "state", "known"] (spDeeds C) := by
  refine fnG_ok F scDeeds (fun vs H Q E h => ?_) (fun cdv A outer s0 H vs Q E hg hr h => ?_)
  · obtain ⟨x, dx, pe, pc, pf, p, q, dk, s, e, c, f, kn, n, z, m, es, cs, many, start, last, fr, ts, k, rfl, _⟩ := h
    rfl
  · obtain ⟨x, dx, pe, pc, pf, p, q, dk, s, e, c, f, kn, n, z, m, es, cs, many, start, last, fr, ts, k, rfl, l, good, hk, post⟩ := h
    have hgX : (cxOf CX0 P w K mg base ["pool", "table", "desk", "state", "known", "late", "row", "word", "way", "made", "found", "later"] "_law_deeds" (defScope sDeeds) f0 cdv A outer s0 H E).nox.A.guards = some [] := hg
    have hu0 : (cxOf CX0 P w K mg base ["pool", "table", "desk", "state", "known", "late", "row", "word", "way", "made", "found", "later"] "_law_deeds" (defScope sDeeds) f0 cdv A outer s0 H E).nox.A.units < cLine := by
      have := hr.units
      show (A.deeper _).units < cLine
      omega
    refine ⟨_, (pss_cons (ps_set (i := 5) scDeeds.nd rfl (.inl rfl) (pe_slice sl_list (pv 4) (po_some (pe_un un_neg pe_int)) po_none))
      (pss_join (ps_set (i := 6) scDeeds.nd rfl (.inl rfl) (pe_ifExp (pt_cmpR (op_eqNil hu0) (pv 5) (pe_lst pa_nil) (by rfl)) pe_non (pe_call GP (hr.mono (by decide)) rfl gP FP.kp bP .nil pass0 (pa_cons (pv 0) (pa_cons (pv 5) pa_nil)))))
      (pss_cons (ps_set (i := 6) scDeeds.nd rfl (.inl rfl) (pe_call GP (hr.mono (by decide)) rfl gP FP.kp bP .nil pass0 (pa_cons (pv 0) (pa_cons (pe_lst (pa_cons (pv 6) (pa_cons (pv 6) (pa_cons (pv 6) (pa_cons (pv 6) (pa_cons pe_non (pa_cons (pe_tup (pa_cons pe_int (pa_cons pe_int (pa_cons pe_int pa_nil)))) pa_nil))))))) pa_nil))))
      (pss_cons (ps_par (i := 7) (j := 8) (by rfl) scDeeds.nd rfl rfl (by decide) rfl rfl (pa_cons (pe_call GJ (hr.mono (by decide)) rfl gJ FJ.kp bJ .nil pass0 (pa_cons (pv 3) (pa_cons (pe_ix ix_list (pv 2) pe_int (fun _ _ => rfl)) (pa_cons (pv 6) pa_nil)))) (pa_cons (pe_call GD (hr.mono (by decide)) rfl gD FD.kp bD .nil pass0 (pa_cons (pv 0) (pa_cons pe_int pa_nil))) pa_nil)) (by rfl))
      (pss_join (ps_set (i := 9) scDeeds.nd rfl (.inl rfl) (pe_ifExp (pt_cmp (pc_isN (pv 6))) pe_non (pe_makeK MH GH (hr.mono (by decide)) rfl Sh.g kbh passF (pa_cons (pe_ix ix_tup (pv 6) pe_int (fun _ _ => rfl)) (pa_cons (pe_ix ix_tup (pv 6) pe_int (fun _ _ => rfl)) pa_nil)) (pk_cons (pe_ix ix_tup (pv 6) pe_int (fun _ _ => rfl)) pk_nil))))
      (pss_cons (ps_if (pt_cmpR op_eq (pv 8) pe_int (nomark _)) (pss_one (ps_ret (pe_lst (pa_cons (pe_cmpR op_eq (pe_meth (pv 1) S.cl MU GU (hr.mono (by decide)) bU .nil pass0 (pa_cons (pv 9) pa_nil)) (pv 7) (by rfl)) (pa_cons (pv 3) pa_nil))))) pss_nil)
      (pss_cons (ps_if (pt_cmpR op_eq (pv 8) pe_int (nomark _)) (pss_one (ps_ret (pe_lst (pa_cons (pe_cmpR op_eq (pe_meth (pv 1) S.cl MC GC (hr.mono (by decide)) bC .nil pass0 (pa_cons (pv 9) pa_nil)) (pv 7) (by rfl)) (pa_cons (pe_ifExp (pt_cmpR op_eq (pv 7) pe_str (nomark _)) (pe_call GE (hr.mono (by decide)) rfl gE FE.kp bE .nil pass0 (pa_cons (pv 3) (pa_cons (pe_ix ix_tup (pv 6) pe_int (fun _ _ => rfl)) pa_nil))) (pv 3)) pa_nil))))) pss_nil)
      (pss_cons (ps_set (i := 10) scDeeds.nd rfl (.inl rfl) (pe_meth (pv 1) S.cl MR GR (hr.mono (by decide)) bR .nil pass0 (pa_cons (pv 9) pa_nil)))
      (pss_cons (ps_if (pt_cmpR op_ne (pv 7) pe_str (nomark _)) (pss_one (ps_ret (pe_lst (pa_cons (pe_cmpR op_eq (pv 10) (pv 7) (by rfl)) (pa_cons (pv 3) pa_nil))))) pss_nil)
      (pss_cons (ps_asg (pe_call GN (hr.mono (by decide)) rfl gN FN.kp bN .nil pass0 (pa_cons (pv 3) (pa_cons (pe_ix ix_list (pv 2) pe_int (fun _ _ => rfl)) (pa_cons (pe_ix ix_tup (pv 6) pe_int (fun _ _ => rfl)) pa_nil)))) (pg_lst (by rfl) (pgs_cons (pg_name (i := 11) scDeeds.nd rfl (.inl rfl)) (pgs_cons (pg_name (i := 6) scDeeds.nd rfl (.inl rfl)) pgs_nil))))
      (pss_cons (ps_expr (pe_bm PySem.F.plainAttrs_list PySem.F.slot_list_append PySem.F.type_list_append mt_append (pv 4) (pa_cons (pv 6) pa_nil)))
      (pss_one (ps_ret (pe_lst (pa_cons (pe_callGd GT hgX (hr.mono (by decide)) rfl gT FT.kp bT (pa_cons (pv 10) (pa_cons (pv 6) pa_nil))) (pa_cons (pv 11) pa_nil)))))))))))))))), ?_⟩
    have mpos : (0 : Int) < (m : Nat) := by have := good.m1; omega
    have kfl := l.fl
    have hlen := l.t.len
    -- late
    refine ⟨_, rfl, _, rfl, _, rfl, kn, _, rfl, .inl (.inl l.ekn), fun la hla => ?_⟩
    have e4 : cutV (ts.map fun t => V.ref t.1) (some (-4)) none = (ts.map fun t => V.ref t.1).drop ((ts.map fun t => V.ref t.1).length - 4) := cut_back _ 4 (by decide)
    rw [e4]
    obtain ⟨XS, hXS⟩ : ∃ XS, XS = (ts.map fun t => V.ref t.1).drop ((ts.map fun t => V.ref t.1).length - 4) := ⟨_, rfl⟩
    rw [← hXS]
    have xl : XS.length ≤ 60 := by
      rw [hXS, List.length_drop, List.length_map]
      have := l.tl
      omega
    have xrv : ∀ v ∈ XS, RV H v := fun v hv => by
      rw [hXS] at hv
      obtain ⟨t, ht, rfl⟩ := List.mem_map.mp (List.mem_of_mem_drop hv)
      obtain ⟨j, tt, ee, r, sm⟩ := l.rows t ht
      exact .inr ⟨t.1, j, tt, ee, rfl, r, sm⟩
    clear e4 hXS
    have sla := Same.new (o := .lst XS) hla
    have fla := Sf.new (o := .lst XS) l.pool hla
    have l1 := l.same sla
    generalize upd H la (.lst XS) = H1 at sla fla l1 ⊢
    -- row
    refine ⟨fun σ' H' => ∃ v, σ' = [some (.ref p), some (.ref x), some (.ref dk), some (.ref s), some (.ref kn), some (.ref la), some v, none, none, none, none, none] ∧ But p q H1 H' ∧ PoolAt H' p q ∧ RV H' v, ?_, ?_⟩
    · refine ⟨_, rfl, (by show 0 ≤ sizeLine; decide), fun e9 h9 => ⟨la, e9, _, rfl, rfl, .inl ⟨.inl (.inl (Same.new h9 _ _ fla.e)), .inl (.inl upd_same)⟩, _, rfl, ?_⟩⟩
      have s9 := Same.new (o := .lst []) h9
      have fl9 := fla.same s9
      have P9 := l1.pool.same s9
      generalize upd H1 e9 (.lst []) = H2 at s9 fl9 P9 ⊢
      cases hx : XS with
      | nil => exact iteT ⟨_, rfl, But.of_same s9, P9, .inl rfl⟩
      | cons a r =>
        rw [← hx]
        have ne : XS ≠ [] := by rw [hx]; simp
        have ie : XS.isEmpty = false := by rw [hx]; rfl
        rw [ie]
        refine iteF ⟨_, rfl, _, rfl, p, q, la, XS, rfl, P9, fl9, ne, by omega, fun H3 jj v b3 P3 ev => ?_⟩
        exact ⟨_, rfl, (But.of_same s9).trans b3, P3, ((xrv v (List.mem_of_getElem? ev)).same (sla.trans s9)).but b3 P9⟩
    rintro _ H2 ⟨v, rfl, b2, P2, hv⟩
    have l2 := l1.but b2 P2
    have m2 : Fm [x, pe, pc, pf, p, q, kn] H H2 := (Fm.of sla).trans (Fm.but b2)
    clear b2 l1 fla xrv xl sla
    refine ⟨_, rfl, _, rfl, _, rfl, _, rfl, _, rfl, (by show 3 ≤ sizeLine; decide), fun t6 h6 => ?_⟩
    have s6 := Same.new (o := .tup [.int 60, .int 0, .int 0]) h6
    have r6 : Row3 (upd H2 t6 (.tup [.int 60, .int 0, .int 0])) t6 60 0 0 := upd_same
    have l3 := l2.same s6
    have hv3 := hv.same s6
    have m3 := m2.trans (Fm.of s6)
    generalize upd H2 t6 (.tup [.int 60, .int 0, .int 0]) = H3 at s6 r6 l3 hv3 m3 ⊢
    refine ⟨(by show 6 ≤ sizeLine; decide), fun L hL => ?_⟩
    have sL := Same.new (o := .lst [v, v, v, v, .non, .ref t6]) hL
    have fL := Sf.new (o := .lst [v, v, v, v, .non, .ref t6]) l3.pool hL
    have l4 := l3.same sL
    have hv4 := hv3.same sL
    have r64 : Row3 (upd H3 L (.lst [v, v, v, v, .non, .ref t6])) t6 60 0 0 := sL _ _ r6
    have m4 := m3.trans (Fm.of sL)
    generalize upd H3 L (.lst [v, v, v, v, .non, .ref t6]) = H4 at sL fL l4 hv4 r64 m4 ⊢
    refine ⟨p, q, L, _, rfl, l4.pool, fL, by simp, by simp, fun H5 jj v' b5 P5 ev => ?_⟩
    have l5 := l4.but b5 P5
    have m5 := m4.trans (Fm.but b5)
    have hv5 : RV H5 v' := by
      have sm60 : Sm 60 0 0 := ⟨by decide, by decide, by decide⟩
      have : RV H4 v' := by
        match jj, ev with
        | 0, e => cases e; exact hv4
        | 1, e => cases e; exact hv4
        | 2, e => cases e; exact hv4
        | 3, e => cases e; exact hv4
        | 4, e => cases e; exact .inl rfl
        | 5, e => cases e; exact .inr ⟨t6, 60, 0, 0, rfl, r64, sm60⟩
      exact this.but b5 l4.pool
    clear hv4 r64 m4 l4 fL sL hv3 m3 l3 r6 s6 hv m2 l2 b5 ev P5
    have sqd : SqL K H5 dk [.int (n : Nat), .str z, .int (m : Nat)] := .inl (.inl l5.edk)
    refine ⟨_, rfl, _, rfl, dk, _, 2, _, rfl, rfl, sqd, rfl, _, rfl, s, e, c, f, es, cs, last, fr, many, m, v', rfl, l5.st, good.m1, l5.ent, by rw [l5.t.lec, l5.t.len], ?_⟩
    rcases hv5 with rfl | ⟨t, j, tt, ee, rfl, row, sm⟩
    · refine .inl ⟨rfl, _, rfl, p, q, 3, rfl, l5.pool, (by decide), (by decide), fun H6 way b6 P6 w0 w3 => ⟨_, _, rfl, ?_⟩⟩
      have l6 := l5.but b6 P6
      have m6 := m5.trans (Fm.but b6)
      clear l5 m5 sqd
      have fin : ∀ (b : Bool) (Hx : Hp) (R : Addr), Same H6 Hx → Hx R = none → b = true → Q (.ref R) (upd Hx R (.lst [.bl b, .ref s])) := fun b Hx R sx hR hb => by
        rw [hb]
        exact post _ R pf s e c f _ _ _ _ _ _ _ ((l6.same (sx.push hR)).up) (m6.trans (Fm.of (sx.push hR))) (.inl rfl) upd_same
      refine ⟨fun σ' H' => σ' = [some (.ref p), some (.ref x), some (.ref dk), some (.ref s), some (.ref kn), some (.ref la), some .non, some (.str "refused"), some (.int way), some .non, none, none] ∧ H' = H6, ⟨_, rfl, _, rfl, iteT ⟨rfl, rfl⟩⟩, ?_⟩
      rintro _ H7 ⟨rfl, e7⟩
      rw [e7]
      clear e7 H7
      refine ⟨_, rfl, rfl, _, rfl, ?_⟩
      by_cases w00 : way = 0
      · rw [decide_eq_true (show V.int way = V.int 0 by rw [w00])]
        exact iteT ⟨_, rfl, x, dx, _, rfl, l6.t.ins, rfl, _, rfl, x, dx, pe, pc, pf, n, z, _, es, cs, many, start, fr, _, rfl, l6.t, mpos, l6.ent, .inl ⟨rfl, _, rfl, rfl, _, rfl, (by show 2 ≤ sizeLine; decide), fun R hR => fin _ _ R (Same.refl _) hR (decide_eq_true rfl)⟩⟩
      · rw [decide_eq_false (show ¬ V.int way = V.int 0 from fun w => w00 (V.int.inj w))]
        refine iteF ⟨_, rfl, rfl, _, rfl, ?_⟩
        by_cases w11 : way = 1
        · rw [decide_eq_true (show V.int way = V.int 1 by rw [w11])]
          exact iteT ⟨_, rfl, x, dx, _, rfl, l6.t.ins, rfl, _, rfl, x, dx, pe, pc, pf, n, z, _, es, cs, many, start, fr, _, rfl, l6.t, mpos, l6.ent, by omega, .inl ⟨rfl, _, rfl, rfl, _, rfl, rfl, _, rfl, iteF ⟨_, rfl, (by show 2 ≤ sizeLine; decide), fun R hR => fin _ _ R (Same.refl _) hR (decide_eq_true rfl)⟩⟩⟩
        · rw [decide_eq_false (show ¬ V.int way = V.int 1 from fun w => w11 (V.int.inj w))]
          exact iteF ⟨_, rfl, x, dx, _, rfl, l6.t.ins, rfl, _, rfl, .inr ⟨x, dx, pe, pc, pf, n, z, _, es, cs, many, start, fr, rfl, l6.t, mpos, l6.ent, _, rfl, rfl, _, rfl, iteT ⟨_, rfl, _, rfl, rfl, _, rfl, (by show 2 ≤ sizeLine; decide), fun R hR => fin _ _ R (Same.refl _) hR (decide_eq_true rfl)⟩⟩⟩
    · refine .inr ⟨t, j, tt, ee, rfl, row, _, rfl, p, q, 3, rfl, l5.pool, (by decide), (by decide), fun H6 way b6 P6 w0 w3 => ⟨_, _, rfl, ?_⟩⟩
      rw [l5.t.len]
      have l6 := l5.but b6 P6
      have m6 := m5.trans (Fm.but b6)
      have row6 := row.but b6 l5.pool
      clear l5 m5 sqd row
      have tq : ∀ {H'}, Same H6 H' → SqT K H' t [.int (j : Nat), .int tt, .int ee] := fun g => .inl (.inl (g _ _ row6))
      -- made
      refine ⟨fun σ' H' => ∃ h, σ' = [some (.ref p), some (.ref x), some (.ref dk), some (.ref s), some (.ref kn), some (.ref la), some (.ref t), some (.str (useW n (m : Nat) es cs j tt ee)), some (.int way), some (.ref h), none, none] ∧ Same H6 H' ∧ HAt H' Ch h (j : Nat) tt ee, ?_, ?_⟩
      · exact ⟨_, rfl, _, rfl, iteF ⟨_, rfl, t, _, 0, _, rfl, rfl, tq (Same.refl _), rfl, _, rfl, t, _, 1, _, rfl, rfl, tq (Same.refl _), rfl, _, rfl, t, _, 2, _, rfl, rfl, tq (Same.refl _), rfl, rfl, rfl, mk_ok (Int.natCast_nonneg _) sm.b.1 sm.c.1 fun H7 h s7 hh ha => ⟨_, rfl, s7, ha⟩⟩⟩
      rintro _ H7 ⟨h, rfl, s7, hat⟩
      have l7 := l6.same s7
      have m7 := m6.trans (Fm.of s7)
      have row7 := row6.same s7
      have tq7 : ∀ {H'}, Same H7 H' → SqT K H' t [.int (j : Nat), .int tt, .int ee] := fun g => .inl (.inl (g _ _ row7))
      clear l6 m6 row6 tq s7 P6 b6
      have fin : ∀ (b : Bool) (Hx : Hp) (R : Addr), Same H7 Hx → Hx R = none → b = true → Q (.ref R) (upd Hx R (.lst [.bl b, .ref s])) := fun b Hx R sx hR hb => by
        rw [hb]
        exact post _ R pf s e c f _ _ _ _ _ _ _ ((l7.same (sx.push hR)).up) (m7.trans (Fm.of (sx.push hR))) (.inl rfl) upd_same
      have aw := hat.aw l7.t
      have dn : useW n (m : Nat) es cs j tt ee = "done" → es[j]? = some (.int ee) := fun g => by
        have hj := useW_lt g
        have hl : j < es.length := by rw [hlen]; exact hj
        have hu : es[j]? = some es[j] := List.getElem?_eq_getElem hl
        have hu2 := l7.ent es[j] (List.getElem_mem hl)
        unfold useW at g
        rw [if_neg (by omega), hu] at g
        rcases hu2 with h0 | ⟨e', h0⟩
        · rw [h0] at g
          have g1 : Str.ofString "refused" = Str.ofString "done" := g
          exact absurd g1 (by decide)
        · rw [h0] at g
          have g2 : (if (cs.getD j 0 - 1) % ((m : Nat) : Int) = tt then (if e' = ee then Str.ofString "done" else Str.ofString "fault") else Str.ofString "refused") = Str.ofString "done" := g
          by_cases q1 : (cs.getD j 0 - 1) % ((m : Nat) : Int) = tt
          · rw [if_pos q1] at g2
            by_cases q2 : e' = ee
            · rw [hu, h0, q2]
            · rw [if_neg q2] at g2
              exact absurd g2 (by decide)
          · rw [if_neg q1] at g2
            exact absurd g2 (by decide)
      have awt : Aw x pe pc pf t := by
        have lt := l7.t
        unfold Row3 at row7
        exact ⟨fun g => (by rw [g, lt.ins] at row7; cases row7), fun g => (by rw [g, lt.ens] at row7; cases row7), fun g => (by rw [g, lt.cnt] at row7; cases row7), fun g => (by rw [g, lt.fre] at row7; cases row7)⟩
      refine ⟨_, rfl, rfl, _, rfl, ?_⟩
      by_cases w00 : way = 0
      · rw [decide_eq_true (show V.int way = V.int 0 by rw [w00])]
        exact iteT ⟨_, rfl, x, dx, _, rfl, l7.t.ins, rfl, _, rfl, x, dx, pe, pc, pf, n, z, _, es, cs, many, start, fr, _, rfl, l7.t, mpos, l7.ent, .inr ⟨h, j, tt, ee, rfl, hat, _, rfl, rfl, _, rfl, (by show 2 ≤ sizeLine; decide), fun R hR => fin _ _ R (Same.refl _) hR (decide_eq_true rfl)⟩⟩
      · rw [decide_eq_false (show ¬ V.int way = V.int 0 from fun w => w00 (V.int.inj w))]
        refine iteF ⟨_, rfl, rfl, _, rfl, ?_⟩
        by_cases w11 : way = 1
        · rw [decide_eq_true (show V.int way = V.int 1 by rw [w11])]
          refine iteT ⟨_, rfl, x, dx, _, rfl, l7.t.ins, rfl, _, rfl, x, dx, pe, pc, pf, n, z, _, es, cs, many, start, fr, _, rfl, l7.t, mpos, l7.ent, by omega, .inr ⟨h, j, tt, ee, rfl, hat, aw.1, aw.2.1, aw.2.2.2, fun hd => ?_, fun hd H8 o8 t8 => ?_⟩⟩
          · refine ⟨_, rfl, rfl, _, rfl, rfl, _, rfl, ?_⟩
            rw [dec_str hd]
            exact iteF ⟨_, rfl, (by show 2 ≤ sizeLine; decide), fun R hR => fin _ _ R (Same.refl _) hR (decide_eq_true rfl)⟩
          · have hj := useW_lt hd
            have hjl : j < es.length := by rw [hlen]; exact hj
            refine ⟨_, rfl, rfl, _, rfl, rfl, _, rfl, ?_⟩
            rw [dec_str' hd]
            have row8 : H8 t = _ := o8.at_ awt row7
            refine iteT ⟨_, rfl, _, rfl, t, _, 0, _, rfl, rfl, .inl (.inl row8), rfl, s, e, c, f, es, cs, last, fr, many, j, rfl, l7.st.off o8 l7.a1 l7.ae l7.ac l7.af, hjl, by omega, fun H9 s' e' f' s9 st9 hs he hf => ⟨(by show 2 ≤ sizeLine; decide), fun R hR => ?_⟩⟩
            have l9 := l7.step o8 (.inl rfl) t8 s9 st9 hs he (.inl rfl) hf l7.rel (ent_set l7.ent (.inl rfl)) (l7.fo.close hjl) l7.m0 (by have := l7.my; omega) (by rw [List.length_append]; have := l7.fl; show fr.length + 1 ≤ k + 1; omega)
            have sR := Same.new (o := .lst [.bl (decide (V.str "done" = V.str (useW n (m : Nat) es cs j tt ee))), .ref s']) hR
            exact post _ R pf s' e' c f' _ _ _ _ _ _ _ (l9.same sR) (((m7.trans (Fm.off o8)).trans (Fm.of s9)).trans (Fm.of sR)) (.inl rfl) (upd_same.trans (by rw [dec_str' hd.symm]))
        · rw [decide_eq_false (show ¬ V.int way = V.int 1 from fun w => w11 (V.int.inj w))]
          refine iteF ⟨_, rfl, x, dx, _, rfl, l7.t.ins, rfl, _, rfl, .inl ⟨x, dx, pe, pc, pf, n, z, _, es, cs, many, start, fr, h, j, tt, ee, rfl, l7.t, mpos, l7.ent, l7.m0, hat, fun hd => ?_, fun hd => ?_⟩⟩
          · refine ⟨_, rfl, rfl, _, rfl, ?_⟩
            rw [dec_str hd]
            exact iteT ⟨_, rfl, _, rfl, rfl, _, rfl, (by show 2 ≤ sizeLine; decide), fun R hR => fin _ _ R (Same.refl _) hR (decide_eq_true rfl)⟩
          · have ej := dn hd
            have hj := useW_lt hd
            have hjl : j < es.length := by rw [hlen]; exact hj
            have hcl : j < cs.length := by rw [l7.t.lec]; exact hj
            obtain ⟨cc, hc⟩ : ∃ cc, cs[j]? = some cc := ⟨_, List.getElem?_eq_getElem hcl⟩
            refine ⟨cc, hc, fun H8 h' o8 t8 nh ha => ?_⟩
            refine ⟨_, rfl, rfl, _, rfl, ?_⟩
            rw [dec_str' hd]
            have row8 : H8 t = _ := o8.at_ awt row7
            refine iteF ⟨_, rfl, _, rfl, dk, _, 2, _, rfl, rfl, .inl (.inl (o8.at_ l7.ad l7.edk)), rfl, _, rfl, t, _, 0, _, rfl, rfl, .inl (.inl row8), rfl, s, e, c, f, es, cs, last, fr, many, m, j, cc, rfl, l7.st.off o8 l7.a1 l7.ae l7.ac l7.af, good.m1, hjl, hc, by omega, fun H9 r9 s' t' e' c' f' s9 e9 st9 et hs ht he hc9 hf9 => ?_⟩
            have hfe : (fr.filter fun y => !decide (y = (j : Int))) = fr := by
              rw [List.filter_eq_self]
              intro y hy
              obtain ⟨i2, rfl, q2⟩ := l7.fo y hy
              have : ¬ (i2 : Int) = (j : Int) := fun g => by
                have : i2 = j := by omega
                subst this
                rw [ej] at q2
                cases q2
              rw [decide_eq_false this]
              rfl
            rw [hfe] at st9
            refine ⟨r9, _, rfl, .inl (.inl e9), rfl, _, _, rfl, _, _, rfl, rfl, ?_⟩
            have l9 := l7.step o8 (.inl rfl) t8 s9 st9 hs he (.inr hc9) hf9 l7.rel (ent_set l7.ent (.inr ⟨_, rfl⟩)) (l7.fo.renew _ ej) (by have := l7.m0; omega) (by have := l7.my; omega) (Nat.le_succ_of_le l7.fl)
            have ha9 := ha.same s9
            have sm9 : Sm j (cc % (m : Nat)) many := ⟨by have := l7.t.lim; omega, ⟨Int.emod_nonneg _ (by have := good.m1; omega), by have := Int.emod_lt_of_pos cc mpos; have := good.m4; omega⟩, ⟨l7.m0, by have := l7.my; omega⟩⟩
            have la := l9.app et sm9 (Nat.succ_le_succ l7.tl)
            have hata : HAt (upd H9 kn (.lst ((ts.map fun t => V.ref t.1) ++ [.ref t']))) Ch h' (j : Nat) (cc % (m : Nat)) many := ha9.put l9.ekn
            have eta : Row3 (upd H9 kn (.lst ((ts.map fun t => V.ref t.1) ++ [.ref t']))) t' j (cc % (m : Nat)) many := (upd_ne (fun w => by rw [w, l9.ekn] at et; cases et)).trans et
            have fma : Fm [x, pe, pc, pf, p, q, kn] H (upd H9 kn (.lst ((ts.map fun t => V.ref t.1) ++ [.ref t']))) := ((m7.trans (Fm.off o8)).trans (Fm.of s9)).trans Fm.put
            refine ⟨_, rfl, .inl ⟨rfl, _, .inl (.inl l9.ekn)⟩, _, rfl, kn, _, _, rfl, rfl, l9.ekn, ?_, ?_⟩
            · rw [List.length_map]
              have := l7.tl
              exact Nat.lt_of_le_of_lt (show ts.length ≤ 60 by omega) (by decide)
            · generalize upd H9 kn (.lst ((ts.map fun t => V.ref t.1) ++ [.ref t'])) = Ha at la hata eta fma ⊢
              refine ⟨_, rfl, _, rfl, h', t', j, _, _, rfl, hata, eta, sm9, fun Hb sb => ⟨_, rfl, (by show 2 ≤ sizeLine; decide), fun R hR => ?_⟩⟩
              have sc := sb.push (o := .lst [.bl true, .ref s']) hR
              exact post _ R pf s' e' c' f' _ _ _ _ _ _ _ (la.same sc) (fma.trans (Fm.of sc)) (.inl rfl) upd_same
end
abbrev sLaw : Stmt := top 44
def lamName : Str := "law" ++ ".<locals>." ++ "<lambda>"
def spLaw (K : PySem.W.Frag) (PT0 : Addr) : Sp := fun vs H Q _ => ∃ (a : Addr) (ns : List Int), vs = [.ref a] ∧ SqL K H a (ns.map V.int) ∧ ns.length ≤ 63 ∧ H PT0 = some (.tbl #[]) ∧ ∀ H', Q (.bl true) H'
abbrev tJoin (t u : TS) : TS := fun D σ H => ∃ J : L2.St → Hp → Prop, t { D with nx := J } σ H ∧ ∀ σ' H', J σ' H' → u D σ' H'
theorem pss_joinT {X : Cx} {st : Stmt} {rest : List Stmt} {t u : TS} (h1 : PS X st t) (h2 : PSs X rest u) : PSs X (st :: rest) (tJoin t u) := pss_join h1 h2
/-- a table of before, with the law's own one -/
structure Old6 (H : Hp) (C y dy pe2 pc2 pf2 s2 e2 c2 f2 : Addr) (n : Nat) (z : Str) (m : Nat) (es2 : List V) (cs2 : List Int) (many2 start2 last2 : Int) (fr2 : List Int) (M : List Addr) : Prop where
  t : TAt H C y dy pe2 pc2 pf2 n z (m : Nat) es2 cs2 many2 start2 fr2
  st : StAt H s2 e2 c2 f2 es2 cs2 last2 fr2 many2
  ag : Agree z start2 last2 fr2 es2
  fl : fr2.length ≤ 100
  far : ∀ b ∈ [y, pe2, pc2, pf2, s2, e2, c2, f2], b ∉ M
theorem Old6.fm {H H' : Hp} {C y dy pe2 pc2 pf2 s2 e2 c2 f2 : Addr} {n : Nat} {z : Str} {m : Nat} {es2 : List V} {cs2 : List Int} {many2 start2 last2 : Int} {fr2 : List Int} {M M' : List Addr} (o : Old6 H C y dy pe2 pc2 pf2 s2 e2 c2 f2 n z m es2 cs2 many2 start2 last2 fr2 M) (g : Fm M H H')
    (hM : ∀ b ∈ M', b ∈ M ∨ H b = none) : Old6 H' C y dy pe2 pc2 pf2 s2 e2 c2 f2 n z m es2 cs2 many2 start2 last2 fr2 M' := by
  have f := o.far
  have t := o.t
  have st := o.st
  refine ⟨⟨g _ _ (f _ (by simp)) t.ins, g _ _ (f _ (by simp)) t.ens, g _ _ (f _ (by simp)) t.cnt, g _ _ (f _ (by simp)) t.fre, t.len, t.lec, t.lim, t.q1, t.q2, t.q3⟩, ⟨g _ _ (f _ (by simp)) st.1, g _ _ (f _ (by simp)) st.2.1, g _ _ (f _ (by simp)) st.2.2.1, g _ _ (f _ (by simp)) st.2.2.2⟩, o.ag, o.fl, fun b hb hm => ?_⟩
  rcases hM b hm with h | h
  · exact f b hb h
  · simp only [List.mem_cons, List.not_mem_nil, or_false] at hb
    rcases hb with rfl | rfl | rfl | rfl | rfl | rfl | rfl | rfl
    · rw [t.ins] at h; cases h
    · rw [t.ens] at h; cases h
    · rw [t.cnt] at h; cases h
    · rw [t.fre] at h; cases h
    · rw [st.1] at h; cases h
    · rw [st.2.1] at h; cases h
    · rw [st.2.2.1] at h; cases h
    · rw [st.2.2.2] at h; cases h
theorem book_cases {z : Str} (h : isBook (.str z) = true) : z = "least" ∨ z = "any" ∨ z = "next" ∨ z = "last" := by
  have h2 : (((Str.ofString "least") == z) || (((Str.ofString "any") == z) || (((Str.ofString "next") == z) || (((Str.ofString "last") == z) || false)))) = true := h
  simp only [Bool.or_eq_true, beq_iff_eq, Bool.or_false] at h2
  rcases h2 with h | h | h | h
  · exact .inl h.symm
  · exact .inr (.inl h.symm)
  · exact .inr (.inr (.inl h.symm))
  · exact .inr (.inr (.inr h.symm))
/-- the loop's own state: the world, a table of before, the code's tables -/
def Inv6 (C x dx pe pc p q dk kn : Addr) (n : Nat) (z : Str) (m : Nat) (T : List (Addr × Str)) (k : Nat) (H : Hp) (s y s2 : Addr) : Prop := ∃ (pf e c f dy pe2 pc2 pf2 e2 c2 f2 : Addr) (es : List V) (cs : List Int) (many start last : Int) (fr : List Int) (ts : List K3) (es2 : List V) (cs2 : List Int) (many2 start2 last2 : Int) (fr2 : List Int),
  Lw6 H C x dx pe pc pf p q dk s e c f kn n z m es cs many start last fr ts k ∧ Old6 H C y dy pe2 pc2 pf2 s2 e2 c2 f2 n z m es2 cs2 many2 start2 last2 fr2 [x, pe, pc, pf, p, q, kn] ∧ LamX.Tabs T H
theorem TAt.ext {H H' : Hp} {C x dx pe pc pf : Addr} {n : Nat} {bk : Str} {tn : Int} {es : List V} {cs : List Int} {many start : Int} {fr : List Int} (h : TAt H C x dx pe pc pf n bk tn es cs many start fr) (s : LamX.ExtN H H') : TAt H' C x dx pe pc pf n bk tn es cs many start fr :=
  ⟨s _ _ h.ins (fun _ e => by cases e), s _ _ h.ens (fun _ e => by cases e), s _ _ h.cnt (fun _ e => by cases e), s _ _ h.fre (fun _ e => by cases e), h.len, h.lec, h.lim, h.q1, h.q2, h.q3⟩
theorem StAt.ext {H H' : Hp} {s e c f : Addr} {es : List V} {cs : List Int} {last : Int} {fr : List Int} {many : Int} (h : StAt H s e c f es cs last fr many) (g : LamX.ExtN H H') : StAt H' s e c f es cs last fr many :=
  ⟨g _ _ h.1 (fun _ e => by cases e), g _ _ h.2.1 (fun _ e => by cases e), g _ _ h.2.2.1 (fun _ e => by cases e), g _ _ h.2.2.2 (fun _ e => by cases e)⟩
section
variable {H H' : Hp} {C x dx pe pc pf p q dk s e c f kn y s2 : Addr} {n : Nat} {z : Str} {m : Nat} {es : List V} {cs : List Int} {many start last : Int} {fr : List Int} {ts : List K3} {k : Nat} {T : List (Addr × Str)}
theorem Lw6.ext (l : Lw6 H C x dx pe pc pf p q dk s e c f kn n z m es cs many start last fr ts k) (g : LamX.ExtN H H') : Lw6 H' C x dx pe pc pf p q dk s e c f kn n z m es cs many start last fr ts k :=
  ⟨l.t.ext g, l.st.ext g, l.rel, l.ent, l.fo, l.m0, l.my, l.fl, l.tl, l.pool.ext g, g _ _ l.edk (fun _ e => by cases e), g _ _ l.ekn (fun _ e => by cases e), fun t ht => (by obtain ⟨j, tt, ee, r, sm⟩ := l.rows t ht; exact ⟨j, tt, ee, g _ _ r (fun _ e => by cases e), sm⟩), l.ap, l.aq, l.ad, l.a1, l.ae, l.ac, l.af, l.ak, l.pd, l.p1, l.p2, l.p3, l.p4, l.p5⟩
theorem Lw6.notM {b : Addr} (l : Lw6 H C x dx pe pc pf p q dk s e c f kn n z m es cs many start last fr ts k) (hb : H b = none) : b ∉ [x, pe, pc, pf, p, q, kn] := fun w => by
  have t := l.t
  obtain ⟨ns, i1, y, z1, w1, h1, h2, _⟩ := l.pool
  simp only [List.mem_cons, List.not_mem_nil, or_false] at w
  rcases w with rfl | rfl | rfl | rfl | rfl | rfl | rfl
  · rw [t.ins] at hb; cases hb
  · rw [t.ens] at hb; cases hb
  · rw [t.cnt] at hb; cases hb
  · rw [t.fre] at hb; cases hb
  · rw [h1] at hb; cases hb
  · rw [h2] at hb; cases hb
  · rw [l.ekn] at hb; cases hb
theorem tabs_fm (l : Lw6 H C x dx pe pc pf p q dk s e c f kn n z m es cs many start last fr ts k) (t : LamX.Tabs T H) (b : Fm [x, pe, pc, pf, p, q, kn] H H') : LamX.Tabs T H' := by
  have lt := l.t
  obtain ⟨ns, i1, y, z1, w1, h1, h2, _⟩ := l.pool
  have far : ∀ a o, H a = some o → (∀ xs, o ≠ .lst xs) → (∀ C d fs, o ≠ .ins C d fs) → H' a = some o := fun a o e1 no ni => b a o (fun w => by
    simp only [List.mem_cons, List.not_mem_nil, or_false] at w
    rcases w with rfl | rfl | rfl | rfl | rfl | rfl | rfl
    · rw [lt.ins] at e1; exact ni _ _ _ (Option.some.inj e1).symm
    · rw [lt.ens] at e1; exact no _ (Option.some.inj e1).symm
    · rw [lt.cnt] at e1; exact no _ (Option.some.inj e1).symm
    · rw [lt.fre] at e1; exact no _ (Option.some.inj e1).symm
    · rw [h1] at e1; exact no _ (Option.some.inj e1).symm
    · rw [h2] at e1; exact no _ (Option.some.inj e1).symm
    · rw [l.ekn] at e1; exact no _ (Option.some.inj e1).symm) e1
  intro r hr
  obtain ⟨ps, e1, e2, e3⟩ := t r hr
  refine ⟨ps, far _ _ e1 (fun _ e => by cases e) (fun _ _ _ e => by cases e), e2, fun pos cv hc => ?_⟩
  obtain ⟨a, e4, e5⟩ := e3 pos cv hc
  exact ⟨a, e4, far _ _ e5 (fun _ e => by unfold LamX.CodeO at e; cases e) (fun _ _ _ e => by unfold LamX.CodeO at e; cases e)⟩
theorem Old6.same {H H' : Hp} {C y dy pe2 pc2 pf2 s2 e2 c2 f2 : Addr} {n : Nat} {z : Str} {m : Nat} {es2 : List V} {cs2 : List Int} {many2 start2 last2 : Int} {fr2 : List Int} {M : List Addr} (o : Old6 H C y dy pe2 pc2 pf2 s2 e2 c2 f2 n z m es2 cs2 many2 start2 last2 fr2 M) (g : Same H H') : Old6 H' C y dy pe2 pc2 pf2 s2 e2 c2 f2 n z m es2 cs2 many2 start2 last2 fr2 M :=
  o.fm (Fm.of g) fun _ hb => .inl hb
theorem Old6.ext {H H' : Hp} {C y dy pe2 pc2 pf2 s2 e2 c2 f2 : Addr} {n : Nat} {z : Str} {m : Nat} {es2 : List V} {cs2 : List Int} {many2 start2 last2 : Int} {fr2 : List Int} {M : List Addr} (o : Old6 H C y dy pe2 pc2 pf2 s2 e2 c2 f2 n z m es2 cs2 many2 start2 last2 fr2 M) (g : LamX.ExtN H H') : Old6 H' C y dy pe2 pc2 pf2 s2 e2 c2 f2 n z m es2 cs2 many2 start2 last2 fr2 M :=
  ⟨o.t.ext g, o.st.ext g, o.ag, o.fl, o.far⟩
theorem Inv6.same (h : Inv6 C x dx pe pc p q dk kn n z m T k H s y s2) (g : Same H H') : Inv6 C x dx pe pc p q dk kn n z m T k H' s y s2 := by
  obtain ⟨pf, e, c, f, dy, pe2, pc2, pf2, e2, c2, f2, es, cs, many, start, last, fr, ts, es2, cs2, many2, start2, last2, fr2, l, o, t⟩ := h
  exact ⟨pf, e, c, f, dy, pe2, pc2, pf2, e2, c2, f2, es, cs, many, start, last, fr, ts, es2, cs2, many2, start2, last2, fr2, l.same g, o.same g, t.ext g⟩
theorem Inv6.ext (h : Inv6 C x dx pe pc p q dk kn n z m T k H s y s2) (g : LamX.ExtN H H') (t' : LamX.Tabs T H') : Inv6 C x dx pe pc p q dk kn n z m T k H' s y s2 := by
  obtain ⟨pf, e, c, f, dy, pe2, pc2, pf2, e2, c2, f2, es, cs, many, start, last, fr, ts, es2, cs2, many2, start2, last2, fr2, l, o, t⟩ := h
  exact ⟨pf, e, c, f, dy, pe2, pc2, pf2, e2, c2, f2, es, cs, many, start, last, fr, ts, es2, cs2, many2, start2, last2, fr2, l.ext g, o.ext g, t'⟩
theorem Inv6.but (h : Inv6 C x dx pe pc p q dk kn n z m T k H s y s2) (b : But p q H H') (P : PoolAt H' p q) : Inv6 C x dx pe pc p q dk kn n z m T k H' s y s2 := by
  obtain ⟨pf, e, c, f, dy, pe2, pc2, pf2, e2, c2, f2, es, cs, many, start, last, fr, ts, es2, cs2, many2, start2, last2, fr2, l, o, t⟩ := h
  exact ⟨pf, e, c, f, dy, pe2, pc2, pf2, e2, c2, f2, es, cs, many, start, last, fr, ts, es2, cs2, many2, start2, last2, fr2, l.but b P, o.fm (Fm.but b) fun _ hb => .inl hb, tabs_but l.pool t b⟩
theorem Inv6.pool (h : Inv6 C x dx pe pc p q dk kn n z m T k H s y s2) : PoolAt H p q := by
  obtain ⟨pf, e, c, f, dy, pe2, pc2, pf2, e2, c2, f2, es, cs, many, start, last, fr, ts, es2, cs2, many2, start2, last2, fr2, l, o, t⟩ := h
  exact l.pool
theorem Inv6.tabs (h : Inv6 C x dx pe pc p q dk kn n z m T k H s y s2) : LamX.Tabs T H := by
  obtain ⟨pf, e, c, f, dy, pe2, pc2, pf2, e2, c2, f2, es, cs, many, start, last, fr, ts, es2, cs2, many2, start2, last2, fr2, l, o, t⟩ := h
  exact t
end
/-- an item that no book gives -/
def ItG (K : PySem.W.Frag) (H : Hp) (v : V) (d : PyData) (n : Nat) : Prop := (∃ k, Kd H v k) ∧ v ≠ .non ∧ (isCount v = false ∨ ∃ i, v = .int i ∧ (n : Nat) ≤ i) ∧ Rp K H v d ∧ okD d = true
theorem itG {K : PySem.W.Frag} {t : Addr} {n : Nat} (h60 : n ≤ 60) {i : Nat} {v : V} (hv : ([.int (-1), .bl true, .str "0", .ref t, .int (n : Nat), .int (10 ^ 30)] : List V)[i]? = some v) : ∃ d, ∀ H, H t = some (.tup [.int 0]) → ItG K H v d n := by
  have a : ∀ n, n < 62 → okD (.int ((n : Nat) : Int)) = true := by decide +kernel
  match i, hv with
  | 0, e => cases e; exact ⟨.int (-1), fun H _ => ⟨⟨_, .int _⟩, (fun q => by cases q), .inl rfl, .inl (.int _), by decide +kernel⟩⟩
  | 1, e => cases e; exact ⟨.bool true, fun H _ => ⟨⟨_, .bl _⟩, (fun q => by cases q), .inl rfl, .inl (.bl _), by decide +kernel⟩⟩
  | 2, e => cases e; exact ⟨.str "0", fun H _ => ⟨⟨_, .str _ (by decide)⟩, (fun q => by cases q), .inl rfl, .inl (.str _), by decide +kernel⟩⟩
  | 3, e => cases e; exact ⟨.tuple [.int 0], fun H h => ⟨⟨_, .tup h⟩, (fun q => by cases q), .inl rfl, .inl (.tup (.inl (.inl h)) (.cons (.int _) .nil)), by decide +kernel⟩⟩
  | 4, e => cases e; exact ⟨.int (n : Nat), fun H _ => ⟨⟨_, .int _⟩, (fun q => by cases q), .inr ⟨_, rfl, Int.le_refl _⟩, .inl (.int _), a n (by omega)⟩⟩
  | 5, e => cases e; exact ⟨.int (10 ^ 30), fun H _ => ⟨⟨_, .int _⟩, (fun q => by cases q), .inr ⟨_, rfl, by omega⟩, .inl (.int _), by decide +kernel⟩⟩
section
variable {P : Program} {w : World} {K : PySem.W.Frag} {mg : Str → Option Value} {base : Heap}
theorem scLaw : FnScope ["script", "pool", "desk", "table", "state", "known", "old", "then", "turn", "call", "good", "odd"] ["script"] (defScope sLaw) := ⟨rfl, rfl, rfl, by decide +kernel, rfl, by decide +kernel, by decide +kernel⟩
set_option maxHeartbeats 16000000 in
theorem ok_law {f fB fD fDt fN fG fD2 fF fW g C Ch CB fT fGi fCo cC PT0 cH pSi pBo pTu gSi gBo gTu : Addr} {cs : List Addr} {fdB fdD fdDt fdN fdGv fdDe fdF fdW fdT fdGi fdCo fdSi fdBo fdTu : FuncData}
    {oc kV doc pm ct : Value} {od an : Option Addr} {osl : Array (Option Value)} {oc' kV' doc' pm' cdv' ct' : Value} {od' an' : Option Addr} {osl' : Array (Option Value)}
    (lk : K.lookup f = some ⟨oc, od, .func (PySem.W.fnOf "law" "law" (defArgs sLaw) (defBody sLaw) (defScope sLaw) .none kV doc pm an (.ref cC) ct), osl⟩) (hcd : PySem.W.codeIn K (.ref cC) "law" = true)
    (T : HTxt K mg cH cs) (PT : PTxt mg) (S : TbCls K mg C) (TB : LamX.TabB base mg cC PT0)
    (FB : Fun K "_law_begin" "_law_begin" sBegin fB fdB) (bB : Binds K fdB ["script"] []) (gB : mg "_law_begin" = some (.ref fB)) (GB : FnOk P w K mg base CX0 1 fB fdB ["script"] (spBegin K))
    (FD : Fun K "_law_draw" "_law_draw" sDraw fD fdD) (bD : Binds K fdD ["pool", "many"] []) (gD : mg "_law_draw" = some (.ref fD)) (GD : FnOk P w K mg base CX0 2 fD fdD ["pool", "many"] spDraw)
    (FDt : Fun K "_law_draw_table" "_law_draw_table" sDrawT fDt fdDt) (bDt : Binds K fdDt ["pool", "most"] []) (gDt : mg "_law_draw_table" = some (.ref fDt)) (GDt : FnOk P w K mg base CX0 3 fDt fdDt ["pool", "most"] spDrawT)
    (FN : Fun K "_law_new_table" "_law_new_table" sNewT fN fdN) (bN : Binds K fdN ["wide"] []) (gN : mg "_law_new_table" = some (.ref fN)) (GN : FnOk P w K mg base CX0 1 fN fdN ["wide"] spNewT)
    (FGv : Fun K "_law_gives" "_law_gives" sGives fG fdGv) (bGv : Binds K fdGv ["pool", "table", "desk", "state", "known"] []) (gGv : mg "_law_gives" = some (.ref fG)) (GGv : FnG P w K mg base CX0 8 fG fdGv ["pool", "table", "desk", "state", "known"] (spGives C))
    (FDe : Fun K "_law_deeds" "_law_deeds" sDeeds fD2 fdDe) (bDe : Binds K fdDe ["pool", "table", "desk", "state", "known"] []) (gDe : mg "_law_deeds" = some (.ref fD2)) (GDe : FnG P w K mg base CX0 8 fD2 fdDe ["pool", "table", "desk", "state", "known"] (spDeeds C))
    (FF : Fun K "_law_fits" "_law_fits" sFits fF fdF) (bF : Binds K fdF ["table", "desk", "state", "known"] []) (gF : mg "_law_fits" = some (.ref fF)) (GF : FnG P w K mg base CX0 5 fF fdF ["table", "desk", "state", "known"] (spFits K C Ch))
    (FW : Fun K "_law_which" "_law_which" sWhich fW fdW) (bW : Binds K fdW ["error"] []) (gW : mg "_law_which" = some (.ref fW))
    (gCt : mg "_law_caught" = some (.ref g)) (kCt : PySem.W.keepIn K (.ref g) = true)
    (lkC : K.lookup g = some ⟨oc', od', .func (PySem.W.fnOf "_law_caught" "_law_caught" (defArgs sCaught) (defBody sCaught) (defScope sCaught) .none kV' doc' pm' an' cdv' ct'), osl'⟩) (hcC : PySem.W.codeIn K cdv' "_law_caught" = true)
    (bCt : Binds K (PySem.W.fnOf "_law_caught" "_law_caught" (defArgs sCaught) (defBody sCaught) (defScope sCaught) .none kV' doc' pm' an' cdv' ct') ["call"] [])
    (MH : Mk K C fT) (GT : FnOk P w K mg base (L2.CX P w) 3 fT fdT ["self", "size", "book", "turns"] (spTable C (cs.getD 0 0) CB))
    (kb : KBn K fdT ["self", "size", "book", "turns"] 2 ["book", "turns"] (fun us ws => us ++ ws) (fun vs zs => vs ++ zs))
    (MG : Meth K C "give" fGi) (GG : FnOk P w K mg base (L2.CX P w) 7 fGi fdGi ["self", "number"] (spGive C Ch (cs.getD 0 0))) (bG : Binds K fdGi ["self", "number"] [])
    (MC : Meth K C "copied" fCo) (GC : FnOk P w K mg base CX0 5 fCo fdCo ["self"] (spCopied C)) (bC : Binds K fdCo ["self"] [])
    (pSi : PropOf K C "size" pSi gSi) (GSi : FnOk P w K mg base CX0 1 gSi fdSi ["self"] (spGet K "_size")) (bSi : Binds K fdSi ["self"] [])
    (pBo : PropOf K C "book" pBo gBo) (GBo : FnOk P w K mg base CX0 1 gBo fdBo ["self"] (spGet K "_book")) (bBo : Binds K fdBo ["self"] [])
    (pTu : PropOf K C "turns" pTu gTu) (GTu : FnOk P w K mg base CX0 1 gTu fdTu ["self"] (spGet K "_turns")) (bTu : Binds K fdTu ["self"] [])
    (tyI : ∀ (H : Hp) (g dg : Addr) (fs : List (Str × V)), H g = some (.ins Ch dg fs) → TyX K H (.ref g) (.ref Ch)) :
    FnG P w K mg base CX0 14 f (PySem.W.fnOf "law" "law" (defArgs sLaw) (defBody sLaw) (defScope sLaw) .none kV doc pm an (.ref cC) ct) ["script"] (spLaw K PT0) := by
  refine fnG_okC lk hcd scLaw (fun vs H Q E h => ?_) (fun A outer s0 H vs Q E hg hr h => ?_)
  · obtain ⟨a, ns, rfl, _⟩ := h
    rfl
  · obtain ⟨a, ns, rfl, hS, hlen, hT0, k⟩ := h
    have hgX : (cxOf CX0 P w K mg base ["script", "pool", "desk", "table", "state", "known", "old", "then", "turn", "call", "good", "odd"] "law" (defScope sLaw) f (.ref cC) A outer s0 H E).nox.A.guards = some [] := hg
    refine ⟨_, (pss_cons (ps_set (i := 1) scLaw.nd rfl (.inl rfl) (pe_call GB (hr.mono (by decide)) rfl gB FB.kp bB .nil pass0 (pa_cons (pv 0) pa_nil)))
      (pss_cons (ps_set (i := 2) scLaw.nd rfl (.inl rfl) (pe_call GDt (hr.mono (by decide)) rfl gDt FDt.kp bDt .nil pass0 (pa_cons (pv 1) (pa_cons pe_int pa_nil))))
      (pss_cons (ps_asg (pe_tup (pa_cons (pe_makeK MH GT (hr.mono (by decide)) rfl S.g kb passF (pa_cons (pe_ix ix_list (pv 2) pe_int (fun _ _ => rfl)) pa_nil) (pk_cons (pe_ix ix_list (pv 2) pe_int (fun _ _ => rfl)) (pk_cons (pe_ix ix_list (pv 2) pe_int (fun _ _ => rfl)) pk_nil))) (pa_cons (pe_call GN (hr.mono (by decide)) rfl gN FN.kp bN .nil pass0 (pa_cons (pe_ix ix_list (pv 2) pe_int (fun _ _ => rfl)) pa_nil)) (pa_cons (pe_lst pa_nil) pa_nil)))) (pg_tup (by rfl) (pgs_cons (pg_name (i := 3) scLaw.nd rfl (.inr rfl)) (pgs_cons (pg_name (i := 4) scLaw.nd rfl (.inl rfl)) (pgs_cons (pg_name (i := 5) scLaw.nd rfl (.inl rfl)) pgs_nil)))))
      (pss_cons (ps_par (i := 6) (j := 7) (by rfl) scLaw.nd rfl rfl (by decide) rfl rfl (pa_cons (pe_meth0 (pv 3) S.cl MC GC (hr.mono (by decide)) bC .nil pass0) (pa_cons (pe_call GN (hr.mono (by decide)) rfl gN FN.kp bN .nil pass0 (pa_cons (pe_ix ix_list (pv 2) pe_int (fun _ _ => rfl)) pa_nil)) pa_nil)) (by rfl))
      (pss_cons (ps_for PassesOwn.never rfl (pi_range1 rfl PT.range (pa_cons pe_int pa_nil)) (pg_name (i := 8) scLaw.nd rfl (.inl rfl))
      (pss_joinT (ps_set (i := 9) scLaw.nd rfl (.inl rfl) (pe_ifExp (pt_cmpR op_eq (pe_call GD (hr.mono (by decide)) rfl gD FD.kp bD .nil pass0 (pa_cons (pv 1) (pa_cons pe_int pa_nil))) pe_int (nomark _)) (pe_glob (v := .ref fG) rfl gGv rfl) (pe_glob (v := .ref fD2) rfl gDe rfl)))
        (pss_join (ps_asg (pe_callV (pv 9) GGv GDe hgX (hr.mono (by decide)) FGv.kp FDe.kp bGv bDe (pa_cons (pv 1) (pa_cons (pv 3) (pa_cons (pv 2) (pa_cons (pv 4) (pa_cons (pv 5) pa_nil)))))) (pg_lst (by rfl) (pgs_cons (pg_name (i := 10) scLaw.nd rfl (.inl rfl)) (pgs_cons (pg_name (i := 4) scLaw.nd rfl (.inl rfl)) pgs_nil))))
        (pss_cons (ps_if (PW.pt (pw_or (pt_not (pt_truth (pv 10) (fun _ => rfl))) (pw_or (pt_not (pt_val (pe_callGd GF hgX (hr.mono (by decide)) rfl gF FF.kp bF (pa_cons (pv 3) (pa_cons (pv 2) (pa_cons (pv 4) (pa_cons (pe_slice sl_list (pv 5) (po_some (pe_un un_neg pe_int)) po_none) pa_nil))))))) (pw_or1 (pt_not (pt_val (pe_callGd GF hgX (hr.mono (by decide)) rfl gF FF.kp bF (pa_cons (pv 6) (pa_cons (pv 2) (pa_cons (pv 7) (pa_cons (pe_slice sl_list (pv 5) (po_some (pe_un un_neg pe_int)) po_none) pa_nil))))))))))) (pss_one (ps_ret pe_bl)) pss_nil)
        (pss_join (ps_if (pt_cmpR op_eq (pe_call GD (hr.mono (by decide)) rfl gD FD.kp bD .nil pass0 (pa_cons (pv 1) (pa_cons pe_int pa_nil))) pe_int (nomark _)) (pss_one (ps_par (i := 6) (j := 7) (by rfl) scLaw.nd rfl rfl (by decide) rfl rfl (pa_cons (pe_meth0 (pv 3) S.cl MC GC (hr.mono (by decide)) bC .nil pass0) (pa_cons (pv 4) pa_nil)) (by rfl))) pss_nil)
        (pss_one (ps_for PassesOwn.never rfl (pi_list (pe_lst (pa_cons (pe_un un_neg pe_int) (pa_cons pe_bl (pa_cons pe_str (pa_cons (pe_tup (pa_cons pe_int pa_nil)) (pa_cons (pe_ix ix_list (pv 2) pe_int (fun _ _ => rfl)) (pa_cons (pe_op op_pow pe_int pe_int) pa_nil)))))))) (pg_name (i := 11) scLaw.nd rfl (.inr rfl)) (pss_one (ps_if (pt_cmpR (op_neD hr.units) (LamX.pe_lamcall (T := [(PT0, lamName)]) (a := "call") (k := 7) (Ng := ["call", "e"]) (x := "_law_caught") (by rfl) gCt kCt lkC hcC bCt scCaught rfl (.inl rfl) (gives_caught T FW bW gW hgX (hr.mono (by decide))) TB rfl (List.mem_singleton.mpr rfl) (fun r hr _ => by rw [List.mem_singleton.mp hr]; rfl) (hr.mono (by decide)) (LamX.lamS_by (show LamX.lamSB (defScope sLaw) _ = true by decide +kernel)) rfl (fun _ _ _ _ _ => rfl)
        (fun A outer s H E f c' hr2 => pe_meth (E := E) (pv 3) S.cl MG GG (hr2.mono (by decide)) bG .nil (passes_call (takes_of rfl rfl rfl rfl) (fun _ _ _ _ h => h)) (pa_cons (pv 11) pa_nil))) (pe_lst (pa_cons pe_str (pa_cons (pe_callB (id := "repr") (r := rReprD K) (call_reprD hgX hr.units) (by rfl) T.reprN (by decide +kernel) (pa_cons (pv 11) pa_nil)) pa_nil))) (nomark _)) (pss_one (ps_ret pe_bl)) pss_nil)))))))))
      (pss_one (ps_ret (pe_cmpR (op_eqD hr.units) (pe_lst (pa_cons (pe_prop (pv 3) S.cl pSi GSi (hr.mono (by decide)) bSi .nil pass0 (by rfl)) (pa_cons (pe_prop (pv 3) S.cl pBo GBo (hr.mono (by decide)) bBo .nil pass0 (by rfl)) (pa_cons (pe_prop (pv 3) S.cl pTu GTu (hr.mono (by decide)) bTu .nil pass0 (by rfl)) pa_nil)))) (pv 2) (by rfl))))))))), ?_⟩
    refine ⟨_, rfl, a, ns, rfl, hS, hlen, fun H1 p q s1 p0 q0 hP => ?_⟩
    have hT1 : LamX.Tabs [(PT0, lamName)] H1 := fun r hr => by
      rw [List.mem_singleton.mp hr]
      exact .nil (s1 _ _ hT0)
    clear hS s1 hT0 p0 q0
    -- desk
    refine ⟨_, rfl, p, q, 5, rfl, hP, by decide, by decide, fun H2 dk n z m b2 P2 edk ndk good n5 => ?_⟩
    have T2 := tabs_but hP hT1 b2
    have ndp := hP.nep ndk
    clear hP hT1 b2 ndk
    have sqd : ∀ {H'}, Same H2 H' → SqL K H' dk [.int (n : Nat), .str z, .int (m : Nat)] := fun g => .inl (.inl (g _ _ edk))
    have n1 := good.n1
    -- table, state, known
    refine ⟨_, rfl, dk, _, 0, _, rfl, rfl, sqd (Same.refl _), rfl, _, rfl, dk, _, 1, _, rfl, rfl, sqd (Same.refl _), rfl, _, rfl, dk, _, 2, _, rfl, rfl, sqd (Same.refl _), rfl, rfl, rfl, mkT_ok good.g1 good.gz good.g3 good.lz fun H3 x dx pe pc pf s3 hx t3 ne nc nf => ?_⟩
    refine ⟨_, rfl, dk, _, 0, _, rfl, rfl, sqd s3, rfl, n, rfl, by omega, fun H4 s e c f s4 st4 hs he hc hf => ?_⟩
    have s34 := s3.trans s4
    refine ⟨(by show 0 ≤ sizeLine; decide), fun kn hkn => ?_⟩
    have s5 := s34.push (o := .lst []) hkn
    have ekn : (upd H4 kn (.lst [])) kn = some (.lst []) := upd_same
    have t5 := (t3.same s4).same (Same.new (o := .lst []) hkn)
    have st5 := st4.same (Same.new (o := .lst []) hkn)
    have ak := (t3.same s4).aw_none hkn
    have kns : s ≠ kn ∧ e ≠ kn ∧ c ≠ kn ∧ f ≠ kn := ⟨ne_of_none st4.1 hkn, ne_of_none st4.2.1 hkn, ne_of_none st4.2.2.1 hkn, ne_of_none st4.2.2.2 hkn⟩
    have ndk : dk ≠ kn := ne_of_none (s34 _ _ edk) hkn
    have npk := (P2.same s34).nep hkn
    generalize upd H4 kn (.lst []) = H5 at s5 ekn t5 st5 ⊢
    refine ⟨(by show 3 ≤ sizeLine; decide), fun tp htp => ?_⟩
    have s6 := s5.push (o := .tup [.ref x, .ref s, .ref kn]) htp
    have sp := Same.new (o := .tup [.ref x, .ref s, .ref kn]) htp
    refine ⟨tp, _, rfl, .inl (.inl upd_same), rfl, _, _, rfl, _, _, rfl, _, _, rfl, rfl, ?_⟩
    have P3 := P2.same s3
    have frs : ∀ {b : Addr}, H3 b = none → b ≠ p ∧ b ≠ q := fun hb => ⟨(P3.nep hb).1.symm, (P3.nep hb).2.symm⟩
    have aw2 : ∀ {b : Addr} {o : HO}, H2 b = some o → Aw x pe pc pf b := fun g => ⟨ne_of_none g hx, ne_of_none g ne, ne_of_none g nc, ne_of_none g nf⟩
    have awp : Aw x pe pc pf p ∧ Aw x pe pc pf q := by
      obtain ⟨ms, i1, y, z1, b1, h1, h2, _⟩ := P2
      exact ⟨aw2 h1, aw2 h2⟩
    have lw6 : Lw6 (upd H5 tp (.tup [.ref x, .ref s, .ref kn])) C x dx pe pc pf p q dk s e c f kn n z m (List.replicate n .non) (List.replicate n 0) 0 0 ((n : Int) - 1) [] [] 0 :=
      ⟨t5.same sp, st5.same sp, .inr ⟨rfl, by omega⟩, ent_rep n, fun y hy => (by cases hy), Int.le_refl _, Int.le_refl _, Nat.le_refl _, Nat.le_refl _, P2.same s6, s6 _ _ edk, sp _ _ ekn, fun t ht => (by cases ht), awp.1, awp.2, aw2 edk,
        t3.aw_none hs, t3.aw_none he, t3.aw_none hc, t3.aw_none hf, ak, ⟨ndp.1.symm, ndp.2.symm, ndk⟩, ⟨(frs hs).1, (frs hs).2, kns.1⟩, ⟨(frs he).1, (frs he).2, kns.2.1⟩, ⟨(frs hc).1, (frs hc).2, kns.2.2.1⟩, ⟨(frs hf).1, (frs hf).2, kns.2.2.2⟩, ⟨npk.1.symm, npk.2.symm⟩⟩
    have T6 := T2.ext s6
    clear t5 st5 ak kns npk s5 ekn s34 st4 hs he hc hf s4 t3 ne nc nf hx s3 awp aw2 frs P3 sp
    generalize upd H5 tp (.tup [.ref x, .ref s, .ref kn]) = H6 at s6 lw6 T6 ⊢
    -- old, then
    refine ⟨_, rfl, x, dx, _, rfl, lw6.t.ins, rfl, x, dx, pe, pc, pf, n, z, m, _, _, _, _, _, rfl, lw6.t, good, fun H7 y dy pe2 pc2 pf2 s7 t7 hy hpe hpc hpf => ?_⟩
    have l7 := lw6.same s7
    refine ⟨_, rfl, dk, _, 0, _, rfl, rfl, .inl (.inl l7.edk), rfl, n, rfl, by omega, fun H8 s2 e2 c2 f2 s8 st8 hs2 he2 hc2 hf2 => ⟨_, _, rfl, ?_⟩⟩
    have l8 := l7.same s8
    have T8 := (T6.ext s7).ext s8
    have o8 : Old6 H8 C y dy pe2 pc2 pf2 s2 e2 c2 f2 n z m (List.replicate n .non) (List.replicate n 0) 0 0 ((n : Int) - 1) [] [x, pe, pc, pf, p, q, kn] := by
      refine ⟨t7.same s8, st8, ⟨off_of (.inr ⟨rfl, by rw [List.length_replicate]; omega⟩), ent_rep n⟩, by decide, fun b hb => ?_⟩
      simp only [List.mem_cons, List.not_mem_nil, or_false] at hb
      rcases hb with rfl | rfl | rfl | rfl | rfl | rfl | rfl | rfl
      · exact lw6.notM hy
      · exact lw6.notM hpe
      · exact lw6.notM hpc
      · exact lw6.notM hpf
      · exact l7.notM hs2
      · exact l7.notM he2
      · exact l7.notM hc2
      · exact l7.notM hf2
    have inv0 : Inv6 C x dx pe pc p q dk kn n z m [(PT0, lamName)] 0 H8 s y s2 := ⟨pf, e, c, f, dy, pe2, pc2, pf2, e2, c2, f2, _, _, _, _, _, _, _, _, _, _, _, _, _, l8, o8, T8⟩
    clear o8 T8 l8 l7 t7 hy hpe hpc hpf s7 s8 st8 hs2 he2 hc2 hf2 T6 lw6 s6 T2 P2
    refine ⟨40, by rfl, by decide, by decide, ?_⟩
    refine for_range (lo := 0) (n := 40) (fun i σ H' => ∃ u8 u9 u10 u11 s y s2, σ = [some (.ref a), some (.ref p), some (.ref dk), some (.ref x), some (.ref s), some (.ref kn), some (.ref y), some (.ref s2), u8, u9, u10, u11] ∧ Inv6 C x dx pe pc p q dk kn n z m [(PT0, lamName)] i H' s y s2)
      ⟨none, none, none, none, s, y, s2, rfl, inv0⟩ ?_ ?_
    · clear inv0
      rintro i σ H1 hi ⟨u8, u9, u10, u11, s, y, s2, rfl, inv⟩
      -- call
      refine ⟨fun σ' H' => ∃ v, σ' = [some (.ref a), some (.ref p), some (.ref dk), some (.ref x), some (.ref s), some (.ref kn), some (.ref y), some (.ref s2), some (.int (0 + (i : Nat))), some v, u10, u11] ∧ (v = .ref fG ∨ v = .ref fD2) ∧ Inv6 C x dx pe pc p q dk kn n z m [(PT0, lamName)] i H' s y s2, ?_, ?_⟩
      · refine ⟨_, rfl, p, q, 2, rfl, inv.pool, (by decide), (by decide), fun H3 r b3 P3 r0 r1 => ⟨rfl, _, rfl, ?_⟩⟩
        have inv3 := inv.but b3 P3
        by_cases h0 : r = 0
        · rw [decide_eq_true (show V.int r = V.int 0 by rw [h0])]
          exact iteT ⟨_, rfl, .inl rfl, inv3⟩
        · rw [decide_eq_false (show ¬ V.int r = V.int 0 from fun w => h0 (V.int.inj w))]
          exact iteF ⟨_, rfl, .inr rfl, inv3⟩
      clear inv H1
      rintro _ H1 ⟨v, rfl, hv, inv⟩
      -- good, state
      refine ⟨fun σ' H' => ∃ s', σ' = [some (.ref a), some (.ref p), some (.ref dk), some (.ref x), some (.ref s'), some (.ref kn), some (.ref y), some (.ref s2), some (.int (0 + (i : Nat))), some v, some (.bl true), u11] ∧ Inv6 C x dx pe pc p q dk kn n z m [(PT0, lamName)] (i + 1) H' s' y s2, ?_, ?_⟩
      · obtain ⟨pf, e, c, f, dy, pe2, pc2, pf2, e2, c2, f2, es, cs', many, start, last, fr, ts, es2, cs2, many2, start2, last2, fr2, l, o, tb⟩ := inv
        have fin : ∀ (H' : Hp) (pf' s' e' c' f' : Addr) (es' : List V) (cs' : List Int) (many' start' last' : Int) (fr' : List Int) (ts' : List K3),
            Lw6 H' C x dx pe pc pf' p q dk s' e' c' f' kn n z m es' cs' many' start' last' fr' ts' (i + 1) → Fm [x, pe, pc, pf, p, q, kn] H1 H' → (pf' = pf ∨ H1 pf' = none) → Inv6 C x dx pe pc p q dk kn n z m [(PT0, lamName)] (i + 1) H' s' y s2 := fun H' pf' s' e' c' f' es' cs' many' start' last' fr' ts' l' fm np => by
          refine ⟨pf', e', c', f', dy, pe2, pc2, pf2, e2, c2, f2, es', cs', many', start', last', fr', ts', es2, cs2, many2, start2, last2, fr2, l', o.fm fm fun b hb => ?_, tabs_fm l tb fm⟩
          simp only [List.mem_cons, List.not_mem_nil, or_false] at hb
          rcases hb with rfl | rfl | rfl | rfl | rfl | rfl | rfl
          · exact .inl (by simp)
          · exact .inl (by simp)
          · exact .inl (by simp)
          · rcases np with rfl | np
            · exact .inl (by simp)
            · exact .inr np
          · exact .inl (by simp)
          · exact .inl (by simp)
          · exact .inl (by simp)
        refine ⟨v, rfl, ?_⟩
        rcases hv with rfl | rfl
        · refine .inl ⟨rfl, _, rfl, _, rfl, _, rfl, _, rfl, _, rfl, x, dx, pe, pc, pf, p, q, dk, s, e, c, f, kn, n, z, m, es, cs', many, start, last, fr, ts, i, rfl, l, good, by omega, fun H' r pf' s' e' c' f' es' cs' many' start' last' fr' ts' l' fm np er => ?_⟩
          exact ⟨r, _, rfl, .inl (.inl er), rfl, _, _, rfl, _, _, rfl, rfl, _, rfl, fin H' pf' s' e' c' f' es' cs' many' start' last' fr' ts' l' fm np⟩
        · refine .inr ⟨rfl, _, rfl, _, rfl, _, rfl, _, rfl, _, rfl, x, dx, pe, pc, pf, p, q, dk, s, e, c, f, kn, n, z, m, es, cs', many, start, last, fr, ts, i, rfl, l, good, by omega, fun H' r pf' s' e' c' f' es' cs' many' start' last' fr' ts' l' fm np er => ?_⟩
          exact ⟨r, _, rfl, .inl (.inl er), rfl, _, _, rfl, _, _, rfl, rfl, _, rfl, fin H' pf' s' e' c' f' es' cs' many' start' last' fr' ts' l' fm np⟩
      clear inv hv H1
      rintro _ H1 ⟨s', rfl, inv⟩
      obtain ⟨pf, e, c, f, dy, pe2, pc2, pf2, e2, c2, f2, es, cs', many, start, last, fr, ts, es2, cs2, many2, start2, last2, fr2, l, o, tb⟩ := inv
      have cut : ∀ (k : Nat), 1 ≤ k → cutV (ts.map fun t => V.ref t.1) (some (-(k : Int))) none = (ts.drop (ts.length - k)).map fun t => V.ref t.1 := fun k hk => by rw [cut_back _ k hk, List.length_map, List.map_drop]
      refine ⟨_, rfl, true, rfl, iteF ?_⟩
      refine ⟨_, rfl, _, rfl, _, rfl, _, rfl, _, rfl, _, rfl, kn, _, rfl, .inl (.inl l.ekn), fun sp hsp => ?_⟩
      rw [show cutV (ts.map fun t => V.ref t.1) (some (-8)) none = _ from cut 8 (by decide)]
      have sp1 := Same.new (o := .lst ((ts.drop (ts.length - 8)).map fun t => V.ref t.1)) hsp
      have l1 := l.same sp1
      have o1 := o.same sp1
      have tb1 := tb.ext sp1
      have esp : (upd H1 sp (.lst ((ts.drop (ts.length - 8)).map fun t => V.ref t.1))) sp = _ := upd_same
      generalize upd H1 sp (.lst ((ts.drop (ts.length - 8)).map fun t => V.ref t.1)) = H2 at l1 o1 tb1 esp ⊢
      refine ⟨x, dx, pe, pc, pf, dk, s', e, c, f, sp, n, z, m, es, cs', many, start, last, fr, ts.drop (ts.length - 8), rfl, l1.t, l1.edk, l1.st, l1.agree, by have := l1.fl; omega, esp, by rw [List.length_drop]; have := l1.tl; omega, fun t ht => l1.rows t (List.mem_of_mem_drop ht), tyI, fun H3 g => ⟨_, rfl, iteF ?_⟩⟩
      have l3 := l1.same g
      have o3 := o1.same g
      have tb3 := tb1.ext g
      clear l1 o1 tb1 g esp sp1 hsp l o tb
      refine ⟨_, rfl, _, rfl, _, rfl, _, rfl, _, rfl, _, rfl, kn, _, rfl, .inl (.inl l3.ekn), fun sp hsp => ?_⟩
      rw [show cutV (ts.map fun t => V.ref t.1) (some (-2)) none = _ from cut 2 (by decide)]
      have sp1 := Same.new (o := .lst ((ts.drop (ts.length - 2)).map fun t => V.ref t.1)) hsp
      have l1 := l3.same sp1
      have o1 := o3.same sp1
      have tb1 := tb3.ext sp1
      have esp : (upd H3 sp (.lst ((ts.drop (ts.length - 2)).map fun t => V.ref t.1))) sp = _ := upd_same
      generalize upd H3 sp (.lst ((ts.drop (ts.length - 2)).map fun t => V.ref t.1)) = H4 at l1 o1 tb1 esp ⊢
      refine ⟨y, dy, pe2, pc2, pf2, dk, s2, e2, c2, f2, sp, n, z, m, es2, cs2, many2, start2, last2, fr2, ts.drop (ts.length - 2), rfl, o1.t, l1.edk, o1.st, o1.ag, o1.fl, esp, by rw [List.length_drop]; have := l1.tl; omega, fun t ht => l1.rows t (List.mem_of_mem_drop ht), tyI, fun H5 g => ⟨_, rfl, iteF ?_⟩⟩
      have inv : Inv6 C x dx pe pc p q dk kn n z m [(PT0, lamName)] (i + 1) H5 s' y s2 := ⟨pf, e, c, f, dy, pe2, pc2, pf2, e2, c2, f2, es, cs', many, start, last, fr, ts, es2, cs2, many2, start2, last2, fr2, l1.same g, o1.same g, tb1.ext g⟩
      clear l1 o1 tb1 g esp sp1 hsp l3 o3 tb3 H1 H2 H3 H4 cut
      -- old, then
      refine ⟨fun σ' H' => ∃ y s2, σ' = [some (.ref a), some (.ref p), some (.ref dk), some (.ref x), some (.ref s'), some (.ref kn), some (.ref y), some (.ref s2), some (.int (0 + (i : Nat))), some v, some (.bl true), u11] ∧ Inv6 C x dx pe pc p q dk kn n z m [(PT0, lamName)] (i + 1) H' s' y s2, ?_, ?_⟩
      · refine ⟨_, rfl, p, q, 8, rfl, inv.pool, (by decide), (by decide), fun H3 r b3 P3 r0 r1 => ⟨rfl, _, rfl, ?_⟩⟩
        have inv3 := inv.but b3 P3
        by_cases h0 : r = 0
        · rw [decide_eq_true (show V.int r = V.int 0 by rw [h0])]
          refine iteT ?_
          obtain ⟨pf, e, c, f, dy, pe2, pc2, pf2, e2, c2, f2, es, cs', many, start, last, fr, ts, es2, cs2, many2, start2, last2, fr2, l, o, tb⟩ := inv3
          refine ⟨_, rfl, x, dx, _, rfl, l.t.ins, rfl, x, dx, pe, pc, pf, n, z, m, _, _, _, _, _, rfl, l.t, good, fun H7 y dy pe2 pc2 pf2 s7 t7 hy hpe hpc hpf => ⟨_, rfl, _, _, rfl, ?_⟩⟩
          have l7 := l.same s7
          have notin : ∀ b, Aw x pe pc pf b → (b ≠ p ∧ b ≠ q ∧ b ≠ kn) → b ∉ [x, pe, pc, pf, p, q, kn] := fun b h1 h2 w => by
            obtain ⟨a1, a2, a3, a4⟩ := h1
            obtain ⟨a5, a6, a7⟩ := h2
            simp only [List.mem_cons, List.not_mem_nil, or_false] at w
            rcases w with w | w | w | w | w | w | w
            · exact a1 w
            · exact a2 w
            · exact a3 w
            · exact a4 w
            · exact a5 w
            · exact a6 w
            · exact a7 w
          refine ⟨_, _, rfl, pf, e, c, f, dy, pe2, pc2, pf2, e, c, f, es, cs', many, start, last, fr, ts, es, cs', many, start, last, fr, l7, ⟨t7, l7.st, l7.agree, by have := l7.fl; omega, fun b hb => ?_⟩, tb.ext s7⟩
          simp only [List.mem_cons, List.not_mem_nil, or_false] at hb
          rcases hb with rfl | rfl | rfl | rfl | rfl | rfl | rfl | rfl
          · exact l.notM hy
          · exact l.notM hpe
          · exact l.notM hpc
          · exact l.notM hpf
          · exact notin _ l.a1 l.p1
          · exact notin _ l.ae l.p2
          · exact notin _ l.ac l.p3
          · exact notin _ l.af l.p4
        · rw [decide_eq_false (show ¬ V.int r = V.int 0 from fun w => h0 (V.int.inj w))]
          exact iteF ⟨_, _, rfl, inv3⟩
      clear inv H5
      rintro _ H1 ⟨y, s2, rfl, inv⟩
      -- odd
      have edk : H1 dk = some (.lst [.int (n : Nat), .str z, .int (m : Nat)]) := by
        obtain ⟨pf, e, c, f, dy, pe2, pc2, pf2, e2, c2, f2, es, cs', many, start, last, fr, ts, es2, cs2, many2, start2, last2, fr2, l, o, tb⟩ := inv
        exact l.edk
      refine ⟨_, rfl, (by show 1 ≤ sizeLine; decide), fun t ht => ?_⟩
      have st := Same.new (o := .tup [.int 0]) ht
      have e7 : (upd H1 t (.tup [.int 0])) t = _ := upd_same
      have inv7 := inv.same st
      have edk7 := st _ _ edk
      generalize upd H1 t (.tup [.int 0]) = H7 at e7 inv7 edk7 ⊢
      refine ⟨_, rfl, dk, _, 0, _, rfl, rfl, .inl (.inl edk7), rfl, _, _, rfl, rfl, ⟨by decide, by decide, by decide⟩, (by show 6 ≤ sizeLine; decide), fun L hL => ?_⟩
      have s8 := Same.new (o := .lst [.int (-1), .bl true, .str "0", .ref t, .int (n : Nat), .int (10 ^ 30)]) hL
      have e8 : (upd H7 L (.lst [.int (-1), .bl true, .str "0", .ref t, .int (n : Nat), .int (10 ^ 30)])) L = _ := upd_same
      have inv8 := inv7.same s8
      have e78 := s8 _ _ e7
      refine ⟨L, rfl, ⟨_, .inl (.inl e8)⟩, for_list (xs := [.int (-1), .bl true, .str "0", .ref t, .int (n : Nat), .int (10 ^ 30)]) (fun _ σ H' => ∃ u11, σ = [some (.ref a), some (.ref p), some (.ref dk), some (.ref x), some (.ref s'), some (.ref kn), some (.ref y), some (.ref s2), some (.int (0 + (i : Nat))), some v, some (.bl true), u11] ∧ Inv6 C x dx pe pc p q dk kn n z m [(PT0, lamName)] (i + 1) H' s' y s2 ∧ H' L = some (.lst [.int (-1), .bl true, .str "0", .ref t, .int (n : Nat), .int (10 ^ 30)]) ∧ H' t = some (.tup [.int 0]))
        ⟨_, rfl, inv8, e8, e78⟩ (fun _ _ _ _ e => .inl (.inl (e.choose_spec.2.2.1))) ?_ ?_⟩
      · clear inv8 e8 e78 s8 hL inv7 e7 edk7 st ht edk inv H7 H1
        rintro i3 v3 σ H1 hv3 ⟨u12, rfl, inv, eL, et⟩
        obtain ⟨d, hd⟩ := itG (K := K) (n := n) (by omega) hv3
        refine ⟨inv.tabs, fun H2 ex t2 E1 hE1 => ?_⟩
        have inv2 := inv.ext ex t2
        have eL2 := ex _ _ eL (fun _ e => by cases e)
        have et2 := ex _ _ et (fun _ e => by cases e)
        obtain ⟨⟨kv, hkv⟩, nn, ix, rp2, okd⟩ := hd _ et2
        have inv3 := inv2
        obtain ⟨pf, e, c, f, dy, pe2, pc2, pf2, e2, c2, f2, es, cs', many, start, last, fr, ts, es2, cs2, many2, start2, last2, fr2, l, o, tb⟩ := inv3
        have out : isCount v3 = false ∨ ∃ j, v3 = .int j ∧ j ∉ freeL z start fr es := by
          rcases ix with h | ⟨j, hj, hn⟩
          · exact .inl h
          · refine .inr ⟨j, hj, fun hm => ?_⟩
            obtain ⟨jj, e1, e2⟩ := mem_freeL l.fo hm
            have h4 := (List.getElem?_eq_some_iff.mp e2).1
            rw [l.t.len] at h4
            omega
        refine ⟨_, rfl, x, dx, _, rfl, l.t.ins, rfl, _, rfl, x, dx, pe, pc, pf, n, z, _, es, cs', many, start, fr, v3, rfl, l.t, by have := good.m1; omega, l.m0, by have := l.fl; omega, .inr (.inr ⟨kv, hkv, nn, out, fun H3 s3 => ?_⟩)⟩
        refine fun dd H4 s4 e4 => hE1 _ _ _ ⟨0, dd, v3, d, by decide, rfl, rfl, e4, (hd _ ((s3.trans s4) _ _ et2)).2.2.2.1, okd, fun H5 r s5 e5 => ?_⟩
        have sall := (s3.trans s4).trans s5
        refine ⟨_, rfl, v3, d, rfl, (hd _ (sall _ _ et2)).2.2.2.1, okd, (by show 2 ≤ sizeLine; decide), fun l hl => ?_⟩
        have sl := Same.new (o := .lst [.str "number", .str d.shown]) hl
        have ok := okD_strOk okd
        have s6 := sall.trans sl
        refine ⟨_, _, dp_two (sl _ _ e5), dp_two upd_same, shaped_two ok, shaped_two ok, _, rfl, ifTwo ⟨_, rfl, inv2.same s6, s6 _ _ eL2, s6 _ _ et2⟩⟩
      · rintro σ H' ⟨u12, rfl, inv, _⟩
        exact ⟨_, _, _, _, s', y, s2, rfl, inv⟩
    · rintro σ H1 ⟨u8, u9, u10, u11, s, y, s2, rfl, inv⟩
      obtain ⟨pf, e, c, f, dy, pe2, pc2, pf2, e2, c2, f2, es, cs', many, start, last, fr, ts, es2, cs2, many2, start2, last2, fr2, l, o, tb⟩ := inv
      refine ⟨_, rfl, x, dx, _, rfl, l.t.ins, x, C, dx, _, .int (n : Nat), rfl, l.t.ins, S.cl, S.n1, rfl, ?_⟩
      refine ⟨_, rfl, x, dx, _, rfl, l.t.ins, x, C, dx, _, .str z, rfl, l.t.ins, S.cl, S.n2, rfl, ?_⟩
      refine ⟨_, rfl, x, dx, _, rfl, l.t.ins, x, C, dx, _, .int (m : Nat), rfl, l.t.ins, S.cl, S.n3, rfl, ?_⟩
      refine ⟨(by show 3 ≤ sizeLine; decide), fun r hr0 => ?_⟩
      have sl := Same.new (o := .lst [.int (n : Nat), .str z, .int (m : Nat)]) hr0
      have er : (upd H1 r (.lst [.int (n : Nat), .str z, .int (m : Nat)])) r = _ := upd_same
      have ed := sl _ _ l.edk
      have dq : ∀ {H' : Hp} {r : Addr}, H' r = some (.lst [.int (n : Nat), .str z, .int (m : Nat)]) → Dp K H' (.ref r) (.list [.int (n : Nat), .str z, .int (m : Nat)]) := fun e => .lst (.inl (.inl e)) (.cons (.int _) (.cons (.str _) (.cons (.int _) .nil)))
      have zok : PyData.strOk z = true := by
        rcases book_cases good.gz with rfl | rfl | rfl | rfl <;> decide +kernel
      have shq : SeqAt.shaped (.list [.int (n : Nat), .str z, .int (m : Nat)]) = true := by
        have e : PyData.canLay0 (.list [.int (n : Nat), .str z, .int (m : Nat)]) = true := by
          show (true && (PyData.strOk z && (true && true))) = true
          rw [zok]
          rfl
        unfold SeqAt.shaped
        rw [e]
        rfl
      have evq : PyData.eqv (.list [.int (n : Nat), .str z, .int (m : Nat)]) (.list [.int (n : Nat), .str z, .int (m : Nat)]) = true := by
        show (((n : Int) == (n : Int)) && ((z == z) && (((m : Int) == (m : Int)) && true))) = true
        simp
      refine ⟨_, rfl, _, _, dq er, dq ed, shq, shq, ?_⟩
      rw [evq]
      exact k _
end
/-! ### the errors' classes by computation -/
def exB (K : PySem.W.Frag) (C : Addr) : Bool := xfB K C && PySem.W.keepIn K (.ref C) && decide (PySem.W.findIn K (.ref C) "__class__" = some (some (.builtin "object.__class__"))) &&
  decide (PySem.W.specialIn K (.builtin "object.__class__") "__get__" = some (some (.builtin "getset_descriptor.__get__"))) && decide (PySem.W.takesIn K (.builtin "object.__class__") = some true) && decide (PySem.W.mroIn K C (.type "object") = some true)
theorem exB_ok {K : PySem.W.Frag} {C : Addr} (h : exB K C = true) : XfC K C ∧ PySem.W.keepIn K (.ref C) = true ∧ ExcC K C := by
  unfold exB at h
  simp only [Bool.and_eq_true, decide_eq_true_eq] at h
  obtain ⟨⟨⟨⟨⟨h1, h2⟩, h3⟩, h4⟩, h5⟩, h6⟩ := h
  have x := xfB_ok h1
  exact ⟨x, h2, x.ga, x.gg, x.exC, x.hdC, h3, h4, h5, h6⟩
theorem mro_refs : ∀ l : List Value, PySem.HandSPX.refsVE l = true → MroOk l := fun l h => ⟨fun v => PySem.HandSPX.refsVE_pass v l h, PySem.HandSPX.refsVE_ne h, (PySem.HandSPX.refsVE_contains "object" l h).trans (by decide +kernel)⟩
def errTab (K : PySem.W.Frag) (cs : List Addr) (cH : Addr) : Bool := (List.range 13).all fun i => exB K (cs.getD i 0) && ((List.range 13).all fun j => decide (PySem.W.kitOne K (.ref (cs.getD i 0)) (.ref (cs.getD j 0)) = some (decide (i = j)))) &&
  decide (PySem.W.kitOne K (.ref (cs.getD i 0)) (.ref cH) = some (decide (i < 11))) && decide (PySem.W.exmOne K (.ref (cs.getD i 0)) (.ref cH) = some (decide (i < 11))) && (decide (11 ≤ i) || decide (PySem.W.findIn K (.ref (cs.getD i 0)) "value" = some none))
theorem errTab_ok {K : PySem.W.Frag} {cs : List Addr} {cH : Addr} (h : errTab K cs cH = true) : ∀ i, i < 13 → exB K (cs.getD i 0) = true ∧ (∀ j, j < 13 → PySem.W.kitOne K (.ref (cs.getD i 0)) (.ref (cs.getD j 0)) = some (decide (i = j))) ∧
    PySem.W.kitOne K (.ref (cs.getD i 0)) (.ref cH) = some (decide (i < 11)) ∧ PySem.W.exmOne K (.ref (cs.getD i 0)) (.ref cH) = some (decide (i < 11)) ∧ (i < 11 → PySem.W.findIn K (.ref (cs.getD i 0)) "value" = some none) := by
  intro i hi
  have h1 := List.all_eq_true.mp h i (List.mem_range.mpr hi)
  simp only [Bool.and_eq_true, Bool.or_eq_true, decide_eq_true_eq] at h1
  obtain ⟨⟨⟨⟨h2, h3⟩, h4⟩, h5⟩, h6⟩ := h1
  exact ⟨h2, fun j hj => of_decide_eq_true (List.all_eq_true.mp h3 j (List.mem_range.mpr hj)), h4, h5, fun q => h6.elim (fun z => absurd z (by omega)) id⟩
def erB (K : PySem.W.Frag) (C fI : Addr) : Bool := decide (PySem.W.findIn K (.ref C) "__setattr__" = some (some (.builtin "object.__setattr__"))) && decide (PySem.W.subIn K (.ref C) (.type "BaseException") = some true) &&
  decide (PySem.W.typeIn K (.ref C) = some (.type "type")) && PySem.W.keepIn K (.ref C) && decide (PySem.W.findIn K (.ref C) "__init__" = some (some (.ref fI))) && decide (PySem.W.typeIn K (.ref fI) = some (.type "function")) && decide (PySem.W.findIn K (.ref C) "value" = some none)
theorem errC_mk {K : PySem.W.Frag} {mg : Str → Option Value} {x : Str} {fI C N : Addr} {nm q : Str} {bs bm : List Value} {sn : List Str} {sub : List Value} {ab : Bool} {col : Option Bool} {dd : Option Addr} {k0 k1 k2 k3 k5 : Option Value}
    (gC : mg x = some (.ref C)) (hC : K.lookup C = some (excClassObj nm q C N bs bm true sn sub ab col dd k0 k1 k2 k3 k5 "ValueError.__new__")) (hb : PySem.HandSPX.refsVE bm = true) (h : erB K C fI = true) : ErrC K mg x C fI := by
  unfold erB at h
  simp only [Bool.and_eq_true, decide_eq_true_eq] at h
  obtain ⟨⟨⟨⟨⟨⟨h1, h2⟩, h3⟩, h4⟩, h5⟩, h6⟩, h7⟩ := h
  exact ⟨gC, ⟨⟨_, _, _, _, _, _, _, _, _, _, _, _, _, _, _, hC, hb⟩, h1, h2, h3, h4⟩, ⟨⟨_, _, _, _, _, _, _, _, _, _, _, _, _, _, _, _, _, _, _, hC, F.excBase_ValueError, fun Y => PySem.HandSPX.refsVE_contains Y bm hb, mro_refs _ hb⟩, h1, h4⟩, h5, h6, h7⟩
/-- a plain class -/
def clsB (K : PySem.W.Frag) (C : Addr) : Bool := PySem.W.plainGet K C Str.empty && PySem.W.hasDictIn K C && PySem.W.plainOver K C && decide (PySem.W.findIn K (.ref C) "__setattr__" = some (some (.builtin "object.__setattr__"))) &&
  decide (PySem.W.findIn K (.ref C) "__class__" = some (some (.builtin "object.__class__"))) && decide (PySem.W.specialIn K (.builtin "object.__class__") "__get__" = some (some (.builtin "getset_descriptor.__get__"))) &&
  decide (PySem.W.takesIn K (.builtin "object.__class__") = some true) && decide (PySem.W.mroIn K C (.type "object") = some true) && PySem.W.makesIn K C && PySem.W.keepIn K (.ref C)
theorem clsB_ok {K : PySem.W.Frag} {C : Addr} (h : clsB K C = true) : Cls K C ∧ (∀ (H : Hp) (x dx : Addr) (fs : List (Str × V)), H x = some (.ins C dx fs) → TyX K H (.ref x) (.ref C)) ∧ PySem.W.makesIn K C = true ∧ PySem.W.keepIn K (.ref C) = true := by
  unfold clsB at h
  simp only [Bool.and_eq_true, decide_eq_true_eq] at h
  obtain ⟨⟨⟨⟨⟨⟨⟨⟨⟨h1, h2⟩, h3⟩, h4⟩, h5⟩, h6⟩, h7⟩, h8⟩, h9⟩, h10⟩ := h
  have c : Cls K C := ⟨h1, h2, h3, h4⟩
  exact ⟨c, fun H x dx fs e => .base (.ins e c h5 h6 h7 h8), h9, h10⟩
def noB (K : PySem.W.Frag) (C : Addr) (fs : List Str) : Bool := fs.all fun f => decide (PySem.W.findIn K (.ref C) f = some none)
theorem noB_ok {K : PySem.W.Frag} {C : Addr} {fs : List Str} (h : noB K C fs = true) : ∀ f ∈ fs, NoAttr K C f := fun f hf => (of_decide_eq_true (List.all_eq_true.mp h f hf) : PySem.W.findIn K (.ref C) f = some none)
theorem all_mk {l : PySem.W.OpenLaw} {w : World} {K : PySem.W.Frag} {h : Heap} {mg : Str → Option Value} {fa : Addr} (X : K.In h) (G : h.Ns mainGlobals mg) (hfa : mg "law" = some (.ref fa))
    {odCo anCo : Option Addr}
    {slCo : Array (Option Value)}
    {ocCo kVCo dcCo pmCo cdCo ctCo : Value}
    {fCo : Addr}
    {odIx anIx : Option Addr}
    {slIx : Array (Option Value)}
    {ocIx kVIx dcIx pmIx cdIx ctIx : Value}
    {fIx : Addr}
    {odBt anBt : Option Addr}
    {slBt : Array (Option Value)}
    {ocBt kVBt dcBt pmBt cdBt ctBt : Value}
    {fBt : Addr}
    {odBe anBe : Option Addr}
    {slBe : Array (Option Value)}
    {ocBe kVBe dcBe pmBe cdBe ctBe : Value}
    {fBe : Addr}
    {odMi anMi : Option Addr}
    {slMi : Array (Option Value)}
    {ocMi kVMi dcMi pmMi cdMi ctMi : Value}
    {fMi : Addr}
    {odDr anDr : Option Addr}
    {slDr : Array (Option Value)}
    {ocDr kVDr dcDr pmDr cdDr ctDr : Value}
    {fDr : Addr}
    {odPk anPk : Option Addr}
    {slPk : Array (Option Value)}
    {ocPk kVPk dcPk pmPk cdPk ctPk : Value}
    {fPk : Addr}
    {odDt anDt : Option Addr}
    {slDt : Array (Option Value)}
    {ocDt kVDt dcDt pmDt cdDt ctDt : Value}
    {fDt : Addr}
    {odNt anNt : Option Addr}
    {slNt : Array (Option Value)}
    {ocNt kVNt dcNt pmNt cdNt ctNt : Value}
    {fNt : Addr}
    {odOf anOf : Option Addr}
    {slOf : Array (Option Value)}
    {ocOf kVOf dcOf pmOf cdOf ctOf : Value}
    {fOf : Addr}
    {odEt anEt : Option Addr}
    {slEt : Array (Option Value)}
    {ocEt kVEt dcEt pmEt cdEt ctEt : Value}
    {fEt : Addr}
    {odLg anLg : Option Addr}
    {slLg : Array (Option Value)}
    {ocLg kVLg dcLg pmLg cdLg ctLg : Value}
    {fLg : Addr}
    {odLe anLe : Option Addr}
    {slLe : Array (Option Value)}
    {ocLe kVLe dcLe pmLe cdLe ctLe : Value}
    {fLe : Addr}
    {odJu anJu : Option Addr}
    {slJu : Array (Option Value)}
    {ocJu kVJu dcJu pmJu cdJu ctJu : Value}
    {fJu : Addr}
    {odWh anWh : Option Addr}
    {slWh : Array (Option Value)}
    {ocWh kVWh dcWh pmWh cdWh ctWh : Value}
    {fWh : Addr}
    {odCa anCa : Option Addr}
    {slCa : Array (Option Value)}
    {ocCa kVCa dcCa pmCa cdCa ctCa : Value}
    {fCa : Addr}
    {odTj anTj : Option Addr}
    {slTj : Array (Option Value)}
    {ocTj kVTj dcTj pmTj cdTj ctTj : Value}
    {fTj : Addr}
    {odFt anFt : Option Addr}
    {slFt : Array (Option Value)}
    {ocFt kVFt dcFt pmFt cdFt ctFt : Value}
    {fFt : Addr}
    {odGv anGv : Option Addr}
    {slGv : Array (Option Value)}
    {ocGv kVGv dcGv pmGv cdGv ctGv : Value}
    {fGv : Addr}
    {odDe anDe : Option Addr}
    {slDe : Array (Option Value)}
    {ocDe kVDe dcDe pmDe cdDe ctDe : Value}
    {fDe : Addr}
    {odLa anLa : Option Addr}
    {slLa : Array (Option Value)}
    {ocLa kVLa dcLa pmLa ctLa : Value}
    {fLa : Addr}
    {cCLa PTLa : Addr}
    {ccLa : Value}
    {cd'La : Option Addr}
    {cvLa : Array Value}
    {csLa : Array (Option Value)}
    {cH fHI : Addr}
    {C0 : Addr}
    {C1 : Addr}
    {C2 : Addr}
    {C3 : Addr}
    {C4 : Addr}
    {C5 : Addr}
    {C6 : Addr}
    {C7 : Addr}
    {C8 : Addr}
    {C9 : Addr}
    {C10 : Addr}
    {C11 : Addr}
    {C12 : Addr}
    {odHI anHI : Option Addr}
    {slHI : Array (Option Value)}
    {ocHI kVHI dcHI pmHI cdHI ctHI : Value}
    {nm0 q0 : Str}
    {N0 : Addr}
    {bs0 bm0 : List Value}
    {sn0 : List Str}
    {sub0 : List Value}
    {ab0 : Bool}
    {col0 : Option Bool}
    {dd0 : Option Addr}
    {x00 x10 x20 x30 x50 : Option Value}
    {nm6 q6 : Str}
    {N6 : Addr}
    {bs6 bm6 : List Value}
    {sn6 : List Str}
    {sub6 : List Value}
    {ab6 : Bool}
    {col6 : Option Bool}
    {dd6 : Option Addr}
    {x06 x16 x26 x36 x56 : Option Value}
    {Cd Ch : Addr}
    {odNu anNu : Option Addr}
    {slNu : Array (Option Value)}
    {ocNu kVNu dcNu pmNu cdNu ctNu : Value}
    {fNu pNu : Addr}
    {reNu : List Value}
    {odTu anTu : Option Addr}
    {slTu : Array (Option Value)}
    {ocTu kVTu dcTu pmTu cdTu ctTu : Value}
    {fTu pTu : Addr}
    {reTu : List Value}
    {odEn anEn : Option Addr}
    {slEn : Array (Option Value)}
    {ocEn kVEn dcEn pmEn cdEn ctEn : Value}
    {fEn pEn : Addr}
    {reEn : List Value}
    {odSi anSi : Option Addr}
    {slSi : Array (Option Value)}
    {ocSi kVSi dcSi pmSi cdSi ctSi : Value}
    {fSi pSi : Addr}
    {reSi : List Value}
    {odBo anBo : Option Addr}
    {slBo : Array (Option Value)}
    {ocBo kVBo dcBo pmBo cdBo ctBo : Value}
    {fBo pBo : Addr}
    {reBo : List Value}
    {odTs anTs : Option Addr}
    {slTs : Array (Option Value)}
    {ocTs kVTs dcTs pmTs cdTs ctTs : Value}
    {fTs pTs : Addr}
    {reTs : List Value}
    {odGn anGn : Option Addr}
    {slGn : Array (Option Value)}
    {ocGn kVGn dcGn pmGn cdGn ctGn : Value}
    {fGn : Addr}
    {odRn anRn : Option Addr}
    {slRn : Array (Option Value)}
    {ocRn kVRn dcRn pmRn cdRn ctRn : Value}
    {fRn : Addr}
    {odOt anOt : Option Addr}
    {slOt : Array (Option Value)}
    {ocOt kVOt dcOt pmOt cdOt ctOt : Value}
    {fOt : Addr}
    {odCl anCl : Option Addr}
    {slCl : Array (Option Value)}
    {ocCl kVCl dcCl pmCl cdCl ctCl : Value}
    {fCl : Addr}
    {odUs anUs : Option Addr}
    {slUs : Array (Option Value)}
    {ocUs kVUs dcUs pmUs cdUs ctUs : Value}
    {fUs : Addr}
    {odFr anFr : Option Addr}
    {slFr : Array (Option Value)}
    {ocFr kVFr dcFr pmFr cdFr ctFr : Value}
    {fFr : Addr}
    {odTo anTo : Option Addr}
    {slTo : Array (Option Value)}
    {ocTo kVTo dcTo pmTo cdTo ctTo : Value}
    {fTo : Addr}
    {odLn anLn : Option Addr}
    {slLn : Array (Option Value)}
    {ocLn kVLn dcLn pmLn cdLn ctLn : Value}
    {fLn : Addr}
    {odIt anIt : Option Addr}
    {slIt : Array (Option Value)}
    {ocIt kVIt dcIt pmIt cdIt ctIt : Value}
    {fIt : Addr}
    {odRw anRw : Option Addr}
    {slRw : Array (Option Value)}
    {ocRw kVRw dcRw pmRw cdRw ctRw : Value}
    {fRw : Addr}
    {odIc anIc : Option Addr}
    {slIc : Array (Option Value)}
    {ocIc kVIc dcIc pmIc cdIc ctIc : Value}
    {fIc : Addr}
    {odCp anCp : Option Addr}
    {slCp : Array (Option Value)}
    {ocCp kVCp dcCp pmCp cdCp ctCp : Value}
    {fCp : Addr}
    {odIn anIn : Option Addr}
    {slIn : Array (Option Value)}
    {ocIn dcIn pmIn cdIn ctIn : Value}
    {fIn : Addr}
    {Dk : Addr}
    {tD tE tN tU tT tH : Tok}
    {odHn anHn : Option Addr}
    {slHn : Array (Option Value)}
    {ocHn dcHn pmHn cdHn ctHn : Value}
    {fHn : Addr}
    {Th Dh : Addr}
    {cT : Value}
    {dT : Option Addr}
    {aT : Array Value}
    {nT : Nat}
    {slT : Array (Option Value)}
    {odGi anGi : Option Addr}
    {slGi : Array (Option Value)}
    {ocGi kVGi dcGi pmGi cdGi ctGi : Value}
    {fGi : Addr}
    {Tg : Addr}
    {cG : Value}
    {dG : Option Addr}
    {aG : Array Value}
    {nG : Nat}
    {slG : Array (Option Value)}
    {aB : Addr}
    {ocB : Value}
    {odB : Option Addr}
    {daB : PySem.Data}
    {slB : Array (Option Value)}
    (aCo : PySem.W.nsIn K mainGlobals "is_count" = some (some (.ref fCo)))
    (lCo : K.lookup fCo = some ⟨ocCo, odCo, .func (PySem.W.fnOf "is_count" "is_count" (defArgs sCount) (defBody sCount) (defScope sCount) .none kVCo dcCo pmCo anCo cdCo ctCo), slCo⟩)
    (cCo : PySem.W.codeIn K cdCo "is_count" = true)
    (kCo : PySem.W.keepIn K (.ref fCo) = true)
    (aIx : PySem.W.nsIn K mainGlobals "is_index" = some (some (.ref fIx)))
    (lIx : K.lookup fIx = some ⟨ocIx, odIx, .func (PySem.W.fnOf "is_index" "is_index" (defArgs sIndex) (defBody sIndex) (defScope sIndex) .none kVIx dcIx pmIx anIx cdIx ctIx), slIx⟩)
    (cIx : PySem.W.codeIn K cdIx "is_index" = true)
    (kIx : PySem.W.keepIn K (.ref fIx) = true)
    (aBt : PySem.W.nsIn K mainGlobals "is_between" = some (some (.ref fBt)))
    (lBt : K.lookup fBt = some ⟨ocBt, odBt, .func (PySem.W.fnOf "is_between" "is_between" (defArgs sBetween) (defBody sBetween) (defScope sBetween) .none kVBt dcBt pmBt anBt cdBt ctBt), slBt⟩)
    (cBt : PySem.W.codeIn K cdBt "is_between" = true)
    (kBt : PySem.W.keepIn K (.ref fBt) = true)
    (aBe : PySem.W.nsIn K mainGlobals "_law_begin" = some (some (.ref fBe)))
    (lBe : K.lookup fBe = some ⟨ocBe, odBe, .func (PySem.W.fnOf "_law_begin" "_law_begin" (defArgs sBegin) (defBody sBegin) (defScope sBegin) .none kVBe dcBe pmBe anBe cdBe ctBe), slBe⟩)
    (cBe : PySem.W.codeIn K cdBe "_law_begin" = true)
    (kBe : PySem.W.keepIn K (.ref fBe) = true)
    (aMi : PySem.W.nsIn K mainGlobals "_law_mixed" = some (some (.ref fMi)))
    (lMi : K.lookup fMi = some ⟨ocMi, odMi, .func (PySem.W.fnOf "_law_mixed" "_law_mixed" (defArgs sMixed) (defBody sMixed) (defScope sMixed) .none kVMi dcMi pmMi anMi cdMi ctMi), slMi⟩)
    (cMi : PySem.W.codeIn K cdMi "_law_mixed" = true)
    (kMi : PySem.W.keepIn K (.ref fMi) = true)
    (aDr : PySem.W.nsIn K mainGlobals "_law_draw" = some (some (.ref fDr)))
    (lDr : K.lookup fDr = some ⟨ocDr, odDr, .func (PySem.W.fnOf "_law_draw" "_law_draw" (defArgs sDraw) (defBody sDraw) (defScope sDraw) .none kVDr dcDr pmDr anDr cdDr ctDr), slDr⟩)
    (cDr : PySem.W.codeIn K cdDr "_law_draw" = true)
    (kDr : PySem.W.keepIn K (.ref fDr) = true)
    (aPk : PySem.W.nsIn K mainGlobals "_law_pick" = some (some (.ref fPk)))
    (lPk : K.lookup fPk = some ⟨ocPk, odPk, .func (PySem.W.fnOf "_law_pick" "_law_pick" (defArgs sPick) (defBody sPick) (defScope sPick) .none kVPk dcPk pmPk anPk cdPk ctPk), slPk⟩)
    (cPk : PySem.W.codeIn K cdPk "_law_pick" = true)
    (kPk : PySem.W.keepIn K (.ref fPk) = true)
    (aDt : PySem.W.nsIn K mainGlobals "_law_draw_table" = some (some (.ref fDt)))
    (lDt : K.lookup fDt = some ⟨ocDt, odDt, .func (PySem.W.fnOf "_law_draw_table" "_law_draw_table" (defArgs sDrawT) (defBody sDrawT) (defScope sDrawT) .none kVDt dcDt pmDt anDt cdDt ctDt), slDt⟩)
    (cDt : PySem.W.codeIn K cdDt "_law_draw_table" = true)
    (kDt : PySem.W.keepIn K (.ref fDt) = true)
    (aNt : PySem.W.nsIn K mainGlobals "_law_new_table" = some (some (.ref fNt)))
    (lNt : K.lookup fNt = some ⟨ocNt, odNt, .func (PySem.W.fnOf "_law_new_table" "_law_new_table" (defArgs sNewT) (defBody sNewT) (defScope sNewT) .none kVNt dcNt pmNt anNt cdNt ctNt), slNt⟩)
    (cNt : PySem.W.codeIn K cdNt "_law_new_table" = true)
    (kNt : PySem.W.keepIn K (.ref fNt) = true)
    (aOf : PySem.W.nsIn K mainGlobals "_law_offers" = some (some (.ref fOf)))
    (lOf : K.lookup fOf = some ⟨ocOf, odOf, .func (PySem.W.fnOf "_law_offers" "_law_offers" (defArgs sOffers) (defBody sOffers) (defScope sOffers) .none kVOf dcOf pmOf anOf cdOf ctOf), slOf⟩)
    (cOf : PySem.W.codeIn K cdOf "_law_offers" = true)
    (kOf : PySem.W.keepIn K (.ref fOf) = true)
    (aEt : PySem.W.nsIn K mainGlobals "_law_enter" = some (some (.ref fEt)))
    (lEt : K.lookup fEt = some ⟨ocEt, odEt, .func (PySem.W.fnOf "_law_enter" "_law_enter" (defArgs sEnter) (defBody sEnter) (defScope sEnter) .none kVEt dcEt pmEt anEt cdEt ctEt), slEt⟩)
    (cEt : PySem.W.codeIn K cdEt "_law_enter" = true)
    (kEt : PySem.W.keepIn K (.ref fEt) = true)
    (aLg : PySem.W.nsIn K mainGlobals "_law_give" = some (some (.ref fLg)))
    (lLg : K.lookup fLg = some ⟨ocLg, odLg, .func (PySem.W.fnOf "_law_give" "_law_give" (defArgs sLGive) (defBody sLGive) (defScope sLGive) .none kVLg dcLg pmLg anLg cdLg ctLg), slLg⟩)
    (cLg : PySem.W.codeIn K cdLg "_law_give" = true)
    (kLg : PySem.W.keepIn K (.ref fLg) = true)
    (aLe : PySem.W.nsIn K mainGlobals "_law_end" = some (some (.ref fLe)))
    (lLe : K.lookup fLe = some ⟨ocLe, odLe, .func (PySem.W.fnOf "_law_end" "_law_end" (defArgs sLEnd) (defBody sLEnd) (defScope sLEnd) .none kVLe dcLe pmLe anLe cdLe ctLe), slLe⟩)
    (cLe : PySem.W.codeIn K cdLe "_law_end" = true)
    (kLe : PySem.W.keepIn K (.ref fLe) = true)
    (aJu : PySem.W.nsIn K mainGlobals "_law_judge" = some (some (.ref fJu)))
    (lJu : K.lookup fJu = some ⟨ocJu, odJu, .func (PySem.W.fnOf "_law_judge" "_law_judge" (defArgs sJudge) (defBody sJudge) (defScope sJudge) .none kVJu dcJu pmJu anJu cdJu ctJu), slJu⟩)
    (cJu : PySem.W.codeIn K cdJu "_law_judge" = true)
    (kJu : PySem.W.keepIn K (.ref fJu) = true)
    (aWh : PySem.W.nsIn K mainGlobals "_law_which" = some (some (.ref fWh)))
    (lWh : K.lookup fWh = some ⟨ocWh, odWh, .func (PySem.W.fnOf "_law_which" "_law_which" (defArgs sWhich) (defBody sWhich) (defScope sWhich) .none kVWh dcWh pmWh anWh cdWh ctWh), slWh⟩)
    (cWh : PySem.W.codeIn K cdWh "_law_which" = true)
    (kWh : PySem.W.keepIn K (.ref fWh) = true)
    (aCa : PySem.W.nsIn K mainGlobals "_law_caught" = some (some (.ref fCa)))
    (lCa : K.lookup fCa = some ⟨ocCa, odCa, .func (PySem.W.fnOf "_law_caught" "_law_caught" (defArgs sCaught) (defBody sCaught) (defScope sCaught) .none kVCa dcCa pmCa anCa cdCa ctCa), slCa⟩)
    (cCa : PySem.W.codeIn K cdCa "_law_caught" = true)
    (kCa : PySem.W.keepIn K (.ref fCa) = true)
    (aTj : PySem.W.nsIn K mainGlobals "_law_told_handle" = some (some (.ref fTj)))
    (lTj : K.lookup fTj = some ⟨ocTj, odTj, .func (PySem.W.fnOf "_law_told_handle" "_law_told_handle" (defArgs sToldH) (defBody sToldH) (defScope sToldH) .none kVTj dcTj pmTj anTj cdTj ctTj), slTj⟩)
    (cTj : PySem.W.codeIn K cdTj "_law_told_handle" = true)
    (kTj : PySem.W.keepIn K (.ref fTj) = true)
    (aFt : PySem.W.nsIn K mainGlobals "_law_fits" = some (some (.ref fFt)))
    (lFt : K.lookup fFt = some ⟨ocFt, odFt, .func (PySem.W.fnOf "_law_fits" "_law_fits" (defArgs sFits) (defBody sFits) (defScope sFits) .none kVFt dcFt pmFt anFt cdFt ctFt), slFt⟩)
    (cFt : PySem.W.codeIn K cdFt "_law_fits" = true)
    (kFt : PySem.W.keepIn K (.ref fFt) = true)
    (aGv : PySem.W.nsIn K mainGlobals "_law_gives" = some (some (.ref fGv)))
    (lGv : K.lookup fGv = some ⟨ocGv, odGv, .func (PySem.W.fnOf "_law_gives" "_law_gives" (defArgs sGives) (defBody sGives) (defScope sGives) .none kVGv dcGv pmGv anGv cdGv ctGv), slGv⟩)
    (cGv : PySem.W.codeIn K cdGv "_law_gives" = true)
    (kGv : PySem.W.keepIn K (.ref fGv) = true)
    (aDe : PySem.W.nsIn K mainGlobals "_law_deeds" = some (some (.ref fDe)))
    (lDe : K.lookup fDe = some ⟨ocDe, odDe, .func (PySem.W.fnOf "_law_deeds" "_law_deeds" (defArgs sDeeds) (defBody sDeeds) (defScope sDeeds) .none kVDe dcDe pmDe anDe cdDe ctDe), slDe⟩)
    (cDe : PySem.W.codeIn K cdDe "_law_deeds" = true)
    (kDe : PySem.W.keepIn K (.ref fDe) = true)
    (aLa : PySem.W.nsIn K mainGlobals "law" = some (some (.ref fLa)))
    (lLa : K.lookup fLa = some ⟨ocLa, odLa, .func (PySem.W.fnOf "law" "law" (defArgs sLaw) (defBody sLaw) (defScope sLaw) .none kVLa dcLa pmLa anLa (.ref cCLa) ctLa), slLa⟩)
    (cLa : PySem.W.codeIn K (.ref cCLa) "law" = true)
    (kLa : PySem.W.keepIn K (.ref fLa) = true)
    (tCLa : K.lookup cCLa = some ⟨ccLa, cd'La, .fields cvLa, csLa⟩)
    (tPLa : cvLa[11]? = some (.ref PTLa))
    (tNLa : K.lookup PTLa = none)
    (tHLa : PySem.W.codeHdIn K cCLa PTLa = true)
    (tTLa : h.get? PTLa = some { cls := .none, data := .fields #[] })
    (hH : PySem.W.nsIn K mainGlobals "HandleError" = some (some (.ref cH)))
    (n0 : PySem.W.nsIn K mainGlobals "InvalidNumber" = some (some (.ref C0)))
    (n1 : PySem.W.nsIn K mainGlobals "InvalidName" = some (some (.ref C1)))
    (n2 : PySem.W.nsIn K mainGlobals "InvalidRow" = some (some (.ref C2)))
    (n3 : PySem.W.nsIn K mainGlobals "InvalidSort" = some (some (.ref C3)))
    (n4 : PySem.W.nsIn K mainGlobals "InvalidProgram" = some (some (.ref C4)))
    (n5 : PySem.W.nsIn K mainGlobals "InvalidText" = some (some (.ref C5)))
    (n6 : PySem.W.nsIn K mainGlobals "InvalidBook" = some (some (.ref C6)))
    (n7 : PySem.W.nsIn K mainGlobals "InvalidHands" = some (some (.ref C7)))
    (n8 : PySem.W.nsIn K mainGlobals "InvalidStep" = some (some (.ref C8)))
    (n9 : PySem.W.nsIn K mainGlobals "InvalidEdit" = some (some (.ref C9)))
    (n10 : PySem.W.nsIn K mainGlobals "InvalidCommand" = some (some (.ref C10)))
    (n11 : PySem.W.nsIn K mainGlobals "TooMany" = some (some (.ref C11)))
    (n12 : PySem.W.nsIn K mainGlobals "NothingToUndo" = some (some (.ref C12)))
    (iHI : PySem.W.findIn K (.ref cH) "__init__" = some (some (.ref fHI)))
    (lHI : K.lookup fHI = some ⟨ocHI, odHI, .func (PySem.W.fnOf "__init__" "HandleError.__init__" (defArgs sHInit) (defBody sHInit) (defScope sHInit) .none kVHI dcHI pmHI anHI cdHI ctHI), slHI⟩)
    (cHI : PySem.W.codeIn K cdHI "HandleError.__init__" = true)
    (kHI : PySem.W.keepIn K (.ref fHI) = true)
    (eT : errTab K [C0, C1, C2, C3, C4, C5, C6, C7, C8, C9, C10, C11, C12] cH = true)
    (e0 : K.lookup C0 = some (excClassObj nm0 q0 C0 N0 bs0 bm0 true sn0 sub0 ab0 col0 dd0 x00 x10 x20 x30 x50 "ValueError.__new__"))
    (m0 : PySem.HandSPX.refsVE bm0 = true)
    (r0 : erB K C0 fHI = true)
    (e6 : K.lookup C6 = some (excClassObj nm6 q6 C6 N6 bs6 bm6 true sn6 sub6 ab6 col6 dd6 x06 x16 x26 x36 x56 "ValueError.__new__"))
    (m6 : PySem.HandSPX.refsVE bm6 = true)
    (r6 : erB K C6 fHI = true)
    (hC : PySem.W.nsIn K mainGlobals "Table" = some (some (.ref Cd)))
    (hD : PySem.W.nsIn K mainGlobals "Handle" = some (some (.ref Ch)))
    (bCl : clsB K Cd = true)
    (bCh : clsB K Ch = true)
    (nCl : noB K Cd ["_size", "_book", "_turns", "_entries", "_counts", "_many_entries", "_start", "_freed"] = true)
    (nCh : noB K Ch ["_number", "_turn", "_entry"] = true)
    (kY : PySem.W.kitOne K (.ref Ch) (.ref Ch) = some true)
    (kn0 : PySem.W.kitOne K (.type "NoneType") (.ref Ch) = some false)
    (kn1 : PySem.W.kitOne K (.type "int") (.ref Ch) = some false)
    (kn2 : PySem.W.kitOne K (.type "str") (.ref Ch) = some false)
    (kn3 : PySem.W.kitOne K (.type "tuple") (.ref Ch) = some false)
    (kn4 : PySem.W.kitOne K (.type "list") (.ref Ch) = some false)
    (kn5 : PySem.W.kitOne K (.type "dict") (.ref Ch) = some false)
    (fpNu : PySem.W.findIn K (.ref Ch) "number" = some (some (.ref pNu)))
    (gpNu : PySem.W.specialIn K (.ref pNu) "__get__" = some (some (.builtin "property.__get__")))
    (tpNu : PySem.W.takesIn K (.ref pNu) = some true)
    (rpNu : PySem.W.recIn K pNu "property" = some (.ref fNu :: reNu))
    (lNu : K.lookup fNu = some ⟨ocNu, odNu, .func (PySem.W.fnOf "number" "Handle.number" (defArgs sHdNumber) (defBody sHdNumber) (defScope sHdNumber) .none kVNu dcNu pmNu anNu cdNu ctNu), slNu⟩)
    (cNu : PySem.W.codeIn K cdNu "Handle.number" = true)
    (kNu : PySem.W.keepIn K (.ref fNu) = true)
    (fpTu : PySem.W.findIn K (.ref Ch) "turn" = some (some (.ref pTu)))
    (gpTu : PySem.W.specialIn K (.ref pTu) "__get__" = some (some (.builtin "property.__get__")))
    (tpTu : PySem.W.takesIn K (.ref pTu) = some true)
    (rpTu : PySem.W.recIn K pTu "property" = some (.ref fTu :: reTu))
    (lTu : K.lookup fTu = some ⟨ocTu, odTu, .func (PySem.W.fnOf "turn" "Handle.turn" (defArgs sHdTurn) (defBody sHdTurn) (defScope sHdTurn) .none kVTu dcTu pmTu anTu cdTu ctTu), slTu⟩)
    (cTu : PySem.W.codeIn K cdTu "Handle.turn" = true)
    (kTu : PySem.W.keepIn K (.ref fTu) = true)
    (fpEn : PySem.W.findIn K (.ref Ch) "entry" = some (some (.ref pEn)))
    (gpEn : PySem.W.specialIn K (.ref pEn) "__get__" = some (some (.builtin "property.__get__")))
    (tpEn : PySem.W.takesIn K (.ref pEn) = some true)
    (rpEn : PySem.W.recIn K pEn "property" = some (.ref fEn :: reEn))
    (lEn : K.lookup fEn = some ⟨ocEn, odEn, .func (PySem.W.fnOf "entry" "Handle.entry" (defArgs sHdEntry) (defBody sHdEntry) (defScope sHdEntry) .none kVEn dcEn pmEn anEn cdEn ctEn), slEn⟩)
    (cEn : PySem.W.codeIn K cdEn "Handle.entry" = true)
    (kEn : PySem.W.keepIn K (.ref fEn) = true)
    (fpSi : PySem.W.findIn K (.ref Cd) "size" = some (some (.ref pSi)))
    (gpSi : PySem.W.specialIn K (.ref pSi) "__get__" = some (some (.builtin "property.__get__")))
    (tpSi : PySem.W.takesIn K (.ref pSi) = some true)
    (rpSi : PySem.W.recIn K pSi "property" = some (.ref fSi :: reSi))
    (lSi : K.lookup fSi = some ⟨ocSi, odSi, .func (PySem.W.fnOf "size" "Table.size" (defArgs sTbSize) (defBody sTbSize) (defScope sTbSize) .none kVSi dcSi pmSi anSi cdSi ctSi), slSi⟩)
    (cSi : PySem.W.codeIn K cdSi "Table.size" = true)
    (kSi : PySem.W.keepIn K (.ref fSi) = true)
    (fpBo : PySem.W.findIn K (.ref Cd) "book" = some (some (.ref pBo)))
    (gpBo : PySem.W.specialIn K (.ref pBo) "__get__" = some (some (.builtin "property.__get__")))
    (tpBo : PySem.W.takesIn K (.ref pBo) = some true)
    (rpBo : PySem.W.recIn K pBo "property" = some (.ref fBo :: reBo))
    (lBo : K.lookup fBo = some ⟨ocBo, odBo, .func (PySem.W.fnOf "book" "Table.book" (defArgs sTbBook) (defBody sTbBook) (defScope sTbBook) .none kVBo dcBo pmBo anBo cdBo ctBo), slBo⟩)
    (cBo : PySem.W.codeIn K cdBo "Table.book" = true)
    (kBo : PySem.W.keepIn K (.ref fBo) = true)
    (fpTs : PySem.W.findIn K (.ref Cd) "turns" = some (some (.ref pTs)))
    (gpTs : PySem.W.specialIn K (.ref pTs) "__get__" = some (some (.builtin "property.__get__")))
    (tpTs : PySem.W.takesIn K (.ref pTs) = some true)
    (rpTs : PySem.W.recIn K pTs "property" = some (.ref fTs :: reTs))
    (lTs : K.lookup fTs = some ⟨ocTs, odTs, .func (PySem.W.fnOf "turns" "Table.turns" (defArgs sTbTurns) (defBody sTbTurns) (defScope sTbTurns) .none kVTs dcTs pmTs anTs cdTs ctTs), slTs⟩)
    (cTs : PySem.W.codeIn K cdTs "Table.turns" = true)
    (kTs : PySem.W.keepIn K (.ref fTs) = true)
    (fmGn : PySem.W.findIn K (.ref Cd) "_given" = some (some (.ref fGn)))
    (lGn : K.lookup fGn = some ⟨ocGn, odGn, .func (PySem.W.fnOf "_given" "Table._given" (defArgs sTbGiven) (defBody sTbGiven) (defScope sTbGiven) .none kVGn dcGn pmGn anGn cdGn ctGn), slGn⟩)
    (cGn : PySem.W.codeIn K cdGn "Table._given" = true)
    (kGn : PySem.W.keepIn K (.ref fGn) = true)
    (fnGn : PySem.W.isFn K (.ref fGn) = true)
    (fmRn : PySem.W.findIn K (.ref Cd) "_renewed" = some (some (.ref fRn)))
    (lRn : K.lookup fRn = some ⟨ocRn, odRn, .func (PySem.W.fnOf "_renewed" "Table._renewed" (defArgs sTbRenewed) (defBody sTbRenewed) (defScope sTbRenewed) .none kVRn dcRn pmRn anRn cdRn ctRn), slRn⟩)
    (cRn : PySem.W.codeIn K cdRn "Table._renewed" = true)
    (kRn : PySem.W.keepIn K (.ref fRn) = true)
    (fnRn : PySem.W.isFn K (.ref fRn) = true)
    (fmOt : PySem.W.findIn K (.ref Cd) "_turn_of" = some (some (.ref fOt)))
    (lOt : K.lookup fOt = some ⟨ocOt, odOt, .func (PySem.W.fnOf "_turn_of" "Table._turn_of" (defArgs sTbTurnOf) (defBody sTbTurnOf) (defScope sTbTurnOf) .none kVOt dcOt pmOt anOt cdOt ctOt), slOt⟩)
    (cOt : PySem.W.codeIn K cdOt "Table._turn_of" = true)
    (kOt : PySem.W.keepIn K (.ref fOt) = true)
    (fnOt : PySem.W.isFn K (.ref fOt) = true)
    (fmCl : PySem.W.findIn K (.ref Cd) "close" = some (some (.ref fCl)))
    (lCl : K.lookup fCl = some ⟨ocCl, odCl, .func (PySem.W.fnOf "close" "Table.close" (defArgs sTbClose) (defBody sTbClose) (defScope sTbClose) .none kVCl dcCl pmCl anCl cdCl ctCl), slCl⟩)
    (cCl : PySem.W.codeIn K cdCl "Table.close" = true)
    (kCl : PySem.W.keepIn K (.ref fCl) = true)
    (fnCl : PySem.W.isFn K (.ref fCl) = true)
    (fmUs : PySem.W.findIn K (.ref Cd) "use" = some (some (.ref fUs)))
    (lUs : K.lookup fUs = some ⟨ocUs, odUs, .func (PySem.W.fnOf "use" "Table.use" (defArgs sTbUse) (defBody sTbUse) (defScope sTbUse) .none kVUs dcUs pmUs anUs cdUs ctUs), slUs⟩)
    (cUs : PySem.W.codeIn K cdUs "Table.use" = true)
    (kUs : PySem.W.keepIn K (.ref fUs) = true)
    (fnUs : PySem.W.isFn K (.ref fUs) = true)
    (fmFr : PySem.W.findIn K (.ref Cd) "free" = some (some (.ref fFr)))
    (lFr : K.lookup fFr = some ⟨ocFr, odFr, .func (PySem.W.fnOf "free" "Table.free" (defArgs sTbFree) (defBody sTbFree) (defScope sTbFree) .none kVFr dcFr pmFr anFr cdFr ctFr), slFr⟩)
    (cFr : PySem.W.codeIn K cdFr "Table.free" = true)
    (kFr : PySem.W.keepIn K (.ref fFr) = true)
    (fnFr : PySem.W.isFn K (.ref fFr) = true)
    (fmTo : PySem.W.findIn K (.ref Cd) "_told" = some (some (.ref fTo)))
    (lTo : K.lookup fTo = some ⟨ocTo, odTo, .func (PySem.W.fnOf "_told" "Table._told" (defArgs sTbTold) (defBody sTbTold) (defScope sTbTold) .none kVTo dcTo pmTo anTo cdTo ctTo), slTo⟩)
    (cTo : PySem.W.codeIn K cdTo "Table._told" = true)
    (kTo : PySem.W.keepIn K (.ref fTo) = true)
    (fnTo : PySem.W.isFn K (.ref fTo) = true)
    (fmLn : PySem.W.findIn K (.ref Cd) "__len__" = some (some (.ref fLn)))
    (lLn : K.lookup fLn = some ⟨ocLn, odLn, .func (PySem.W.fnOf "__len__" "Table.__len__" (defArgs sTbLen) (defBody sTbLen) (defScope sTbLen) .none kVLn dcLn pmLn anLn cdLn ctLn), slLn⟩)
    (cLn : PySem.W.codeIn K cdLn "Table.__len__" = true)
    (kLn : PySem.W.keepIn K (.ref fLn) = true)
    (fnLn : PySem.W.isFn K (.ref fLn) = true)
    (fmIt : PySem.W.findIn K (.ref Cd) "__getitem__" = some (some (.ref fIt)))
    (lIt : K.lookup fIt = some ⟨ocIt, odIt, .func (PySem.W.fnOf "__getitem__" "Table.__getitem__" (defArgs sTbItem) (defBody sTbItem) (defScope sTbItem) .none kVIt dcIt pmIt anIt cdIt ctIt), slIt⟩)
    (cIt : PySem.W.codeIn K cdIt "Table.__getitem__" = true)
    (kIt : PySem.W.keepIn K (.ref fIt) = true)
    (fnIt : PySem.W.isFn K (.ref fIt) = true)
    (fmRw : PySem.W.findIn K (.ref Cd) "renew" = some (some (.ref fRw)))
    (lRw : K.lookup fRw = some ⟨ocRw, odRw, .func (PySem.W.fnOf "renew" "Table.renew" (defArgs sTbRenew) (defBody sTbRenew) (defScope sTbRenew) .none kVRw dcRw pmRw anRw cdRw ctRw), slRw⟩)
    (cRw : PySem.W.codeIn K cdRw "Table.renew" = true)
    (kRw : PySem.W.keepIn K (.ref fRw) = true)
    (fnRw : PySem.W.isFn K (.ref fRw) = true)
    (fmIc : PySem.W.findIn K (.ref Cd) "__contains__" = some (some (.ref fIc)))
    (lIc : K.lookup fIc = some ⟨ocIc, odIc, .func (PySem.W.fnOf "__contains__" "Table.__contains__" (defArgs sTbIn) (defBody sTbIn) (defScope sTbIn) .none kVIc dcIc pmIc anIc cdIc ctIc), slIc⟩)
    (cIc : PySem.W.codeIn K cdIc "Table.__contains__" = true)
    (kIc : PySem.W.keepIn K (.ref fIc) = true)
    (fnIc : PySem.W.isFn K (.ref fIc) = true)
    (fmCp : PySem.W.findIn K (.ref Cd) "copied" = some (some (.ref fCp)))
    (lCp : K.lookup fCp = some ⟨ocCp, odCp, .func (PySem.W.fnOf "copied" "Table.copied" (defArgs sTbCopied) (defBody sTbCopied) (defScope sTbCopied) .none kVCp dcCp pmCp anCp cdCp ctCp), slCp⟩)
    (cCp : PySem.W.codeIn K cdCp "Table.copied" = true)
    (kCp : PySem.W.keepIn K (.ref fCp) = true)
    (fnCp : PySem.W.isFn K (.ref fCp) = true)
    (fiIt : PySem.W.fnIn K fIt = true)
    (fmIn : PySem.W.findIn K (.ref Cd) "__init__" = some (some (.ref fIn)))
    (lIn : K.lookup fIn = some ⟨ocIn, odIn, .func (PySem.W.fnOf "__init__" "Table.__init__" (defArgs sTbInit) (defBody sTbInit) (defScope sTbInit) .none (.ref Dk) dcIn pmIn anIn cdIn ctIn), slIn⟩)
    (cIn : PySem.W.codeIn K cdIn "Table.__init__" = true)
    (kIn : PySem.W.keepIn K (.ref fIn) = true)
    (fnIn' : PySem.W.isFn K (.ref fIn) = true)
    (nD : PySem.W.nsIn K Dk "book" = some (some (.str "least" tD)))
    (nE : PySem.W.nsIn K Dk "turns" = some (some (.int 1 tE)))
    (fmHn : PySem.W.findIn K (.ref Ch) "__init__" = some (some (.ref fHn)))
    (lHn : K.lookup fHn = some ⟨ocHn, odHn, .func (PySem.W.fnOf "__init__" "Handle.__init__" (defArgs sHdInit) (defBody sHdInit) (defScope sHdInit) (.ref Th) (.ref Dh) dcHn pmHn anHn cdHn ctHn), slHn⟩)
    (cHn : PySem.W.codeIn K cdHn "Handle.__init__" = true)
    (kHn : PySem.W.keepIn K (.ref fHn) = true)
    (fnHn' : PySem.W.isFn K (.ref fHn) = true)
    (lT : K.lookup Th = some ⟨cT, dT, .seq aT nT, slT⟩)
    (vT : aT = [Value.int 0 tT].toArray)
    (nH : PySem.W.nsIn K Dh "entry" = some (some (.int 0 tH)))
    (fmGi : PySem.W.findIn K (.ref Cd) "give" = some (some (.ref fGi)))
    (lGi : K.lookup fGi = some ⟨ocGi, odGi, .func (PySem.W.fnOf "give" "Table.give" (defArgs sTbGive) (defBody sTbGive) (defScope sTbGive) (.ref Tg) kVGi dcGi pmGi anGi cdGi ctGi), slGi⟩)
    (cGi : PySem.W.codeIn K cdGi "Table.give" = true)
    (kGi : PySem.W.keepIn K (.ref fGi) = true)
    (fnGi : PySem.W.isFn K (.ref fGi) = true)
    (lG : K.lookup Tg = some ⟨cG, dG, .seq aG nG, slG⟩)
    (vG : aG = [Value.none].toArray)
    (hB : PySem.W.nsIn K mainGlobals "BOOKS" = some (some (.ref aB)))
    (lB : K.lookup aB = some ⟨ocB, odB, daB, slB⟩)
    (iB : isTupV ocB daB booksL = true)
    (hN : PySem.W.nsIn K mainGlobals "MOST_NUMBERS" = some (some (.int 60 tN)))
    (hU : PySem.W.nsIn K mainGlobals "MOST_TURNS" = some (some (.int 4 tU)))
    (z_int : PySem.W.nsIn K mainGlobals "int" = some none)
    (z_abs : PySem.W.nsIn K mainGlobals "abs" = some none)
    (z_len : PySem.W.nsIn K mainGlobals "len" = some none)
    (z_str : PySem.W.nsIn K mainGlobals "str" = some none)
    (z_range : PySem.W.nsIn K mainGlobals "range" = some none)
    (z_isinstance : PySem.W.nsIn K mainGlobals "isinstance" = some none)
    (z_bool : PySem.W.nsIn K mainGlobals "bool" = some none)
    (z_repr : PySem.W.nsIn K mainGlobals "repr" = some none)
    (z_tuple : PySem.W.nsIn K mainGlobals "tuple" = some none)
    (z_enumerate : PySem.W.nsIn K mainGlobals "enumerate" = some none)
    (z_list : PySem.W.nsIn K mainGlobals "list" = some none)
    : ∃ (fd : FuncData) (cs : List (Addr × Addr)) (sp : Sp), (∀ p ∈ cs, h.get? p.2 = some { cls := .none, data := .fields #[] } ∧ K.lookup p.2 = none ∧ PySem.W.CodeHd h p.1 p.2) ∧
        (∀ (H : Hp) (a : Addr) (ns : List Int), ns.length ≤ 63 → (∀ z ∈ ns, Builtin.Int.intBits z ≤ 1048576) → (∀ p ∈ cs, H p.2 = some (.tbl #[])) → SqL K H a (ns.map V.int) → sp [.ref a] H (fun v _ => v = .bl true) fun _ _ _ => False) ∧
        (∀ (s : Shared) (u : Value), BindsTo s fd ⟨[u], []⟩ [("script", u)]) ∧
        ∀ base : Heap, K.In base → base.Ns mainGlobals mg → (∀ p ∈ cs, LamX.TabB base mg p.1 p.2) → FnG l.prog w K mg base CX0 14 fa fd ["script"] sp := by
  have e := hfa.symm.trans (PySem.W.mg_of X G aLa)
  cases e
  have FCo := fun_mk (st := sCount) lCo cCo kCo
  have FIx := fun_mk (st := sIndex) lIx cIx kIx
  have FBt := fun_mk (st := sBetween) lBt cBt kBt
  have FBe := fun_mk (st := sBegin) lBe cBe kBe
  have FMi := fun_mk (st := sMixed) lMi cMi kMi
  have FDr := fun_mk (st := sDraw) lDr cDr kDr
  have FPk := fun_mk (st := sPick) lPk cPk kPk
  have FDt := fun_mk (st := sDrawT) lDt cDt kDt
  have FNt := fun_mk (st := sNewT) lNt cNt kNt
  have FOf := fun_mk (st := sOffers) lOf cOf kOf
  have FEt := fun_mk (st := sEnter) lEt cEt kEt
  have FLg := fun_mk (st := sLGive) lLg cLg kLg
  have FLe := fun_mk (st := sLEnd) lLe cLe kLe
  have FJu := fun_mk (st := sJudge) lJu cJu kJu
  have FWh := fun_mk (st := sWhich) lWh cWh kWh
  have FCa := fun_mk (st := sCaught) lCa cCa kCa
  have FTj := fun_mk (st := sToldH) lTj cTj kTj
  have FFt := fun_mk (st := sFits) lFt cFt kFt
  have FGv := fun_mk (st := sGives) lGv cGv kGv
  have FDe := fun_mk (st := sDeeds) lDe cDe kDe
  have FNu := fun_mk (st := sHdNumber) lNu cNu kNu
  have FTu := fun_mk (st := sHdTurn) lTu cTu kTu
  have FEn := fun_mk (st := sHdEntry) lEn cEn kEn
  have FSi := fun_mk (st := sTbSize) lSi cSi kSi
  have FBo := fun_mk (st := sTbBook) lBo cBo kBo
  have FTs := fun_mk (st := sTbTurns) lTs cTs kTs
  have FHI := fun_mk (st := sHInit) lHI cHI kHI
  have FGn := fun_mk (st := sTbGiven) lGn cGn kGn
  have FRn := fun_mk (st := sTbRenewed) lRn cRn kRn
  have FOt := fun_mk (st := sTbTurnOf) lOt cOt kOt
  have FCl := fun_mk (st := sTbClose) lCl cCl kCl
  have FUs := fun_mk (st := sTbUse) lUs cUs kUs
  have FFr := fun_mk (st := sTbFree) lFr cFr kFr
  have FTo := fun_mk (st := sTbTold) lTo cTo kTo
  have FLn := fun_mk (st := sTbLen) lLn cLn kLn
  have FIt := fun_mk (st := sTbItem) lIt cIt kIt
  have FRw := fun_mk (st := sTbRenew) lRw cRw kRw
  have FIc := fun_mk (st := sTbIn) lIc cIc kIc
  have FCp := fun_mk (st := sTbCopied) lCp cCp kCp
  have gCo := PySem.W.mg_of X G aCo
  have gIx := PySem.W.mg_of X G aIx
  have gBt := PySem.W.mg_of X G aBt
  have gBe := PySem.W.mg_of X G aBe
  have gMi := PySem.W.mg_of X G aMi
  have gDr := PySem.W.mg_of X G aDr
  have gPk := PySem.W.mg_of X G aPk
  have gDt := PySem.W.mg_of X G aDt
  have gNt := PySem.W.mg_of X G aNt
  have gOf := PySem.W.mg_of X G aOf
  have gEt := PySem.W.mg_of X G aEt
  have gLg := PySem.W.mg_of X G aLg
  have gLe := PySem.W.mg_of X G aLe
  have gJu := PySem.W.mg_of X G aJu
  have gWh := PySem.W.mg_of X G aWh
  have gCa := PySem.W.mg_of X G aCa
  have gTj := PySem.W.mg_of X G aTj
  have gFt := PySem.W.mg_of X G aFt
  have gGv := PySem.W.mg_of X G aGv
  have gDe := PySem.W.mg_of X G aDe
  have BCo := FCo.binds (ps := ["value"]) fun _ _ _ _ _ _ us hl => match us, hl with | [_], _ => rfl
  have BIx := FIx.binds (ps := ["value", "many"]) fun _ _ _ _ _ _ us hl => match us, hl with | [_, _], _ => rfl
  have BBt := FBt.binds (ps := ["value", "least", "most"]) fun _ _ _ _ _ _ us hl => match us, hl with | [_, _, _], _ => rfl
  have BBe := FBe.binds (ps := ["script"]) fun _ _ _ _ _ _ us hl => match us, hl with | [_], _ => rfl
  have BMi := FMi.binds (ps := ["pool", "many"]) fun _ _ _ _ _ _ us hl => match us, hl with | [_, _], _ => rfl
  have BDr := FDr.binds (ps := ["pool", "many"]) fun _ _ _ _ _ _ us hl => match us, hl with | [_, _], _ => rfl
  have BPk := FPk.binds (ps := ["pool", "some"]) fun _ _ _ _ _ _ us hl => match us, hl with | [_, _], _ => rfl
  have BDt := FDt.binds (ps := ["pool", "most"]) fun _ _ _ _ _ _ us hl => match us, hl with | [_, _], _ => rfl
  have BNt := FNt.binds (ps := ["wide"]) fun _ _ _ _ _ _ us hl => match us, hl with | [_], _ => rfl
  have BOf := FOf.binds (ps := ["word", "table"]) fun _ _ _ _ _ _ us hl => match us, hl with | [_, _], _ => rfl
  have BEt := FEt.binds (ps := ["table", "cycle", "number"]) fun _ _ _ _ _ _ us hl => match us, hl with | [_, _, _], _ => rfl
  have BLg := FLg.binds (ps := ["table", "cycle", "number"]) fun _ _ _ _ _ _ us hl => match us, hl with | [_, _, _], _ => rfl
  have BLe := FLe.binds (ps := ["table", "number"]) fun _ _ _ _ _ _ us hl => match us, hl with | [_, _], _ => rfl
  have BJu := FJu.binds (ps := ["table", "cycle", "handle"]) fun _ _ _ _ _ _ us hl => match us, hl with | [_, _, _], _ => rfl
  have BWh := FWh.binds (ps := ["error"]) fun _ _ _ _ _ _ us hl => match us, hl with | [_], _ => rfl
  have BCa := FCa.binds (ps := ["call"]) fun _ _ _ _ _ _ us hl => match us, hl with | [_], _ => rfl
  have BTj := FTj.binds (ps := ["found", "due"]) fun _ _ _ _ _ _ us hl => match us, hl with | [_, _], _ => rfl
  have BFt := FFt.binds (ps := ["table", "desk", "state", "known"]) fun _ _ _ _ _ _ us hl => match us, hl with | [_, _, _, _], _ => rfl
  have BGv := FGv.binds (ps := ["pool", "table", "desk", "state", "known"]) fun _ _ _ _ _ _ us hl => match us, hl with | [_, _, _, _, _], _ => rfl
  have BDe := FDe.binds (ps := ["pool", "table", "desk", "state", "known"]) fun _ _ _ _ _ _ us hl => match us, hl with | [_, _, _, _, _], _ => rfl
  have BNu := FNu.binds (ps := ["self"]) fun _ _ _ _ _ _ us hl => match us, hl with | [_], _ => rfl
  have BTu := FTu.binds (ps := ["self"]) fun _ _ _ _ _ _ us hl => match us, hl with | [_], _ => rfl
  have BEn := FEn.binds (ps := ["self"]) fun _ _ _ _ _ _ us hl => match us, hl with | [_], _ => rfl
  have BSi := FSi.binds (ps := ["self"]) fun _ _ _ _ _ _ us hl => match us, hl with | [_], _ => rfl
  have BBo := FBo.binds (ps := ["self"]) fun _ _ _ _ _ _ us hl => match us, hl with | [_], _ => rfl
  have BTs := FTs.binds (ps := ["self"]) fun _ _ _ _ _ _ us hl => match us, hl with | [_], _ => rfl
  have BHI := FHI.binds (ps := ["self", "value"]) fun _ _ _ _ _ _ us hl => match us, hl with | [_, _], _ => rfl
  have BGn := FGn.binds (ps := ["self", "number"]) fun _ _ _ _ _ _ us hl => match us, hl with | [_, _], _ => rfl
  have BRn := FRn.binds (ps := ["self", "number"]) fun _ _ _ _ _ _ us hl => match us, hl with | [_, _], _ => rfl
  have BOt := FOt.binds (ps := ["self", "number"]) fun _ _ _ _ _ _ us hl => match us, hl with | [_, _], _ => rfl
  have BCl := FCl.binds (ps := ["self", "handle"]) fun _ _ _ _ _ _ us hl => match us, hl with | [_, _], _ => rfl
  have BUs := FUs.binds (ps := ["self", "handle"]) fun _ _ _ _ _ _ us hl => match us, hl with | [_, _], _ => rfl
  have BFr := FFr.binds (ps := ["self"]) fun _ _ _ _ _ _ us hl => match us, hl with | [_], _ => rfl
  have BTo := FTo.binds (ps := ["self", "numbers"]) fun _ _ _ _ _ _ us hl => match us, hl with | [_, _], _ => rfl
  have BLn := FLn.binds (ps := ["self"]) fun _ _ _ _ _ _ us hl => match us, hl with | [_], _ => rfl
  have BIt := FIt.binds (ps := ["self", "at"]) fun _ _ _ _ _ _ us hl => match us, hl with | [_, _], _ => rfl
  have BRw := FRw.binds (ps := ["self", "handle"]) fun _ _ _ _ _ _ us hl => match us, hl with | [_, _], _ => rfl
  have BIc := FIc.binds (ps := ["self", "x"]) fun _ _ _ _ _ _ us hl => match us, hl with | [_, _], _ => rfl
  have BCp := FCp.binds (ps := ["self"]) fun _ _ _ _ _ _ us hl => match us, hl with | [_], _ => rfl
  obtain ⟨cl, _, mk1, mk2⟩ := clsB_ok bCl
  obtain ⟨clh, tyI, mh1, mh2⟩ := clsB_ok bCh
  have no := noB_ok nCl
  have noh := noB_ok nCh
  have err := errTab_ok eT
  have TC : TbCls K mg Cd := ⟨cl, no _ (by simp), no _ (by simp), no _ (by simp), no _ (by simp), no _ (by simp), no _ (by simp), no _ (by simp), no _ (by simp), PySem.W.mg_of X G hC⟩
  have HC : HCls K mg Ch := ⟨clh, noh _ (by simp), noh _ (by simp), noh _ (by simp), PySem.W.mg_of X G hD, kY⟩
  have TX : TbTxt K mg aB := ⟨PySem.W.mg_of X G hB, fun H => sqT_written lB iB, PySem.W.mg_none_of X G z_str, ⟨_, PySem.W.mg_of X G hN⟩, ⟨_, PySem.W.mg_of X G hU⟩⟩
  have TX2 : TbTxt2 mg := ⟨PySem.W.mg_none_of X G z_len, PySem.W.mg_none_of X G z_tuple, PySem.W.mg_none_of X G z_enumerate⟩
  have T : HTxt K mg cH [C0, C1, C2, C3, C4, C5, C6, C7, C8, C9, C10, C11, C12] := ⟨PySem.W.mg_none_of X G z_isinstance, PySem.W.mg_none_of X G z_repr, PySem.W.mg_of X G hH, PySem.W.mg_of X G n0, PySem.W.mg_of X G n1, PySem.W.mg_of X G n2, PySem.W.mg_of X G n3, PySem.W.mg_of X G n4, PySem.W.mg_of X G n5, PySem.W.mg_of X G n6, PySem.W.mg_of X G n7, PySem.W.mg_of X G n8, PySem.W.mg_of X G n9, PySem.W.mg_of X G n10, PySem.W.mg_of X G n11, PySem.W.mg_of X G n12,
    fun i hi => (exB_ok (err i hi).1).2.2, fun i hi => (exB_ok (err i (by omega)).1).1, fun i hi => (err i (by omega)).2.2.2.2 hi, fun i j hi hj => (err i hi).2.1 j hj, fun i hi => (err i hi).2.2.1, fun i hi => (err i hi).2.2.2.1⟩
  have PT : PTxt mg := ⟨PySem.W.mg_none_of X G z_int, PySem.W.mg_none_of X G z_abs, PySem.W.mg_none_of X G z_len, PySem.W.mg_none_of X G z_str, PySem.W.mg_none_of X G z_range⟩
  have MT : MTxt K mg := ⟨PySem.W.mg_none_of X G z_isinstance, PySem.W.mg_none_of X G z_int, PySem.W.mg_none_of X G z_bool⟩
  have TF : TxF mg := ⟨PySem.W.mg_none_of X G z_isinstance, PySem.W.mg_none_of X G z_tuple, PySem.W.mg_none_of X G z_list, PySem.W.mg_none_of X G z_len, PySem.W.mg_none_of X G z_range, PySem.W.mg_none_of X G z_repr⟩
  have ml := PySem.W.mg_none_of X G z_list
  have mlen := PySem.W.mg_none_of X G z_len
  have mrng := PySem.W.mg_none_of X G z_range
  have E0' : ErrC K mg "InvalidNumber" C0 fHI := errC_mk (PySem.W.mg_of X G n0) e0 m0 r0
  have E6' : ErrC K mg "InvalidBook" C6 fHI := errC_mk (PySem.W.mg_of X G n6) e6 m6 r6
  have FIn : FunD K "__init__" "Table.__init__" (defArgs sTbInit) (defBody sTbInit) (defScope sTbInit) [] [("book", .str "least"), ("turns", .int 1)] fIn _ :=
    ⟨⟨_, _, _, _, _, _, _, _, _, _, rfl, lIn, cIn, .inl ⟨rfl, rfl⟩, .inr ⟨Dk, rfl, fun q hq => by
      rcases List.mem_cons.mp hq with rfl | hq
      · exact ⟨_, nD, _, rfl⟩
      · rw [List.mem_singleton.mp hq]
        exact ⟨_, nE, _, rfl⟩⟩⟩, kIn⟩
  have FHn : FunD K "__init__" "Handle.__init__" (defArgs sHdInit) (defBody sHdInit) (defScope sHdInit) [.int 0] [("entry", .int 0)] fHn _ :=
    ⟨⟨_, _, _, _, _, _, _, _, _, _, rfl, lHn, cHn, .inr ⟨by simp, Th, _, _, _, rfl, lT, (by rw [vT]), .cons ⟨_, rfl⟩ .nil⟩, .inr ⟨Dh, rfl, fun q hq => by
      rw [List.mem_singleton.mp hq]
      exact ⟨_, nH, _, rfl⟩⟩⟩, kHn⟩
  have FGi : FunD K "give" "Table.give" (defArgs sTbGive) (defBody sTbGive) (defScope sTbGive) [.non] [] fGi _ :=
    ⟨⟨_, _, _, _, _, _, _, _, _, _, rfl, lGi, cGi, .inr ⟨by simp, Tg, _, _, _, rfl, lG, (by rw [vG]), .cons rfl .nil⟩, .inl rfl⟩, kGi⟩
  obtain ⟨kb, _, _, _⟩ := tb_binds FIn
  obtain ⟨kbh, _, _⟩ := hd_binds FHn
  obtain ⟨_, bG2⟩ := gv_binds FGi
  have hno : ∀ n ∈ ["NoneType", "int", "str", "tuple", "list", "dict"], PySem.W.kitOne K (.type n) (.ref Ch) = some false := fun n hn => by
    simp only [List.mem_cons, List.not_mem_nil, or_false] at hn
    rcases hn with rfl | rfl | rfl | rfl | rfl | rfl
    · exact kn0
    · exact kn1
    · exact kn2
    · exact kn3
    · exact kn4
    · exact kn5
  refine ⟨PySem.W.fnOf "law" "law" (defArgs sLaw) (defBody sLaw) (defScope sLaw) .none kVLa dcLa pmLa anLa (.ref cCLa) ctLa, [(cCLa, PTLa)], spLaw K PTLa, fun p hp => ?_, fun H a ns hl _ hc hS => ?_, fun s v => .of_eq rfl, fun base _ _ hTB => ?_⟩
  · rw [List.mem_singleton.mp hp]
    exact ⟨tTLa, tNLa, PySem.W.codeHd_of_K X tHLa⟩
  · exact ⟨a, ns, rfl, hS, hl, hc _ (List.mem_singleton.mpr rfl), fun _ => rfl⟩
  · have GDr : FnOk l.prog w K mg base CX0 2 fDr _ ["pool", "many"] spDraw := ok_draw FDr PT FMi BMi gMi
    have PNu : PropOf K Ch "number" pNu fNu := ⟨fpNu, gpNu, tpNu, _, rpNu⟩
    have PTu : PropOf K Ch "turn" pTu fTu := ⟨fpTu, gpTu, tpTu, _, rpTu⟩
    have PEn : PropOf K Ch "entry" pEn fEn := ⟨fpEn, gpEn, tpEn, _, rpEn⟩
    have GNu : FnOk l.prog w K mg base CX0 1 fNu _ ["self"] (spGet K "_number") := ok_hdNumber FNu
    have GTu : FnOk l.prog w K mg base CX0 1 fTu _ ["self"] (spGet K "_turn") := ok_hdTurn FTu
    have GEn : FnOk l.prog w K mg base CX0 1 fEn _ ["self"] (spGet K "_entry") := ok_hdEntry FEn
    have GH : FnOk l.prog w K mg base (L2.CX l.prog w) 3 fHn _ ["self", "number", "turn", "entry"] (spHandle K Ch C0) := ok_handle FHn MT E0' HC FHI BHI FCo BCo gCo
    have MH : Mk K Ch fHn := ⟨mh1, fmHn, fnHn', mh2⟩
    have GT : FnOk l.prog w K mg base (L2.CX l.prog w) 3 fIn _ ["self", "size", "book", "turns"] (spTable Cd C0 C6) := ok_table FIn MT TC TX E0' E6' FHI BHI FBt BBt gBt (ok_between FBt FCo MT BCo gCo)
    have MTb : Mk K Cd fIn := ⟨mk1, fmIn, fnIn', mk2⟩
    have GTo : FnOk l.prog w K mg base CX0 1 fOt _ ["self", "number"] (spTurnOf Cd) := ok_tbTurnOf FOt TC
    have MOt : Meth K Cd "_turn_of" fOt := ⟨fmOt, fnOt, kOt⟩
    have MRn : Meth K Cd "_renewed" fRn := ⟨fmRn, fnRn, kRn⟩
    have MUs : Meth K Cd "use" fUs := ⟨fmUs, fnUs, kUs⟩
    have MFr : Meth K Cd "free" fFr := ⟨fmFr, fnFr, kFr⟩
    have MGi : Meth K Cd "give" fGi := ⟨fmGi, fnGi, kGi⟩
    have GRn : FnOk l.prog w K mg base CX0 5 fRn _ ["self", "number"] (spRenewed Cd Ch) := ok_tbRenewed FRn TC HC MOt GTo BOt MH GH kbh
    have GGn : FnOk l.prog w K mg base CX0 6 fGn _ ["self", "number"] (spGiven Cd Ch) := ok_tbGiven FGn TC MRn GRn BRn
    have GFr : FnOk l.prog w K mg base CX0 2 fFr _ ["self"] (spTFree Cd) := ok_tbFree FFr TC TX2 ⟨fmTo, fnTo, kTo⟩ FTo BTo
    have GUs : FnOk l.prog w K mg base CX0 3 fUs _ ["self", "handle"] (spUse Cd Ch) := ok_tbUse FUs TC HC MOt GTo BOt PNu GNu BNu PTu GTu BTu PEn GEn BEn
    have GGi : FnOk l.prog w K mg base (L2.CX l.prog w) 7 fGi _ ["self", "number"] (spGive Cd Ch C0) := ok_tbGive FGi TC E0' FHI BHI FCo BCo gCo (ok_count FCo MT) MFr GFr BFr ⟨fmGn, fnGn, kGn⟩ GGn BGn
    have GCl : FnOk l.prog w K mg base CX0 4 fCl _ ["self", "handle"] (spClose Cd Ch) := ok_tbClose FCl TC HC MUs GUs BUs PNu GNu BNu
    have GRw : FnOk l.prog w K mg base CX0 6 fRw _ ["self", "handle"] (spRenewB Cd Ch) := ok_tbRenewB FRw TC HC MUs GUs BUs MRn GRn BRn PNu GNu BNu
    have GPk : FnOk l.prog w K mg base CX0 3 fPk _ ["pool", "some"] spPick := ok_pick FPk mlen FDr BDr gDr GDr
    have GOf : FnOk l.prog w K mg base CX0 1 fOf _ ["word", "table"] spOffers := ok_offers FOf mlen mrng
    have GEt : FnOk l.prog w K mg base CX0 1 fEt _ ["table", "cycle", "number"] spEnter := ok_enter FEt ml
    have GTj : FnG l.prog w K mg base CX0 3 fTj _ ["found", "due"] (spToldH Ch) := ok_toldH FTj TF HC PNu GNu BNu PTu GTu BTu PEn GEn BEn tyI
    exact ok_law lLa cLa T PT TC (hTB _ (List.mem_singleton.mpr rfl)) FBe BBe gBe (ok_begin FBe PT) FDr BDr gDr GDr FDt BDt gDt (ok_drawT FDt FDr BDr gDr GDr) FNt BNt gNt (ok_newT FNt)
      FGv BGv gGv (ok_gives FGv TC FOf BOf gOf GOf FDr BDr gDr GDr FPk BPk gPk GPk MGi GGi bG2 FLg BLg gLg (ok_lgive FLg FEt BEt gEt GEt) FTj BTj gTj GTj)
      FDe BDe gDe (ok_deeds FDe TC HC FDr BDr gDr GDr FPk BPk gPk GPk FJu BJu gJu (ok_judge FJu mlen) MH GH kbh MUs GUs BUs ⟨fmCl, fnCl, kCl⟩ GCl BCl FLe BLe gLe (ok_lend FLe ml) ⟨fmRw, fnRw, kRw⟩ GRw BRw FEt BEt gEt GEt FTj BTj gTj GTj)
      FFt BFt gFt (ok_fits FFt TF TC HC MFr GFr BFr FOf BOf gOf GOf fmLn fnLn (ok_tbLen FLn TC TX2) BLn fmIt fiIt fnIt (ok_tbItem FIt TC E0' FHI BHI FIx BIx gIx (ok_index FIx FCo MT BCo gCo)) BIt fmIc fnIc (ok_tbInB FIc MT TC HC PNu GNu BNu PEn GEn BEn) BIc MH GH kbh hno)
      FWh BWh gWh gCa kCa lCa cCa BCa MTb GT kb MGi GGi bG2 ⟨fmCp, fnCp, kCp⟩ (ok_tbCopied FCp TC ml MTb GT kb) BCp
      ⟨fpSi, gpSi, tpSi, _, rpSi⟩ (ok_tbSize FSi) BSi ⟨fpBo, gpBo, tpBo, _, rpBo⟩ (ok_tbBook FBo) BBo ⟨fpTs, gpTs, tpTs, _, rpTs⟩ (ok_tbTurns FTs) BTs tyI
end Toy

open PySem PySem.W PyProof.Rows in
set_option maxRecDepth 100000 in
set_option maxHeartbeats 0 in
theorem PySem.Challenge.cw_handlesagain_k06_tables_holds : PySem.Challenge.rw_handlesagain_k06_tables.Holds := by
  w_on; o_law; k_head; (case hw => w_witness2)
  k_fill
  refine Toy.walkGT (l := PySem.Challenge.rw_handlesagain_k06_tables) (k := 14) (CX := fun _ => L2.CX0) rfl rfl ⟨rfl, by decide, by decide⟩ (fun w h Y => PySem.W.km_in_of Y) (fun _ _ _ _ _ z => z) ?F
  case F =>
    intro w mg fa h Y KX G hmg
    refine' Toy.all_mk KX G hmg ?aCo ?lCo ?cCo ?kCo ?aIx ?lIx ?cIx ?kIx ?aBt ?lBt ?cBt ?kBt ?aBe ?lBe ?cBe ?kBe ?aMi ?lMi ?cMi ?kMi ?aDr ?lDr ?cDr ?kDr ?aPk ?lPk ?cPk ?kPk ?aDt ?lDt ?cDt ?kDt ?aNt ?lNt ?cNt ?kNt ?aOf ?lOf ?cOf ?kOf ?aEt ?lEt ?cEt ?kEt ?aLg ?lLg ?cLg ?kLg ?aLe ?lLe ?cLe ?kLe ?aJu ?lJu ?cJu ?kJu ?aWh ?lWh ?cWh ?kWh ?aCa ?lCa ?cCa ?kCa ?aTj ?lTj ?cTj ?kTj ?aFt ?lFt ?cFt ?kFt ?aGv ?lGv ?cGv ?kGv ?aDe ?lDe ?cDe ?kDe ?aLa ?lLa ?cLa ?kLa ?tCLa ?tPLa ?tNLa ?tHLa ?tTLa ?hH ?n0 ?n1 ?n2 ?n3 ?n4 ?n5 ?n6 ?n7 ?n8 ?n9 ?n10 ?n11 ?n12 ?iHI ?lHI ?cHI ?kHI ?eT ?e0 ?m0 ?r0 ?e6 ?m6 ?r6 ?hC ?hD ?bCl ?bCh ?nCl ?nCh ?kY ?kn0 ?kn1 ?kn2 ?kn3 ?kn4 ?kn5 ?fpNu ?gpNu ?tpNu ?rpNu ?lNu ?cNu ?kNu ?fpTu ?gpTu ?tpTu ?rpTu ?lTu ?cTu ?kTu ?fpEn ?gpEn ?tpEn ?rpEn ?lEn ?cEn ?kEn ?fpSi ?gpSi ?tpSi ?rpSi ?lSi ?cSi ?kSi ?fpBo ?gpBo ?tpBo ?rpBo ?lBo ?cBo ?kBo ?fpTs ?gpTs ?tpTs ?rpTs ?lTs ?cTs ?kTs ?fmGn ?lGn ?cGn ?kGn ?fnGn ?fmRn ?lRn ?cRn ?kRn ?fnRn ?fmOt ?lOt ?cOt ?kOt ?fnOt ?fmCl ?lCl ?cCl ?kCl ?fnCl ?fmUs ?lUs ?cUs ?kUs ?fnUs ?fmFr ?lFr ?cFr ?kFr ?fnFr ?fmTo ?lTo ?cTo ?kTo ?fnTo ?fmLn ?lLn ?cLn ?kLn ?fnLn ?fmIt ?lIt ?cIt ?kIt ?fnIt ?fmRw ?lRw ?cRw ?kRw ?fnRw ?fmIc ?lIc ?cIc ?kIc ?fnIc ?fmCp ?lCp ?cCp ?kCp ?fnCp ?fiIt ?fmIn ?lIn ?cIn ?kIn ?fnIn' ?nD ?nE ?fmHn ?lHn ?cHn ?kHn ?fnHn' ?lT ?vT ?nH ?fmGi ?lGi ?cGi ?kGi ?fnGi ?lG ?vG ?hB ?lB ?iB ?hN ?hU ?z_int ?z_abs ?z_len ?z_str ?z_range ?z_isinstance ?z_bool ?z_repr ?z_tuple ?z_enumerate ?z_list
    (case aCo => k_is)
    (case lCo => k_is)
    (case cCo => k_is)
    (case kCo => k_is)
    (case aIx => k_is)
    (case lIx => k_is)
    (case cIx => k_is)
    (case kIx => k_is)
    (case aBt => k_is)
    (case lBt => k_is)
    (case cBt => k_is)
    (case kBt => k_is)
    (case aBe => k_is)
    (case lBe => k_is)
    (case cBe => k_is)
    (case kBe => k_is)
    (case aMi => k_is)
    (case lMi => k_is)
    (case cMi => k_is)
    (case kMi => k_is)
    (case aDr => k_is)
    (case lDr => k_is)
    (case cDr => k_is)
    (case kDr => k_is)
    (case aPk => k_is)
    (case lPk => k_is)
    (case cPk => k_is)
    (case kPk => k_is)
    (case aDt => k_is)
    (case lDt => k_is)
    (case cDt => k_is)
    (case kDt => k_is)
    (case aNt => k_is)
    (case lNt => k_is)
    (case cNt => k_is)
    (case kNt => k_is)
    (case aOf => k_is)
    (case lOf => k_is)
    (case cOf => k_is)
    (case kOf => k_is)
    (case aEt => k_is)
    (case lEt => k_is)
    (case cEt => k_is)
    (case kEt => k_is)
    (case aLg => k_is)
    (case lLg => k_is)
    (case cLg => k_is)
    (case kLg => k_is)
    (case aLe => k_is)
    (case lLe => k_is)
    (case cLe => k_is)
    (case kLe => k_is)
    (case aJu => k_is)
    (case lJu => k_is)
    (case cJu => k_is)
    (case kJu => k_is)
    (case aWh => k_is)
    (case lWh => k_is)
    (case cWh => k_is)
    (case kWh => k_is)
    (case aCa => k_is)
    (case lCa => k_is)
    (case cCa => k_is)
    (case kCa => k_is)
    (case aTj => k_is)
    (case lTj => k_is)
    (case cTj => k_is)
    (case kTj => k_is)
    (case aFt => k_is)
    (case lFt => k_is)
    (case cFt => k_is)
    (case kFt => k_is)
    (case aGv => k_is)
    (case lGv => k_is)
    (case cGv => k_is)
    (case kGv => k_is)
    (case aDe => k_is)
    (case lDe => k_is)
    (case cDe => k_is)
    (case kDe => k_is)
    (case aLa => k_is)
    (case lLa => k_is)
    (case cLa => k_is)
    (case kLa => k_is)
    (case tCLa => k_is)
    (case tPLa => exact rfl)
    (case tNLa => kernel_rfl)
    (case tHLa => kernel_rfl)
    (case tTLa => exact PySem.W.km_tabs_of Y _ (by decide))
    (case hH => k_is)
    (case n0 => k_is)
    (case n1 => k_is)
    (case n2 => k_is)
    (case n3 => k_is)
    (case n4 => k_is)
    (case n5 => k_is)
    (case n6 => k_is)
    (case n7 => k_is)
    (case n8 => k_is)
    (case n9 => k_is)
    (case n10 => k_is)
    (case n11 => k_is)
    (case n12 => k_is)
    (case iHI => k_is)
    (case lHI => k_is)
    (case cHI => k_is)
    (case kHI => k_is)
    (case eT => kernel_rfl)
    (case e0 => k_is)
    (case m0 => decide +kernel)
    (case r0 => kernel_rfl)
    (case e6 => k_is)
    (case m6 => decide +kernel)
    (case r6 => kernel_rfl)
    (case hC => k_is)
    (case hD => k_is)
    (case bCl => kernel_rfl)
    (case bCh => kernel_rfl)
    (case nCl => kernel_rfl)
    (case nCh => kernel_rfl)
    (case kY => kernel_rfl)
    (case kn0 => kernel_rfl)
    (case kn1 => kernel_rfl)
    (case kn2 => kernel_rfl)
    (case kn3 => kernel_rfl)
    (case kn4 => kernel_rfl)
    (case kn5 => kernel_rfl)
    (case fpNu => k_is)
    (case gpNu => k_is)
    (case tpNu => k_is)
    (case rpNu => k_is)
    (case lNu => k_is)
    (case cNu => k_is)
    (case kNu => k_is)
    (case fpTu => k_is)
    (case gpTu => k_is)
    (case tpTu => k_is)
    (case rpTu => k_is)
    (case lTu => k_is)
    (case cTu => k_is)
    (case kTu => k_is)
    (case fpEn => k_is)
    (case gpEn => k_is)
    (case tpEn => k_is)
    (case rpEn => k_is)
    (case lEn => k_is)
    (case cEn => k_is)
    (case kEn => k_is)
    (case fpSi => k_is)
    (case gpSi => k_is)
    (case tpSi => k_is)
    (case rpSi => k_is)
    (case lSi => k_is)
    (case cSi => k_is)
    (case kSi => k_is)
    (case fpBo => k_is)
    (case gpBo => k_is)
    (case tpBo => k_is)
    (case rpBo => k_is)
    (case lBo => k_is)
    (case cBo => k_is)
    (case kBo => k_is)
    (case fpTs => k_is)
    (case gpTs => k_is)
    (case tpTs => k_is)
    (case rpTs => k_is)
    (case lTs => k_is)
    (case cTs => k_is)
    (case kTs => k_is)
    (case fmGn => k_is)
    (case lGn => k_is)
    (case cGn => k_is)
    (case kGn => k_is)
    (case fnGn => k_is)
    (case fmRn => k_is)
    (case lRn => k_is)
    (case cRn => k_is)
    (case kRn => k_is)
    (case fnRn => k_is)
    (case fmOt => k_is)
    (case lOt => k_is)
    (case cOt => k_is)
    (case kOt => k_is)
    (case fnOt => k_is)
    (case fmCl => k_is)
    (case lCl => k_is)
    (case cCl => k_is)
    (case kCl => k_is)
    (case fnCl => k_is)
    (case fmUs => k_is)
    (case lUs => k_is)
    (case cUs => k_is)
    (case kUs => k_is)
    (case fnUs => k_is)
    (case fmFr => k_is)
    (case lFr => k_is)
    (case cFr => k_is)
    (case kFr => k_is)
    (case fnFr => k_is)
    (case fmTo => k_is)
    (case lTo => k_is)
    (case cTo => k_is)
    (case kTo => k_is)
    (case fnTo => k_is)
    (case fmLn => k_is)
    (case lLn => k_is)
    (case cLn => k_is)
    (case kLn => k_is)
    (case fnLn => k_is)
    (case fmIt => k_is)
    (case lIt => k_is)
    (case cIt => k_is)
    (case kIt => k_is)
    (case fnIt => k_is)
    (case fmRw => k_is)
    (case lRw => k_is)
    (case cRw => k_is)
    (case kRw => k_is)
    (case fnRw => k_is)
    (case fmIc => k_is)
    (case lIc => k_is)
    (case cIc => k_is)
    (case kIc => k_is)
    (case fnIc => k_is)
    (case fmCp => k_is)
    (case lCp => k_is)
    (case cCp => k_is)
    (case kCp => k_is)
    (case fnCp => k_is)
    (case fiIt => k_is)
    (case fmIn => k_is)
    (case lIn => k_is)
    (case cIn => k_is)
    (case kIn => k_is)
    (case fnIn' => k_is)
    (case nD => k_is)
    (case nE => k_is)
    (case fmHn => k_is)
    (case lHn => k_is)
    (case cHn => k_is)
    (case kHn => k_is)
    (case fnHn' => k_is)
    (case lT => k_is)
    (case vT => exact rfl)
    (case nH => k_is)
    (case fmGi => k_is)
    (case lGi => k_is)
    (case cGi => k_is)
    (case kGi => k_is)
    (case fnGi => k_is)
    (case lG => k_is)
    (case vG => exact rfl)
    (case hB => k_is)
    (case lB => k_is)
    (case iB => kernel_rfl)
    (case hN => k_is)
    (case hU => k_is)
    (case z_int => k_is)
    (case z_abs => k_is)
    (case z_len => k_is)
    (case z_str => k_is)
    (case z_range => k_is)
    (case z_isinstance => k_is)
    (case z_bool => k_is)
    (case z_repr => k_is)
    (case z_tuple => k_is)
    (case z_enumerate => k_is)
    (case z_list => k_is)
