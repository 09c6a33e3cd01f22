import PyProof.Rows.All
import Wide.All
import OpenK.AllK
import Wide.FinOn
import HandS.ForMost
import HandS.Wide
import HandS.Style
import HandS.Walk
import HandS.IsInst
import HandS.Codes
import HandS.ExcInit
import HandS.ExcField
import HandS.ExcIs
import HandS.ExcValue
import HandS.MakeKwOnly
import PySem.Challenge.RW_tailpick_k02_errors
import HandS.DeepEq
set_option Elab.async false
set_option linter.all false
set_option maxRecDepth 100000
set_option maxHeartbeats 4000000
/-! Own exceptions as values: made, asked for their class, read. -/
namespace EX
open PySem PySem.Spec PySem.Calls PyProof.Rows PySem.W
section
variable {prog : Program} {w : World} {A : Around} {E : Value → Shared → Prop} {s : Shared} {K : Frag}
theorem find_class {C : Addr} {od : Option Obj} (T : L2.ExcC K C) : findObj K C od "__class__" = some (.bind (.builtin "getset_descriptor.__get__") (.builtin "object.__class__")) := by
  obtain ⟨cd, hcd, _⟩ := any_some T.hd
  unfold findObj
  rw [hcd, Option.bind_some, T.ha, Option.bind_some]
  simp [T.hn, T.ht]
/-- e.__class__, e an exception with or without a dict of its own -/
theorem class_of {Q : Option Value → Shared → Prop} {e C : Addr} {oe : Obj} {od : Option Obj} (T : L2.ExcC K C) (kin : K.In s.heap) (at_ : InstAt s.heap e oe C od) (done : Q (some (.ref C)) { s with toks := s.toks + 1 }) :
    wpAny (model prog w) A (getAttr? (.ref e) "__class__") Q E s := by
  obtain ⟨hp, gs, dr, tk, os⟩ := s
  have t0 := at_.type (M := model prog w)
  have t1 := looks_findIn (M := model prog w) kin T.hg
  have t2 := looks_findIn (M := model prog w) kin T.hk
  have t3 := looks_find (M := model prog w) kin at_ (find_class (od := od) T)
  have isx : Looks (model prog w) hp (isInstance (.ref e) (.type "BaseException")) true := t0.andThen (looks_subIn kin T.hs)
  have n1 : (Value.builtin "BaseException.__getattribute__" == Value.builtin "object.__getattribute__") = false := by decide +kernel
  unfold getAttr? getAttrBy? getAttrBy
  refine wpAny_bind (wpAny_mkText (wpAny_bind (wpAny_attempt (wpAny_holding (wpAny_bind (t0.at (wpAny_bind (t1.at ?_))))))))
  have n2 : ¬ (onTheHeap (Value.ref C) && Value.builtin "BaseException.__getattribute__" == Value.builtin "object.__getattribute__") = true := by
    rw [n1]
    simp
  show wpAny _ _ (ite ((onTheHeap (Value.ref C) && Value.builtin _ == Value.builtin _) = true) _ _) _ _ _
  rw [if_neg n2]
  unfold getAttrByItsOwn hookBefore
  refine wpAny_bind ?_
  rw [if_pos (show onTheHeap (Value.ref C) = true from rfl)]
  refine t2.at ?_
  refine wpAny_bind (wpAny_attempt (wpAny_holding ?_))
  unfold callGetattribute
  have n3 : ¬ (false && onTheHeap (Value.builtin "BaseException.__getattribute__")) = true := by simp
  rw [if_neg n3]
  unfold boundAndCalled
  rw [PySem.F.excAttr_ValueError.ga.bind (.ref e)]
  refine wpAny_bind (wpAny_pure ?_)
  show wpAny _ _ (call (.builtin _) [.ref e, .str _ tk]) _ _ _
  refine wpAny_call (codeAny_call_builtin PySem.F.excAttr_ValueError.ga.plain PySem.F.entry_bexc_ga ?_)
  refine @check_slot (model prog w) _ _ ⟨hp, gs, dr, tk + 1, os⟩ "BaseException.__getattribute__" "BaseException" "__getattribute__" (.ref e) [.str "__class__" tk] [] _ (by decide +kernel) (by decide +kernel) isx (PySem.F.args_bexc_ga (.ref e) (.str "__class__" tk)) ?_
  unfold Builtin.«object.__getattribute__»
  refine wpAny_bind (wpAny_of_eq (a := ((Value.ref e : Value), [Value.str "__class__" tk])) (by first | rfl | (simp only [slotArgs]; rfl)) ?_)
  refine wpAny_bind (wpAny_pure (wpAny_bind (t0.at (wpAny_bind (t3.at ?_)))))
  show wpAny _ _ (holding [Value.builtin _] (call (.builtin _) [.builtin _, .ref e, .ref C]) >>= ret) _ _ _
  refine wpAny_bind (wpAny_holding (wpAny_call (class_get (s := ⟨hp, gs, dr, tk + 1, os⟩) (ox := oe) (od := od) kin at_ T.hm ?_)))
  refine wpAny_pure ?_
  show wpAny _ _ (handedOut (.ref C)) _ _ _
  rw [handedOut_of (v := .ref C) rfl]
  first
    | exact wpAny_pure (wpAny_pure done)
    | exact wpAny_pure done
    | exact wpAny_pure (wpAny_bind (wpAny_pure (wpAny_pure done)))
end
end EX
namespace EX
open PySem PySem.Spec PyProof.Rows L2
/-- at e: an exception of the class at C, with its own dict or without one -/
inductive IsExc (K : PySem.W.Frag) (H : Hp) (e C : Addr) : Prop where
  | bare (h : H e = some (ExO (.ref C) e))
  | fields {d : Addr} {fs : List (Str × V)} (h : H e = some (exo e C (some d))) (hd : H d = some (exd d fs))
theorem kit_exc {K : PySem.W.Frag} {e C : Addr} {oe : Obj} {od : Option Obj} (T : ExcC K C) : PySem.W.KitX K (.ref e) (.ref C) (fun h => PySem.W.InstAt h e oe C od) := by
  obtain ⟨cd, hcd, _⟩ := PySem.W.any_some T.hd
  refine ⟨fun _ _ _ i => i.type, fun _ _ kin _ => ?_, fun h tp dd its n sl kin htp => ?_, fun kin i k => class_of T kin i k⟩
  · unfold PySem.W.clsIn at hcd
    split at hcd
    · rename_i c1 d1 cd1 sl1 ho
      intro A1 Q1 E1 s1 k q
      unfold isType loadHead
      exact wpAny_bind (wpAny_loadPart (k _ _ (kin _ _ ho)) (wpAny_pure q))
    · cases hcd
  · refine Bool.eq_false_iff.mpr fun q => ?_
    obtain rfl : C = tp := Value.ref.inj (beq_iff_eq.mp q)
    unfold PySem.W.clsIn at hcd
    split at hcd
    · rename_i c1 d1 cd1 sl1 ho
      cases (kin _ _ ho).symm.trans htp
    · cases hcd
theorem inst_of {K : PySem.W.Frag} {P : Program} {w : World} {H : Hp} {h : Heap} {e C : Addr} (ok : HOk P w H h) (x : IsExc K H e C) : ∃ oe od, PySem.W.InstAt h e oe C od := by
  cases x with
  | bare hx =>
    obtain ⟨⟨oe, vs, ho, hz, hd, _⟩, _, _⟩ := ok e _ hx
    refine ⟨oe, none, ho, hz.1, ?_, ?_⟩
    · unfold PySem.W.notCls
      rw [hd] <;> rfl
    · rw [hz.2]
      trivial
  | @fields d fs hx hd =>
    obtain ⟨t1, ho⟩ := exo_at ok hx
    obtain ⟨mA, ⟨od, es, ep, hod, _⟩, _⟩ := exd_at ok hd
    exact ⟨_, some od, ho, rfl, rfl, hod⟩
/-- isinstance(e, c), e such an exception -/
def rIsX (K : PySem.W.Frag) : List V → Hp → VK → Prop := fun xs H Q => ∃ (e C : Addr) (c : V) (cv : Value) (b : Bool), xs = [.ref e, c] ∧ IsExc K H e C ∧ ExcC K C ∧ (∀ u, RelV c u → u = cv) ∧ PySem.W.kitOne K (.ref C) cv = some b ∧ Q (.bl b) H
theorem call_isX {X : Cx} : CallR X (.builtin "isinstance") (rIsX X.K) := by
  intro pins s σ H xs us Q I r h
  obtain ⟨e, C, c, cv, b, rfl, x, T, hcv, hk, q⟩ := h
  obtain ⟨u1, u2, rfl, r1, r2⟩ := vals2 r
  obtain rfl : u1 = Value.ref e := r1
  obtain rfl := hcv _ r2
  obtain ⟨oe, od, J⟩ := inst_of I.hok x
  exact PySem.W.kia_one (kit_exc (oe := oe) (od := od) T) I.kIn J hk (fun z => nomatch z) fun tk => ⟨.bl b, H, I.kept (t' := tk) fun _ _ z => z, rfl, q⟩
/-- e.f -/
def tXfld (K : PySem.W.Frag) (f : Str) (te : TE) : TE := fun σ H Q => te σ H fun x H1 => ∃ (e C d : Addr) (fs : List (Str × V)) (v : V), x = .ref e ∧ XfC K C ∧ PySem.W.findIn K (.ref C) f = some none ∧
  H1 e = some (exo e C (some d)) ∧ H1 d = some (exd d fs) ∧ fs.lookup f = some v ∧ Q v H1
section
variable {X : Cx} {e : Expr} {es : List Expr} {te : TE} {ta tk : TA} {p pos : Pos} {f x : Str}
theorem pe_xfld (he : PE X e te) (hb : attributeBase e f X.env (eval e X.env) = eval e X.env := by rfl) : PE X (.Attribute e f pos) (tXfld X.K f te) := by
  constructor
  intro pins s σ H Q I h
  refine attr_of hb (thn (he.run pins s σ H _ I h) ?_)
  rintro u s1 ⟨y, H1, I1, ry, a, C, d, fs, v, rfl, T, hno, ha, hd, hl, q⟩
  obtain rfl : u = Value.ref a := ry
  obtain ⟨t1, ho⟩ := exo_at I1.hok ha
  obtain ⟨mA, hns, hr⟩ := exd_at I1.hok hd
  obtain ⟨od, hod, hlk⟩ := lookIn_ns hns
  obtain ⟨u, hu, ru⟩ := RelO.some_of (v := v) (o := mA f) (by rw [← hl]; exact hr f)
  have J : PySem.W.InstAt s1.heap a _ C (some od) := ⟨ho, rfl, rfl, hod⟩
  exact HandSPX.exc_get I1.kIn J T.ga T.gg T.exC (PySem.W.findObj_own T.hdC hno rfl (by rw [hlk, hu])) (handed_of ru) ⟨v, H1, I1.tok _, ru, q⟩
/-- C(e, ..) of an own exception with its own __init__ -/
def tMkX (C : Addr) (sp : Sp) (t : TA) : TE := fun σ H Q => t σ H fun vs H1 => vs.length ≤ 1000 ∧ ∀ a, H1 a = none → sp (.ref a :: vs) (upd H1 a (exo a C none)) (fun v H2 => v = .non ∧ Q (.ref a) H2) (fun _ _ _ => False)
theorem pe_mkX {CX : CXT} {C fI : Addr} {k : Nat} {fd : FuncData} {ps : List Str} {sp : Sp} (T : OexC X.K C) (iC : PySem.W.findIn X.K (.ref C) "__init__" = some (some (.ref fI)))
    (tI : PySem.W.typeIn X.K (.ref fI) = some (.type "function")) (F1 : FnOk X.prog X.w X.K X.mg X.base CX k fI fd ps sp) (hr : Room (k + 1) X.A) (hb : Binds X.K fd ps [])
    (hx : Passes CX X (fun _ _ _ => False)) (hg : Gl X x) (hm : X.mg x = some (.ref C)) (ha : PA X (e :: es) ta) (hdb : (x == ("__debug__" : Str)) = false := by decide)
    (he : starEach (e :: es) X.env = (false, eval e X.env) :: starEach es X.env := by rfl) (hpl : (backTo pos (starEach es X.env)).any (·.1) = false := by rfl) :
    PE X (.Call (.Name x p) (e :: es) [] pos) (tMkX C sp ta) := by
  constructor
  intro pins s σ H Q I h
  obtain ⟨nm, q, N, bs, bm, sn, sub, ab, col, dd, k0, k1, k2, k3, k5, hC, hbm⟩ := T.cls
  refine wpAny_Call_Name_kw (ld_glob I hg hm ?_ hdb)
  refine PySem.W.callWith_K (h₀ := X.base) I.ok.mod.kin T.kC (thn (ha.run pos pins s σ H _ I h) ?_) he hpl
  rintro us s1 ⟨vs, H1, I1, r1, hz, q1⟩
  refine ⟨I1.kIn, ?_⟩
  show wpAny _ _ (call (.ref C) us) _ _ _
  obtain ⟨hp, g, dr, tk, os⟩ := s1
  have big : hp.objs.size ≤ hp.objs.size + 1 := Nat.le_succ _
  have new : H1 (hp.objs.size + 1) = none := I1.hok.fresh big
  have ask := q1 (hp.objs.size + 1) new
  have stand : ∀ b o, hp.get? b = some o → ((hp.push (PySem.W.kdv_tup us)).push (PySem.HandSPX.excO C hp.objs.size)).get? b = some o := fun b o z => Heap.get?_push_of_some _ (Heap.get?_push_of_some _ z)
  have there : ((hp.push (PySem.W.kdv_tup us)).push (PySem.HandSPX.excO C hp.objs.size)).get? (hp.objs.size + 1) = some (PySem.HandSPX.excO C hp.objs.size) := by heap_get
  have I2 := I1.laid (t' := tk) (a := hp.objs.size + 1) (o := exo (hp.objs.size + 1) C none) stand big (exo_ok there)
  have r2 : Vals (V.ref (hp.objs.size + 1) :: vs) (Value.ref (hp.objs.size + 1) :: us) := .cons rfl r1
  have hl : (Value.ref (hp.objs.size + 1) :: us ++ []).length = ps.length := by
    rw [List.append_nil, ← r2.length]
    exact F1.len _ _ _ _ ask
  have few : us.length ≤ sizeLine := by
    rw [← Paired.length r1, sizeLine_eq]
    omega
  refine wpAny_call (PySem.HandSPX.call_own F.excBase_ValueError (fun Y => PySem.HandSPX.refsVE_contains Y bm hbm) (I1.kIn _ _ hC) (PySem.W.looks_findIn I1.kIn iC) (fun self => PySem.W.bind_fn I1.kIn self tI) few
    (codeAny_mono (F1.run _ X.stack _ _ ⟨Value.ref (hp.objs.size + 1) :: us, []⟩ (Value.ref (hp.objs.size + 1) :: us) _ _ (fun _ _ _ => False) (hr.make C us []) (I2.env0.make C us [])
      (by have := hb _ (Value.ref (hp.objs.size + 1) :: us) I2.kIn hl; rwa [List.append_nil] at this) r2 ask) ?_))
  intro r s' back
  cases r with
  | error er => exact hx pins σ _ _ er s' I2 back
  | ok fl =>
    cases fl with
    | ret u =>
      obtain ⟨v, H', I3, rv, ev, q3⟩ := I2.after back
      subst ev
      exact ⟨rv, .ref (hp.objs.size + 1), H', I3, rfl, q3⟩
    | next => exact False.elim back
    | brk => exact False.elim back
    | cont => exact False.elim back
end
end EX
set_option maxHeartbeats 4000000
namespace EX
open PySem PySem.Spec PyProof.Rows L2
section
variable {X : Cx} {x : Str} {p pos : Pos}
/-- C() of an own exception without its own __init__ -/
theorem pe_mkB {C : Addr} {bmB : List Value} {B newId initId : String} (F : ExcBaseFacts B newId initId bmB) (q : PySem.W.excIn X.K C bmB newId = true) (gC : X.mg x = some (.ref C)) (kC : PySem.W.keepIn X.K (.ref C) = true) (hg : Gl X x)
    (hdb : (x == ("__debug__" : Str)) = false := by decide) :
    PE X (.Call (.Name x p) [] [] pos) (fun σ H Q => ∀ a, H a = none → Q (.ref a) (upd H a (ExO (.ref C) a))) := by
  constructor
  intro pins s σ H Q I h
  refine wpAny_Call_Name_kw (ld_glob I hg gC ?_ hdb)
  refine PySem.W.callWith_K0 I.kIn kC ?_
  obtain ⟨bm, N, nm, qn, bs, hdct, sn, sub, ab, col, dd, k0, k1, k2, k3, k5, mN, hC, hN, hni, T⟩ := exc_obj I.kIn q
  refine wpAny_call_exc_subT F T hC hN hni ?_ (by show 0 ≤ sizeLine; exact Nat.zero_le _)
  intro h' a hm
  have new : H a = none := I.hok.gone hm.new
  obtain ⟨t, ht, _, _⟩ := hm.there
  exact ⟨.ref a, upd H a (ExO (.ref C) a), I.laidN hm.keeps hm.new new (exO_ok ht ⟨rfl, rfl⟩ rfl rfl rfl (show 4 < 6 by decide)), rfl, h a new⟩
end
end EX
set_option maxHeartbeats 4000000
namespace EX
open PySem PySem.Spec PySem.Calls PyProof.Rows PySem.W PySem.HandSPX
section
variable {prog : Program} {w : World} {A : Around} {E : Value → Shared → Prop} {R : Result → Shared → Prop} {h : Heap} {g : Array GenState} {d : Drawn} {t : Nat} {os : OsState}
variable {nm q : Str} {C N : Addr} {bs bm bmB : List Value} {hdct : Bool} {sn : List Str} {sub : List Value} {ab : Bool} {col : Option Bool} {dd : Option Addr} {k0 k1 k2 k3 k5 : Option Value} {B newId initId : String} {kw : List (Str × Value)}
theorem check_kw {Q : Unit → Shared → Prop} (F : ExcBaseFacts B newId initId bmB) (hT : ∀ X : String, bm.contains (.type X) = bmB.contains (.type X))
    (hC : h.get? C = some (excClassObj nm q C N bs bm hdct sn sub ab col dd k0 k1 k2 k3 k5 newId)) (done : Q () ⟨h, g, d, t, os⟩) :
    wpAny (model prog w) A (checkBuiltinCall newId ⟨[.ref C], kw⟩) Q E ⟨h, g, d, t, os⟩ := by
  have isB : (Value.ref C :: bm).contains (.type B) = true := by
    rw [List.contains_cons, hT, F.hasB, Bool.or_true]
  have star := F.noStar
  simp only [checkBuiltinCall, F.newKind, F.newSplit, F.newRow]
  repeat (first
    | refine wpAny_loadPart_at hC ?_
    | (refine wpAny_isSubtype_exc hC ?_
       rw [isB])
    | refine wpAny_staticBase_exc hC ?_
    | refine wpAny_madeBy_exc hC ?_
    | simp only [bne_self_eq_false, Bool.false_eq_true, if_false]
    | wp_step)
  exact done
theorem new_kw (F : ExcBaseFacts B newId initId bmB) (hT : ∀ X : String, bm.contains (.type X) = bmB.contains (.type X))
    (hC : h.get? C = some (excClassObj nm q C N bs bm hdct sn sub ab col dd k0 k1 k2 k3 k5 newId))
    (done : R (.ok (.ret (.ref (h.objs.size + 1)))) ⟨(h.push (W.kdv_tup [])).push (excO C h.objs.size), g, d, t, os⟩) :
    codeAny (model prog w) A (.builtin newId ⟨[.ref C], kw⟩) R ⟨h, g, d, t, os⟩ := by
  have ends := F.ends
  have isB : (Value.ref C :: bm).contains (.type B) = true := by
    rw [List.contains_cons, hT, F.hasB, Bool.or_true]
  have noA : (Value.ref C :: bm).contains (.type "AttributeError") = false := by
    rw [List.contains_cons, hT, F.noAttr]
    rfl
  have noN : (Value.ref C :: bm).contains (.type "NameError") = false := by
    rw [List.contains_cons, hT, F.noName]
    rfl
  refine codeAny_builtinAt F.entry ?_
  unfold Builtin.«BaseException.__new__»
  refine PySem.wpAt_bind ?_
  show PySem.wpAt _ _ _ (stack >>= _) _ _ _
  refine PySem.wpAt_bind (PySem.wpAt_stack fun p below => PySem.wpAt_of_wpAny ?_)
  wp_walk
  refine PySem.wpAt_of_wpAny ?_
  rw [F.owner]
  repeat (first
    | with_reducible refine wpAny_madeHere_exc F.canon hC ?_
    | with_reducible refine wpAny_loadPart_at hC ?_
    | (with_reducible refine wpAny_isSubtype_exc hC ?_
       first | rw [isB] | rw [noA] | rw [noN])
    | wp_step)
  show R _ _
  rw [Heap.size_push]
  exact done
theorem type_call_kw {fI : Addr} {Q : Fin → Shared → Prop} (F : ExcBaseFacts B newId initId bmB) (hT : ∀ X : String, bm.contains (.type X) = bmB.contains (.type X))
    (hC : h.get? C = some (excClassObj nm q C N bs bm hdct sn sub ab col dd k0 k1 k2 k3 k5 newId))
    (hi : Looks (model prog w) h (typeLookup (.ref C) "__init__") (some (.ref fI))) (hb : ∀ self, Looks (model prog w) h (bindSpecial (.ref fI) self) (.ref fI, [self]))
    (body : codeAny (model prog w) A (.call (.ref fI) ⟨[.ref (h.objs.size + 1)], kw⟩)
      (fun r s' => match r with | .ok (.ret v) => v = .none ∧ Q (.done (.ret (.ref (h.objs.size + 1)))) s' | .ok _ => False | .error e => E e s')
      ⟨(h.push (W.kdv_tup [])).push (excO C h.objs.size), g, d, t, os⟩) :
    wpAny (model prog w) A (Builtin.«type.__call__» ⟨[.ref C], kw⟩) Q E ⟨h, g, d, t, os⟩ := by
  repeat (first
    | with_reducible refine wpAny_loadPart_at hC ?_
    | with_reducible refine wpAny_madeBy_exc hC ?_
    | wp_step)
  refine codeAny_call_builtin_code (Code.quiet_builtin _ F.quiet) (check_kw F hT hC ?_)
  refine new_kw F hT hC ?_
  show wpAny _ _ _ _ _ _
  have stand : ∀ b o, h.get? b = some o → ((h.push (W.kdv_tup [])).push (excO C h.objs.size)).get? b = some o := fun b o e => Heap.get?_push_of_some _ (Heap.get?_push_of_some _ e)
  have hC1 := stand _ _ hC
  have there : ((h.push (W.kdv_tup [])).push (excO C h.objs.size)).get? (h.objs.size + 1) = some (excO C h.objs.size) := by heap_get
  have self : (Value.ref C :: bm).contains (.ref C) = true := by simp
  have i1 := hi.keeps stand
  have b1 := (hb (.ref (h.objs.size + 1))).keeps stand
  unfold isInstance
  repeat (first
    | with_reducible refine wpAny_loadPart_at there ?_
    | (with_reducible refine wpAny_isSubtype_exc hC1 ?_
       rw [self])
    | wp_step)
  show wpAny _ _ (typeLookup (.ref C) _) _ _ _
  refine i1.at ?_
  refine wpAny_holding (wpAny_bind (b1.at ?_))
  refine wpAny_bind (wpAny_call (codeAny_mono body ?_))
  intro r s' z
  rcases r with e | (v | _ | _ | _) <;> first | exact z | exact z.elim | skip
  obtain ⟨rfl, z⟩ := z
  first
    | exact wpAny_pure (wpAny_pure z)
    | (wp_walk
       exact z)
theorem call_kw {fI : Addr} (F : ExcBaseFacts B newId initId bmB) (hT : ∀ X : String, bm.contains (.type X) = bmB.contains (.type X))
    (hC : h.get? C = some (excClassObj nm q C N bs bm hdct sn sub ab col dd k0 k1 k2 k3 k5 newId))
    (hi : Looks (model prog w) h (typeLookup (.ref C) "__init__") (some (.ref fI))) (hb : ∀ self, Looks (model prog w) h (bindSpecial (.ref fI) self) (.ref fI, [self]))
    (body : codeAny (model prog w) (A.under (.builtin "type.__call__" ⟨[.ref C], kw⟩)) (.call (.ref fI) ⟨[.ref (h.objs.size + 1)], kw⟩) (W.InitBack (h.objs.size + 1) R)
      ⟨(h.push (W.kdv_tup [])).push (excO C h.objs.size), g, d, t, os⟩) :
    codeAny (model prog w) A (.call (.ref C) ⟨[], kw⟩) R ⟨h, g, d, t, os⟩ := by
  have f1 := tc_lookup
  have f2 := tc_bind (.ref C)
  have ty : (⟨h, g, d, t, os⟩ : Shared).TypeIs (.ref C) "type" := ⟨_, hC, rfl⟩
  refine codeAny_of_tree ?_
  show wpAny _ _ (callAny (.ref C) _) _ _ _
  repeat (any_goals (first
    | assumption
    | with_reducible refine wpAny_loadPart_at hC ?_
    | wp_step))
  refine ⟨rfl, ?_⟩
  refine codeAny_call_builtin_at (Code.quiet_builtin _ (by decide +kernel)) entry_typeCall (wpAny_check_type_call_sub hC (type_call_kw F hT hC hi hb ?_))
  refine codeAny_mono body ?_
  intro r s' z
  rcases r with e | (v | _ | _ | _) <;> exact z
end
end EX
set_option maxHeartbeats 4000000
namespace EX
open PySem PySem.Spec PyProof.Rows L2
/-- C(name = e, ..) of an own exception with its own __init__ -/
def tMkXK (C : Addr) (sp : Sp) (gV : List V → List V → List V) (t : TA) : TE := fun σ H Q => t σ H fun zs H1 => ∀ a, H1 a = none → sp (gV [.ref a] zs) (upd H1 a (exo a C none)) (fun v H2 => v = .non ∧ Q (.ref a) H2) (fun _ _ _ => False)
section
variable {X : Cx} {ta tk : TA} {p pos : Pos} {x : Str} {kws : List Keyword} {g : List Value → List Value → List Value} {gV : List V → List V → List V}
theorem pe_mkXK {CX : CXT} {C fI : Addr} {k : Nat} {fd : FuncData} {ps ks : List Str} {sp : Sp} (T : OexC X.K C) (iC : PySem.W.findIn X.K (.ref C) "__init__" = some (some (.ref fI)))
    (tI : PySem.W.typeIn X.K (.ref fI) = some (.type "function")) (F1 : FnOk X.prog X.w X.K X.mg X.base CX k fI fd ps sp) (hr : Room (k + 1) X.A) (hb : KBinds X.K fd ps ks g gV)
    (hx : Passes CX X (fun _ _ _ => False)) (hg : Gl X x) (hm : X.mg x = some (.ref C)) (hkw : PK X kws tk)
    (hall : (backToKw pos (keywordEach kws X.env)).all (·.1.isSome) = true := by rfl)
    (hks : (backToKw pos (keywordEach kws X.env)).filterMap (·.1) = ks := by rfl) (hdb : (x == ("__debug__" : Str)) = false := by decide)
    (hpl : ((backTo pos (starEach [] X.env)).any (·.1) || (backToKw pos (keywordEach kws X.env)).any (·.1.isNone)) = false := by rfl) :
    PE X (.Call (.Name x p) [] kws pos) (tMkXK C sp gV tk) := by
  constructor
  intro pins s σ H Q I h
  obtain ⟨nm, q, N, bs, bm, sn, sub, ab, col, dd, k0, k1, k2, k3, k5, hC, hbm⟩ := T.cls
  refine wpAny_Call_Name_kw (ld_glob I hg hm ?_ hdb)
  refine PySem.W.callWith_KW0 (h₀ := X.base) I.ok.mod.kin T.kC hall ?_ hpl
  refine thn (hkw.run pos pins s σ H _ I h) ?_
  rintro ws s1 ⟨zs, H1, I1, rz, q1⟩
  rw [hks]
  refine ⟨I1.kIn, ?_⟩
  show wpAny _ _ (call (.ref C) [] _) _ _ _
  obtain ⟨hp, g, dr, tk, os⟩ := s1
  have big : hp.objs.size ≤ hp.objs.size + 1 := Nat.le_succ _
  have new : H1 (hp.objs.size + 1) = none := I1.hok.fresh big
  have ask := q1 (hp.objs.size + 1) new
  have stand : ∀ b o, hp.get? b = some o → ((hp.push (PySem.W.kdv_tup [])).push (PySem.HandSPX.excO C hp.objs.size)).get? b = some o := fun b o z => Heap.get?_push_of_some _ (Heap.get?_push_of_some _ z)
  have there : ((hp.push (PySem.W.kdv_tup [])).push (PySem.HandSPX.excO C hp.objs.size)).get? (hp.objs.size + 1) = some (PySem.HandSPX.excO C hp.objs.size) := by heap_get
  have I2 := I1.laid (t' := tk) (a := hp.objs.size + 1) (o := exo (hp.objs.size + 1) C none) stand big (exo_ok there)
  have r0 : Vals [V.ref (hp.objs.size + 1)] [Value.ref (hp.objs.size + 1)] := .cons rfl .nil
  have r2 := hb.rel r0 rz
  have hl := r2.length
  rw [F1.len _ _ _ _ ask] at hl
  refine wpAny_call (call_kw F.excBase_ValueError (fun Y => PySem.HandSPX.refsVE_contains Y bm hbm) (I1.kIn _ _ hC) (PySem.W.looks_findIn I1.kIn iC) (fun self => PySem.W.bind_fn I1.kIn self tI)
    (codeAny_mono (F1.run _ X.stack _ _ ⟨[Value.ref (hp.objs.size + 1)], ks.zip ws⟩ _ _ _ (fun _ _ _ => False) (hr.make C [] (ks.zip ws)) (I2.env0.make C [] (ks.zip ws))
      (hb.to _ [Value.ref (hp.objs.size + 1)] ws I2.kIn hl.symm) r2 ask) ?_))
  intro r s' back
  cases r with
  | error er => exact hx pins σ _ _ er s' I2 back
  | ok fl =>
    cases fl with
    | ret u =>
      obtain ⟨v, H', I3, rv, ev, q3⟩ := I2.after back
      subst ev
      exact ⟨rv, .ref (hp.objs.size + 1), H', I3, rfl, q3⟩
    | next => exact False.elim back
    | brk => exact False.elim back
    | cont => exact False.elim back
end
end EX
namespace TP
open PySem PySem.Spec PyProof.Rows L2
/-! ### the text -/
def topS (i : Nat) : Stmt := PySem.Challenge.pw_tailpick_k02_errors.main.body.getD i (.Pass ⟨0, 0, 0, 0⟩)
abbrev sStart : Stmt := topS 18
abbrev sDraw : Stmt := topS 19
theorem scStart : FnScope ["_law_script", "_law_cell"] ["_law_script"] (defScope sStart) := ⟨rfl, rfl, rfl, by decide +kernel, rfl, by decide +kernel, by decide +kernel⟩
theorem scDraw : FnScope ["_law_state", "_law_size", "_law_digit", "_law_cell", "_law_one"] ["_law_state", "_law_size"] (defScope sDraw) := ⟨rfl, rfl, rfl, by decide +kernel, rfl, by decide +kernel, by decide +kernel⟩
/-! ### own rules -/
section
variable {X : Cx}
theorem get_list : PGet X (rIxL X.K) := by
  intro pins s σ H o i ov iv Q I ro ri h
  obtain ⟨p, xs, i, z, rfl, rfl, hq, he, q⟩ := h
  cases ro
  obtain ⟨t, rfl⟩ := ri
  obtain ⟨its, r, pl, hz⟩ := I.list hq
  obtain ⟨j, h1, h2, h3, h4, h5⟩ := atI_get he
  obtain ⟨w, ew, rw'⟩ := r.get h2
  have hl := r.length
  have hn := line63
  have fin : EP X pins σ Q w s := ⟨z, H, I, rw', q⟩
  by_cases h0 : 0 ≤ i
  · have hj : i.toNat = j := by
      rw [seqIndex_of h0 h5] at h1
      exact Option.some.inj h1
    exact wpAny_getItem_list pl.isList h0 (by omega) (by rw [hj]; simpa using ew) fin
  · have hj : (i + (its.toArray.size : Int)).toNat = j := by
      rw [seqIndex_neg (by omega) h4] at h1
      rw [List.size_toArray, ← hl]
      exact Option.some.inj h1
    exact wpAny_getItem_list_neg pl.isList (by omega) (by rw [List.size_toArray] <;> omega) (by omega) (by rw [hj]; simpa using ew) fin
end
theorem same_upd {H : Hp} {p : Addr} {o : HO} (h : H p = none) : Same H (upd H p o) := fun b x e => by
  rw [upd_ne (ne_of_none e h)]
  exact e
/-! ### the drawing state -/
/-- the state at st: its numbers zs at l0, its cells cs at l1, n draws so far -/
structure DrwZ (H : Hp) (st l0 l1 : Addr) (n : Nat) (zs cs : List Int) : Prop where
  hs : H st = some (.lst [.ref l0, .ref l1, .int n])
  h0 : H l0 = some (.lst (zs.map V.int))
  h1 : H l1 = some (.lst (cs.map V.int))
  z : zs.length ≤ 63
  c0 : 0 < cs.length
  c : cs.length ≤ 64
  n0 : l0 ≠ st
  n1 : l1 ≠ st
  n01 : l0 ≠ l1
def Drw (H : Hp) (st l0 l1 : Addr) (n : Nat) : Prop := ∃ zs cs, DrwZ H st l0 l1 n zs cs
/-- what a draw leaves: all else that was tracked; the numbers' list is the old one or a new one -/
structure Frm (H H' : Hp) (st l0 l0' : Addr) : Prop where
  keep : ∀ b o, H b = some o → b ≠ st → b ≠ l0 → H' b = some o
  new : l0' = l0 ∨ H l0' = none
theorem Frm.refl (H : Hp) (st l0 : Addr) : Frm H H st l0 l0 := ⟨fun _ _ e _ _ => e, .inl rfl⟩
theorem Frm.trans {H H1 H2 : Hp} {st l0 l0' l0'' : Addr} (hst : ∃ o, H1 st = some o) (a : Frm H H1 st l0 l0') (b : Frm H1 H2 st l0' l0'') : Frm H H2 st l0 l0'' := by
  refine ⟨fun c o e h1 h2 => ?_, ?_⟩
  · refine b.keep c o (a.keep c o e h1 h2) h1 ?_
    rcases a.new with e1 | e1
    · rw [e1]; exact h2
    · exact ne_of_none e e1
  · rcases b.new with e1 | e1
    · rw [e1]; exact a.new
    · by_cases h2 : l0'' = l0
      · exact .inl h2
      · refine .inr ?_
        cases q : H l0'' with
        | none => rfl
        | some o =>
          obtain ⟨u, hu⟩ := hst
          rw [a.keep _ o q (ne_of_none hu e1).symm h2] at e1
          cases e1
theorem Drw.st_some {H : Hp} {st l0 l1 : Addr} {n : Nat} (d : Drw H st l0 l1 n) : ∃ o, H st = some o := by
  obtain ⟨zs, cs, d⟩ := d
  exact ⟨_, d.hs⟩
/-- a new object leaves the drawing state -/
theorem DrwZ.same {H H' : Hp} {st l0 l1 : Addr} {n : Nat} {zs cs : List Int} (d : DrwZ H st l0 l1 n zs cs) (s : Same H H') : DrwZ H' st l0 l1 n zs cs :=
  ⟨s _ _ d.hs, s _ _ d.h0, s _ _ d.h1, d.z, d.c0, d.c, d.n0, d.n1, d.n01⟩
theorem Drw.same {H H' : Hp} {st l0 l1 : Addr} {n : Nat} (d : Drw H st l0 l1 n) (s : Same H H') : Drw H' st l0 l1 n := by
  obtain ⟨zs, cs, d⟩ := d
  exact ⟨zs, cs, d.same s⟩
/-! ### _law_draw -/
def spDraw : Sp := fun vs H Q _ => ∃ (st l0 l1 : Addr) (n : Nat) (size : Int), vs = [.ref st, .int size] ∧ Drw H st l0 l1 n ∧ 0 < size ∧ size < 2 ^ 40 ∧ n < 2 ^ 40 ∧
  ∀ (r : Int) (H' : Hp) (l0' : Addr), 0 ≤ r → r < size → Drw H' st l0' l1 (n + 1) → Frm H H' st l0 l0' → Q (.int r) H'
theorem eqv_nil (zs : List Int) : PyData.eqv (.list (zs.map PyData.int)) (.list []) = zs.isEmpty := by
  cases zs <;> rfl
theorem dp_ints {K : PySem.W.Frag} {H : Hp} : ∀ zs : List Int, DpAll K H (zs.map V.int) (zs.map PyData.int)
  | [] => .nil
  | z :: r => .cons (.int z) (dp_ints r)
theorem shaped_ints (zs : List Int) : SeqAt.shaped (.list (zs.map PyData.int)) = true := by
  have h1 : ∀ l : List Int, PyData.canLayAll0 (l.map PyData.int) = true := fun l => by
    induction l with
    | nil => rfl
    | cons z r ih => simp [PyData.canLayAll0, PyData.canLay0, ih]
  have h2 : ∀ l : List Int, PyData.depthAll (l.map PyData.int) ≤ 1 := fun l => by
    induction l with
    | nil => simp [PyData.depthAll]
    | cons z r ih => simp [PyData.depthAll, PyData.depth] ; omega
  have h3 := h2 zs
  simp [SeqAt.shaped, PyData.canLay0, h1, PyData.depth]
  omega
theorem cut1 (xs : List V) : cutV xs (some 1) none = xs.drop 1 := by
  unfold cutV
  rw [show HT.sIx xs.length 0 (some 1) = min 1 xs.length from HT.sIx_nat xs.length 0 1, HT.sIx_none]
  cases xs with
  | nil => rfl
  | cons x r =>
    rw [show min 1 (x :: r).length = 1 by
      rw [List.length_cons]
      omega]
    show (List.take ((x :: r).length - 1) r) = r
    rw [List.length_cons, Nat.add_sub_cancel]
    exact List.take_length
theorem at_mod {cs : List Int} (h : 0 < cs.length) (n : Nat) : ∃ c, atI (cs.map V.int) ((n : Int) % (cs.length : Int)) = some (.int c) := by
  have hj : n % cs.length < cs.length := Nat.mod_lt _ h
  refine ⟨cs[n % cs.length], ?_⟩
  have e : (n : Int) % (cs.length : Int) = ((n % cs.length : Nat) : Int) := by simp
  rw [e]
  refine atI_nat ?_
  rw [List.getElem?_map, List.getElem?_eq_getElem hj]
  rfl
theorem ixN_zero {n : Nat} (h : 0 < n) : ixN n 0 = some 0 := by
  unfold ixN
  rw [if_pos (by decide), if_pos (by omega)]
  rfl
theorem in_fac {c : Int} (h0 : 0 ≤ c) (h1 : c < 2 ^ 40) : -(2 ^ 64) < c ∧ c < 2 ^ 64 := by omega
section
variable {P : Program} {w : World} {K : PySem.W.Frag} {mg : Str → Option Value} {base : Heap}
theorem ok_draw {f : Addr} {fd : FuncData} (F : Fun K "_law_draw" "_law_draw" sDraw f fd) (mi : mg "int" = none) (ml : mg "len" = none) : FnOk P w K mg base CX0 1 f fd ["_law_state", "_law_size"] spDraw := by
  refine F.ok scDraw (fun vs H Q E h => ?_) (fun cdv A outer s H vs Q E hr h => ?_)
  · obtain ⟨st, l0, l1, n, size, rfl, _⟩ := h
    rfl
  · obtain ⟨st, l0, l1, n, size, rfl, D, hz0, hz1, hn, k⟩ := h
    have nd := scDraw.nd
    refine ⟨_, pss_cons (ps_augS (pv 0) pe_int get_list pe_int ip_add set_list)
      (pss_cons (ps_while PassesOwn.never (PW.pt (pw_and (pt_cmpR (op_neD hr.units) (pe_ix ix_list (pv 0) pe_int (fun _ _ => rfl)) (pe_lst pa_nil) (nomark _)) (pw_and1 (pt_cmpR op_eq (pe_ix ix_list (pe_ix ix_list (pv 0) pe_int (fun _ _ => rfl)) pe_int (fun _ _ => rfl)) pe_int (nomark _)))))
        (pss_one (ps_asg (pe_slice sl_list (pe_ix ix_list (pv 0) pe_int (fun _ _ => rfl)) (po_some pe_int) po_none) (pg_sub (pv 0) pe_int set_list))))
      (pss_cons (ps_if (pt_cmpR (op_neD hr.units) (pe_ix ix_list (pv 0) pe_int (fun _ _ => rfl)) (pe_lst pa_nil) (nomark _))
        (pss_cons (ps_set (i := 2) nd rfl (.inl rfl) (pe_op op_mod (pe_callTy call_int1 (by rfl) mi (by decide +kernel) (pa_cons (pe_ix ix_list (pe_ix ix_list (pv 0) pe_int (fun _ _ => rfl)) pe_int (fun _ _ => rfl)) pa_nil)) (pv 1)))
        (pss_cons (ps_asg (pe_op op_fdivW (pe_ix ix_list (pe_ix ix_list (pv 0) pe_int (fun _ _ => rfl)) pe_int (fun _ _ => rfl)) (pv 1)) (pg_sub (pe_ix ix_list (pv 0) pe_int (fun _ _ => rfl)) pe_int set_list))
        (pss_one (ps_ret (pv 2))))) pss_nil)
      (pss_cons (ps_set (i := 3) nd rfl (.inl rfl) (pe_op op_mod (pe_callTy call_int1 (by rfl) mi (by decide +kernel) (pa_cons (pe_ix ix_list (pe_ix ix_list (pv 0) pe_int (fun _ _ => rfl)) (pe_op op_mod (pe_callTy call_int1 (by rfl) mi (by decide +kernel) (pa_cons (pe_ix ix_list (pv 0) pe_int (fun _ _ => rfl)) pa_nil)) (pe_callB call_len_seq (by rfl) ml PySem.boot_len (pa_cons (pe_ix ix_list (pv 0) pe_int (fun _ _ => rfl)) pa_nil))) (fun _ _ => rfl)) pa_nil)) pe_int))
      (pss_cons (ps_set (i := 4) nd rfl (.inl rfl) (pe_op op_mod (pe_callTy call_int1 (by rfl) mi (by decide +kernel) (pa_cons (pe_op op_pow (pe_op op_add (pe_op op_add (pe_op op_mul (pv 3) pe_int) (pe_op op_mul (pe_ix ix_list (pv 0) pe_int (fun _ _ => rfl)) pe_int)) pe_int) pe_int) pa_nil)) pe_int))
      (pss_one (ps_ret (pe_op op_mod (pe_op op_mod (pe_callTy call_int1 (by rfl) mi (by decide +kernel) (pa_cons (pe_op op_pow (pe_op op_add (pe_op op_add (pe_op op_mul (pv 4) pe_int) (pe_op op_mul (pe_ix ix_list (pv 0) pe_int (fun _ _ => rfl)) pe_int)) pe_int) pe_int) pa_nil)) pe_int) (pv 1)))))))), ?_⟩
    obtain ⟨zs, cs, D⟩ := D
    -- state[2] += 1
    refine ⟨_, rfl, st, _, 2, .int n, rfl, rfl, SqL.of D.hs, rfl, n, 1, rfl, rfl, st, _, 2, 2, rfl, rfl, D.hs, rfl, ?_⟩
    have D1 : DrwZ (upd H st (.lst [.ref l0, .ref l1, .int ((n + 1 : Nat) : Int)])) st l0 l1 (n + 1) zs cs :=
      ⟨upd_same, by rw [upd_ne D.n0]; exact D.h0, by rw [upd_ne D.n1]; exact D.h1, D.z, D.c0, D.c, D.n0, D.n1, D.n01⟩
    have F1 : Frm H (upd H st (.lst [.ref l0, .ref l1, .int ((n + 1 : Nat) : Int)])) st l0 l0 := ⟨fun b o e h1 _ => by rw [upd_ne h1]; exact e, .inl rfl⟩
    -- while
    refine ⟨fun m σ H' => ∃ l0' zs, m = zs.length ∧ σ = [some (.ref st), some (.int size), none, none, none] ∧ DrwZ H' st l0' l1 (n + 1) zs cs ∧ Frm H H' st l0 l0', ⟨_, l0, zs, rfl, rfl, D1, F1⟩, fun m σ H' hW => ?_⟩
    obtain ⟨l0', zs', rfl, rfl, D2, F2⟩ := hW
    refine ⟨_, rfl, st, _, 0, .ref l0', rfl, rfl, SqL.of D2.hs, rfl, Nat.zero_le _, fun p hp => ?_⟩
    have S3 : Same H' (upd H' p (.lst [])) := same_upd hp
    have D3 := D2.same S3
    refine ⟨_, _, .lst (SqL.of D3.h0) (dp_ints zs'), .lst (SqL.of upd_same) .nil, shaped_ints zs', rfl, _, rfl, ?_⟩
    rw [eqv_nil]
    cases zs' with
    | nil =>
      refine iteF ?_
      -- if state[0] != []: no
      show if false = true then _ else _
      refine iteF ?_
      have F3 : Frm H (upd H' p (.lst [])) st l0 l0' := ⟨fun b o e h1 h2 => S3 _ _ (F2.keep b o e h1 h2), F2.new⟩
      refine ⟨_, rfl, st, _, 0, .ref l0', rfl, rfl, SqL.of D3.hs, rfl, Nat.zero_le _, fun p4 hp4 => ?_⟩
      have S4 : Same (upd H' p (.lst [])) (upd (upd H' p (.lst [])) p4 (.lst [])) := same_upd hp4
      have D4 := D3.same S4
      refine ⟨_, _, .lst (SqL.of D4.h0) (dp_ints []), .lst (SqL.of upd_same) .nil, rfl, rfl, _, rfl, ?_⟩
      show if false = true then _ else _
      refine iteF ?_
      -- cell = int(state[1][int(state[2]) % len(state[1])]) % 2147483647
      obtain ⟨c, ec⟩ := at_mod D4.c0 (n + 1)
      have hlen : (cs.map V.int).length = cs.length := List.length_map _
      refine ⟨_, rfl, st, _, 1, .ref l1, rfl, rfl, SqL.of D4.hs, rfl, _, rfl, st, _, 2, .int ((n + 1 : Nat) : Int), rfl, rfl, SqL.of D4.hs, rfl, .inl ⟨_, rfl, _, rfl, st, _, 1, .ref l1, rfl, rfl, SqL.of D4.hs, rfl, l1, _, rfl, .inl (SqL.of D4.h1), _, _, rfl, rfl, (by rw [hlen]; have := D4.c0; omega), l1, _, _, .int c, rfl, rfl, SqL.of D4.h1, (by rw [hlen]; exact ec), .inl ⟨_, rfl, _, _, rfl, rfl, (by show (0 : Int) < 2147483647; decide), ?_⟩⟩⟩
      obtain ⟨d, hd⟩ : ∃ d : Int, d = c % 2147483647 := ⟨_, rfl⟩
      have c0 : 0 ≤ d := by omega
      have c1 : d < 2147483647 := by omega
      -- one
      obtain ⟨y, hy⟩ : ∃ y : Int, y = ((d * 48271 + ((n + 1 : Nat) : Int) * 69621 + 7) ^ (5 : Int).toNat) % 2147483647 := ⟨_, rfl⟩
      have y0 : 0 ≤ y := hy ▸ Int.emod_nonneg _ (by decide)
      have y1 : y < 2147483647 := hy ▸ Int.emod_lt_of_pos _ (by decide)
      refine ⟨_, rfl, d, 48271, congrArg V.int hd.symm, rfl, .inl (by omega), _, rfl, st, _, 2, .int ((n + 1 : Nat) : Int), rfl, rfl, SqL.of D4.hs, rfl, ((n + 1 : Nat) : Int), 69621, rfl, rfl, .inl (by omega), d * 48271, ((n + 1 : Nat) : Int) * 69621, rfl, rfl, _, 7, rfl, rfl, _, 5, rfl, rfl, ⟨by decide, by decide, by omega⟩, .inl ⟨_, rfl, _, 2147483647, rfl, rfl, (by show (0 : Int) < 2147483647; decide), ?_⟩⟩
      refine ⟨_, rfl, y, 16807, congrArg V.int hy.symm, rfl, .inl (by omega), _, rfl, st, _, 2, .int ((n + 1 : Nat) : Int), rfl, rfl, SqL.of D4.hs, rfl, ((n + 1 : Nat) : Int), 40692, rfl, rfl, .inl (by omega), y * 16807, ((n + 1 : Nat) : Int) * 40692, rfl, rfl, _, 13, rfl, rfl, _, 5, rfl, rfl, ⟨by decide, by decide, by omega⟩, .inl ⟨_, rfl, _, 2147483629, rfl, rfl, (by show (0 : Int) < 2147483629; decide), _, rfl, _, size, rfl, rfl, hz0, ?_⟩⟩
      exact k _ _ l0' (Int.emod_nonneg _ (by omega)) (Int.emod_lt_of_pos _ hz0) ⟨_, _, D4⟩ ⟨fun b o e h1 h2 => S4 _ _ (F3.keep b o e h1 h2), F3.new⟩
    | cons z r =>
      refine iteT ?_
      -- state[0][0] == 0
      refine ⟨_, rfl, st, _, 0, .ref l0', rfl, rfl, SqL.of D3.hs, rfl, l0', _, 0, .int z, rfl, rfl, SqL.of D3.h0, atI_nat (j := 0) rfl, rfl, _, rfl, ?_⟩
      have F3 : Frm H (upd H' p (.lst [])) st l0 l0' := ⟨fun b o e h1 h2 => S3 _ _ (F2.keep b o e h1 h2), F2.new⟩
      by_cases ez : z = 0
      · rw [decide_eq_true (by rw [ez])]
        show if true = true then _ else _
        refine iteT ?_
        refine ⟨fun σ' H'' => ∃ l0'', σ' = [some (.ref st), some (.int size), none, none, none] ∧ DrwZ H'' st l0'' l1 (n + 1) r cs ∧ Frm H H'' st l0 l0'', fun σ' H'' hN => ?_, ?_⟩
        · obtain ⟨l0'', e1, e2, e3⟩ := hN
          exact ⟨r.length, by simp, l0'', r, rfl, e1, e2, e3⟩
        · refine ⟨_, rfl, st, _, 0, .ref l0', rfl, rfl, SqL.of D3.hs, rfl, 1, rfl, l0', _, rfl, SqL.of D3.h0, fun q hq => ?_⟩
          have S4 : Same (upd H' p (.lst [])) (upd (upd H' p (.lst [])) q (.lst (cutV ((z :: r).map V.int) (some 1) none))) := same_upd hq
          have D4 := D3.same S4
          have nq : ∀ {b o}, (upd H' p (.lst [])) b = some o → b ≠ q := fun e => ne_of_none e hq
          refine ⟨_, rfl, st, _, 0, 0, rfl, rfl, D4.hs, rfl, q, rfl, ⟨upd_same, ?_, ?_, by have := D4.z; rw [List.length_cons] at this; omega, D4.c0, D4.c, (nq D3.hs).symm, D4.n1, (nq D3.h1).symm⟩, ⟨fun b o e h1 h2 => ?_, ?_⟩⟩
          · rw [upd_ne (nq D3.hs).symm, upd_same, cut1]
            rfl
          · rw [upd_ne D4.n1]
            exact D4.h1
          · rw [upd_ne h1]
            exact S4 _ _ (F3.keep b o e h1 h2)
          · by_cases h2 : q = l0
            · exact .inl h2
            · refine .inr ?_
              cases e : H q with
              | none => rfl
              | some o =>
                by_cases h1 : q = st
                · exact absurd h1.symm (nq D3.hs)
                · rw [F3.keep q o e h1 h2] at hq
                  cases hq
      · rw [decide_eq_false (fun e => ez (V.int.inj e))]
        show if false = true then _ else _
        refine iteF ?_
        -- if state[0] != []: yes
        refine ⟨_, rfl, st, _, 0, .ref l0', rfl, rfl, SqL.of D3.hs, rfl, Nat.zero_le _, fun p4 hp4 => ?_⟩
        have S4 : Same (upd H' p (.lst [])) (upd (upd H' p (.lst [])) p4 (.lst [])) := same_upd hp4
        have D4 := D3.same S4
        refine ⟨_, _, .lst (SqL.of D4.h0) (dp_ints (z :: r)), .lst (SqL.of upd_same) .nil, shaped_ints (z :: r), rfl, _, rfl, ?_⟩
        rw [eqv_nil]
        show if true = true then _ else _
        refine iteT ?_
        -- digit = int(state[0][0]) % size
        refine ⟨_, rfl, st, _, 0, .ref l0', rfl, rfl, SqL.of D4.hs, rfl, l0', _, 0, .int z, rfl, rfl, SqL.of D4.h0, atI_nat (j := 0) rfl, .inl ⟨_, rfl, _, rfl, _, size, rfl, rfl, hz0, ?_⟩⟩
        -- state[0][0] = state[0][0] // size
        refine ⟨_, rfl, st, _, 0, .ref l0', rfl, rfl, SqL.of D4.hs, rfl, l0', _, 0, .int z, rfl, rfl, SqL.of D4.h0, atI_nat (j := 0) rfl, _, rfl, z, size, rfl, rfl, wide_div hz0 (b := 40) (by omega) (by decide) (by decide), _, rfl, st, _, 0, .ref l0', rfl, rfl, SqL.of D4.hs, rfl, l0', _, 0, 0, rfl, rfl, D4.h0, ixN_zero (by simp), _, rfl, ?_⟩
        refine k _ _ l0' (Int.emod_nonneg _ (by omega)) (Int.emod_lt_of_pos _ hz0) ⟨z / size :: r, cs, ?_, upd_same, ?_, D4.z, D4.c0, D4.c, D4.n0, D4.n1, D4.n01⟩ ⟨fun b o e h1 h2 => ?_, F3.new⟩
        · rw [upd_ne D4.n0.symm]
          exact D4.hs
        · rw [upd_ne D4.n01.symm]
          exact D4.h1
        · by_cases h3 : b = l0'
          · exfalso
            rcases F3.new with e3 | e3
            · exact h2 (h3.trans e3)
            · rw [h3, e3] at e
              cases e
          · rw [upd_ne h3]
            exact S4 _ _ (F3.keep b o e h1 h2)
/-! ### _law_start -/
def spStart (K : PySem.W.Frag) : Sp := fun vs H Q _ => ∃ (a : Addr) (ns : List Int), vs = [.ref a] ∧ SqL K H a (ns.map V.int) ∧ ns.length ≤ 63 ∧
  ∀ (H' : Hp) (st l0 l1 : Addr), H st = none → H l0 = none → H l1 = none → Same H H' → Drw H' st l0 l1 0 → Q (.ref st) H'
theorem ok_start {f : Addr} {fd : FuncData} (F : Fun K "_law_start" "_law_start" sStart f fd) (ma : mg "abs" = none) (ml : mg "list" = none) : FnOk P w K mg base CX0 1 f fd ["_law_script"] (spStart K) := by
  refine F.ok scStart (fun vs H Q E h => ?_) (fun cdv A outer s H vs Q E hr h => ?_)
  · obtain ⟨a, ns, rfl, _⟩ := h
    rfl
  · obtain ⟨a, ns, rfl, hS, hl, k⟩ := h
    have nd := scStart.nd
    refine ⟨_, pss_one (ps_ret (pe_lst (pa_cons (pe_lc (own := [("_law_cell", 1)]) (g := gName 1) rfl nd (pi_list (pv 0)) (blkOk_by (N := ["_law_script", "_law_cell"]) (sc := defScope sStart) (by decide +kernel)) (fun _ _ _ _ _ => pg_name (i := 1) nd rfl (Or.inl rfl))
        (fun _ _ _ _ _ => pts_one (pt_cmpR op_ge (pe_callB call_abs (by rfl) ma (by decide +kernel) (pa_cons (pv 1) pa_nil)) (pe_op op_pow pe_int pe_int) (nomark _)))
        (fun _ _ _ _ _ => pe_callB call_abs (by rfl) ma (by decide +kernel) (pa_cons (pv 1) pa_nil)))
      (pa_cons (pe_op op_cat (pe_callTy call_list_of (by rfl) ml (by decide +kernel) (pa_cons (pv 0) pa_nil)) (pe_lst (pa_cons pe_int pa_nil)))
      (pa_cons pe_int pa_nil))))), ?_⟩
    refine ⟨_, rfl, a, rfl, ⟨_, hS⟩, fun D hD => ?_⟩
    have nDa : ∀ {b o}, H b = some o → b ≠ D := fun e => ne_of_none e hD
    refine lc_list (K := K) (a := a) (xs := ns.map V.int) (fun i H' => ∃ zs : List Int, zs.length ≤ i ∧ H' = upd H D (.lst (zs.map V.int))) ⟨[], Nat.le_refl _, rfl⟩ (fun i H' _ h => ?_) (fun i x H' hi h => ?_) (fun H' h => ?_)
    · obtain ⟨zs, _, rfl⟩ := h
      exact (same_upd hD).seq hS
    · obtain ⟨zs, hz, rfl⟩ := h
      obtain ⟨c, rfl⟩ : ∃ c, x = V.int c := by
        rw [List.getElem?_map] at hi
        cases e : ns[i]? with
        | none => rw [e] at hi; cases hi
        | some z => rw [e] at hi; exact ⟨z, (Option.some.inj hi).symm⟩
      have hi2 : i < ns.length := by
        have := (List.getElem?_eq_some_iff.mp hi).1
        rwa [List.length_map] at this
      refine ⟨rfl, _, rfl, c, rfl, 10, 18, rfl, rfl, ⟨by decide, by decide, by decide⟩, _, _, rfl, rfl, _, rfl, ?_⟩
      refine ite2 (fun _ => ?_) (fun _ => ⟨zs, Nat.le_succ_of_le hz, rfl⟩)
      refine ⟨_, rfl, c, rfl, zs.map V.int, upd_same, ?_, zs ++ [if c < 0 then -c else c], by simp; omega, ?_⟩
      · rw [List.length_map]
        exact small1000 (by omega)
      · rw [upd_upd, List.map_append]
        rfl
    · obtain ⟨zs, hz, rfl⟩ := h
      rw [List.length_map] at hz
      have s1 : Same H (upd H D (.lst (zs.map V.int))) := same_upd hD
      refine ⟨_, rfl, a, _, rfl, .inl (s1.seq hS), fun p hp => ?_⟩
      have s2 := s1.trans (same_upd (o := .lst (ns.map V.int)) hp)
      refine ⟨by decide, fun q hq => ?_⟩
      have npq : p ≠ q := ne_of_none upd_same hq
      refine ⟨p, q, _, _, rfl, rfl, (by rw [upd_ne npq, upd_same]), upd_same, ?_, fun l1 hl1 => ?_⟩
      · rw [List.length_map]
        exact Nat.le_of_lt (small1000 (by simp; omega))
      refine ⟨(by show 3 ≤ sizeLine; decide), fun st hst => ?_⟩
      have s3 := s2.trans (same_upd (o := .lst [V.int 5]) hq)
      have s4 := s3.trans (same_upd (o := .lst (ns.map V.int ++ [V.int 5])) hl1)
      have s5 := s4.trans (same_upd (o := .lst [V.ref D, V.ref l1, V.int 0]) hst)
      have dD : (upd (upd (upd H D (.lst (zs.map V.int))) p (.lst (ns.map V.int))) q (.lst [V.int 5])) D = some (.lst (zs.map V.int)) :=
        same_upd hq _ _ (same_upd hp _ _ upd_same)
      have dD4 := same_upd hl1 (o := .lst (ns.map V.int ++ [V.int 5])) _ _ dD
      refine k _ st D l1 (s4.free hst) hD (s3.free hl1) s5 ⟨zs, ns ++ [5], upd_same, same_upd hst _ _ dD4, ?_, by omega, by simp, by simp; omega, ne_of_none dD4 hst, ne_of_none upd_same hst, ne_of_none dD hl1⟩
      rw [upd_ne (ne_of_none upd_same hst), upd_same, List.map_append]
      rfl
end
end TP
set_option maxHeartbeats 4000000
namespace TP
open PySem PySem.Spec PyProof.Rows L2 EX
/-- the __init__ that stands first in the class that stands at place i -/
def clsFirst : Stmt → Stmt
  | .ClassDef (body := b) .. => b.getD 0 (.Pass ⟨0, 0, 0, 0⟩)
  | _ => .Pass ⟨0, 0, 0, 0⟩
abbrev initS (i : Nat) : Stmt := clsFirst (topS i)
def exB (K : PySem.W.Frag) (C : Addr) : Bool :=
  (PySem.W.findIn K (.ref C) "__getattribute__" == some (some (.builtin "BaseException.__getattribute__")) && PySem.W.findIn K (.ref C) "__getattr__" == some none && PySem.W.subIn K (.ref C) (.type "BaseException") == some true) &&
  (PySem.W.hasDictIn K C && PySem.W.findIn K (.ref C) "__class__" == some (some (.builtin "object.__class__")) && PySem.W.specialIn K (.builtin "object.__class__") "__get__" == some (some (.builtin "getset_descriptor.__get__"))) &&
  (PySem.W.takesIn K (.builtin "object.__class__") == some true && PySem.W.mroIn K C (.type "object") == some true && PySem.W.keepIn K (.ref C))
theorem exB_ok {K : PySem.W.Frag} {C : Addr} (h : exB K C = true) : ExcC K C ∧ XfC K C ∧ PySem.W.keepIn K (.ref C) = true := by
  simp only [exB, Bool.and_eq_true, beq_iff_eq] at h
  obtain ⟨⟨⟨⟨h1, h2⟩, h3⟩, ⟨h4, h5⟩, h6⟩, ⟨h7, h8⟩, h9⟩ := h
  exact ⟨⟨h1, h2, h3, h4, h5, h6, h7, h8⟩, ⟨h1, h2, h3, h4⟩, h9⟩
def ixB (K : PySem.W.Frag) (C fI : Addr) (f : Str) : Bool :=
  exB K C && PySem.W.findIn K (.ref C) "__setattr__" == some (some (.builtin "object.__setattr__")) && PySem.W.typeIn K (.ref C) == some (.type "type") &&
  (PySem.W.findIn K (.ref C) f == some none && PySem.W.findIn K (.ref C) "__init__" == some (some (.ref fI)) && PySem.W.typeIn K (.ref fI) == some (.type "function"))
/-- a class of the errors with a field f -/
structure XI (K : PySem.W.Frag) (mg : Str → Option Value) (x f : Str) (C fI : Addr) : Prop where
  gC : mg x = some (.ref C)
  o : OexC K C
  ex : ExcC K C
  xf : XfC K C
  no : PySem.W.findIn K (.ref C) f = some none
  iC : PySem.W.findIn K (.ref C) "__init__" = some (some (.ref fI))
  tI : PySem.W.typeIn K (.ref fI) = some (.type "function")
theorem xi_of {K : PySem.W.Frag} {h : Heap} {mg : Str → Option Value} {x f : Str} {C fI : Addr} (X : K.In h) (G : h.Ns mainGlobals mg) (g : PySem.W.nsIn K mainGlobals x = some (some (.ref C)))
    (c : ∃ nm q N bs bm sn sub ab col dd k0 k1 k2 k3 k5, K.lookup C = some (excClassObj nm q C N bs bm true sn sub ab col dd k0 k1 k2 k3 k5 "ValueError.__new__") ∧ PySem.HandSPX.refsVE bm = true) (b : ixB K C fI f = true) : XI K mg x f C fI := by
  simp only [ixB, Bool.and_eq_true, beq_iff_eq] at b
  obtain ⟨⟨⟨h1, h2⟩, h3⟩, ⟨h4, h5⟩, h6⟩ := b
  obtain ⟨a1, a2, a3⟩ := exB_ok h1
  exact ⟨PySem.W.mg_of X G g, ⟨c, h2, a2.exC, h3, a3⟩, a1, a2, h4, h5, h6⟩
/-- at e: an error of the class C whose field f is v -/
def Fld (H : Hp) (C : Addr) (f : Str) (e : Addr) (v : V) : Prop := ∃ d, H e = some (exo e C (some d)) ∧ H d = some (exd d [(f, v)])
theorem Fld.same {H H' : Hp} {C : Addr} {f : Str} {e : Addr} {v : V} (F : Fld H C f e v) (s : Same H H') : Fld H' C f e v := by
  obtain ⟨d, h1, h2⟩ := F
  exact ⟨d, s _ _ h1, s _ _ h2⟩
theorem Fld.is {K : PySem.W.Frag} {H : Hp} {C : Addr} {f : Str} {e : Addr} {v : V} (F : Fld H C f e v) : IsExc K H e C := by
  obtain ⟨d, h1, h2⟩ := F
  exact .fields h1 h2
/-- __init__(self, f): self.f = f -/
def spInit (K : PySem.W.Frag) (f : Str) : Sp := fun vs H Q _ => ∃ (a C : Addr) (v : V), vs = [.ref a, v] ∧ OexC K C ∧ PySem.W.findIn K (.ref C) f = some none ∧ H a = some (exo a C none) ∧
  ∀ d, H d = none → d ≠ a → Q .non (upd (upd H d (exd d [(f, v)])) a (exo a C (some d)))
theorem init_rd {K : PySem.W.Frag} {f p : Str} {vs : List V} {H : Hp} {Q : VK} {E : XK} (h : spInit K f vs H Q E) : tOst K f (tVar 0) (tVar 1) { nx := fun _ H' => Q .non H', rt := Q } (start ["self", p] vs) H := by
  obtain ⟨a, C, v, rfl, T, no, ha, k⟩ := h
  exact ⟨v, rfl, .ref a, rfl, a, C, rfl, T, no, .inl ⟨ha, fun d hd ne => k d hd ne⟩⟩
theorem init_len {K : PySem.W.Frag} {f : Str} {vs : List V} {H : Hp} {Q : VK} {E : XK} (h : spInit K f vs H Q E) : vs.length = 2 := by
  obtain ⟨a, C, v, rfl, _⟩ := h
  rfl
section
variable {P : Program} {w : World} {K : PySem.W.Frag} {mg : Str → Option Value} {base : Heap} {f : Addr} {fd : FuncData}
theorem ok_i0 (F : Fun K "__init__" "BadName.__init__" (initS 2) f fd) : FnOk P w K mg base CX0 1 f fd ["self", "name"] (spInit K "name") := F.ok ⟨rfl, rfl, rfl, by decide +kernel, rfl, by decide +kernel, by decide +kernel⟩ (fun vs H Q E h => init_len h) (fun cdv A outer s H vs Q E hr h => ⟨_, pss_one (ps_ost (pv 0) (pv 1)), init_rd h⟩)
theorem ok_i1 (F : Fun K "__init__" "DuplicateName.__init__" (initS 3) f fd) : FnOk P w K mg base CX0 1 f fd ["self", "name"] (spInit K "name") := F.ok ⟨rfl, rfl, rfl, by decide +kernel, rfl, by decide +kernel, by decide +kernel⟩ (fun vs H Q E h => init_len h) (fun cdv A outer s H vs Q E hr h => ⟨_, pss_one (ps_ost (pv 0) (pv 1)), init_rd h⟩)
theorem ok_i2 (F : Fun K "__init__" "UnknownName.__init__" (initS 4) f fd) : FnOk P w K mg base CX0 1 f fd ["self", "name"] (spInit K "name") := F.ok ⟨rfl, rfl, rfl, by decide +kernel, rfl, by decide +kernel, by decide +kernel⟩ (fun vs H Q E h => init_len h) (fun cdv A outer s H vs Q E hr h => ⟨_, pss_one (ps_ost (pv 0) (pv 1)), init_rd h⟩)
theorem ok_i3 (F : Fun K "__init__" "BadCount.__init__" (initS 5) f fd) : FnOk P w K mg base CX0 1 f fd ["self", "count"] (spInit K "count") := F.ok ⟨rfl, rfl, rfl, by decide +kernel, rfl, by decide +kernel, by decide +kernel⟩ (fun vs H Q E h => init_len h) (fun cdv A outer s H vs Q E hr h => ⟨_, pss_one (ps_ost (pv 0) (pv 1)), init_rd h⟩)
theorem ok_i4 (F : Fun K "__init__" "BadText.__init__" (initS 6) f fd) : FnOk P w K mg base CX0 1 f fd ["self", "text"] (spInit K "text") := F.ok ⟨rfl, rfl, rfl, by decide +kernel, rfl, by decide +kernel, by decide +kernel⟩ (fun vs H Q E h => init_len h) (fun cdv A outer s H vs Q E hr h => ⟨_, pss_one (ps_ost (pv 0) (pv 1)), init_rd h⟩)
theorem ok_i5 (F : Fun K "__init__" "BadSet.__init__" (initS 7) f fd) : FnOk P w K mg base CX0 1 f fd ["self", "value"] (spInit K "value") := F.ok ⟨rfl, rfl, rfl, by decide +kernel, rfl, by decide +kernel, by decide +kernel⟩ (fun vs H Q E h => init_len h) (fun cdv A outer s H vs Q E hr h => ⟨_, pss_one (ps_ost (pv 0) (pv 1)), init_rd h⟩)
theorem ok_i6 (F : Fun K "__init__" "BadOrder.__init__" (initS 8) f fd) : FnOk P w K mg base CX0 1 f fd ["self", "value"] (spInit K "value") := F.ok ⟨rfl, rfl, rfl, by decide +kernel, rfl, by decide +kernel, by decide +kernel⟩ (fun vs H Q E h => init_len h) (fun cdv A outer s H vs Q E hr h => ⟨_, pss_one (ps_ost (pv 0) (pv 1)), init_rd h⟩)
theorem ok_i7 (F : Fun K "__init__" "NotAllowed.__init__" (initS 9) f fd) : FnOk P w K mg base CX0 1 f fd ["self", "value"] (spInit K "value") := F.ok ⟨rfl, rfl, rfl, by decide +kernel, rfl, by decide +kernel, by decide +kernel⟩ (fun vs H Q E h => init_len h) (fun cdv A outer s H vs Q E hr h => ⟨_, pss_one (ps_ost (pv 0) (pv 1)), init_rd h⟩)
theorem ok_i8 (F : Fun K "__init__" "NoOrder.__init__" (initS 10) f fd) : FnOk P w K mg base CX0 1 f fd ["self", "value"] (spInit K "value") := F.ok ⟨rfl, rfl, rfl, by decide +kernel, rfl, by decide +kernel, by decide +kernel⟩ (fun vs H Q E h => init_len h) (fun cdv A outer s H vs Q E hr h => ⟨_, pss_one (ps_ost (pv 0) (pv 1)), init_rd h⟩)
theorem ok_i9 (F : Fun K "__init__" "BadNumber.__init__" (initS 11) f fd) : FnOk P w K mg base CX0 1 f fd ["self", "value"] (spInit K "value") := F.ok ⟨rfl, rfl, rfl, by decide +kernel, rfl, by decide +kernel, by decide +kernel⟩ (fun vs H Q E h => init_len h) (fun cdv A outer s H vs Q E hr h => ⟨_, pss_one (ps_ost (pv 0) (pv 1)), init_rd h⟩)
theorem ok_i10 (F : Fun K "__init__" "BadSteps.__init__" (initS 12) f fd) : FnOk P w K mg base CX0 1 f fd ["self", "value"] (spInit K "value") := F.ok ⟨rfl, rfl, rfl, by decide +kernel, rfl, by decide +kernel, by decide +kernel⟩ (fun vs H Q E h => init_len h) (fun cdv A outer s H vs Q E hr h => ⟨_, pss_one (ps_ost (pv 0) (pv 1)), init_rd h⟩)
theorem ok_i11 (F : Fun K "__init__" "NotTame.__init__" (initS 14) f fd) : FnOk P w K mg base CX0 1 f fd ["self", "value"] (spInit K "value") := F.ok ⟨rfl, rfl, rfl, by decide +kernel, rfl, by decide +kernel, by decide +kernel⟩ (fun vs H Q E h => init_len h) (fun cdv A outer s H vs Q E hr h => ⟨_, pss_one (ps_ost (pv 0) (pv 1)), init_rd h⟩)
theorem ok_i12 (F : Fun K "__init__" "UnlikeJobs.__init__" (initS 15) f fd) : FnOk P w K mg base CX0 1 f fd ["self", "names"] (spInit K "names") := F.ok ⟨rfl, rfl, rfl, by decide +kernel, rfl, by decide +kernel, by decide +kernel⟩ (fun vs H Q E h => init_len h) (fun cdv A outer s H vs Q E hr h => ⟨_, pss_one (ps_ost (pv 0) (pv 1)), init_rd h⟩)
end
/-- the field of the i-th class -/
def fN (i : Nat) : Str := (["name", "name", "name", "count", "text", "value", "value", "value", "value", "value", "value", "value", "names"] : List Str).getD i ""
/-- a value by place and one by name -/
def gK {α : Type} : List α → List α → List α
  | [a], [b] => [a, b]
  | _, _ => []
/-- one of the thirteen classes, its __init__ and how that binds -/
structure XK1 (P : Program) (w : World) (K : PySem.W.Frag) (mg : Str → Option Value) (base : Heap) (x f : Str) (C fI : Addr) (fd : FuncData) : Prop where
  x : XI K mg x f C fI
  ok : FnOk P w K mg base CX0 1 fI fd ["self", f] (spInit K f)
  b : Binds K fd ["self", f] []
  kb : KBinds K fd ["self", f] [f] gK gK
theorem mk_rd {K : PySem.W.Frag} {mg : Str → Option Value} {x f : Str} {C fI : Addr} (T : XI K mg x f C fI) {v : V} {H : Hp} {Q : VK} {E : XK} {a : Addr} (ha : H a = none) (k : ∀ H2, Same H H2 → Fld H2 C f a v → Q .non H2) : spInit K f [.ref a, v] (upd H a (exo a C none)) Q E := by
  refine ⟨a, C, v, rfl, T.o, T.no, upd_same, fun d hd ne => k _ (fun b o e => ?_) ⟨d, upd_same, ?_⟩⟩
  · have nb : b ≠ a := ne_of_none e ha
    have hb : upd H a (exo a C none) b = some o := by rw [upd_ne nb]; exact e
    rw [upd_ne nb, upd_ne (ne_of_none hb hd)]
    exact hb
  · rw [upd_ne ne, upd_same]
/-- a class without its own __init__ -/
structure XB (K : PySem.W.Frag) (mg : Str → Option Value) (x : Str) (C : Addr) : Prop where
  gC : mg x = some (.ref C)
  q : PySem.W.excIn K C [.type "ValueError", .type "Exception", .type "BaseException", .type "object"] "ValueError.__new__" = true
  ex : ExcC K C
  kC : PySem.W.keepIn K (.ref C) = true
/-- all classes; C and I tell where they and their __init__ stand -/
structure Errs (P : Program) (w : World) (K : PySem.W.Frag) (mg : Str → Option Value) (base : Heap) (C I : Nat → Addr) (D : Nat → FuncData) : Prop where
  c0 : XK1 P w K mg base "BadName" "name" (C 0) (I 0) (D 0)
  c1 : XK1 P w K mg base "DuplicateName" "name" (C 1) (I 1) (D 1)
  c2 : XK1 P w K mg base "UnknownName" "name" (C 2) (I 2) (D 2)
  c3 : XK1 P w K mg base "BadCount" "count" (C 3) (I 3) (D 3)
  c4 : XK1 P w K mg base "BadText" "text" (C 4) (I 4) (D 4)
  c5 : XK1 P w K mg base "BadSet" "value" (C 5) (I 5) (D 5)
  c6 : XK1 P w K mg base "BadOrder" "value" (C 6) (I 6) (D 6)
  c7 : XK1 P w K mg base "NotAllowed" "value" (C 7) (I 7) (D 7)
  c8 : XK1 P w K mg base "NoOrder" "value" (C 8) (I 8) (D 8)
  c9 : XK1 P w K mg base "BadNumber" "value" (C 9) (I 9) (D 9)
  c10 : XK1 P w K mg base "BadSteps" "value" (C 10) (I 10) (D 10)
  c11 : XK1 P w K mg base "NotTame" "value" (C 11) (I 11) (D 11)
  c12 : XK1 P w K mg base "UnlikeJobs" "names" (C 12) (I 12) (D 12)
  c13 : XB K mg "IsTame" (C 13)
  c14 : XB K mg "NothingToUndo" (C 14)
  g15 : mg "TailError" = some (.ref (C 15))
  mi : mg "isinstance" = none
  mr : mg "range" = none
  mb : mg "bool" = none
  mv : mg "ValueError" = none
  apart : ∀ i j, i < 15 → j < 15 → PySem.W.kitOne K (.ref (C i)) (.ref (C j)) = some (decide (j = i))
  tail : ∀ i, i < 15 → PySem.W.kitOne K (.ref (C i)) (.ref (C 15)) = some true
  ve : ∀ i, i < 15 → PySem.W.kitOne K (.ref (C i)) (.type "ValueError") = some true
/-- the fifteen errors es of the values ts -/
structure Made (C : Nat → Addr) (H : Hp) (es : List Addr) (ts : List V) : Prop where
  len : es.length = 15
  tl : ts.length = 13
  fld : ∀ i e v, i < 13 → es[i]? = some e → ts[i]? = some v → Fld H (C i) (fN i) e v
  bare : ∀ i e, 13 ≤ i → es[i]? = some e → H e = some (ExO (.ref (C i)) e)
theorem Made.same {C : Nat → Addr} {H H' : Hp} {es : List Addr} {ts : List V} (M : Made C H es ts) (s : Same H H') : Made C H' es ts :=
  ⟨M.len, M.tl, fun i e v h1 h2 h3 => (M.fld i e v h1 h2 h3).same s, fun i e h1 h2 => s _ _ (M.bare i e h1 h2)⟩
theorem made_of {C : Nat → Addr} {H : Hp} {e0 e1 e2 e3 e4 e5 e6 e7 e8 e9 e10 e11 e12 e13 e14 : Addr} {t0 t1 t2 t3 t4 t5 t6 t7 t8 t9 t10 t11 t12 : V} (F0 : Fld H (C 0) "name" e0 t0) (F1 : Fld H (C 1) "name" e1 t1) (F2 : Fld H (C 2) "name" e2 t2) (F3 : Fld H (C 3) "count" e3 t3) (F4 : Fld H (C 4) "text" e4 t4) (F5 : Fld H (C 5) "value" e5 t5) (F6 : Fld H (C 6) "value" e6 t6) (F7 : Fld H (C 7) "value" e7 t7) (F8 : Fld H (C 8) "value" e8 t8) (F9 : Fld H (C 9) "value" e9 t9) (F10 : Fld H (C 10) "value" e10 t10) (F11 : Fld H (C 11) "value" e11 t11) (F12 : Fld H (C 12) "names" e12 t12) (F13 : H e13 = some (ExO (.ref (C 13)) e13)) (F14 : H e14 = some (ExO (.ref (C 14)) e14)) : Made C H [e0, e1, e2, e3, e4, e5, e6, e7, e8, e9, e10, e11, e12, e13, e14] [t0, t1, t2, t3, t4, t5, t6, t7, t8, t9, t10, t11, t12] := by
  refine ⟨rfl, rfl, fun i e v h1 h2 h3 => ?_, fun i e h1 h2 => ?_⟩
  · match i, h1, h2, h3 with
    | 0, _, h2, h3 => cases h2; cases h3; exact F0
    | 1, _, h2, h3 => cases h2; cases h3; exact F1
    | 2, _, h2, h3 => cases h2; cases h3; exact F2
    | 3, _, h2, h3 => cases h2; cases h3; exact F3
    | 4, _, h2, h3 => cases h2; cases h3; exact F4
    | 5, _, h2, h3 => cases h2; cases h3; exact F5
    | 6, _, h2, h3 => cases h2; cases h3; exact F6
    | 7, _, h2, h3 => cases h2; cases h3; exact F7
    | 8, _, h2, h3 => cases h2; cases h3; exact F8
    | 9, _, h2, h3 => cases h2; cases h3; exact F9
    | 10, _, h2, h3 => cases h2; cases h3; exact F10
    | 11, _, h2, h3 => cases h2; cases h3; exact F11
    | 12, _, h2, h3 => cases h2; cases h3; exact F12
    | n + 13, h1, _, _ => omega
  · match i, h1, h2 with
    | 13, _, h2 => cases h2; exact F13
    | 14, _, h2 => cases h2; exact F14
    | 0, h1, _ | 1, h1, _ | 2, h1, _ | 3, h1, _ | 4, h1, _ | 5, h1, _ | 6, h1, _ | 7, h1, _ | 8, h1, _ | 9, h1, _ | 10, h1, _ | 11, h1, _ | 12, h1, _ => omega
    | n + 15, _, h2 => cases h2
theorem thirteen {α : Type} {l : List α} (h : l.length = 13) : ∃ t0 t1 t2 t3 t4 t5 t6 t7 t8 t9 t10 t11 t12, l = [t0, t1, t2, t3, t4, t5, t6, t7, t8, t9, t10, t11, t12] := by
  match l, h with
  | [t0, t1, t2, t3, t4, t5, t6, t7, t8, t9, t10, t11, t12], _ => exact ⟨_, _, _, _, _, _, _, _, _, _, _, _, _, rfl⟩
end TP
set_option maxHeartbeats 4000000
namespace TP
open PySem PySem.Spec PyProof.Rows L2 EX
abbrev sKinds : Stmt := topS 21
abbrev sThing : Stmt := topS 22
abbrev sAll : Stmt := topS 23
abbrev sNamed : Stmt := topS 24
abbrev sKeeps : Stmt := topS 25
abbrev sLaw : Stmt := topS 26
theorem scAll : FnScope ["_law_t", "_law_made"] ["_law_t"] (defScope sAll) := ⟨rfl, rfl, rfl, by decide +kernel, rfl, by decide +kernel, by decide +kernel⟩
theorem scNamed : FnScope ["_law_t", "_law_made"] ["_law_t"] (defScope sNamed) := ⟨rfl, rfl, rfl, by decide +kernel, rfl, by decide +kernel, by decide +kernel⟩
def spAll (C : Nat → Addr) : Sp := fun vs H Q _ => ∃ (p : Addr) (ts : List V), vs = [.ref p] ∧ H p = some (.lst ts) ∧ ts.length = 13 ∧
  ∀ (q : Addr) (es : List Addr) (H' : Hp), H q = none → Same H H' → H' q = some (.lst (es.map V.ref)) → Made C H' es ts → Q (.ref q) H'
section
variable {P : Program} {w : World} {K : PySem.W.Frag} {mg : Str → Option Value} {base : Heap} {C I : Nat → Addr} {D : Nat → FuncData} {f : Addr} {fd : FuncData}
theorem ok_all (T : Errs P w K mg base C I D) (F : Fun K "_law_all" "_law_all" sAll f fd) : FnOk P w K mg base CX0 3 f fd ["_law_t"] (spAll C) := by
  refine F.ok scAll (fun vs H Q E h => ?_) (fun cdv A outer s H vs Q E hr h => ?_)
  · obtain ⟨p, ts, rfl, _⟩ := h
    rfl
  · obtain ⟨p, ts, rfl, hp, hl, k⟩ := h
    have nd := scAll.nd
    obtain ⟨t0, t1, t2, t3, t4, t5, t6, t7, t8, t9, t10, t11, t12, rfl⟩ := thirteen hl
    refine ⟨_, pss_cons (ps_set (i := 1) nd rfl (.inl rfl) (pe_lst (pa_cons (pe_mkX T.c0.x.o T.c0.x.iC T.c0.x.tI T.c0.ok hr T.c0.b pass0 (by rfl) T.c0.x.gC (pa_cons (pe_ix ix_list (pv 0) pe_int (fun _ _ => rfl)) pa_nil)) (pa_cons (pe_mkX T.c1.x.o T.c1.x.iC T.c1.x.tI T.c1.ok hr T.c1.b pass0 (by rfl) T.c1.x.gC (pa_cons (pe_ix ix_list (pv 0) pe_int (fun _ _ => rfl)) pa_nil)) (pa_cons (pe_mkX T.c2.x.o T.c2.x.iC T.c2.x.tI T.c2.ok hr T.c2.b pass0 (by rfl) T.c2.x.gC (pa_cons (pe_ix ix_list (pv 0) pe_int (fun _ _ => rfl)) pa_nil)) (pa_cons (pe_mkX T.c3.x.o T.c3.x.iC T.c3.x.tI T.c3.ok hr T.c3.b pass0 (by rfl) T.c3.x.gC (pa_cons (pe_ix ix_list (pv 0) pe_int (fun _ _ => rfl)) pa_nil)) (pa_cons (pe_mkX T.c4.x.o T.c4.x.iC T.c4.x.tI T.c4.ok hr T.c4.b pass0 (by rfl) T.c4.x.gC (pa_cons (pe_ix ix_list (pv 0) pe_int (fun _ _ => rfl)) pa_nil)) (pa_cons (pe_mkX T.c5.x.o T.c5.x.iC T.c5.x.tI T.c5.ok hr T.c5.b pass0 (by rfl) T.c5.x.gC (pa_cons (pe_ix ix_list (pv 0) pe_int (fun _ _ => rfl)) pa_nil)) pa_nil))))))))
      (pss_cons (ps_set (i := 1) nd rfl (.inl rfl) (pe_op op_cat (pv 1) (pe_lst (pa_cons (pe_mkX T.c6.x.o T.c6.x.iC T.c6.x.tI T.c6.ok hr T.c6.b pass0 (by rfl) T.c6.x.gC (pa_cons (pe_ix ix_list (pv 0) pe_int (fun _ _ => rfl)) pa_nil)) (pa_cons (pe_mkX T.c7.x.o T.c7.x.iC T.c7.x.tI T.c7.ok hr T.c7.b pass0 (by rfl) T.c7.x.gC (pa_cons (pe_ix ix_list (pv 0) pe_int (fun _ _ => rfl)) pa_nil)) (pa_cons (pe_mkX T.c8.x.o T.c8.x.iC T.c8.x.tI T.c8.ok hr T.c8.b pass0 (by rfl) T.c8.x.gC (pa_cons (pe_ix ix_list (pv 0) pe_int (fun _ _ => rfl)) pa_nil)) (pa_cons (pe_mkX T.c9.x.o T.c9.x.iC T.c9.x.tI T.c9.ok hr T.c9.b pass0 (by rfl) T.c9.x.gC (pa_cons (pe_ix ix_list (pv 0) pe_int (fun _ _ => rfl)) pa_nil)) (pa_cons (pe_mkX T.c10.x.o T.c10.x.iC T.c10.x.tI T.c10.ok hr T.c10.b pass0 (by rfl) T.c10.x.gC (pa_cons (pe_ix ix_list (pv 0) pe_int (fun _ _ => rfl)) pa_nil)) (pa_cons (pe_mkX T.c11.x.o T.c11.x.iC T.c11.x.tI T.c11.ok hr T.c11.b pass0 (by rfl) T.c11.x.gC (pa_cons (pe_ix ix_list (pv 0) pe_int (fun _ _ => rfl)) pa_nil)) pa_nil)))))))))
      (pss_one (ps_ret (pe_op op_cat (pv 1) (pe_lst (pa_cons (pe_mkX T.c12.x.o T.c12.x.iC T.c12.x.tI T.c12.ok hr T.c12.b pass0 (by rfl) T.c12.x.gC (pa_cons (pe_ix ix_list (pv 0) pe_int (fun _ _ => rfl)) pa_nil)) (pa_cons (pe_mkB PySem.F.excBase_ValueError T.c13.q T.c13.gC T.c13.kC (by rfl)) (pa_cons (pe_mkB PySem.F.excBase_ValueError T.c14.q T.c14.gC T.c14.kC (by rfl)) pa_nil)))))))), ?_⟩
    have S : Same H H := Same.refl H
    refine ⟨_, rfl, p, _, 0, t0, rfl, rfl, SqL.of (S _ _ hp), atI_nat (j := 0) rfl, (by show 1 ≤ 1000; decide), fun e0 n0 => mk_rd T.c0.x n0 fun H0 s0 F0 => ⟨rfl, ?_⟩⟩
    replace S := S.trans s0
    refine ⟨_, rfl, p, _, 1, t1, rfl, rfl, SqL.of (S _ _ hp), atI_nat (j := 1) rfl, (by show 1 ≤ 1000; decide), fun e1 n1 => mk_rd T.c1.x n1 fun H1 s1 F1 => ⟨rfl, ?_⟩⟩
    replace S := S.trans s1
    replace F0 := F0.same s1
    refine ⟨_, rfl, p, _, 2, t2, rfl, rfl, SqL.of (S _ _ hp), atI_nat (j := 2) rfl, (by show 1 ≤ 1000; decide), fun e2 n2 => mk_rd T.c2.x n2 fun H2 s2 F2 => ⟨rfl, ?_⟩⟩
    replace S := S.trans s2
    replace F0 := F0.same s2
    replace F1 := F1.same s2
    refine ⟨_, rfl, p, _, 3, t3, rfl, rfl, SqL.of (S _ _ hp), atI_nat (j := 3) rfl, (by show 1 ≤ 1000; decide), fun e3 n3 => mk_rd T.c3.x n3 fun H3 s3 F3 => ⟨rfl, ?_⟩⟩
    replace S := S.trans s3
    replace F0 := F0.same s3
    replace F1 := F1.same s3
    replace F2 := F2.same s3
    refine ⟨_, rfl, p, _, 4, t4, rfl, rfl, SqL.of (S _ _ hp), atI_nat (j := 4) rfl, (by show 1 ≤ 1000; decide), fun e4 n4 => mk_rd T.c4.x n4 fun H4 s4 F4 => ⟨rfl, ?_⟩⟩
    replace S := S.trans s4
    replace F0 := F0.same s4
    replace F1 := F1.same s4
    replace F2 := F2.same s4
    replace F3 := F3.same s4
    refine ⟨_, rfl, p, _, 5, t5, rfl, rfl, SqL.of (S _ _ hp), atI_nat (j := 5) rfl, (by show 1 ≤ 1000; decide), fun e5 n5 => mk_rd T.c5.x n5 fun H5 s5 F5 => ⟨rfl, ?_⟩⟩
    replace S := S.trans s5
    replace F0 := F0.same s5
    replace F1 := F1.same s5
    replace F2 := F2.same s5
    replace F3 := F3.same s5
    replace F4 := F4.same s5
    refine ⟨(by show 6 ≤ sizeLine; decide), fun q0 hq0 => ?_⟩
    have sq0 := same_upd (o := .lst [.ref e0, .ref e1, .ref e2, .ref e3, .ref e4, .ref e5]) hq0
    replace S := S.trans sq0
    replace F0 := F0.same sq0
    replace F1 := F1.same sq0
    replace F2 := F2.same sq0
    replace F3 := F3.same sq0
    replace F4 := F4.same sq0
    replace F5 := F5.same sq0
    have L := @upd_same H5 q0 (.lst [V.ref e0, V.ref e1, V.ref e2, V.ref e3, V.ref e4, V.ref e5])
    refine ⟨_, rfl, _, rfl, p, _, 6, t6, rfl, rfl, SqL.of (S _ _ hp), atI_nat (j := 6) rfl, (by show 1 ≤ 1000; decide), fun e6 n6 => mk_rd T.c6.x n6 fun H6 s6 F6 => ⟨rfl, ?_⟩⟩
    replace S := S.trans s6
    replace F0 := F0.same s6
    replace F1 := F1.same s6
    replace F2 := F2.same s6
    replace F3 := F3.same s6
    replace F4 := F4.same s6
    replace F5 := F5.same s6
    replace L := s6 _ _ L
    refine ⟨_, rfl, p, _, 7, t7, rfl, rfl, SqL.of (S _ _ hp), atI_nat (j := 7) rfl, (by show 1 ≤ 1000; decide), fun e7 n7 => mk_rd T.c7.x n7 fun H7 s7 F7 => ⟨rfl, ?_⟩⟩
    replace S := S.trans s7
    replace F0 := F0.same s7
    replace F1 := F1.same s7
    replace F2 := F2.same s7
    replace F3 := F3.same s7
    replace F4 := F4.same s7
    replace F5 := F5.same s7
    replace L := s7 _ _ L
    replace F6 := F6.same s7
    refine ⟨_, rfl, p, _, 8, t8, rfl, rfl, SqL.of (S _ _ hp), atI_nat (j := 8) rfl, (by show 1 ≤ 1000; decide), fun e8 n8 => mk_rd T.c8.x n8 fun H8 s8 F8 => ⟨rfl, ?_⟩⟩
    replace S := S.trans s8
    replace F0 := F0.same s8
    replace F1 := F1.same s8
    replace F2 := F2.same s8
    replace F3 := F3.same s8
    replace F4 := F4.same s8
    replace F5 := F5.same s8
    replace L := s8 _ _ L
    replace F6 := F6.same s8
    replace F7 := F7.same s8
    refine ⟨_, rfl, p, _, 9, t9, rfl, rfl, SqL.of (S _ _ hp), atI_nat (j := 9) rfl, (by show 1 ≤ 1000; decide), fun e9 n9 => mk_rd T.c9.x n9 fun H9 s9 F9 => ⟨rfl, ?_⟩⟩
    replace S := S.trans s9
    replace F0 := F0.same s9
    replace F1 := F1.same s9
    replace F2 := F2.same s9
    replace F3 := F3.same s9
    replace F4 := F4.same s9
    replace F5 := F5.same s9
    replace L := s9 _ _ L
    replace F6 := F6.same s9
    replace F7 := F7.same s9
    replace F8 := F8.same s9
    refine ⟨_, rfl, p, _, 10, t10, rfl, rfl, SqL.of (S _ _ hp), atI_nat (j := 10) rfl, (by show 1 ≤ 1000; decide), fun e10 n10 => mk_rd T.c10.x n10 fun H10 s10 F10 => ⟨rfl, ?_⟩⟩
    replace S := S.trans s10
    replace F0 := F0.same s10
    replace F1 := F1.same s10
    replace F2 := F2.same s10
    replace F3 := F3.same s10
    replace F4 := F4.same s10
    replace F5 := F5.same s10
    replace L := s10 _ _ L
    replace F6 := F6.same s10
    replace F7 := F7.same s10
    replace F8 := F8.same s10
    replace F9 := F9.same s10
    refine ⟨_, rfl, p, _, 11, t11, rfl, rfl, SqL.of (S _ _ hp), atI_nat (j := 11) rfl, (by show 1 ≤ 1000; decide), fun e11 n11 => mk_rd T.c11.x n11 fun H11 s11 F11 => ⟨rfl, ?_⟩⟩
    replace S := S.trans s11
    replace F0 := F0.same s11
    replace F1 := F1.same s11
    replace F2 := F2.same s11
    replace F3 := F3.same s11
    replace F4 := F4.same s11
    replace F5 := F5.same s11
    replace L := s11 _ _ L
    replace F6 := F6.same s11
    replace F7 := F7.same s11
    replace F8 := F8.same s11
    replace F9 := F9.same s11
    replace F10 := F10.same s11
    refine ⟨(by show 6 ≤ sizeLine; decide), fun q1 hq1 => ?_⟩
    have sq1 := same_upd (o := .lst [.ref e6, .ref e7, .ref e8, .ref e9, .ref e10, .ref e11]) hq1
    replace S := S.trans sq1
    replace F0 := F0.same sq1
    replace F1 := F1.same sq1
    replace F2 := F2.same sq1
    replace F3 := F3.same sq1
    replace F4 := F4.same sq1
    replace F5 := F5.same sq1
    replace L := sq1 _ _ L
    replace F6 := F6.same sq1
    replace F7 := F7.same sq1
    replace F8 := F8.same sq1
    replace F9 := F9.same sq1
    replace F10 := F10.same sq1
    replace F11 := F11.same sq1
    refine ⟨q0, q1, _, _, rfl, rfl, L, upd_same, (by show 12 ≤ sizeLine; decide), fun l1 hl1 => ?_⟩
    have sl1 := same_upd (o := .lst [V.ref e0, V.ref e1, V.ref e2, V.ref e3, V.ref e4, V.ref e5, V.ref e6, V.ref e7, V.ref e8, V.ref e9, V.ref e10, V.ref e11]) hl1
    have fl1 := S.free hl1
    replace S := S.trans sl1
    replace F0 := F0.same sl1
    replace F1 := F1.same sl1
    replace F2 := F2.same sl1
    replace F3 := F3.same sl1
    replace F4 := F4.same sl1
    replace F5 := F5.same sl1
    replace F6 := F6.same sl1
    replace F7 := F7.same sl1
    replace F8 := F8.same sl1
    replace F9 := F9.same sl1
    replace F10 := F10.same sl1
    replace F11 := F11.same sl1
    have L := @upd_same (upd H11 q1 (.lst [V.ref e6, V.ref e7, V.ref e8, V.ref e9, V.ref e10, V.ref e11])) l1 (.lst [V.ref e0, V.ref e1, V.ref e2, V.ref e3, V.ref e4, V.ref e5, V.ref e6, V.ref e7, V.ref e8, V.ref e9, V.ref e10, V.ref e11])
    refine ⟨_, rfl, _, rfl, p, _, 12, t12, rfl, rfl, SqL.of (S _ _ hp), atI_nat (j := 12) rfl, (by show 1 ≤ 1000; decide), fun e12 n12 => mk_rd T.c12.x n12 fun H12 s12 F12 => ⟨rfl, ?_⟩⟩
    replace S := S.trans s12
    replace F0 := F0.same s12
    replace F1 := F1.same s12
    replace F2 := F2.same s12
    replace F3 := F3.same s12
    replace F4 := F4.same s12
    replace F5 := F5.same s12
    replace F6 := F6.same s12
    replace F7 := F7.same s12
    replace F8 := F8.same s12
    replace F9 := F9.same s12
    replace F10 := F10.same s12
    replace F11 := F11.same s12
    replace L := s12 _ _ L
    intro e13 n13
    have s13 := same_upd (o := ExO (.ref (C 13)) e13) n13
    replace S := S.trans s13
    replace F0 := F0.same s13
    replace F1 := F1.same s13
    replace F2 := F2.same s13
    replace F3 := F3.same s13
    replace F4 := F4.same s13
    replace F5 := F5.same s13
    replace F6 := F6.same s13
    replace F7 := F7.same s13
    replace F8 := F8.same s13
    replace F9 := F9.same s13
    replace F10 := F10.same s13
    replace F11 := F11.same s13
    replace L := s13 _ _ L
    replace F12 := F12.same s13
    have B13 := @upd_same H12 e13 (ExO (.ref (C 13)) e13)
    intro e14 n14
    have s14 := same_upd (o := ExO (.ref (C 14)) e14) n14
    replace S := S.trans s14
    replace F0 := F0.same s14
    replace F1 := F1.same s14
    replace F2 := F2.same s14
    replace F3 := F3.same s14
    replace F4 := F4.same s14
    replace F5 := F5.same s14
    replace F6 := F6.same s14
    replace F7 := F7.same s14
    replace F8 := F8.same s14
    replace F9 := F9.same s14
    replace F10 := F10.same s14
    replace F11 := F11.same s14
    replace L := s14 _ _ L
    replace F12 := F12.same s14
    replace B13 := s14 _ _ B13
    have B14 := @upd_same (upd H12 e13 (ExO (.ref (C 13)) e13)) e14 (ExO (.ref (C 14)) e14)
    refine ⟨(by show 3 ≤ sizeLine; decide), fun q2 hq2 => ?_⟩
    have sq2 := same_upd (o := .lst [.ref e12, .ref e13, .ref e14]) hq2
    replace S := S.trans sq2
    replace F0 := F0.same sq2
    replace F1 := F1.same sq2
    replace F2 := F2.same sq2
    replace F3 := F3.same sq2
    replace F4 := F4.same sq2
    replace F5 := F5.same sq2
    replace F6 := F6.same sq2
    replace F7 := F7.same sq2
    replace F8 := F8.same sq2
    replace F9 := F9.same sq2
    replace F10 := F10.same sq2
    replace F11 := F11.same sq2
    replace L := sq2 _ _ L
    replace F12 := F12.same sq2
    replace B13 := sq2 _ _ B13
    replace B14 := sq2 _ _ B14
    refine ⟨l1, q2, _, _, rfl, rfl, L, upd_same, (by show 15 ≤ sizeLine; decide), fun l2 hl2 => ?_⟩
    have sl2 := same_upd (o := .lst [V.ref e0, V.ref e1, V.ref e2, V.ref e3, V.ref e4, V.ref e5, V.ref e6, V.ref e7, V.ref e8, V.ref e9, V.ref e10, V.ref e11, V.ref e12, V.ref e13, V.ref e14]) hl2
    have fl2 := S.free hl2
    replace S := S.trans sl2
    replace F0 := F0.same sl2
    replace F1 := F1.same sl2
    replace F2 := F2.same sl2
    replace F3 := F3.same sl2
    replace F4 := F4.same sl2
    replace F5 := F5.same sl2
    replace F6 := F6.same sl2
    replace F7 := F7.same sl2
    replace F8 := F8.same sl2
    replace F9 := F9.same sl2
    replace F10 := F10.same sl2
    replace F11 := F11.same sl2
    replace F12 := F12.same sl2
    replace B13 := sl2 _ _ B13
    replace B14 := sl2 _ _ B14
    have L := @upd_same (upd (upd (upd H12 e13 (ExO (.ref (C 13)) e13)) e14 (ExO (.ref (C 14)) e14)) q2 (.lst [V.ref e12, V.ref e13, V.ref e14])) l2 (.lst [V.ref e0, V.ref e1, V.ref e2, V.ref e3, V.ref e4, V.ref e5, V.ref e6, V.ref e7, V.ref e8, V.ref e9, V.ref e10, V.ref e11, V.ref e12, V.ref e13, V.ref e14])
    exact k l2 [e0, e1, e2, e3, e4, e5, e6, e7, e8, e9, e10, e11, e12, e13, e14] _ fl2 S L (made_of F0 F1 F2 F3 F4 F5 F6 F7 F8 F9 F10 F11 F12 B13 B14)
theorem ok_named (T : Errs P w K mg base C I D) (F : Fun K "_law_named" "_law_named" sNamed f fd) : FnOk P w K mg base CX0 3 f fd ["_law_t"] (spAll C) := by
  refine F.ok scNamed (fun vs H Q E h => ?_) (fun cdv A outer s H vs Q E hr h => ?_)
  · obtain ⟨p, ts, rfl, _⟩ := h
    rfl
  · obtain ⟨p, ts, rfl, hp, hl, k⟩ := h
    have nd := scNamed.nd
    obtain ⟨t0, t1, t2, t3, t4, t5, t6, t7, t8, t9, t10, t11, t12, rfl⟩ := thirteen hl
    refine ⟨_, pss_cons (ps_set (i := 1) nd rfl (.inl rfl) (pe_lst (pa_cons (pe_mkXK T.c0.x.o T.c0.x.iC T.c0.x.tI T.c0.ok hr T.c0.kb pass0 (by rfl) T.c0.x.gC (pk_cons (pe_ix ix_list (pv 0) pe_int (fun _ _ => rfl)) pk_nil)) (pa_cons (pe_mkXK T.c1.x.o T.c1.x.iC T.c1.x.tI T.c1.ok hr T.c1.kb pass0 (by rfl) T.c1.x.gC (pk_cons (pe_ix ix_list (pv 0) pe_int (fun _ _ => rfl)) pk_nil)) (pa_cons (pe_mkXK T.c2.x.o T.c2.x.iC T.c2.x.tI T.c2.ok hr T.c2.kb pass0 (by rfl) T.c2.x.gC (pk_cons (pe_ix ix_list (pv 0) pe_int (fun _ _ => rfl)) pk_nil)) (pa_cons (pe_mkXK T.c3.x.o T.c3.x.iC T.c3.x.tI T.c3.ok hr T.c3.kb pass0 (by rfl) T.c3.x.gC (pk_cons (pe_ix ix_list (pv 0) pe_int (fun _ _ => rfl)) pk_nil)) pa_nil))))))
      (pss_cons (ps_set (i := 1) nd rfl (.inl rfl) (pe_op op_cat (pv 1) (pe_lst (pa_cons (pe_mkXK T.c4.x.o T.c4.x.iC T.c4.x.tI T.c4.ok hr T.c4.kb pass0 (by rfl) T.c4.x.gC (pk_cons (pe_ix ix_list (pv 0) pe_int (fun _ _ => rfl)) pk_nil)) (pa_cons (pe_mkXK T.c5.x.o T.c5.x.iC T.c5.x.tI T.c5.ok hr T.c5.kb pass0 (by rfl) T.c5.x.gC (pk_cons (pe_ix ix_list (pv 0) pe_int (fun _ _ => rfl)) pk_nil)) (pa_cons (pe_mkXK T.c6.x.o T.c6.x.iC T.c6.x.tI T.c6.ok hr T.c6.kb pass0 (by rfl) T.c6.x.gC (pk_cons (pe_ix ix_list (pv 0) pe_int (fun _ _ => rfl)) pk_nil)) (pa_cons (pe_mkXK T.c7.x.o T.c7.x.iC T.c7.x.tI T.c7.ok hr T.c7.kb pass0 (by rfl) T.c7.x.gC (pk_cons (pe_ix ix_list (pv 0) pe_int (fun _ _ => rfl)) pk_nil)) pa_nil)))))))
      (pss_cons (ps_set (i := 1) nd rfl (.inl rfl) (pe_op op_cat (pv 1) (pe_lst (pa_cons (pe_mkXK T.c8.x.o T.c8.x.iC T.c8.x.tI T.c8.ok hr T.c8.kb pass0 (by rfl) T.c8.x.gC (pk_cons (pe_ix ix_list (pv 0) pe_int (fun _ _ => rfl)) pk_nil)) (pa_cons (pe_mkXK T.c9.x.o T.c9.x.iC T.c9.x.tI T.c9.ok hr T.c9.kb pass0 (by rfl) T.c9.x.gC (pk_cons (pe_ix ix_list (pv 0) pe_int (fun _ _ => rfl)) pk_nil)) (pa_cons (pe_mkXK T.c10.x.o T.c10.x.iC T.c10.x.tI T.c10.ok hr T.c10.kb pass0 (by rfl) T.c10.x.gC (pk_cons (pe_ix ix_list (pv 0) pe_int (fun _ _ => rfl)) pk_nil)) (pa_cons (pe_mkXK T.c11.x.o T.c11.x.iC T.c11.x.tI T.c11.ok hr T.c11.kb pass0 (by rfl) T.c11.x.gC (pk_cons (pe_ix ix_list (pv 0) pe_int (fun _ _ => rfl)) pk_nil)) pa_nil)))))))
      (pss_one (ps_ret (pe_op op_cat (pv 1) (pe_lst (pa_cons (pe_mkXK T.c12.x.o T.c12.x.iC T.c12.x.tI T.c12.ok hr T.c12.kb pass0 (by rfl) T.c12.x.gC (pk_cons (pe_ix ix_list (pv 0) pe_int (fun _ _ => rfl)) pk_nil)) (pa_cons (pe_mkB PySem.F.excBase_ValueError T.c13.q T.c13.gC T.c13.kC (by rfl)) (pa_cons (pe_mkB PySem.F.excBase_ValueError T.c14.q T.c14.gC T.c14.kC (by rfl)) pa_nil))))))))), ?_⟩
    have S : Same H H := Same.refl H
    refine ⟨_, rfl, p, _, 0, t0, rfl, rfl, SqL.of (S _ _ hp), atI_nat (j := 0) rfl, fun e0 n0 => mk_rd T.c0.x n0 fun H0 s0 F0 => ⟨rfl, ?_⟩⟩
    replace S := S.trans s0
    refine ⟨_, rfl, p, _, 1, t1, rfl, rfl, SqL.of (S _ _ hp), atI_nat (j := 1) rfl, fun e1 n1 => mk_rd T.c1.x n1 fun H1 s1 F1 => ⟨rfl, ?_⟩⟩
    replace S := S.trans s1
    replace F0 := F0.same s1
    refine ⟨_, rfl, p, _, 2, t2, rfl, rfl, SqL.of (S _ _ hp), atI_nat (j := 2) rfl, fun e2 n2 => mk_rd T.c2.x n2 fun H2 s2 F2 => ⟨rfl, ?_⟩⟩
    replace S := S.trans s2
    replace F0 := F0.same s2
    replace F1 := F1.same s2
    refine ⟨_, rfl, p, _, 3, t3, rfl, rfl, SqL.of (S _ _ hp), atI_nat (j := 3) rfl, fun e3 n3 => mk_rd T.c3.x n3 fun H3 s3 F3 => ⟨rfl, ?_⟩⟩
    replace S := S.trans s3
    replace F0 := F0.same s3
    replace F1 := F1.same s3
    replace F2 := F2.same s3
    refine ⟨(by show 4 ≤ sizeLine; decide), fun q0 hq0 => ?_⟩
    have sq0 := same_upd (o := .lst [.ref e0, .ref e1, .ref e2, .ref e3]) hq0
    replace S := S.trans sq0
    replace F0 := F0.same sq0
    replace F1 := F1.same sq0
    replace F2 := F2.same sq0
    replace F3 := F3.same sq0
    have L := @upd_same H3 q0 (.lst [V.ref e0, V.ref e1, V.ref e2, V.ref e3])
    refine ⟨_, rfl, _, rfl, p, _, 4, t4, rfl, rfl, SqL.of (S _ _ hp), atI_nat (j := 4) rfl, fun e4 n4 => mk_rd T.c4.x n4 fun H4 s4 F4 => ⟨rfl, ?_⟩⟩
    replace S := S.trans s4
    replace F0 := F0.same s4
    replace F1 := F1.same s4
    replace F2 := F2.same s4
    replace F3 := F3.same s4
    replace L := s4 _ _ L
    refine ⟨_, rfl, p, _, 5, t5, rfl, rfl, SqL.of (S _ _ hp), atI_nat (j := 5) rfl, fun e5 n5 => mk_rd T.c5.x n5 fun H5 s5 F5 => ⟨rfl, ?_⟩⟩
    replace S := S.trans s5
    replace F0 := F0.same s5
    replace F1 := F1.same s5
    replace F2 := F2.same s5
    replace F3 := F3.same s5
    replace L := s5 _ _ L
    replace F4 := F4.same s5
    refine ⟨_, rfl, p, _, 6, t6, rfl, rfl, SqL.of (S _ _ hp), atI_nat (j := 6) rfl, fun e6 n6 => mk_rd T.c6.x n6 fun H6 s6 F6 => ⟨rfl, ?_⟩⟩
    replace S := S.trans s6
    replace F0 := F0.same s6
    replace F1 := F1.same s6
    replace F2 := F2.same s6
    replace F3 := F3.same s6
    replace L := s6 _ _ L
    replace F4 := F4.same s6
    replace F5 := F5.same s6
    refine ⟨_, rfl, p, _, 7, t7, rfl, rfl, SqL.of (S _ _ hp), atI_nat (j := 7) rfl, fun e7 n7 => mk_rd T.c7.x n7 fun H7 s7 F7 => ⟨rfl, ?_⟩⟩
    replace S := S.trans s7
    replace F0 := F0.same s7
    replace F1 := F1.same s7
    replace F2 := F2.same s7
    replace F3 := F3.same s7
    replace L := s7 _ _ L
    replace F4 := F4.same s7
    replace F5 := F5.same s7
    replace F6 := F6.same s7
    refine ⟨(by show 4 ≤ sizeLine; decide), fun q1 hq1 => ?_⟩
    have sq1 := same_upd (o := .lst [.ref e4, .ref e5, .ref e6, .ref e7]) hq1
    replace S := S.trans sq1
    replace F0 := F0.same sq1
    replace F1 := F1.same sq1
    replace F2 := F2.same sq1
    replace F3 := F3.same sq1
    replace L := sq1 _ _ L
    replace F4 := F4.same sq1
    replace F5 := F5.same sq1
    replace F6 := F6.same sq1
    replace F7 := F7.same sq1
    refine ⟨q0, q1, _, _, rfl, rfl, L, upd_same, (by show 8 ≤ sizeLine; decide), fun l1 hl1 => ?_⟩
    have sl1 := same_upd (o := .lst [V.ref e0, V.ref e1, V.ref e2, V.ref e3, V.ref e4, V.ref e5, V.ref e6, V.ref e7]) hl1
    have fl1 := S.free hl1
    replace S := S.trans sl1
    replace F0 := F0.same sl1
    replace F1 := F1.same sl1
    replace F2 := F2.same sl1
    replace F3 := F3.same sl1
    replace F4 := F4.same sl1
    replace F5 := F5.same sl1
    replace F6 := F6.same sl1
    replace F7 := F7.same sl1
    have L := @upd_same (upd H7 q1 (.lst [V.ref e4, V.ref e5, V.ref e6, V.ref e7])) l1 (.lst [V.ref e0, V.ref e1, V.ref e2, V.ref e3, V.ref e4, V.ref e5, V.ref e6, V.ref e7])
    refine ⟨_, rfl, _, rfl, p, _, 8, t8, rfl, rfl, SqL.of (S _ _ hp), atI_nat (j := 8) rfl, fun e8 n8 => mk_rd T.c8.x n8 fun H8 s8 F8 => ⟨rfl, ?_⟩⟩
    replace S := S.trans s8
    replace F0 := F0.same s8
    replace F1 := F1.same s8
    replace F2 := F2.same s8
    replace F3 := F3.same s8
    replace F4 := F4.same s8
    replace F5 := F5.same s8
    replace F6 := F6.same s8
    replace F7 := F7.same s8
    replace L := s8 _ _ L
    refine ⟨_, rfl, p, _, 9, t9, rfl, rfl, SqL.of (S _ _ hp), atI_nat (j := 9) rfl, fun e9 n9 => mk_rd T.c9.x n9 fun H9 s9 F9 => ⟨rfl, ?_⟩⟩
    replace S := S.trans s9
    replace F0 := F0.same s9
    replace F1 := F1.same s9
    replace F2 := F2.same s9
    replace F3 := F3.same s9
    replace F4 := F4.same s9
    replace F5 := F5.same s9
    replace F6 := F6.same s9
    replace F7 := F7.same s9
    replace L := s9 _ _ L
    replace F8 := F8.same s9
    refine ⟨_, rfl, p, _, 10, t10, rfl, rfl, SqL.of (S _ _ hp), atI_nat (j := 10) rfl, fun e10 n10 => mk_rd T.c10.x n10 fun H10 s10 F10 => ⟨rfl, ?_⟩⟩
    replace S := S.trans s10
    replace F0 := F0.same s10
    replace F1 := F1.same s10
    replace F2 := F2.same s10
    replace F3 := F3.same s10
    replace F4 := F4.same s10
    replace F5 := F5.same s10
    replace F6 := F6.same s10
    replace F7 := F7.same s10
    replace L := s10 _ _ L
    replace F8 := F8.same s10
    replace F9 := F9.same s10
    refine ⟨_, rfl, p, _, 11, t11, rfl, rfl, SqL.of (S _ _ hp), atI_nat (j := 11) rfl, fun e11 n11 => mk_rd T.c11.x n11 fun H11 s11 F11 => ⟨rfl, ?_⟩⟩
    replace S := S.trans s11
    replace F0 := F0.same s11
    replace F1 := F1.same s11
    replace F2 := F2.same s11
    replace F3 := F3.same s11
    replace F4 := F4.same s11
    replace F5 := F5.same s11
    replace F6 := F6.same s11
    replace F7 := F7.same s11
    replace L := s11 _ _ L
    replace F8 := F8.same s11
    replace F9 := F9.same s11
    replace F10 := F10.same s11
    refine ⟨(by show 4 ≤ sizeLine; decide), fun q2 hq2 => ?_⟩
    have sq2 := same_upd (o := .lst [.ref e8, .ref e9, .ref e10, .ref e11]) hq2
    replace S := S.trans sq2
    replace F0 := F0.same sq2
    replace F1 := F1.same sq2
    replace F2 := F2.same sq2
    replace F3 := F3.same sq2
    replace F4 := F4.same sq2
    replace F5 := F5.same sq2
    replace F6 := F6.same sq2
    replace F7 := F7.same sq2
    replace L := sq2 _ _ L
    replace F8 := F8.same sq2
    replace F9 := F9.same sq2
    replace F10 := F10.same sq2
    replace F11 := F11.same sq2
    refine ⟨l1, q2, _, _, rfl, rfl, L, upd_same, (by show 12 ≤ sizeLine; decide), fun l2 hl2 => ?_⟩
    have sl2 := same_upd (o := .lst [V.ref e0, V.ref e1, V.ref e2, V.ref e3, V.ref e4, V.ref e5, V.ref e6, V.ref e7, V.ref e8, V.ref e9, V.ref e10, V.ref e11]) hl2
    have fl2 := S.free hl2
    replace S := S.trans sl2
    replace F0 := F0.same sl2
    replace F1 := F1.same sl2
    replace F2 := F2.same sl2
    replace F3 := F3.same sl2
    replace F4 := F4.same sl2
    replace F5 := F5.same sl2
    replace F6 := F6.same sl2
    replace F7 := F7.same sl2
    replace F8 := F8.same sl2
    replace F9 := F9.same sl2
    replace F10 := F10.same sl2
    replace F11 := F11.same sl2
    have L := @upd_same (upd H11 q2 (.lst [V.ref e8, V.ref e9, V.ref e10, V.ref e11])) l2 (.lst [V.ref e0, V.ref e1, V.ref e2, V.ref e3, V.ref e4, V.ref e5, V.ref e6, V.ref e7, V.ref e8, V.ref e9, V.ref e10, V.ref e11])
    refine ⟨_, rfl, _, rfl, p, _, 12, t12, rfl, rfl, SqL.of (S _ _ hp), atI_nat (j := 12) rfl, fun e12 n12 => mk_rd T.c12.x n12 fun H12 s12 F12 => ⟨rfl, ?_⟩⟩
    replace S := S.trans s12
    replace F0 := F0.same s12
    replace F1 := F1.same s12
    replace F2 := F2.same s12
    replace F3 := F3.same s12
    replace F4 := F4.same s12
    replace F5 := F5.same s12
    replace F6 := F6.same s12
    replace F7 := F7.same s12
    replace F8 := F8.same s12
    replace F9 := F9.same s12
    replace F10 := F10.same s12
    replace F11 := F11.same s12
    replace L := s12 _ _ L
    intro e13 n13
    have s13 := same_upd (o := ExO (.ref (C 13)) e13) n13
    replace S := S.trans s13
    replace F0 := F0.same s13
    replace F1 := F1.same s13
    replace F2 := F2.same s13
    replace F3 := F3.same s13
    replace F4 := F4.same s13
    replace F5 := F5.same s13
    replace F6 := F6.same s13
    replace F7 := F7.same s13
    replace F8 := F8.same s13
    replace F9 := F9.same s13
    replace F10 := F10.same s13
    replace F11 := F11.same s13
    replace L := s13 _ _ L
    replace F12 := F12.same s13
    have B13 := @upd_same H12 e13 (ExO (.ref (C 13)) e13)
    intro e14 n14
    have s14 := same_upd (o := ExO (.ref (C 14)) e14) n14
    replace S := S.trans s14
    replace F0 := F0.same s14
    replace F1 := F1.same s14
    replace F2 := F2.same s14
    replace F3 := F3.same s14
    replace F4 := F4.same s14
    replace F5 := F5.same s14
    replace F6 := F6.same s14
    replace F7 := F7.same s14
    replace F8 := F8.same s14
    replace F9 := F9.same s14
    replace F10 := F10.same s14
    replace F11 := F11.same s14
    replace L := s14 _ _ L
    replace F12 := F12.same s14
    replace B13 := s14 _ _ B13
    have B14 := @upd_same (upd H12 e13 (ExO (.ref (C 13)) e13)) e14 (ExO (.ref (C 14)) e14)
    refine ⟨(by show 3 ≤ sizeLine; decide), fun q3 hq3 => ?_⟩
    have sq3 := same_upd (o := .lst [.ref e12, .ref e13, .ref e14]) hq3
    replace S := S.trans sq3
    replace F0 := F0.same sq3
    replace F1 := F1.same sq3
    replace F2 := F2.same sq3
    replace F3 := F3.same sq3
    replace F4 := F4.same sq3
    replace F5 := F5.same sq3
    replace F6 := F6.same sq3
    replace F7 := F7.same sq3
    replace F8 := F8.same sq3
    replace F9 := F9.same sq3
    replace F10 := F10.same sq3
    replace F11 := F11.same sq3
    replace L := sq3 _ _ L
    replace F12 := F12.same sq3
    replace B13 := sq3 _ _ B13
    replace B14 := sq3 _ _ B14
    refine ⟨l2, q3, _, _, rfl, rfl, L, upd_same, (by show 15 ≤ sizeLine; decide), fun l3 hl3 => ?_⟩
    have sl3 := same_upd (o := .lst [V.ref e0, V.ref e1, V.ref e2, V.ref e3, V.ref e4, V.ref e5, V.ref e6, V.ref e7, V.ref e8, V.ref e9, V.ref e10, V.ref e11, V.ref e12, V.ref e13, V.ref e14]) hl3
    have fl3 := S.free hl3
    replace S := S.trans sl3
    replace F0 := F0.same sl3
    replace F1 := F1.same sl3
    replace F2 := F2.same sl3
    replace F3 := F3.same sl3
    replace F4 := F4.same sl3
    replace F5 := F5.same sl3
    replace F6 := F6.same sl3
    replace F7 := F7.same sl3
    replace F8 := F8.same sl3
    replace F9 := F9.same sl3
    replace F10 := F10.same sl3
    replace F11 := F11.same sl3
    replace F12 := F12.same sl3
    replace B13 := sl3 _ _ B13
    replace B14 := sl3 _ _ B14
    have L := @upd_same (upd (upd (upd H12 e13 (ExO (.ref (C 13)) e13)) e14 (ExO (.ref (C 14)) e14)) q3 (.lst [V.ref e12, V.ref e13, V.ref e14])) l3 (.lst [V.ref e0, V.ref e1, V.ref e2, V.ref e3, V.ref e4, V.ref e5, V.ref e6, V.ref e7, V.ref e8, V.ref e9, V.ref e10, V.ref e11, V.ref e12, V.ref e13, V.ref e14])
    exact k l3 [e0, e1, e2, e3, e4, e5, e6, e7, e8, e9, e10, e11, e12, e13, e14] _ fl3 S L (made_of F0 F1 F2 F3 F4 F5 F6 F7 F8 F9 F10 F11 F12 B13 B14)
end
end TP
set_option maxHeartbeats 4000000
namespace TP
open PySem PySem.Spec PyProof.Rows L2 EX
theorem scKinds : FnScope ["_law_e", "_law_kinds_here"] ["_law_e"] (defScope sKinds) := ⟨rfl, rfl, rfl, by decide +kernel, rfl, by decide +kernel, by decide +kernel⟩
theorem scKeeps : FnScope ["_law_made", "_law_t", "_law_k", "_law_told", "_law_truths", "_law_j", "_law_item"] ["_law_made", "_law_t"] (defScope sKeeps) := ⟨rfl, rfl, rfl, by decide +kernel, rfl, by decide +kernel, by decide +kernel⟩
theorem IsExc.same {K : PySem.W.Frag} {H H' : Hp} {e C : Addr} (x : IsExc K H e C) (s : Same H H') : IsExc K H' e C := by
  cases x with
  | bare h => exact .bare (s _ _ h)
  | fields h1 h2 => exact .fields (s _ _ h1) (s _ _ h2)
def here (i : Nat) : List V := [.bl (decide (0 = i)), .bl (decide (1 = i)), .bl (decide (2 = i)), .bl (decide (3 = i)), .bl (decide (4 = i)), .bl (decide (5 = i)), .bl (decide (6 = i)), .bl (decide (7 = i)), .bl (decide (8 = i)), .bl (decide (9 = i)), .bl (decide (10 = i)), .bl (decide (11 = i)), .bl (decide (12 = i)), .bl (decide (13 = i)), .bl (decide (14 = i))]
def spKinds (K : PySem.W.Frag) (C : Nat → Addr) : Sp := fun vs H Q _ => ∃ (e : Addr) (i : Nat), vs = [.ref e] ∧ i < 15 ∧ IsExc K H e (C i) ∧ ExcC K (C i) ∧
  ∀ (q : Addr) (H' : Hp), H q = none → Same H H' → H' q = some (.lst (here i)) → Q (.ref q) H'
section
variable {P : Program} {w : World} {K : PySem.W.Frag} {mg : Str → Option Value} {base : Heap} {C I : Nat → Addr} {D : Nat → FuncData} {f : Addr} {fd : FuncData}
theorem ok_kinds (T : Errs P w K mg base C I D) (F : Fun K "_law_kinds" "_law_kinds" sKinds f fd) : FnOk P w K mg base CX0 1 f fd ["_law_e"] (spKinds K C) := by
  refine F.ok scKinds (fun vs H Q E h => ?_) (fun cdv A outer s H vs Q E hr h => ?_)
  · obtain ⟨e, i, rfl, _⟩ := h
    rfl
  · obtain ⟨e, i, rfl, hi, x, X, k⟩ := h
    have nd := scKinds.nd
    refine ⟨_, pss_cons (ps_set (i := 1) nd rfl (.inl rfl) (pe_lst (pa_cons (pe_callB call_isX (by rfl) T.mi (by decide +kernel) (pa_cons (pv 0) (pa_cons (pe_glob (v := .ref (C 0)) (by rfl) T.c0.x.gC rfl) pa_nil))) (pa_cons (pe_callB call_isX (by rfl) T.mi (by decide +kernel) (pa_cons (pv 0) (pa_cons (pe_glob (v := .ref (C 1)) (by rfl) T.c1.x.gC rfl) pa_nil))) (pa_cons (pe_callB call_isX (by rfl) T.mi (by decide +kernel) (pa_cons (pv 0) (pa_cons (pe_glob (v := .ref (C 2)) (by rfl) T.c2.x.gC rfl) pa_nil))) pa_nil)))))
      (pss_cons (ps_set (i := 1) nd rfl (.inl rfl) (pe_op op_cat (pv 1) (pe_lst (pa_cons (pe_callB call_isX (by rfl) T.mi (by decide +kernel) (pa_cons (pv 0) (pa_cons (pe_glob (v := .ref (C 3)) (by rfl) T.c3.x.gC rfl) pa_nil))) (pa_cons (pe_callB call_isX (by rfl) T.mi (by decide +kernel) (pa_cons (pv 0) (pa_cons (pe_glob (v := .ref (C 4)) (by rfl) T.c4.x.gC rfl) pa_nil))) (pa_cons (pe_callB call_isX (by rfl) T.mi (by decide +kernel) (pa_cons (pv 0) (pa_cons (pe_glob (v := .ref (C 5)) (by rfl) T.c5.x.gC rfl) pa_nil))) pa_nil))))))
      (pss_cons (ps_set (i := 1) nd rfl (.inl rfl) (pe_op op_cat (pv 1) (pe_lst (pa_cons (pe_callB call_isX (by rfl) T.mi (by decide +kernel) (pa_cons (pv 0) (pa_cons (pe_glob (v := .ref (C 6)) (by rfl) T.c6.x.gC rfl) pa_nil))) (pa_cons (pe_callB call_isX (by rfl) T.mi (by decide +kernel) (pa_cons (pv 0) (pa_cons (pe_glob (v := .ref (C 7)) (by rfl) T.c7.x.gC rfl) pa_nil))) (pa_cons (pe_callB call_isX (by rfl) T.mi (by decide +kernel) (pa_cons (pv 0) (pa_cons (pe_glob (v := .ref (C 8)) (by rfl) T.c8.x.gC rfl) pa_nil))) pa_nil))))))
      (pss_cons (ps_set (i := 1) nd rfl (.inl rfl) (pe_op op_cat (pv 1) (pe_lst (pa_cons (pe_callB call_isX (by rfl) T.mi (by decide +kernel) (pa_cons (pv 0) (pa_cons (pe_glob (v := .ref (C 9)) (by rfl) T.c9.x.gC rfl) pa_nil))) (pa_cons (pe_callB call_isX (by rfl) T.mi (by decide +kernel) (pa_cons (pv 0) (pa_cons (pe_glob (v := .ref (C 10)) (by rfl) T.c10.x.gC rfl) pa_nil))) (pa_cons (pe_callB call_isX (by rfl) T.mi (by decide +kernel) (pa_cons (pv 0) (pa_cons (pe_glob (v := .ref (C 11)) (by rfl) T.c11.x.gC rfl) pa_nil))) pa_nil))))))
      (pss_one (ps_ret (pe_op op_cat (pv 1) (pe_lst (pa_cons (pe_callB call_isX (by rfl) T.mi (by decide +kernel) (pa_cons (pv 0) (pa_cons (pe_glob (v := .ref (C 12)) (by rfl) T.c12.x.gC rfl) pa_nil))) (pa_cons (pe_callB call_isX (by rfl) T.mi (by decide +kernel) (pa_cons (pv 0) (pa_cons (pe_glob (v := .ref (C 13)) (by rfl) T.c13.gC rfl) pa_nil))) (pa_cons (pe_callB call_isX (by rfl) T.mi (by decide +kernel) (pa_cons (pv 0) (pa_cons (pe_glob (v := .ref (C 14)) (by rfl) T.c14.gC rfl) pa_nil))) pa_nil)))))))))), ?_⟩
    have S : Same H H := Same.refl H
    refine ⟨_, rfl, e, C i, .ref (C 0), .ref (C 0), _, rfl, IsExc.same x S, X, fun _ h => h, T.apart i 0 hi (by decide), ?_⟩
    refine ⟨_, rfl, e, C i, .ref (C 1), .ref (C 1), _, rfl, IsExc.same x S, X, fun _ h => h, T.apart i 1 hi (by decide), ?_⟩
    refine ⟨_, rfl, e, C i, .ref (C 2), .ref (C 2), _, rfl, IsExc.same x S, X, fun _ h => h, T.apart i 2 hi (by decide), ?_⟩
    refine ⟨(by show 3 ≤ sizeLine; decide), fun q0 hq0 => ?_⟩
    have sq0 := same_upd (o := (.lst [.bl (decide (0 = i)), .bl (decide (1 = i)), .bl (decide (2 = i))])) hq0
    replace S := S.trans sq0
    have L := @upd_same H q0 (.lst [.bl (decide (0 = i)), .bl (decide (1 = i)), .bl (decide (2 = i))])
    refine ⟨_, rfl, _, rfl, e, C i, .ref (C 3), .ref (C 3), _, rfl, IsExc.same x S, X, fun _ h => h, T.apart i 3 hi (by decide), ?_⟩
    refine ⟨_, rfl, e, C i, .ref (C 4), .ref (C 4), _, rfl, IsExc.same x S, X, fun _ h => h, T.apart i 4 hi (by decide), ?_⟩
    refine ⟨_, rfl, e, C i, .ref (C 5), .ref (C 5), _, rfl, IsExc.same x S, X, fun _ h => h, T.apart i 5 hi (by decide), ?_⟩
    refine ⟨(by show 3 ≤ sizeLine; decide), fun q1 hq1 => ?_⟩
    have sq1 := same_upd (o := (.lst [.bl (decide (3 = i)), .bl (decide (4 = i)), .bl (decide (5 = i))])) hq1
    replace S := S.trans sq1
    replace L := sq1 _ _ L
    refine ⟨q0, q1, _, _, rfl, rfl, L, upd_same, (by show 6 ≤ sizeLine; decide), fun l1 hl1 => ?_⟩
    have fl1 := S.free hl1
    replace S := S.trans (same_upd (o := (.lst [.bl (decide (0 = i)), .bl (decide (1 = i)), .bl (decide (2 = i)), .bl (decide (3 = i)), .bl (decide (4 = i)), .bl (decide (5 = i))])) hl1)
    replace L := @upd_same (upd (upd H q0 (.lst [.bl (decide (0 = i)), .bl (decide (1 = i)), .bl (decide (2 = i))])) q1 (.lst [.bl (decide (3 = i)), .bl (decide (4 = i)), .bl (decide (5 = i))])) l1 (.lst [.bl (decide (0 = i)), .bl (decide (1 = i)), .bl (decide (2 = i)), .bl (decide (3 = i)), .bl (decide (4 = i)), .bl (decide (5 = i))])
    refine ⟨_, rfl, _, rfl, e, C i, .ref (C 6), .ref (C 6), _, rfl, IsExc.same x S, X, fun _ h => h, T.apart i 6 hi (by decide), ?_⟩
    refine ⟨_, rfl, e, C i, .ref (C 7), .ref (C 7), _, rfl, IsExc.same x S, X, fun _ h => h, T.apart i 7 hi (by decide), ?_⟩
    refine ⟨_, rfl, e, C i, .ref (C 8), .ref (C 8), _, rfl, IsExc.same x S, X, fun _ h => h, T.apart i 8 hi (by decide), ?_⟩
    refine ⟨(by show 3 ≤ sizeLine; decide), fun q2 hq2 => ?_⟩
    have sq2 := same_upd (o := (.lst [.bl (decide (6 = i)), .bl (decide (7 = i)), .bl (decide (8 = i))])) hq2
    replace S := S.trans sq2
    replace L := sq2 _ _ L
    refine ⟨l1, q2, _, _, rfl, rfl, L, upd_same, (by show 9 ≤ sizeLine; decide), fun l2 hl2 => ?_⟩
    have fl2 := S.free hl2
    replace S := S.trans (same_upd (o := (.lst [.bl (decide (0 = i)), .bl (decide (1 = i)), .bl (decide (2 = i)), .bl (decide (3 = i)), .bl (decide (4 = i)), .bl (decide (5 = i)), .bl (decide (6 = i)), .bl (decide (7 = i)), .bl (decide (8 = i))])) hl2)
    replace L := @upd_same (upd (upd (upd (upd H q0 (.lst [.bl (decide (0 = i)), .bl (decide (1 = i)), .bl (decide (2 = i))])) q1 (.lst [.bl (decide (3 = i)), .bl (decide (4 = i)), .bl (decide (5 = i))])) l1 (.lst [.bl (decide (0 = i)), .bl (decide (1 = i)), .bl (decide (2 = i)), .bl (decide (3 = i)), .bl (decide (4 = i)), .bl (decide (5 = i))])) q2 (.lst [.bl (decide (6 = i)), .bl (decide (7 = i)), .bl (decide (8 = i))])) l2 (.lst [.bl (decide (0 = i)), .bl (decide (1 = i)), .bl (decide (2 = i)), .bl (decide (3 = i)), .bl (decide (4 = i)), .bl (decide (5 = i)), .bl (decide (6 = i)), .bl (decide (7 = i)), .bl (decide (8 = i))])
    refine ⟨_, rfl, _, rfl, e, C i, .ref (C 9), .ref (C 9), _, rfl, IsExc.same x S, X, fun _ h => h, T.apart i 9 hi (by decide), ?_⟩
    refine ⟨_, rfl, e, C i, .ref (C 10), .ref (C 10), _, rfl, IsExc.same x S, X, fun _ h => h, T.apart i 10 hi (by decide), ?_⟩
    refine ⟨_, rfl, e, C i, .ref (C 11), .ref (C 11), _, rfl, IsExc.same x S, X, fun _ h => h, T.apart i 11 hi (by decide), ?_⟩
    refine ⟨(by show 3 ≤ sizeLine; decide), fun q3 hq3 => ?_⟩
    have sq3 := same_upd (o := (.lst [.bl (decide (9 = i)), .bl (decide (10 = i)), .bl (decide (11 = i))])) hq3
    replace S := S.trans sq3
    replace L := sq3 _ _ L
    refine ⟨l2, q3, _, _, rfl, rfl, L, upd_same, (by show 12 ≤ sizeLine; decide), fun l3 hl3 => ?_⟩
    have fl3 := S.free hl3
    replace S := S.trans (same_upd (o := (.lst [.bl (decide (0 = i)), .bl (decide (1 = i)), .bl (decide (2 = i)), .bl (decide (3 = i)), .bl (decide (4 = i)), .bl (decide (5 = i)), .bl (decide (6 = i)), .bl (decide (7 = i)), .bl (decide (8 = i)), .bl (decide (9 = i)), .bl (decide (10 = i)), .bl (decide (11 = i))])) hl3)
    replace L := @upd_same (upd (upd (upd (upd (upd (upd H q0 (.lst [.bl (decide (0 = i)), .bl (decide (1 = i)), .bl (decide (2 = i))])) q1 (.lst [.bl (decide (3 = i)), .bl (decide (4 = i)), .bl (decide (5 = i))])) l1 (.lst [.bl (decide (0 = i)), .bl (decide (1 = i)), .bl (decide (2 = i)), .bl (decide (3 = i)), .bl (decide (4 = i)), .bl (decide (5 = i))])) q2 (.lst [.bl (decide (6 = i)), .bl (decide (7 = i)), .bl (decide (8 = i))])) l2 (.lst [.bl (decide (0 = i)), .bl (decide (1 = i)), .bl (decide (2 = i)), .bl (decide (3 = i)), .bl (decide (4 = i)), .bl (decide (5 = i)), .bl (decide (6 = i)), .bl (decide (7 = i)), .bl (decide (8 = i))])) q3 (.lst [.bl (decide (9 = i)), .bl (decide (10 = i)), .bl (decide (11 = i))])) l3 (.lst [.bl (decide (0 = i)), .bl (decide (1 = i)), .bl (decide (2 = i)), .bl (decide (3 = i)), .bl (decide (4 = i)), .bl (decide (5 = i)), .bl (decide (6 = i)), .bl (decide (7 = i)), .bl (decide (8 = i)), .bl (decide (9 = i)), .bl (decide (10 = i)), .bl (decide (11 = i))])
    refine ⟨_, rfl, _, rfl, e, C i, .ref (C 12), .ref (C 12), _, rfl, IsExc.same x S, X, fun _ h => h, T.apart i 12 hi (by decide), ?_⟩
    refine ⟨_, rfl, e, C i, .ref (C 13), .ref (C 13), _, rfl, IsExc.same x S, X, fun _ h => h, T.apart i 13 hi (by decide), ?_⟩
    refine ⟨_, rfl, e, C i, .ref (C 14), .ref (C 14), _, rfl, IsExc.same x S, X, fun _ h => h, T.apart i 14 hi (by decide), ?_⟩
    refine ⟨(by show 3 ≤ sizeLine; decide), fun q4 hq4 => ?_⟩
    have sq4 := same_upd (o := (.lst [.bl (decide (12 = i)), .bl (decide (13 = i)), .bl (decide (14 = i))])) hq4
    replace S := S.trans sq4
    replace L := sq4 _ _ L
    refine ⟨l3, q4, _, _, rfl, rfl, L, upd_same, (by show 15 ≤ sizeLine; decide), fun l4 hl4 => ?_⟩
    have fl4 := S.free hl4
    replace S := S.trans (same_upd (o := (.lst [.bl (decide (0 = i)), .bl (decide (1 = i)), .bl (decide (2 = i)), .bl (decide (3 = i)), .bl (decide (4 = i)), .bl (decide (5 = i)), .bl (decide (6 = i)), .bl (decide (7 = i)), .bl (decide (8 = i)), .bl (decide (9 = i)), .bl (decide (10 = i)), .bl (decide (11 = i)), .bl (decide (12 = i)), .bl (decide (13 = i)), .bl (decide (14 = i))])) hl4)
    replace L := @upd_same (upd (upd (upd (upd (upd (upd (upd (upd H q0 (.lst [.bl (decide (0 = i)), .bl (decide (1 = i)), .bl (decide (2 = i))])) q1 (.lst [.bl (decide (3 = i)), .bl (decide (4 = i)), .bl (decide (5 = i))])) l1 (.lst [.bl (decide (0 = i)), .bl (decide (1 = i)), .bl (decide (2 = i)), .bl (decide (3 = i)), .bl (decide (4 = i)), .bl (decide (5 = i))])) q2 (.lst [.bl (decide (6 = i)), .bl (decide (7 = i)), .bl (decide (8 = i))])) l2 (.lst [.bl (decide (0 = i)), .bl (decide (1 = i)), .bl (decide (2 = i)), .bl (decide (3 = i)), .bl (decide (4 = i)), .bl (decide (5 = i)), .bl (decide (6 = i)), .bl (decide (7 = i)), .bl (decide (8 = i))])) q3 (.lst [.bl (decide (9 = i)), .bl (decide (10 = i)), .bl (decide (11 = i))])) l3 (.lst [.bl (decide (0 = i)), .bl (decide (1 = i)), .bl (decide (2 = i)), .bl (decide (3 = i)), .bl (decide (4 = i)), .bl (decide (5 = i)), .bl (decide (6 = i)), .bl (decide (7 = i)), .bl (decide (8 = i)), .bl (decide (9 = i)), .bl (decide (10 = i)), .bl (decide (11 = i))])) q4 (.lst [.bl (decide (12 = i)), .bl (decide (13 = i)), .bl (decide (14 = i))])) l4 (.lst [.bl (decide (0 = i)), .bl (decide (1 = i)), .bl (decide (2 = i)), .bl (decide (3 = i)), .bl (decide (4 = i)), .bl (decide (5 = i)), .bl (decide (6 = i)), .bl (decide (7 = i)), .bl (decide (8 = i)), .bl (decide (9 = i)), .bl (decide (10 = i)), .bl (decide (11 = i)), .bl (decide (12 = i)), .bl (decide (13 = i)), .bl (decide (14 = i))])
    exact k l4 _ fl4 S L
end
end TP
set_option maxHeartbeats 4000000
namespace TP
open PySem PySem.Spec PyProof.Rows L2 EX
/-- a value of a kind that isinstance(.., bool) tells of -/
inductive Kd (H : Hp) : V → Prop where
  | non : Kd H .non
  | bl (b : Bool) : Kd H (.bl b)
  | int (i : Int) : Kd H (.int i)
  | str (x : Str) : Kd H (.str x)
  | tup {a : Addr} {xs : List V} (e : H a = some (.tup xs)) : Kd H (.ref a)
  | lst {a : Addr} {xs : List V} (e : H a = some (.lst xs)) : Kd H (.ref a)
  | dict {a : Addr} {kvs : List (Key × V)} (e : H a = some (.dK kvs)) : Kd H (.ref a)
def kd : V → Bool
  | .bl _ => true
  | _ => false
theorem Kd.same {H H' : Hp} {v : V} (k : Kd H v) (s : Same H H') : Kd H' v := by
  cases k with
  | non => exact .non
  | bl b => exact .bl b
  | int i => exact .int i
  | str x => exact .str x
  | tup e => exact .tup (s _ _ e)
  | lst e => exact .lst (s _ _ e)
  | dict e => exact .dict (s _ _ e)
theorem kt {K : PySem.W.Frag} {H : Hp} {v : V} {a : String} {b : Bool} (t : TyOf K H v (.type a)) (h : kitB a "bool" = some b) (e : kd v = b) : ∃ t, TyX K H v t ∧ PySem.W.kitOne K t (.type "bool") = some (kd v) :=
  ⟨_, .base t, by rw [e]; exact kit_ty h⟩
theorem Kd.ty {K : PySem.W.Frag} {H : Hp} {v : V} (k : Kd H v) : ∃ t, TyX K H v t ∧ PySem.W.kitOne K t (.type "bool") = some (kd v) := by
  cases k with
  | non => exact kt .non (b := false) (by decide +kernel) rfl
  | bl b => exact kt (.bl b) (b := true) (by decide +kernel) rfl
  | int i => exact kt (.int i) (b := false) (by decide +kernel) rfl
  | str x => exact kt (.str x) (b := false) (by decide +kernel) rfl
  | tup e => exact kt (.tup e) (b := false) (by decide +kernel) rfl
  | lst e => exact kt (.lst e) (b := false) (by decide +kernel) rfl
  | dict e => exact kt (.dK e) (b := false) (by decide +kernel) rfl
theorem Kd.eqv {K : PySem.W.Frag} {H H' : Hp} {v : V} (k : Kd H v) : EqV K H' 1 v v := by
  cases k with
  | non => exact .inl ⟨rfl, rfl⟩
  | bl b => exact .inl ⟨rfl, rfl⟩
  | int i => exact .inl ⟨rfl, rfl⟩
  | str x => exact .inl ⟨rfl, rfl⟩
  | tup e => exact .inr (.inl ⟨_, rfl, rfl⟩)
  | lst e => exact .inr (.inl ⟨_, rfl, rfl⟩)
  | dict e => exact .inr (.inl ⟨_, rfl, rfl⟩)
theorem pair_kd {K : PySem.W.Frag} {H H' : Hp} : ∀ {ts : List V}, (∀ v ∈ ts, Kd H v) → Paired (EqV K H' 1) ts ts
  | [], _ => .nil
  | v :: r, h => .cons (h v (List.mem_cons_self ..)).eqv (pair_kd fun u q => h u (List.mem_cons_of_mem _ q))
theorem pair_bl {K : PySem.W.Frag} {H : Hp} : ∀ ts : List V, Paired (EqV K H 1) (ts.map fun v => V.bl (kd v)) (ts.map fun v => V.bl (kd v))
  | [] => .nil
  | v :: r => .cons (.inl ⟨rfl, rfl⟩) (pair_bl r)
def bs (i : Nat) : List Bool := (List.range 15).map fun j => decide (j = i)
theorem here_bs (i : Nat) : here i = (bs i).map V.bl := rfl
theorem dp_bls {K : PySem.W.Frag} {H : Hp} : ∀ l : List Bool, DpAll K H (l.map V.bl) (l.map PyData.bool)
  | [] => .nil
  | z :: r => .cons (.bl z) (dp_bls r)
theorem eqv_bls : ∀ l : List Bool, PyData.eqvAll (l.map PyData.bool) (l.map PyData.bool) = true
  | [] => rfl
  | z :: r => by simp [PyData.eqvAll, PyData.eqv, eqv_bls r]
theorem shaped_bls (l : List Bool) : SeqAt.shaped (.list (l.map PyData.bool)) = true := by
  have h1 : ∀ l : List Bool, PyData.canLayAll0 (l.map PyData.bool) = true := fun l => by
    induction l with
    | nil => rfl
    | cons z r ih => simp [PyData.canLayAll0, PyData.canLay0, ih]
  have h2 : ∀ l : List Bool, PyData.depthAll (l.map PyData.bool) ≤ 1 := fun l => by
    induction l with
    | nil => simp [PyData.depthAll]
    | cons z r ih => simp [PyData.depthAll, PyData.depth] ; omega
  have h3 := h2 l
  simp [SeqAt.shaped, PyData.canLay0, h1, PyData.depth]
  omega
theorem lk1 (f : Str) (v : V) : ([(f, v)] : List (Str × V)).lookup f = some v := by simp [List.lookup]
def spKeeps (K : PySem.W.Frag) (C : Nat → Addr) : Sp := fun vs H Q _ => ∃ (q p : Addr) (es : List Addr) (ts : List V), vs = [.ref q, .ref p] ∧ H q = some (.lst (es.map V.ref)) ∧ H p = some (.lst ts) ∧ Made C H es ts ∧ (∀ v ∈ ts, Kd H v) ∧
  ∀ H', Same H H' → Q (.bl true) H'
section
variable {P : Program} {w : World} {K : PySem.W.Frag} {mg : Str → Option Value} {base : Heap} {C I : Nat → Addr} {D : Nat → FuncData} {f fK : Addr} {fd fdK : FuncData}
theorem Errs.exc (T : Errs P w K mg base C I D) : ∀ i, i < 15 → ExcC K (C i)
  | 0, _ => T.c0.x.ex
  | 1, _ => T.c1.x.ex
  | 2, _ => T.c2.x.ex
  | 3, _ => T.c3.x.ex
  | 4, _ => T.c4.x.ex
  | 5, _ => T.c5.x.ex
  | 6, _ => T.c6.x.ex
  | 7, _ => T.c7.x.ex
  | 8, _ => T.c8.x.ex
  | 9, _ => T.c9.x.ex
  | 10, _ => T.c10.x.ex
  | 11, _ => T.c11.x.ex
  | 12, _ => T.c12.x.ex
  | 13, _ => T.c13.ex
  | 14, _ => T.c14.ex
  | n + 15, h => by omega
theorem Made.is {H : Hp} {es : List Addr} {ts : List V} (M : Made C H es ts) {i : Nat} {e : Addr} (hi : i < 15) (he : es[i]? = some e) : IsExc K H e (C i) := by
  by_cases h : i < 13
  · obtain ⟨v, hv⟩ : ∃ v, ts[i]? = some v := ⟨ts[i]'(by rw [M.tl]; exact h), List.getElem?_eq_getElem _⟩
    exact (M.fld i e v h he hv).is
  · exact .bare (M.bare i e (by omega) he)
theorem fifteen {α : Type} {l : List α} (h : l.length = 15) : ∃ e0 e1 e2 e3 e4 e5 e6 e7 e8 e9 e10 e11 e12 e13 e14, l = [e0, e1, e2, e3, e4, e5, e6, e7, e8, e9, e10, e11, e12, e13, e14] := by
  match l, h with
  | [e0, e1, e2, e3, e4, e5, e6, e7, e8, e9, e10, e11, e12, e13, e14], _ => exact ⟨_, _, _, _, _, _, _, _, _, _, _, _, _, _, _, rfl⟩
theorem ok_keeps (T : Errs P w K mg base C I D) (F : Fun K "_law_keeps" "_law_keeps" sKeeps f fd) (FK : Fun K "_law_kinds" "_law_kinds" sKinds fK fdK) (bK : Binds K fdK ["_law_e"] []) (gK : mg "_law_kinds" = some (.ref fK)) :
    FnOk P w K mg base CX0 2 f fd ["_law_made", "_law_t"] (spKeeps K C) := by
  have GK : FnOk P w K mg base CX0 1 fK fdK ["_law_e"] (spKinds K C) := ok_kinds T FK
  refine F.ok scKeeps (fun vs H Q E h => ?_) (fun cdv A outer s H vs Q E hr h => ?_)
  · obtain ⟨q, p, es, ts, rfl, _⟩ := h
    rfl
  · obtain ⟨q, p, es, ts, rfl, hq, hp, M, hk, k⟩ := h
    have nd := scKeeps.nd
    refine ⟨_, pss_cons (ps_for PassesOwn.never rfl (pi_range1 rfl T.mr (pa_cons pe_int pa_nil)) (pg_name (i := 2) nd rfl (Or.inr rfl))
        (pss_cons (ps_if (PW.pt (pw_or (pt_not (pt_val (pe_callB call_isX (by rfl) T.mi (by decide +kernel) (pa_cons (pe_ix ix_list (pv 0) (pv 2) (fun _ _ => rfl)) (pa_cons (pe_glob (v := .ref (C 15)) (by rfl) T.g15 rfl) pa_nil)))))
            (pw_or1 (pt_not (pt_val (pe_callB call_isX (by rfl) T.mi (by decide +kernel) (pa_cons (pe_ix ix_list (pv 0) (pv 2) (fun _ _ => rfl)) (pa_cons (pe_bltn (v := .ty "ValueError") (by rfl) T.mv (by decide +kernel) rfl) pa_nil)))))))) (pss_one (ps_ret pe_bl)) pss_nil)
        (pss_one (ps_if (pt_cmpR (op_neD hr.units) (pe_call GK hr (by rfl) gK FK.kp bK .nil pass0 (pa_cons (pe_ix ix_list (pv 0) (pv 2) (fun _ _ => rfl)) pa_nil))
            (pe_lc (own := [("_law_j", 5)]) (g := gName 5) (tt := tYes) (by rfl) nd (pi_range1 rfl T.mr (pa_cons pe_int pa_nil)) (blkOk_by (N := ["_law_made", "_law_t", "_law_k", "_law_told", "_law_truths", "_law_j", "_law_item"]) (sc := defScope sKeeps) (by decide +kernel)) (fun _ _ _ _ _ => pg_name (i := 5) nd rfl (Or.inl rfl)) (fun _ _ _ _ _ => pts_nil) (fun _ _ _ _ _ => pe_cmpR op_eq (pv 5) (pv 2) (nomark _))) (nomark _)) (pss_one (ps_ret pe_bl)) pss_nil))))
      (pss_cons (ps_set (i := 3) nd rfl (.inl rfl) (pe_lst (pa_cons (pe_xfld (pe_ix ix_list (pv 0) pe_int (fun _ _ => rfl))) (pa_cons (pe_xfld (pe_ix ix_list (pv 0) pe_int (fun _ _ => rfl))) (pa_cons (pe_xfld (pe_ix ix_list (pv 0) pe_int (fun _ _ => rfl))) (pa_cons (pe_xfld (pe_ix ix_list (pv 0) pe_int (fun _ _ => rfl))) (pa_cons (pe_xfld (pe_ix ix_list (pv 0) pe_int (fun _ _ => rfl))) (pa_cons (pe_xfld (pe_ix ix_list (pv 0) pe_int (fun _ _ => rfl))) (pa_cons (pe_xfld (pe_ix ix_list (pv 0) pe_int (fun _ _ => rfl))) pa_nil)))))))))
      (pss_cons (ps_set (i := 3) nd rfl (.inl rfl) (pe_op op_cat (pv 3) (pe_lst (pa_cons (pe_xfld (pe_ix ix_list (pv 0) pe_int (fun _ _ => rfl))) (pa_cons (pe_xfld (pe_ix ix_list (pv 0) pe_int (fun _ _ => rfl))) (pa_cons (pe_xfld (pe_ix ix_list (pv 0) pe_int (fun _ _ => rfl))) (pa_cons (pe_xfld (pe_ix ix_list (pv 0) pe_int (fun _ _ => rfl))) (pa_cons (pe_xfld (pe_ix ix_list (pv 0) pe_int (fun _ _ => rfl))) (pa_cons (pe_xfld (pe_ix ix_list (pv 0) pe_int (fun _ _ => rfl))) pa_nil)))))))))
      (pss_cons (ps_setLc (i := 4) (own := [("_law_item", 6)]) (g := gName 6) (tt := tYes) (by rfl) nd rfl rfl (sw_true rfl rfl rfl (by decide +kernel)) (pi_list (pv 3)) (blkOk_by (N := ["_law_made", "_law_t", "_law_k", "_law_told", "_law_truths", "_law_j", "_law_item"]) (sc := defScope sKeeps) (by decide +kernel)) (fun _ _ _ _ _ => pg_name (i := 6) nd rfl (Or.inl rfl)) (fun _ _ _ _ _ => pts_nil) (fun _ _ _ _ _ => (pe_callB (id := "isinstance") (r := rIsi K) call_isi (by rfl) T.mi (by decide +kernel) (pa_cons (pv 6) (pa_cons (pe_bltn (v := .ty "bool") (by rfl) T.mb (by decide +kernel) rfl) pa_nil)))))
      (pss_one (ps_ret (pe_and (pe_cmpR (op_eqV hr.units) (pv 3) (pv 1) (nomark _)) (pe_one (pe_cmpR (op_eqV hr.units) (pv 4) (pe_lc (own := [("_law_item", 6)]) (g := gName 6) (tt := tYes) (by rfl) nd (pi_list (pv 1)) (blkOk_by (N := ["_law_made", "_law_t", "_law_k", "_law_told", "_law_truths", "_law_j", "_law_item"]) (sc := defScope sKeeps) (by decide +kernel)) (fun _ _ _ _ _ => pg_name (i := 6) nd rfl (Or.inl rfl)) (fun _ _ _ _ _ => pts_nil) (fun _ _ _ _ _ => (pe_callB (id := "isinstance") (r := rIsi K) call_isi (by rfl) T.mi (by decide +kernel) (pa_cons (pv 6) (pa_cons (pe_bltn (v := .ty "bool") (by rfl) T.mb (by decide +kernel) rfl) pa_nil))))) (nomark _))))))))), ?_⟩
    refine ⟨15, rfl, by decide, by decide, for_range (n := 15) (fun i σ H' => ∃ v, σ = [some (.ref q), some (.ref p), v, none, none, none, none] ∧ Same H H') ⟨none, rfl, Same.refl H⟩ (fun i σ H' hi h => ?_) (fun σ H' h => ?_)⟩
    · obtain ⟨v, rfl, S⟩ := h
      obtain ⟨e, he⟩ : ∃ e, es[i]? = some e := ⟨es[i]'(by rw [M.len]; exact hi), List.getElem?_eq_getElem _⟩
      have x : IsExc K H' e (C i) := TP.IsExc.same (M.is hi he) S
      have X := T.exc i hi
      have at_ : atI (es.map V.ref) (0 + (i : Int)) = some (.ref e) := by
        rw [Int.zero_add]
        refine atI_nat ?_
        rw [List.getElem?_map, he]
        rfl
      refine ⟨_, rfl, _, rfl, q, _, _, .ref e, rfl, rfl, SqL.of (S _ _ hq), at_, e, C i, .ref (C 15), .ref (C 15), _, rfl, x, X, fun _ h => h, T.tail i hi, _, rfl, ?_⟩
      refine ⟨_, rfl, _, rfl, q, _, _, .ref e, rfl, rfl, SqL.of (S _ _ hq), at_, e, C i, .ty "ValueError", .type "ValueError", _, rfl, x, X, fun _ h => h, T.ve i hi, _, rfl, ?_⟩
      show if false = true then _ else _
      refine iteF ?_
      refine ⟨_, rfl, _, rfl, q, _, _, .ref e, rfl, rfl, SqL.of (S _ _ hq), at_, e, i, rfl, hi, x, X, fun l H1 nl s1 L => ?_⟩
      refine ⟨15, rfl, by decide, by decide, fun d hd => lc_range (lo := 0) (n := 15) (fun n G => G = upd H1 d (.lst ((List.range n).map fun j => V.bl (decide (j = i))))) rfl (fun n G hn h => ?_) (fun G h => ?_)⟩
      · subst h
        refine ⟨rfl, _, rfl, _, rfl, rfl, _, upd_same, ?_, ?_⟩
        · rw [List.length_map, List.length_range]
          exact small1000 (by omega)
        · rw [upd_upd, List.range_succ, List.map_append]
          have ed : decide ((V.int (0 + (n : Int))) = V.int (0 + (i : Int))) = decide (n = i) := by
            rw [decide_eq_decide, V.int.injEq]
            omega
          rw [ed]
          rfl
      · subst h
        have L2 := same_upd (o := .lst ((List.range 15).map fun j => V.bl (decide (j = i)))) hd _ _ L
        refine ⟨_, _, .lst (SqL.of L2) (dp_bls (bs i)), .lst (SqL.of upd_same) (dp_bls (bs i)), shaped_bls _, shaped_bls _, _, rfl, ?_⟩
        rw [show PyData.eqv (.list ((bs i).map PyData.bool)) (.list ((bs i).map PyData.bool)) = true from eqv_bls _]
        show if false = true then _ else _
        exact iteF ⟨_, rfl, (S.trans s1).trans (same_upd hd)⟩
    · obtain ⟨v, rfl, S⟩ := h
      obtain ⟨e0, e1, e2, e3, e4, e5, e6, e7, e8, e9, e10, e11, e12, e13, e14, rfl⟩ := fifteen M.len
      obtain ⟨t0, t1, t2, t3, t4, t5, t6, t7, t8, t9, t10, t11, t12, rfl⟩ := thirteen M.tl
      have F0 : Fld H' (C 0) "name" e0 t0 := (M.fld 0 e0 t0 (by decide) rfl rfl).same S
      obtain ⟨d0, a0, b0⟩ := F0
      have F1 : Fld H' (C 1) "name" e1 t1 := (M.fld 1 e1 t1 (by decide) rfl rfl).same S
      obtain ⟨d1, a1, b1⟩ := F1
      have F2 : Fld H' (C 2) "name" e2 t2 := (M.fld 2 e2 t2 (by decide) rfl rfl).same S
      obtain ⟨d2, a2, b2⟩ := F2
      have F3 : Fld H' (C 3) "count" e3 t3 := (M.fld 3 e3 t3 (by decide) rfl rfl).same S
      obtain ⟨d3, a3, b3⟩ := F3
      have F4 : Fld H' (C 4) "text" e4 t4 := (M.fld 4 e4 t4 (by decide) rfl rfl).same S
      obtain ⟨d4, a4, b4⟩ := F4
      have F5 : Fld H' (C 5) "value" e5 t5 := (M.fld 5 e5 t5 (by decide) rfl rfl).same S
      obtain ⟨d5, a5, b5⟩ := F5
      have F6 : Fld H' (C 6) "value" e6 t6 := (M.fld 6 e6 t6 (by decide) rfl rfl).same S
      obtain ⟨d6, a6, b6⟩ := F6
      have F7 : Fld H' (C 7) "value" e7 t7 := (M.fld 7 e7 t7 (by decide) rfl rfl).same S
      obtain ⟨d7, a7, b7⟩ := F7
      have F8 : Fld H' (C 8) "value" e8 t8 := (M.fld 8 e8 t8 (by decide) rfl rfl).same S
      obtain ⟨d8, a8, b8⟩ := F8
      have F9 : Fld H' (C 9) "value" e9 t9 := (M.fld 9 e9 t9 (by decide) rfl rfl).same S
      obtain ⟨d9, a9, b9⟩ := F9
      have F10 : Fld H' (C 10) "value" e10 t10 := (M.fld 10 e10 t10 (by decide) rfl rfl).same S
      obtain ⟨d10, a10, b10⟩ := F10
      have F11 : Fld H' (C 11) "value" e11 t11 := (M.fld 11 e11 t11 (by decide) rfl rfl).same S
      obtain ⟨d11, a11, b11⟩ := F11
      have F12 : Fld H' (C 12) "names" e12 t12 := (M.fld 12 e12 t12 (by decide) rfl rfl).same S
      obtain ⟨d12, a12, b12⟩ := F12
      refine ⟨_, rfl, q, _, 0, .ref e0, rfl, rfl, SqL.of (S _ _ hq), atI_nat (j := 0) rfl, e0, C 0, d0, _, t0, rfl, T.c0.x.xf, T.c0.x.no, a0, b0, lk1 _ _, ?_⟩
      refine ⟨_, rfl, q, _, 1, .ref e1, rfl, rfl, SqL.of (S _ _ hq), atI_nat (j := 1) rfl, e1, C 1, d1, _, t1, rfl, T.c1.x.xf, T.c1.x.no, a1, b1, lk1 _ _, ?_⟩
      refine ⟨_, rfl, q, _, 2, .ref e2, rfl, rfl, SqL.of (S _ _ hq), atI_nat (j := 2) rfl, e2, C 2, d2, _, t2, rfl, T.c2.x.xf, T.c2.x.no, a2, b2, lk1 _ _, ?_⟩
      refine ⟨_, rfl, q, _, 3, .ref e3, rfl, rfl, SqL.of (S _ _ hq), atI_nat (j := 3) rfl, e3, C 3, d3, _, t3, rfl, T.c3.x.xf, T.c3.x.no, a3, b3, lk1 _ _, ?_⟩
      refine ⟨_, rfl, q, _, 4, .ref e4, rfl, rfl, SqL.of (S _ _ hq), atI_nat (j := 4) rfl, e4, C 4, d4, _, t4, rfl, T.c4.x.xf, T.c4.x.no, a4, b4, lk1 _ _, ?_⟩
      refine ⟨_, rfl, q, _, 5, .ref e5, rfl, rfl, SqL.of (S _ _ hq), atI_nat (j := 5) rfl, e5, C 5, d5, _, t5, rfl, T.c5.x.xf, T.c5.x.no, a5, b5, lk1 _ _, ?_⟩
      refine ⟨_, rfl, q, _, 6, .ref e6, rfl, rfl, SqL.of (S _ _ hq), atI_nat (j := 6) rfl, e6, C 6, d6, _, t6, rfl, T.c6.x.xf, T.c6.x.no, a6, b6, lk1 _ _, ?_⟩
      refine ⟨(by show 7 ≤ sizeLine; decide), fun l0 hl0 => ?_⟩
      have s1 := same_upd (o := (.lst [t0, t1, t2, t3, t4, t5, t6])) hl0
      have L0 := @upd_same H' l0 (.lst [t0, t1, t2, t3, t4, t5, t6])
      replace S := S.trans s1
      refine ⟨_, rfl, _, rfl, q, _, 7, .ref e7, rfl, rfl, SqL.of (S _ _ hq), atI_nat (j := 7) rfl, e7, C 7, d7, _, t7, rfl, T.c7.x.xf, T.c7.x.no, s1 _ _ a7, s1 _ _ b7, lk1 _ _, ?_⟩
      refine ⟨_, rfl, q, _, 8, .ref e8, rfl, rfl, SqL.of (S _ _ hq), atI_nat (j := 8) rfl, e8, C 8, d8, _, t8, rfl, T.c8.x.xf, T.c8.x.no, s1 _ _ a8, s1 _ _ b8, lk1 _ _, ?_⟩
      refine ⟨_, rfl, q, _, 9, .ref e9, rfl, rfl, SqL.of (S _ _ hq), atI_nat (j := 9) rfl, e9, C 9, d9, _, t9, rfl, T.c9.x.xf, T.c9.x.no, s1 _ _ a9, s1 _ _ b9, lk1 _ _, ?_⟩
      refine ⟨_, rfl, q, _, 10, .ref e10, rfl, rfl, SqL.of (S _ _ hq), atI_nat (j := 10) rfl, e10, C 10, d10, _, t10, rfl, T.c10.x.xf, T.c10.x.no, s1 _ _ a10, s1 _ _ b10, lk1 _ _, ?_⟩
      refine ⟨_, rfl, q, _, 11, .ref e11, rfl, rfl, SqL.of (S _ _ hq), atI_nat (j := 11) rfl, e11, C 11, d11, _, t11, rfl, T.c11.x.xf, T.c11.x.no, s1 _ _ a11, s1 _ _ b11, lk1 _ _, ?_⟩
      refine ⟨_, rfl, q, _, 12, .ref e12, rfl, rfl, SqL.of (S _ _ hq), atI_nat (j := 12) rfl, e12, C 12, d12, _, t12, rfl, T.c12.x.xf, T.c12.x.no, s1 _ _ a12, s1 _ _ b12, lk1 _ _, ?_⟩
      refine ⟨(by show 6 ≤ sizeLine; decide), fun l1 hl1 => ?_⟩
      have s2 := same_upd (o := (.lst [t7, t8, t9, t10, t11, t12])) hl1
      have L1 := @upd_same (upd H' l0 (.lst [t0, t1, t2, t3, t4, t5, t6])) l1 (.lst [t7, t8, t9, t10, t11, t12])
      replace S := S.trans s2
      refine ⟨l0, l1, _, _, rfl, rfl, s2 _ _ L0, L1, (by show 13 ≤ sizeLine; decide), fun l hl => ?_⟩
      have s3 := same_upd (o := (.lst [t0, t1, t2, t3, t4, t5, t6, t7, t8, t9, t10, t11, t12])) hl
      have L := @upd_same (upd (upd H' l0 (.lst [t0, t1, t2, t3, t4, t5, t6])) l1 (.lst [t7, t8, t9, t10, t11, t12])) l (.lst [t0, t1, t2, t3, t4, t5, t6, t7, t8, t9, t10, t11, t12])
      replace S := S.trans s3
      simp only [List.cons_append, List.nil_append]
      generalize upd (upd (upd H' l0 (.lst [t0, t1, t2, t3, t4, t5, t6])) l1 (.lst [t7, t8, t9, t10, t11, t12])) l (.lst [t0, t1, t2, t3, t4, t5, t6, t7, t8, t9, t10, t11, t12]) = G at S L ⊢
      generalize hts : [t0, t1, t2, t3, t4, t5, t6, t7, t8, t9, t10, t11, t12] = ts at *
      -- truths
      refine ⟨_, rfl, l, rfl, ⟨_, SqL.of L⟩, fun d hd => lc_list (K := K) (a := l) (xs := ts) (fun n G' => G' = upd G d (.lst ((ts.take n).map fun v => V.bl (kd v)))) rfl (fun n G' _ h => ?_) (fun n x G' hx h => ?_) (fun G' h => ?_)⟩
      · subst h
        exact SqL.of (same_upd hd _ _ L)
      · subst h
        have hn : n < ts.length := (List.getElem?_eq_some_iff.mp hx).1
        obtain ⟨t, ty, ki⟩ := ((hk x (List.mem_of_getElem? hx)).same (S.trans (same_upd (o := .lst ((ts.take n).map fun v => V.bl (kd v))) hd))).ty (K := K)
        refine ⟨rfl, _, rfl, x, .ty "bool", t, .type "bool", _, rfl, .ty "bool", ty, ki, _, upd_same, ?_, ?_⟩
        · rw [List.length_map, List.length_take]
          exact small1000 (by have := M.tl; omega)
        · rw [upd_upd, List.take_add_one, List.map_append, hx]
          rfl
      · subst h
        rw [List.take_length]
        have s4 := same_upd (o := .lst (ts.map fun v => V.bl (kd v))) hd
        refine ⟨_, rfl, _, rfl, 1, by decide, .inl ⟨l, p, _, _, rfl, rfl, SqL.of (s4 _ _ L), SqL.of (s4 _ _ (S _ _ hp)), pair_kd hk⟩, true, rfl, iteT ?_⟩
        refine ⟨_, rfl, _, rfl, p, rfl, ⟨_, SqL.of (s4 _ _ (S _ _ hp))⟩, fun d2 hd2 => lc_list (K := K) (a := p) (xs := ts) (fun n G' => G' = upd (upd G d (.lst (ts.map fun v => V.bl (kd v)))) d2 (.lst ((ts.take n).map fun v => V.bl (kd v)))) rfl (fun n G' _ h => ?_) (fun n x G' hx h => ?_) (fun G' h => ?_)⟩
        · subst h
          exact SqL.of (same_upd hd2 _ _ (s4 _ _ (S _ _ hp)))
        · subst h
          have hn : n < ts.length := (List.getElem?_eq_some_iff.mp hx).1
          obtain ⟨t, ty, ki⟩ := ((hk x (List.mem_of_getElem? hx)).same ((S.trans s4).trans (same_upd (o := .lst ((ts.take n).map fun v => V.bl (kd v))) hd2))).ty (K := K)
          refine ⟨rfl, _, rfl, x, .ty "bool", t, .type "bool", _, rfl, .ty "bool", ty, ki, _, upd_same, ?_, ?_⟩
          · rw [List.length_map, List.length_take]
            exact small1000 (by have := M.tl; omega)
          · rw [upd_upd, List.take_add_one, List.map_append, hx]
            rfl
        · subst h
          rw [List.take_length]
          have s5 := same_upd (o := .lst (ts.map fun v => V.bl (kd v))) hd2
          refine ⟨1, by decide, .inl ⟨d, d2, _, _, rfl, rfl, SqL.of (s5 _ _ upd_same), SqL.of upd_same, pair_bl ts⟩, k _ ((S.trans s4).trans s5)⟩
end
end TP
set_option maxHeartbeats 4000000
namespace TP
open PySem PySem.Spec PyProof.Rows L2 EX
abbrev sSigns : Stmt := topS 20
theorem scSigns : FnScope ["_law_signs_here"] [] (defScope sSigns) := ⟨rfl, rfl, rfl, by decide +kernel, rfl, by decide +kernel, by decide +kernel⟩
theorem scThing : FnScope ["_law_state", "_law_amount", "_law_signs_here", "_law_scrap", "_law_k"] ["_law_state"] (defScope sThing) := ⟨rfl, rfl, rfl, by decide +kernel, rfl, by decide +kernel, by decide +kernel⟩
def textOf : Expr → Str
  | .Constant (.str x) _ _ => x
  | _ => Str.empty
/-- the signs, as the def's two texts write them -/
def sig : Str := match defBody sSigns with
  | [.Assign _ e _, .Return (some (.BinOp _ _ e2 _)) _] => textOf e ++ textOf e2
  | _ => Str.empty
theorem sig_pos : 0 < sig.length := by decide +kernel
theorem sig_len : sig.length ≤ 100 := by decide +kernel
theorem str_size {z : Str} (h : z.length ≤ 100) : z.length ≤ sizeLine := Nat.le_of_lt (small1000 (by omega))
def spSigns : Sp := fun vs H Q _ => vs = [] ∧ Q (.str sig) H
def one (c : Nat) : Str := ⟨#[c]⟩
theorem at_str {z : Str} {r : Int} (h0 : 0 ≤ r) (h1 : r < z.length) : ∃ c, atI z.cps.toList r = some c := by
  obtain ⟨j, rfl⟩ : ∃ j : Nat, r = (j : Int) := ⟨r.toNat, by omega⟩
  have hl : z.cps.toList.length = z.length := Array.length_toList
  have hj : j < z.cps.toList.length := by omega
  exact ⟨z.cps.toList[j], atI_nat (List.getElem?_eq_getElem hj)⟩
theorem at_list {xs : List V} {r : Int} (h0 : 0 ≤ r) (h1 : r < (xs.length : Int)) : ∃ v, atI xs r = some v ∧ v ∈ xs := by
  obtain ⟨j, rfl⟩ : ∃ j : Nat, r = (j : Int) := ⟨r.toNat, by omega⟩
  have hj : j < xs.length := by omega
  exact ⟨xs[j], atI_nat (List.getElem?_eq_getElem hj), List.getElem_mem hj⟩
theorem Drw.ne_l0 {H : Hp} {st l0 l1 : Addr} {n : Nat} (d : Drw H st l0 l1 n) {q : Addr} (h : H q = none) : st ≠ q ∧ l0 ≠ q ∧ l1 ≠ q := by
  obtain ⟨zs, cs, d⟩ := d
  exact ⟨ne_of_none d.hs h, ne_of_none d.h0 h, ne_of_none d.h1 h⟩
theorem Drw.ne_ob {H : Hp} {st l0 l1 : Addr} {n : Nat} (d : Drw H st l0 l1 n) {q : Addr} {o : HO} (h : H q = some o) (ho : ∀ xs, o ≠ .lst xs) : q ≠ st ∧ q ≠ l0 ∧ q ≠ l1 := by
  obtain ⟨zs, cs, d⟩ := d
  refine ⟨fun e => ?_, fun e => ?_, fun e => ?_⟩
  · rw [e, d.hs] at h; exact ho _ (Option.some.inj h).symm
  · rw [e, d.h0] at h; exact ho _ (Option.some.inj h).symm
  · rw [e, d.h1] at h; exact ho _ (Option.some.inj h).symm
/-- what is no list stands behind a draw -/
theorem Frm.ob {H H' : Hp} {st l0 l0' l1 q : Addr} {n : Nat} {o : HO} (f : Frm H H' st l0 l0') (d : Drw H st l0 l1 n) (h : H q = some o) (ho : ∀ xs, o ≠ .lst xs) : H' q = some o :=
  f.keep q o h (d.ne_ob h ho).1 (d.ne_ob h ho).2.1
theorem Frm.ne {H H' : Hp} {st l0 l0' p : Addr} {o : HO} (f : Frm H H' st l0 l0') (h : p ≠ l0) (hp : H p = some o) : p ≠ l0' := by
  rcases f.new with e | e
  · rw [e]; exact h
  · exact ne_of_none hp e
/-- a value without lists -/
inductive Kt (H : Hp) : V → Prop where
  | non : Kt H .non
  | bl (b : Bool) : Kt H (.bl b)
  | int (i : Int) : Kt H (.int i)
  | str (x : Str) : Kt H (.str x)
  | tup {a : Addr} {xs : List V} (e : H a = some (.tup xs)) : Kt H (.ref a)
  | dict {a : Addr} {kvs : List (Key × V)} (e : H a = some (.dK kvs)) : Kt H (.ref a)
theorem Kt.kd {H : Hp} {v : V} (k : Kt H v) : Kd H v := by
  cases k with
  | non => exact .non
  | bl b => exact .bl b
  | int i => exact .int i
  | str x => exact .str x
  | tup e => exact .tup e
  | dict e => exact .dict e
theorem Kt.same {H H' : Hp} {v : V} (k : Kt H v) (s : Same H H') : Kt H' v := by
  cases k with
  | non => exact .non
  | bl b => exact .bl b
  | int i => exact .int i
  | str x => exact .str x
  | tup e => exact .tup (s _ _ e)
  | dict e => exact .dict (s _ _ e)
theorem Kt.draw {H H' : Hp} {v : V} {st l0 l0' l1 : Addr} {n : Nat} (k : Kt H v) (d : Drw H st l0 l1 n) (f : Frm H H' st l0 l0') : Kt H' v := by
  cases k with
  | non => exact .non
  | bl b => exact .bl b
  | int i => exact .int i
  | str x => exact .str x
  | tup e => exact .tup (f.ob d e fun _ h => nomatch h)
  | dict e => exact .dict (f.ob d e fun _ h => nomatch h)
def spThing : Sp := fun vs H Q _ => ∃ (st l0 l1 : Addr) (n : Nat), vs = [.ref st] ∧ Drw H st l0 l1 n ∧ n < 2 ^ 30 ∧
  ∀ (v : V) (H' : Hp) (l0' : Addr) (n' : Nat), n' ≤ n + 9 → Drw H' st l0' l1 n' → Frm H H' st l0 l0' → Kt H' v → Q v H'
section
variable {P : Program} {w : World} {K : PySem.W.Frag} {mg : Str → Option Value} {base : Heap} {f fD fI : Addr} {fd fdD fdI : FuncData}
theorem ok_signs (F : Fun K "_law_signs" "_law_signs" sSigns f fd) : FnOk P w K mg base CX0 1 f fd [] spSigns := by
  refine F.ok scSigns (fun vs H Q E h => ?_) (fun cdv A outer s H vs Q E hr h => ?_)
  · obtain ⟨rfl, _⟩ := h
    rfl
  · obtain ⟨rfl, k⟩ := h
    have nd := scSigns.nd
    refine ⟨_, pss_cons (ps_set (i := 0) nd rfl (.inl rfl) pe_str) (pss_one (ps_ret (pe_op op_add_str (pv 0) pe_str))), ?_⟩
    refine ⟨_, rfl, _, _, rfl, rfl, (by decide +kernel), ?_⟩
    exact k
theorem same_frm {H H1 : Hp} {st l0 : Addr} (s : Same H H1) : Frm H H1 st l0 l0 := ⟨fun b o e _ _ => s _ _ e, .inl rfl⟩
theorem Frm.new_lst {H : Hp} {st l0 p : Addr} {o : HO} (h : H p = none) : Frm H (upd H p o) st l0 l0 := same_frm (same_upd h)
theorem Drw.put {H : Hp} {st l0 l1 p : Addr} {n : Nat} {o : HO} (d : Drw H st l0 l1 n) (h : p ≠ st) (h0 : p ≠ l0) (h1 : p ≠ l1) : Drw (upd H p o) st l0 l1 n := by
  obtain ⟨zs, cs, D⟩ := d
  exact ⟨zs, cs, by rw [upd_ne h.symm]; exact D.hs, by rw [upd_ne h0.symm]; exact D.h0, by rw [upd_ne h1.symm]; exact D.h1, D.z, D.c0, D.c, D.n0, D.n1, D.n01⟩
theorem Frm.put {H H' : Hp} {st l0 l0' p : Addr} {o : HO} (f : Frm H H' st l0 l0') (h : ∀ b o, H b = some o → b ≠ st → b ≠ l0 → b ≠ p) : Frm H (upd H' p o) st l0 l0' :=
  ⟨fun b o e h1 h2 => by rw [upd_ne (h b o e h1 h2)]; exact f.keep b o e h1 h2, f.new⟩
theorem ok_thing (F : Fun K "_law_thing" "_law_thing" sThing f fd) (FD : Fun K "_law_draw" "_law_draw" sDraw fD fdD) (bD : Binds K fdD ["_law_state", "_law_size"] []) (gD : mg "_law_draw" = some (.ref fD))
    (FI : Fun K "_law_signs" "_law_signs" sSigns fI fdI) (bI : Binds K fdI [] []) (gI : mg "_law_signs" = some (.ref fI)) (mi : mg "int" = none) (ml : mg "len" = none) (mr : mg "range" = none) : FnOk P w K mg base CX0 2 f fd ["_law_state"] spThing := by
  have GD : FnOk P w K mg base CX0 1 fD fdD ["_law_state", "_law_size"] spDraw := ok_draw FD mi ml
  have GI : FnOk P w K mg base CX0 1 fI fdI [] spSigns := ok_signs FI
  refine F.ok scThing (fun vs H Q E h => ?_) (fun cdv A outer s H vs Q E hr h => ?_)
  · obtain ⟨st, l0, l1, n, rfl, _⟩ := h
    rfl
  · obtain ⟨st, l0, l1, n, rfl, D0, hn, k⟩ := h
    have nd := scThing.nd
    refine ⟨_, pss_cons (ps_set (i := 1) nd rfl (.inl rfl) (pe_op op_sub (pe_call GD hr (by rfl) gD FD.kp bD .nil pass0 (pa_cons (pv 0) (pa_cons pe_int pa_nil))) pe_int))
      (pss_cons (ps_set (i := 2) nd rfl (.inr rfl) (pe_call0 GI hr (by rfl) gI FI.kp bI .nil pass0))
      (pss_cons (ps_set (i := 3) nd rfl (.inl rfl) (pe_join pe_str (pe_lc (own := [("_law_k", 4)]) (g := gName 4) (tt := tYes) (by rfl) nd
          (pi_range1 rfl mr (pa_cons (pe_call GD hr (by rfl) gD FD.kp bD .nil pass0 (pa_cons (pv 0) (pa_cons pe_int pa_nil))) pa_nil))
          (blkOk_by (N := ["_law_state", "_law_amount", "_law_signs_here", "_law_scrap", "_law_k"]) (sc := defScope sThing) (by decide +kernel)) (fun _ _ _ _ _ => pg_name (i := 4) nd rfl (Or.inl rfl)) (fun _ _ _ _ _ => pts_nil)
          (fun _ _ _ _ _ => pe_ix ix_str (pv 2) (pe_call GD hr (by rfl) gD FD.kp bD .nil pass0 (pa_cons (pv 0) (pa_cons (pe_callB call_len_str (by rfl) ml PySem.boot_len (pa_cons (pv 2) pa_nil)) pa_nil))) (fun _ _ => rfl)))))
      (pss_one (ps_ret (pe_ix ix_list (pe_lst (pa_cons (pv 3) (pa_cons (pv 1) (pa_cons pe_non (pa_cons (pe_tup (pa_cons (pv 3) (pa_cons (pv 1) pa_nil))) (pa_cons (pe_op op_sub (pe_un un_neg (pe_op op_pow pe_int pe_int)) (pv 1))
        (pa_cons pe_str (pa_cons pe_int (pa_cons pe_bl (pa_cons (pe_disp (pps_cons (pv 3) pe_int pps_nil) rfl rfl (by simp) (by decide)) pa_nil))))))))))
        (pe_call GD hr (by rfl) gD FD.kp bD .nil pass0 (pa_cons (pv 0) (pa_cons pe_int pa_nil))) (fun _ _ => rfl)))))), ?_⟩
    refine ⟨_, rfl, st, l0, l1, n, 2000001, rfl, D0, by decide, by decide, by omega, fun r H1 m1 r0 r1 D1 F1 => ⟨_, _, rfl, rfl, ?_⟩⟩
    refine ⟨rfl, ⟨_, rfl⟩, ?_⟩
    refine ⟨_, rfl, st, m1, l1, n + 1, 6, rfl, D1, by decide, by decide, by omega, fun t H2 m2 t0 t1 D2 F2 => ?_⟩
    refine ⟨t, rfl, by omega, by omega, fun p hp => ?_⟩
    have n5 := D2.ne_l0 hp
    have F12 := F1.trans D1.st_some F2
    have hpn : ∀ b o, H b = some o → b ≠ st → b ≠ l0 → b ≠ p := fun b o e h1 h2 => ne_of_none (F12.keep b o e h1 h2) hp
    refine lc_range (lo := 0) (n := t.toNat) (fun i H' => ∃ (cs : List Nat) (m : Addr), cs.length = i ∧ H' p = some (.lst (cs.map fun c => V.str (one c))) ∧ Drw H' st m l1 (n + 2 + i) ∧ Frm H H' st l0 m ∧ p ≠ m)
      ⟨[], m2, rfl, upd_same, D2.same (same_upd hp), F12.put hpn, n5.2.1.symm⟩ (fun i H' hi h => ?_) (fun H' h => ?_)
    · obtain ⟨cs, m, rfl, ep, D, FF, nm⟩ := h
      refine ⟨rfl, _, rfl, _, rfl, _, rfl, sig, rfl, str_size sig_len, st, m, l1, _, _, rfl, D, (by have := sig_pos; omega), (by have := sig_len; omega), by omega, fun u H7 m3 u0 u1 D7 F7 => ?_⟩
      obtain ⟨c, ec⟩ := at_str u0 u1
      have e7 := F7.keep p _ ep n5.1.symm nm
      have sz : (cs.map fun c => V.str (one c)).length < sizeLine := by
        rw [List.length_map]
        exact small1000 (by omega)
      refine ⟨sig, u, c, rfl, rfl, str_size sig_len, ec, _, e7, sz, cs ++ [c], m3, by simp, ?_, D7.put n5.1.symm (F7.ne nm ep) n5.2.2.symm, (FF.trans D.st_some F7).put hpn, F7.ne nm ep⟩
      rw [upd_same, List.map_append]
      rfl
    · obtain ⟨cs, m, hc, ep, D, FF, nm⟩ := h
      have hmap : (cs.map fun c => V.str (one c)) = (cs.map one).map V.str := by rw [List.map_map]; rfl
      refine ⟨_, p, cs.map one, rfl, rfl, .inl (SqL.of (by rw [← hmap]; exact ep)), ?_, ?_⟩
      · have e1 : ((cs.map one).map (·.length)).sum = cs.length := by
          clear hmap hc ep
          rw [List.map_map]
          generalize cs = l
          induction l with
          | nil => rfl
          | cons c r ih =>
            rw [List.map_cons, List.sum_cons, ih, List.length_cons]
            show 1 + r.length = _
            omega
        have e2 : (Str.ofString "").length = 0 := by decide +kernel
        rw [e1, e2]
        show _ ≤ 16777216
        omega
      generalize Txt.join (Str.ofString "") (cs.map one) = scrap
      -- the nine
      refine ⟨_, rfl, _, rfl, _, rfl, _, rfl, (by show 2 ≤ sizeLine; decide), fun p1 hp1 => ?_⟩
      have s1 := same_upd (o := .tup [.str scrap, .int (r - 1000000)]) hp1
      refine ⟨10, 28, rfl, rfl, ⟨by decide, by decide, by decide⟩, _, rfl, _, rfl, _, _, rfl, rfl, ?_⟩
      refine fun p2 hp2 => ⟨_, rfl, upd_same, [(Sum.inr scrap, .int 1)], rfl, (by show 1 ≤ 15; decide), ?_⟩
      rw [upd_upd]
      have s2 := s1.trans (same_upd (o := .dK (mergeK [] [(Sum.inr scrap, .int 1)])) hp2)
      refine ⟨(by show 9 ≤ sizeLine; decide), fun p3 hp3 => ?_⟩
      have s3 := s2.trans (same_upd (o := .lst [.str scrap, .int (r - 1000000), .non, .ref p1, .int (-(10 : Int) ^ (28 : Int).toNat - (r - 1000000)), .str (Str.ofString ""), .int 0, .bl true, .ref p2]) hp3)
      have n3 := (D.same s2).ne_l0 hp3
      refine ⟨_, rfl, st, m, l1, _, 9, rfl, D.same s3, by decide, by decide, by omega, fun u H7 m7 u0 u1 D7 F7 => ?_⟩
      obtain ⟨v, ev, hv⟩ := at_list (xs := [.str scrap, .int (r - 1000000), .non, .ref p1, .int (-(10 : Int) ^ (28 : Int).toNat - (r - 1000000)), .str (Str.ofString ""), .int 0, .bl true, .ref p2]) u0 u1
      refine ⟨p3, _, u, v, rfl, rfl, SqL.of (F7.keep p3 _ upd_same n3.1.symm n3.2.1.symm), ev, k v _ m7 _ (by omega) D7 ((FF.trans D.st_some (same_frm s3)).trans (D.same s3).st_some F7) ?_⟩
      refine Kt.draw ?_ (D.same s3) F7
      have e1 := (same_upd (o := .dK (mergeK [] [(Sum.inr scrap, .int 1)])) hp2) p1 _ upd_same
      have e3 := same_upd (o := .lst [.str scrap, .int (r - 1000000), .non, .ref p1, .int (-(10 : Int) ^ (28 : Int).toNat - (r - 1000000)), .str (Str.ofString ""), .int 0, .bl true, .ref p2]) hp3
      simp only [List.mem_cons, List.mem_nil_iff, or_false] at hv
      rcases hv with rfl | rfl | rfl | rfl | rfl | rfl | rfl | rfl | rfl
      · exact .str _
      · exact .int _
      · exact .non
      · exact .tup (e3 _ _ e1)
      · exact .int _
      · exact .str _
      · exact .int _
      · exact .bl _
      · exact .dict (e3 _ _ upd_same)
end
end TP
set_option maxHeartbeats 4000000
namespace TP
open PySem PySem.Spec PyProof.Rows L2 EX
/-- the drawing state, rows that change (each φ), lists that stay -/
structure Lw (φ : HO → Prop) (H : Hp) (st l1 : Addr) (n : Nat) (rows : List Addr) (Z : List (Addr × List V)) : Prop where
  d : ∃ m, Drw H st m l1 n ∧ (∀ z ∈ Z, z.1 ≠ m) ∧ ∀ a ∈ rows, a ≠ m
  z : ∀ z ∈ Z, H z.1 = some (.lst z.2) ∧ z.1 ≠ st ∧ z.1 ≠ l1 ∧ z.1 ∉ rows
  r : ∀ a ∈ rows, a ≠ st ∧ a ≠ l1 ∧ ∃ o, H a = some o ∧ φ o
  nd : (Z.map (·.1)).Nodup
section
variable {φ ψ : HO → Prop} {H H' : Hp} {st l1 m m' a p : Addr} {n n' : Nat} {rows : List Addr} {Z : List (Addr × List V)} {o : HO} {xs ys : List V}
theorem Lw.start (d : Drw H st m l1 n) : Lw φ H st l1 n [] [] := ⟨⟨m, d, (fun _ h => nomatch h), (fun _ h => nomatch h)⟩, (fun _ h => nomatch h), (fun _ h => nomatch h), List.Pairwise.nil⟩
theorem Lw.same (w : Lw φ H st l1 n rows Z) (s : Same H H') : Lw φ H' st l1 n rows Z := by
  obtain ⟨⟨m, d, h1, h2⟩, z, r, nd⟩ := w
  refine ⟨⟨m, d.same s, h1, h2⟩, fun y h => ⟨s _ _ (z y h).1, (z y h).2⟩, fun b h => ?_, nd⟩
  obtain ⟨x1, x2, o, x3, x4⟩ := r b h
  exact ⟨x1, x2, o, s _ _ x3, x4⟩
theorem Lw.draw (z : ∀ y ∈ Z, H y.1 = some (.lst y.2) ∧ y.1 ≠ st ∧ y.1 ≠ l1 ∧ y.1 ∉ rows) (r : ∀ a ∈ rows, a ≠ st ∧ a ≠ l1 ∧ ∃ o, H a = some o ∧ φ o) (nd : (Z.map (·.1)).Nodup)
    (h1 : ∀ y ∈ Z, y.1 ≠ m) (h2 : ∀ a ∈ rows, a ≠ m) (d : Drw H' st m' l1 n') (f : Frm H H' st m m') : Lw φ H' st l1 n' rows Z := by
  refine ⟨⟨m', d, fun y h => f.ne (h1 y h) (z y h).1, fun b h => ?_⟩, fun y h => ⟨f.keep _ _ (z y h).1 (z y h).2.1 (h1 y h), (z y h).2⟩, fun b h => ?_, nd⟩
  · obtain ⟨x1, x2, o, x3, x4⟩ := r b h
    exact f.ne (h2 b h) x3
  · obtain ⟨x1, x2, o, x3, x4⟩ := r b h
    exact ⟨x1, x2, o, f.keep _ _ x3 x1 (h2 b h), x4⟩
theorem Lw.put (w : Lw φ H st l1 n rows Z) (hp : H p = none) : Lw φ (upd H p (.lst xs)) st l1 n rows ((p, xs) :: Z) := by
  obtain ⟨⟨m, d, h1, h2⟩, z, r, nd⟩ := w
  have e := d.ne_l0 hp
  have s := same_upd (o := .lst xs) hp
  refine ⟨⟨m, d.same s, fun y h => ?_, h2⟩, fun y h => ?_, fun b h => ?_, ?_⟩
  · rcases List.mem_cons.mp h with rfl | h
    · exact e.2.1.symm
    · exact h1 y h
  · rcases List.mem_cons.mp h with rfl | h
    · refine ⟨upd_same, e.1.symm, e.2.2.symm, fun q => ?_⟩
      obtain ⟨_, _, o, x3, _⟩ := r _ q
      rw [hp] at x3
      cases x3
    · exact ⟨s _ _ (z y h).1, (z y h).2⟩
  · obtain ⟨x1, x2, o, x3, x4⟩ := r b h
    exact ⟨x1, x2, o, s _ _ x3, x4⟩
  · refine List.nodup_cons.mpr ⟨fun q => ?_, nd⟩
    obtain ⟨y, hy, e2⟩ := List.mem_map.mp q
    have := (z y hy).1
    rw [e2] at this
    dsimp only at this
    rw [hp] at this
    cases this
theorem Lw.set (w : Lw φ H st l1 n rows ((p, xs) :: Z)) : Lw φ (upd H p (.lst ys)) st l1 n rows ((p, ys) :: Z) := by
  obtain ⟨⟨m, d, h1, h2⟩, z, r, nd⟩ := w
  obtain ⟨z1, z2, z3, z4⟩ := z _ (List.mem_cons_self ..)
  have nm := h1 _ (List.mem_cons_self ..)
  obtain ⟨nd1, nd2⟩ := List.nodup_cons.mp nd
  refine ⟨⟨m, d.put z2 nm z3, fun y h => ?_, h2⟩, fun y h => ?_, fun b h => ?_, List.nodup_cons.mpr ⟨nd1, nd2⟩⟩
  · rcases List.mem_cons.mp h with rfl | h
    · exact nm
    · exact h1 y (List.mem_cons_of_mem _ h)
  · rcases List.mem_cons.mp h with rfl | h
    · exact ⟨upd_same, z2, z3, z4⟩
    · have ne : y.1 ≠ p := fun q => nd1 (List.mem_map.mpr ⟨y, h, q⟩)
      exact ⟨by rw [upd_ne ne]; exact (z y (List.mem_cons_of_mem _ h)).1, (z y (List.mem_cons_of_mem _ h)).2⟩
  · obtain ⟨x1, x2, o, x3, x4⟩ := r b h
    have ne : b ≠ p := fun q => z4 (q ▸ h)
    exact ⟨x1, x2, o, by rw [upd_ne ne]; exact x3, x4⟩
theorem Lw.newrow (w : Lw φ H st l1 n rows Z) (ha : H a = none) (h : φ o) : Lw φ (upd H a o) st l1 n (a :: rows) Z := by
  obtain ⟨⟨m, d, h1, h2⟩, z, r, nd⟩ := w
  have e := d.ne_l0 ha
  have s := same_upd (o := o) ha
  refine ⟨⟨m, d.same s, h1, fun b q => ?_⟩, fun y q => ⟨s _ _ (z y q).1, (z y q).2.1, (z y q).2.2.1, fun x => ?_⟩, fun b q => ?_, nd⟩
  · rcases List.mem_cons.mp q with rfl | q
    · exact e.2.1.symm
    · exact h2 b q
  · rcases List.mem_cons.mp x with x | x
    · have := (z y q).1
      rw [x, ha] at this
      cases this
    · exact (z y q).2.2.2 x
  · rcases List.mem_cons.mp q with rfl | q
    · exact ⟨e.1.symm, e.2.2.symm, o, upd_same, h⟩
    · obtain ⟨x1, x2, o', x3, x4⟩ := r b q
      exact ⟨x1, x2, o', s _ _ x3, x4⟩
theorem Lw.row (w : Lw φ H st l1 n rows Z) (ha : a ∈ rows) (hw : ∀ o, φ o → ψ o) (h : ψ o) : Lw ψ (upd H a o) st l1 n rows Z := by
  obtain ⟨⟨m, d, h1, h2⟩, z, r, nd⟩ := w
  obtain ⟨y1, y2, _⟩ := r a ha
  refine ⟨⟨m, d.put y1 (h2 a ha) y2, h1, h2⟩, fun y q => ⟨?_, (z y q).2⟩, fun b q => ?_, nd⟩
  · have ne : y.1 ≠ a := fun x => (z y q).2.2.2 (x ▸ ha)
    rw [upd_ne ne]
    exact (z y q).1
  · obtain ⟨x1, x2, o', x3, x4⟩ := r b q
    by_cases e : b = a
    · subst e
      exact ⟨x1, x2, o, upd_same, h⟩
    · exact ⟨x1, x2, o', by rw [upd_ne e]; exact x3, hw _ x4⟩
theorem Lw.weak (w : Lw φ H st l1 n rows Z) (hw : ∀ o, φ o → ψ o) : Lw ψ H st l1 n rows Z := by
  obtain ⟨d, z, r, nd⟩ := w
  refine ⟨d, z, fun b q => ?_, nd⟩
  obtain ⟨x1, x2, o', x3, x4⟩ := r b q
  exact ⟨x1, x2, o', x3, hw _ x4⟩
theorem Lw.add (w : Lw φ H st l1 n rows Z) (s : Same H H') (hp : H p = none) (e : H' p = some (.lst xs)) : Lw φ H' st l1 n rows ((p, xs) :: Z) := by
  have w2 := (w.put (xs := xs) hp)
  obtain ⟨⟨m, d, h1, h2⟩, z, r, nd⟩ := w.same s
  obtain ⟨⟨m', d', h1', h2'⟩, z', r', nd'⟩ := w2
  obtain ⟨m0, d0, g1, g2⟩ := w.d
  refine ⟨⟨m0, d0.same s, fun y h => ?_, g2⟩, fun y h => ?_, r, nd'⟩
  · rcases List.mem_cons.mp h with rfl | h
    · exact (d0.ne_l0 hp).2.1.symm
    · exact g1 y h
  · rcases List.mem_cons.mp h with rfl | h
    · exact ⟨e, (z' _ (List.mem_cons_self ..)).2⟩
    · exact z y h
theorem Lw.perm (w : Lw φ H st l1 n rows Z) {rows' : List Addr} (h : ∀ a, a ∈ rows' ↔ a ∈ rows) : Lw φ H st l1 n rows' Z := by
  obtain ⟨⟨m, d, h1, h2⟩, z, r, nd⟩ := w
  exact ⟨⟨m, d, h1, fun a q => h2 a ((h a).mp q)⟩, fun y q => ⟨(z y q).1, (z y q).2.1, (z y q).2.2.1, fun x => (z y q).2.2.2 ((h _).mp x)⟩, fun a q => r a ((h a).mp q), nd⟩
theorem mem_snoc {as : List Addr} {a : Addr} (b : Addr) : b ∈ as ++ [a] ↔ b ∈ a :: as := by
  rw [List.mem_append, List.mem_singleton, List.mem_cons]
  exact or_comm
theorem Lw.addrow {u : HO} (w : Lw φ H st l1 n rows Z) (ha : H a = some u) (hu : ∀ xs, u ≠ .lst xs) (na : a ∉ rows) (h : φ o) : Lw φ (upd H a o) st l1 n (a :: rows) Z := by
  obtain ⟨⟨m, d, h1, h2⟩, z, r, nd⟩ := w
  have e := d.ne_ob ha hu
  refine ⟨⟨m, d.put e.1 e.2.1 e.2.2, h1, fun b q => ?_⟩, fun y q => ?_, fun b q => ?_, nd⟩
  · rcases List.mem_cons.mp q with rfl | q
    · exact e.2.1
    · exact h2 b q
  · have ne : y.1 ≠ a := fun x => by
      have := (z y q).1
      rw [x, ha] at this
      exact hu _ (Option.some.inj this)
    refine ⟨by rw [upd_ne ne]; exact (z y q).1, (z y q).2.1, (z y q).2.2.1, fun x => ?_⟩
    rcases List.mem_cons.mp x with x | x
    · exact ne x
    · exact (z y q).2.2.2 x
  · rcases List.mem_cons.mp q with rfl | q
    · exact ⟨e.1, e.2.2, o, upd_same, h⟩
    · obtain ⟨x1, x2, o', x3, x4⟩ := r b q
      have ne : b ≠ a := fun x => na (x ▸ q)
      exact ⟨x1, x2, o', by rw [upd_ne ne]; exact x3, x4⟩
/-- a list of at most B items -/
def rowL (B : Nat) : HO → Prop := fun o => ∃ xs : List V, o = .lst xs ∧ xs.length ≤ B
theorem rowL.mono {B B' : Nat} (h : B ≤ B') : ∀ o, rowL B o → rowL B' o := fun o ⟨xs, e, l⟩ => ⟨xs, e, by omega⟩
/-- a dict of at most B keys, a number at "a" -/
def rowD (B : Nat) : HO → Prop := fun o => ∃ (kvs : List (Key × V)) (i : Int), o = .dK kvs ∧ kvs.length ≤ B ∧ valV kvs (Sum.inr ("a" : Str)) = some (.int i)
theorem rowD.mono {B B' : Nat} (h : B ≤ B') : ∀ o, rowD B o → rowD B' o := fun o ⟨xs, i, e, l, q⟩ => ⟨xs, i, e, by omega, q⟩
theorem put_val (kvs : List (Key × V)) {k k' : Key} (v : V) (h : k' ≠ k) : valV (putK kvs k v) k' = valV kvs k' := by
  rw [valV_put, if_neg h]
theorem ts_of {as : List Addr} {v : V} (h : v ∈ as.map V.ref) : ∃ a ∈ as, v = .ref a := by
  obtain ⟨a, ha, rfl⟩ := List.mem_map.mp h
  exact ⟨a, ha, rfl⟩
theorem at_ref {as : List Addr} {i : Nat} {x : V} (h : (as.map V.ref)[i]? = some x) : ∃ a ∈ as, x = .ref a := ts_of (List.mem_of_getElem? h)
variable {C : Nat → Addr} {es : List Addr} {ts : List V}
theorem Made.draw (M : Made C H es ts) (d : Drw H st m l1 n) (f : Frm H H' st m m') : Made C H' es ts := by
  refine ⟨M.len, M.tl, fun i e v h1 h2 h3 => ?_, fun i e h1 h2 => f.ob d (M.bare i e h1 h2) (fun _ h => nomatch h)⟩
  obtain ⟨dx, x1, x2⟩ := M.fld i e v h1 h2 h3
  exact ⟨dx, f.ob d x1 (fun _ h => nomatch h), f.ob d x2 (fun _ h => nomatch h)⟩
theorem Made.row (M : Made C H es ts) {u : HO} (ha : H a = some u) (hu : ∀ f, u ≠ .ext f) : Made C (upd H a o) es ts := by
  have ne : ∀ {b : Addr} {f}, H b = some (.ext f) → b ≠ a := fun {b f} e q => by
    rw [q, ha] at e
    exact hu f (Option.some.inj e)
  refine ⟨M.len, M.tl, fun i e v h1 h2 h3 => ?_, fun i e h1 h2 => ?_⟩
  · obtain ⟨dx, x1, x2⟩ := M.fld i e v h1 h2 h3
    exact ⟨dx, by rw [upd_ne (ne x1)]; exact x1, by rw [upd_ne (ne x2)]; exact x2⟩
  · rw [upd_ne (ne (M.bare i e h1 h2))]
    exact M.bare i e h1 h2
end
end TP
set_option maxHeartbeats 4000000
namespace TP
open PySem PySem.Spec PyProof.Rows L2 EX
abbrev nL : List Str := ["_law_script", "_law_state", "_law_t", "_law_lists", "_law_pair2", "_law_row", "_law_inner", "_law_dicts", "_law_k"]
theorem scLaw : FnScope nL ["_law_script"] (defScope sLaw) := ⟨rfl, rfl, rfl, by decide +kernel, rfl, by decide +kernel, by decide +kernel⟩
def spLaw (K : PySem.W.Frag) : Sp := fun vs H Q _ => ∃ (a : Addr) (ns : List Int), vs = [.ref a] ∧ SqL K H a (ns.map V.int) ∧ ns.length ≤ 63 ∧ ∀ H', Q (.bl true) H'
section
variable {P : Program} {w : World} {K : PySem.W.Frag} {mg : Str → Option Value} {base : Heap} {C I : Nat → Addr} {D : Nat → FuncData}
theorem ok_law {f fS fD fI fT fA fN fQ fK : Addr} {fd fdS fdD fdI fdT fdA fdN fdQ fdK : FuncData} (T : Errs P w K mg base C I D) (F : Fun K "law" "law" sLaw f fd)
    (FS : Fun K "_law_start" "_law_start" sStart fS fdS) (bS : L2.Binds K fdS ["_law_script"] []) (gS : mg "_law_start" = some (.ref fS))
    (FD : Fun K "_law_draw" "_law_draw" sDraw fD fdD) (bD : L2.Binds K fdD ["_law_state", "_law_size"] []) (gD : mg "_law_draw" = some (.ref fD))
    (FI : Fun K "_law_signs" "_law_signs" sSigns fI fdI) (bI : L2.Binds K fdI [] []) (gI : mg "_law_signs" = some (.ref fI))
    (FT : Fun K "_law_thing" "_law_thing" sThing fT fdT) (bT : L2.Binds K fdT ["_law_state"] []) (gT : mg "_law_thing" = some (.ref fT))
    (FA : Fun K "_law_all" "_law_all" sAll fA fdA) (bA : L2.Binds K fdA ["_law_t"] []) (gA : mg "_law_all" = some (.ref fA))
    (FN : Fun K "_law_named" "_law_named" sNamed fN fdN) (bN : L2.Binds K fdN ["_law_t"] []) (gN : mg "_law_named" = some (.ref fN))
    (FQ : Fun K "_law_kinds" "_law_kinds" sKinds fQ fdQ) (bQ : L2.Binds K fdQ ["_law_e"] []) (gQ : mg "_law_kinds" = some (.ref fQ))
    (FK : Fun K "_law_keeps" "_law_keeps" sKeeps fK fdK) (bK : L2.Binds K fdK ["_law_made", "_law_t"] []) (gK : mg "_law_keeps" = some (.ref fK))
    (mi : mg "int" = none) (ml : mg "len" = none) (ma : mg "abs" = none) (mli : mg "list" = none) : FnOk P w K mg base CX0 4 f fd ["_law_script"] (spLaw K) := by
  have GS : FnOk P w K mg base CX0 1 fS fdS ["_law_script"] (spStart K) := ok_start FS ma mli
  have GD : FnOk P w K mg base CX0 1 fD fdD ["_law_state", "_law_size"] spDraw := ok_draw FD mi ml
  have GT : FnOk P w K mg base CX0 2 fT fdT ["_law_state"] spThing := ok_thing FT FD bD gD FI bI gI mi ml T.mr
  have GA : FnOk P w K mg base CX0 3 fA fdA ["_law_t"] (spAll C) := ok_all T FA
  have GN : FnOk P w K mg base CX0 3 fN fdN ["_law_t"] (spAll C) := ok_named T FN
  have GK : FnOk P w K mg base CX0 2 fK fdK ["_law_made", "_law_t"] (spKeeps K C) := ok_keeps T FK FQ bQ gQ
  refine F.ok scLaw (fun vs H Q E h => ?_) (fun cdv A outer s H vs Q E hr h => ?_)
  · obtain ⟨a, ns, rfl, _⟩ := h
    rfl
  · obtain ⟨a, ns, rfl, hS, hlen, k⟩ := h
    have nd := scLaw.nd
    have hr1 : Room 1 _ := hr.mono (by decide)
    have hr2 : Room 2 _ := hr.mono (by decide)
    have hu := hu_of hr
    refine ⟨_, (pss_cons (ps_set (i := 1) nd rfl (.inr rfl) (pe_call GS hr1 (by rfl) gS FS.kp bS .nil pass0 (pa_cons (pv 0) pa_nil)))
      (pss_cons (ps_setLc (i := 2) (own := [("_law_k", 8)]) (g := gName 8) (tt := tYes) (by rfl) nd rfl rfl (sw_true rfl rfl rfl (by decide +kernel)) (pi_range1 rfl T.mr (pa_cons pe_int pa_nil)) (blkOk_by (N := nL) (sc := defScope sLaw) (by decide +kernel)) (fun _ _ _ _ _ => pg_name (i := 8) nd rfl (Or.inl rfl)) (fun _ _ _ _ _ => pts_nil) (fun _ _ _ _ _ => (pe_call GT hr2 (by rfl) gT FT.kp bT .nil pass0 (pa_cons (pv 1) pa_nil))))
      (pss_cons (ps_if (PW.pt (pw_or (pt_not (pt_val (pe_call GK hr2 (by rfl) gK FK.kp bK .nil pass0 (pa_cons (pe_call GA hr (by rfl) gA FA.kp bA .nil pass0 (pa_cons (pv 2) pa_nil)) (pa_cons (pv 2) pa_nil))))) (pw_or1 (pt_not (pt_val (pe_call GK hr2 (by rfl) gK FK.kp bK .nil pass0 (pa_cons (pe_call GN hr (by rfl) gN FN.kp bN .nil pass0 (pa_cons (pv 2) pa_nil)) (pa_cons (pv 2) pa_nil)))))))) (pss_one (ps_ret pe_bl)) pss_nil)
      (pss_cons (ps_setLc (i := 3) (own := [("_law_k", 8)]) (g := gName 8) (tt := tYes) (by rfl) nd rfl rfl (sw_true rfl rfl rfl (by decide +kernel)) (pi_range1 rfl T.mr (pa_cons pe_int pa_nil)) (blkOk_by (N := nL) (sc := defScope sLaw) (by decide +kernel)) (fun _ _ _ _ _ => pg_name (i := 8) nd rfl (Or.inl rfl)) (fun _ _ _ _ _ => pts_nil) (fun _ _ _ _ _ => (pe_lst (pa_cons (pe_call GD hr1 (by rfl) gD FD.kp bD .nil pass0 (pa_cons (pv 1) (pa_cons pe_int pa_nil))) pa_nil))))
      (pss_cons (ps_set (i := 4) nd rfl (.inl rfl) (pe_lst (pa_cons (pe_call GA hr (by rfl) gA FA.kp bA .nil pass0 (pa_cons (pv 3) pa_nil)) (pa_cons (pe_call GN hr (by rfl) gN FN.kp bN .nil pass0 (pa_cons (pv 3) pa_nil)) pa_nil))))
      (pss_cons (ps_for PassesOwn.never rfl (pi_list (pv 3)) (pg_name (i := 5) nd rfl (.inl rfl)) (pss_one (ps_expr (pe_bm PySem.F.plainAttrs_list PySem.F.slot_list_append PySem.F.type_list_append mt_append (pv 5) (pa_cons (pe_call GD hr1 (by rfl) gD FD.kp bD .nil pass0 (pa_cons (pv 1) (pa_cons pe_int pa_nil))) pa_nil)))))
      (pss_cons (ps_if (PW.pt (pw_or (pt_not (pt_val (pe_call GK hr2 (by rfl) gK FK.kp bK .nil pass0 (pa_cons (pe_ix ix_list (pv 4) pe_int (fun _ _ => rfl)) (pa_cons (pv 3) pa_nil))))) (pw_or1 (pt_not (pt_val (pe_call GK hr2 (by rfl) gK FK.kp bK .nil pass0 (pa_cons (pe_ix ix_list (pv 4) pe_int (fun _ _ => rfl)) (pa_cons (pv 3) pa_nil)))))))) (pss_one (ps_ret pe_bl)) pss_nil)
      (pss_cons (ps_setLc (i := 6) (own := [("_law_k", 8)]) (g := gName 8) (tt := tYes) (by rfl) nd rfl rfl (sw_true rfl rfl rfl (by decide +kernel)) (pi_range1 rfl T.mr (pa_cons pe_int pa_nil)) (blkOk_by (N := nL) (sc := defScope sLaw) (by decide +kernel)) (fun _ _ _ _ _ => pg_name (i := 8) nd rfl (Or.inl rfl)) (fun _ _ _ _ _ => pts_nil) (fun _ _ _ _ _ => (pe_tup (pa_cons (pe_lst (pa_cons (pe_call GD hr1 (by rfl) gD FD.kp bD .nil pass0 (pa_cons (pv 1) (pa_cons pe_int pa_nil))) pa_nil)) pa_nil))))
      (pss_cons (ps_set (i := 4) nd rfl (.inl rfl) (pe_lst (pa_cons (pe_call GA hr (by rfl) gA FA.kp bA .nil pass0 (pa_cons (pv 6) pa_nil)) (pa_cons (pe_call GN hr (by rfl) gN FN.kp bN .nil pass0 (pa_cons (pv 6) pa_nil)) pa_nil))))
      (pss_cons (ps_for PassesOwn.never rfl (pi_list (pv 6)) (pg_name (i := 5) nd rfl (.inl rfl)) (pss_one (ps_expr (pe_bm PySem.F.plainAttrs_list PySem.F.slot_list_append PySem.F.type_list_append mt_append (pe_ix ix_tup (pv 5) pe_int (fun _ _ => rfl)) (pa_cons pe_int pa_nil)))))
      (pss_cons (ps_if (PW.pt (pw_or (pt_not (pt_val (pe_call GK hr2 (by rfl) gK FK.kp bK .nil pass0 (pa_cons (pe_ix ix_list (pv 4) pe_int (fun _ _ => rfl)) (pa_cons (pv 6) pa_nil))))) (pw_or1 (pt_not (pt_val (pe_call GK hr2 (by rfl) gK FK.kp bK .nil pass0 (pa_cons (pe_ix ix_list (pv 4) pe_int (fun _ _ => rfl)) (pa_cons (pv 6) pa_nil)))))))) (pss_one (ps_ret pe_bl)) pss_nil)
      (pss_cons (ps_setLc (i := 7) (own := [("_law_k", 8)]) (g := gName 8) (tt := tYes) (by rfl) nd rfl rfl (sw_true rfl rfl rfl (by decide +kernel)) (pi_range1 rfl T.mr (pa_cons pe_int pa_nil)) (blkOk_by (N := nL) (sc := defScope sLaw) (by decide +kernel)) (fun _ _ _ _ _ => pg_name (i := 8) nd rfl (Or.inl rfl)) (fun _ _ _ _ _ => pts_nil) (fun _ _ _ _ _ => (pe_disp (pps_cons pe_str (pe_call GD hr1 (by rfl) gD FD.kp bD .nil pass0 (pa_cons (pv 1) (pa_cons pe_int pa_nil))) pps_nil) rfl rfl (by simp) (by decide))))
      (pss_cons (ps_set (i := 4) nd rfl (.inl rfl) (pe_lst (pa_cons (pe_call GA hr (by rfl) gA FA.kp bA .nil pass0 (pa_cons (pv 7) pa_nil)) (pa_cons (pe_call GN hr (by rfl) gN FN.kp bN .nil pass0 (pa_cons (pv 7) pa_nil)) pa_nil))))
      (pss_cons (ps_for PassesOwn.never rfl (pi_list (pv 7)) (pg_name (i := 5) nd rfl (.inl rfl)) (pss_one (ps_dput hu (pv 5) pe_str (pe_lst (pa_cons (pe_dget hu (pv 5) pe_str (fun _ _ => rfl)) pa_nil)) (by rfl))))
      (pss_one (ps_ret (pe_and (pe_call GK hr2 (by rfl) gK FK.kp bK .nil pass0 (pa_cons (pe_ix ix_list (pv 4) pe_int (fun _ _ => rfl)) (pa_cons (pv 7) pa_nil))) (pe_one (pe_call GK hr2 (by rfl) gK FK.kp bK .nil pass0 (pa_cons (pe_ix ix_list (pv 4) pe_int (fun _ _ => rfl)) (pa_cons (pv 7) pa_nil))))))))))))))))))))), ?_⟩
    refine ⟨_, rfl, a, ns, rfl, hS, hlen, fun H1 st l0 l1 _ _ _ s1 D1 => ?_⟩
    -- the things
    refine ⟨13, rfl, by decide, by decide, fun p hp => ?_⟩
    have n1 := D1.ne_l0 hp
    refine lc_range (lo := 0) (n := 13) (fun i H' => ∃ (ts : List V) (n : Nat), ts.length = i ∧ n ≤ 9 * i ∧ Lw (fun _ => False) H' st l1 n [] [(p, ts)] ∧ ∀ v ∈ ts, Kt H' v)
      ⟨[], 0, rfl, Nat.zero_le _, (Lw.start D1).put hp, (fun _ h => nomatch h)⟩ (fun i H' hi h => ?_) (fun H' h => ?_)
    · obtain ⟨ts, n, rfl, hn, ⟨⟨m, d, h1, h2⟩, z, r, ndz⟩, ht⟩ := h
      refine ⟨rfl, _, rfl, st, m, l1, n, rfl, d, by omega, fun v H'' m' n' hn' d' f' kv => ?_⟩
      have w' := Lw.draw z r ndz h1 h2 d' f'
      refine ⟨ts, (w'.z _ (List.mem_cons_self ..)).1, small1000 (by omega), ts ++ [v], n', by simp, by omega, w'.set, fun u hu => ?_⟩
      have back : ∀ {u}, Kt H'' u → Kt (upd H'' p (.lst (ts ++ [v]))) u := fun {u} q => by
        have np : ∀ {b o}, H'' b = some o → (∀ xs, o ≠ .lst xs) → b ≠ p := fun {b o} e ho q => by
          rw [q, (w'.z _ (List.mem_cons_self ..)).1] at e
          exact ho _ (Option.some.inj e).symm
        cases q with
        | non => exact .non
        | bl b => exact .bl b
        | int i => exact .int i
        | str x => exact .str x
        | tup e => exact .tup (by rw [upd_ne (np e fun _ h => nomatch h)]; exact e)
        | dict e => exact .dict (by rw [upd_ne (np e fun _ h => nomatch h)]; exact e)
      rcases List.mem_append.mp hu with q | q
      · exact back ((ht u q).draw d f')
      · rw [List.mem_singleton.mp q]
        exact back kv
    obtain ⟨ts, n, hl, hn, L, ht⟩ := h
    have hp0 : H' p = some (.lst ts) := (L.z _ (List.mem_cons_self ..)).1
    refine ⟨_, rfl, p, ts, rfl, hp0, hl, fun q es H2 _ s2 L2 M2 => ⟨_, rfl, q, p, es, ts, rfl, L2, s2 _ _ hp0, M2, fun v hv => ((ht v hv).same s2).kd, fun H3 s3 => ⟨true, rfl, ?_⟩⟩⟩
    have hp3 := s3 _ _ (s2 _ _ hp0)
    refine ⟨_, rfl, p, ts, rfl, hp3, hl, fun q' es' H4 _ s4 L4 M4 => ⟨_, rfl, q', p, es', ts, rfl, L4, s4 _ _ hp3, M4, fun v hv => ((((ht v hv).same s2).same s3).same s4).kd, fun H5 s5 => ⟨true, rfl, ?_⟩⟩⟩
    show if false = true then _ else _
    refine iteF ?_
    obtain ⟨n, hn, L⟩ : ∃ n, n ≤ 200 ∧ Lw (rowL 1) H5 st l1 n [] [] := by
      obtain ⟨m, d, _⟩ := L.d
      exact ⟨n, by omega, Lw.start ((((d.same s2).same s3).same s4).same s5)⟩
    clear hp0 hp3 L2 M2 s2 s3 s4 s5 L4 M4
    -- the lists
    refine ⟨13, rfl, by decide, by decide, fun p3 hp3 => lc_range (lo := 0) (n := 13) (fun i H' => ∃ (as : List Addr) (n' : Nat), as.length = i ∧ n' ≤ n + i ∧ Lw (rowL 1) H' st l1 n' as [(p3, as.map V.ref)])
      ⟨[], n, rfl, by omega, L.put hp3⟩ (fun i H' hi h => ?_) (fun H' h => ?_)⟩
    · obtain ⟨as, n', rfl, hn', ⟨⟨m, d, h1, h2⟩, z, r, ndz⟩⟩ := h
      refine ⟨rfl, _, rfl, st, m, l1, n', 9, rfl, d, by decide, by decide, by omega, fun u H'' m' u0 u1 d' f' => ⟨(by show 1 ≤ sizeLine; decide), fun a' ha' => ?_⟩⟩
      have w2 := (Lw.draw z r ndz h1 h2 d' f').newrow (o := .lst [.int u]) ha' ⟨_, rfl, by simp⟩
      refine ⟨_, (w2.z _ (List.mem_cons_self ..)).1, small1000 (by rw [List.length_map]; omega), as ++ [a'], n' + 1, by simp, by omega, ?_⟩
      have w3 := (w2.set (ys := as.map V.ref ++ [.ref a'])).perm (rows' := as ++ [a']) mem_snoc
      rw [List.map_append]
      exact w3
    clear L hp3
    obtain ⟨as, n', hl3, hn', L⟩ := h
    have hp3 := (L.z _ (List.mem_cons_self ..)).1
    have hl3' : (as.map V.ref).length = 13 := by rw [List.length_map, hl3]
    refine ⟨_, rfl, p3, _, rfl, hp3, hl3', fun q1 es1 H6 nq1 s6 L6 M6 => ⟨_, rfl, p3, _, rfl, s6 _ _ hp3, hl3', fun q2 es2 H7 nq2 s7 L7 M7 => ⟨(by show 2 ≤ sizeLine; decide), fun pr hpr => ?_⟩⟩⟩
    have L := ((L.add s6 nq1 L6).add s7 nq2 L7).put (xs := [.ref q1, .ref q2]) hpr
    have M6 := (M6.same s7).same (same_upd (o := .lst [.ref q1, .ref q2]) hpr)
    have M7 := M7.same (same_upd (o := .lst [.ref q1, .ref q2]) hpr)
    clear hp3 L6 L7
    have inP3 := (L.z (p3, as.map V.ref) (by simp)).1
    refine ⟨_, rfl, p3, rfl, ⟨_, SqL.of inP3⟩, for_list (K := K) (a := p3) (xs := as.map V.ref) (fun i σ H' => ∃ (v : Option V) (n'' : Nat), σ = [some (.ref a), some (.ref st), some (.ref p), some (.ref p3), some (.ref pr), v, none, none, none] ∧ n'' ≤ n' + i ∧
        Lw (rowL (1 + i)) H' st l1 n'' as [(pr, [.ref q1, .ref q2]), (q2, es2.map V.ref), (q1, es1.map V.ref), (p3, as.map V.ref)] ∧ Made C H' es1 (as.map V.ref) ∧ Made C H' es2 (as.map V.ref))
      ⟨none, n', rfl, by omega, L, M6, M7⟩ (fun i σ H' _ h => ?_) (fun i x σ H' hx h => ?_) (fun σ H' h => ?_)⟩
    · obtain ⟨v, n'', rfl, _, L, _⟩ := h
      exact SqL.of (L.z (p3, as.map V.ref) (by simp)).1
    · obtain ⟨v, n'', rfl, hn2, L, M, M'⟩ := h
      have hi : i < 13 := by
        have := (List.getElem?_eq_some_iff.mp hx).1
        omega
      obtain ⟨b, hb, rfl⟩ := at_ref hx
      obtain ⟨⟨m, d, h1, h2⟩, z, r, ndz⟩ := L
      obtain ⟨_, _, o, eb, xs, rfl, hxs⟩ := r b hb
      refine ⟨_, rfl, .inl ⟨rfl, _, SqL.of eb⟩, _, rfl, st, m, l1, n'', 9, rfl, d, by decide, by decide, by omega, fun u H'' m' u0 u1 d' f' => ?_⟩
      have eb' := f'.keep b _ eb (r b hb).1 (h2 b hb)
      refine ⟨b, xs, _, rfl, rfl, eb', small1000 (by omega), _, n'' + 1, rfl, by omega, ?_, ?_, ?_⟩
      · exact (Lw.draw z r ndz h1 h2 d' f').row hb (rowL.mono (by omega)) ⟨_, rfl, by simp; omega⟩
      · exact (M.draw d f').row eb' (fun _ h => nomatch h)
      · exact (M'.draw d f').row eb' (fun _ h => nomatch h)
    clear L M6 M7 inP3 hpr nq1 nq2 s6 s7
    obtain ⟨v5, n2, rfl, hn2, L, M, M'⟩ := h
    rw [hl3'] at hn2
    have kdL : ∀ {G : Hp}, Same H' G → ∀ v ∈ as.map V.ref, Kd G v := fun {G} s v hv => by
      obtain ⟨b, hb, rfl⟩ := ts_of hv
      obtain ⟨_, _, o, eb, xs, rfl, _⟩ := L.r b hb
      exact .lst (s _ _ eb)
    refine ⟨_, rfl, pr, _, 0, .ref q1, rfl, rfl, SqL.of (L.z (pr, [.ref q1, .ref q2]) (by simp)).1, atI_nat (j := 0) rfl, _, rfl, q1, p3, es1, _, rfl, (L.z (q1, es1.map V.ref) (by simp)).1, (L.z (p3, as.map V.ref) (by simp)).1, M, kdL (Same.refl _), fun H8 s8 => ⟨true, rfl, ?_⟩⟩
    refine ⟨_, rfl, pr, _, 1, .ref q2, rfl, rfl, SqL.of (s8 _ _ (L.z (pr, [.ref q1, .ref q2]) (by simp)).1), atI_nat (j := 1) rfl, _, rfl, q2, p3, es2, _, rfl, s8 _ _ (L.z (q2, es2.map V.ref) (by simp)).1, s8 _ _ (L.z (p3, as.map V.ref) (by simp)).1, M'.same s8, kdL s8, fun H9 s9 => ⟨true, rfl, ?_⟩⟩
    show if false = true then _ else _
    refine iteF ?_
    obtain ⟨n, hn, L⟩ : ∃ n, n ≤ 400 ∧ Lw (rowL 1) H9 st l1 n [] [] := by
      obtain ⟨m, d, _⟩ := L.d
      exact ⟨n2, by omega, Lw.start ((d.same s8).same s9)⟩
    -- the lists in tuples

    refine ⟨13, rfl, by decide, by decide, fun p6 hp6 => lc_range (lo := 0) (n := 13) (fun i H' => ∃ (as bs : List Addr) (n' : Nat), bs.length = i ∧ n' ≤ n + i ∧ Lw (rowL 1) H' st l1 n' as [(p6, bs.map V.ref)] ∧ ∀ b ∈ bs, ∃ a ∈ as, H' b = some (.tup [.ref a]))
      ⟨[], [], n, rfl, by omega, L.put hp6, (fun _ h => nomatch h)⟩ (fun i H' hi h => ?_) (fun H' h => ?_)⟩
    · obtain ⟨as, bs, n', rfl, hn', ⟨⟨m, d, h1, h2⟩, z, r, ndz⟩, ht⟩ := h
      refine ⟨rfl, _, rfl, st, m, l1, n', 9, rfl, d, by decide, by decide, by omega, fun u H'' m' u0 u1 d' f' => ⟨(by show 1 ≤ sizeLine; decide), fun a' ha' => ⟨(by show 1 ≤ sizeLine; decide), fun b' hb' => ?_⟩⟩⟩
      have sb := same_upd (o := .tup [.ref a']) hb'
      have w2 := ((Lw.draw z r ndz h1 h2 d' f').newrow (o := .lst [.int u]) ha' ⟨_, rfl, by simp⟩).same sb
      have e6 := (w2.z _ (List.mem_cons_self ..)).1
      refine ⟨_, e6, small1000 (by rw [List.length_map]; omega), a' :: as, bs ++ [b'], n' + 1, by simp, by omega, ?_, fun b hb => ?_⟩
      · rw [List.map_append]
        exact w2.set
      · have key : ∃ x ∈ a' :: as, (upd (upd H'' a' (.lst [.int u])) b' (.tup [.ref a'])) b = some (.tup [.ref x]) := by
          rcases List.mem_append.mp hb with q | q
          · obtain ⟨x, hx, ex⟩ := ht b q
            exact ⟨x, List.mem_cons_of_mem _ hx, sb _ _ (same_upd ha' _ _ (f'.ob d ex fun _ h => nomatch h))⟩
          · rw [List.mem_singleton.mp q]
            exact ⟨a', List.mem_cons_self .., upd_same⟩
        obtain ⟨x, hx, ex⟩ := key
        refine ⟨x, hx, ?_⟩
        rw [upd_ne fun q => ?_]
        · exact ex
        · rw [q, e6] at ex
          cases ex
    clear L hp6
    obtain ⟨as, bs, n', hl3, hn', L, ht⟩ := h
    have hp3 := (L.z _ (List.mem_cons_self ..)).1
    have hl3' : (bs.map V.ref).length = 13 := by rw [List.length_map, hl3]
    refine ⟨_, rfl, p6, _, rfl, hp3, hl3', fun q1 es1 H6 nq1 s6 L6 M6 => ⟨_, rfl, p6, _, rfl, s6 _ _ hp3, hl3', fun q2 es2 H7 nq2 s7 L7 M7 => ⟨(by show 2 ≤ sizeLine; decide), fun pr2 hpr => ?_⟩⟩⟩
    have sp := same_upd (o := .lst [.ref q1, .ref q2]) hpr
    have L := ((L.add s6 nq1 L6).add s7 nq2 L7).put (xs := [.ref q1, .ref q2]) hpr
    have ht : ∀ b ∈ bs, ∃ a ∈ as, (upd H7 pr2 (.lst [.ref q1, .ref q2])) b = some (.tup [.ref a]) := fun b hb => by
      obtain ⟨x, hx, ex⟩ := ht b hb
      exact ⟨x, hx, sp _ _ (s7 _ _ (s6 _ _ ex))⟩
    have M6 := (M6.same s7).same sp
    have M7 := M7.same sp
    clear hp3 L6 L7
    have inP3 := (L.z (p6, bs.map V.ref) (by simp)).1
    refine ⟨_, rfl, p6, rfl, ⟨_, SqL.of inP3⟩, for_list (K := K) (a := p6) (xs := bs.map V.ref) (fun i σ H' => ∃ (v : Option V), σ = [some (.ref a), some (.ref st), some (.ref p), some (.ref p3), some (.ref pr2), v, some (.ref p6), none, none] ∧
        Lw (rowL (1 + i)) H' st l1 n' as [(pr2, [.ref q1, .ref q2]), (q2, es2.map V.ref), (q1, es1.map V.ref), (p6, bs.map V.ref)] ∧ Made C H' es1 (bs.map V.ref) ∧ Made C H' es2 (bs.map V.ref) ∧ ∀ b ∈ bs, ∃ a ∈ as, H' b = some (.tup [.ref a]))
      ⟨v5, rfl, L, M6, M7, ht⟩ (fun i σ H' _ h => ?_) (fun i x σ H' hx h => ?_) (fun σ H' h => ?_)⟩
    · obtain ⟨v, rfl, L, _⟩ := h
      exact SqL.of (L.z (p6, bs.map V.ref) (by simp)).1
    · obtain ⟨v, rfl, L, M, M', ht⟩ := h
      have hi : i < 13 := by
        have := (List.getElem?_eq_some_iff.mp hx).1
        omega
      obtain ⟨b, hb, rfl⟩ := at_ref hx
      obtain ⟨c, hc, ec⟩ := ht b hb
      obtain ⟨_, _, o, eb, xs, rfl, hxs⟩ := L.r c hc
      refine ⟨_, rfl, b, _, 0, .ref c, rfl, rfl, SqT.of ec, atI_nat (j := 0) rfl, .inl ⟨rfl, _, SqL.of eb⟩, c, xs, _, rfl, rfl, eb, small1000 (by omega), _, rfl, ?_, ?_, ?_, fun y hy => ?_⟩
      · exact L.row hc (rowL.mono (by omega)) ⟨_, rfl, by simp; omega⟩
      · exact M.row eb (fun _ h => nomatch h)
      · exact M'.row eb (fun _ h => nomatch h)
      · obtain ⟨x, hx, ex⟩ := ht y hy
        refine ⟨x, hx, ?_⟩
        rw [upd_ne fun q => ?_]
        · exact ex
        · rw [q, eb] at ex
          cases ex
    clear L M6 M7 inP3 hpr nq1 nq2 s6 s7 ht sp
    obtain ⟨v6, rfl, L, M, M', ht⟩ := h
    have kdL : ∀ {G : Hp}, Same H' G → ∀ v ∈ bs.map V.ref, Kd G v := fun {G} s v hv => by
      obtain ⟨b, hb, rfl⟩ := ts_of hv
      obtain ⟨x, hx, ex⟩ := ht b hb
      exact .tup (s _ _ ex)
    refine ⟨_, rfl, pr2, _, 0, .ref q1, rfl, rfl, SqL.of (L.z (pr2, [.ref q1, .ref q2]) (by simp)).1, atI_nat (j := 0) rfl, _, rfl, q1, p6, es1, _, rfl, (L.z (q1, es1.map V.ref) (by simp)).1, (L.z (p6, bs.map V.ref) (by simp)).1, M, kdL (Same.refl _), fun H8 s8 => ⟨true, rfl, ?_⟩⟩
    refine ⟨_, rfl, pr2, _, 1, .ref q2, rfl, rfl, SqL.of (s8 _ _ (L.z (pr2, [.ref q1, .ref q2]) (by simp)).1), atI_nat (j := 1) rfl, _, rfl, q2, p6, es2, _, rfl, s8 _ _ (L.z (q2, es2.map V.ref) (by simp)).1, s8 _ _ (L.z (p6, bs.map V.ref) (by simp)).1, M'.same s8, kdL s8, fun H9 s9 => ⟨true, rfl, ?_⟩⟩
    show if false = true then _ else _
    refine iteF ?_
    obtain ⟨n, hn, L⟩ : ∃ n, n ≤ 600 ∧ Lw (rowD 1) H9 st l1 n [] [] := by
      obtain ⟨m, d, _⟩ := L.d
      exact ⟨n', by omega, Lw.start ((d.same s8).same s9)⟩
    -- the dicts
    refine ⟨13, rfl, by decide, by decide, fun p7 hp7 => lc_range (lo := 0) (n := 13) (fun i H' => ∃ (as : List Addr) (n' : Nat), as.length = i ∧ n' ≤ n + i ∧ Lw (rowD 1) H' st l1 n' as [(p7, as.map V.ref)])
      ⟨[], n, rfl, by omega, L.put hp7⟩ (fun i H' hi h => ?_) (fun H' h => ?_)⟩
    · obtain ⟨as, n', rfl, hn', w⟩ := h
      refine ⟨rfl, fun a' ha' => ?_⟩
      have na : a' ∉ as := fun q => by
        obtain ⟨_, _, o, e, _⟩ := w.r _ q
        rw [ha'] at e
        cases e
      obtain ⟨⟨m, d, h1, h2⟩, z, r, ndz⟩ := w.same (same_upd (o := .dK []) ha')
      refine ⟨_, rfl, st, m, l1, n', 9, rfl, d, by decide, by decide, by omega, fun u H'' m' u0 u1 d' f' => ⟨f'.ob d upd_same (fun _ h => nomatch h), [(Sum.inr "a", .int u)], rfl, (by show 1 ≤ 15; decide), ?_⟩⟩
      have w2 := (Lw.draw z r ndz h1 h2 d' f').addrow (o := .dK (mergeK [] [(Sum.inr "a", .int u)])) (f'.ob d upd_same (fun _ h => nomatch h)) (fun _ h => nomatch h) na ⟨_, u, rfl, by show 1 ≤ 1; decide, by rfl⟩
      refine ⟨_, (w2.z _ (List.mem_cons_self ..)).1, small1000 (by rw [List.length_map]; omega), as ++ [a'], n' + 1, by simp, by omega, ?_⟩
      have w3 := (w2.set (ys := as.map V.ref ++ [.ref a'])).perm (rows' := as ++ [a']) mem_snoc
      rw [List.map_append]
      exact w3
    clear L hp7
    obtain ⟨as, n', hl3, hn', L⟩ := h
    have hp3 := (L.z _ (List.mem_cons_self ..)).1
    have hl3' : (as.map V.ref).length = 13 := by rw [List.length_map, hl3]
    refine ⟨_, rfl, p7, _, rfl, hp3, hl3', fun q1 es1 H6 nq1 s6 L6 M6 => ⟨_, rfl, p7, _, rfl, s6 _ _ hp3, hl3', fun q2 es2 H7 nq2 s7 L7 M7 => ⟨(by show 2 ≤ sizeLine; decide), fun pr3 hpr => ?_⟩⟩⟩
    have sp := same_upd (o := .lst [.ref q1, .ref q2]) hpr
    have L := ((L.add s6 nq1 L6).add s7 nq2 L7).put (xs := [.ref q1, .ref q2]) hpr
    have M6 := (M6.same s7).same sp
    have M7 := M7.same sp
    clear hp3 L6 L7
    have inP3 := (L.z (p7, as.map V.ref) (by simp)).1
    refine ⟨_, rfl, p7, rfl, ⟨_, SqL.of inP3⟩, for_list (K := K) (a := p7) (xs := as.map V.ref) (fun i σ H' => ∃ (v : Option V), σ = [some (.ref a), some (.ref st), some (.ref p), some (.ref p3), some (.ref pr3), v, some (.ref p6), some (.ref p7), none] ∧
        Lw (rowD (1 + i)) H' st l1 n' as [(pr3, [.ref q1, .ref q2]), (q2, es2.map V.ref), (q1, es1.map V.ref), (p7, as.map V.ref)] ∧ Made C H' es1 (as.map V.ref) ∧ Made C H' es2 (as.map V.ref))
      ⟨v6, rfl, L, M6, M7⟩ (fun i σ H' _ h => ?_) (fun i x σ H' hx h => ?_) (fun σ H' h => ?_)⟩
    · obtain ⟨v, rfl, L, _⟩ := h
      exact SqL.of (L.z (p7, as.map V.ref) (by simp)).1
    · obtain ⟨v, rfl, L, M, M'⟩ := h
      have hi : i < 13 := by
        have := (List.getElem?_eq_some_iff.mp hx).1
        omega
      obtain ⟨b, hb, rfl⟩ := at_ref hx
      obtain ⟨_, _, o, eb, kvs, j, rfl, hk, hv⟩ := L.r b hb
      refine ⟨_, rfl, b, _, rfl, (hv ▸ DGet.k (k := Sum.inr "a") eb), (by show 1 ≤ sizeLine; decide), fun l hl => ?_⟩
      have sl := same_upd (o := .lst [.int j]) hl
      have eb' := sl _ _ eb
      refine ⟨_, rfl, b, _, rfl, DPut.k (k := Sum.inr "b") eb' (small1000 (by omega)), _, rfl, ?_, ?_, ?_⟩
      · refine (L.same sl).row hb (rowD.mono (by omega)) ⟨_, j, rfl, ?_, ?_⟩
        · have := length_putK kvs (Sum.inr "b") (.ref l)
          omega
        · rw [put_val _ _ (by decide)]
          exact hv
      · exact (M.same sl).row eb' (fun _ h => nomatch h)
      · exact (M'.same sl).row eb' (fun _ h => nomatch h)
    clear L M6 M7 inP3 hpr nq1 nq2 s6 s7 sp
    obtain ⟨v7, rfl, L, M, M'⟩ := h
    have kdL : ∀ {G : Hp}, Same H' G → ∀ v ∈ as.map V.ref, Kd G v := fun {G} s v hv => by
      obtain ⟨b, hb, rfl⟩ := ts_of hv
      obtain ⟨_, _, o, eb, kvs, j, rfl, _⟩ := L.r b hb
      exact .dict (s _ _ eb)
    refine ⟨_, rfl, pr3, _, 0, .ref q1, rfl, rfl, SqL.of (L.z (pr3, [.ref q1, .ref q2]) (by simp)).1, atI_nat (j := 0) rfl, _, rfl, q1, p7, es1, _, rfl, (L.z (q1, es1.map V.ref) (by simp)).1, (L.z (p7, as.map V.ref) (by simp)).1, M, kdL (Same.refl _), fun H8 s8 => ⟨true, rfl, iteT ?_⟩⟩
    exact ⟨_, rfl, pr3, _, 1, .ref q2, rfl, rfl, SqL.of (s8 _ _ (L.z (pr3, [.ref q1, .ref q2]) (by simp)).1), atI_nat (j := 1) rfl, _, rfl, q2, p7, es2, _, rfl, s8 _ _ (L.z (q2, es2.map V.ref) (by simp)).1, s8 _ _ (L.z (p7, as.map V.ref) (by simp)).1, M'.same s8, kdL s8, fun H9 s9 => k H9⟩
end
end TP
set_option maxHeartbeats 4000000
namespace TP
open PySem PySem.Spec PyProof.Rows L2 EX
def apB (K : PySem.W.Frag) (cs : List Addr) (u : Addr) : Bool := (List.range 15).all fun i => PySem.W.kitOne K (.ref (cs.getD i 0)) (.ref u) == some true && PySem.W.kitOne K (.ref (cs.getD i 0)) (.type "ValueError") == some true &&
  (List.range 15).all fun j => PySem.W.kitOne K (.ref (cs.getD i 0)) (.ref (cs.getD j 0)) == some (decide (j = i))
theorem xk_of {P : Program} {w : World} {K : PySem.W.Frag} {mg : Str → Option Value} {base : Heap} {x f q : Str} {C fI : Addr} {fd : FuncData} {st : Stmt} (X : XI K mg x f C fI) (F : Fun K "__init__" q st fI fd) (ok : FnOk P w K mg base CX0 1 fI fd ["self", f] (spInit K f))
    (h : ∀ (kV doc pm : Value) (an : Option Addr) (cdv ct a b : Value), bindArgs (PySem.W.fnOf "__init__" q (defArgs st) (defBody st) (defScope st) .none kV doc pm an cdv ct) ⟨[a, b], []⟩ = pure [(("self" : Str), a), (f, b)])
    (h2 : ∀ (kV doc pm : Value) (an : Option Addr) (cdv ct a b : Value), bindArgs (PySem.W.fnOf "__init__" q (defArgs st) (defBody st) (defScope st) .none kV doc pm an cdv ct) ⟨[a], [(f, b)]⟩ = pure [(("self" : Str), a), (f, b)]) : XK1 P w K mg base x f C fI fd := by
  refine ⟨X, ok, F.binds (ps := ["self", f]) fun kV doc pm an cdv ct us hl => ?_, ?_⟩
  · match us, hl with
    | [a, b], _ => exact h kV doc pm an cdv ct a b
  · obtain ⟨oc, od, kV, doc, pm, an, cdv, ct, osl, rfl, _, _⟩ := F.ex
    refine ⟨fun s us ws _ hl => ?_, fun {vs us zs ws} r r' => ?_⟩
    · match us, ws, hl with
      | [a], [b], _ => exact .of_eq (h2 kV doc pm an cdv ct a b)
      | [], _, h => cases h
      | [_], [], h => cases h
      | [_], _ :: _ :: _, h => cases h
      | _ :: _ :: _, _, h => cases h
    · match vs, us, zs, ws, r, r' with
      | [_], [_], [_], [_], .cons a .nil, .cons b .nil => exact .cons a (.cons b .nil)
      | [], [], _, _, .nil, _ => exact .nil
      | [_], [_], [], [], .cons _ .nil, .nil => exact .nil
      | [_], [_], _ :: _ :: _, _ :: _ :: _, .cons _ .nil, .cons _ (.cons _ _) => exact .nil
      | _ :: _ :: _, _ :: _ :: _, _, _, .cons _ (.cons _ _), _ => exact .nil
theorem ox_of {K : PySem.W.Frag} {C : Addr} {nm q N bs bm sn sub ab col dd k0 k1 k2 k3 k5} (l : K.lookup C = some (excClassObj nm q C N bs bm true sn sub ab col dd k0 k1 k2 k3 k5 "ValueError.__new__")) (r : PySem.HandSPX.refsVE bm = true) :
    ∃ nm q N bs bm sn sub ab col dd k0 k1 k2 k3 k5, K.lookup C = some (excClassObj nm q C N bs bm true sn sub ab col dd k0 k1 k2 k3 k5 "ValueError.__new__") ∧ PySem.HandSPX.refsVE bm = true := ⟨_, _, _, _, _, _, _, _, _, _, _, _, _, _, _, l, r⟩
theorem fn_of {K : PySem.W.Frag} {x qual : Str} {st : Stmt} {f : Addr} {oc : Value} {od an : Option Addr} {osl : Array (Option Value)} {kV doc pm cdv ct : Value} (l : K.lookup f = some ⟨oc, od, .func (PySem.W.fnOf x qual (defArgs st) (defBody st) (defScope st) .none kV doc pm an cdv ct), osl⟩)
    (c : PySem.W.codeIn K cdv qual = true) (k : PySem.W.keepIn K (.ref f) = true) : ∃ fd, Fun K x qual st f fd := ⟨_, fun_mk l c k⟩
theorem get15 {c0 c1 c2 c3 c4 c5 c6 c7 c8 c9 c10 c11 c12 c13 c14 c15 : Addr} : ∀ i, i < 15 → ([c0, c1, c2, c3, c4, c5, c6, c7, c8, c9, c10, c11, c12, c13, c14] : List Addr).getD i 0 = ([c0, c1, c2, c3, c4, c5, c6, c7, c8, c9, c10, c11, c12, c13, c14, c15] : List Addr).getD i 0
  | 0, _ => rfl
  | 1, _ => rfl
  | 2, _ => rfl
  | 3, _ => rfl
  | 4, _ => rfl
  | 5, _ => rfl
  | 6, _ => rfl
  | 7, _ => rfl
  | 8, _ => rfl
  | 9, _ => rfl
  | 10, _ => rfl
  | 11, _ => rfl
  | 12, _ => rfl
  | 13, _ => rfl
  | 14, _ => rfl
  | n + 15, h => by omega
theorem all_mk {l : PySem.W.OpenLaw} {w : World} {K : PySem.W.Frag} {h : Heap} {mg : Str → Option Value} {fa fS fD fI fT fA fN fQ fK fL c0 c1 c2 c3 c4 c5 c6 c7 c8 c9 c10 c11 c12 c13 c14 c15 i0 i1 i2 i3 i4 i5 i6 i7 i8 i9 i10 i11 i12 : Addr} (X : K.In h) (G : h.Ns mainGlobals mg) (hfa : mg "law" = some (.ref fa))
    (g0 : PySem.W.nsIn K mainGlobals "BadName" = some (some (.ref c0))) (o0 : ∃ nm q N bs bm sn sub ab col dd k0 k1 k2 k3 k5, K.lookup c0 = some (excClassObj nm q c0 N bs bm true sn sub ab col dd k0 k1 k2 k3 k5 "ValueError.__new__") ∧ PySem.HandSPX.refsVE bm = true)
    (j0 : PySem.W.findIn K (.ref c0) "__init__" = some (some (.ref i0))) (b0 : ixB K c0 i0 "name" = true) (F0 : ∃ fd, Fun K "__init__" "BadName.__init__" (initS 2) i0 fd)
    (g1 : PySem.W.nsIn K mainGlobals "DuplicateName" = some (some (.ref c1))) (o1 : ∃ nm q N bs bm sn sub ab col dd k0 k1 k2 k3 k5, K.lookup c1 = some (excClassObj nm q c1 N bs bm true sn sub ab col dd k0 k1 k2 k3 k5 "ValueError.__new__") ∧ PySem.HandSPX.refsVE bm = true)
    (j1 : PySem.W.findIn K (.ref c1) "__init__" = some (some (.ref i1))) (b1 : ixB K c1 i1 "name" = true) (F1 : ∃ fd, Fun K "__init__" "DuplicateName.__init__" (initS 3) i1 fd)
    (g2 : PySem.W.nsIn K mainGlobals "UnknownName" = some (some (.ref c2))) (o2 : ∃ nm q N bs bm sn sub ab col dd k0 k1 k2 k3 k5, K.lookup c2 = some (excClassObj nm q c2 N bs bm true sn sub ab col dd k0 k1 k2 k3 k5 "ValueError.__new__") ∧ PySem.HandSPX.refsVE bm = true)
    (j2 : PySem.W.findIn K (.ref c2) "__init__" = some (some (.ref i2))) (b2 : ixB K c2 i2 "name" = true) (F2 : ∃ fd, Fun K "__init__" "UnknownName.__init__" (initS 4) i2 fd)
    (g3 : PySem.W.nsIn K mainGlobals "BadCount" = some (some (.ref c3))) (o3 : ∃ nm q N bs bm sn sub ab col dd k0 k1 k2 k3 k5, K.lookup c3 = some (excClassObj nm q c3 N bs bm true sn sub ab col dd k0 k1 k2 k3 k5 "ValueError.__new__") ∧ PySem.HandSPX.refsVE bm = true)
    (j3 : PySem.W.findIn K (.ref c3) "__init__" = some (some (.ref i3))) (b3 : ixB K c3 i3 "count" = true) (F3 : ∃ fd, Fun K "__init__" "BadCount.__init__" (initS 5) i3 fd)
    (g4 : PySem.W.nsIn K mainGlobals "BadText" = some (some (.ref c4))) (o4 : ∃ nm q N bs bm sn sub ab col dd k0 k1 k2 k3 k5, K.lookup c4 = some (excClassObj nm q c4 N bs bm true sn sub ab col dd k0 k1 k2 k3 k5 "ValueError.__new__") ∧ PySem.HandSPX.refsVE bm = true)
    (j4 : PySem.W.findIn K (.ref c4) "__init__" = some (some (.ref i4))) (b4 : ixB K c4 i4 "text" = true) (F4 : ∃ fd, Fun K "__init__" "BadText.__init__" (initS 6) i4 fd)
    (g5 : PySem.W.nsIn K mainGlobals "BadSet" = some (some (.ref c5))) (o5 : ∃ nm q N bs bm sn sub ab col dd k0 k1 k2 k3 k5, K.lookup c5 = some (excClassObj nm q c5 N bs bm true sn sub ab col dd k0 k1 k2 k3 k5 "ValueError.__new__") ∧ PySem.HandSPX.refsVE bm = true)
    (j5 : PySem.W.findIn K (.ref c5) "__init__" = some (some (.ref i5))) (b5 : ixB K c5 i5 "value" = true) (F5 : ∃ fd, Fun K "__init__" "BadSet.__init__" (initS 7) i5 fd)
    (g6 : PySem.W.nsIn K mainGlobals "BadOrder" = some (some (.ref c6))) (o6 : ∃ nm q N bs bm sn sub ab col dd k0 k1 k2 k3 k5, K.lookup c6 = some (excClassObj nm q c6 N bs bm true sn sub ab col dd k0 k1 k2 k3 k5 "ValueError.__new__") ∧ PySem.HandSPX.refsVE bm = true)
    (j6 : PySem.W.findIn K (.ref c6) "__init__" = some (some (.ref i6))) (b6 : ixB K c6 i6 "value" = true) (F6 : ∃ fd, Fun K "__init__" "BadOrder.__init__" (initS 8) i6 fd)
    (g7 : PySem.W.nsIn K mainGlobals "NotAllowed" = some (some (.ref c7))) (o7 : ∃ nm q N bs bm sn sub ab col dd k0 k1 k2 k3 k5, K.lookup c7 = some (excClassObj nm q c7 N bs bm true sn sub ab col dd k0 k1 k2 k3 k5 "ValueError.__new__") ∧ PySem.HandSPX.refsVE bm = true)
    (j7 : PySem.W.findIn K (.ref c7) "__init__" = some (some (.ref i7))) (b7 : ixB K c7 i7 "value" = true) (F7 : ∃ fd, Fun K "__init__" "NotAllowed.__init__" (initS 9) i7 fd)
    (g8 : PySem.W.nsIn K mainGlobals "NoOrder" = some (some (.ref c8))) (o8 : ∃ nm q N bs bm sn sub ab col dd k0 k1 k2 k3 k5, K.lookup c8 = some (excClassObj nm q c8 N bs bm true sn sub ab col dd k0 k1 k2 k3 k5 "ValueError.__new__") ∧ PySem.HandSPX.refsVE bm = true)
    (j8 : PySem.W.findIn K (.ref c8) "__init__" = some (some (.ref i8))) (b8 : ixB K c8 i8 "value" = true) (F8 : ∃ fd, Fun K "__init__" "NoOrder.__init__" (initS 10) i8 fd)
    (g9 : PySem.W.nsIn K mainGlobals "BadNumber" = some (some (.ref c9))) (o9 : ∃ nm q N bs bm sn sub ab col dd k0 k1 k2 k3 k5, K.lookup c9 = some (excClassObj nm q c9 N bs bm true sn sub ab col dd k0 k1 k2 k3 k5 "ValueError.__new__") ∧ PySem.HandSPX.refsVE bm = true)
    (j9 : PySem.W.findIn K (.ref c9) "__init__" = some (some (.ref i9))) (b9 : ixB K c9 i9 "value" = true) (F9 : ∃ fd, Fun K "__init__" "BadNumber.__init__" (initS 11) i9 fd)
    (g10 : PySem.W.nsIn K mainGlobals "BadSteps" = some (some (.ref c10))) (o10 : ∃ nm q N bs bm sn sub ab col dd k0 k1 k2 k3 k5, K.lookup c10 = some (excClassObj nm q c10 N bs bm true sn sub ab col dd k0 k1 k2 k3 k5 "ValueError.__new__") ∧ PySem.HandSPX.refsVE bm = true)
    (j10 : PySem.W.findIn K (.ref c10) "__init__" = some (some (.ref i10))) (b10 : ixB K c10 i10 "value" = true) (F10 : ∃ fd, Fun K "__init__" "BadSteps.__init__" (initS 12) i10 fd)
    (g11 : PySem.W.nsIn K mainGlobals "NotTame" = some (some (.ref c11))) (o11 : ∃ nm q N bs bm sn sub ab col dd k0 k1 k2 k3 k5, K.lookup c11 = some (excClassObj nm q c11 N bs bm true sn sub ab col dd k0 k1 k2 k3 k5 "ValueError.__new__") ∧ PySem.HandSPX.refsVE bm = true)
    (j11 : PySem.W.findIn K (.ref c11) "__init__" = some (some (.ref i11))) (b11 : ixB K c11 i11 "value" = true) (F11 : ∃ fd, Fun K "__init__" "NotTame.__init__" (initS 14) i11 fd)
    (g12 : PySem.W.nsIn K mainGlobals "UnlikeJobs" = some (some (.ref c12))) (o12 : ∃ nm q N bs bm sn sub ab col dd k0 k1 k2 k3 k5, K.lookup c12 = some (excClassObj nm q c12 N bs bm true sn sub ab col dd k0 k1 k2 k3 k5 "ValueError.__new__") ∧ PySem.HandSPX.refsVE bm = true)
    (j12 : PySem.W.findIn K (.ref c12) "__init__" = some (some (.ref i12))) (b12 : ixB K c12 i12 "names" = true) (F12 : ∃ fd, Fun K "__init__" "UnlikeJobs.__init__" (initS 15) i12 fd)
    (g13 : PySem.W.nsIn K mainGlobals "IsTame" = some (some (.ref c13))) (q13 : PySem.W.excIn K c13 [.type "ValueError", .type "Exception", .type "BaseException", .type "object"] "ValueError.__new__" = true) (b13 : exB K c13 = true)
    (g14 : PySem.W.nsIn K mainGlobals "NothingToUndo" = some (some (.ref c14))) (q14 : PySem.W.excIn K c14 [.type "ValueError", .type "Exception", .type "BaseException", .type "object"] "ValueError.__new__" = true) (b14 : exB K c14 = true)
    (g15 : PySem.W.nsIn K mainGlobals "TailError" = some (some (.ref c15))) (ap : apB K [c0, c1, c2, c3, c4, c5, c6, c7, c8, c9, c10, c11, c12, c13, c14] c15 = true)
    (aS : PySem.W.nsIn K mainGlobals "_law_start" = some (some (.ref fS))) (HS : ∃ fd, Fun K "_law_start" "_law_start" sStart fS fd)
    (aD : PySem.W.nsIn K mainGlobals "_law_draw" = some (some (.ref fD))) (HD : ∃ fd, Fun K "_law_draw" "_law_draw" sDraw fD fd)
    (aI : PySem.W.nsIn K mainGlobals "_law_signs" = some (some (.ref fI))) (HI : ∃ fd, Fun K "_law_signs" "_law_signs" sSigns fI fd)
    (aT : PySem.W.nsIn K mainGlobals "_law_thing" = some (some (.ref fT))) (HT : ∃ fd, Fun K "_law_thing" "_law_thing" sThing fT fd)
    (aA : PySem.W.nsIn K mainGlobals "_law_all" = some (some (.ref fA))) (HA : ∃ fd, Fun K "_law_all" "_law_all" sAll fA fd)
    (aN : PySem.W.nsIn K mainGlobals "_law_named" = some (some (.ref fN))) (HN : ∃ fd, Fun K "_law_named" "_law_named" sNamed fN fd)
    (aQ : PySem.W.nsIn K mainGlobals "_law_kinds" = some (some (.ref fQ))) (HQ : ∃ fd, Fun K "_law_kinds" "_law_kinds" sKinds fQ fd)
    (aK : PySem.W.nsIn K mainGlobals "_law_keeps" = some (some (.ref fK))) (HK : ∃ fd, Fun K "_law_keeps" "_law_keeps" sKeeps fK fd)
    (aL : PySem.W.nsIn K mainGlobals "law" = some (some (.ref fL))) (HL : ∃ fd, Fun K "law" "law" sLaw fL fd)
    (z0 : PySem.W.nsIn K mainGlobals "int" = some none) (z1 : PySem.W.nsIn K mainGlobals "len" = some none) (z2 : PySem.W.nsIn K mainGlobals "abs" = some none) (z3 : PySem.W.nsIn K mainGlobals "list" = some none) (z4 : PySem.W.nsIn K mainGlobals "range" = some none) (z5 : PySem.W.nsIn K mainGlobals "isinstance" = some none) (z6 : PySem.W.nsIn K mainGlobals "bool" = some none) (z7 : PySem.W.nsIn K mainGlobals "ValueError" = some none) :
    ∃ fd : FuncData, (∀ (s : Shared) (v : Value), BindsTo s fd ⟨[v], []⟩ [("_law_script", v)]) ∧ ∀ base : Heap, K.In base → base.Ns mainGlobals mg → FnOk l.prog w K mg base CX0 4 fa fd ["_law_script"] (spLaw K) := by
  have e := hfa.symm.trans (PySem.W.mg_of X G aL)
  cases e
  obtain ⟨d0, F0⟩ := F0
  obtain ⟨d1, F1⟩ := F1
  obtain ⟨d2, F2⟩ := F2
  obtain ⟨d3, F3⟩ := F3
  obtain ⟨d4, F4⟩ := F4
  obtain ⟨d5, F5⟩ := F5
  obtain ⟨d6, F6⟩ := F6
  obtain ⟨d7, F7⟩ := F7
  obtain ⟨d8, F8⟩ := F8
  obtain ⟨d9, F9⟩ := F9
  obtain ⟨d10, F10⟩ := F10
  obtain ⟨d11, F11⟩ := F11
  obtain ⟨d12, F12⟩ := F12
  obtain ⟨dS, HS⟩ := HS
  obtain ⟨dD, HD⟩ := HD
  obtain ⟨dI, HI⟩ := HI
  obtain ⟨dT, HT⟩ := HT
  obtain ⟨dA, HA⟩ := HA
  obtain ⟨dN, HN⟩ := HN
  obtain ⟨dQ, HQ⟩ := HQ
  obtain ⟨dK, HK⟩ := HK
  obtain ⟨dL, HL⟩ := HL
  have bS := HS.binds (ps := ["_law_script"]) fun _ _ _ _ _ _ us hl => match us, hl with | [_], _ => rfl
  have bD := HD.binds (ps := ["_law_state", "_law_size"]) fun _ _ _ _ _ _ us hl => match us, hl with | [_, _], _ => rfl
  have bI := HI.binds (ps := []) fun _ _ _ _ _ _ us hl => match us, hl with | [], _ => rfl
  have bT := HT.binds (ps := ["_law_state"]) fun _ _ _ _ _ _ us hl => match us, hl with | [_], _ => rfl
  have bA := HA.binds (ps := ["_law_t"]) fun _ _ _ _ _ _ us hl => match us, hl with | [_], _ => rfl
  have bN := HN.binds (ps := ["_law_t"]) fun _ _ _ _ _ _ us hl => match us, hl with | [_], _ => rfl
  have bQ := HQ.binds (ps := ["_law_e"]) fun _ _ _ _ _ _ us hl => match us, hl with | [_], _ => rfl
  have bK := HK.binds (ps := ["_law_made", "_law_t"]) fun _ _ _ _ _ _ us hl => match us, hl with | [_, _], _ => rfl
  refine ⟨dL, fun s v => ?_, fun base _ _ => ?_⟩
  · obtain ⟨oc, od, kV, doc, pm, an, cdv, ct, osl, rfl, _, _⟩ := HL.ex
    exact .of_eq rfl
  · have ap' : ∀ i, i < 15 → (PySem.W.kitOne K (.ref (([c0, c1, c2, c3, c4, c5, c6, c7, c8, c9, c10, c11, c12, c13, c14] : List Addr).getD i 0)) (.ref c15) = some true ∧ PySem.W.kitOne K (.ref (([c0, c1, c2, c3, c4, c5, c6, c7, c8, c9, c10, c11, c12, c13, c14] : List Addr).getD i 0)) (.type "ValueError") = some true) ∧ ∀ j, j < 15 → PySem.W.kitOne K (.ref (([c0, c1, c2, c3, c4, c5, c6, c7, c8, c9, c10, c11, c12, c13, c14] : List Addr).getD i 0)) (.ref (([c0, c1, c2, c3, c4, c5, c6, c7, c8, c9, c10, c11, c12, c13, c14] : List Addr).getD j 0)) = some (decide (j = i)) := fun i hi => by
      have q := List.all_eq_true.mp ap i (List.mem_range.mpr hi)
      simp only [Bool.and_eq_true, beq_iff_eq] at q
      refine ⟨q.1, fun j hj => ?_⟩
      have q2 := List.all_eq_true.mp q.2 j (List.mem_range.mpr hj)
      exact beq_iff_eq.mp q2
    have T : Errs l.prog w K mg base (fun i => ([c0, c1, c2, c3, c4, c5, c6, c7, c8, c9, c10, c11, c12, c13, c14, c15] : List Addr).getD i 0) (fun i => ([i0, i1, i2, i3, i4, i5, i6, i7, i8, i9, i10, i11, i12] : List Addr).getD i 0) (fun i => ([d0, d1, d2, d3, d4, d5, d6, d7, d8, d9, d10, d11, d12] : List FuncData).getD i d0) := {
      c0 := xk_of (xi_of X G g0 o0 b0) F0 (ok_i0 F0) (fun _ _ _ _ _ _ _ _ => rfl) (fun _ _ _ _ _ _ _ _ => rfl)
      c1 := xk_of (xi_of X G g1 o1 b1) F1 (ok_i1 F1) (fun _ _ _ _ _ _ _ _ => rfl) (fun _ _ _ _ _ _ _ _ => rfl)
      c2 := xk_of (xi_of X G g2 o2 b2) F2 (ok_i2 F2) (fun _ _ _ _ _ _ _ _ => rfl) (fun _ _ _ _ _ _ _ _ => rfl)
      c3 := xk_of (xi_of X G g3 o3 b3) F3 (ok_i3 F3) (fun _ _ _ _ _ _ _ _ => rfl) (fun _ _ _ _ _ _ _ _ => rfl)
      c4 := xk_of (xi_of X G g4 o4 b4) F4 (ok_i4 F4) (fun _ _ _ _ _ _ _ _ => rfl) (fun _ _ _ _ _ _ _ _ => rfl)
      c5 := xk_of (xi_of X G g5 o5 b5) F5 (ok_i5 F5) (fun _ _ _ _ _ _ _ _ => rfl) (fun _ _ _ _ _ _ _ _ => rfl)
      c6 := xk_of (xi_of X G g6 o6 b6) F6 (ok_i6 F6) (fun _ _ _ _ _ _ _ _ => rfl) (fun _ _ _ _ _ _ _ _ => rfl)
      c7 := xk_of (xi_of X G g7 o7 b7) F7 (ok_i7 F7) (fun _ _ _ _ _ _ _ _ => rfl) (fun _ _ _ _ _ _ _ _ => rfl)
      c8 := xk_of (xi_of X G g8 o8 b8) F8 (ok_i8 F8) (fun _ _ _ _ _ _ _ _ => rfl) (fun _ _ _ _ _ _ _ _ => rfl)
      c9 := xk_of (xi_of X G g9 o9 b9) F9 (ok_i9 F9) (fun _ _ _ _ _ _ _ _ => rfl) (fun _ _ _ _ _ _ _ _ => rfl)
      c10 := xk_of (xi_of X G g10 o10 b10) F10 (ok_i10 F10) (fun _ _ _ _ _ _ _ _ => rfl) (fun _ _ _ _ _ _ _ _ => rfl)
      c11 := xk_of (xi_of X G g11 o11 b11) F11 (ok_i11 F11) (fun _ _ _ _ _ _ _ _ => rfl) (fun _ _ _ _ _ _ _ _ => rfl)
      c12 := xk_of (xi_of X G g12 o12 b12) F12 (ok_i12 F12) (fun _ _ _ _ _ _ _ _ => rfl) (fun _ _ _ _ _ _ _ _ => rfl)
      c13 := ⟨PySem.W.mg_of X G g13, q13, (exB_ok b13).1, (exB_ok b13).2.2⟩
      c14 := ⟨PySem.W.mg_of X G g14, q14, (exB_ok b14).1, (exB_ok b14).2.2⟩
      g15 := PySem.W.mg_of X G g15
      mi := PySem.W.mg_none_of X G z5
      mr := PySem.W.mg_none_of X G z4
      mb := PySem.W.mg_none_of X G z6
      mv := PySem.W.mg_none_of X G z7
      apart := fun i j hi hj => by
        have q := (ap' i hi).2 j hj
        rwa [get15 i hi, get15 j hj] at q
      tail := fun i hi => by
        have q := (ap' i hi).1.1
        rwa [get15 i hi] at q
      ve := fun i hi => by
        have q := (ap' i hi).1.2
        rwa [get15 i hi] at q }
    exact ok_law T HL HS bS (PySem.W.mg_of X G aS) HD bD (PySem.W.mg_of X G aD) HI bI (PySem.W.mg_of X G aI) HT bT (PySem.W.mg_of X G aT) HA bA (PySem.W.mg_of X G aA) HN bN (PySem.W.mg_of X G aN) HQ bQ (PySem.W.mg_of X G aQ) HK bK (PySem.W.mg_of X G aK) (PySem.W.mg_none_of X G z0) (PySem.W.mg_none_of X G z1) (PySem.W.mg_none_of X G z2) (PySem.W.mg_none_of X G z3)
end TP
open PySem PySem.W PyProof.Rows
set_option maxHeartbeats 0 in
theorem PySem.Challenge.cw_tailpick_k02_errors_holds : PySem.Challenge.rw_tailpick_k02_errors.Holds := by
  w_on; o_law; k_head; (case hw => w_witness2)
  k_fill
  refine L2.walk_of (l := PySem.Challenge.rw_tailpick_k02_errors) (n := 63) (k := 4) (x := "_law_script") (CX := fun _ => L2.CX0) (sp := fun w => TP.spLaw _) rfl (by decide) rfl ⟨rfl, by decide, by decide⟩ (fun w h Y => PySem.W.kIn_of Y) ?F (fun _ _ a ns hl _ hS => ⟨a, ns, rfl, hS, hl, fun _ => rfl⟩) (fun _ _ _ _ _ h => h)
  case F =>
    intro w mg fa h KX G hmg
    refine' TP.all_mk KX G hmg ?Yg0 ?Yo0 ?Yj0 ?Yb0 ?YF0 ?Yg1 ?Yo1 ?Yj1 ?Yb1 ?YF1 ?Yg2 ?Yo2 ?Yj2 ?Yb2 ?YF2 ?Yg3 ?Yo3 ?Yj3 ?Yb3 ?YF3 ?Yg4 ?Yo4 ?Yj4 ?Yb4 ?YF4 ?Yg5 ?Yo5 ?Yj5 ?Yb5 ?YF5 ?Yg6 ?Yo6 ?Yj6 ?Yb6 ?YF6 ?Yg7 ?Yo7 ?Yj7 ?Yb7 ?YF7 ?Yg8 ?Yo8 ?Yj8 ?Yb8 ?YF8 ?Yg9 ?Yo9 ?Yj9 ?Yb9 ?YF9 ?Yg10 ?Yo10 ?Yj10 ?Yb10 ?YF10 ?Yg11 ?Yo11 ?Yj11 ?Yb11 ?YF11 ?Yg12 ?Yo12 ?Yj12 ?Yb12 ?YF12 ?Yg13 ?Yq13 ?Yb13 ?Yg14 ?Yq14 ?Yb14 ?Yg15 ?Yap ?YaS ?YHS ?YaD ?YHD ?YaI ?YHI ?YaT ?YHT ?YaA ?YHA ?YaN ?YHN ?YaQ ?YHQ ?YaK ?YHK ?YaL ?YHL ?Yz0 ?Yz1 ?Yz2 ?Yz3 ?Yz4 ?Yz5 ?Yz6 ?Yz7
    (case Yg0 => k_is); (case Yj0 => k_is); (case Yo0 => refine' TP.ox_of ?l ?r; (case l => k_is); (case r => kernel_rfl)); (case Yb0 => kernel_rfl); (case YF0 => refine' TP.fn_of ?l ?c ?k; (case l => k_is); (case c => k_is); (case k => k_is))
    (case Yg1 => k_is); (case Yj1 => k_is); (case Yo1 => refine' TP.ox_of ?l ?r; (case l => k_is); (case r => kernel_rfl)); (case Yb1 => kernel_rfl); (case YF1 => refine' TP.fn_of ?l ?c ?k; (case l => k_is); (case c => k_is); (case k => k_is))
    (case Yg2 => k_is); (case Yj2 => k_is); (case Yo2 => refine' TP.ox_of ?l ?r; (case l => k_is); (case r => kernel_rfl)); (case Yb2 => kernel_rfl); (case YF2 => refine' TP.fn_of ?l ?c ?k; (case l => k_is); (case c => k_is); (case k => k_is))
    (case Yg3 => k_is); (case Yj3 => k_is); (case Yo3 => refine' TP.ox_of ?l ?r; (case l => k_is); (case r => kernel_rfl)); (case Yb3 => kernel_rfl); (case YF3 => refine' TP.fn_of ?l ?c ?k; (case l => k_is); (case c => k_is); (case k => k_is))
    (case Yg4 => k_is); (case Yj4 => k_is); (case Yo4 => refine' TP.ox_of ?l ?r; (case l => k_is); (case r => kernel_rfl)); (case Yb4 => kernel_rfl); (case YF4 => refine' TP.fn_of ?l ?c ?k; (case l => k_is); (case c => k_is); (case k => k_is))
    (case Yg5 => k_is); (case Yj5 => k_is); (case Yo5 => refine' TP.ox_of ?l ?r; (case l => k_is); (case r => kernel_rfl)); (case Yb5 => kernel_rfl); (case YF5 => refine' TP.fn_of ?l ?c ?k; (case l => k_is); (case c => k_is); (case k => k_is))
    (case Yg6 => k_is); (case Yj6 => k_is); (case Yo6 => refine' TP.ox_of ?l ?r; (case l => k_is); (case r => kernel_rfl)); (case Yb6 => kernel_rfl); (case YF6 => refine' TP.fn_of ?l ?c ?k; (case l => k_is); (case c => k_is); (case k => k_is))
    (case Yg7 => k_is); (case Yj7 => k_is); (case Yo7 => refine' TP.ox_of ?l ?r; (case l => k_is); (case r => kernel_rfl)); (case Yb7 => kernel_rfl); (case YF7 => refine' TP.fn_of ?l ?c ?k; (case l => k_is); (case c => k_is); (case k => k_is))
    (case Yg8 => k_is); (case Yj8 => k_is); (case Yo8 => refine' TP.ox_of ?l ?r; (case l => k_is); (case r => kernel_rfl)); (case Yb8 => kernel_rfl); (case YF8 => refine' TP.fn_of ?l ?c ?k; (case l => k_is); (case c => k_is); (case k => k_is))
    (case Yg9 => k_is); (case Yj9 => k_is); (case Yo9 => refine' TP.ox_of ?l ?r; (case l => k_is); (case r => kernel_rfl)); (case Yb9 => kernel_rfl); (case YF9 => refine' TP.fn_of ?l ?c ?k; (case l => k_is); (case c => k_is); (case k => k_is))
    (case Yg10 => k_is); (case Yj10 => k_is); (case Yo10 => refine' TP.ox_of ?l ?r; (case l => k_is); (case r => kernel_rfl)); (case Yb10 => kernel_rfl); (case YF10 => refine' TP.fn_of ?l ?c ?k; (case l => k_is); (case c => k_is); (case k => k_is))
    (case Yg11 => k_is); (case Yj11 => k_is); (case Yo11 => refine' TP.ox_of ?l ?r; (case l => k_is); (case r => kernel_rfl)); (case Yb11 => kernel_rfl); (case YF11 => refine' TP.fn_of ?l ?c ?k; (case l => k_is); (case c => k_is); (case k => k_is))
    (case Yg12 => k_is); (case Yj12 => k_is); (case Yo12 => refine' TP.ox_of ?l ?r; (case l => k_is); (case r => kernel_rfl)); (case Yb12 => kernel_rfl); (case YF12 => refine' TP.fn_of ?l ?c ?k; (case l => k_is); (case c => k_is); (case k => k_is))
    (case Yg13 => k_is); (case Yq13 => k_exc); (case Yb13 => kernel_rfl); (case Yg14 => k_is); (case Yq14 => k_exc); (case Yb14 => kernel_rfl); (case Yg15 => k_is); (case Yap => kernel_rfl)
    (case YaS => k_is); (case YHS => refine' TP.fn_of ?l ?c ?k; (case l => k_is); (case c => k_is); (case k => k_is))
    (case YaD => k_is); (case YHD => refine' TP.fn_of ?l ?c ?k; (case l => k_is); (case c => k_is); (case k => k_is))
    (case YaI => k_is); (case YHI => refine' TP.fn_of ?l ?c ?k; (case l => k_is); (case c => k_is); (case k => k_is))
    (case YaT => k_is); (case YHT => refine' TP.fn_of ?l ?c ?k; (case l => k_is); (case c => k_is); (case k => k_is))
    (case YaA => k_is); (case YHA => refine' TP.fn_of ?l ?c ?k; (case l => k_is); (case c => k_is); (case k => k_is))
    (case YaN => k_is); (case YHN => refine' TP.fn_of ?l ?c ?k; (case l => k_is); (case c => k_is); (case k => k_is))
    (case YaQ => k_is); (case YHQ => refine' TP.fn_of ?l ?c ?k; (case l => k_is); (case c => k_is); (case k => k_is))
    (case YaK => k_is); (case YHK => refine' TP.fn_of ?l ?c ?k; (case l => k_is); (case c => k_is); (case k => k_is))
    (case YaL => k_is); (case YHL => refine' TP.fn_of ?l ?c ?k; (case l => k_is); (case c => k_is); (case k => k_is))
    (case Yz0 => k_is); (case Yz1 => k_is); (case Yz2 => k_is); (case Yz3 => k_is); (case Yz4 => k_is); (case Yz5 => k_is); (case Yz6 => k_is); (case Yz7 => k_is)
