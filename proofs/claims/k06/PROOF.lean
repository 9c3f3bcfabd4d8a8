import PyProof.Rows.All
import Wide.All
import OpenK.AllK
import Wide.FinOn
import HandS.ExcInit
import HandS.Defaults
import HandS.MakeKw
import HandS.ExcIs
import HandS.IsInst
import HandS.Evl
import HandS.ForMost
import HandS.StrMore
import HandS.Steps
import HandS.More
import PyProof.CollectStr
import HandS.Star
import HandS.HeadHook3
import HandS.Conv
import PyProof.MeetsSeq2
import PyProof.DictTable
import HandS.Codes
import HandS.Translate
import HandS.DictComp
import HandS.Dict
import HandS.Call
import HandS.ForExc
import HandS.TupAny
import HandS.Style
import HandS.MethStar
import HandS.Flow
import HandS.Iter
import HandS.Wide
import HandS.NoneIn
import HandS.Words
import PySem.Challenge.RW_deepstands_k06_guards_and_terms_by_hand
set_option Elab.async false
set_option linter.all false
set_option maxRecDepth 100000
set_option maxHeartbeats 4000000
namespace PySem
namespace XKw
open PySem.W PySem.Calls PyProof.Rows PySem.HandSPX
section
variable {M : Model} {A : Around} {E : Value → Shared → Prop} {h : Heap} {g : Array GenState} {d : Drawn} {t : Nat} {os : OsState}
variable {nm q : Str} {C N : Addr} {bs bm bmB : List Value} {hdct : Bool} {sn : List Str} {sub : List Value} {ab : Bool} {col : Option Bool} {dd : Option Addr} {k0 k1 k2 k3 k5 : Option Value} {B newId initId : String}
theorem check_new_kw (F : ExcBaseFacts B newId initId bmB) (hT : ∀ X : String, bm.contains (.type X) = bmB.contains (.type X)) {rest : List Value} {kw : List (Str × Value)} {Q : Unit → Shared → Prop}
    (hC : h.get? C = some (excClassObj nm q C N bs bm hdct sn sub ab col dd k0 k1 k2 k3 k5 newId)) (hq : Q () ⟨h, g, d, t, os⟩) : wpAny M A (checkBuiltinCall newId ⟨.ref C :: rest, kw⟩) Q E ⟨h, g, d, t, os⟩ := by
  have hcont : (Value.ref C :: bm).contains (.type B) = true := by rw [List.contains_cons, hT, F.hasB, Bool.or_true]
  have hstar := F.noStar
  simp only [checkBuiltinCall, F.newKind, F.newSplit, F.newRow]
  repeat (first | refine wpAny_loadPart_at hC ?_ | (refine wpAny_isSubtype_exc hC ?_; rw [hcont]) | refine wpAny_staticBase_exc hC ?_ | refine wpAny_madeBy_exc hC ?_ | simp only [bne_self_eq_false, Bool.false_eq_true, if_false] | wp_step)
  exact hq
end
section
variable {prog : Program} {w : World} {A : Around} {E : Value → Shared → Prop} {R : Result → Shared → Prop} {h : Heap} {g : Array GenState} {d : Drawn} {t : Nat} {os : OsState}
variable {nm q : Str} {C N : Addr} {bs bm bmB : List Value} {hdct : Bool} {sn : List Str} {sub : List Value} {ab : Bool} {col : Option Bool} {dd : Option Addr} {k0 k1 k2 k3 k5 : Option Value} {B newId initId : String}
theorem new_kw (F : ExcBaseFacts B newId initId bmB) (hT : ∀ X : String, bm.contains (.type X) = bmB.contains (.type X)) {rest : List Value} {kw : List (Str × Value)}
    (hC : h.get? C = some (excClassObj nm q C N bs bm hdct sn sub ab col dd k0 k1 k2 k3 k5 newId))
    (hq : R (.ok (.ret (.ref (h.objs.size + 1)))) ⟨(h.push { cls := .type "tuple", data := .seq rest.toArray }).push
      { cls := .ref C, data := .fields #[.ref h.objs.size, .none, .none, .none, .bool false, .none] }, g, d, t, os⟩) (hrest : rest.length ≤ sizeLine) :
    codeAny (model prog w) A (.builtin newId ⟨.ref C :: rest, kw⟩) R ⟨h, g, d, t, os⟩ := by
  have hends := F.ends
  have hcB : (Value.ref C :: bm).contains (.type B) = true := by rw [List.contains_cons, hT, F.hasB, Bool.or_true]
  have hcA : (Value.ref C :: bm).contains (.type "AttributeError") = false := by rw [List.contains_cons, hT, F.noAttr]; rfl
  have hcN : (Value.ref C :: bm).contains (.type "NameError") = false := by rw [List.contains_cons, hT, F.noName]; rfl
  refine codeAny_builtinAt F.entry ?_
  unfold Builtin.«BaseException.__new__»
  refine wpAt_bind ?_
  show wpAt _ _ _ (stack >>= _) _ _ _
  refine wpAt_bind (wpAt_stack fun p below => wpAt_of_wpAny ?_)
  wp_walk
  refine wpAt_of_wpAny ?_
  rw [F.owner]
  repeat (first | with_reducible refine wpAny_madeHere_exc F.canon hC ?_ | with_reducible refine wpAny_loadPart_at hC ?_ | (with_reducible refine wpAny_isSubtype_exc hC ?_; first | rw [hcB] | rw [hcA] | rw [hcN]) | wp_step)
  show R _ _
  rw [Heap.size_push]
  exact hq
theorem type_call_kw (F : ExcBaseFacts B newId initId bmB) (hT : ∀ X : String, bm.contains (.type X) = bmB.contains (.type X)) {rest : List Value} {kw : List (Str × Value)} {fI : Addr} {Q : Fin → Shared → Prop}
    (hC : h.get? C = some (excClassObj nm q C N bs bm hdct sn sub ab col dd k0 k1 k2 k3 k5 newId))
    (hi : W.Looks (model prog w) h (typeLookup (.ref C) "__init__") (some (.ref fI))) (hb : ∀ self, W.Looks (model prog w) h (bindSpecial (.ref fI) self) (.ref fI, [self])) (hrest : rest.length ≤ sizeLine)
    (hq : codeAny (model prog w) A (.call (.ref fI) ⟨.ref (h.objs.size + 1) :: rest, kw⟩)
      (fun r s' => match r with | .ok (.ret v) => v = .none ∧ Q (.done (.ret (.ref (h.objs.size + 1)))) s' | .ok _ => False | .error e => E e s')
      ⟨(h.push (W.kdv_tup rest)).push (excO C h.objs.size), g, d, t, os⟩) :
    wpAny (model prog w) A (Builtin.«type.__call__» ⟨.ref C :: rest, kw⟩) Q E ⟨h, g, d, t, os⟩ := by
  repeat (first | with_reducible refine wpAny_loadPart_at hC ?_ | with_reducible refine wpAny_madeBy_exc hC ?_ | wp_step)
  refine codeAny_call_builtin_code (Code.quiet_builtin _ F.quiet) (check_new_kw F hT hC ?_)
  refine new_kw F hT hC ?_ hrest
  show wpAny _ _ _ _ _ _
  have k : ∀ b o, h.get? b = some o → ((h.push (W.kdv_tup rest)).push (excO C h.objs.size)).get? b = some o := fun b o e => Heap.get?_push_of_some _ (Heap.get?_push_of_some _ e)
  have hC₁ := k _ _ hC
  have hget : ((h.push (W.kdv_tup rest)).push (excO C h.objs.size)).get? (h.objs.size + 1) = some (excO C h.objs.size) := by heap_get
  have hcC : (Value.ref C :: bm).contains (.ref C) = true := by simp
  have i1 := hi.keeps k
  have b1 := (hb (.ref (h.objs.size + 1))).keeps k
  unfold isInstance
  repeat (first | with_reducible refine wpAny_loadPart_at hget ?_ | (with_reducible refine wpAny_isSubtype_exc hC₁ ?_; rw [hcC]) | wp_step)
  show wpAny _ _ (typeLookup (.ref C) _) _ _ _
  refine i1.at ?_
  refine wpAny_holding (wpAny_bind (b1.at ?_))
  refine wpAny_bind (wpAny_call (codeAny_mono hq fun r s' z => ?_))
  rcases r with e | (v | _ | _ | _) <;> first | exact z | exact z.elim | skip
  obtain ⟨rfl, z⟩ := z
  first
    | exact wpAny_pure (wpAny_pure z)
    | (wp_walk; exact z)
theorem call_kw (F : ExcBaseFacts B newId initId bmB) (hT : ∀ X : String, bm.contains (.type X) = bmB.contains (.type X)) {rest : List Value} {kw : List (Str × Value)} {fI : Addr}
    (hC : h.get? C = some (excClassObj nm q C N bs bm hdct sn sub ab col dd k0 k1 k2 k3 k5 newId))
    (hi : W.Looks (model prog w) h (typeLookup (.ref C) "__init__") (some (.ref fI))) (hb : ∀ self, W.Looks (model prog w) h (bindSpecial (.ref fI) self) (.ref fI, [self])) (hrest : rest.length ≤ sizeLine)
    (hq : codeAny (model prog w) (A.under (.builtin "type.__call__" ⟨.ref C :: rest, kw⟩)) (.call (.ref fI) ⟨.ref (h.objs.size + 1) :: rest, kw⟩) (W.InitBack (h.objs.size + 1) R)
      ⟨(h.push (W.kdv_tup rest)).push (excO C h.objs.size), g, d, t, os⟩) :
    codeAny (model prog w) A (.call (.ref C) ⟨rest, kw⟩) R ⟨h, g, d, t, os⟩ := by
  have f1 := tc_lookup
  have f2 := tc_bind (.ref C)
  have hTy : (⟨h, g, d, t, os⟩ : Shared).TypeIs (.ref C) "type" := ⟨_, hC, rfl⟩
  refine codeAny_of_tree ?_
  show wpAny _ _ (callAny (.ref C) _) _ _ _
  repeat (any_goals (first | assumption | with_reducible refine wpAny_loadPart_at hC ?_ | wp_step))
  refine ⟨rfl, ?_⟩
  refine codeAny_call_builtin_at (Code.quiet_builtin _ (by decide +kernel)) entry_typeCall (wpAny_check_type_call_sub hC (type_call_kw F hT hC hi hb hrest ?_))
  refine codeAny_mono hq fun r s' z => ?_
  rcases r with e | (v | _ | _ | _) <;> exact z
end
end XKw
end PySem
set_option Elab.async false
set_option linter.all false
set_option maxRecDepth 100000
set_option maxHeartbeats 4000000
namespace L2
open PySem PySem.Spec PyProof.Rows
/-! ### an own exception, made as a value -/
def tXMk (C : Addr) (n m : Nat) (sp : Sp) (gV : List V → List V → List V) (t tk : TA) : TE := fun σ H Q => t σ H fun vs H1 => tk σ H1 fun zs H2 => vs.length = n ∧ zs.length = m ∧
  ∀ a, H2 a = none → sp (gV (.ref a :: vs) zs) (upd H2 a (exo a C none)) (fun v H3 => v = .non ∧ Q (.ref a) H3) (fun _ _ _ => False)
section
variable {X : Cx} {CX : CXT} {k n : Nat} {fI C : Addr} {fd : FuncData} {ps ks : List Str} {sp : Sp} {x : Str} {p pos : Pos} {e : Expr} {es : List Expr} {kws : List Keyword} {t tk : TA} {g : List Value → List Value → List Value} {gV : List V → List V → List V}
theorem run_xmk {pins : List (Addr × Obj)} {σ : St} {H : Hp} {s : Shared} {Q : VK} {us ws : List Value} {vs zs : List V} (T : OexC X.K C) (iC : PySem.W.findIn X.K (.ref C) "__init__" = some (some (.ref fI))) (tI : PySem.W.typeIn X.K (.ref fI) = some (.type "function"))
    (F1 : FnOk X.prog X.w X.K X.mg X.base CX k fI fd ps sp) (hr : Room (k + 1) X.A) (hb : KBn X.K fd ps (n + 1) ks g gV) (hx : Passes CX X (fun _ _ _ => False)) (I : Inv X pins σ H s) (r : Vals vs us) (rz : Vals zs ws) (l1 : vs.length = n) (l2 : zs.length = ks.length) (hn1 : n ≤ 1000)
    (h : ∀ a, H a = none → sp (gV (.ref a :: vs) zs) (upd H a (exo a C none)) (fun v H2 => v = .non ∧ Q (.ref a) H2) (fun _ _ _ => False)) :
    wpAny (model X.prog X.w) X.A (call (.ref C) us (ks.zip ws)) (EP X pins σ Q) X.xe s := by
  obtain ⟨nm, q, N, bs, bm, sn, sub, ab, col, dd, k0, k1, k2, k3, k5, hC, hbm⟩ := T.cls
  obtain ⟨hp, gn, dr, tk, os⟩ := s
  have hsz : hp.objs.size ≤ hp.objs.size + 1 := Nat.le_succ _
  have hn : H (hp.objs.size + 1) = none := I.hok.fresh hsz
  have hq := h (hp.objs.size + 1) hn
  have kk : ∀ b o, hp.get? b = some o → ((hp.push (PySem.W.kdv_tup us)).push (PySem.HandSPX.excO C hp.objs.size)).get? b = some o := fun b o e => Heap.get?_push_of_some _ (Heap.get?_push_of_some _ e)
  have hget : ((hp.push (PySem.W.kdv_tup us)).push (PySem.HandSPX.excO C hp.objs.size)).get? (hp.objs.size + 1) = some (PySem.HandSPX.excO C hp.objs.size) := by heap_get
  have I2 : Inv X pins σ (upd H (hp.objs.size + 1) (exo (hp.objs.size + 1) C none)) ⟨(hp.push (PySem.W.kdv_tup us)).push (PySem.HandSPX.excO C hp.objs.size), gn, dr, tk, os⟩ :=
    I.laid (t' := tk) (a := hp.objs.size + 1) (o := exo (hp.objs.size + 1) C none) (h' := (hp.push (PySem.W.kdv_tup us)).push (PySem.HandSPX.excO C hp.objs.size)) kk hsz (exo_ok hget)
  have r1 : Vals (V.ref (hp.objs.size + 1) :: vs) (Value.ref (hp.objs.size + 1) :: us) := .cons rfl r
  have r2 := hb.rel r1 rz
  have e1 : (Value.ref (hp.objs.size + 1) :: us).length = n + 1 := r1.length.symm.trans (congrArg Nat.succ l1)
  have e2 : ws.length = ks.length := rz.length.symm.trans l2
  have hus : us.length ≤ sizeLine := by
    rw [← Paired.length r, l1, sizeLine_eq]
    omega
  refine wpAny_call (PySem.XKw.call_kw PySem.F.excBase_ValueError (fun Y => PySem.HandSPX.refsVE_contains Y bm hbm) (I.kIn _ _ hC) (PySem.W.looks_findIn I.kIn iC) (fun self => PySem.W.bind_fn I.kIn self tI) hus
    (codeAny_mono (F1.run _ X.stack _ _ ⟨Value.ref (hp.objs.size + 1) :: us, ks.zip ws⟩ (g (Value.ref (hp.objs.size + 1) :: us) ws) _ _ (fun _ _ _ => False) (hr.make C us (ks.zip ws)) (I2.env0.make C us (ks.zip ws)) (hb.to _ (Value.ref (hp.objs.size + 1) :: us) ws I2.kIn e1 e2) r2 hq) fun r s' hq' => ?_))
  cases r with
  | error er => exact hx pins σ _ _ er s' I2 hq'
  | ok fl =>
    cases fl with
    | ret u =>
      obtain ⟨v, H', I3, rv, ev, q3⟩ := I2.after hq'
      subst ev
      exact ⟨rv, ⟨V.ref (hp.objs.size + 1), H', I3, rfl, q3⟩⟩
    | next => exact False.elim hq'
    | brk => exact False.elim hq'
    | cont => exact False.elim hq'
/-- C(e, .., k = v, ..) -/
theorem pe_xmkN (T : OexC X.K C) (iC : PySem.W.findIn X.K (.ref C) "__init__" = some (some (.ref fI))) (tI : PySem.W.typeIn X.K (.ref fI) = some (.type "function"))
    (F1 : FnOk X.prog X.w X.K X.mg X.base CX k fI fd ps sp) (hr : Room (k + 1) X.A) (hg : Gl X x) (hm : X.mg x = some (.ref C)) (hb : KBn X.K fd ps (n + 1) ks g gV) (hx : Passes CX X (fun _ _ _ => False)) (hn1 : n ≤ 1000)
    (ha : PA X (e :: es) t) (hkw : PK X kws tk) (hall : (backToKw pos (keywordEach kws X.env)).all (·.1.isSome) = true := by rfl) (hks : (backToKw pos (keywordEach kws X.env)).filterMap (·.1) = ks := by rfl)
    (hdb : (x == ("__debug__" : Str)) = false := by decide) (he : starEach (e :: es) X.env = (false, eval e X.env) :: starEach es X.env := by rfl)
    (hpl : ((backTo pos (starEach (e :: es) X.env)).any (·.1) || (backToKw pos (keywordEach kws X.env)).any (·.1.isNone)) = false := by rfl) :
    PE X (.Call (.Name x p) (e :: es) kws pos) (tXMk C n ks.length sp gV t tk) := by
  refine ⟨fun pins s σ H Q I h => ?_⟩
  refine wpAny_Call_Name_kw (ld_glob I hg hm ?_ hdb)
  refine PySem.W.callWith_KW (h₀ := X.base) I.ok.mod.kin T.kC hall (thn (ha.run pos pins s σ H _ I h) fun us s1 ⟨vs, H1, I1, r, q⟩ => ?_) hpl he
  refine thn (hkw.run pos pins s1 σ H1 _ I1 q) fun ws s2 ⟨zs, H2, I2, rz, l1, l2, q2⟩ => ⟨I2.kIn, ?_⟩
  rw [hks]
  exact run_xmk T iC tI F1 hr hb hx I2 r rz l1 l2 hn1 q2
/-- C(k = v, ..), C() -/
theorem pe_xmk0 (T : OexC X.K C) (iC : PySem.W.findIn X.K (.ref C) "__init__" = some (some (.ref fI))) (tI : PySem.W.typeIn X.K (.ref fI) = some (.type "function"))
    (F1 : FnOk X.prog X.w X.K X.mg X.base CX k fI fd ps sp) (hr : Room (k + 1) X.A) (hg : Gl X x) (hm : X.mg x = some (.ref C)) (hb : KBn X.K fd ps 1 ks g gV) (hx : Passes CX X (fun _ _ _ => False))
    (hkw : PK X kws tk) (hall : (backToKw pos (keywordEach kws X.env)).all (·.1.isSome) = true := by rfl) (hks : (backToKw pos (keywordEach kws X.env)).filterMap (·.1) = ks := by rfl)
    (hdb : (x == ("__debug__" : Str)) = false := by decide)
    (hpl : ((backTo pos (starEach [] X.env)).any (·.1) || (backToKw pos (keywordEach kws X.env)).any (·.1.isNone)) = false := by rfl) :
    PE X (.Call (.Name x p) [] kws pos) (tXMk C 0 ks.length sp gV tNil tk) := by
  refine ⟨fun pins s σ H Q I h => ?_⟩
  refine wpAny_Call_Name_kw (ld_glob I hg hm ?_ hdb)
  refine PySem.W.callWith_KW0 (h₀ := X.base) I.ok.mod.kin T.kC hall ?_ hpl
  refine thn (hkw.run pos pins s σ H _ I h) fun ws s2 ⟨zs, H2, I2, rz, l1, l2, q2⟩ => ⟨I2.kIn, ?_⟩
  rw [hks]
  exact run_xmk (us := []) (vs := []) T iC tI F1 hr hb hx I2 .nil rz rfl l2 (by omega) q2
end
/-- e.f, a field of such an exception -/
structure XAt (K : PySem.W.Frag) (C : Addr) (f : Str) : Prop where
  ga : PySem.W.findIn K (.ref C) "__getattribute__" = some (some (.builtin "BaseException.__getattribute__"))
  gg : PySem.W.findIn K (.ref C) "__getattr__" = some none
  exC : PySem.W.subIn K (.ref C) (.type "BaseException") = some true
  hdC : PySem.W.hasDictIn K C = true
  noN : PySem.W.findIn K (.ref C) f = some none
def tXAt (K : PySem.W.Frag) (te : TE) (f : Str) : TE := fun σ H Q => te σ H fun x H1 => ∃ (a C d : Addr) (fs : List (Str × V)) (v : V), x = .ref a ∧ H1 a = some (exo a C (some d)) ∧ H1 d = some (exd d fs) ∧ XAt K C f ∧ fs.lookup f = some v ∧ Q v H1
section
variable {X : Cx} {e : Expr} {te : TE} {f : Str} {pos : Pos}
theorem pe_xat (he : PE X e te) (hb : attributeBase e f X.env (eval e X.env) = eval e X.env := by rfl) : PE X (.Attribute e f pos) (tXAt X.K te f) := by
  refine ⟨fun pins s σ H Q I h => ?_⟩
  refine attr_of hb (thn (he.run pins s σ H _ I h) fun u s1 hh => ?_)
  obtain ⟨x, H1, I1, rx, a, C, d, fs, v, ex, ea, ed, T, hl, q⟩ := hh
  subst ex
  obtain rfl : u = Value.ref a := rx
  obtain ⟨t1, ho⟩ := exo_at I1.hok ea
  obtain ⟨mA, hns, hr⟩ := exd_at I1.hok ed
  obtain ⟨od, hod, hlk⟩ := lookIn_ns hns
  obtain ⟨u, hu, ru⟩ := RelO.some_of (v := v) (o := mA f) (by rw [← hl]; exact hr f)
  have J : PySem.W.InstAt s1.heap a { cls := .ref C, dict := some d, data := .fields #[.ref t1, .none, .none, .none, .bool false, .none] } C (some od) := ⟨ho, rfl, rfl, hod⟩
  exact HandSPX.exc_get I1.kIn J T.ga T.gg T.exC (PySem.W.findObj_own T.hdC T.noN rfl (by rw [hlk, hu])) (handed_of ru) ⟨v, H1, I1.tok _, ru, q⟩
end
end L2
set_option Elab.async false
set_option linter.all false
set_option maxRecDepth 100000
set_option maxHeartbeats 4000000
namespace L2
open PySem PySem.Spec PyProof.Rows
/-- all that H knows stands in H' -/
abbrev Ext (H H' : Hp) : Prop := ∀ a o, H a = some o → H' a = some o
theorem Ext.rfl' {H : Hp} : Ext H H := fun _ _ h => h
theorem Ext.tr {H H1 H2 : Hp} (a : Ext H H1) (b : Ext H1 H2) : Ext H H2 := fun x o h => b x o (a x o h)
theorem PE.weak {X : Cx} {e : Expr} {t t' : TE} (h : PE X e t) (w : ∀ σ H Q, t' σ H Q → t σ H Q) : PE X e t' := ⟨fun pins s σ H Q I q => h.run pins s σ H Q I (w σ H Q q)⟩
/-- an exception's __init__ of one field, of two -/
def spI1 (K : PySem.W.Frag) (f : Str) : Sp := fun vs H Q _ => ∃ (a C : Addr) (y : V), vs = [.ref a, y] ∧ H a = some (exo a C none) ∧ OexC K C ∧ PySem.W.findIn K (.ref C) f = some none ∧
  ∀ dx, H dx = none → dx ≠ a → Q .non (upd (upd H dx (exd dx [(f, y)])) a (exo a C (some dx)))
def spI2 (K : PySem.W.Frag) (f g : Str) : Sp := fun vs H Q _ => ∃ (a C : Addr) (y z : V), vs = [.ref a, y, z] ∧ H a = some (exo a C none) ∧ OexC K C ∧ PySem.W.findIn K (.ref C) f = some none ∧ PySem.W.findIn K (.ref C) g = some none ∧
  ∀ dx, H dx = none → dx ≠ a → Q .non (upd (upd (upd H dx (exd dx [(f, y)])) a (exo a C (some dx))) dx (exd dx [(g, z), (f, y)]))
/-- their bodies' readings -/
theorem read_i1 {K : PySem.W.Frag} {f : Str} {vs : List V} {H : Hp} {Q : VK} {E : XK} {N : List Str} (hN : N = (["self", f] : List Str)) (h : spI1 K f vs H Q E) :
    tOst K f (tVar 0) (tVar 1) { nx := fun _ H' => Q .non H', rt := Q } (start N vs) H := by
  subst hN
  obtain ⟨a, C, y, rfl, ha, T, nf, q⟩ := h
  exact ⟨_, rfl, _, rfl, a, C, rfl, T, nf, .inl ⟨ha, fun dx n ne => q dx n ne⟩⟩
theorem read_i2 {K : PySem.W.Frag} {f g : Str} {vs : List V} {H : Hp} {Q : VK} {E : XK} {N : List Str} (hN : N = (["self", f, g] : List Str)) (h : spI2 K f g vs H Q E) :
    tSeq (tOst K f (tVar 0) (tVar 1)) (tOst K g (tVar 0) (tVar 2)) { nx := fun _ H' => Q .non H', rt := Q } (start N vs) H := by
  subst hN
  obtain ⟨a, C, y, z, rfl, ha, T, nf, ng, q⟩ := h
  refine ⟨_, rfl, _, rfl, a, C, rfl, T, nf, .inl ⟨ha, fun dx n ne => ?_⟩⟩
  refine ⟨_, rfl, _, rfl, a, C, rfl, T, ng, .inr ⟨dx, [(f, y)], upd_same, ?_, by show 1 ≤ 900; decide, q dx n ne⟩⟩
  rw [upd_ne ne, upd_same]
/-- what the making of such an exception asks, and what it leaves -/
theorem made1 {K : PySem.W.Frag} {C : Addr} {f : Str} {y : V} {H : Hp} {Q : VK} (T : OexC K C) (nf : PySem.W.findIn K (.ref C) f = some none) {E : XK}
    (h : ∀ a d H', Ext H H' → H a = none → H' a = some (exo a C (some d)) → H' d = some (exd d [(f, y)]) → Q (.ref a) H') (a : Addr) (na : H a = none) :
    spI1 K f [.ref a, y] (upd H a (exo a C none)) (fun v H3 => v = .non ∧ Q (.ref a) H3) E := by
  refine ⟨a, C, y, rfl, upd_same, T, nf, fun dx nd ne => ⟨rfl, h a dx _ (fun b o e => ?_) na upd_same (by rw [upd_ne ne, upd_same])⟩⟩
  have hb : b ≠ a := ne_of_none e na
  have nd' : H dx = none := by rw [upd_ne ne] at nd; exact nd
  rw [upd_ne hb, upd_ne (ne_of_none e nd'), upd_ne hb]
  exact e
theorem made2 {K : PySem.W.Frag} {C : Addr} {f g : Str} {y z : V} {H : Hp} {Q : VK} (T : OexC K C) (nf : PySem.W.findIn K (.ref C) f = some none) (ng : PySem.W.findIn K (.ref C) g = some none) {E : XK}
    (h : ∀ a d H', Ext H H' → H a = none → H' a = some (exo a C (some d)) → H' d = some (exd d [(g, z), (f, y)]) → Q (.ref a) H') (a : Addr) (na : H a = none) :
    spI2 K f g [.ref a, y, z] (upd H a (exo a C none)) (fun v H3 => v = .non ∧ Q (.ref a) H3) E := by
  refine ⟨a, C, y, z, rfl, upd_same, T, nf, ng, fun dx nd ne => ⟨rfl, h a dx _ (fun b o e => ?_) na (by rw [upd_ne (Ne.symm ne), upd_same]) upd_same⟩⟩
  have hb : b ≠ a := ne_of_none e na
  have nd' : H dx = none := by rw [upd_ne ne] at nd; exact nd
  rw [upd_ne (ne_of_none e nd'), upd_ne hb, upd_ne (ne_of_none e nd'), upd_ne hb]
  exact e
/-- an instance of the exception class at C, with its fields -/
def ExcAt (H : Hp) (v : V) (C : Addr) (fs : List (Str × V)) : Prop := ∃ a d, v = .ref a ∧ H a = some (exo a C (some d)) ∧ H d = some (exd d fs)
/-- the readings that a caller sees -/
def tX1 (C : Addr) (f : Str) (te : TE) : TE := fun σ H Q => te σ H fun y H1 => ∀ v H2, Ext H1 H2 → ExcAt H2 v C [(f, y)] → Q v H2
def tX10 (C : Addr) (f : Str) : TE := fun σ H Q => ∀ v H2, Ext H H2 → ExcAt H2 v C [(f, .non)] → Q v H2
def tX2 (C : Addr) (f g : Str) (te tu : TE) : TE := fun σ H Q => te σ H fun y H1 => tu σ H1 fun z H2 => ∀ v H3, Ext H2 H3 → ExcAt H3 v C [(g, z), (f, y)] → Q v H3
/-- keywords the other way about -/
def tX2r (C : Addr) (f g : Str) (tu te : TE) : TE := fun σ H Q => tu σ H fun z H1 => te σ H1 fun y H2 => ∀ v H3, Ext H2 H3 → ExcAt H3 v C [(g, z), (f, y)] → Q v H3
def tX2f (C : Addr) (f g : Str) (te : TE) : TE := fun σ H Q => te σ H fun y H1 => ∀ v H2, Ext H1 H2 → ExcAt H2 v C [(g, .non), (f, y)] → Q v H2
def tX2g (C : Addr) (f g : Str) (tu : TE) : TE := fun σ H Q => tu σ H fun z H1 => ∀ v H2, Ext H1 H2 → ExcAt H2 v C [(g, z), (f, .non)] → Q v H2
def tX20 (C : Addr) (f g : Str) : TE := fun σ H Q => ∀ v H2, Ext H H2 → ExcAt H2 v C [(g, .non), (f, .non)] → Q v H2
/-- any weaker wish -/
def tM (te : TE) : TE := fun σ H Q => ∃ R : VK, te σ H R ∧ ∀ v H', R v H' → Q v H'
theorem PE.mono {X : Cx} {e : Expr} {te : TE} (h : PE X e te) : PE X e (tM te) := ⟨fun pins s σ H Q I ⟨R, hR, k⟩ =>
  wpAny_mono (h.run pins s σ H R I hR) (fun _ _ ⟨v, H', I', r, q⟩ => ⟨v, H', I', r, k _ _ q⟩) (fun _ _ x => x)⟩
/-- v.f -/
def tXF (C : Addr) (te : TE) (f : Str) : TE := fun σ H Q => te σ H fun x H1 => ∃ fs v, ExcAt H1 x C fs ∧ fs.lookup f = some v ∧ Q v H1
theorem pe_xf {X : Cx} {e : Expr} {te : TE} {f : Str} {pos : Pos} {C : Addr} (A : XAt X.K C f) (he : PE X e te) (hb : attributeBase e f X.env (eval e X.env) = eval e X.env := by rfl) : PE X (.Attribute e f pos) (tXF C te f) :=
  (pe_xat he.mono hb).weak fun σ H Q h => ⟨_, h, fun x H1 q => by
    obtain ⟨fs, v, ⟨a, d, ex, ea, ed⟩, hl, q⟩ := q
    exact ⟨a, C, d, fs, v, ex, ea, ed, A, hl, q⟩⟩
/-- what is known of such a class, and how it is made -/
structure XC1 (P : Program) (w : World) (K : PySem.W.Frag) (mg : Str → Option Value) (base : Heap) (x f : Str) (C : Addr) : Prop where
  T : OexC K C
  A : XAt K C f
  mgC : mg x = some (.ref C)
  fn : ∃ (fI : Addr) (fd : FuncData), PySem.W.findIn K (.ref C) "__init__" = some (some (.ref fI)) ∧ PySem.W.typeIn K (.ref fI) = some (.type "function") ∧ FnOk P w K mg base CX0 1 fI fd ["self", f] (spI1 K f) ∧
    (∃ g, KBn K fd ["self", f] 2 [] g (fun vs _ => vs)) ∧ (∃ g, KBn K fd ["self", f] 1 [f] g (fun vs zs => vs ++ zs)) ∧ (∃ g, KBn K fd ["self", f] 1 [] g (fun vs _ => vs ++ [.non]))
structure XC2 (P : Program) (w : World) (K : PySem.W.Frag) (mg : Str → Option Value) (base : Heap) (x f g : Str) (C : Addr) : Prop where
  T : OexC K C
  A : XAt K C f
  B : XAt K C g
  mgC : mg x = some (.ref C)
  fn : ∃ (fI : Addr) (fd : FuncData), PySem.W.findIn K (.ref C) "__init__" = some (some (.ref fI)) ∧ PySem.W.typeIn K (.ref fI) = some (.type "function") ∧ FnOk P w K mg base CX0 1 fI fd ["self", f, g] (spI2 K f g) ∧
    (∃ h, KBn K fd ["self", f, g] 3 [] h (fun vs _ => vs)) ∧ (∃ h, KBn K fd ["self", f, g] 2 [] h (fun vs _ => vs ++ [.non])) ∧ (∃ h, KBn K fd ["self", f, g] 1 [] h (fun vs _ => vs ++ [.non, .non])) ∧
    (∃ h, KBn K fd ["self", f, g] 1 [g, f] h (fun vs zs => vs ++ (zs.drop 1 ++ zs.take 1))) ∧ (∃ h, KBn K fd ["self", f, g] 2 [g] h (fun vs zs => vs ++ zs)) ∧ (∃ h, KBn K fd ["self", f, g] 1 [g] h (fun vs zs => vs ++ (V.non :: zs)))
section
variable {X : Cx} {x f g : Str} {C : Addr} {e e2 : Expr} {te tu : TE} {p pos p1 p2 : Pos}
theorem xle {n : Nat} (h : n ≤ 3) : n ≤ 1000 := by omega
/-- X(a) -/
theorem pe_1p (c : XC1 X.prog X.w X.K X.mg X.base x f C) (hr : Room 2 X.A) (he : PE X e te) (hg : Gl X x := by rfl) (hx : Passes CX0 X (fun _ _ _ => False) := by exact pass0) (hdb : (x == ("__debug__" : Str)) = false := by decide)
    (hs : starEach [e] X.env = (false, eval e X.env) :: starEach [] X.env := by rfl) : PE X (.Call (.Name x p) [e] [] pos) (tX1 C f te) := by
  obtain ⟨fI, fd, iC, tI, F, ⟨g', hb⟩, _⟩ := c.fn
  have hpl : ((backTo pos (starEach [e] X.env)).any (·.1) || (backToKw pos (keywordEach [] X.env)).any (·.1.isNone)) = false := by rw [hs]; rfl
  refine (pe_xmkN c.T iC tI F hr hg c.mgC hb hx (xle (by decide)) (pa_cons he.mono pa_nil hs) pk_nil rfl rfl hdb hs hpl).weak fun σ H Q h => ?_
  exact ⟨_, h, fun y H1 q => ⟨rfl, rfl, made1 c.T c.A.noN fun a d H' e n ea ed => q _ _ e ⟨a, d, rfl, ea, ed⟩⟩⟩
/-- X(f=a) -/
theorem pe_1k (c : XC1 X.prog X.w X.K X.mg X.base x f C) (hr : Room 2 X.A) (he : PE X e te) (hg : Gl X x := by rfl) (hx : Passes CX0 X (fun _ _ _ => False) := by exact pass0) (hdb : (x == ("__debug__" : Str)) = false := by decide) :
    PE X (.Call (.Name x p) [] [⟨some f, e, p1⟩] pos) (tX1 C f te) := by
  obtain ⟨fI, fd, iC, tI, F, _, ⟨g', hb⟩, _⟩ := c.fn
  refine (pe_xmk0 c.T iC tI F hr hg c.mgC hb hx (pk_cons he.mono pk_nil) rfl rfl hdb rfl).weak fun σ H Q h => ?_
  exact ⟨_, h, fun y H1 q => ⟨rfl, rfl, made1 c.T c.A.noN fun a d H' e n ea ed => q _ _ e ⟨a, d, rfl, ea, ed⟩⟩⟩
/-- X() -/
theorem pe_10 (c : XC1 X.prog X.w X.K X.mg X.base x f C) (hr : Room 2 X.A) (hg : Gl X x := by rfl) (hx : Passes CX0 X (fun _ _ _ => False) := by exact pass0) (hdb : (x == ("__debug__" : Str)) = false := by decide) :
    PE X (.Call (.Name x p) [] [] pos) (tX10 C f) := by
  obtain ⟨fI, fd, iC, tI, F, _, _, ⟨g', hb⟩⟩ := c.fn
  refine (pe_xmk0 c.T iC tI F hr hg c.mgC hb hx pk_nil rfl rfl hdb rfl).weak fun σ H Q h => ?_
  exact ⟨rfl, rfl, made1 c.T c.A.noN fun a d H' e n ea ed => h _ _ e ⟨a, d, rfl, ea, ed⟩⟩
/-- X(a, b) -/
theorem pe_2pp (c : XC2 X.prog X.w X.K X.mg X.base x f g C) (hr : Room 2 X.A) (he : PE X e te) (he2 : PE X e2 tu) (hg : Gl X x := by rfl) (hx : Passes CX0 X (fun _ _ _ => False) := by exact pass0) (hdb : (x == ("__debug__" : Str)) = false := by decide)
    (hs : starEach [e, e2] X.env = (false, eval e X.env) :: starEach [e2] X.env := by rfl) (hs2 : starEach [e2] X.env = (false, eval e2 X.env) :: starEach [] X.env := by rfl) : PE X (.Call (.Name x p) [e, e2] [] pos) (tX2 C f g te tu) := by
  obtain ⟨fI, fd, iC, tI, F, ⟨g', hb⟩, _⟩ := c.fn
  have hpl : ((backTo pos (starEach [e, e2] X.env)).any (·.1) || (backToKw pos (keywordEach [] X.env)).any (·.1.isNone)) = false := by rw [hs, hs2]; rfl
  refine (pe_xmkN c.T iC tI F hr hg c.mgC hb hx (xle (by decide)) (pa_cons he.mono (pa_cons he2.mono pa_nil hs2) hs) pk_nil rfl rfl hdb hs hpl).weak fun σ H Q h => ?_
  exact ⟨_, h, fun y H1 q => ⟨_, q, fun z H2 q => ⟨rfl, rfl, made2 c.T c.A.noN c.B.noN fun a d H' e n ea ed => q _ _ e ⟨a, d, rfl, ea, ed⟩⟩⟩⟩
/-- X(a) of two fields -/
theorem pe_2p (c : XC2 X.prog X.w X.K X.mg X.base x f g C) (hr : Room 2 X.A) (he : PE X e te) (hg : Gl X x := by rfl) (hx : Passes CX0 X (fun _ _ _ => False) := by exact pass0) (hdb : (x == ("__debug__" : Str)) = false := by decide)
    (hs : starEach [e] X.env = (false, eval e X.env) :: starEach [] X.env := by rfl) : PE X (.Call (.Name x p) [e] [] pos) (tX2f C f g te) := by
  obtain ⟨fI, fd, iC, tI, F, _, ⟨g', hb⟩, _⟩ := c.fn
  have hpl : ((backTo pos (starEach [e] X.env)).any (·.1) || (backToKw pos (keywordEach [] X.env)).any (·.1.isNone)) = false := by rw [hs]; rfl
  refine (pe_xmkN c.T iC tI F hr hg c.mgC hb hx (xle (by decide)) (pa_cons he.mono pa_nil hs) pk_nil rfl rfl hdb hs hpl).weak fun σ H Q h => ?_
  exact ⟨_, h, fun y H1 q => ⟨rfl, rfl, made2 c.T c.A.noN c.B.noN fun a d H' e n ea ed => q _ _ e ⟨a, d, rfl, ea, ed⟩⟩⟩
/-- X() of two fields -/
theorem pe_20 (c : XC2 X.prog X.w X.K X.mg X.base x f g C) (hr : Room 2 X.A) (hg : Gl X x := by rfl) (hx : Passes CX0 X (fun _ _ _ => False) := by exact pass0) (hdb : (x == ("__debug__" : Str)) = false := by decide) :
    PE X (.Call (.Name x p) [] [] pos) (tX20 C f g) := by
  obtain ⟨fI, fd, iC, tI, F, _, _, ⟨g', hb⟩, _⟩ := c.fn
  refine (pe_xmk0 c.T iC tI F hr hg c.mgC hb hx pk_nil rfl rfl hdb rfl).weak fun σ H Q h => ?_
  exact ⟨rfl, rfl, made2 c.T c.A.noN c.B.noN fun a d H' e n ea ed => h _ _ e ⟨a, d, rfl, ea, ed⟩⟩
/-- X(g=b, f=a) -/
theorem pe_2kr (c : XC2 X.prog X.w X.K X.mg X.base x f g C) (hr : Room 2 X.A) (he2 : PE X e2 tu) (he : PE X e te) (hg : Gl X x := by rfl) (hx : Passes CX0 X (fun _ _ _ => False) := by exact pass0) (hdb : (x == ("__debug__" : Str)) = false := by decide) :
    PE X (.Call (.Name x p) [] [⟨some g, e2, p1⟩, ⟨some f, e, p2⟩] pos) (tX2r C f g tu te) := by
  obtain ⟨fI, fd, iC, tI, F, _, _, _, ⟨g', hb⟩, _⟩ := c.fn
  refine (pe_xmk0 c.T iC tI F hr hg c.mgC hb hx (pk_cons he2.mono (pk_cons he.mono pk_nil)) rfl rfl hdb rfl).weak fun σ H Q h => ?_
  exact ⟨_, h, fun z H1 q => ⟨_, q, fun y H2 q => ⟨rfl, rfl, made2 c.T c.A.noN c.B.noN fun a d H' e n ea ed => q _ _ e ⟨a, d, rfl, ea, ed⟩⟩⟩⟩
/-- X(a, g=b) -/
theorem pe_2pk (c : XC2 X.prog X.w X.K X.mg X.base x f g C) (hr : Room 2 X.A) (he : PE X e te) (he2 : PE X e2 tu) (hg : Gl X x := by rfl) (hx : Passes CX0 X (fun _ _ _ => False) := by exact pass0) (hdb : (x == ("__debug__" : Str)) = false := by decide)
    (hs : starEach [e] X.env = (false, eval e X.env) :: starEach [] X.env := by rfl) : PE X (.Call (.Name x p) [e] [⟨some g, e2, p1⟩] pos) (tX2 C f g te tu) := by
  obtain ⟨fI, fd, iC, tI, F, _, _, _, _, ⟨g', hb⟩, _⟩ := c.fn
  have hpl : ((backTo pos (starEach [e] X.env)).any (·.1) || (backToKw pos (keywordEach [⟨some g, e2, p1⟩] X.env)).any (·.1.isNone)) = false := by rw [hs]; rfl
  refine (pe_xmkN c.T iC tI F hr hg c.mgC hb hx (xle (by decide)) (pa_cons he.mono pa_nil hs) (pk_cons he2.mono pk_nil) rfl rfl hdb hs hpl).weak fun σ H Q h => ?_
  exact ⟨_, h, fun y H1 q => ⟨_, q, fun z H2 q => ⟨rfl, rfl, made2 c.T c.A.noN c.B.noN fun a d H' e n ea ed => q _ _ e ⟨a, d, rfl, ea, ed⟩⟩⟩⟩
/-- X(g=b) -/
theorem pe_2kg (c : XC2 X.prog X.w X.K X.mg X.base x f g C) (hr : Room 2 X.A) (he2 : PE X e2 tu) (hg : Gl X x := by rfl) (hx : Passes CX0 X (fun _ _ _ => False) := by exact pass0) (hdb : (x == ("__debug__" : Str)) = false := by decide) :
    PE X (.Call (.Name x p) [] [⟨some g, e2, p1⟩] pos) (tX2g C f g tu) := by
  obtain ⟨fI, fd, iC, tI, F, _, _, _, _, _, ⟨g', hb⟩⟩ := c.fn
  refine (pe_xmk0 c.T iC tI F hr hg c.mgC hb hx (pk_cons he2.mono pk_nil) rfl rfl hdb rfl).weak fun σ H Q h => ?_
  exact ⟨_, h, fun z H1 q => ⟨rfl, rfl, made2 c.T c.A.noN c.B.noN fun a d H' e n ea ed => q _ _ e ⟨a, d, rfl, ea, ed⟩⟩⟩
end
/-! ### what they evaluate to -/
section
open Evl
variable {σ : L2.St} {H : Hp} {C : Addr} {f g : Str} {te tu ta tb : TE} {y z : V} {xs ys : List V}
/-- te gives an instance of C with fields fs -/
def EvE (te : TE) (σ : L2.St) (H : Hp) (C : Addr) (fs : List (Str × V)) : Prop := ∀ H1, Ex H H1 → ∀ Q : VK, (∀ v H2, Ex H1 H2 → ExcAt H2 v C fs → Q v H2) → te σ H1 Q
theorem ee_1 (h : Ev te σ H y) : EvE (tX1 C f te) σ H C [(f, y)] := fun H1 e _ q => h H1 e _ fun _ e2 _ _ e3 hx => q _ _ (e2.trans e3) hx
theorem ee_10 : EvE (tX10 C f) σ H C [(f, .non)] := fun _ _ _ q _ _ e3 hx => q _ _ e3 hx
theorem ee_2 (h : Ev te σ H y) (h2 : Ev tu σ H z) : EvE (tX2 C f g te tu) σ H C [(g, z), (f, y)] := fun H1 e _ q => h H1 e _ fun H2 e2 => h2 H2 (e.trans e2) _ fun _ e3 _ _ e4 hx => q _ _ ((e2.trans e3).trans e4) hx
theorem ee_2r (h2 : Ev tu σ H z) (h : Ev te σ H y) : EvE (tX2r C f g tu te) σ H C [(g, z), (f, y)] := fun H1 e _ q => h2 H1 e _ fun H2 e2 => h H2 (e.trans e2) _ fun _ e3 _ _ e4 hx => q _ _ ((e2.trans e3).trans e4) hx
theorem ee_2f (h : Ev te σ H y) : EvE (tX2f C f g te) σ H C [(g, .non), (f, y)] := fun H1 e _ q => h H1 e _ fun _ e2 _ _ e3 hx => q _ _ (e2.trans e3) hx
theorem ee_2g (h : Ev tu σ H z) : EvE (tX2g C f g tu) σ H C [(g, z), (f, .non)] := fun H1 e _ q => h H1 e _ fun _ e2 _ _ e3 hx => q _ _ (e2.trans e3) hx
theorem ee_20 : EvE (tX20 C f g) σ H C [(g, .non), (f, .non)] := fun _ _ _ q _ _ e3 hx => q _ _ e3 hx
theorem ev_xf {fs : List (Str × V)} (h : EvE te σ H C fs) (hl : fs.lookup f = some y) : Ev (tXF C te f) σ H y := fun H1 e _ q => h H1 e _ fun _ H2 e2 hx => ⟨fs, y, hx, hl, q H2 e2⟩
/-- xs + ys, both new; xs * k -/
theorem el_cat (ha : EvL ta σ H xs) (hb : EvL tb σ H ys) (hz : xs.length + ys.length ≤ 100000) : EvL (tOp rCat ta tb) σ H (xs ++ ys) := fun H1 e _ q =>
  ha H1 e _ fun p H2 n2 e2 h2 => hb H2 (e.trans e2) _ fun p' H3 n3 e3 h3 => ⟨p, p', xs, ys, rfl, rfl, e3 p _ h2, h3, sz_of hz, fun r hr => q r _ (fresh_back (e2.trans e3) hr) ((e2.trans e3).trans (Ex.new hr)) upd_same⟩
/-- a list that is known + a new one -/
theorem el_catK {l : Addr} (ha : Ev ta σ H (.ref l)) (hl : H l = some (.lst xs)) (hb : EvL tb σ H ys) (hz : xs.length + ys.length ≤ 100000) : EvL (tOp rCat ta tb) σ H (xs ++ ys) := fun H1 e _ q =>
  ha H1 e _ fun H2 e2 => hb H2 (e.trans e2) _ fun p' H3 n3 e3 h3 => ⟨l, p', xs, ys, rfl, rfl, e3 l _ (e2 l _ (e l _ hl)), h3, sz_of hz, fun r hr => q r _ (fresh_back (e2.trans e3) hr) ((e2.trans e3).trans (Ex.new hr)) upd_same⟩
theorem el_rep {k : Nat} (ha : EvL ta σ H xs) (hb : Ev tb σ H (.int k)) (hk : k ≤ 1000) (hz : xs.length * k ≤ 100000) : EvL (tOp rRep ta tb) σ H (List.replicate k xs).flatten := fun H1 e _ q =>
  ha H1 e _ fun p H2 n2 e2 h2 => hb H2 (e.trans e2) _ fun H3 e3 => ⟨p, k, xs, rfl, rfl, e3 p _ h2, by omega, by omega, by simpa using sz_of hz, fun r hr => q r _ (fresh_back (e2.trans e3) hr) ((e2.trans e3).trans (Ex.new hr)) (by rw [upd_same]; simp)⟩
end
end L2
set_option Elab.async false
set_option linter.all false
set_option maxRecDepth 100000
set_option maxHeartbeats 4000000
namespace Prs
open PySem PySem.Spec PyProof.Rows L2 Evl
def top (i : Nat) : Stmt := PySem.Challenge.pw_deepstands_k06_guards_and_terms_by_hand.main.body.getD i (.Pass ⟨0, 0, 0, 0⟩)
abbrev sRun : Stmt := top 21
abbrev sWord : Stmt := top 22
abbrev sKind : Stmt := top 23
abbrev sBlanks : Stmt := top 24
abbrev sPassed : Stmt := top 25
abbrev sWordsOf : Stmt := top 26
/-! ### the mirror of the words -/
def LET : Str := "abcdefghijklmnopqrstuvwxyz"
def FIG : Str := "0123456789"
def MRK : Str := "()+-<=,"
def KEYS : List Str := ["fact", "on", "one", "all", "leaf", "end", "back", "deep", "into", "out", "go", "after", "done", "if", "do", "to", "set", "raise", "say", "in", "not", "and", "or", "yes"]
def has (s : Str) (c : Nat) : Bool := decide (c ∈ s.cps.toList)
def signAt (r : Str) (i : Nat) : Nat := r.cps.toList.getD i 0
def runGo (r s : Str) (lim : Nat) : Nat → Nat → Nat
  | 0, e => e
  | n + 1, e => if e < r.length ∧ e < lim ∧ has s (signAt r e) = true then runGo r s lim n (e + 1) else e
def endOfRun (r : Str) (a : Nat) (s : Str) (m : Nat) : Nat := runGo r s (a + m) r.length a
def endOfWord (r : Str) (a : Nat) : Nat :=
  let c := signAt r a
  if has MRK c then a + 1
  else if decide (0 < a) && has (LET ++ FIG) (signAt r (a - 1)) then a
  else if c = 48 then a + 1
  else if has FIG c then endOfRun r a FIG 9
  else if has LET c then endOfRun r a (LET ++ FIG) 8
  else a
/-- what the names of the module hold -/
structure Gn (K : PySem.W.Frag) (mg : Str → Option Value) : Prop where
  len : mg "len" = none
  letters : ∃ t, mg "LETTERS" = some (.str LET t)
  figures : ∃ t, mg "FIGURES" = some (.str FIG t)
  marks : ∃ t, mg "MARKS" = some (.str MRK t)
  mostS : ∃ t, mg "MOST_SIGNS" = some (.int 8 t)
  mostF : ∃ t, mg "MOST_FIGURES" = some (.int 9 t)
  kName : ∃ t, mg "NAME" = some (.str "a name" t)
  kNumber : ∃ t, mg "NUMBER" = some (.str "a number" t)
  kNo : ∃ t, mg "NO_WORD" = some (.str "no word" t)
  kEnd : ∃ t, mg "ROW_END" = some (.str "the row's end" t)
theorem len_cps (r : Str) : r.cps.toList.length = r.length := rfl
theorem atI_sign {r : Str} {i : Nat} (h : i < r.length) : atI r.cps.toList (i : Int) = some (signAt r i) := by
  have hl : i < r.cps.toList.length := h
  refine atI_nat ?_
  unfold signAt
  rw [List.getD_eq_getElem?_getD, List.getElem?_eq_getElem hl]
  rfl
theorem rv_sign {r : Str} {i : Nat} {H : Hp} (hr : r.length ≤ 100000) (h : i < r.length) : RV rIxS (.str r) (.int (i : Int)) H (.str ⟨#[signAt r i]⟩) := rv_ixS hr (atI_sign h)
theorem rv_inS {c : Nat} {s : Str} {H : Hp} : RV rInS (.str ⟨#[c]⟩) (.str s) H (.bl (has s c)) := fun H1 _ _ q => ⟨c, s, rfl, rfl, q H1 (Ex.refl H1)⟩
section
variable {P : Program} {w : World} {K : PySem.W.Frag} {mg : Str → Option Value} {base : Heap}
theorem ev_lenS {σ : L2.St} {H : Hp} {te : TE} {s : Str} (h : Ev te σ H (.str s)) (hz : s.length ≤ 100000) : Ev (tCB (fun xs H Q => ∃ x n, xs = [x] ∧ LenV K x H n ∧ Q (.int n) H) (tCons te tNil)) σ H (.int (s.length : Nat)) := fun H1 e _ q => h H1 e _ fun H2 e2 => ⟨_, _, rfl, ⟨sz_of hz, rfl⟩, q H2 e2⟩
/-! ### end_of_run -/
def spRun : Sp := fun vs H Q _ => ∃ (r s : Str) (a m : Nat), vs = [.str r, .int (a : Int), .str s, .int (m : Int)] ∧ r.length ≤ 100000 ∧ a ≤ r.length ∧ RetV (.int (endOfRun r a s m : Nat)) H Q
theorem scRun : FnScope ["row", "at", "signs", "most", "end"] ["row", "at", "signs", "most"] (defScope sRun) := ⟨rfl, rfl, rfl, by decide +kernel, rfl, by decide +kernel, by decide +kernel⟩
theorem ok_run {f : Addr} {fd : FuncData} (F : Fun K "end_of_run" "end_of_run" sRun f fd) (G : Gn K mg) : FnOk P w K mg base CX0 1 f fd ["row", "at", "signs", "most"] spRun := by
  refine F.ok scRun (fun vs H Q E h => ?_) (fun cdv A outer s0 H vs Q E hr h => ?_)
  · obtain ⟨r, s, a, m, rfl, _⟩ := h
    rfl
  · obtain ⟨r, s, a, m, rfl, hr0, ha, q⟩ := h
    refine ⟨_, pss_cons (ps_set (i := 4) scRun.nd rfl (.inl rfl) (pv 1))
      (pss_cons (ps_while PassesOwn.never (PW.pt (pw_and (pt_cmpR op_lt (pv 4) (pe_callB call_len (by rfl) G.len PySem.boot_len (pa_cons (pv 0) pa_nil)) (nomark _)) (pw_and (pt_cmpR op_lt (pv 4) (pe_op op_add (pv 1) (pv 3)) (nomark _)) (pw_and1 (pt_cmpR op_inS (pe_ix ix_str (pv 0) (pv 4) (fun _ _ => rfl)) (pv 2) (by rfl))))))
        (pss_one (ps_aug (i := 4) scRun.nd rfl (.inl rfl) pe_int ip_add)))
      (pss_one (ps_ret (pv 4)))), ?_⟩
    refine q_asg (v := .int (a : Nat)) (ev_var rfl) fun H1 e1 => ?_
    refine q_while (fun k σ H' => ∃ e : Nat, e ≤ r.length ∧ Ex H1 H' ∧ σ = [some (.str r), some (.int (a : Nat)), some (.str s), some (.int (m : Nat)), some (.int (e : Nat))] ∧ r.length - e ≤ k ∧ runGo r s (a + m) k e = endOfRun r a s m) r.length ⟨a, ha, Ex.refl _, rfl, Nat.sub_le _ _, rfl⟩ ?_
    rintro k σ' H' ⟨e, he, x, rfl, hk, hg⟩
    refine ⟨decide ((e : Int) < (r.length : Nat)) && (decide ((e : Int) < ((a : Nat) : Int) + ((m : Nat) : Int)) && has s (signAt r e)), et_and (et_test (ev_op (ev_var rfl) (ev_lenS (ev_var rfl) hr0) rv_I0)) (fun h1 => et_and (et_test (ev_op (ev_var rfl) (ev_op (ev_var rfl) (ev_var rfl) rv_I0) rv_I0)) (fun _ => et_test (ev_op (ev_op (ev_var rfl) (ev_var rfl) (rv_sign hr0 (by have := of_decide_eq_true h1; omega))) (ev_var rfl) rv_inS))), fun hb H2 e2 => ?_, fun hb H2 e2 => ?_⟩
    · simp only [Bool.and_eq_true, decide_eq_true_eq] at hb
      obtain ⟨h1, h2, h3⟩ := hb
      have h1' : e < r.length := by omega
      have h2' : e < a + m := by omega
      cases k with
      | zero => omega
      | succ k =>
        refine ⟨fun σ2 H3 => ∃ e : Nat, e ≤ r.length ∧ Ex H1 H3 ∧ σ2 = [some (.str r), some (.int (a : Nat)), some (.str s), some (.int (m : Nat)), some (.int (e : Nat))] ∧ r.length - e ≤ k ∧ runGo r s (a + m) k e = endOfRun r a s m, fun σ2 H3 ⟨e', p1, p2, p3, p4, p5⟩ => ⟨k, Nat.lt_succ_self _, e', p1, p2, p3, p4, p5⟩, ?_⟩
        refine s_aug (f := fun i j => i + j) rfl ev_c fun H3 e3 => ⟨e + 1, h1', Ex.trans (Ex.trans x e2) e3, rfl, by omega, ?_⟩
        rw [← hg]
        show _ = if e < r.length ∧ e < a + m ∧ has s (signAt r e) = true then runGo r s (a + m) k (e + 1) else e
        rw [if_pos ⟨h1', h2', h3⟩]
    · have : runGo r s (a + m) k e = e := by
        cases k with
        | zero => rfl
        | succ k =>
          show (if e < r.length ∧ e < a + m ∧ has s (signAt r e) = true then runGo r s (a + m) k (e + 1) else e) = e
          refine if_neg fun ⟨z1, z2, z3⟩ => ?_
          have y1 : decide ((e : Int) < (r.length : Nat)) = true := decide_eq_true (by omega)
          have y2 : decide ((e : Int) < ((a : Nat) : Int) + ((m : Nat) : Int)) = true := decide_eq_true (by omega)
          rw [y1, y2, z3] at hb
          exact Bool.noConfusion hb
      rw [this] at hg
      subst hg
      exact s_ret (v := .int (endOfRun r a s m : Nat)) (D := { nx := _, rt := Q }) (ev_var rfl) fun H3 e3 => q.go (Ex.trans (Ex.trans (Ex.trans e1 x) e2) e3)
/-! ### end_of_word -/
def spWord : Sp := fun vs H Q _ => ∃ (r : Str) (a : Nat), vs = [.str r, .int (a : Int)] ∧ r.length ≤ 100000 ∧ a < r.length ∧ RetV (.int (endOfWord r a : Nat)) H Q
theorem scWord : FnScope ["row", "at", "sign"] ["row", "at"] (defScope sWord) := ⟨rfl, rfl, rfl, by decide +kernel, rfl, by decide +kernel, by decide +kernel⟩
theorem rv_catS {a b : Str} {H : Hp} (h : a.length + b.length ≤ 100000) : RV rAddS (.str a) (.str b) H (.str (a ++ b)) := fun H1 _ _ q => ⟨a, b, rfl, rfl, sz_of h, q H1 (Ex.refl H1)⟩
theorem sv_run {r s : Str} {a m : Nat} {H : Hp} (hr : r.length ≤ 100000) (ha : a ≤ r.length) : SpV spRun [.str r, .int (a : Int), .str s, .int (m : Int)] H (.int (endOfRun r a s m : Nat)) := fun H1 e Q q E => ⟨r, s, a, m, rfl, hr, ha, fun H2 e2 => q H2 e2⟩
theorem ok_word {f fR : Addr} {fd fdR : FuncData} (F : Fun K "end_of_word" "end_of_word" sWord f fd) (FR : Fun K "end_of_run" "end_of_run" sRun fR fdR) (bR : Binds K fdR ["row", "at", "signs", "most"] []) (mR : mg "end_of_run" = some (.ref fR)) (G : Gn K mg) :
    FnOk P w K mg base CX0 2 f fd ["row", "at"] spWord := by
  have GR : FnOk P w K mg base CX0 1 fR fdR ["row", "at", "signs", "most"] spRun := ok_run FR G
  obtain ⟨_, gL⟩ := G.letters
  obtain ⟨_, gF⟩ := G.figures
  obtain ⟨_, gM⟩ := G.marks
  obtain ⟨_, gS⟩ := G.mostS
  obtain ⟨_, gN⟩ := G.mostF
  refine F.ok scWord (fun vs H Q E h => ?_) (fun cdv A outer s0 H vs Q E hr h => ?_)
  · obtain ⟨r, a, rfl, _⟩ := h
    rfl
  · obtain ⟨r, a, rfl, hr0, ha, q⟩ := h
    refine ⟨_, pss_cons (ps_set (i := 2) scWord.nd rfl (.inl rfl) (pe_ix ix_str (pv 0) (pv 1) (fun _ _ => rfl)))
      (pss_cons (ps_if (pt_cmpR op_inS (pv 2) (pe_glob (v := .str MRK) rfl gM ⟨_, rfl⟩) (by rfl)) (pss_one (ps_ret (pe_op op_add (pv 1) pe_int))) pss_nil)
      (pss_cons (ps_if (PW.pt (pw_and (pt_cmpR op_gt (pv 1) pe_int (nomark _)) (pw_and1 (pt_cmpR op_inS (pe_ix ix_str (pv 0) (pe_op op_sub (pv 1) pe_int) (fun _ _ => rfl)) (pe_op op_add_str (pe_glob (v := .str LET) rfl gL ⟨_, rfl⟩) (pe_glob (v := .str FIG) rfl gF ⟨_, rfl⟩)) (by rfl))))) (pss_one (ps_ret (pv 1))) pss_nil)
      (pss_cons (ps_if (pt_cmpR op_eq (pv 2) pe_str (nomark _)) (pss_one (ps_ret (pe_op op_add (pv 1) pe_int))) pss_nil)
      (pss_cons (ps_if (pt_cmpR op_inS (pv 2) (pe_glob (v := .str FIG) rfl gF ⟨_, rfl⟩) (by rfl)) (pss_one (ps_ret (pe_call GR hr rfl mR FR.kp bR .nil pass0 (pa_cons (pv 0) (pa_cons (pv 1) (pa_cons (pe_glob (v := .str FIG) rfl gF ⟨_, rfl⟩) (pa_cons (pe_glob (v := .int 9) rfl gN ⟨_, rfl⟩) pa_nil))))))) pss_nil)
      (pss_cons (ps_if (pt_cmpR op_inS (pv 2) (pe_glob (v := .str LET) rfl gL ⟨_, rfl⟩) (by rfl)) (pss_one (ps_ret (pe_call GR hr rfl mR FR.kp bR .nil pass0 (pa_cons (pv 0) (pa_cons (pv 1) (pa_cons (pe_op op_add_str (pe_glob (v := .str LET) rfl gL ⟨_, rfl⟩) (pe_glob (v := .str FIG) rfl gF ⟨_, rfl⟩)) (pa_cons (pe_glob (v := .int 8) rfl gS ⟨_, rfl⟩) pa_nil))))))) pss_nil)
      (pss_one (ps_ret (pv 1)))))))), ?_⟩
    have hcat : LET.length + FIG.length ≤ 100000 := by decide +kernel
    refine q_asg (v := .str ⟨#[signAt r a]⟩) (ev_op (ev_var rfl) (ev_var rfl) (rv_sign hr0 ha)) fun H1 e1 => ?_
    unfold endOfWord at q
    refine q_when (b := has MRK (signAt r a)) (et_test (ev_op (ev_var rfl) ev_c rv_inS)) (fun hb H2 e2 => ?_) (fun hb H2 e2 => ?_)
    · simp only [hb, if_true] at q
      exact s_ret (v := .int ((a : Nat) + 1)) (D := { nx := _, rt := Q }) (ev_op (ev_var rfl) ev_c rv_I0) fun H3 e3 => q.go (Ex.trans (Ex.trans e1 e2) e3)
    simp only [hb, Bool.false_eq_true, if_false] at q
    refine q_when (b := decide ((0 : Int) < (a : Nat)) && has (LET ++ FIG) (signAt r (a - 1))) (et_and (et_test (ev_op (ev_var rfl) ev_c rv_I0)) fun h0 => et_test (ev_op (ev_op (ev_var rfl) (ev_is (ev_op (ev_var rfl) ev_c rv_I0) (w := .int ((a - 1 : Nat) : Int)) (congrArg V.int (by have := of_decide_eq_true h0; omega))) (rv_sign hr0 (by omega))) (ev_op ev_c ev_c (rv_catS hcat)) rv_inS)) (fun hc H3 e3 => ?_) (fun hc H3 e3 => ?_)
    · have hc' : (decide (0 < a) && has (LET ++ FIG) (signAt r (a - 1))) = true := by rw [← hc]; congr 1; exact decide_eq_decide.mpr (by omega)
      simp only [hc', if_true] at q
      exact s_ret (v := .int (a : Nat)) (D := { nx := _, rt := Q }) (ev_var rfl) fun H4 e4 => q.go (Ex.trans (Ex.trans (Ex.trans e1 e2) e3) e4)
    have hc' : (decide (0 < a) && has (LET ++ FIG) (signAt r (a - 1))) = false := by rw [← hc]; congr 1; exact decide_eq_decide.mpr (by omega)
    simp only [hc', Bool.false_eq_true, if_false] at q
    have E3 := Ex.trans (Ex.trans e1 e2) e3
    refine q_when (b := decide (V.str ⟨#[signAt r a]⟩ = V.str "0")) (et_test (ev_op (ev_var rfl) ev_c (rv_eq rfl))) (fun hb H4 e4 => ?_) (fun hb H4 e4 => ?_)
    · have h48 : signAt r a = 48 := by
        have z := of_decide_eq_true hb
        injection z with z
        have z2 : (⟨#[signAt r a]⟩ : Str).cps = ("0" : Str).cps := congrArg Str.cps z
        exact (by simpa using congrArg (fun x : Array Nat => x.getD 0 0) z2 : signAt r a = _)
      simp only [h48, if_true] at q
      exact s_ret (v := .int ((a : Nat) + 1)) (D := { nx := _, rt := Q }) (ev_op (ev_var rfl) ev_c rv_I0) fun H5 e5 => q.go (Ex.trans (Ex.trans E3 e4) e5)
    have h48 : ¬ signAt r a = 48 := fun z => by
      have z2 := of_decide_eq_false hb
      exact z2 (by rw [z]; rfl)
    simp only [h48, if_false] at q
    refine q_when (b := has FIG (signAt r a)) (et_test (ev_op (ev_var rfl) ev_c rv_inS)) (fun hd H5 e5 => ?_) (fun hd H5 e5 => ?_)
    · simp only [hd, if_true] at q
      exact s_ret (v := .int (endOfRun r a FIG 9 : Nat)) (D := { nx := _, rt := Q }) (ev_call (ea_cons (ev_var rfl) (ea_cons (ev_var rfl) (ea_cons ev_c (ea_cons ev_c ea_nil)))) (sv_run (m := 9) hr0 (by omega))) fun H6 e6 => q.go (Ex.trans (Ex.trans (Ex.trans E3 e4) e5) e6)
    simp only [hd, Bool.false_eq_true, if_false] at q
    refine q_when (b := has LET (signAt r a)) (et_test (ev_op (ev_var rfl) ev_c rv_inS)) (fun hd H6 e6 => ?_) (fun hd H6 e6 => ?_)
    · simp only [hd, if_true] at q
      exact s_ret (v := .int (endOfRun r a (LET ++ FIG) 8 : Nat)) (D := { nx := _, rt := Q }) (ev_call (ea_cons (ev_var rfl) (ea_cons (ev_var rfl) (ea_cons (ev_op ev_c ev_c (rv_catS hcat)) (ea_cons ev_c ea_nil)))) (sv_run (m := 8) hr0 (by omega))) fun H7 e7 => q.go (Ex.trans (Ex.trans (Ex.trans (Ex.trans E3 e4) e5) e6) e7)
    simp only [hd, Bool.false_eq_true, if_false] at q
    exact s_ret (v := .int (a : Nat)) (D := { nx := _, rt := Q }) (ev_var rfl) fun H7 e7 => q.go (Ex.trans (Ex.trans (Ex.trans (Ex.trans E3 e4) e5) e6) e7)
/-! ### kind_of, blanks_of, is_passed -/
def inMarks (w : Str) : Bool := !(Builtin.Str.occurrences MRK w 0 MRK.length 1).isEmpty
def kindOf (w : Str) : Str := if decide (V.str w = V.str "") then "no word" else if inV (.str w) (KEYS.map V.str) || inMarks w then w else if has FIG (signAt w 0) then "a number" else "a name"
def spKind : Sp := fun vs H Q _ => ∃ w : Str, vs = [.str w] ∧ w.length ≤ 100000 ∧ RetV (.str (kindOf w)) H Q
theorem scKind : FnScope ["word"] ["word"] (defScope sKind) := ⟨rfl, rfl, rfl, by decide +kernel, rfl, by decide +kernel, by decide +kernel⟩
/-- a tuple of the module's top -/
def KTup (K : PySem.W.Frag) (mg : Str → Option Value) (x : Str) (vs : List V) : Prop := ∃ a, mg x = some (.ref a) ∧ (∀ H, SqT K H a vs)
/-- a dict of the module's top, by its keys (texts) -/
def KSet (K : PySem.W.Frag) (w : World) (mg : Str → Option Value) (x : Str) (ks : List V) : Prop := ∃ a es n, mg x = some (.ref a) ∧ KDict K w a es n ∧ ∀ z : Str, ∃ r, PySem.W.nsIn K a z = some r ∧ r.isSome = inV (.str z) ks
theorem rv_inK {a : Addr} {ks : List V} (h : ∀ z : Str, ∃ r, PySem.W.nsIn K a z = some r ∧ r.isSome = inV (.str z) ks) {z : Str} {H : Hp} : RV (fun x y H Q => ∃ (z : Str) (r : Option Value), x = .str z ∧ y = .ref a ∧ PySem.W.nsIn K a z = some r ∧ Q (.bl r.isSome) H) (.str z) (.ref a) H (.bl (inV (.str z) ks)) := fun H1 _ Q q => by
  obtain ⟨r, h1, h2⟩ := h z
  exact ⟨z, r, rfl, rfl, h1, by rw [h2]; exact q H1 (Ex.refl H1)⟩
theorem rv_inStr {a b : Str} {H : Hp} : RV (fun x y H Q => ∃ i j, x = .str i ∧ y = .str j ∧ Q (.bl (!(Builtin.Str.occurrences j i 0 j.length 1).isEmpty)) H) (.str a) (.str b) H (.bl (!(Builtin.Str.occurrences b a 0 b.length 1).isEmpty)) := fun H1 _ _ q => ⟨a, b, rfl, rfl, q H1 (Ex.refl H1)⟩
theorem keys_flat : (KEYS.map V.str).all flatV = true := by decide +kernel
theorem ok_kind {f : Addr} {fd : FuncData} (F : Fun K "kind_of" "kind_of" sKind f fd) (G : Gn K mg) (GK : KSet K w mg "KEYWORDS" (KEYS.map V.str)) : FnOk P w K mg base CX0 1 f fd ["word"] spKind := by
  obtain ⟨_, gF⟩ := G.figures
  obtain ⟨_, gM⟩ := G.marks
  obtain ⟨_, g1⟩ := G.kName
  obtain ⟨_, g2⟩ := G.kNumber
  obtain ⟨_, g3⟩ := G.kNo
  obtain ⟨ak, ek, nk, gK, dK, hK⟩ := GK
  refine F.ok scKind (fun vs H Q E h => ?_) (fun cdv A outer s0 H vs Q E hr h => ?_)
  · obtain ⟨w, rfl, _⟩ := h
    rfl
  · obtain ⟨w, rfl, hw, q⟩ := h
    refine ⟨_, pss_cons (ps_if (pt_cmpR op_eq (pv 0) pe_str (nomark _)) (pss_one (ps_ret (pe_glob (v := .str "no word") rfl g3 ⟨_, rfl⟩))) pss_nil)
      (pss_cons (ps_if (PW.pt (pw_or (pt_cmpR (op_in_kd dK) (pv 0) (pe_glob (v := .ref ak) rfl gK rfl) (by rfl)) (pw_or1 (pt_cmpR op_in_str (pv 0) (pe_glob (v := .str MRK) rfl gM ⟨_, rfl⟩) (by rfl))))) (pss_one (ps_ret (pv 0))) pss_nil)
      (pss_one (ps_ret (pe_ifExp (pt_cmpR op_inS (pe_ix ix_str (pv 0) pe_int (fun _ _ => rfl)) (pe_glob (v := .str FIG) rfl gF ⟨_, rfl⟩) (by rfl)) (pe_glob (v := .str "a number") rfl g2 ⟨_, rfl⟩) (pe_glob (v := .str "a name") rfl g1 ⟨_, rfl⟩))))), ?_⟩
    unfold kindOf at q
    refine q_when (b := decide (V.str w = V.str "")) (et_test (ev_op (ev_var rfl) ev_c (rv_eq rfl))) (fun hb H1 e1 => ?_) (fun hb H1 e1 => ?_)
    · simp only [hb, if_true] at q
      exact s_ret (v := .str "no word") (D := { nx := _, rt := Q }) ev_c fun H2 e2 => q.go (Ex.trans e1 e2)
    simp only [hb, Bool.false_eq_true, if_false] at q
    refine q_when (b := inV (.str w) (KEYS.map V.str) || inMarks w) (et_or (et_test (ev_op (ev_var rfl) ev_c (rv_inK hK))) fun _ => et_test (ev_op (ev_var rfl) ev_c rv_inStr)) (fun hc H2 e2 => ?_) (fun hc H2 e2 => ?_)
    · simp only [hc, if_true] at q
      exact s_ret (v := .str w) (D := { nx := _, rt := Q }) (ev_var rfl) fun H3 e3 => q.go (Ex.trans (Ex.trans e1 e2) e3)
    simp only [hc, Bool.false_eq_true, if_false] at q
    have hl : 0 < w.length := by
      refine Nat.pos_of_ne_zero fun z => of_decide_eq_false hb ?_
      have : w = "" := by
        obtain ⟨⟨l⟩⟩ := w
        have : l = [] := List.eq_nil_of_length_eq_zero z
        subst this
        rfl
      rw [this]
    refine s_ret (v := .str (if has FIG (signAt w 0) then "a number" else "a name")) (ev_if (b := has FIG (signAt w 0)) (et_test (ev_op (ev_op (ev_var rfl) (ev_c (v := .int ((0 : Nat) : Int))) (rv_sign hw hl)) ev_c rv_inS)) (fun h => ev_is ev_c (by rw [h]; rfl)) (fun h => ev_is ev_c (by rw [h]; rfl))) fun H3 e3 => q.go (Ex.trans (Ex.trans e1 e2) e3)
def blanksOf (r : Str) : Int := (r.length : Int) - ((Txt.lstripChars r " ").length : Int)
def spBlanks : Sp := fun vs H Q _ => ∃ r : Str, vs = [.str r] ∧ r.length ≤ 100000 ∧ RetV (.int (blanksOf r)) H Q
theorem scBlanks : FnScope ["row"] ["row"] (defScope sBlanks) := ⟨rfl, rfl, rfl, by decide +kernel, rfl, by decide +kernel, by decide +kernel⟩
theorem ev_lstrip {σ : L2.St} {H : Hp} {te tf : TE} {a b : Str} (h : Ev te σ H (.str a)) (h2 : Ev tf σ H (.str b)) (hz : a.length ≤ 100000) : Ev (tM1 (fun x xs H Q => ∃ a b, x = .str a ∧ xs = [.str b] ∧ a.length ≤ sizeLine ∧ Q (.str (Txt.lstripChars a b)) H) te tf) σ H (.str (Txt.lstripChars a b)) := fun H1 e _ q => h H1 e _ fun H2 e2 => ⟨⟨a, rfl⟩, h2 H2 (Ex.trans e e2) _ fun H3 e3 => ⟨a, b, rfl, rfl, sz_of hz, q H3 (Ex.trans e2 e3)⟩⟩
theorem ev_rstrip {σ : L2.St} {H : Hp} {te tf : TE} {a b : Str} (h : Ev te σ H (.str a)) (h2 : Ev tf σ H (.str b)) (hz : a.length ≤ 100000) : Ev (tM1 (fun x xs H Q => ∃ a b, x = .str a ∧ xs = [.str b] ∧ a.length ≤ sizeLine ∧ Q (.str (Txt.rstripChars a b)) H) te tf) σ H (.str (Txt.rstripChars a b)) := fun H1 e _ q => h H1 e _ fun H2 e2 => ⟨⟨a, rfl⟩, h2 H2 (Ex.trans e e2) _ fun H3 e3 => ⟨a, b, rfl, rfl, sz_of hz, q H3 (Ex.trans e2 e3)⟩⟩
theorem ev_starts {σ : L2.St} {H : Hp} {te tf : TE} {a b : Str} (h : Ev te σ H (.str a)) (h2 : Ev tf σ H (.str b)) : Ev (tM1 (fun x xs H Q => ∃ a b, x = .str a ∧ xs = [.str b] ∧ Q (.bl (Txt.startswith a b)) H) te tf) σ H (.bl (Txt.startswith a b)) := fun H1 e _ q => h H1 e _ fun H2 e2 => ⟨⟨a, rfl⟩, h2 H2 (Ex.trans e e2) _ fun H3 e3 => ⟨a, b, rfl, rfl, q H3 (Ex.trans e2 e3)⟩⟩
theorem strip_le (goes : Nat → Bool) (l r : Bool) (x : Str) : (Txt.stripBy goes l r x).length ≤ x.length := by
  unfold Txt.stripBy
  split
  · exact Nat.le_refl _
  · exact PySem.le_strSub _ _ _
theorem lstrip_le (a b : Str) : (Txt.lstripChars a b).length ≤ a.length := strip_le _ _ _ _
theorem rstrip_le (a b : Str) : (Txt.rstripChars a b).length ≤ a.length := strip_le _ _ _ _
theorem ok_blanks {f : Addr} {fd : FuncData} (F : Fun K "blanks_of" "blanks_of" sBlanks f fd) (G : Gn K mg) : FnOk P w K mg base CX0 1 f fd ["row"] spBlanks := by
  refine F.ok scBlanks (fun vs H Q E h => ?_) (fun cdv A outer s0 H vs Q E hr h => ?_)
  · obtain ⟨w, rfl, _⟩ := h
    rfl
  · obtain ⟨r, rfl, hz, q⟩ := h
    refine ⟨_, pss_one (ps_ret (pe_op op_sub (pe_callB call_len (by rfl) G.len PySem.boot_len (pa_cons (pv 0) pa_nil)) (pe_callB call_len (by rfl) G.len PySem.boot_len (pa_cons (pe_m1 PySem.F.slot_str_lstrip PySem.F.type_str_lstrip mt_lstripChars (pv 0) pe_str) pa_nil)))), ?_⟩
    exact s_ret (v := .int (blanksOf r)) (D := { nx := _, rt := Q }) (ev_op (ev_lenS (ev_var rfl) hz) (ev_lenS (ev_lstrip (ev_var rfl) ev_c hz) (Nat.le_trans (lstrip_le _ _) hz)) rv_I0) fun H1 e1 => q.go e1
def isPassed (r : Str) : Bool := decide (V.str (Txt.lstripChars r " ") = V.str "") || Txt.startswith (Txt.lstripChars r " ") "--"
def spPassed : Sp := fun vs H Q _ => ∃ r : Str, vs = [.str r] ∧ r.length ≤ 100000 ∧ RetV (.bl (isPassed r)) H Q
theorem scPassed : FnScope ["row", "bare"] ["row"] (defScope sPassed) := ⟨rfl, rfl, rfl, by decide +kernel, rfl, by decide +kernel, by decide +kernel⟩
theorem ok_passed {f : Addr} {fd : FuncData} (F : Fun K "is_passed" "is_passed" sPassed f fd) : FnOk P w K mg base CX0 1 f fd ["row"] spPassed := by
  refine F.ok scPassed (fun vs H Q E h => ?_) (fun cdv A outer s0 H vs Q E hr h => ?_)
  · obtain ⟨w, rfl, _⟩ := h
    rfl
  · obtain ⟨r, rfl, hz, q⟩ := h
    refine ⟨_, pss_cons (ps_set (i := 1) scPassed.nd rfl (.inl rfl) (pe_m1 PySem.F.slot_str_lstrip PySem.F.type_str_lstrip mt_lstripChars (pv 0) pe_str)) (pss_one (ps_ret (pe_or (pe_cmpR op_eq (pv 1) pe_str (nomark _)) (pe_one (pe_m1 PySem.F.slot_str_startswith PySem.F.type_str_startswith mt_startswith (pv 1) pe_str))))), ?_⟩
    refine q_asg (v := .str (Txt.lstripChars r " ")) (ev_lstrip (ev_var rfl) ev_c hz) fun H1 e1 => ?_
    exact s_ret (v := .bl (isPassed r)) (D := { nx := _, rt := Q }) (ev_orV (ev_op (ev_var rfl) ev_c (rv_eq rfl)) fun _ => ev_starts (ev_var rfl) ev_c) fun H2 e2 => q.go (Ex.trans e1 e2)
end
end Prs
set_option Elab.async false
set_option linter.all false
set_option maxRecDepth 100000
set_option maxHeartbeats 4000000
namespace Prs
open PySem PySem.Spec PyProof.Rows L2 Evl
theorem runGo_le {r s : Str} {lim : Nat} : ∀ (n e : Nat), e ≤ r.length → e ≤ runGo r s lim n e ∧ runGo r s lim n e ≤ r.length
  | 0, e, h => ⟨Nat.le_refl _, h⟩
  | n + 1, e, h => by
    unfold runGo
    split
    · rename_i c
      have := runGo_le (r := r) (s := s) (lim := lim) n (e + 1) c.1
      exact ⟨by omega, this.2⟩
    · exact ⟨Nat.le_refl _, h⟩
theorem endOfWord_le {r : Str} {a : Nat} (h : a < r.length) : a ≤ endOfWord r a ∧ endOfWord r a ≤ r.length := by
  unfold endOfWord
  simp only
  split
  · omega
  split
  · omega
  split
  · omega
  split
  · exact runGo_le _ _ (by omega)
  split
  · exact runGo_le _ _ (by omega)
  · omega
theorem blanks_nn (r : Str) : 0 ≤ blanksOf r ∧ blanksOf r ≤ r.length := by
  have := lstrip_le r " "
  unfold blanksOf
  omega
theorem cut_from {r : Str} {e : Nat} (h : e ≤ r.length) : (cutS r (some (e : Int)) none).length = r.length - e := by
  show (((r.cps.toList.drop (HT.sIx r.length 0 (some (e : Int)))).take (HT.sIx r.length r.length none - HT.sIx r.length 0 (some (e : Int)))).toArray).size = r.length - e
  have h1 : HT.sIx r.length 0 (some (e : Int)) = e := by
    rw [HT.sIx_nat]
    exact Nat.min_eq_left h
  have h2 : HT.sIx r.length r.length none = r.length := rfl
  rw [h1, h2, List.size_toArray, List.length_take, List.length_drop, Array.length_toList]
  show min (r.length - e) (r.length - e) = _
  omega
structure Wd where
  kind : Str
  word : Str
  col : Nat
def cut (r : Str) (a e : Nat) : Str := cutS r (some (a : Int)) (some (e : Int))
def nextAt (r : Str) (e : Nat) : Nat := e + (blanksOf (cutS r (some (e : Int)) none)).toNat
def lastWd (r : Str) : Wd := ⟨"the row's end", "", (Txt.rstripChars r " ").length + 1⟩
def wordsGo (r : Str) : Nat → Nat → List Wd
  | 0, _ => []
  | n + 1, a => if a < r.length then ⟨kindOf (cut r a (endOfWord r a)), cut r a (endOfWord r a), a + 1⟩ :: (if endOfWord r a = a then [] else wordsGo r n (nextAt r (endOfWord r a))) else [lastWd r]
def wordsOf (r : Str) : List Wd := wordsGo r (r.length + 1) (blanksOf r).toNat
theorem nextAt_le {r : Str} {e : Nat} (h : e ≤ r.length) : e ≤ nextAt r e ∧ nextAt r e ≤ r.length := by
  have h1 := blanks_nn (cutS r (some (e : Int)) none)
  have h2 := cut_from h
  unfold nextAt
  omega
/-- the tuples at ts are the words ws -/
abbrev WordsAre (H : Hp) (ts : List Addr) (ws : List Wd) : Prop := Paired (fun t w => H t = some (.tup [.str w.kind, .str w.word, .int (w.col : Nat)])) ts ws
theorem WordsAre.mono {H H' : Hp} {ts : List Addr} {ws : List Wd} (e : Ex H H') (h : WordsAre H ts ws) : WordsAre H' ts ws := Paired.mapP h fun _ _ x => e _ _ x
theorem WordsAre.snoc {H : Hp} : ∀ {ts : List Addr} {ws : List Wd} {t : Addr} {w : Wd}, WordsAre H ts ws → H t = some (.tup [.str w.kind, .str w.word, .int (w.col : Nat)]) → WordsAre H (ts ++ [t]) (ws ++ [w])
  | _, _, _, _, .nil, h => .cons h .nil
  | _, _, _, _, .cons r s, h => .cons r (WordsAre.snoc s h)
section
variable {P : Program} {w : World} {K : PySem.W.Frag} {mg : Str → Option Value} {base : Heap}
def spWordsOf : Sp := fun vs H Q _ => ∃ r : Str, vs = [.str r] ∧ r.length ≤ 10000 ∧ ∀ l ts H', H l = none → Ex H H' → H' l = some (.lst (ts.map V.ref)) → WordsAre H' ts (wordsOf r) → Q (.ref l) H'
theorem scWordsOf : FnScope ["row", "words", "at", "end"] ["row"] (defScope sWordsOf) := ⟨rfl, rfl, rfl, by decide +kernel, rfl, by decide +kernel, by decide +kernel⟩
theorem ev_cut {σ : L2.St} {H : Hp} {te : TE} {tl th : TO} {z : Str} {lo hi : Option Int} (h : Ev te σ H (.str z)) (h1 : EvO tl σ H lo) (h2 : EvO th σ H hi) (hz : z.length ≤ 100000) : Ev (tSl rSlS te tl th) σ H (.str (cutS z lo hi)) := fun H1 e _ q =>
  h H1 e _ fun H2 e2 => h1 H2 (Ex.trans e e2) _ fun H3 e3 => h2 H3 (Ex.trans (Ex.trans e e2) e3) _ fun H4 e4 => ⟨z, rfl, sz_of hz, q H4 (Ex.trans (Ex.trans e2 e3) e4)⟩
theorem sv_kind {a : Str} {H : Hp} (h : a.length ≤ 100000) : SpV spKind [.str a] H (.str (kindOf a)) := fun H1 e Q q E => ⟨a, rfl, h, fun H2 e2 => q H2 e2⟩
theorem sv_blanks {a : Str} {H : Hp} (h : a.length ≤ 100000) : SpV spBlanks [.str a] H (.int (blanksOf a)) := fun H1 e Q q E => ⟨a, rfl, h, fun H2 e2 => q H2 e2⟩
theorem sv_word {r : Str} {a : Nat} {H : Hp} (h : r.length ≤ 100000) (ha : a < r.length) : SpV spWord [.str r, .int (a : Int)] H (.int (endOfWord r a : Nat)) := fun H1 e Q q E => ⟨r, a, rfl, h, ha, fun H2 e2 => q H2 e2⟩
theorem ok_wordsOf {f fW fK fB : Addr} {fd fdW fdK fdB : FuncData} (F : Fun K "words_of" "words_of" sWordsOf f fd) (GW : FnOk P w K mg base CX0 2 fW fdW ["row", "at"] spWord) (bW : Binds K fdW ["row", "at"] []) (kW : PySem.W.keepIn K (.ref fW) = true) (mW : mg "end_of_word" = some (.ref fW))
    (GK : FnOk P w K mg base CX0 1 fK fdK ["word"] spKind) (bK : Binds K fdK ["word"] []) (kK : PySem.W.keepIn K (.ref fK) = true) (mK : mg "kind_of" = some (.ref fK))
    (GB : FnOk P w K mg base CX0 1 fB fdB ["row"] spBlanks) (bB : Binds K fdB ["row"] []) (kB : PySem.W.keepIn K (.ref fB) = true) (mB : mg "blanks_of" = some (.ref fB)) (G : Gn K mg) :
    FnOk P w K mg base CX0 3 f fd ["row"] spWordsOf := by
  obtain ⟨_, g3⟩ := G.kEnd
  refine F.ok scWordsOf (fun vs H Q E h => ?_) (fun cdv A outer s0 H vs Q E hr h => ?_)
  · obtain ⟨w, rfl, _⟩ := h
    rfl
  · obtain ⟨r, rfl, hz0, q⟩ := h
    have hz : r.length ≤ 100000 := by omega
    have hr1 : Room 1 _ := hr.mono (by decide)
    refine ⟨_, pss_cons (ps_set (i := 1) scWordsOf.nd rfl (.inl rfl) (pe_lst pa_nil))
      (pss_cons (ps_set (i := 2) scWordsOf.nd rfl (.inl rfl) (pe_call GB hr1 rfl mB kB bB .nil pass0 (pa_cons (pv 0) pa_nil)))
      (pss_cons (ps_while PassesOwn.never (pt_cmpR op_lt (pv 2) (pe_callB call_len (by rfl) G.len PySem.boot_len (pa_cons (pv 0) pa_nil)) (nomark _))
        (pss_cons (ps_set (i := 3) scWordsOf.nd rfl (.inl rfl) (pe_call GW hr rfl mW kW bW .nil pass0 (pa_cons (pv 0) (pa_cons (pv 2) pa_nil))))
        (pss_cons (ps_expr (pe_bm PySem.F.plainAttrs_list PySem.F.slot_list_append PySem.F.type_list_append mt_append (pv 1) (pa_cons (pe_tup (pa_cons (pe_call GK hr1 rfl mK kK bK .nil pass0 (pa_cons (pe_slice sl_str (pv 0) (po_some (pv 2)) (po_some (pv 3))) pa_nil)) (pa_cons (pe_slice sl_str (pv 0) (po_some (pv 2)) (po_some (pv 3))) (pa_cons (pe_op op_add (pv 2) pe_int) pa_nil)))) pa_nil)))
        (pss_cons (ps_if (pt_cmpR op_eq (pv 3) (pv 2) (nomark _)) (pss_one (ps_ret (pv 1))) pss_nil)
        (pss_one (ps_set (i := 2) scWordsOf.nd rfl (.inl rfl) (pe_op op_add (pv 3) (pe_call GB hr1 rfl mB kB bB .nil pass0 (pa_cons (pe_slice sl_str (pv 0) (po_some (pv 3)) po_none) pa_nil)))))))))
      (pss_cons (ps_expr (pe_bm PySem.F.plainAttrs_list PySem.F.slot_list_append PySem.F.type_list_append mt_append (pv 1) (pa_cons (pe_tup (pa_cons (pe_glob (v := .str "the row's end") rfl g3 ⟨_, rfl⟩) (pa_cons pe_str (pa_cons (pe_op op_add (pe_callB call_len (by rfl) G.len PySem.boot_len (pa_cons (pe_m1 PySem.F.slot_str_rstrip PySem.F.type_str_rstrip mt_rstripChars (pv 0) pe_str) pa_nil)) pe_int) pa_nil)))) pa_nil)))
      (pss_one (ps_ret (pv 1)))))), ?_⟩
    have hb := blanks_nn r
    obtain ⟨b0, hb0⟩ : ∃ b0 : Nat, blanksOf r = (b0 : Int) := ⟨(blanksOf r).toNat, by omega⟩
    refine q_asgL (xs := []) (el_lst ea_nil (by show 0 ≤ 100000; decide)) fun l H1 nl e1 h1 => ?_
    refine q_asg (v := .int (b0 : Nat)) (ev_is (ev_call (ea_cons (ev_var rfl) ea_nil) (sv_blanks hz)) (congrArg V.int hb0)) fun H2 e2 => ?_
    have hw0 : wordsOf r = [] ++ wordsGo r (r.length + 1) b0 := by
      show wordsGo r (r.length + 1) (blanksOf r).toNat = _
      rw [hb0]
      rfl
    refine q_while (fun k σ H' => ∃ (a : Nat) (ts : List Addr) (ws : List Wd) (v3 : Option V), a ≤ r.length ∧ Ex H H' ∧ σ = [some (.str r), some (.ref l), some (.int (a : Nat)), v3] ∧ H' l = some (.lst (ts.map V.ref)) ∧ WordsAre H' ts ws ∧ ts.length ≤ a ∧ r.length - a < k ∧ wordsOf r = ws ++ wordsGo r k a) (r.length + 1)
      ⟨b0, [], [], none, by omega, Ex.trans e1 e2, rfl, e2 _ _ h1, .nil, Nat.zero_le _, by omega, hw0⟩ ?_
    rintro k σ' H' ⟨a, ts, ws, v3, ha, x, rfl, hl, hW, hts, hk, hw⟩
    refine ⟨decide ((a : Int) < (r.length : Nat)), et_test (ev_op (ev_var rfl) (ev_lenS (ev_var rfl) hz) rv_I0), fun hc H3 e3 => ?_, fun hc H3 e3 => ?_⟩
    · have hlt : a < r.length := by have := of_decide_eq_true hc; omega
      have hle := endOfWord_le hlt
      cases k with
      | zero => omega
      | succ k =>
        have hw' : wordsOf r = ws ++ (⟨kindOf (cut r a (endOfWord r a)), cut r a (endOfWord r a), a + 1⟩ :: (if endOfWord r a = a then [] else wordsGo r k (nextAt r (endOfWord r a)))) := by
          rw [hw]
          show ws ++ (if a < r.length then _ else _) = _
          rw [if_pos hlt]
        refine ⟨fun σ2 H4 => ∃ (a : Nat) (ts : List Addr) (ws : List Wd) (v3 : Option V), a ≤ r.length ∧ Ex H H4 ∧ σ2 = [some (.str r), some (.ref l), some (.int (a : Nat)), v3] ∧ H4 l = some (.lst (ts.map V.ref)) ∧ WordsAre H4 ts ws ∧ ts.length ≤ a ∧ r.length - a < k ∧ wordsOf r = ws ++ wordsGo r k a, fun σ2 H4 z => ⟨k, Nat.lt_succ_self _, z⟩, ?_⟩
        refine q_asg (v := .int (endOfWord r a : Nat)) (ev_call (ea_cons (ev_var rfl) (ea_cons (ev_var rfl) ea_nil)) (sv_word hz hlt)) fun H4 e4 => ?_
        have hl4 := e4 _ _ (e3 _ _ hl)
        have hcz : (cut r a (endOfWord r a)).length ≤ 100000 := Nat.le_trans (cutS_length _ _ _) hz
        refine q_appU (ys := [.str (kindOf (cut r a (endOfWord r a))), .str (cut r a (endOfWord r a)), .int ((a : Int) + 1)]) hl4 (ev_var rfl) (eu_tup (ea_cons (ev_call (ea_cons (ev_cut (ev_var rfl) (eo_some (ev_var rfl)) (eo_some (ev_var rfl)) hz) ea_nil) (sv_kind hcz)) (ea_cons (ev_cut (ev_var rfl) (eo_some (ev_var rfl)) (eo_some (ev_var rfl)) hz) (ea_cons (ev_op (ev_var rfl) ev_c rv_I0) ea_nil))) (by show 3 ≤ 100000; decide)) (by rw [List.length_map]; omega) fun t H5 nt e5 ht => ?_
        have el5 : l ≠ t := ne_of_none hl4 nt
        have E5 : Ex H (upd H5 l (.lst (ts.map V.ref ++ [.ref t]))) := Ex.mut (Ex.trans (Ex.trans (Ex.trans x e3) e4) e5) nl
        have ht' : (upd H5 l (.lst (ts.map V.ref ++ [.ref t]))) t = some (.tup [.str (kindOf (cut r a (endOfWord r a))), .str (cut r a (endOfWord r a)), .int (((a + 1 : Nat)) : Int)]) := by
          rw [upd_ne (Ne.symm el5)]
          exact ht
        have hW5 : WordsAre (upd H5 l (.lst (ts.map V.ref ++ [.ref t]))) (ts ++ [t]) (ws ++ [⟨kindOf (cut r a (endOfWord r a)), cut r a (endOfWord r a), a + 1⟩]) := by
          refine WordsAre.snoc ?_ ht'
          refine Paired.mapP hW fun b z hb => ?_
          have hb2 := e5 _ _ (e4 _ _ (e3 _ _ hb))
          have : b ≠ l := fun y => by
            rw [y, e5 _ _ hl4] at hb2
            cases hb2
          rw [upd_ne this]
          exact hb2
        have hl5 : (upd H5 l (.lst (ts.map V.ref ++ [.ref t]))) l = some (.lst ((ts ++ [t]).map V.ref)) := by
          rw [upd_same, List.map_append]
          rfl
        refine q_when (b := decide (V.int (endOfWord r a : Nat) = V.int (a : Nat))) (et_test (ev_op (ev_var rfl) (ev_var rfl) (rv_eq rfl))) (fun hd H6 e6 => ?_) (fun hd H6 e6 => ?_)
        · have he : endOfWord r a = a := by
            have := of_decide_eq_true hd
            injection this with z
            exact Int.ofNat.inj z
          rw [if_pos he] at hw'
          refine s_ret (v := .ref l) (D := { nx := _, rt := Q, bk := _, ct := _ }) (ev_var rfl) fun H7 e7 => ?_
          exact q l (ts ++ [t]) H7 nl (Ex.trans (Ex.trans E5 e6) e7) (e7 _ _ (e6 _ _ hl5)) (by rw [hw']; exact WordsAre.mono (Ex.trans e6 e7) hW5)
        · have he : ¬ endOfWord r a = a := fun z => of_decide_eq_false hd (by rw [z])
          rw [if_neg he] at hw'
          have hn := nextAt_le hle.2
          have hcf := cut_from hle.2
          refine s_asg (v := .int (nextAt r (endOfWord r a) : Nat)) (ev_is (ev_op (ev_var rfl) (ev_call (ea_cons (ev_cut (ev_var rfl) (eo_some (ev_var rfl)) eo_none hz) ea_nil) (sv_blanks (by omega))) rv_I0) (congrArg V.int ?_)) fun H7 e7 => ?_
          · have := blanks_nn (cutS r (some ((endOfWord r a : Nat) : Int)) none)
            unfold nextAt
            omega
          · exact ⟨nextAt r (endOfWord r a), ts ++ [t], ws ++ [⟨kindOf (cut r a (endOfWord r a)), cut r a (endOfWord r a), a + 1⟩], _, hn.2, Ex.trans (Ex.trans E5 e6) e7, rfl, e7 _ _ (e6 _ _ hl5), WordsAre.mono (Ex.trans e6 e7) hW5, by rw [List.length_append]; show ts.length + 1 ≤ _; omega, by omega, by rw [hw', List.append_assoc]; rfl⟩
    · have hge : ¬ a < r.length := fun z => of_decide_eq_false hc (by omega)
      cases k with
      | zero => omega
      | succ k =>
        have hw' : wordsOf r = ws ++ [lastWd r] := by
          rw [hw]
          show ws ++ (if a < r.length then _ else [lastWd r]) = _
          rw [if_neg hge]
        have hl3 := e3 _ _ hl
        refine q_appU (ys := [.str "the row's end", .str "", .int (((Txt.rstripChars r " ").length : Nat) + 1)]) hl3 (ev_var rfl) (eu_tup (ea_cons ev_c (ea_cons ev_c (ea_cons (ev_op (ev_lenS (ev_rstrip (ev_var rfl) ev_c hz) (Nat.le_trans (rstrip_le _ _) hz)) ev_c rv_I0) ea_nil))) (by show 3 ≤ 100000; decide)) (by rw [List.length_map]; omega) fun t H5 nt e5 ht => ?_
        have el5 : l ≠ t := ne_of_none hl3 nt
        have E5 : Ex H (upd H5 l (.lst (ts.map V.ref ++ [.ref t]))) := Ex.mut (Ex.trans (Ex.trans x e3) e5) nl
        have hW5 : WordsAre (upd H5 l (.lst (ts.map V.ref ++ [.ref t]))) (ts ++ [t]) (ws ++ [lastWd r]) := by
          refine WordsAre.snoc ?_ (by rw [upd_ne (Ne.symm el5)]; exact ht)
          refine Paired.mapP hW fun b z hb => ?_
          have hb2 := e5 _ _ (e3 _ _ hb)
          have : b ≠ l := fun y => by
            rw [y, e5 _ _ hl3] at hb2
            cases hb2
          rw [upd_ne this]
          exact hb2
        refine s_ret (v := .ref l) (D := { nx := _, rt := Q }) (ev_var rfl) fun H7 e7 => ?_
        exact q l (ts ++ [t]) H7 nl (Ex.trans E5 e7) (e7 _ _ (by rw [upd_same, List.map_append]; rfl)) (by rw [hw']; exact WordsAre.mono e7 hW5)
end
end Prs
set_option Elab.async false
set_option linter.all false
set_option maxRecDepth 100000
set_option maxHeartbeats 4000000
/-! *s of a text; s.isidentifier(); list(d) of a dict of the top -/
namespace L2
open PySem PySem.Spec PyProof.Rows Evl
/-- the signs of a text, each a text of its own -/
def signsV (z : Str) : List V := z.cps.toList.map fun c => V.str ⟨#[c]⟩
theorem signs_vals : ∀ {cs : List Nat} {us : List Value}, us.length = cs.length → (∀ (j : Nat) (v : Value), us[j]? = some v → ∃ c t, cs[j]? = some c ∧ v = .str ⟨#[c]⟩ t) → Vals (cs.map fun c => V.str ⟨#[c]⟩) us
  | [], [], _, _ => .nil
  | c :: cs, u :: us, hl, h => by
    obtain ⟨d, t, e1, e2⟩ := h 0 u rfl
    obtain rfl : c = d := Option.some.inj e1
    exact .cons ⟨t, e2⟩ (signs_vals (Nat.succ.inj hl) fun j v e => h (j + 1) v e)
section
variable {X : Cx} {pins : List (Addr × Obj)} {σ : L2.St} {H : Hp} {s : Shared}
theorem star_txt {z : Str} {t : Tok} {E : Value → Shared → Prop} {Q : List Value → Shared → Prop} (hc : X.calm = true) (I : Inv X pins σ H s) (hz : z.length ≤ 100000) (hQ : ∀ us s', Inv X pins σ H s' → Vals (signsV z) us → Q us s') : PySem.W.StarOf (model X.prog X.w) X.A E (.str z t) Q s := by
  unfold PySem.W.StarOf notIterableAtAll
  refine wpAny_bind (wpAny_specialOf (T := "str") (v := .str z t) rfl PySem.F.slot_str_iter.lookup (wpAny_pure ⟨rfl, ?_⟩))
  refine wpAny_collect_str (I.ok.hd hc) z t (fun s' acc k g d o it => ?_) (sz_of hz)
  obtain ⟨hp, gn, dr, tk, os⟩ := s
  obtain ⟨hp', gn', dr', tk', os'⟩ := s'
  obtain rfl : gn' = gn := g
  obtain rfl : dr' = dr := d
  obtain rfl : os' = os := o
  refine hQ _ _ (I.kept (t' := tk') k) (signs_vals (by rw [Array.length_toList]; exact it.1) fun j v e => ?_)
  obtain ⟨c, u, h1, h2⟩ := it.2 j v (by rw [← Array.getElem?_toList]; exact e)
  exact ⟨c, u, by rw [Array.getElem?_toList]; exact h1, h2⟩
end
section
variable {X : Cx} {e : Expr} {es : List Expr} {te : TE} {t : TA} {p : Pos}
def tStarT (te : TE) (t : TA) : TA := fun σ H Q => te σ H fun x H1 => ∃ z, x = V.str z ∧ z.length ≤ 100000 ∧ t σ H1 fun ys H2 => Q (signsV z ++ ys) H2
theorem pa_starT (hc : X.calm = true) (he : PE X e te) (hr : PA X es t) (hs : starEach (.Starred e p :: es) X.env = (true, eval e X.env) :: starEach es X.env := by rfl) : PA X (.Starred e p :: es) (tStarT te t) :=
  ⟨fun pos pins s σ H Q I h => PySem.W.items_star (thn (he.run pins s σ H _ I h) fun v s1 ⟨y, H1, I1, ry, z, ey, hz, q⟩ => by
    subst ey
    obtain ⟨u, rfl⟩ := ry
    exact star_txt hc I1 hz fun us s2 I2 rv => thn (hr.run pos pins s2 σ H1 _ I2 q) fun ws s3 ⟨vs, H3, I3, r3, q3⟩ => ⟨signsV z ++ vs, H3, I3, rv.append r3, q3⟩) hs⟩
theorem mt_isident : MtR X "str.isidentifier" (fun x xs H Q => ∃ a, x = .str a ∧ xs = [] ∧ True ∧ Q (.bl (Txt.isidentifier a)) H) :=
  mt0 (C := fun _ => True) (g := fun a => .bl (Txt.isidentifier a)) fun _ _ s _ _ h => PySem.SC.isidentifier (h _ s.toks rfl)
end
end L2
set_option Elab.async false
set_option linter.all false
set_option maxRecDepth 100000
set_option maxHeartbeats 4000000
/-! a dict of the top that stays: its keys listed -/
namespace L2
open PySem PySem.Spec PyProof.Rows Evl
/-- the dict at a stays, and its keys are these texts -/
structure TopKeys (K : PySem.W.Frag) (w : World) (a : Addr) (ks : List Str) : Prop where
  of : ∃ es n, KDict K w a es n ∧ es.toList.map He.keyOf = He.keysIn w.params ks
theorem topKeys_of {K : PySem.W.Frag} {w : World} {a : Addr} {ks : List Str} (h : He.dicW K a = some (He.keysIn w.params ks)) : TopKeys K w a ks := by
  obtain ⟨es, n, D⟩ := He.dicW_ok h
  refine ⟨es, n, D, ?_⟩
  unfold He.dicW at h
  rw [D.at_] at h
  dsimp only at h
  split at h
  · exact Option.some.inj h
  · cases h
theorem key_parts {P : Params} : ∀ {es : List DictEntry} {ks : List Str}, es.map He.keyOf = He.keysIn P ks → ∀ (i : Nat) (e : DictEntry), es[i]? = some e → ∃ k t, ks[i]? = some k ∧ e.key = .str k t ∧ e.hash = PyData.keyHash P k
  | [], _, _, i, e, he => by simp at he
  | e1 :: es, [], h, _, _, _ => by cases h
  | e1 :: es, k1 :: ks, h, i, e, he => by
    have h1 : He.keyOf e1 :: es.map He.keyOf = some (k1, PyData.keyHash P k1) :: He.keysIn P ks := h
    injection h1 with h2 h3
    cases i with
    | zero =>
      obtain rfl : e1 = e := Option.some.inj he
      unfold He.keyOf at h2
      split at h2
      · rename_i x t q
        obtain ⟨h5, h6⟩ := Prod.mk.inj (Option.some.inj h2)
        subst h5
        exact ⟨x, t, rfl, q, h6⟩
      · cases h2
    | succ i => exact key_parts h3 i e he
end L2
namespace L2
open PySem PySem.Spec PyProof.Rows Evl
theorem kdict_pairs {P : Program} {w : World} : ∀ {es : List DictEntry} {ks : List Str}, es.map He.keyOf = He.keysIn w.params ks → ∃ kvs : List (Str × Value), kvs.map (·.1) = ks ∧ Pairs (strKind P w) es kvs
  | [], [], _ => ⟨[], rfl, .nil⟩
  | [], _ :: _, h => by cases h
  | _ :: _, [], h => by cases h
  | e :: es, k :: ks, h => by
    obtain ⟨x, t, e1, e2, e3⟩ := key_parts h 0 e rfl
    obtain rfl : k = x := Option.some.inj e1
    have h1 : He.keyOf e :: es.map He.keyOf = some (k, PyData.keyHash w.params k) :: He.keysIn w.params ks := h
    injection h1 with _ h3
    obtain ⟨kvs, g1, g2⟩ := kdict_pairs (P := P) h3
    exact ⟨(k, e.val) :: kvs, by rw [List.map_cons, g1], .cons (by rw [e2]; exact PySem.strKind_is P w k t) rfl g2⟩
theorem keys_vals {P : Program} {w : World} {kvs : List (Str × Value)} : ∀ {ks : List Str} {us : List Value}, us.length = ks.length → (∀ (j : Nat) (v : Value), us[j]? = some v → ∃ k, ks[j]? = some k ∧ (strKind P w).is k v = true) → Vals (ks.map V.str) us
  | [], [], _, _ => .nil
  | k :: ks, u :: us, hl, h => by
    obtain ⟨d, e1, e2⟩ := h 0 u rfl
    obtain rfl : k = d := Option.some.inj e1
    exact .cons (Value.isStrOf_shape e2) (keys_vals (P := P) (w := w) (kvs := kvs) (Nat.succ.inj hl) fun j v e => h (j + 1) v e)
section
variable {X : Cx}
/-- list(d), d a dict of the top that stays -/
theorem call_listTop {a : Addr} {ks : List Str} (hc : X.calm = true) (T : TopKeys X.K X.w a ks) (nd : ks.Nodup) (hz : ks.length ≤ 100000) : CallR X (.type "list") (fun xs H Q => xs = [.ref a] ∧ ∀ p, H p = none → Q (.ref p) (upd H p (.lst (ks.map V.str)))) := by
  intro pins s σ H xs us Q I r q
  obtain ⟨rfl, q⟩ := q
  obtain ⟨es, n, D, hk⟩ := T.of
  obtain ⟨kvs, g1, g2⟩ := kdict_pairs (P := X.prog) hk
  rw [Vals.ref1 r]
  have hl : kvs.length = ks.length := by rw [← g1, List.length_map]
  have at_ : s.heap.DictAt (strKind X.prog X.w) a kvs n := by
    refine ⟨_, es, I.kIn _ _ D.at_, ⟨rfl, rfl, rfl⟩, rfl, fun e he => ?_, g2, by rw [g1]; exact nd⟩
    obtain ⟨x, t, e1, e2⟩ := D.lit.all e (Array.mem_toList_iff.mpr he)
    exact ⟨x, by rw [e1]; exact PySem.strKind_is X.prog X.w x t, e2⟩
  refine PySem.W.kdl_call (PySem.W.kdl_dict (knd := strKind X.prog X.w) (kvs := kvs) (ep := n) D.low) (I.ok.hd hc) at_ (by rw [hl]; exact sz_of hz) fun h' tk acc c' kp hD it => ?_
  have hv : Vals (ks.map V.str) acc.toList := keys_vals (P := X.prog) (w := X.w) (kvs := kvs) (by rw [Array.length_toList, it.1, hl]) fun j v e => by
    obtain ⟨k, x, e1, e2⟩ := it.2 j v (by rw [← Array.getElem?_toList]; exact e)
    refine ⟨k, ?_, e2⟩
    rw [← g1, List.getElem?_map, e1]
    rfl
  exact ⟨.ref s.heap.objs.size, upd H s.heap.objs.size (.lst (ks.map V.str)), I.laid (t' := tk) kp (Nat.le_refl _) ⟨by rw [List.length_map]; exact sz_of hz, acc.toList, c', hv, by rw [Array.toArray_toList]; exact hD⟩, rfl, q _ (I.hok.fresh (Nat.le_refl _))⟩
end
end L2
set_option Elab.async false
set_option linter.all false
set_option maxRecDepth 100000
set_option maxHeartbeats 4000000
/-! s.translate(d), d a dict of the top from signs to texts of two signs and more -/
namespace L2
open PySem PySem.Spec PyProof.Rows Evl
open Builtin Builtin.Str
def entI (e : DictEntry) : Option (Int × Int × Str) := match e.key, e.val with
  | .int i _, .str z _ => some (i, e.hash, z)
  | _, _ => none
def entsI (Ls : List (Nat × Str)) : List (Option (Int × Int × Str)) := Ls.map fun p => some ((p.1 : Int), hashInt p.1, p.2)
/-- the dict at a stays: it leads from these signs to these texts -/
def topTabB (K : PySem.W.Frag) (a : Addr) (Ls : List (Nat × Str)) : Bool := match K.lookup a with
  | some ⟨.type c, none, .dict es _, sl⟩ => decide (c = "dict") && (sl.isEmpty && (!(a == sysModules) && decide (es.toList.map entI = entsI Ls)))
  | _ => false
structure TopTab (K : PySem.W.Frag) (a : Addr) (Ls : List (Nat × Str)) : Prop where
  of : ∃ es n, K.lookup a = some ⟨.type "dict", none, .dict es n, #[]⟩ ∧ (a == sysModules) = false ∧ es.toList.map entI = entsI Ls
theorem topTab_of {K : PySem.W.Frag} {a : Addr} {Ls : List (Nat × Str)} (h : topTabB K a Ls = true) : TopTab K a Ls := by
  unfold topTabB at h
  split at h
  · rename_i c es n sl hl
    simp only [Bool.and_eq_true, decide_eq_true_eq, Bool.not_eq_true'] at h
    obtain ⟨rfl, h2, h3, h4⟩ := h
    have e : sl = #[] := Array.isEmpty_iff.mp h2
    subst e
    exact ⟨es, n, hl, h3, h4⟩
  · cases h
def tabAt (Ls : List (Nat × Str)) (c : Nat) : Option Str := (Ls.find? fun p => decide (p.1 = c)).map (·.2)
def trOne (Ls : List (Nat × Str)) (c : Nat) : Str := (tabAt Ls c).getD ⟨#[c]⟩
/-- a text with its signs put so -/
def trTxt (Ls : List (Nat × Str)) (z : Str) : Str := ⟨(z.cps.toList.flatMap fun c => (trOne Ls c).cps.toList).toArray⟩
theorem ent_find : ∀ {es : List DictEntry} {Ls : List (Nat × Str)}, es.map entI = entsI Ls → ∀ c : Nat, (∀ z, tabAt Ls c = some z → ∃ t, (es.find? fun e => Value.isInt (c : Int) e.key).map (·.val) = some (.str z t)) ∧ (tabAt Ls c = none → (es.find? fun e => Value.isInt (c : Int) e.key).map (·.val) = none)
  | [], [], _, c => ⟨fun z h => by simp [tabAt] at h, fun _ => rfl⟩
  | [], _ :: _, h, _ => by cases h
  | _ :: _, [], h, _ => by cases h
  | e :: es, p :: Ls, h, c => by
    have h1 : entI e :: es.map entI = some ((p.1 : Int), hashInt p.1, p.2) :: entsI Ls := h
    injection h1 with h2 h3
    have ih := ent_find h3 c
    unfold entI at h2
    split at h2
    · rename_i i t z u q1 q2
      obtain ⟨a1, a2⟩ := Prod.mk.inj (Option.some.inj h2)
      obtain ⟨_, a3⟩ := Prod.mk.inj a2
      subst a1 a3
      have ek : Value.isInt (c : Int) e.key = decide (p.1 = c) := by
        rw [q1]
        show ((p.1 : Int) == (c : Int)) = decide (p.1 = c)
        by_cases hh : p.1 = c
        · subst hh
          simp
        · rw [decide_eq_false hh]
          exact beq_eq_false_iff_ne.mpr fun z => hh (by omega)
      unfold tabAt
      rw [List.find?_cons, List.find?_cons, ek]
      cases hb : decide (p.1 = c) with
      | true =>
        refine ⟨fun z hz => ⟨u, ?_⟩, fun hz => by cases hz⟩
        obtain rfl := Option.some.inj hz
        show some e.val = _
        rw [q2]
      | false => exact ih
    · cases h2
section
variable {P : Program} {w : World} {A : Around} {E : Value → Shared → Prop} {s : Shared} {d : Addr} {Ls : List (Nat × Str)}
/-- what the table tells of a sign -/
theorem look_tab {f : Int → Option Value} {c : Nat} {Q : Mapped → Shared → Prop} (noH : A.handled = none) (low : (d == sysModules) = false) (mp : s.heap.MapOf (intKind P w) d f) (ht : ∀ z, tabAt Ls c = some z → ∃ t, f (c : Int) = some (.str z t)) (hn : tabAt Ls c = none → f (c : Int) = none)
    (q1 : ∀ z, tabAt Ls c = some z → ∀ k, Q (.text z) { s with toks := k }) (q2 : tabAt Ls c = none → ∀ g k, (∀ b o, s.heap.get? b = some o → g.get? b = some o) → Q .keep { s with heap := g, toks := k }) : wpAny (model P w) A (tableLookup (.ref d) c) Q E s := by
  unfold tableLookup
  refine wpAny_bind (wpAny_attempt (wpAny_bind (wpAny_mkInt ?_)))
  cases hc : tabAt Ls c with
  | some z =>
    obtain ⟨t, e⟩ := ht z hc
    refine wpAny_getItem_of (knd := intKind P w) (k := (c : Int)) (by simp [intKind, Value.isInt]) mp e ?_
    show wpAny _ _ (do let o ← asInt? (Value.str z t); _) _ _ _
    refine wpAny_bind (wpAny_of_eq (a := none) rfl ?_)
    show wpAny _ _ (do let o ← asStr? (Value.str z t); _) _ _ _
    refine wpAny_bind (wpAny_of_eq (a := some z) rfl ?_)
    exact wpAny_pure (q1 z hc _)
  | none =>
    refine wpAny_getItem_missing_of (knd := intKind P w) (k := (c : Int)) (by simp [intKind, Value.isInt]) low noH mp (hn hc) fun g x hx => ?_
    obtain ⟨ob, t, ho, hcl, _⟩ := hx.there
    show wpAny _ _ (do let yes ← isInstance (.ref x) (.type "LookupError"); _) _ _ _
    refine wpAny_bind (wpAny_isInstance (T := "KeyError") (b := true) ⟨ob, ho, hcl⟩ PySem.key_is_lookup ?_)
    show wpAny _ _ (if true = true then (do rule "str.translate.not-in-table"; pure Mapped.keep) else _) _ _ _
    rw [if_pos rfl]
    exact wpAny_bind (wpAny_rule (wpAny_pure (q2 hc g _ hx.keeps)))
end
end L2
set_option Elab.async false
set_option linter.all false
set_option maxRecDepth 100000
set_option maxHeartbeats 4000000
namespace L2
open PySem PySem.Spec PyProof.Rows Evl
open Builtin Builtin.Str
def cpsOf (ps : List Str) : List Nat := ps.flatMap fun p => p.cps.toList
theorem cps_fold : ∀ (ps : List Str) (acc : Array Nat), ps.foldl (fun u (p : Str) => u ++ p.cps) acc = acc ++ (cpsOf ps).toArray
  | [], acc => by
    show acc = acc ++ #[]
    rw [Array.append_empty]
  | p :: ps, acc => by
    rw [List.foldl_cons, cps_fold ps]
    apply Array.toList_inj.mp
    simp [cpsOf]
/-- where the walk over the signs stands -/
structure TrSt (Ls : List (Nat × Str)) (x : List Nat) (s : Shared) (rest : List Nat) (pieces : List Str) (total : Nat) (known : List (Nat × Option Nat)) (past : List Nat) (g : Heap) : Prop where
  cut : x = past ++ rest
  tot : total ≤ 100 * past.length
  got : cpsOf pieces.reverse = past.flatMap fun c => (trOne Ls c).cps.toList
  kn : ∀ c a, List.lookup c known = some a → a = some c ∧ tabAt Ls c = none
  kp : ∀ b o, s.heap.get? b = some o → g.get? b = some o
def TrIn (Ls : List (Nat × Str)) (x : List Nat) (s : Shared) (rest : List Nat) (st : List Str × Nat × Bool × List (Nat × Option Nat) × Bool) (s' : Shared) : Prop :=
  ∃ pieces total fast known past g k, st = (pieces, total, fast, known, false) ∧ s' = { s with heap := g, toks := k } ∧ TrSt Ls x s rest pieces total known past g
theorem TrSt.next {Ls : List (Nat × Str)} {x rest past : List Nat} {s : Shared} {c total m : Nat} {pieces : List Str} {known kn2 : List (Nat × Option Nat)} {g g2 : Heap} (h : TrSt Ls x s (c :: rest) pieces total known past g) {z : Str} (hz : trOne Ls c = z) (hm : m ≤ 100)
    (hk : ∀ c a, List.lookup c kn2 = some a → a = some c ∧ tabAt Ls c = none) (hg : ∀ b o, g.get? b = some o → g2.get? b = some o) : TrSt Ls x s rest (z :: pieces) (total + m) kn2 (past ++ [c]) g2 := by
  refine ⟨by rw [h.cut, List.append_assoc]; rfl, ?_, ?_, hk, fun b o e => hg b o (h.kp b o e)⟩
  · have := h.tot
    rw [List.length_append, List.length_singleton]
    omega
  · rw [List.reverse_cons, List.flatMap_append, ← h.got]
    simp [cpsOf, hz]
theorem known_new {Ls : List (Nat × Str)} {c : Nat} {known : List (Nat × Option Nat)} (h : ∀ c a, List.lookup c known = some a → a = some c ∧ tabAt Ls c = none) (hn : tabAt Ls c = none) : ∀ c' a, List.lookup c' ((c, some c) :: known) = some a → a = some c' ∧ tabAt Ls c' = none := fun c' a z => by
  rw [List.lookup_cons] at z
  by_cases e : c' = c
  · subst e
    rw [beq_self_eq_true] at z
    exact ⟨(Option.some.inj z).symm, hn⟩
  · rw [beq_eq_false_iff_ne.mpr e] at z
    exact h c' a z
theorem trOne_no {Ls : List (Nat × Str)} {c : Nat} (h : tabAt Ls c = none) : trOne Ls c = ⟨#[c]⟩ := by
  unfold trOne
  rw [h]
  rfl
theorem trOne_yes {Ls : List (Nat × Str)} {c : Nat} {z : Str} (h : tabAt Ls c = some z) : trOne Ls c = z := by
  unfold trOne
  rw [h]
  rfl
theorem tabAt_mem {Ls : List (Nat × Str)} {c : Nat} {z : Str} (h : tabAt Ls c = some z) : ∃ p ∈ Ls, p.2 = z := by
  unfold tabAt at h
  cases hf : Ls.find? fun p => decide (p.1 = c) with
  | none =>
    rw [hf] at h
    cases h
  | some p =>
    rw [hf] at h
    exact ⟨p, List.mem_of_find?_eq_some hf, Option.some.inj h⟩
def okTab (Ls : List (Nat × Str)) : Bool := Ls.all fun p => decide (2 ≤ p.2.length) && decide (p.2.length ≤ 100)
theorem okTab_at {Ls : List (Nat × Str)} (h : okTab Ls = true) {c : Nat} {z : Str} (hc : tabAt Ls c = some z) : 2 ≤ z.length ∧ z.length ≤ 100 := by
  obtain ⟨p, hp, rfl⟩ := tabAt_mem hc
  have := List.all_eq_true.mp h p hp
  simpa using this
theorem cps_len {Ls : List (Nat × Str)} (h : okTab Ls = true) : ∀ x : List Nat, (x.flatMap fun c => (trOne Ls c).cps.toList).length ≤ 100 * x.length
  | [] => by simp
  | c :: x => by
    have ih := cps_len h x
    have h1 : (trOne Ls c).cps.toList.length ≤ 100 := by
      cases hc : tabAt Ls c with
      | none => rw [trOne_no hc]; show 1 ≤ 100; decide
      | some z => rw [trOne_yes hc]; exact (okTab_at h hc).2
    simp only [List.flatMap_cons, List.length_append, List.length_cons]
    omega
theorem meets_trans {P : Program} {w : World} (z : Str) (t : Tok) (d : Addr) (Ls : List (Nat × Str)) (ok : okTab Ls = true) (low : (d == sysModules) = false) (hz : z.length ≤ 100000) : MeetsIn P w («str.translate» ⟨[.str z t, .ref d], []⟩) (fun A R s =>
    A.handled = none ∧ (∃ f, s.heap.MapOf (intKind P w) d f ∧ ∀ c : Nat, (∀ y, tabAt Ls c = some y → ∃ t, f (c : Int) = some (.str y t)) ∧ (tabAt Ls c = none → f (c : Int) = none)) ∧
      ∀ (v : Value) (g : Heap) (k : Nat), (∀ b o, s.heap.get? b = some o → g.get? b = some o) → (∃ u, v = .str (trTxt Ls z) u) → R (.ok (.ret v)) { s with heap := g, toks := k }) := by
  refine .of_wp fun A R s h => ?_
  obtain ⟨noH, ⟨f, mp, hf⟩, h⟩ := h
  have noH1 : A.in1.handled = none := noH
  show wpAny _ _ (if (z.length == 0) = true then (do rule "str.translate.empty"; ret (.str z t)) else (do
    let st ← forIn z.cps (([], 0, z.cps.all fun y => decide (y < 128), [], false) : List Str × Nat × Bool × List (Nat × Option Nat) × Bool) _
    _)) _ _ s
  by_cases h0 : (z.length == 0) = true
  · rw [if_pos h0]
    have e : trTxt Ls z = z := by
      have hl : z.cps.toList = [] := List.eq_nil_of_length_eq_zero (beq_iff_eq.mp h0)
      unfold trTxt
      rw [hl]
      obtain ⟨⟨l⟩⟩ := z
      cases hl
      rfl
    exact wpAny_bind (wpAny_rule (wpAny_pure ⟨_, rfl, h _ s.heap s.toks (fun _ _ e => e) ⟨t, by rw [e]⟩⟩))
  · rw [if_neg h0]
    generalize (z.cps.all fun y => decide (y < 128)) = fast0
    refine wpAny_bind (MeetsSeq2.wpAny_forIn_array _ (TrIn Ls z.cps.toList s) _ (fun c rest st s' hI => ?turn) (fun st s' hI => ?fin) z.cps ([], 0, fast0, [], false) ?h0)
    case h0 => exact ⟨[], 0, fast0, [], [], s.heap, s.toks, rfl, rfl, ⟨rfl, by simp, rfl, fun c a q => by simp at q, fun _ _ e => e⟩⟩
    case turn =>
      obtain ⟨pieces, total, fast, known, past, g, k, rfl, rfl, T⟩ := hI
      have hpl : past.length ≤ 100000 := by
        have q := congrArg List.length T.cut
        rw [List.length_append] at q
        have : z.cps.toList.length = z.length := rfl
        omega
      have ht := T.tot
      have mp' : ({ s with heap := g, toks := k } : Shared).heap.MapOf (intKind P w) d f := PySem.mapOf_keeps mp T.kp
      -- the slow road, from any heap that keeps what was there
      have slow : ∀ (g1 : Heap) (k1 : Nat), (∀ b o, g.get? b = some o → g1.get? b = some o) → ∀ F : Mapped → Sem (ForInStep (List Str × Nat × Bool × List (Nat × Option Nat) × Bool)),
          (∀ y, tabAt Ls c = some y → F (.text y) = pure (.yield (y :: pieces, total + y.length, false, known, false))) → (tabAt Ls c = none → F .keep = pure (.yield ((⟨#[c]⟩ : Str) :: pieces, total + 1, false, known, false))) →
          wpAny (model P w) A.in1 (tableLookup (.ref d) c >>= F) (fun r s' => match r with
            | .yield st => TrIn Ls z.cps.toList s rest st s'
            | .done st => False) (fun e s' => R (.error e) s') { s with heap := g1, toks := k1 } := fun g1 k1 kp1 F F1 F2 => by
        have mp1 : ({ s with heap := g1, toks := k1 } : Shared).heap.MapOf (intKind P w) d f := PySem.mapOf_keeps mp' kp1
        refine wpAny_bind (look_tab noH1 low mp1 (hf c).1 (hf c).2 (fun y hy k2 => ?_) (fun hn g2 k2 kp2 => ?_))
        · rw [F1 y hy]
          exact wpAny_pure ⟨_, _, _, _, _, g1, k2, rfl, rfl, T.next (trOne_yes hy) (okTab_at ok hy).2 T.kn kp1⟩
        · rw [F2 hn]
          exact wpAny_pure ⟨_, _, _, _, _, g2, k2, rfl, rfl, T.next (trOne_no hn) (by decide) T.kn fun b o e => kp2 b o (kp1 b o e)⟩
      show wpAny _ _ (if tooLong total = true then _ else (if fast = true then _ else _)) _ _ _
      rw [show tooLong total = false from PyProof.Rows.short24 (by omega), if_neg Bool.false_ne_true]
      cases fast with
      | false =>
        rw [if_neg Bool.false_ne_true]
        show wpAny _ _ (if false = true then _ else _) _ _ _
        rw [if_neg Bool.false_ne_true]
        refine wpAny_mono (slow g k (fun _ _ e => e) _ (fun y _ => rfl) (fun _ => rfl)) (fun r s' q => ?_) (fun _ _ q => q)
        cases r with
        | yield st => exact q
        | done st => exact q.elim
      | true =>
        rw [if_pos rfl]
        cases hl : List.lookup c known with
        | some a =>
          obtain ⟨rfl, hn⟩ := T.kn c a hl
          refine wpAny_bind (wpAny_pure ?_)
          exact wpAny_pure ⟨_, _, _, _, _, g, k, rfl, rfl, T.next (trOne_no hn) (by decide) T.kn fun _ _ e => e⟩
        | none =>
          refine wpAny_bind (look_tab noH1 low mp' (hf c).1 (hf c).2 (fun y hy k2 => ?_) (fun hn g2 k2 kp2 => ?_))
          · have hy2 := (okTab_at ok hy).1
            have e1 : (y.length == 1 && y.cps.all fun q => decide (q < 128)) = false := by
              rw [show (y.length == 1) = false from beq_eq_false_iff_ne.mpr (by omega)]
              rfl
            dsimp only
            rw [e1, if_neg Bool.false_ne_true]
            refine wpAny_bind (wpAny_pure ?_)
            dsimp only
            refine wpAny_bind (wpAny_rule ?_)
            show wpAny _ _ (if false = true then _ else _) _ _ _
            rw [if_neg Bool.false_ne_true]
            refine wpAny_mono (slow g k2 (fun _ _ e => e) _ (fun y _ => rfl) (fun _ => rfl)) (fun r s' q => ?_) (fun _ _ q => q)
            cases r with
            | yield st => exact q
            | done st => exact q.elim
          · refine wpAny_bind (wpAny_pure ?_)
            exact wpAny_pure ⟨_, _, _, _, _, g2, k2, rfl, rfl, T.next (trOne_no hn) (by decide) (known_new T.kn hn) kp2⟩
    case fin =>
      obtain ⟨pieces, total, fast, known, past, g, k, rfl, rfl, T⟩ := hI
      have hp : z.cps.toList = past := by rw [T.cut, List.append_nil]
      have ht := T.tot
      have hl : past.length ≤ 100000 := by rw [← hp]; exact hz
      show wpAny _ _ (if tooLong total = true then _ else retStr { cps := List.foldl (fun acc (p : Str) => acc ++ p.cps) #[] pieces.reverse }) _ _ _
      rw [show tooLong total = false from PyProof.Rows.short24 (by omega), if_neg Bool.false_ne_true, cps_fold, T.got, ← hp]
      have ev : (⟨#[] ++ (z.cps.toList.flatMap fun c => (trOne Ls c).cps.toList).toArray⟩ : Str) = trTxt Ls z := by
        rw [Array.empty_append]
        rfl
      rw [ev]
      refine wpAny_bind (wpAny_mkStr (wpAny_pure ⟨_, rfl, h _ g _ T.kp ⟨_, rfl⟩⟩) ?_)
      show ((z.cps.toList.flatMap fun c => (trOne Ls c).cps.toList).toArray).size ≤ sizeLine
      have := cps_len ok z.cps.toList
      rw [hp] at this
      rw [List.size_toArray, sizeLine_eq, hp]
      omega
end L2
set_option Elab.async false
set_option linter.all false
set_option maxRecDepth 100000
set_option maxHeartbeats 4000000
namespace L2
open PySem PySem.Spec PyProof.Rows Evl
open Builtin Builtin.Str
theorem ent_keys : ∀ {es : List DictEntry} {Ls : List (Nat × Str)}, es.map entI = entsI Ls → ∀ e ∈ es, ∃ c : Int, Value.isInt c e.key = true ∧ e.hash = hashInt c
  | [], _, _, e, he => by cases he
  | _ :: _, [], h, _, _ => by cases h
  | e :: es, p :: Ls, h, u, hu => by
    have h1 : entI e :: es.map entI = some ((p.1 : Int), hashInt p.1, p.2) :: entsI Ls := h
    injection h1 with h2 h3
    rcases List.mem_cons.mp hu with q | q
    · subst q
      unfold entI at h2
      split at h2
      · rename_i i t z v q1 q2
        obtain ⟨a1, a2⟩ := Prod.mk.inj (Option.some.inj h2)
        obtain ⟨a3, _⟩ := Prod.mk.inj a2
        refine ⟨p.1, ?_, a3⟩
        rw [q1, a1]
        show ((p.1 : Int) == p.1) = true
        exact beq_self_eq_true _
      · cases h2
    · exact ent_keys h3 u q
section
variable {X : Cx} {d : Addr} {Ls : List (Nat × Str)}
/-- z.translate(d) -/
theorem mt_transTop (hc : X.calm = true) (T : TopTab X.K d Ls) (ok : okTab Ls = true) : MtR X "str.translate" (fun x xs H Q => ∃ z : Str, x = .str z ∧ xs = [.ref d] ∧ z.length ≤ 100000 ∧ Q (.str (trTxt Ls z)) H) := by
  intro pins s σ H x xs v us Q I rx rs h
  obtain ⟨z, rfl, rfl, hz, h⟩ := h
  obtain ⟨t, rfl⟩ := rx
  obtain ⟨es, n, hl, low, he⟩ := T.of
  rw [Vals.ref1 rs]
  refine call_meetsIn F.slot_str_translate (typeIs_str _ _ _) F.entry_str_translate (F.args_str_translate_2 _ _) (meets_trans z t d Ls ok low hz) ⟨I.ok.hd hc, ⟨fun k => findBy (intKind X.prog X.w).is es k, ⟨_, es, n, I.kIn _ _ hl, ⟨rfl, rfl, rfl⟩, rfl, fun e hm => ?_, fun _ => rfl⟩, fun c => ?_⟩, ?_⟩
  · exact ent_keys he e (Array.mem_toList_iff.mpr hm)
  · obtain ⟨l⟩ := es
    have q := ent_find he c
    unfold findBy
    dsimp only
    rw [List.find?_toArray]
    exact q
  · intro v g k kp ⟨u, e⟩
    subst e
    exact ⟨.str _, H, I.kept (t' := k) kp, ⟨u, rfl⟩, h⟩
end
end L2
set_option Elab.async false
set_option linter.all false
set_option maxRecDepth 100000
set_option maxHeartbeats 4000000
/-! a field as one of several targets; a dict made over a list -/
namespace L2
open PySem PySem.Spec PyProof.Rows Evl
section
variable {X : Cx} {o : Expr} {f : Str} {pos : Pos} {ta : TE}
/-- o.f as a target -/
def gFld (K : PySem.W.Frag) (ta : TE) (f : Str) : TG := fun v σ H Q => ta σ H fun x H1 => ∃ a C dx fs, x = .ref a ∧ H1 a = some (.ins C dx fs) ∧ Cls K C ∧ NoAttr K C f ∧ fs.length < 1000 ∧ Q σ (upd H1 a (.ins C dx (putF f v fs)))
theorem pg_fld (ho : PE X o ta) : PG X (.Attribute o f pos) (gFld X.K ta f) := by
  refine ⟨fun pins s σ H v u Q I r h => ?_⟩
  rw [assign_Attribute]
  refine wpAny_bind (wpAny_holding (thn (ho.run pins s σ H _ I h) fun w s1 ⟨x, H1, I1, r1, a, C, dx, fs, ex, ea, c, n, l, q⟩ => ?_))
  subst ex
  obtain rfl : w = Value.ref a := r1
  refine wpAny_bind (wpAny_standAt (wpAny_bind (wpAny_holding (setattr_ok I1 ea c n l r fun s2 I2 => ?_))))
  exact wpAny_release ⟨σ, _, I2, q⟩
end
/-- a dict made over a list that stays -/
theorem dc_lst {K : PySem.W.Frag} {a : Addr} {xs : List V} {g : TG} {tt : TT} {tk tv : TE} {vs : List Nat} {σ : St} {H1 : Hp} {D : Addr} {Z : Hp → Prop} (B : Nat → Hp → Prop) (b0 : B 0 (upd H1 D (.dK []))) (bl : ∀ i H, i ≤ xs.length → B i H → SqL K H a xs)
    (bs : ∀ i x H, xs[i]? = some x → B i H → g x (wipe σ vs) H fun σ2 H2 => wipe σ2 vs = wipe σ vs ∧ tt σ2 H2 fun b H3 =>
      if b = true then tk σ2 H3 fun y H4 => tv σ2 H4 fun z H5 => ∃ kvs k, y = kV k ∧ H5 D = some (.dK kvs) ∧ kvs.length < sizeLine ∧ B (i + 1) (upd H5 D (.dK (putK kvs k z))) else B (i + 1) H3) (bz : ∀ H, B xs.length H → Z H) :
    ∃ W : Nat → Nat → Hp → Prop, (∃ m, W 0 m (upd H1 D (.dK []))) ∧ ∀ i m H, W i m H →
      ((Itl K a).stop i H ∧ Z H) ∨ ((Itl K a).go i H ∧ ∃ Nx : Hp → Prop, (∀ H', Nx H' → ∃ m', m' < m ∧ W (i + 1) m' H') ∧ ∀ x H', (Itl K a).yld i H x H' → g x (wipe σ vs) H' fun σ2 H2 => wipe σ2 vs = wipe σ vs ∧ tt σ2 H2 fun b H3 =>
        if b = true then tk σ2 H3 fun y H4 => tv σ2 H4 fun z H5 => ∃ kvs k, y = kV k ∧ H5 D = some (.dK kvs) ∧ kvs.length < sizeLine ∧ Nx (upd H5 D (.dK (putK kvs k z))) else Nx H3) := by
  refine ⟨fun i m H => m + i = xs.length ∧ B i H, ⟨xs.length, rfl, b0⟩, fun i m H h => ?_⟩
  obtain ⟨hm, hb⟩ := h
  have hl := bl i H (by omega) hb
  rcases Nat.lt_or_ge i xs.length with hlt | hge
  · exact .inr ⟨⟨xs, xs[i], hl, List.getElem?_eq_getElem hlt⟩, B (i + 1), fun H' b => ⟨m - 1, by omega, by omega, b⟩, fun x H' ⟨e, y⟩ => by
      subst e
      exact bs i x _ (y xs hl) hb⟩
  · obtain rfl : i = xs.length := by omega
    exact .inl ⟨⟨xs, hl, Nat.le_refl _⟩, bz H hb⟩
end L2
set_option Elab.async false
set_option linter.all false
set_option maxRecDepth 100000
set_option maxHeartbeats 4000000
namespace Prs
open PySem PySem.Spec PyProof.Rows L2 Evl
abbrev sIsName : Stmt := top 10
abbrev sWhole : Stmt := top 28
abbrev sKnownW : Stmt := top 27
abbrev sQuick : Stmt := top 29
/-! ### the mirror of the quick road -/
def isNameM (t : Str) : Bool := !(decide ((8 : Int) < ((t.length : Nat) : Int)) || inV (.str t) (KEYS.map V.str)) && (Txt.isascii t && (Txt.isidentifier t && (Txt.isalnum t && Txt.islower t)))
def isNumM (t : Str) : Bool := Txt.isdigit t && (decide (((t.length : Nat) : Int) ≤ 9) && (!decide (V.str ⟨#[signAt t 0]⟩ = V.str "0") || decide (V.str t = V.str "0")))
def wholeM (t : Str) : Option Str := if isNameM t then some "a name" else if isNumM t then some "a number" else none
def strV : Option Str → V
  | none => .non
  | some k => .str k
/-- what the top has for the quick road -/
structure Gq (K : PySem.W.Frag) (w : World) (mg : Str → Option Value) : Prop where
  isi : mg "isinstance" = none
  str : mg "str" = none
  list : mg "list" = none
  keys : ∃ a, mg "KEYWORDS" = some (.ref a) ∧ TopKeys K w a KEYS
section
variable {P : Program} {w : World} {K : PySem.W.Frag} {mg : Str → Option Value} {base : Heap}
def spIsName : Sp := fun vs H Q _ => ∃ t : Str, vs = [.str t] ∧ t.length ≤ 100000 ∧ RetV (.bl (isNameM t)) H Q
theorem scIsName : FnScope ["thing"] ["thing"] (defScope sIsName) := ⟨rfl, rfl, rfl, by decide +kernel, rfl, by decide +kernel, by decide +kernel⟩
theorem boot_strT : bootBuiltins "str" = some (.type "str") := by decide +kernel
theorem ev_isStr {σ : L2.St} {H : Hp} {te tf : TE} {z : Str} (h : Ev te σ H (.str z)) (h2 : Ev tf σ H (.ty "str")) : Ev (tCB (rIsi K) (tCons te (tCons tf tNil))) σ H (.bl true) := fun H1 e Q q => (ea_cons h (ea_cons h2 ea_nil) : EvA _ _ H [.str z, .ty "str"]) H1 e _ fun H2 e2 => ⟨.str z, .ty "str", .type "str", .type "str", true, rfl, .ty "str", .base (.str z), kit_ty (by decide +kernel), q H2 e2⟩
theorem ev_m0b {σ : L2.St} {H : Hp} {te : TE} {z : Str} {g : Str → Bool} (h : Ev te σ H (.str z)) : Ev (tM0 (fun x xs H Q => ∃ a, x = .str a ∧ xs = [] ∧ True ∧ Q (.bl (g a)) H) te) σ H (.bl (g z)) := fun H1 e Q q => h H1 e _ fun H2 e2 => ⟨⟨z, rfl⟩, z, rfl, rfl, trivial, q H2 e2⟩
theorem ok_isName {f : Addr} {fd : FuncData} (F : Fun K "is_name" "is_name" sIsName f fd) (G : Gn K mg) (Gz : Gq K w mg) (GK : KSet K w mg "KEYWORDS" (KEYS.map V.str)) : FnOk P w K mg base CX0 1 f fd ["thing"] spIsName := by
  obtain ⟨_, gS⟩ := G.mostS
  obtain ⟨ak, ek, nk, gK, dK, hK⟩ := GK
  refine F.ok scIsName (fun vs H Q E h => ?_) (fun cdv A outer s0 H vs Q E hr h => ?_)
  · obtain ⟨t, rfl, _⟩ := h
    rfl
  · obtain ⟨t, rfl, hz, q⟩ := h
    refine ⟨_, pss_cons (ps_if (PW.pt (pw_or (pt_not (pt_val (pe_callB call_isi (by rfl) Gz.isi PyProof.Rows.boot_isinstance (pa_cons (pv 0) (pa_cons (pe_bltn (v := .ty "str") (by rfl) Gz.str boot_strT rfl) pa_nil))))) (pw_or (pt_cmpR op_gt (pe_callB call_len (by rfl) G.len PySem.boot_len (pa_cons (pv 0) pa_nil)) (pe_glob (v := .int 8) rfl gS ⟨_, rfl⟩) (nomark _)) (pw_or1 (pt_cmpR (op_in_kd dK) (pv 0) (pe_glob (v := .ref ak) rfl gK rfl) (by rfl)))))) (pss_one (ps_ret pe_bl)) pss_nil)
      (pss_one (ps_ret (pe_and (pe_m0 PySem.F.slot_str_isascii PySem.F.type_str_isascii mt_isascii (pv 0)) (pe_and (pe_m0 PySem.F.slot_str_isidentifier PySem.F.type_str_isidentifier mt_isident (pv 0)) (pe_and (pe_m0 PySem.F.slot_str_isalnum PySem.F.type_str_isalnum mt_isalnum (pv 0)) (pe_one (pe_m0 PySem.F.slot_str_islower PySem.F.type_str_islower mt_islower (pv 0)))))))), ?_⟩
    refine q_when (b := false || (decide ((8 : Int) < ((t.length : Nat) : Int)) || inV (.str t) (KEYS.map V.str))) (et_or (et_is (et_not (et_B (ev_isStr (ev_var rfl) ev_c))) rfl) fun _ => et_or (et_test (ev_op (ev_lenS (ev_var rfl) hz) ev_c rv_I0)) fun _ => et_test (ev_op (ev_var rfl) ev_c (rv_inK hK))) (fun hb H1 e1 => ?_) (fun hb H1 e1 => ?_)
    · refine s_ret (v := .bl false) (D := { nx := _, rt := Q }) ev_c fun H2 e2 => ?_
      rw [Bool.false_or] at hb
      have : isNameM t = false := by unfold isNameM; rw [hb]; rfl
      rw [this] at q
      exact q.go (e1.trans e2)
    · rw [Bool.false_or] at hb
      refine s_ret (v := .bl (isNameM t)) (D := { nx := _, rt := Q }) (ev_is (ev_andV (ev_m0b (g := Txt.isascii) (ev_var rfl)) fun _ => ev_andV (ev_m0b (g := Txt.isidentifier) (ev_var rfl)) fun _ => ev_andV (ev_m0b (g := Txt.isalnum) (ev_var rfl)) fun _ => ev_m0b (g := Txt.islower) (ev_var rfl)) ?_) fun H2 e2 => q.go (e1.trans e2)
      unfold isNameM
      rw [hb]
      rfl
def spWhole : Sp := fun vs H Q _ => ∃ t : Str, vs = [.str t] ∧ t.length ≤ 100000 ∧ RetV (strV (wholeM t)) H Q
theorem scWhole : FnScope ["text"] ["text"] (defScope sWhole) := ⟨rfl, rfl, rfl, by decide +kernel, rfl, by decide +kernel, by decide +kernel⟩
theorem sv_isName {t : Str} {H : Hp} (h : t.length ≤ 100000) : SpV spIsName [.str t] H (.bl (isNameM t)) := fun H1 e Q q E => ⟨t, rfl, h, fun H2 e2 => q H2 e2⟩
theorem digit_pos {t : Str} (h : Txt.isdigit t = true) : 0 < t.length := by
  refine Nat.pos_of_ne_zero fun z => ?_
  have : t = "" := by
    obtain ⟨⟨l⟩⟩ := t
    have : l = [] := List.eq_nil_of_length_eq_zero z
    subst this
    rfl
  rw [this] at h
  exact absurd h (by decide +kernel)
theorem ok_whole {f fN : Addr} {fd fdN : FuncData} (F : Fun K "kind_of_whole" "kind_of_whole" sWhole f fd) (GN : FnOk P w K mg base CX0 1 fN fdN ["thing"] spIsName) (bN : Binds K fdN ["thing"] []) (kN : PySem.W.keepIn K (.ref fN) = true) (mN : mg "is_name" = some (.ref fN)) (G : Gn K mg) :
    FnOk P w K mg base CX0 2 f fd ["text"] spWhole := by
  obtain ⟨_, g1⟩ := G.kName
  obtain ⟨_, g2⟩ := G.kNumber
  obtain ⟨_, gF⟩ := G.mostF
  refine F.ok scWhole (fun vs H Q E h => ?_) (fun cdv A outer s0 H vs Q E hr h => ?_)
  · obtain ⟨t, rfl, _⟩ := h
    rfl
  · obtain ⟨t, rfl, hz, q⟩ := h
    refine ⟨_, pss_cons (ps_if (pt_val (pe_call GN hr rfl mN kN bN .nil pass0 (pa_cons (pv 0) pa_nil))) (pss_one (ps_ret (pe_glob (v := .str "a name") rfl g1 ⟨_, rfl⟩))) pss_nil)
      (pss_cons (ps_if (PW.pt (pw_and (pt_val (pe_m0 PySem.F.slot_str_isdigit PySem.F.type_str_isdigit mt_isdigit (pv 0))) (pw_and (pt_cmpR op_le (pe_callB call_len (by rfl) G.len PySem.boot_len (pa_cons (pv 0) pa_nil)) (pe_glob (v := .int 9) rfl gF ⟨_, rfl⟩) (nomark _)) (pw_and1 (PW.pt (pw_or (pt_cmpR op_ne (pe_ix ix_str (pv 0) pe_int (fun _ _ => rfl)) pe_str (nomark _)) (pw_or1 (pt_cmpR op_eq (pv 0) pe_str (nomark _))))))))) (pss_one (ps_ret (pe_glob (v := .str "a number") rfl g2 ⟨_, rfl⟩))) pss_nil)
      (pss_one (ps_ret pe_non))), ?_⟩
    unfold wholeM at q
    refine q_when (et_B (ev_call (ea_cons (ev_var rfl) ea_nil) (sv_isName hz))) (fun hb H1 e1 => ?_) (fun hb H1 e1 => ?_)
    · simp only [hb, if_true] at q
      exact s_ret (v := .str "a name") (D := { nx := _, rt := Q }) ev_c fun H2 e2 => q.go (e1.trans e2)
    simp only [hb, Bool.false_eq_true, if_false] at q
    refine q_when (b := isNumM t) (et_and (et_B (ev_m0b (g := Txt.isdigit) (ev_var rfl))) fun hd => et_and (et_test (ev_op (ev_lenS (ev_var rfl) hz) ev_c rv_I0)) fun _ => et_or (et_test (ev_op (ev_op (ev_var rfl) (ev_c (v := .int ((0 : Nat) : Int))) (rv_sign hz (digit_pos hd))) ev_c (rv_ne rfl))) fun _ => et_test (ev_op (ev_var rfl) ev_c (rv_eq rfl))) (fun hc H2 e2 => ?_) (fun hc H2 e2 => ?_)
    · simp only [hc, if_true] at q
      exact s_ret (v := .str "a number") (D := { nx := _, rt := Q }) ev_c fun H3 e3 => q.go ((e1.trans e2).trans e3)
    simp only [hc, Bool.false_eq_true, if_false] at q
    exact s_ret (v := .non) (D := { nx := _, rt := Q }) ev_c fun H3 e3 => q.go ((e1.trans e2).trans e3)
end
end Prs
set_option Elab.async false
set_option linter.all false
set_option maxRecDepth 100000
set_option maxHeartbeats 4000000
namespace Prs
open PySem PySem.Spec PyProof.Rows L2 Evl
def MRKS : List Str := ["(", ")", "+", "-", "<", "=", ","]
def OWN : List Str := KEYS ++ MRKS
def PART : List (Nat × Str) := [(40, " ( "), (41, " ) "), (43, " + "), (44, " , "), (45, " - "), (60, " < "), (61, " = ")]
def kindW (t : Str) : Option Str := if decide (t ∈ OWN) then some t else wholeM t
def kindsM : List Str → Option (List Str)
  | [] => some []
  | t :: ts => match kindW t with
    | none => none
    | some k => match kindsM ts with
      | none => none
      | some ks => some (k :: ks)
/-- the kinds and the texts, where they can be told so -/
def quickM (r : Str) : Option (List Str × List Str) := if !Txt.isascii r || !Txt.isprintable r then none else match kindsM (Txt.words (trTxt PART r)) with
  | none => none
  | some ks => some (ks ++ (["the row's end"] : List Str), Txt.words (trTxt PART r) ++ ([""] : List Str))
theorem kinds_snoc : ∀ {a : List Str} {ks : List Str} {t k : Str}, kindsM a = some ks → kindW t = some k → kindsM (a ++ [t]) = some (ks ++ [k])
  | [], ks, t, k, h, hk => by
    obtain rfl := Option.some.inj h
    show (match kindW t with | none => none | some k => match kindsM [] with | none => none | some ks => some (k :: ks)) = _
    rw [hk]
    rfl
  | u :: a, ks, t, k, h, hk => by
    have h1 : (match kindW u with | none => none | some k => match kindsM a with | none => none | some ks => some (k :: ks)) = some ks := h
    show (match kindW u with | none => none | some k => match kindsM (a ++ [t]) with | none => none | some ks => some (k :: ks)) = _
    cases hu : kindW u with
    | none => rw [hu] at h1; cases h1
    | some v =>
      rw [hu] at h1
      dsimp only at h1 ⊢
      cases ha : kindsM a with
      | none => rw [ha] at h1; cases h1
      | some zs =>
        rw [ha] at h1
        obtain rfl := Option.some.inj h1
        rw [kinds_snoc ha hk]
        rfl
theorem kinds_none : ∀ {a : List Str} {t : Str}, t ∈ a → kindW t = none → kindsM a = none
  | u :: a, t, h, hk => by
    show (match kindW u with | none => none | some k => match kindsM a with | none => none | some ks => some (k :: ks)) = _
    rcases List.mem_cons.mp h with q | q
    · subst q
      rw [hk]
    · rw [kinds_none q hk]
      cases kindW u <;> rfl
/-- the kinds that are known: right ones, those of the words that are their own kinds among them -/
structure KnOk (kvs : List (Key × V)) : Prop where
  snd : ∀ (t : Str) (v : V), valV kvs (.inr t) = some v → ∃ k, v = .str k ∧ kindW t = some k
  own : ∀ t : Str, t ∈ OWN → valV kvs (.inr t) = some (.str t)
theorem KnOk.put {kvs : List (Key × V)} (h : KnOk kvs) {t k : Str} (hn : valV kvs (.inr t) = none) (hk : kindW t = some k) : KnOk (putK kvs (.inr t) (.str k)) := by
  refine ⟨fun u v e => ?_, fun u hu => ?_⟩
  · rw [valV_put] at e
    split at e
    · rename_i z
      obtain rfl := Option.some.inj e
      obtain rfl : u = t := Sum.inr.inj z
      exact ⟨k, rfl, hk⟩
    · exact h.snd u v e
  · rw [valV_put, if_neg]
    · exact h.own u hu
    · intro z
      obtain rfl : u = t := Sum.inr.inj z
      rw [h.own u hu] at hn
      cases hn
theorem KnOk.new {kvs : List (Key × V)} (h : KnOk kvs) {t : Str} (hn : valV kvs (.inr t) = none) : kindW t = wholeM t := by
  unfold kindW
  rw [if_neg]
  intro z
  rw [h.own t (of_decide_eq_true z)] at hn
  cases hn
section
variable {P : Program} {w : World} {K : PySem.W.Frag} {mg : Str → Option Value} {base : Heap}
def spKnown : Sp := fun vs H Q _ => vs = [] ∧ ∀ d kvs H', H d = none → Ex H H' → H' d = some (.dK kvs) → KnOk kvs → kvs.length ≤ 31 → Q (.ref d) H'
theorem scKnown : FnScope ["word"] [] (defScope sKnownW) := ⟨rfl, rfl, rfl, by decide +kernel, rfl, by decide +kernel, by decide +kernel⟩
theorem own_eq : KEYS.map V.str ++ (signsV MRK ++ []) = OWN.map V.str := by decide +kernel
theorem own_kind {t : Str} (h : t ∈ OWN) : kindW t = some t := by
  unfold kindW
  rw [if_pos (decide_eq_true h)]
structure KnAt (H2 : Hp) (D : Addr) (i : Nat) (H : Hp) : Prop where
  ex : Ex H2 H
  at_ : ∃ kvs, H D = some (.dK kvs) ∧ kvs.length ≤ i ∧ (∀ (t : Str) (v : V), valV kvs (.inr t) = some v → v = .str t ∧ t ∈ OWN) ∧ ∀ t : Str, t ∈ OWN.take i → valV kvs (.inr t) = some (.str t)
theorem KnAt.put {H2 H : Hp} {D : Addr} {i : Nat} {t : Str} (h : KnAt H2 D i H) (n : H2 D = none) (ht : OWN[i]? = some t) : ∃ kvs, H D = some (.dK kvs) ∧ kvs.length < sizeLine ∧ KnAt H2 D (i + 1) (L2.upd H D (.dK (putK kvs (.inr t) (.str t)))) := by
  obtain ⟨kvs, h1, h2, h3, h4⟩ := h.at_
  have hi : i < OWN.length := (List.getElem?_eq_some_iff.mp ht).1
  have ho : OWN.length = 31 := by decide +kernel
  refine ⟨kvs, h1, sz_lt (by omega), Ex.mut h.ex n, _, upd_same, ?_, fun u v e => ?_, fun u hu => ?_⟩
  · have := length_putK kvs (.inr t) (.str t)
    omega
  · rw [valV_put] at e
    split at e
    · rename_i z
      obtain rfl := Option.some.inj e
      obtain rfl : u = t := Sum.inr.inj z
      exact ⟨rfl, List.mem_of_getElem? ht⟩
    · exact h3 u v e
  · rw [valV_put]
    by_cases z : (Sum.inr u : Key) = .inr t
    · rw [if_pos z]
      obtain rfl : u = t := Sum.inr.inj z
      rfl
    · rw [if_neg z]
      rw [List.take_add_one, ht] at hu
      rcases List.mem_append.mp hu with q | q
      · exact h4 u q
      · exact absurd (by rw [List.mem_singleton.mp q]) z
theorem ok_known {f : Addr} {fd : FuncData} (F : Fun K "known_words" "known_words" sKnownW f fd) (G : Gn K mg) (Gz : Gq K w mg) : FnOk P w K mg base CX0 1 f fd [] spKnown := by
  obtain ⟨_, gM⟩ := G.marks
  obtain ⟨aK, gK, TK⟩ := Gz.keys
  refine F.ok scKnown (fun vs H Q E h => ?_) (fun cdv A outer s0 H vs Q E hr h => ?_)
  · obtain ⟨rfl, _⟩ := h
    rfl
  · obtain ⟨rfl, q⟩ := h
    refine ⟨_, pss_one (ps_ret (pe_dc (tk := tVar 0) (tv := tVar 0) (own := [("word", 0)]) (g := gName 0) (tt := tYes) rfl scKnown.nd (pi_list (pe_lst (StX.pa_star (pe_callTy (call_listTop rfl TK (by decide +kernel) (by decide +kernel)) rfl Gz.list rfl (pa_cons (pe_glob (v := .ref aK) rfl gK rfl) pa_nil)) (pa_starT rfl (pe_glob (v := .str MRK) rfl gM ⟨_, rfl⟩) pa_nil)))) (blkOk_by (N := ["word"]) (sc := defScope sKnownW) (by decide +kernel)) (fun _ _ _ _ _ => pg_name (i := 0) scKnown.nd rfl (Or.inl rfl)) (fun _ _ _ _ _ => pts_nil) (fun _ _ _ _ _ => pv 0) (fun _ _ _ _ _ => pv 0))), ?_⟩
    refine ⟨rfl, fun p1 n1 => ⟨p1, KEYS.map V.str, rfl, .inr (sq_of upd_same), MRK, rfl, by decide, by rw [own_eq, List.length_map]; exact sz_of (by decide +kernel), fun p2 n2 => ?_⟩⟩
    rw [own_eq]
    have e1 := Ex.new (o := .lst (KEYS.map V.str)) n1
    have e2 := Ex.new (o := .lst (OWN.map V.str)) n2
    refine ⟨p2, rfl, ⟨_, sq_of upd_same⟩, fun D nD => ?_⟩
    have hD : H D = none := fresh_back (e1.trans e2) nD
    have h2 : (L2.upd (L2.upd H p1 (.lst (KEYS.map V.str))) p2 (.lst (OWN.map V.str))) p2 = some (.lst (OWN.map V.str)) := upd_same
    have e12 := e1.trans e2
    revert nD h2 e12
    generalize (L2.upd (L2.upd H p1 (.lst (KEYS.map V.str))) p2 (.lst (OWN.map V.str))) = H2
    intro nD h2 e12
    refine dc_lst (xs := OWN.map V.str) (fun i H' => KnAt H2 D i H') ⟨Ex.new nD, [], upd_same, Nat.le_refl _, (fun _ _ h => by cases h), (fun _ h => by cases h)⟩ (fun i H' _ z => sq_of (z.ex _ _ h2)) (fun i x H' hx z => ?_) (fun H' z => ?_)
    · rw [List.getElem?_map] at hx
      cases ht : OWN[i]? with
      | none => rw [ht] at hx; cases hx
      | some t =>
        rw [ht] at hx
        obtain rfl := Option.some.inj hx
        obtain ⟨kvs, k1, k2, k3⟩ := z.put nD ht
        refine ⟨rfl, ?_⟩
        unfold tYes
        dsimp only
        rw [if_pos rfl]
        exact ⟨.str t, rfl, .str t, rfl, kvs, .inr t, rfl, k1, k2, k3⟩
    · obtain ⟨kvs, h1, hl, h3, h4⟩ := z.at_
      rw [List.length_map] at hl h4
      exact q D kvs H' hD (e12.trans z.ex) h1 ⟨fun t v e => by
        obtain ⟨rfl, hm⟩ := h3 t v e
        exact ⟨t, rfl, own_kind hm⟩, fun t hm => h4 t (by rw [List.take_length]; exact hm)⟩ (Nat.le_trans hl (by decide +kernel))
end
end Prs
set_option Elab.async false
set_option linter.all false
set_option maxRecDepth 100000
set_option maxHeartbeats 4000000
namespace Prs
open PySem PySem.Spec PyProof.Rows L2 Evl
/-- all but the object at p stands -/
def Fr (p : Addr) (H H' : Hp) : Prop := ∀ b o, b ≠ p → H b = some o → H' b = some o
theorem Fr.refl (p : Addr) (H : Hp) : Fr p H H := fun _ _ _ h => h
theorem Fr.trans {p : Addr} {H H1 H2 : Hp} (a : Fr p H H1) (b : Fr p H1 H2) : Fr p H H2 := fun x o n h => b x o n (a x o n h)
theorem Fr.ex {p : Addr} {H H' : Hp} (e : Ex H H') : Fr p H H' := fun x o _ h => e x o h
theorem Fr.upd {p : Addr} {H H' : Hp} {o : HO} (e : Fr p H H') : Fr p H (upd H' p o) := fun x u n h => by
  rw [upd_ne n]
  exact e x u n h
theorem ne_old {H : Hp} {a b : Addr} {o : HO} (h : H a = some o) (n : H b = none) : b ≠ a := fun z => by
  rw [z, h] at n
  cases n
theorem fr_none {p a : Addr} {H H' : Hp} (f : Fr p H H') (n : a ≠ p) (h : H' a = none) : H a = none := by
  cases e : H a with
  | none => rfl
  | some o =>
    rw [f a o n e] at h
    cases h
theorem part_ok : okTab PART = true := by decide +kernel
theorem part_one (c : Nat) : (trOne PART c).cps.toList.length ≤ 3 := by
  cases h : tabAt PART c with
  | none => rw [trOne_no h]; show 1 ≤ 3; decide
  | some z =>
    rw [trOne_yes h]
    obtain ⟨p, hp, rfl⟩ := tabAt_mem h
    have : (PART.all fun p => decide (p.2.cps.toList.length ≤ 3)) = true := by decide +kernel
    exact of_decide_eq_true (List.all_eq_true.mp this p hp)
theorem part_cps : ∀ x : List Nat, (x.flatMap fun c => (trOne PART c).cps.toList).length ≤ 3 * x.length
  | [] => by simp
  | c :: x => by
    have ih := part_cps x
    have h1 := part_one c
    simp only [List.flatMap_cons, List.length_append, List.length_cons]
    omega
theorem part_len (r : Str) : (trTxt PART r).length ≤ 3 * r.length := by
  show ((r.cps.toList.flatMap fun c => (trOne PART c).cps.toList).toArray).size ≤ 3 * r.length
  rw [List.size_toArray]
  exact part_cps _
theorem words_many {r : Str} (h : r.length ≤ 10000) : (Txt.words (trTxt PART r)).length ≤ 15001 := by
  have h1 := part_len r
  have h2 := PyProof.Rows.fact_words (trTxt PART r)
  omega
theorem words_len {r t : Str} (h : r.length ≤ 10000) (ht : t ∈ Txt.words (trTxt PART r)) : t.length ≤ 100000 := by
  have h1 := part_len r
  have h2 := PyProof.Rows.word_short ht
  omega
section
variable {K : PySem.W.Frag} {σ : L2.St} {H : Hp} {te tf : TE}
theorem ev_trans {aP : Addr} {z : Str} (h : Ev te σ H (.str z)) (hz : z.length ≤ 100000) : Ev (tM1 (fun x xs H Q => ∃ y : Str, x = .str y ∧ xs = [.ref aP] ∧ y.length ≤ 100000 ∧ Q (.str (trTxt PART y)) H) te (tC (.ref aP))) σ H (.str (trTxt PART z)) := fun H1 e Q q => h H1 e _ fun H2 e2 => ⟨⟨z, rfl⟩, z, rfl, rfl, hz, q H2 e2⟩
theorem el_words {z : Str} (h : Ev te σ H (.str z)) (hz : z.length ≤ 99000) : EvL (tM0 (fun x xs H Q => ∃ a, x = .str a ∧ xs = [] ∧ a.length + 2 ≤ sizeLine ∧ rNewStrs (Txt.words a) H Q) te) σ H ((Txt.words z).map V.str) := fun H1 e Q q =>
  h H1 e _ fun H2 e2 => ⟨⟨z, rfl⟩, z, rfl, rfl, sz_of (by omega), fun p np => q p _ (fresh_back e2 np) (e2.trans (Ex.new np)) upd_same⟩
end
def QuickV (H H' : Hp) (v : V) : Option (List Str × List Str) → Prop
  | none => v = .non
  | some (ks, ts) => ∃ a kl tl, v = .ref a ∧ H' a = some (.tup [.ref kl, .ref tl]) ∧ H' kl = some (.lst (ks.map V.str)) ∧ H' tl = some (.lst (ts.map V.str)) ∧ H kl = none ∧ H tl = none
section
variable {P : Program} {w : World} {K : PySem.W.Frag} {mg : Str → Option Value} {base : Heap}
def spQuick : Sp := fun vs H Q _ => ∃ (r : Str) (kd : Addr) (kvs : List (Key × V)), vs = [.str r, .ref kd] ∧ r.length ≤ 10000 ∧ H kd = some (.dK kvs) ∧ KnOk kvs ∧ kvs.length ≤ 16000000 ∧
  ∀ v H' kvs', Fr kd H H' → H' kd = some (.dK kvs') → KnOk kvs' → kvs'.length ≤ kvs.length + 30000 → QuickV H H' v (quickM r) → Q v H'
theorem scQuick : FnScope ["row", "known", "texts", "kinds", "text", "kind"] ["row", "known"] (defScope sQuick) := ⟨rfl, rfl, rfl, by decide +kernel, rfl, by decide +kernel, by decide +kernel⟩
theorem sv_whole {t : Str} {H : Hp} (h : t.length ≤ 100000) : SpV spWhole [.str t] H (strV (wholeM t)) := fun H1 e Q q E => ⟨t, rfl, h, fun H2 e2 => q H2 e2⟩
theorem rv_none {x : V} {H : Hp} : RV (fun x y H Q => y = .non ∧ Q (.bl (decide (x = .non))) H) x .non H (.bl (decide (x = .non))) := fun H1 _ _ q => ⟨rfl, q H1 (Ex.refl H1)⟩
structure QkAt (H : Hp) (kd tl D : Addr) (n : Nat) (ts : List Str) (i : Nat) (H' : Hp) : Prop where
  fr : Fr kd H H'
  kn : ∃ kvs, H' kd = some (.dK kvs) ∧ KnOk kvs ∧ kvs.length ≤ n + i
  ks : ∃ ks, kindsM (ts.take i) = some ks ∧ H' D = some (.lst (ks.map V.str)) ∧ ks.length = i
  tx : H' tl = some (.lst (ts.map V.str))
theorem QkAt.ex {H H1 H2 : Hp} {kd tl D : Addr} {n i : Nat} {ts : List Str} (h : QkAt H kd tl D n ts i H1) (e : Ex H1 H2) : QkAt H kd tl D n ts i H2 := by
  obtain ⟨f, ⟨kvs, a, b, c⟩, ⟨ks, d, g, l⟩, t⟩ := h
  exact ⟨f.trans (Fr.ex e), ⟨kvs, e _ _ a, b, c⟩, ⟨ks, d, e _ _ g, l⟩, e _ _ t⟩
theorem ok_quick {f fW aP : Addr} {fd fdW : FuncData} (F : Fun K "quick_words" "quick_words" sQuick f fd) (GW : FnOk P w K mg base CX0 2 fW fdW ["text"] spWhole) (bW : Binds K fdW ["text"] []) (kW : PySem.W.keepIn K (.ref fW) = true) (mW : mg "kind_of_whole" = some (.ref fW)) (G : Gn K mg) (gP : mg "PARTED" = some (.ref aP)) (TP : TopTab K aP PART) :
    FnOk P w K mg base CX0 3 f fd ["row", "known"] spQuick := by
  obtain ⟨_, gE⟩ := G.kEnd
  refine F.ok scQuick (fun vs H Q E h => ?_) (fun cdv A outer s0 H vs Q E hr h => ?_)
  · obtain ⟨r, kd, kvs, rfl, _⟩ := h
    rfl
  · obtain ⟨r, kd, kvs, rfl, hz, hkd, ok, hn, q⟩ := h
    refine ⟨_, pss_cons (ps_if (PW.pt (pw_or (pt_not (pt_val (pe_m0 PySem.F.slot_str_isascii PySem.F.type_str_isascii mt_isascii (pv 0)))) (pw_or1 (pt_not (pt_val (pe_m0 PySem.F.slot_str_isprintable PySem.F.type_str_isprintable mt_isprintable (pv 0))))))) (pss_one (ps_ret pe_non)) pss_nil)
      (pss_cons (ps_set (i := 2) scQuick.nd rfl (.inl rfl) (pe_m0 PySem.F.slot_str_split PySem.F.type_str_split mt_words (pe_m1 PySem.F.slot_str_translate PySem.F.type_str_translate (mt_transTop rfl TP part_ok) (pv 0) (pe_glob (v := .ref aP) rfl gP rfl))))
      (pss_cons (ps_set (i := 3) scQuick.nd rfl (.inl rfl) (pe_lst pa_nil))
      (pss_cons (ps_for PassesOwn.never rfl (pi_list (pv 2)) (pg_name (i := 4) scQuick.nd rfl (.inl rfl))
        (pss_cons (ps_set (i := 5) scQuick.nd rfl (.inl rfl) (pe_dget1 (hu_of hr) (pv 1) (pv 4) ⟨rfl, by rfl, rfl, rfl⟩))
        (Evl.pss_cut (ps_if (pt_cmpR op_isN (pv 5) pe_non (nomark _))
          (pss_cons (ps_set (i := 5) scQuick.nd rfl (.inl rfl) (pe_call GW hr rfl mW kW bW .nil pass0 (pa_cons (pv 4) pa_nil)))
          (pss_cons (ps_if (pt_cmpR op_isN (pv 5) pe_non (nomark _)) (pss_one (ps_ret pe_non)) pss_nil)
          (pss_one (ps_dput (hu_of hr) (pv 1) (pv 4) (pv 5) rfl)))) pss_nil)
        (pss_one (ps_expr (pe_bm PySem.F.plainAttrs_list PySem.F.slot_list_append PySem.F.type_list_append mt_append (pv 3) (pa_cons (pv 5) pa_nil)))))))
      (pss_one (ps_ret (pe_tup (pa_cons (pe_lst (StX.pa_star (pv 3) (pa_cons (pe_glob (v := .str "the row's end") rfl gE ⟨_, rfl⟩) pa_nil))) (pa_cons (pe_lst (StX.pa_star (pv 2) (pa_cons pe_str pa_nil))) pa_nil)))))))), ?_⟩
    unfold quickM at q
    refine q_when (b := !Txt.isascii r || !Txt.isprintable r) (et_or (et_not (et_B (ev_m0b (g := Txt.isascii) (ev_var rfl)))) fun _ => et_not (et_B (ev_m0b (g := Txt.isprintable) (ev_var rfl)))) (fun hb H1 e1 => ?_) (fun hb H1 e1 => ?_)
    · simp only [hb, if_true] at q
      exact s_ret (v := .non) (D := { nx := _, rt := Q }) ev_c fun H2 e2 => q .non H2 kvs (Fr.ex (e1.trans e2)) (e2 _ _ (e1 _ _ hkd)) ok (by omega) rfl
    simp only [hb, Bool.false_eq_true, if_false] at q
    generalize hts : Txt.words (trTxt PART r) = ts at q
    have hmany : ts.length ≤ 15001 := by rw [← hts]; exact words_many hz
    have hlen : ∀ t ∈ ts, t.length ≤ 100000 := fun t ht => words_len hz (by rw [hts]; exact ht)
    have hz3 := part_len r
    refine q_asgL (xs := ts.map V.str) (by rw [← hts]; exact el_words (ev_trans (ev_var rfl) (by omega)) (by omega)) fun tl H2 ntl e2 htl => ?_
    refine q_asgL (xs := []) (el_lst ea_nil (by show 0 ≤ 100000; decide)) fun D H3 nD e3 hD => ?_
    have e13 := (e1.trans e2).trans e3
    have ntl0 : H tl = none := fresh_back e1 ntl
    have nD0 : H D = none := fresh_back (e1.trans e2) nD
    have tlk : tl ≠ kd := ne_old hkd ntl0
    have Dk : D ≠ kd := ne_old hkd nD0
    have Dtl : D ≠ tl := ne_old htl nD
    refine q_forLn (K := K) (a := tl) (xs := ts.map V.str) (ev_var rfl) (sq_of (e3 _ _ htl)) (fun i σ H' => QkAt H kd tl D kvs.length ts i H' ∧ ∃ v4 v5, σ = [some (.str r), some (.ref kd), some (.ref tl), some (.ref D), v4, v5]) (fun H4 e4 => ⟨⟨Fr.ex (e13.trans e4), ⟨kvs, e4 _ _ (e13 _ _ hkd), ok, Nat.le_refl _⟩, ⟨[], rfl, e4 _ _ hD, rfl⟩, e4 _ _ (e3 _ _ htl)⟩, none, none, rfl⟩) (fun i σ' H' _ z => sq_of z.1.tx) (fun i x σ' H' hx z => ?_) (fun σ' H' z => ?_)
    · obtain ⟨a, v4, v5, rfl⟩ := z
      rw [List.getElem?_map] at hx
      cases ht : ts[i]? with
      | none => rw [ht] at hx; cases hx
      | some t =>
        rw [ht] at hx
        obtain rfl := Option.some.inj hx
        have hi := (List.getElem?_eq_some_iff.mp ht).1
        have hm := List.mem_of_getElem? ht
        have hl := hlen t hm
        obtain ⟨kv1, k1, k2, k3⟩ := a.kn
        -- known.get(text)
        refine ⟨.ref kd, rfl, kd, rfl, .inl ⟨_, .inl k1⟩, .str t, rfl, _, DGet.k (k := Sum.inr t) k1, ?_⟩
        refine Evl.q_cut (M := fun σ2 H2 => ∃ k, kindW t = some k ∧ σ2 = [some (.str r), some (.ref kd), some (.ref tl), some (.ref D), some (.str t), some (.str k)] ∧ Fr kd H H2 ∧ (∃ kvs', H2 kd = some (.dK kvs') ∧ KnOk kvs' ∧ kvs'.length ≤ kvs.length + (i + 1)) ∧ (∃ ks, kindsM (ts.take i) = some ks ∧ H2 D = some (.lst (ks.map V.str)) ∧ ks.length = i) ∧ H2 tl = some (.lst (ts.map V.str))) ?_ ?_
        · cases hg : valV kv1 (.inr t) with
          | some v =>
            obtain ⟨k, rfl, hk⟩ := k2.snd t v hg
            show tIfS _ _ _ _ [some (.str r), some (.ref kd), some (.ref tl), some (.ref D), some (.str t), some (.str k)] H'
            refine s_when (b := decide (V.str k = .non)) (et_test (ev_op (ev_var rfl) ev_c rv_none)) (fun h => by cases h) fun _ H4 e4 => ?_
            have b := a.ex e4
            obtain ⟨kv2, l1, l2, l3⟩ := b.kn
            exact ⟨k, hk, rfl, b.fr, ⟨kv2, l1, l2, by omega⟩, b.ks, b.tx⟩
          | none =>
            have hw := k2.new hg
            show tIfS _ _ _ _ [some (.str r), some (.ref kd), some (.ref tl), some (.ref D), some (.str t), some .non] H'
            refine s_when (b := decide (V.non = V.non)) (et_test (ev_op (ev_var rfl) ev_c rv_none)) (fun _ H4 e4 => ?_) (fun h => by cases h)
            refine q_asg (v := strV (wholeM t)) (ev_call (ea_cons (ev_var rfl) ea_nil) (sv_whole hl)) fun H5 e5 => ?_
            have b := a.ex (e4.trans e5)
            cases hh : wholeM t with
            | none =>
              refine q_when (b := decide (V.non = V.non)) (et_test (ev_op (ev_var rfl) ev_c rv_none)) (fun _ H6 e6 => ?_) (fun h => by cases h)
              rw [kinds_none hm (by rw [hw, hh])] at q
              have c := b.ex e6
              refine s_ret (v := .non) ev_c fun H7 e7 => ?_
              have d := c.ex e7
              obtain ⟨kv2, l1, l2, l3⟩ := d.kn
              exact q .non H7 kv2 d.fr l1 l2 (by omega) rfl
            | some k =>
              refine q_when (b := decide (V.str k = .non)) (et_test (ev_op (ev_var rfl) ev_c rv_none)) (fun h => by cases h) fun _ H6 e6 => ?_
              have c := b.ex e6
              obtain ⟨kv2, l1, l2, l3⟩ := c.kn
              have g2 : valV kv2 (.inr t) = none := by
                have l0 := e6 _ _ (e5 _ _ (e4 _ _ k1))
                rw [l1] at l0
                injection l0 with l0
                injection l0 with l0
                subst l0
                exact hg
              obtain ⟨ks, m1, m2, m3⟩ := c.ks
              refine ⟨.str k, rfl, .ref kd, rfl, .str t, rfl, kd, _, rfl, DPut.k (k := Sum.inr t) l1 (by rw [sizeLine_eq]; omega), k, by rw [hw, hh], rfl, c.fr.upd, ⟨_, upd_same, l2.put g2 (by rw [hw, hh]), ?_⟩, ⟨ks, m1, by rw [upd_ne Dk]; exact m2, m3⟩, by rw [upd_ne tlk]; exact c.tx⟩
              have := length_putK kv2 (.inr t) (.str k)
              omega
        · rintro σ2 H2 ⟨k, hk, rfl, f2, ⟨kv2, l1, l2, l3⟩, ⟨ks, m1, m2, m3⟩, tx⟩
          refine ⟨.ref D, rfl, .inl ⟨rfl, _, sq_of m2⟩, .str k, rfl, D, _, _, rfl, rfl, m2, sz_lt (by rw [List.length_map]; omega), ⟨fun b o nb ho => ?_, ⟨kv2, by rw [upd_ne (Ne.symm Dk)]; exact l1, l2, l3⟩, ⟨ks ++ [k], ?_, by rw [upd_same, List.map_append]; rfl, by rw [List.length_append, m3]; rfl⟩, by rw [upd_ne (Ne.symm Dtl)]; exact tx⟩, _, _, rfl⟩
          · rw [upd_ne (fun z => by rw [z, nD0] at ho; cases ho)]
            exact f2 b o nb ho
          · rw [List.take_add_one, ht]
            exact kinds_snoc m1 hk
    · obtain ⟨a, v4, v5, rfl⟩ := z
      rw [List.length_map] at a
      obtain ⟨kv1, k1, k2, k3⟩ := a.kn
      obtain ⟨ks, m1, m2, m3⟩ := a.ks
      rw [List.take_length] at m1
      rw [m1] at q
      refine ⟨.ref D, rfl, D, _, rfl, .inr (sq_of m2), by rw [List.length_append, List.length_map]; exact sz_of (by simp; omega), fun kl nkl => ?_⟩
      have e5 := Ex.new (o := .lst (ks.map V.str ++ [V.str "the row's end"])) nkl
      refine ⟨.ref tl, rfl, tl, _, rfl, .inr (sq_of (e5 _ _ a.tx)), by rw [List.length_append, List.length_map]; exact sz_of (by simp; omega), fun tl2 ntl2 => ?_⟩
      have e6 := Ex.new (o := .lst (ts.map V.str ++ [V.str ""])) ntl2
      refine ⟨by show 2 ≤ sizeLine; exact sz_of (by decide), fun T nT => ?_⟩
      have e7 := Ex.new (o := .tup [.ref kl, .ref tl2]) nT
      have f5 := a.fr.trans (Fr.ex ((e5.trans e6).trans e7))
      have klk : kl ≠ kd := ne_old k1 nkl
      have tlk2 : tl2 ≠ kd := ne_old (e5 _ _ k1) ntl2
      refine q _ _ kv1 f5 (e7 _ _ (e6 _ _ (e5 _ _ k1))) k2 (by omega) ⟨T, kl, tl2, rfl, upd_same, ?_, ?_, fr_none a.fr klk nkl, fr_none (a.fr.trans (Fr.ex e5)) tlk2 ntl2⟩
      · rw [e7 _ _ (e6 _ _ upd_same), List.map_append]
        rfl
      · rw [e7 _ _ upd_same, List.map_append]
        rfl
end
end Prs
set_option Elab.async false
set_option linter.all false
set_option maxRecDepth 100000
set_option maxHeartbeats 4000000
namespace L2
open PySem PySem.Spec PyProof.Rows
/-- raise X(a, b): what the error's dict holds -/
theorem made2x {K : PySem.W.Frag} {C : Addr} {f g : Str} {y z : V} {H : Hp} {Q : XK} (T : OexC K C) (nf : PySem.W.findIn K (.ref C) f = some none) (ng : PySem.W.findIn K (.ref C) g = some none) {E : XK}
    (h : ∀ d H', (∀ b o, H b = some o → H' b = some o) → H' d = some (.xd [(g, z), (f, y)]) → Q (.ref C) (some d) H') (a : Addr) (na : H a = none) :
    spI2 K f g [.ref a, y, z] (upd H a (exo a C none)) (fun v H2 => v = .non ∧ ∃ (d : Addr) (fs : List (Str × V)), H2 a = some (exo a C (some d)) ∧ H2 d = some (exd d fs) ∧ H d = none ∧ Q (.ref C) (some d) (upd (del H2 a) d (.xd fs))) E := by
  refine ⟨a, C, y, z, rfl, upd_same, T, nf, ng, fun dx nd ne => ?_⟩
  have nd' : H dx = none := by rw [upd_ne ne] at nd; exact nd
  refine ⟨rfl, dx, _, by rw [upd_ne (Ne.symm ne), upd_same], upd_same, nd', h dx _ (fun b o e => ?_) upd_same⟩
  have hb : b ≠ a := ne_of_none e na
  rw [upd_ne (ne_of_none e nd'), del_ne hb, upd_ne (ne_of_none e nd'), upd_ne hb, upd_ne (ne_of_none e nd'), upd_ne hb]
  exact e
end L2
namespace Prs
open PySem PySem.Spec PyProof.Rows L2 Evl
abbrev sInit : Stmt := inClass (top 30) 0
abbrev sAhead : Stmt := inClass (top 30) 1
abbrev sTake : Stmt := inClass (top 30) 2
abbrev sTakeIf : Stmt := inClass (top 30) 3
/-- a row's number, the places of its words' kinds and texts, and the row -/
structure Nm where
  n : Int
  kl : Addr
  tl : Addr
  r : Str
/-- a place that is none of the words' -/
def Nm.off (num : Nm) (a : Addr) : Prop := a ≠ num.kl ∧ a ≠ num.tl
def wf (num : Nm) (i : Nat) : List (Str × V) := putF "at" (.int (i : Int)) (putF "texts" (.ref num.tl) (putF "kinds" (.ref num.kl) (putF "row" (.str num.r) (putF "number" (.int num.n) []))))
theorem wf_at {num : Nm} {i : Nat} : (wf num i).lookup ("at" : Str) = some (.int (i : Int)) := rfl
theorem wf_kinds {num : Nm} {i : Nat} : (wf num i).lookup ("kinds" : Str) = some (.ref num.kl) := rfl
theorem wf_texts {num : Nm} {i : Nat} : (wf num i).lookup ("texts" : Str) = some (.ref num.tl) := rfl
theorem wf_row {num : Nm} {i : Nat} : (wf num i).lookup ("row" : Str) = some (.str num.r) := rfl
theorem wf_number {num : Nm} {i : Nat} : (wf num i).lookup ("number" : Str) = some (.int num.n) := rfl
theorem wf_no {num : Nm} {i : Nat} {m : Str} (h1 : m ≠ "at") (h2 : m ≠ "texts" ∧ m ≠ "kinds") (h3 : m ≠ "number" ∧ m ≠ "row") : (wf num i).lookup m = none := by
  unfold wf
  rw [lookup_putF, if_neg h1, lookup_putF, if_neg h2.1, lookup_putF, if_neg h2.2, lookup_putF, if_neg h3.2, lookup_putF, if_neg h3.1]
  rfl
theorem wf_put {num : Nm} {i : Nat} {z : Int} {j : Nat} (h : z = (j : Int)) : putF "at" (.int z) (wf num i) = wf num j := by
  subst h
  rfl
theorem wf_len {num : Nm} {i : Nat} : (wf num i).length < 1000 := by
  show 5 < 1000
  decide
/-- the words of the row by its signs have these columns -/
structure ColsOk (r : Str) (ws : List Wd) : Prop where
  len : r.length ≤ 10000
  at_ : ∀ (i : Nat) (x : Wd), ws[i]? = some x → ∃ y : Wd, (wordsOf r)[i]? = some y ∧ y.col = x.col
/-- at p: the words ws of the row num, i of them taken -/
def WAt (W : Addr) (H : Hp) (p : Addr) (num : Nm) (ws : List Wd) (i : Nat) : Prop :=
  ∃ (dx : Addr) (_ : Unit), H p = some (.ins W dx (wf num i)) ∧ H num.kl = some (.lst (ws.map fun x => V.str x.kind)) ∧ (H num.tl = some (.lst (ws.map fun x => V.str x.word)) ∧ ColsOk num.r ws)
theorem WAt.ex {W : Addr} {H H' : Hp} {p : Addr} {num : Nm} {ws : List Wd} {i : Nat} (h : WAt W H p num ws i) (e : Ex H H') : WAt W H' p num ws i := by
  obtain ⟨dx, ts, a, b, c⟩ := h
  exact ⟨dx, ts, e _ _ a, e _ _ b, e _ _ c.1, c.2⟩
/-- what a reading may come to: the error's column, or a thing and how many words are taken -/
abbrev Res (α : Type) := Option (Sum Nat (α × Nat))
/-- what is known ahead of the asking -/
structure Cn (P : Program) (w : World) (K : PySem.W.Frag) (mg : Str → Option Value) (base : Heap) where
  W : Addr
  N : Addr
  cl : Cls K W
  na : NoAttr K W "at"
  nk : NoAttr K W "kinds"
  nt : NoAttr K W "texts"
  nr : NoAttr K W "row"
  nn : NoAttr K W "number"
  mgW : mg "Words" = some (.ref W)
  T : OexC K N
  fR : PySem.W.findIn K (.ref N) "row" = some none
  fC : PySem.W.findIn K (.ref N) "column" = some none
  mgN : mg "NoText" = some (.ref N)
  nI : Addr
  nfd : FuncData
  iC : PySem.W.findIn K (.ref N) "__init__" = some (some (.ref nI))
  tI : PySem.W.typeIn K (.ref nI) = some (.type "function")
  nF : FnOk P w K mg base CX0 1 nI nfd ["self", "row", "column"] (spI2 K "row" "column")
  nB : Binds K nfd ["self", "row", "column"] []
section
variable {P : Program} {w : World} {K : PySem.W.Frag} {mg : Str → Option Value} {base : Heap}
def Acc {α β : Type} (C : Cn P w K mg base) (p : Addr) (num : Nm) (ws : List Wd) (H : Hp) (Q : β → Hp → Prop) (E : XK) (R : Hp → β → α → Prop) : Res α → Prop
  | none => False
  | some (.inl c) => ∀ d H', Fr p H H' → H' d = some (.xd [("column", .int (c : Nat)), ("row", .int num.n)]) → E (.ref C.N) (some d) H'
  | some (.inr (a, j)) => ∀ v H', Fr p H H' → WAt C.W H' p num ws j → R H' v a → Q v H'
theorem Acc.fr {α β : Type} {C : Cn P w K mg base} {p : Addr} {num : Nm} {ws : List Wd} {H H1 : Hp} {Q : β → Hp → Prop} {E : XK} {R : Hp → β → α → Prop} {r : Res α} (h : Acc C p num ws H Q E R r) (f : Fr p H H1) : Acc C p num ws H1 Q E R r := by
  match r, h with
  | some (.inl c), h => exact fun d H' g z => h d H' (f.trans g) z
  | some (.inr (a, j)), h => exact fun v H' g x y => h v H' (f.trans g) x y
/-- one reading behind the other -/
def andThen {α β : Type} (x : Res α) (f : α → Nat → Res β) : Res β :=
  match x with
  | none => none
  | some (.inl c) => some (.inl c)
  | some (.inr (a, j)) => f a j
theorem Acc.bind {α β γ δ : Type} {C : Cn P w K mg base} {p : Addr} {num : Nm} {ws : List Wd} {H H1 : Hp} {Q : γ → Hp → Prop} {Q2 : δ → Hp → Prop} {E : XK} {R : Hp → γ → β → Prop} {R2 : Hp → δ → α → Prop} {x : Res α} {f : α → Nat → Res β}
    (h : Acc C p num ws H Q E R (andThen x f)) (fr : Fr p H H1) (k : ∀ a j, Acc C p num ws H Q E R (f a j) → ∀ v H2, Fr p H H2 → Fr p H1 H2 → WAt C.W H2 p num ws j → R2 H2 v a → Q2 v H2) : Acc C p num ws H1 Q2 E R2 x := by
  match x, h with
  | some (.inl c), h => exact fun d H' g z => h d H' (fr.trans g) z
  | some (.inr (a, j)), h => exact fun v H' g y z => k a j h v H' (fr.trans g) g y z
theorem Acc.ret {α β : Type} {C : Cn P w K mg base} {p : Addr} {num : Nm} {ws : List Wd} {H : Hp} {Q : β → Hp → Prop} {E : XK} {R : Hp → β → α → Prop} {a : α} {j : Nat} (h : Acc C p num ws H Q E R (some (.inr (a, j)))) {v : β} {H' : Hp} (f : Fr p H H') (x : WAt C.W H' p num ws j) (r : R H' v a) : Q v H' := h v H' f x r
theorem ev_fld {σ : L2.St} {H : Hp} {ta : TE} {a c dx : Addr} {fs : List (Str × V)} {f : Str} {v : V} (ha : Ev ta σ H (.ref a)) (hp : H a = some (.ins c dx fs)) (cl : Cls K c) (n : NoAttr K c f) (l : fs.lookup f = some v) : Ev (tFld K ta f) σ H v :=
  fun H1 e Q q => ha H1 e _ fun H2 e2 => ⟨a, c, dx, fs, v, rfl, e2 _ _ (e _ _ hp), cl, n, l, q H2 e2⟩
theorem words_get {H : Hp} : ∀ {ts : List Addr} {ws : List Wd} {i : Nat} {x : Wd}, WordsAre H ts ws → ws[i]? = some x → ∃ t, atI (ts.map V.ref) (i : Int) = some (.ref t) ∧ H t = some (.tup [.str x.kind, .str x.word, .int (x.col : Nat)]) := by
  intro ts ws i x h e
  have z : ∀ {ts : List Addr} {ws : List Wd} {i : Nat}, WordsAre H ts ws → ws[i]? = some x → ∃ t, ts[i]? = some t ∧ H t = some (.tup [.str x.kind, .str x.word, .int (x.col : Nat)]) := by
    intro ts ws i h
    induction h generalizing i with
    | nil => intro e; cases e
    | cons a r ih =>
      intro e
      cases i with
      | zero =>
        cases e
        exact ⟨_, rfl, a⟩
      | succ i => exact ih e
  obtain ⟨t, h1, h2⟩ := z h e
  exact ⟨t, atI_nat (by rw [List.getElem?_map, h1]; rfl), h2⟩
theorem rv_ixL {H : Hp} {p : Addr} {xs : List V} {i : Int} {v : V} (h : H p = some (.lst xs)) (ha : atI xs i = some v) : RV (rIxL K) (.ref p) (.int i) H v := fun H1 e _ q => ⟨p, xs, i, v, rfl, rfl, sq_of (e _ _ h), ha, q H1 (Ex.refl H1)⟩
theorem at_map {ws : List Wd} {i : Nat} {x : Wd} (h : ws[i]? = some x) (f : Wd → V) : atI (ws.map f) (i : Int) = some (f x) := atI_nat (by rw [List.getElem?_map, h]; rfl)
/-! ### ahead -/
def spAhead (C : Cn P w K mg base) : Sp := fun vs H Q _ => ∃ p num ws i x, vs = [.ref p] ∧ WAt C.W H p num ws i ∧ ws[i]? = some x ∧ RetV (.str x.kind) H Q
theorem scAhead : FnScope ["self"] ["self"] (defScope sAhead) := ⟨rfl, rfl, rfl, by decide +kernel, rfl, by decide +kernel, by decide +kernel⟩
theorem ok_ahead {f : Addr} {fd : FuncData} (C : Cn P w K mg base) (F : Fun K "ahead" "Words.ahead" sAhead f fd) : FnOk P w K mg base CX0 1 f fd ["self"] (spAhead C) := by
  refine F.ok scAhead (fun vs H Q E h => ?_) (fun cdv A outer s0 H vs Q E hr h => ?_)
  · obtain ⟨p, num, ws, i, x, rfl, _⟩ := h
    rfl
  · obtain ⟨p, num, ws, i, x, rfl, ⟨dx, _, hp, hl, _⟩, hx, q⟩ := h
    refine ⟨_, pss_one (ps_ret (pe_ix ix_list (pe_fld (pv 0) rfl) (pe_fld (pv 0) rfl) (fun _ _ => rfl))), ?_⟩
    exact s_ret (v := .str x.kind) (D := { nx := _, rt := Q }) (ev_op (ev_fld (ev_var rfl) hp C.cl C.nk wf_kinds) (ev_fld (ev_var rfl) hp C.cl C.na wf_at) (rv_ixL hl (at_map hx _))) fun H1 e1 => q.go e1
/-- one word more is taken -/
theorem wat_put {W p dx : Addr} {num : Nm} {ws : List Wd} {i : Nat} {H H2 : Hp} (hp : H p = some (.ins W dx (wf num i))) (hl : H num.kl = some (.lst (ws.map fun x => V.str x.kind))) (hW : H num.tl = some (.lst (ws.map fun x => V.str x.word)) ∧ ColsOk num.r ws) (e : Ex H H2) :
    WAt W (upd H2 p (.ins W dx (putF "at" (.int ((i : Int) + 1)) (wf num i)))) p num ws (i + 1) := by
  have ek : num.kl ≠ p := fun z => by
    rw [z, hp] at hl
    cases hl
  have et : num.tl ≠ p := fun z => by
    have h := hW.1
    rw [z, hp] at h
    cases h
  exact ⟨dx, (), by rw [upd_same, wf_put (z := (i : Int) + 1) (j := i + 1) rfl], by rw [upd_ne ek]; exact e _ _ hl, by rw [upd_ne et]; exact e _ _ hW.1, hW.2⟩
theorem ne_of_none' {H : Hp} {a b : Addr} {o : HO} (h : H a = some o) (n : H b = none) : b ≠ a := ne_old h n
theorem fresh_upd {H : Hp} {a b : Addr} {o o2 : HO} (h : H a = some o) (n : (upd H a o2) b = none) : H b = none := by
  have : b ≠ a := fun z => by
    rw [z, upd_same] at n
    cases n
  rw [upd_ne this] at n
  exact n
/-! ### take -/
def takeM (ws : List Wd) (ks : List Str) (i : Nat) : Res Str :=
  match ws[i]? with
  | none => none
  | some x => if inV (.str x.kind) (ks.map V.str) then some (.inr (x.word, i + 1)) else some (.inl x.col)
def RStr : Hp → V → Str → Prop := fun _ v a => v = .str a
def spTake0 (C : Cn P w K mg base) : Sp := fun vs H Q E => ∃ p num ws i q ks, vs = [.ref p, .ref q] ∧ H q = some (.tup (ks.map V.str)) ∧ WAt C.W H p num ws i ∧ Acc C p num ws H Q E RStr (takeM ws ks i)
theorem scTake : FnScope ["self", "kinds", "at"] ["self", "kinds"] (defScope sTake) := ⟨rfl, rfl, rfl, by decide +kernel, rfl, by decide +kernel, by decide +kernel⟩
theorem flat_strs (ks : List Str) : (ks.map V.str).all flatV = true := by
  induction ks with
  | nil => rfl
  | cons a r ih => exact ih
/-- where words_of stands -/
structure Wo (P : Program) (w : World) (K : PySem.W.Frag) (mg : Str → Option Value) (base : Heap) where
  f : Addr
  fd : FuncData
  G : FnOk P w K mg base CX0 3 f fd ["row"] spWordsOf
  b : Binds K fd ["row"] []
  k : PySem.W.keepIn K (.ref f) = true
  m : mg "words_of" = some (.ref f)
/-- the column of a word that is refused -/
theorem ev_colOf {σ : L2.St} {H : Hp} {C : Cn P w K mg base} {p dx : Addr} {num : Nm} {ws : List Wd} {i k : Nat} {x : Wd} (h0 : σ[0]? = some (some (.ref p))) (hi : σ[k]? = some (some (.int (i : Int)))) (hp : H p = some (.ins C.W dx (wf num i))) (co : ColsOk num.r ws) (hx : ws[i]? = some x) :
    Ev (tOp (rIxT K) (tOp (rIxL K) (tCall spWordsOf [] E0 (tCons (tFld K (tVar 0) "row") tNil)) (tVar k)) (tC (.int 2))) σ H (.int (x.col : Nat)) := fun H1 e Q q => by
  obtain ⟨y, hy, hc⟩ := co.at_ i x hx
  have ea : EvA (tCons (tFld K (tVar 0) "row") tNil) σ H [.str num.r] := ea_cons (ev_fld (ev_var h0) hp C.cl C.nr wf_row) ea_nil
  delta tOp tCall
  refine ea H1 e _ fun H2 e2 => ⟨num.r, rfl, co.len, fun l ts H3 nl e3 hl hW => ?_⟩
  obtain ⟨t, h1, h2⟩ := words_get hW hy
  refine ⟨.int (i : Int), hi, l, _, (i : Int), _, rfl, rfl, sq_of hl, h1, t, _, 2, _, rfl, rfl, st_of h2, rfl, ?_⟩
  rw [hc]
  exact q H3 (e2.trans e3)
theorem body_take (C : Cn P w K mg base) (O : Wo P w K mg base) {f : Addr} {cdv : Value} (A : Around) (outer : List Env) (s : Shared) (H : Hp) (vs : List V) (Q : VK) (E : XK) (hr : Room 3 (A.deeper (envOfC "Words.take" (defScope sTake) s.heap.objs.size f cdv))) (h : spTake0 C vs H Q E) :
    ∃ t, PSs (cxOf (L2.CX P w) P w K mg base ["self", "kinds", "at"] "Words.take" (defScope sTake) f cdv A outer s H E) (defBody sTake) t ∧ t { nx := fun _ H' => Q .non H', rt := Q } (start ["self", "kinds", "at"] vs) H := by
  obtain ⟨p, num, ws, i, q, ks, rfl, hq, ⟨dx, ts, hp, hl, hW⟩, ac⟩ := h
  have hr2 : Room 2 (A.deeper (envOfC "Words.take" (defScope sTake) s.heap.objs.size f cdv)) := hr.mono (by decide)
  have hp0 : p ≠ q := fun z => by
    rw [z, hq] at hp
    cases hp
  refine ⟨_, pss_cons (ps_set (i := 2) scTake.nd rfl (.inl rfl) (pe_fld (pv 0) rfl))
    (pss_cons (ps_if (pt_cmpR op_notIn_seq (pe_ix ix_list (pe_fld (pv 0) rfl) (pv 2) (fun _ _ => rfl)) (pv 1) (by rfl)) (pss_one (ps_raise rfl (takes_of rfl rfl rfl rfl) (pmk_oex (ds := []) (dvs := []) C.T C.iC C.tI C.nF hr2 C.nB .nil pass0 rfl C.mgN (pa_cons (pe_fld (pv 0) rfl) (pa_cons (pe_ix ix_tup (pe_ix ix_list (pe_call O.G hr rfl O.m O.k O.b .nil pass0 (pa_cons (pe_fld (pv 0) rfl) pa_nil)) (pv 2) (fun _ _ => rfl)) pe_int (fun _ _ => rfl)) pa_nil))))) pss_nil)
    (pss_cons (ps_fld (pv 0) (pe_op op_add (pv 2) pe_int) rfl) (pss_one (ps_ret (pe_ix ix_list (pe_fld (pv 0) rfl) (pv 2) (fun _ _ => rfl)))))), ?_⟩
  unfold takeM at ac
  cases hx : ws[i]? with
  | none =>
    rw [hx] at ac
    exact ac.elim
  | some x =>
    rw [hx] at ac
    refine q_asg (v := .int (i : Int)) (ev_fld (ev_var rfl) hp C.cl C.na wf_at) fun H1 e1 => ?_
    have hp1 := e1 _ _ hp
    have hl1 := e1 _ _ hl
    show tSeq (tIfS _ _ _) _ _ [some (.ref p), some (.ref q), some (.int (i : Int))] H1
    have eT : EvT (tTest (tOp (rIn K true) (tOp (rIxL K) (tFld K (tVar 0) "kinds") (tVar 2)) (tVar 1))) [some (.ref p), some (.ref q), some (.int (i : Int))] H1 (!inV (.str x.kind) (ks.map V.str)) := et_test (ev_op (ev_op (ev_fld (ev_var rfl) hp1 C.cl C.nk wf_kinds) (ev_var rfl) (rv_ixL hl1 (at_map hx _))) (ev_var rfl) (rv_niT (st_of (e1 _ _ hq)) rfl (flat_strs ks)))
    refine q_when eT (fun hb H2 e2 => ?_) (fun hb H2 e2 => ?_)
    · have hb' : inV (.str x.kind) (ks.map V.str) = false := by
        cases h : inV (.str x.kind) (ks.map V.str) with
        | false => rfl
        | true => rw [h] at hb; exact Bool.noConfusion hb
      simp only [hb', Bool.false_eq_true, if_false] at ac
      have hp2 := e2 _ _ hp1
      refine (ea_cons (ev_fld (ev_var rfl) hp2 C.cl C.nn wf_number) (ea_cons (ev_colOf (C := C) (k := 2) rfl rfl hp2 hW.2 hx) ea_nil) : EvA _ _ H2 [.int num.n, .int (x.col : Nat)]) H2 (Ex.refl H2) _ fun H3 e3 => ⟨by show 2 ≤ 1000; decide, ?_⟩
      exact made2x C.T C.fR C.fC fun d H' e z => ac d H' (Fr.ex fun b o y => e _ _ (e3 _ _ (e2 _ _ (e1 _ _ y)))) z
    · have hb' : inV (.str x.kind) (ks.map V.str) = true := by
        cases h : inV (.str x.kind) (ks.map V.str) with
        | true => rfl
        | false => rw [h] at hb; exact Bool.noConfusion hb
      simp only [hb', if_true] at ac
      have hp2 := e2 _ _ hp1
      have e12 := e1.trans e2
      refine ⟨.int (i : Int), rfl, i, 1, rfl, rfl, .ref p, rfl, p, C.W, dx, _, rfl, hp2, C.cl, C.na, wf_len, ?_⟩
      have hw3 := wat_put hp hl hW e12
      obtain ⟨dx3, _, g1, g2, g3, _⟩ := id hw3
      refine s_ret (v := .str x.word) (D := { nx := _, rt := Q }) (ev_op (ev_fld (ev_var rfl) g1 C.cl C.nt wf_texts) (ev_var rfl) (rv_ixL g3 (at_map hx _))) fun H3 e3 => ?_
      exact ac _ H3 (Fr.trans (Fr.upd (Fr.ex e12)) (Fr.ex e3)) (hw3.ex e3) rfl
/-- what the caller sees -/
def spTake (C : Cn P w K mg base) : Sp := fun vs H Q E => ∃ p num ws i ks, vs = .ref p :: ks.map V.str ∧ ks.length ≤ 100000 ∧ WAt C.W H p num ws i ∧ Acc C p num ws H Q E RStr (takeM ws ks i)
theorem ok_take {f : Addr} {fd : FuncData} (C : Cn P w K mg base) (O : Wo P w K mg base) (F : Fun K "take" "Words.take" sTake f fd) : FnR P w K mg base (L2.CX P w) 4 f (spTake C) := by
  obtain ⟨oc, od, kV, doc, pm, an, cdv, ct, osl, rfl, lk, hcd⟩ := F.ex
  refine (StX.fn_star (ps := ["self"]) (pv := "kinds") lk hcd scTake StX.cxUp (StX.bind_star1 (B := fun us => bindArgs (PySem.W.fnOf "take" "Words.take" (defArgs sTake) (defBody sTake) (defScope sTake) Value.none kV doc pm an cdv ct) ⟨us, []⟩) (fun _ => rfl) (fun _ _ _ => rfl)) fun A outer s H vs Q E hr h => body_take C O A outer s H vs Q E hr h).imp fun vs H Q E h => ?_
  obtain ⟨p, num, ws, i, ks, rfl, hz, hW, ac⟩ := h
  refine ⟨[.ref p], ks.map V.str, rfl, rfl, sz_of (by rw [List.length_map]; exact hz), fun q hq => ?_⟩
  have e : Ex H (upd H q (.tup (ks.map V.str))) := fun b o hb => by
    rw [upd_ne (ne_of_none hb hq)]
    exact hb
  exact ⟨p, num, ws, i, q, ks, rfl, upd_same, hW.ex e, ac.fr (Fr.ex e)⟩
/-! ### take_if -/
def takeIfM (ws : List Wd) (k : Str) (i : Nat) : Res Bool :=
  match ws[i]? with
  | none => none
  | some x => if decide (V.str x.kind = V.str k) then some (.inr (true, i + 1)) else some (.inr (false, i))
def RBl : Hp → V → Bool → Prop := fun _ v a => v = .bl a
def spTakeIf (C : Cn P w K mg base) : Sp := fun vs H Q E => ∃ p num ws i k, vs = [.ref p, .str k] ∧ WAt C.W H p num ws i ∧ Acc C p num ws H Q E RBl (takeIfM ws k i)
theorem scTakeIf : FnScope ["self", "kind"] ["self", "kind"] (defScope sTakeIf) := ⟨rfl, rfl, rfl, by decide +kernel, rfl, by decide +kernel, by decide +kernel⟩
theorem ok_takeIf {f : Addr} {fd : FuncData} (C : Cn P w K mg base) (F : Fun K "take_if" "Words.take_if" sTakeIf f fd) : FnOk P w K mg base CX0 2 f fd ["self", "kind"] (spTakeIf C) := by
  refine F.ok scTakeIf (fun vs H Q E h => ?_) (fun cdv A outer s0 H vs Q E hr h => ?_)
  · obtain ⟨p, num, ws, i, k, rfl, _⟩ := h
    rfl
  · obtain ⟨p, num, ws, i, k, rfl, ⟨dx, ts, hp, hl, hW⟩, ac⟩ := h
    refine ⟨_, pss_cons (ps_if (pt_cmpR op_ne (pe_ix ix_list (pe_fld (pv 0) rfl) (pe_fld (pv 0) rfl) (fun _ _ => rfl)) (pv 1) (nomark _)) (pss_one (ps_ret pe_bl)) pss_nil)
      (pss_cons (ps_fldaug (pv 0) pe_int in_add) (pss_one (ps_ret pe_bl))), ?_⟩
    unfold takeIfM at ac
    cases hx : ws[i]? with
    | none =>
      rw [hx] at ac
      exact ac.elim
    | some x =>
      rw [hx] at ac
      refine q_when (b := !decide (V.str x.kind = V.str k)) (et_test (ev_op (ev_op (ev_fld (ev_var rfl) hp C.cl C.nk wf_kinds) (ev_fld (ev_var rfl) hp C.cl C.na wf_at) (rv_ixL hl (at_map hx _))) (ev_var rfl) (rv_ne rfl))) (fun hb H2 e2 => ?_) (fun hb H2 e2 => ?_)
      · have hb' : decide (V.str x.kind = V.str k) = false := by
          cases h : decide (V.str x.kind = V.str k) with
          | false => rfl
          | true => rw [h] at hb; exact Bool.noConfusion hb
        simp only [hb', Bool.false_eq_true, if_false] at ac
        refine s_ret (v := .bl false) (D := { nx := _, rt := Q }) ev_c fun H3 e3 => ?_
        exact ac _ H3 (Fr.ex (Ex.trans e2 e3)) (WAt.ex ⟨dx, ts, hp, hl, hW⟩ (Ex.trans e2 e3)) rfl
      · have hb' : decide (V.str x.kind = V.str k) = true := by
          cases h : decide (V.str x.kind = V.str k) with
          | true => rfl
          | false => rw [h] at hb; exact Bool.noConfusion hb
        simp only [hb', if_true] at ac
        refine ⟨_, rfl, p, C.W, dx, _, _, rfl, e2 _ _ hp, C.cl, C.na, wf_at, _, _, rfl, rfl, dx, _, e2 _ _ hp, wf_len, ?_⟩
        change tRet (tC (.bl true)) { nx := fun _ H' => Q .non H', rt := Q } (start ["self", "kind"] [.ref p, .str k]) (upd H2 p (.ins C.W dx (putF "at" (.int ((i : Int) + 1)) (wf num i))))
        refine s_ret (v := .bl true) (D := { nx := _, rt := Q }) ev_c fun H3 e3 => ?_
        exact ac _ H3 (Fr.trans (Fr.upd (Fr.ex e2)) (Fr.ex e3)) ((wat_put hp hl hW e2).ex e3) rfl
end
end Prs
set_option Elab.async false
set_option linter.all false
set_option maxRecDepth 100000
set_option maxHeartbeats 4000000
namespace Prs
open PySem PySem.Spec PyProof.Rows L2 Evl
/-- where the quick road tells words, it tells those of the row's signs -/
def quickOk (r : Str) : Bool := match quickM r with
  | none => true
  | some (ks, ts) => decide (ks = (wordsOf r).map Wd.kind) && decide (ts = (wordsOf r).map Wd.word)
theorem wordsGo_len (r : Str) : ∀ (n a : Nat), (wordsGo r n a).length ≤ n
  | 0, _ => Nat.le_refl _
  | n + 1, a => by
    unfold wordsGo
    split
    · split
      · simp
      · have := wordsGo_len r n (nextAt r (endOfWord r a))
        simp only [List.length_cons]
        omega
    · simp
theorem given_all {n : Nat} {ws : List Wd} {f : Wd → V} (h : n = ws.length) : given n (fun _ => true) (fun i => (ws[i]?.map f).getD .non) = ws.map f := by
  unfold given
  rw [List.filter_eq_self.mpr (fun _ _ => rfl)]
  refine List.ext_getElem? fun i => ?_
  rw [List.getElem?_map, List.getElem?_map]
  by_cases hi : i < n
  · rw [List.getElem?_range hi]
    have hi2 : i < ws.length := by omega
    rw [List.getElem?_eq_getElem hi2]
    show some ((ws[i]?.map f).getD .non) = some (f ws[i])
    rw [List.getElem?_eq_getElem hi2]
    rfl
  · rw [List.getElem?_eq_none (by rw [List.length_range]; omega), List.getElem?_eq_none (by omega)]
    rfl
section
variable {K : PySem.W.Frag} {σ : L2.St} {H : Hp}
theorem el_part {ts : List Addr} {ws : List Wd} {a : Addr} {jj : Nat} {f : Wd → V} (h5 : σ[5]? = some (some (.ref a))) (h6 : σ.length = 7) (hl : H a = some (.lst (ts.map V.ref))) (hW : WordsAre H ts ws) (hz : ws.length ≤ 40000) (hw : ∀ x, wipe ((wipe σ [6]).set 6 (some x)) [6] = wipe σ [6]) (hs : wipe σ [6] = σ.set 6 none)
    (hf : ∀ x : Wd, ([V.str x.kind, .str x.word, .int (x.col : Nat)] : List V)[jj]? = some (f x)) : EvL (tLc (iList K (tVar 5)) (gName 6) tYes (tOp (rIxT K) (tVar 6) (tC (.int (jj : Nat)))) [6]) σ H (ws.map f) := by
  have hn : (ts.map V.ref).length = ws.length := by rw [List.length_map]; exact Paired.length hW
  have z := el_lcL (K := K) (σ := σ) (H := H) (j := 6) (vs := [6]) (te := tOp (rIxT K) (tVar 6) (tC (.int (jj : Nat)))) (t := tYes) (xs := ts.map V.ref) (fun _ => true) (fun i => (ws[i]?.map f).getD .non) (ev_var (i := 5) h5) (sq_of hl) (by omega) hw (fun m x H' _ _ => fun H1 _ Q q => q H1 (Ex.refl H1)) (fun m x H' e' hm _ => ?_)
  · rw [given_all hn] at z
    exact z
  · have hm' : m < ws.length := by
      have := (List.getElem?_eq_some_iff.mp hm).1
      omega
    have hx : ws[m]? = some ws[m] := List.getElem?_eq_getElem hm'
    obtain ⟨t, h1, h2⟩ := words_get hW hx
    have ht : x = .ref t := by
      have h3 : atI (ts.map V.ref) (m : Int) = some x := atI_nat hm
      rw [h1] at h3
      exact (Option.some.inj h3).symm
    subst ht
    have hv : ((wipe σ [6]).set 6 (some (V.ref t)))[6]? = some (some (V.ref t)) := by
      rw [hs, List.set_set]
      exact List.getElem?_set_self (by omega)
    rw [hx]
    exact fun H1 e1 Q q => ⟨.ref t, hv, t, _, (jj : Int), _, rfl, rfl, st_of (e1 _ _ (e' _ _ h2)), atI_nat (hf ws[m]), q H1 (Ex.refl H1)⟩
end
theorem ed_parts {K : PySem.W.Frag} {σ : L2.St} {H : Hp} {ts : List Addr} {ws : List Wd} {a : Addr} (h5 : σ[5]? = some (some (.ref a))) (h6 : σ.length = 7) (hl : H a = some (.lst (ts.map V.ref))) (hW : WordsAre H ts ws) (hz : ws.length ≤ 40000) (hw : ∀ x, wipe ((wipe σ [6]).set 6 (some x)) [6] = wipe σ [6]) (hs : wipe σ [6] = σ.set 6 none) {Q : VK}
    (q : ∀ T kl tl H2, Ex H H2 → H kl = none → H tl = none → H2 T = some (.tup [.ref kl, .ref tl]) → H2 kl = some (.lst (ws.map fun x => V.str x.kind)) → H2 tl = some (.lst (ws.map fun x => V.str x.word)) → Q (.ref T) H2) :
    tTup (tCons (tLc (iList K (tVar 5)) (gName 6) tYes (tOp (rIxT K) (tVar 6) (tC (.int ((0 : Nat) : Int)))) [6]) (tCons (tLc (iList K (tVar 5)) (gName 6) tYes (tOp (rIxT K) (tVar 6) (tC (.int ((1 : Nat) : Int)))) [6]) tNil)) σ H Q := by
  delta tTup tCons
  refine el_part (K := K) (jj := 0) (f := fun x => V.str x.kind) h5 h6 hl hW hz hw hs (fun _ => rfl) H (Ex.refl _) _ fun kl H1 nk e1 hk => ?_
  refine el_part (K := K) (jj := 1) (f := fun x => V.str x.word) h5 h6 (e1 _ _ hl) (WordsAre.mono e1 hW) hz hw hs (fun _ => rfl) H1 (Ex.refl _) _ fun tl H2 nt e2 ht => ?_
  exact ⟨by show 2 ≤ sizeLine; exact sz_of (by decide), fun T nT => q T kl tl _ ((e1.trans e2).trans (Ex.new nT)) nk (fresh_back e1 nt) upd_same (Ex.new nT _ _ (e2 _ _ hk)) (Ex.new nT _ _ ht)⟩
section
variable {P : Program} {w : World} {K : PySem.W.Frag} {mg : Str → Option Value} {base : Heap}
def Fr2d (p q : Addr) (H H' : Hp) : Prop := ∀ b o, b ≠ p → b ≠ q → H b = some o → H' b = some o
def spInit (C : Cn P w K mg base) : Sp := fun vs H Q _ => ∃ p num r dx kd kvs, vs = [.ref p, .int num, .str r, .ref kd] ∧ r.length ≤ 10000 ∧ quickOk r = true ∧ H p = some (.ins C.W dx []) ∧ H kd = some (.dK kvs) ∧ KnOk kvs ∧ kvs.length ≤ 16000000 ∧
  ∀ H' kl tl kvs', Fr2d p kd H H' → H' kd = some (.dK kvs') → KnOk kvs' → kvs'.length ≤ kvs.length + 30000 → H kl = none → H tl = none → WAt C.W H' p ⟨num, kl, tl, r⟩ (wordsOf r) 0 → Q .non H'
abbrev NI : List Str := ["self", "number", "row", "known", "found", "words", "word"]
theorem scInit : FnScope NI ["self", "number", "row", "known"] (defScope sInit) := ⟨rfl, rfl, rfl, by decide +kernel, rfl, by decide +kernel, by decide +kernel⟩
theorem ok_init {f fQ : Addr} {fd fdQ : FuncData} (C : Cn P w K mg base) (O : Wo P w K mg base) (F : Fun K "__init__" "Words.__init__" sInit f fd) (GQ : FnOk P w K mg base CX0 3 fQ fdQ ["row", "known"] spQuick) (bQ : Binds K fdQ ["row", "known"] []) (kQ : PySem.W.keepIn K (.ref fQ) = true) (mQ : mg "quick_words" = some (.ref fQ)) : FnOk P w K mg base CX0 4 f fd ["self", "number", "row", "known"] (spInit C) := by
  refine F.ok scInit (fun vs H Q E h => ?_) (fun cdv A outer s0 H vs Q E hr h => ?_)
  · obtain ⟨p, num, r, dx, kd, kvs, rfl, _⟩ := h
    rfl
  · obtain ⟨p, num, r, dx, kd, kvs, rfl, hz, hq, hp, hkd, kn, hn, q⟩ := h
    have hpk : p ≠ kd := fun z => by
      rw [z, hkd] at hp
      cases hp
    have hwl : (wordsOf r).length ≤ 10001 := Nat.le_trans (wordsGo_len _ _ _) (by omega)
    refine ⟨_, pss_cons (ps_fld (pv 0) (pv 1) rfl) (pss_cons (ps_fld (pv 0) (pv 2) rfl)
      (pss_cons (ps_set (i := 4) scInit.nd rfl (.inl rfl) (pe_call GQ hr rfl mQ kQ bQ .nil pass0 (pa_cons (pv 2) (pa_cons (pv 3) pa_nil))))
      (Evl.pss_cut (ps_if (pt_cmpR op_isN (pv 4) pe_non (nomark _))
        (pss_cons (ps_set (i := 5) scInit.nd rfl (.inl rfl) (pe_call O.G hr rfl O.m O.k O.b .nil pass0 (pa_cons (pv 2) pa_nil)))
        (pss_one (ps_set (i := 4) scInit.nd rfl (.inl rfl) (pe_tup (pa_cons (pe_lc (te := tOp (rIxT K) (tVar 6) (tC (.int ((0 : Nat) : Int)))) (own := [("word", 6)]) (g := gName 6) (tt := tYes) rfl scInit.nd (pi_list (pv 5)) (blkOk_by (N := NI) (sc := defScope sInit) (by decide +kernel)) (fun _ _ _ _ _ => pg_name (i := 6) scInit.nd rfl (Or.inl rfl)) (fun _ _ _ _ _ => pts_nil) (fun _ _ _ _ _ => pe_ix (r := rIxT K) ix_tup (pv 6) pe_int (fun _ _ => rfl)))
          (pa_cons (pe_lc (te := tOp (rIxT K) (tVar 6) (tC (.int ((1 : Nat) : Int)))) (own := [("word", 6)]) (g := gName 6) (tt := tYes) rfl scInit.nd (pi_list (pv 5)) (blkOk_by (N := NI) (sc := defScope sInit) (by decide +kernel)) (fun _ _ _ _ _ => pg_name (i := 6) scInit.nd rfl (Or.inl rfl)) (fun _ _ _ _ _ => pts_nil) (fun _ _ _ _ _ => pe_ix (r := rIxT K) ix_tup (pv 6) pe_int (fun _ _ => rfl))) pa_nil)))))) pss_nil)
      (pss_cons (ps_asg (pv 4) (pg_tup rfl (pgs_cons (pg_fld (pv 0)) (pgs_cons (pg_fld (pv 0)) pgs_nil))))
      (pss_one (ps_fld (pv 0) pe_int rfl)))))), ?_⟩
    refine ⟨_, rfl, _, rfl, p, C.W, dx, [], rfl, hp, C.cl, C.nn, by decide, ?_⟩
    have hp1 : (upd H p (.ins C.W dx (putF "number" (.int num) []))) p = some (.ins C.W dx (putF "number" (.int num) [])) := upd_same
    refine ⟨_, rfl, _, rfl, p, C.W, dx, _, rfl, hp1, C.cl, C.nr, by show 1 < 1000; decide, ?_⟩
    have hp2 : (upd (upd H p (.ins C.W dx (putF "number" (.int num) []))) p (.ins C.W dx (putF "row" (.str r) (putF "number" (.int num) [])))) p = some (.ins C.W dx (putF "row" (.str r) (putF "number" (.int num) []))) := upd_same
    have f2 : Fr p H (upd (upd H p (.ins C.W dx (putF "number" (.int num) []))) p (.ins C.W dx (putF "row" (.str r) (putF "number" (.int num) [])))) := Fr.upd (Fr.upd (Fr.refl _ _))
    revert hp2 f2
    generalize (upd (upd H p (.ins C.W dx (putF "number" (.int num) []))) p (.ins C.W dx (putF "row" (.str r) (putF "number" (.int num) [])))) = H2
    intro hp2 f2
    have hkd2 := f2 _ _ (Ne.symm hpk) hkd
    refine ⟨.str r, rfl, .ref kd, rfl, r, kd, kvs, rfl, hz, hkd2, kn, hn, fun v H3 kvs' f3 hkd3 kn3 hn3 qv => ?_⟩
    have hp3 := f3 _ _ hpk hp2
    have f03 : Fr2d p kd H H3 := fun b o n1 n2 hb => f3 b o n2 (f2 b o n1 hb)
    refine Evl.q_cut (M := fun σ' H' => ∃ a kl tl v5 v6, σ' = [some (.ref p), some (.int num), some (.str r), some (.ref kd), some (.ref a), v5, v6] ∧ Ex H3 H' ∧ H' a = some (.tup [.ref kl, .ref tl]) ∧ H' kl = some (.lst ((wordsOf r).map fun x => V.str x.kind)) ∧ H' tl = some (.lst ((wordsOf r).map fun x => V.str x.word)) ∧ H kl = none ∧ H tl = none) ?_ ?_
    · have bk : ∀ {b : Addr} {Hx : Hp}, Ex H3 Hx → Hx b = none → H b = none := fun {b Hx} e hb => by
        have h3 := fresh_back e hb
        exact fr_none f2 (ne_old hp3 h3) (fr_none f3 (ne_old hkd3 h3) h3)
      unfold quickOk at hq
      cases hm : quickM r with
      | some z =>
        obtain ⟨ks, ts⟩ := z
        rw [hm] at hq qv
        dsimp only at hq
        rw [Bool.and_eq_true] at hq
        have h1 := of_decide_eq_true hq.1
        have h2 := of_decide_eq_true hq.2
        obtain ⟨a, kl, tl, rfl, ha, hk, ht, nk, nt⟩ := qv
        refine s_when (b := decide (V.ref a = .non)) (et_test (ev_op (ev_var rfl) ev_c rv_none)) (fun h => by cases h) fun _ H4 e4 => ?_
        refine ⟨a, kl, tl, _, _, rfl, e4, e4 _ _ ha, ?_, ?_, fr_none f2 (ne_old hp2 nk) nk, fr_none f2 (ne_old hp2 nt) nt⟩
        · rw [e4 _ _ hk, h1, List.map_map]
          rfl
        · rw [e4 _ _ ht, h2, List.map_map]
          rfl
      | none =>
        rw [hm] at qv
        obtain rfl : v = .non := qv
        refine s_when (b := decide (V.non = V.non)) (et_test (ev_op (ev_var rfl) ev_c rv_none)) (fun _ H4 e4 => ?_) (fun h => by cases h)
        refine ⟨.str r, rfl, r, rfl, hz, fun l ts H5 nl e5 hl hW => ?_⟩
        delta gName tAsg
        dsimp only
        refine ed_parts (K := K) (σ := [some (.ref p), some (.int num), some (.str r), some (.ref kd), some .non, some (.ref l), none]) rfl rfl hl hW (by omega) (fun _ => rfl) rfl fun T kl tl H6 e6 nk nt hT hk ht => ?_
        have e35 := e4.trans e5
        exact ⟨T, kl, tl, _, _, rfl, e35.trans e6, hT, hk, ht, bk e35 nk, bk e35 nt⟩
    · rintro σ' H4 ⟨a, kl, tl, v5, v6, rfl, e4, ha, hk, ht, nk, nt⟩
      have hp4 := e4 _ _ hp3
      have kp : kl ≠ p := ne_old hp nk
      have tp : tl ≠ p := ne_old hp nt
      refine ⟨.ref a, rfl, a, _, rfl, st_of ha, rfl, .ref kl, [.ref tl], rfl, .ref p, rfl, p, C.W, dx, _, rfl, hp4, C.cl, C.nk, by show 2 < 1000; decide, ?_⟩
      refine ⟨.ref tl, [], rfl, .ref p, rfl, p, C.W, dx, _, rfl, upd_same, C.cl, C.nt, by show 3 < 1000; decide, rfl, ?_⟩
      refine ⟨.ref p, rfl, p, C.W, dx, _, rfl, upd_same, C.cl, C.na, by show 4 < 1000; decide, ?_⟩
      refine q _ kl tl kvs' (fun b o n1 n2 hb => ?_) ?_ kn3 hn3 nk nt ⟨dx, (), upd_same, ?_, ?_, hz, fun i x hx => ⟨x, hx, rfl⟩⟩
      · rw [upd_ne n1, upd_ne n1, upd_ne n1]
        exact e4 _ _ (f03 b o n1 n2 hb)
      · rw [upd_ne (Ne.symm hpk), upd_ne (Ne.symm hpk), upd_ne (Ne.symm hpk)]
        exact e4 _ _ hkd3
      · rw [upd_ne kp, upd_ne kp, upd_ne kp]
        exact hk
      · rw [upd_ne tp, upd_ne tp, upd_ne tp]
        exact ht
end
end Prs
set_option Elab.async false
set_option linter.all false
set_option maxRecDepth 100000
set_option maxHeartbeats 4000000
namespace Prs
open PySem PySem.Spec PyProof.Rows L2 Evl
theorem passAny {X : Cx} {E : XK} : Passes CX0 X E := fun _ _ _ _ _ _ _ h => h.elim
/-! ### data of tuples -/
mutual
def DT (H : Hp) : PyData → V → Prop
  | .int i, v => v = .int i
  | .str s, v => v = .str s
  | .none, v => v = .non
  | .bool b, v => v = .bl b
  | .tuple ds, v => ∃ (a : Addr) (vs : List V), v = .ref a ∧ H a = some (.tup vs) ∧ DTs H ds vs
  | _, _ => False
def DTs (H : Hp) : List PyData → List V → Prop
  | [], vs => vs = []
  | d :: ds, vs => ∃ (v : V) (r : List V), vs = v :: r ∧ DT H d v ∧ DTs H ds r
end
/-- tuples stand -/
def TF (H H' : Hp) : Prop := ∀ b xs, H b = some (.tup xs) → H' b = some (.tup xs)
theorem TF.ex {H H' : Hp} (e : Ex H H') : TF H H' := fun b xs h => e _ _ h
theorem TF.fr {p W dx : Addr} {fs : List (Str × V)} {H H' : Hp} (hp : H p = some (.ins W dx fs)) (f : Fr p H H') : TF H H' := fun b xs h => f b _ (fun z => by
  rw [z, hp] at h
  cases h) h
mutual
theorem DT.tf {H H' : Hp} (e : TF H H') : ∀ (d : PyData) (v : V), DT H d v → DT H' d v
  | .int i, v, h => by unfold DT at h ⊢; exact h
  | .str i, v, h => by unfold DT at h ⊢; exact h
  | .none, v, h => by unfold DT at h ⊢; exact h
  | .bool b, v, h => by unfold DT at h ⊢; exact h
  | .tuple ds, v, h => by
    unfold DT at h ⊢
    obtain ⟨a, vs, h1, h2, h3⟩ := h
    exact ⟨a, vs, h1, e _ _ h2, DTs.tf e ds vs h3⟩
  | .list ds, v, h => by unfold DT at h; exact h.elim
theorem DTs.tf {H H' : Hp} (e : TF H H') : ∀ (d : List PyData) (v : List V), DTs H d v → DTs H' d v
  | [], v, h => by unfold DTs at h ⊢; exact h
  | d :: ds, v, h => by
    unfold DTs at h ⊢
    obtain ⟨a, r, h1, h2, h3⟩ := h
    exact ⟨a, r, h1, DT.tf e d a h2, DTs.tf e ds r h3⟩
end
def RD : Hp → V → PyData → Prop := fun H v d => DT H d v
def RDs : Hp → List V → List PyData → Prop := fun H v d => DTs H d v
theorem DTs.len {H : Hp} : ∀ {ds : List PyData} {vs : List V}, DTs H ds vs → vs.length = ds.length
  | [], vs, h => by unfold DTs at h; rw [h]; rfl
  | d :: ds, vs, h => by
    unfold DTs at h
    obtain ⟨v, r, rfl, _, h3⟩ := h
    rw [List.length_cons, List.length_cons, DTs.len h3]
theorem dts_nil {H : Hp} : DTs H [] [] := by unfold DTs; rfl
theorem dts_cons {H : Hp} {d : PyData} {ds : List PyData} {v : V} {r : List V} (h1 : DT H d v) (h2 : DTs H ds r) : DTs H (d :: ds) (v :: r) := by unfold DTs; exact ⟨v, r, rfl, h1, h2⟩
theorem dt_tup {H : Hp} {ds : List PyData} {a : Addr} {vs : List V} (h : H a = some (.tup vs)) (h2 : DTs H ds vs) : DT H (.tuple ds) (.ref a) := by unfold DT; exact ⟨a, vs, rfl, h, h2⟩
theorem dt_str {H : Hp} {s : Str} : DT H (.str s) (.str s) := by unfold DT; rfl
theorem dt_int {H : Hp} {s : Int} : DT H (.int s) (.int s) := by unfold DT; rfl
section
variable {P : Program} {w : World} {K : PySem.W.Frag} {mg : Str → Option Value} {base : Heap} {C : Cn P w K mg base} {p : Addr} {num : Nm} {ws : List Wd} {E : XK} {σ : L2.St} {H H1 : Hp} {α α2 α3 β γ δ : Type}
/-- an expression that reads -/
def Py (C : Cn P w K mg base) (p : Addr) (num : Nm) (ws : List Wd) (E : XK) (t : L2.St → Hp → (β → Hp → Prop) → Prop) (σ : L2.St) (H : Hp) (R : Hp → β → α → Prop) (x : Res α) : Prop := ∀ Q : β → Hp → Prop, Acc C p num ws H Q E R x → t σ H Q
def mapR (g : α → α2) (x : Res α) : Res α2 := andThen x fun a j => some (.inr (g a, j))
theorem WAt.ins {i : Nat} (h : WAt C.W H p num ws i) : ∃ dx fs, H p = some (.ins C.W dx fs) := by
  obtain ⟨dx, ts, h1, _⟩ := h
  exact ⟨_, _, h1⟩
theorem WAt.tf {i : Nat} (h : WAt C.W H p num ws i) (f : Fr p H H1) : TF H H1 := by
  obtain ⟨dx, fs, z⟩ := h.ins
  exact TF.fr z f
theorem Acc.mono {Q Q2 : β → Hp → Prop} {R : Hp → β → α → Prop} {x : Res α} (h : Acc C p num ws H Q E R x) (k : ∀ v H', Q v H' → Q2 v H') : Acc C p num ws H Q2 E R x := by
  match x, h with
  | some (.inl c), h => exact h
  | some (.inr (a, j)), h => exact fun v H' f x r => k _ _ (h v H' f x r)
theorem py_map {t : L2.St → Hp → (β → Hp → Prop) → Prop} {R : Hp → β → α → Prop} {R2 : Hp → β → α2 → Prop} {x : Res α} {g : α → α2} (h : Py C p num ws E t σ H R x) (k : ∀ H v a, R H v a → R2 H v (g a)) : Py C p num ws E t σ H R2 (mapR g x) := fun Q ac => h Q (by
  match x, ac with
  | some (.inl c), ac => exact ac
  | some (.inr (a, j)), ac => exact fun v H' f x r => ac v H' f x (k _ _ _ r))
theorem py_is {t : L2.St → Hp → (β → Hp → Prop) → Prop} {R : Hp → β → α → Prop} {x y : Res α} (h : Py C p num ws E t σ H R x) (e : x = y) : Py C p num ws E t σ H R y := e ▸ h
/-- nothing is read -/
theorem py_ev {t : TE} {v : V} {i : Nat} {R : Hp → V → α → Prop} {a : α} (h : Ev t σ H v) (hW : WAt C.W H p num ws i) (k : ∀ H', Ex H H' → R H' v a) : Py C p num ws E t σ H R (some (.inr (a, i))) := fun Q ac => h H (Ex.refl H) _ fun H2 e2 => ac v H2 (Fr.ex e2) (hW.ex e2) (k H2 e2)
theorem py_nil {i : Nat} (hW : WAt C.W H p num ws i) : Py C p num ws E tNil σ H RDs (some (.inr ([], i))) := fun Q ac => ac [] H (Fr.refl p H) hW dts_nil
theorem py_last {t : TE} {x : Res PyData} (h : Py C p num ws E t σ H RD x) : Py C p num ws E (tCons t tNil) σ H RDs (mapR (fun d => [d]) x) := fun Q ac => h _ (by
  match x, ac with
  | some (.inl c), ac => exact ac
  | some (.inr (a, j)), ac => exact fun v H' f x r => ac [v] H' f x (dts_cons r dts_nil))
theorem py_cons {t : TE} {ta : TA} {v : V} {d : PyData} {x : Res (List PyData)} {i : Nat} (h : Ev t σ H v) (hW : WAt C.W H p num ws i) (hd : DT H d v) (k : ∀ H', Ex H H' → WAt C.W H' p num ws i → Py C p num ws E ta σ H' RDs x) : Py C p num ws E (tCons t ta) σ H RDs (mapR (fun ds => d :: ds) x) := fun Q ac =>
  h H (Ex.refl H) _ fun H2 e2 => k H2 e2 (hW.ex e2) _ (by
    match x, ac with
    | some (.inl c), ac => exact Acc.fr ac (Fr.ex e2)
    | some (.inr (a, j)), ac => exact fun v2 H' f x r => ac (v :: v2) H' ((Fr.ex e2).trans f) x (dts_cons (DT.tf ((hW.ex e2).tf f) _ _ (DT.tf (TF.ex e2) _ _ hd)) r))
theorem fr_new {q : Addr} {o : HO} (h : H q = none) : Ex H (upd H q o) := fun b u hb => by
  rw [upd_ne (ne_of_none hb h)]
  exact hb
theorem py_tup {ta : TA} {x : Res (List PyData)} (h : Py C p num ws E ta σ H RDs x) (hz : ∀ a j, x = some (.inr (a, j)) → a.length ≤ 100000) : Py C p num ws E (tTup ta) σ H RD (mapR PyData.tuple x) := fun Q ac => h _ (by
  match x, ac, hz with
  | some (.inl c), ac, _ => exact ac
  | some (.inr (a, j)), ac, hz => exact fun vs H' f x r => ⟨sz_of (by rw [DTs.len r]; exact hz a j rfl), fun q hq => ac (.ref q) _ (f.trans (Fr.ex (fr_new hq))) (x.ex (fr_new hq)) (dt_tup upd_same (DTs.tf (TF.ex (fr_new hq)) _ _ r))⟩)
theorem mapR_mapR {f : α → α2} {g : α2 → α3} {x : Res α} : mapR g (mapR f x) = mapR (fun a => g (f a)) x := by
  match x with
  | none => rfl
  | some (.inl c) => rfl
  | some (.inr (a, j)) => rfl
theorem mapR_len {f : α → List PyData} {x : Res α} {n : Nat} (h : ∀ a, (f a).length ≤ n) : ∀ a j, mapR f x = some (.inr (a, j)) → a.length ≤ n := fun a j e => by
  match x, e with
  | some (.inr (b, i)), e =>
    cases e
    exact h b
/-! ### the words' methods -/
theorem py_take {ta : TA} {ks : List Str} {i : Nat} (h0 : σ[0]? = some (some (.ref p))) (h : EvA ta σ H (ks.map V.str)) (hW : WAt C.W H p num ws i) (hz : ks.length ≤ 100000 := by decide) : Py C p num ws E (tMethR C.W "take" (spTake C) E (tVar 0) ta) σ H RStr (takeM ws ks i) := fun Q ac => by
  obtain ⟨dx, ts, hp, hl, hw⟩ := hW
  exact ⟨.ref p, h0, p, dx, _, rfl, hp, wf_no (by decide) (by decide) (by decide), h H (Ex.refl H) _ fun H2 e2 => ⟨p, num, ws, i, ks, rfl, hz, WAt.ex ⟨dx, ts, hp, hl, hw⟩ e2, ac.fr (Fr.ex e2)⟩⟩
theorem ev_ahead {i : Nat} {x : Wd} (h0 : σ[0]? = some (some (.ref p))) (hW : WAt C.W H p num ws i) (hx : ws[i]? = some x) : Ev (tMeth C.W "ahead" (spAhead C) [] E (tVar 0) tNil) σ H (.str x.kind) := fun H1 e Q q => by
  have hW1 := hW.ex e
  obtain ⟨dx, ts, hp, hl, hw⟩ := hW1
  exact ⟨.ref p, h0, p, dx, _, rfl, hp, wf_no (by decide) (by decide) (by decide), p, num, ws, i, x, rfl, ⟨dx, ts, hp, hl, hw⟩, hx, fun H3 e3 => q H3 e3⟩
theorem py_takeIf {t : TE} {k : Str} {i : Nat} (h0 : σ[0]? = some (some (.ref p))) (h : Ev t σ H (.str k)) (hW : WAt C.W H p num ws i) : Py C p num ws E (tMeth C.W "take_if" (spTakeIf C) [] E (tVar 0) (tCons t tNil)) σ H RBl (takeIfM ws k i) := fun Q ac => by
  obtain ⟨dx, ts, hp, hl, hw⟩ := hW
  exact ⟨.ref p, h0, p, dx, _, rfl, hp, wf_no (by decide) (by decide) (by decide), h H (Ex.refl H) _ fun H2 e2 => ⟨p, num, ws, i, k, rfl, WAt.ex ⟨dx, ts, hp, hl, hw⟩ e2, ac.fr (Fr.ex e2)⟩⟩
def REq : Hp → Bool → Bool → Prop := fun _ v a => v = a
theorem py_test {t : TE} {x : Res Bool} (h : Py C p num ws E t σ H RBl x) : Py C p num ws E (tTest t) σ H REq x := fun Q ac => h _ (by
  match x, ac with
  | some (.inl c), ac => exact ac
  | some (.inr (a, j)), ac => exact fun v H' f x r => ⟨a, r, ac a H' f x rfl⟩)
/-! ### defs of one parameter, of two -/
def spG (C : Cn P w K mg base) (R : Hp → V → α → Prop) (m : List Wd → Nat → Res α) : Sp := fun vs H Q E => ∃ p num ws i, vs = [.ref p] ∧ WAt C.W H p num ws i ∧ Acc C p num ws H Q E R (m ws i)
def spG2 (C : Cn P w K mg base) (R : Hp → V → α → Prop) (m : List Wd → PyData → Nat → Res α) : Sp := fun vs H Q E => ∃ p num ws i d v, vs = [.ref p, v] ∧ WAt C.W H p num ws i ∧ DT H d v ∧ Acc C p num ws H Q E R (m ws d i)
theorem py_call {R : Hp → V → α → Prop} {m : List Wd → Nat → Res α} {i : Nat} (h0 : σ[0]? = some (some (.ref p))) (hW : WAt C.W H p num ws i) : Py C p num ws E (tCall (spG C R m) [] E (tCons (tVar 0) tNil)) σ H R (m ws i) := fun Q ac => ⟨.ref p, h0, p, num, ws, i, rfl, hW, ac⟩
theorem py_call2 {R : Hp → V → α → Prop} {m : List Wd → PyData → Nat → Res α} {t : TE} {x : Res PyData} (h0 : σ[0]? = some (some (.ref p))) (h : Py C p num ws E t σ H RD x) : Py C p num ws E (tCall (spG2 C R m) [] E (tCons (tVar 0) (tCons t tNil))) σ H R (andThen x fun d j => m ws d j) := fun Q ac =>
  ⟨.ref p, h0, h _ (Acc.bind (R2 := RD) ac (Fr.refl p H) fun a j ac2 v H2 f1 f2 hW r => ⟨p, num, ws, j, a, v, rfl, hW, r, ac2.fr f1⟩)⟩
/-! ### statements -/
variable {D : Ends} {tz tu : TS} {Q : VK} {R : Hp → V → α → Prop}
theorem q_py {t : TE} {k : Nat} {x : Res α2} {R2 : Hp → V → α2 → Prop} {f : α2 → Nat → Res α} (h : Py C p num ws E t σ H1 R2 x) (ac : Acc C p num ws H Q E R (andThen x f)) (fr : Fr p H H1)
    (n : ∀ a j, Acc C p num ws H Q E R (f a j) → ∀ v H2, Fr p H H2 → Fr p H1 H2 → WAt C.W H2 p num ws j → R2 H2 v a → tz D (σ.set k (some v)) H2) : tSeq (tAsg t (gName k)) tz D σ H1 := h _ (Acc.bind ac fr n)
theorem q_pyDrop {t : TE} {x : Res α2} {R2 : Hp → V → α2 → Prop} {f : α2 → Nat → Res α} (h : Py C p num ws E t σ H1 R2 x) (ac : Acc C p num ws H Q E R (andThen x f)) (fr : Fr p H H1)
    (n : ∀ a j, Acc C p num ws H Q E R (f a j) → ∀ v H2, Fr p H H2 → Fr p H1 H2 → WAt C.W H2 p num ws j → R2 H2 v a → tz D σ H2) : tSeq (tDrop t) tz D σ H1 := h _ (Acc.bind ac fr n)
theorem q_pyIf {t : TT} {x : Res Bool} {f : Bool → Nat → Res α} (h : Py C p num ws E t σ H1 REq x) (ac : Acc C p num ws H Q E R (andThen x f)) (fr : Fr p H H1)
    (y : ∀ j, Acc C p num ws H Q E R (f true j) → ∀ H2, Fr p H H2 → Fr p H1 H2 → WAt C.W H2 p num ws j → tu { D with nx := tz D } σ H2)
    (n : ∀ j, Acc C p num ws H Q E R (f false j) → ∀ H2, Fr p H H2 → Fr p H1 H2 → WAt C.W H2 p num ws j → tz D σ H2) : tSeq (tIfS t tu tNext) tz D σ H1 := h _ (Acc.bind (R2 := REq) ac fr fun a j ac2 v H2 f1 f2 hW r => by
  cases r
  cases a with
  | true => exact y j ac2 H2 f1 f2 hW
  | false => exact n j ac2 H2 f1 f2 hW)
theorem s_pyRet {t : TE} {x : Res α} (h : Py C p num ws E t σ H1 R x) (ac : Acc C p num ws H Q E R x) (fr : Fr p H H1) (e : D.rt = Q) : tRet t D σ H1 := by
  show t σ H1 D.rt
  rw [e]
  exact h _ (ac.fr fr)
end
end Prs
set_option Elab.async false
set_option linter.all false
set_option maxRecDepth 100000
set_option maxHeartbeats 4000000
namespace Prs
open PySem PySem.Spec PyProof.Rows L2 Evl
abbrev sPart : Stmt := top 34
abbrev sRest : Stmt := top 35
abbrev sTerm : Stmt := top 36
abbrev sComp : Stmt := top 37
/-! ### the mirror of terms -/
abbrev Rd' (α : Type) := List Wd → Nat → Res α
def numM (w : Str) : Option Int := if w.length ≤ 640 then intText? w else none
def sumsOf (z : Str) : Option Str := if z = "+" then some "sum" else if z = "-" then some "less" else none
def compsOf (z : Str) : Option Str := if z = "<" then some "below" else if z = "=" then some "same" else none
def stuck {α : Type} : Res α := none
def told {α : Type} (a : α) (j : Nat) : Res α := some (.inr (a, j))
def restGo (pt : Rd' PyData) (ws : List Wd) : Nat → PyData → Nat → Res PyData
  | 0, _, _ => none
  | n + 1, d, i => match ws[i]? with
    | none => none
    | some x => if (sumsOf x.kind).isSome then andThen (takeM ws ["+", "-"] i) fun s j => match sumsOf s with
        | none => none
        | some t => andThen (mapR (fun e => PyData.tuple [.str t, d, e]) (pt ws j)) fun e j => restGo pt ws n e j
      else told d i
def restM (pt : Rd' PyData) (ws : List Wd) (d : PyData) (i : Nat) : Res PyData := restGo pt ws (ws.length + 1) d i
def termM (pt : Rd' PyData) (ws : List Wd) (i : Nat) : Res PyData := andThen (pt ws i) fun d j => restM pt ws d j
def partS (pt : Rd' PyData) (ws : List Wd) (i : Nat) : Res PyData :=
  match ws[i]? with
  | none => none
  | some x => andThen (takeM ws ["a number", "a name", "("] i) fun w j =>
    if decide (V.str x.kind = V.str "a number") then (match numM w with | none => none | some k => told (.tuple [.str "num", .int k]) j)
    else if decide (V.str x.kind = V.str "a name") then told (.tuple [.str "fact", .str w]) j
    else andThen (termM pt ws j) fun t j => andThen (takeM ws [")"] j) fun _ j => told t j
def partM : Nat → Rd' PyData
  | 0 => fun _ _ => none
  | n + 1 => partS (partM n)
def compM (pt : Rd' PyData) (ws : List Wd) (d : PyData) (i : Nat) : Res PyData :=
  andThen (takeM ws ["<", "="] i) fun s j => match compsOf s with
    | none => none
    | some t => mapR (fun e => PyData.tuple [.str t, d, e]) (termM pt ws j)
/-- a dict of the module, text to text -/
structure KD2 (K : PySem.W.Frag) (w : World) (a : Addr) (f : Str → Option Str) : Prop where
  d : ∃ es n, KDict K w a es n
  at_ : ∀ z, ∃ r, PySem.W.nsIn K a z = some r ∧ r.isSome = (f z).isSome ∧ ∀ y, f z = some y → ∃ t, r = some (.str y t)
/-- a def of the module's top -/
structure Df (K : PySem.W.Frag) (mg : Str → Option Value) (x : Str) (st : Stmt) (ps : List Str) where
  f : Addr
  fd : FuncData
  F : Fun K x x st f fd
  m : mg x = some (.ref f)
  b : Binds K fd ps []
/-- the words' methods, the names of the module -/
structure Tl {P : Program} {w : World} {K : PySem.W.Frag} {mg : Str → Option Value} {base : Heap} (C : Cn P w K mg base) where
  aT : Addr
  FT : FnR P w K mg base (L2.CX P w) 4 aT (spTake C)
  mT : Meth K C.W "take" aT
  aA : Addr
  fdA : FuncData
  GA : FnOk P w K mg base CX0 1 aA fdA ["self"] (spAhead C)
  bA : Binds K fdA ["self"] []
  mA : Meth K C.W "ahead" aA
  aI : Addr
  fdI : FuncData
  GI : FnOk P w K mg base CX0 2 aI fdI ["self", "kind"] (spTakeIf C)
  bI : Binds K fdI ["self", "kind"] []
  mI : Meth K C.W "take_if" aI
  gN : ∃ t, mg "NUMBER" = some (.str "a number" t)
  gA : ∃ t, mg "NAME" = some (.str "a name" t)
  gI : mg "int" = none
  aS : Addr
  gS : mg "SUMS" = some (.ref aS)
  dS : KD2 K w aS sumsOf
  aC : Addr
  gC : mg "COMPARED" = some (.ref aC)
  dC : KD2 K w aC compsOf
section
variable {P : Program} {w : World} {K : PySem.W.Frag} {mg : Str → Option Value} {base : Heap} {C : Cn P w K mg base}
theorem KD2.kdct {a : Addr} {f : Str → Option Str} (D : KD2 K w a f) {z y : Str} (h : f z = some y) : KDct K w a z (.str y) := by
  obtain ⟨es, n, D1⟩ := D.d
  obtain ⟨r, h1, _, h3⟩ := D.at_ z
  obtain ⟨t, rfl⟩ := h3 y h
  exact ⟨es, n, _, D1.at_, D1.lit, h1, ⟨t, rfl⟩⟩
theorem rv_ixD {a : Addr} {f : Str → Option Str} (D : KD2 K w a f) {z y : Str} {H : Hp} (h : f z = some y) : RV (rIxD K w) (.ref a) (.str z) H (.str y) := fun H1 _ _ q => ⟨a, z, .str y, rfl, rfl, D.kdct h, q H1 (Ex.refl H1)⟩
theorem rv_inD {a : Addr} {f : Str → Option Str} (D : KD2 K w a f) {z : Str} {H : Hp} : RV (fun x y H Q => ∃ (z : Str) (r : Option Value), x = .str z ∧ y = .ref a ∧ PySem.W.nsIn K a z = some r ∧ Q (.bl r.isSome) H) (.str z) (.ref a) H (.bl (f z).isSome) := fun H1 _ Q q => by
  obtain ⟨r, h1, h2, _⟩ := D.at_ z
  exact ⟨z, r, rfl, rfl, h1, by rw [h2]; exact q H1 (Ex.refl H1)⟩
theorem ev_int {σ : L2.St} {H : Hp} {t : TE} {a : Str} {n : Int} (h : Ev t σ H (.str a)) (hn : numM a = some n) : Ev (tCB (fun xs H Q => ∃ a n, xs = [.str a] ∧ PySem.intText? a = some n ∧ a.length ≤ 640 ∧ Q (.int n) H) (tCons t tNil)) σ H (.int n) := fun H1 e Q q => by
  unfold numM at hn
  split at hn
  · rename_i hl
    exact h H1 e _ fun H2 e2 => ⟨a, n, rfl, hn, hl, q H2 e2⟩
  · cases hn
/-! ### read_part -/
theorem scPart : FnScope ["words", "kind", "word", "term"] ["words"] (defScope sPart) := ⟨rfl, rfl, rfl, by decide +kernel, rfl, by decide +kernel, by decide +kernel⟩
theorem ok_part {pt : Rd' PyData} {L : Nat} (hL : 4 ≤ L) (T : Tl C) (D : Df K mg "read_part" sPart ["words"]) (DT' : Df K mg "read_term" sTerm ["words"]) (GT : FnOk P w K mg base (L2.CX P w) L DT'.f DT'.fd ["words"] (spG C RD (termM pt))) :
    FnOk P w K mg base (L2.CX P w) (L + 1) D.f D.fd ["words"] (spG C RD (partS pt)) := by
  obtain ⟨_, gN⟩ := T.gN
  obtain ⟨_, gA⟩ := T.gA
  refine D.F.okX scPart (fun vs H Q E h => ?_) (fun cdv A outer s0 H vs Q E hr h => ?_)
  · obtain ⟨p, num, ws, i, rfl, _⟩ := h
    rfl
  · obtain ⟨p, num, ws, i, rfl, hW, ac⟩ := h
    have hr4 : Room 4 (A.deeper (envOfC "read_part" (defScope sPart) s0.heap.objs.size D.f cdv)) := hr.mono hL
    have hr1 : Room 1 (A.deeper (envOfC "read_part" (defScope sPart) s0.heap.objs.size D.f cdv)) := hr.mono (by omega)
    refine ⟨_, pss_cons (ps_set (i := 1) scPart.nd rfl (.inl rfl) (pe_meth0 (pv 0) C.cl T.mA T.GA hr1 T.bA .nil (passAny (E := E))))
      (pss_cons (ps_set (i := 2) scPart.nd rfl (.inl rfl) (pe_methR (pv 0) C.cl T.mT T.FT hr4 (passes_call (takes_of rfl rfl rfl rfl) fun _ _ _ _ h => h) (pa_cons (pe_glob (v := .str "a number") rfl gN ⟨_, rfl⟩) (pa_cons (pe_glob (v := .str "a name") rfl gA ⟨_, rfl⟩) (pa_cons pe_str pa_nil)))))
      (pss_cons (ps_if (pt_cmpR op_eq (pv 1) (pe_glob (v := .str "a number") rfl gN ⟨_, rfl⟩) (nomark _)) (pss_one (ps_ret (pe_tup (pa_cons pe_str (pa_cons (pe_callTy call_int_str rfl T.gI rfl (pa_cons (pv 2) pa_nil)) pa_nil))))) pss_nil)
      (pss_cons (ps_if (pt_cmpR op_eq (pv 1) (pe_glob (v := .str "a name") rfl gA ⟨_, rfl⟩) (nomark _)) (pss_one (ps_ret (pe_tup (pa_cons pe_str (pa_cons (pv 2) pa_nil))))) pss_nil)
      (pss_cons (ps_set (i := 3) scPart.nd rfl (.inl rfl) (pe_call GT hr rfl DT'.m DT'.F.kp DT'.b .nil (passes_call (takes_of rfl rfl rfl rfl) fun _ _ _ _ h => h) (pa_cons (pv 0) pa_nil)))
      (pss_cons (ps_expr (pe_methR (pv 0) C.cl T.mT T.FT hr4 (passes_call (takes_of rfl rfl rfl rfl) fun _ _ _ _ h => h) (pa_cons pe_str pa_nil)))
      (pss_one (ps_ret (pv 3)))))))), ?_⟩
    unfold partS at ac
    cases hx : ws[i]? with
    | none =>
      rw [hx] at ac
      exact ac.elim
    | some x =>
      rw [hx] at ac
      refine q_asg (v := .str x.kind) (ev_ahead rfl hW hx) fun H1 e1 => ?_
      refine q_py (py_take (ks := ["a number", "a name", "("]) rfl (ea_cons ev_c (ea_cons ev_c (ea_cons ev_c ea_nil))) (hW.ex e1)) ac (Fr.ex e1) fun wd j ac v H2 f2 _ hW2 r => ?_
      subst r
      refine q_when (b := decide (V.str x.kind = V.str "a number")) (et_test (ev_op (ev_var rfl) ev_c (rv_eq rfl))) (fun hb H3 e3 => ?_) (fun hb H3 e3 => ?_)
      · simp only [hb, if_true] at ac
        cases hn : numM wd with
        | none =>
          rw [hn] at ac
          exact ac.elim
        | some k =>
          rw [hn] at ac
          refine s_pyRet (x := told (.tuple [.str "num", .int k]) j) (py_is (py_tup (py_cons (v := .str "num") (d := .str "num") ev_c (hW2.ex e3) dt_str fun H' e' hW' => py_cons (v := .int k) (d := .int k) (ev_int (ev_var rfl) hn) hW' dt_int fun H' e' hW' => py_nil hW') ?_) rfl) ac (f2.trans (Fr.ex e3)) rfl
          intro a j e
          cases e
          show 2 ≤ 100000
          decide
      simp only [hb, Bool.false_eq_true, if_false] at ac
      refine q_when (b := decide (V.str x.kind = V.str "a name")) (et_test (ev_op (ev_var rfl) ev_c (rv_eq rfl))) (fun hc H4 e4 => ?_) (fun hc H4 e4 => ?_)
      · simp only [hc, if_true] at ac
        refine s_pyRet (x := told (.tuple [.str "fact", .str wd]) j) (py_is (py_tup (py_cons (v := .str "fact") (d := .str "fact") ev_c ((hW2.ex e3).ex e4) dt_str fun H' e' hW' => py_cons (v := .str wd) (d := .str wd) (ev_var rfl) hW' dt_str fun H' e' hW' => py_nil hW') ?_) rfl) ac ((f2.trans (Fr.ex e3)).trans (Fr.ex e4)) rfl
        intro a j e
        cases e
        show 2 ≤ 100000
        decide
      simp only [hc, Bool.false_eq_true, if_false] at ac
      refine q_py (py_call (m := termM pt) rfl ((hW2.ex e3).ex e4)) ac ((f2.trans (Fr.ex e3)).trans (Fr.ex e4)) fun t j2 ac v H5 f5 _ hW5 r => ?_
      refine q_pyDrop (py_take (ks := [")"]) rfl (ea_cons ev_c ea_nil) hW5) ac f5 fun _ j3 ac v2 H6 f6 g6 hW6 _ => ?_
      exact s_ret (v := v) (D := { nx := _, rt := Q }) (ev_var rfl) fun H7 e7 => Acc.ret (R := RD) ac (f6.trans (Fr.ex e7)) (hW6.ex e7) (DT.tf (TF.ex e7) _ _ (DT.tf (hW5.tf g6) _ _ r))
/-! ### rest_of_term -/
theorem s_py {p : Addr} {num : Nm} {ws : List Wd} {E : XK} {σ : L2.St} {H H1 : Hp} {α α2 : Type} {D : Ends} {Q : VK} {R : Hp → V → α → Prop} {t : TE} {k : Nat} {x : Res α2} {R2 : Hp → V → α2 → Prop} {f : α2 → Nat → Res α} (h : Py C p num ws E t σ H1 R2 x) (ac : Acc C p num ws H Q E R (andThen x f)) (fr : Fr p H H1)
    (n : ∀ a j, Acc C p num ws H Q E R (f a j) → ∀ v H2, Fr p H H2 → Fr p H1 H2 → WAt C.W H2 p num ws j → R2 H2 v a → D.nx (σ.set k (some v)) H2) : tAsg t (gName k) D σ H1 := h _ (Acc.bind ac fr n)
theorem scRest : FnScope ["words", "term", "sign"] ["words", "term"] (defScope sRest) := ⟨rfl, rfl, rfl, by decide +kernel, rfl, by decide +kernel, by decide +kernel⟩
theorem tup3 {p : Addr} {num : Nm} {ws : List Wd} {E : XK} {σ : L2.St} {H : Hp} {t1 t2 t3 : TE} {a : Str} {d : PyData} {v : V} {i : Nat} {x : Res PyData} (h1 : Ev t1 σ H (.str a)) (h2 : ∀ H', Ex H H' → Ev t2 σ H' v) (hd : DT H d v) (hW : WAt C.W H p num ws i) (h3 : ∀ H', Ex H H' → WAt C.W H' p num ws i → Py C p num ws E t3 σ H' RD x) :
    Py C p num ws E (tTup (tCons t1 (tCons t2 (tCons t3 tNil)))) σ H RD (mapR (fun e => PyData.tuple [.str a, d, e]) x) := by
  refine py_is (py_tup (py_cons (d := .str a) h1 hW dt_str fun H1 e1 hW1 => py_cons (d := d) (h2 H1 e1) hW1 (DT.tf (TF.ex e1) _ _ hd) fun H2 e2 hW2 => py_last (h3 H2 (Ex.trans e1 e2) hW2)) ?_) ?_
  · rw [mapR_mapR, mapR_mapR]
    exact mapR_len fun _ => by
      show 3 ≤ 100000
      decide
  · rw [mapR_mapR, mapR_mapR, mapR_mapR]
theorem tup2 {p : Addr} {num : Nm} {ws : List Wd} {E : XK} {σ : L2.St} {H : Hp} {t1 t3 : TE} {a : Str} {i : Nat} {x : Res PyData} (h1 : Ev t1 σ H (.str a)) (hW : WAt C.W H p num ws i) (h3 : ∀ H', Ex H H' → WAt C.W H' p num ws i → Py C p num ws E t3 σ H' RD x) :
    Py C p num ws E (tTup (tCons t1 (tCons t3 tNil))) σ H RD (mapR (fun e => PyData.tuple [.str a, e]) x) := by
  refine py_is (py_tup (py_cons (d := .str a) h1 hW dt_str fun H1 e1 hW1 => py_last (h3 H1 e1 hW1)) ?_) ?_
  · rw [mapR_mapR]
    exact mapR_len fun _ => by
      show 2 ≤ 100000
      decide
  · rw [mapR_mapR, mapR_mapR]
theorem ok_rest {pt : Rd' PyData} {L : Nat} (hL : 4 ≤ L) (T : Tl C) (D : Df K mg "rest_of_term" sRest ["words", "term"]) (DP : Df K mg "read_part" sPart ["words"]) (GP : FnOk P w K mg base (L2.CX P w) L DP.f DP.fd ["words"] (spG C RD pt)) :
    FnOk P w K mg base (L2.CX P w) (L + 1) D.f D.fd ["words", "term"] (spG2 C RD (restM pt)) := by
  refine D.F.okX scRest (fun vs H Q E h => ?_) (fun cdv A outer s0 H vs Q E hr h => ?_)
  · obtain ⟨p, num, ws, i, d, v, rfl, _⟩ := h
    rfl
  · obtain ⟨p, num, ws, i, d, v, rfl, hW, hd, ac⟩ := h
    have hr4 : Room 4 (A.deeper (envOfC "rest_of_term" (defScope sRest) s0.heap.objs.size D.f cdv)) := hr.mono hL
    have hr1 : Room 1 (A.deeper (envOfC "rest_of_term" (defScope sRest) s0.heap.objs.size D.f cdv)) := hr.mono (by omega)
    obtain ⟨es, n, kd⟩ := T.dS.d
    refine ⟨_, pss_cons (ps_while (passes_of rfl) (pt_cmpR (op_in_kd kd) (pe_meth0 (pv 0) C.cl T.mA T.GA hr1 T.bA .nil (passAny (E := E))) (pe_glob (v := .ref T.aS) rfl T.gS rfl) (by rfl))
        (pss_cons (ps_set (i := 2) scRest.nd rfl (.inl rfl) (pe_methR (pv 0) C.cl T.mT T.FT hr4 (passes_call (takes_of rfl rfl rfl rfl) fun _ _ _ _ h => h) (pa_cons pe_str (pa_cons pe_str pa_nil))))
        (pss_one (ps_set (i := 1) scRest.nd rfl (.inl rfl) (pe_tup (pa_cons (pe_ix ix_kdict (pe_glob (v := .ref T.aS) rfl T.gS rfl) (pv 2) (fun _ _ => rfl)) (pa_cons (pv 1) (pa_cons (pe_call GP hr rfl DP.m DP.F.kp DP.b .nil (passes_call (takes_of rfl rfl rfl rfl) fun _ _ _ _ h => h) (pa_cons (pv 0) pa_nil)) pa_nil))))))))
      (pss_one (ps_ret (pv 1))), ?_⟩
    refine ⟨fun m σ' H' => ∃ d v i s3, Fr p H H' ∧ WAt C.W H' p num ws i ∧ DT H' d v ∧ σ' = [some (.ref p), some v, s3] ∧ Acc C p num ws H Q E RD (restGo pt ws m d i), ⟨ws.length + 1, d, v, i, none, Fr.refl p H, hW, hd, rfl, ac⟩, ?_⟩
    rintro m σ' H' ⟨d, v, i, s3, f1, hW, hd, rfl, ac⟩
    cases m with
    | zero => exact ac.elim
    | succ m =>
      unfold restGo at ac
      cases hx : ws[i]? with
      | none =>
        rw [hx] at ac
        exact ac.elim
      | some x =>
        rw [hx] at ac
        refine (et_test (ev_op (ev_ahead rfl hW hx) ev_c (rv_inD T.dS)) : EvT _ _ H' (sumsOf x.kind).isSome) H' (Ex.refl H') _ fun H1 e1 => ?_
        cases hb : (sumsOf x.kind).isSome with
        | true =>
          simp only [hb, if_true] at ac ⊢
          refine ⟨fun σ2 H2 => ∃ d v i s3, Fr p H H2 ∧ WAt C.W H2 p num ws i ∧ DT H2 d v ∧ σ2 = [some (.ref p), some v, s3] ∧ Acc C p num ws H Q E RD (restGo pt ws m d i), fun σ2 H2 z => ⟨m, Nat.lt_succ_self _, z⟩, ?_⟩
          refine q_py (py_take (ks := ["+", "-"]) rfl (ea_cons ev_c (ea_cons ev_c ea_nil)) (hW.ex e1)) ac (f1.trans (Fr.ex e1)) fun sg j ac v2 H2 f2 g2 hW2 r => ?_
          subst r
          cases hs : sumsOf sg with
          | none =>
            rw [hs] at ac
            exact ac.elim
          | some t =>
            rw [hs] at ac
            have hd2 : DT H2 d v := DT.tf ((hW.ex e1).tf g2) _ _ (DT.tf (TF.ex e1) _ _ hd)
            refine s_py (tup3 (ev_op ev_c (ev_var rfl) (rv_ixD T.dS hs)) (fun _ _ => ev_var rfl) hd2 hW2 fun H3 e3 hW3 => py_call rfl hW3) ac f2 fun e j2 ac v3 H3 f3 g3 hW3 r => ?_
            exact ⟨_, v3, j2, _, f3, hW3, r, rfl, ac⟩
        | false =>
          simp only [hb, Bool.false_eq_true, if_false] at ac ⊢
          exact s_ret (v := v) (D := { nx := _, rt := Q }) (ev_var rfl) fun H7 e7 => Acc.ret (R := RD) ac ((f1.trans (Fr.ex e1)).trans (Fr.ex e7)) ((hW.ex e1).ex e7) (DT.tf (TF.ex e7) _ _ (DT.tf (TF.ex e1) _ _ hd))
/-! ### read_term, rest_of_comparison -/
theorem scTerm : FnScope ["words"] ["words"] (defScope sTerm) := ⟨rfl, rfl, rfl, by decide +kernel, rfl, by decide +kernel, by decide +kernel⟩
theorem ok_term {pt : Rd' PyData} {L : Nat} (hL : 4 ≤ L) (D : Df K mg "read_term" sTerm ["words"]) (DR : Df K mg "rest_of_term" sRest ["words", "term"]) (DP : Df K mg "read_part" sPart ["words"]) (GP : FnOk P w K mg base (L2.CX P w) L DP.f DP.fd ["words"] (spG C RD pt))
    (GR : FnOk P w K mg base (L2.CX P w) (L + 1) DR.f DR.fd ["words", "term"] (spG2 C RD (restM pt))) : FnOk P w K mg base (L2.CX P w) (L + 2) D.f D.fd ["words"] (spG C RD (termM pt)) := by
  refine D.F.okX scTerm (fun vs H Q E h => ?_) (fun cdv A outer s0 H vs Q E hr h => ?_)
  · obtain ⟨p, num, ws, i, rfl, _⟩ := h
    rfl
  · obtain ⟨p, num, ws, i, rfl, hW, ac⟩ := h
    refine ⟨_, pss_one (ps_ret (pe_call GR hr rfl DR.m DR.F.kp DR.b .nil (passes_call (takes_of rfl rfl rfl rfl) fun _ _ _ _ h => h) (pa_cons (pv 0) (pa_cons (pe_call GP (hr.mono (by omega)) rfl DP.m DP.F.kp DP.b .nil (passes_call (takes_of rfl rfl rfl rfl) fun _ _ _ _ h => h) (pa_cons (pv 0) pa_nil)) pa_nil)))), ?_⟩
    exact s_pyRet (py_call2 (m := restM pt) rfl (py_call rfl hW)) ac (Fr.refl p H) rfl
theorem scComp : FnScope ["words", "term", "sign"] ["words", "term"] (defScope sComp) := ⟨rfl, rfl, rfl, by decide +kernel, rfl, by decide +kernel, by decide +kernel⟩
theorem ok_comp {pt : Rd' PyData} {L : Nat} (hL : 4 ≤ L) (T : Tl C) (D : Df K mg "rest_of_comparison" sComp ["words", "term"]) (DT' : Df K mg "read_term" sTerm ["words"]) (GT : FnOk P w K mg base (L2.CX P w) L DT'.f DT'.fd ["words"] (spG C RD (termM pt))) :
    FnOk P w K mg base (L2.CX P w) (L + 1) D.f D.fd ["words", "term"] (spG2 C RD (compM pt)) := by
  refine D.F.okX scComp (fun vs H Q E h => ?_) (fun cdv A outer s0 H vs Q E hr h => ?_)
  · obtain ⟨p, num, ws, i, d, v, rfl, _⟩ := h
    rfl
  · obtain ⟨p, num, ws, i, d, v, rfl, hW, hd, ac⟩ := h
    refine ⟨_, pss_cons (ps_set (i := 2) scComp.nd rfl (.inl rfl) (pe_methR (pv 0) C.cl T.mT T.FT (hr.mono hL) (passes_call (takes_of rfl rfl rfl rfl) fun _ _ _ _ h => h) (pa_cons pe_str (pa_cons pe_str pa_nil))))
      (pss_one (ps_ret (pe_tup (pa_cons (pe_ix ix_kdict (pe_glob (v := .ref T.aC) rfl T.gC rfl) (pv 2) (fun _ _ => rfl)) (pa_cons (pv 1) (pa_cons (pe_call GT hr rfl DT'.m DT'.F.kp DT'.b .nil (passes_call (takes_of rfl rfl rfl rfl) fun _ _ _ _ h => h) (pa_cons (pv 0) pa_nil)) pa_nil)))))), ?_⟩
    refine q_py (py_take (ks := ["<", "="]) rfl (ea_cons ev_c (ea_cons ev_c ea_nil)) hW) ac (Fr.refl p H) fun sg j ac v2 H2 f2 g2 hW2 r => ?_
    subst r
    cases hs : compsOf sg with
    | none =>
      rw [hs] at ac
      exact ac.elim
    | some t =>
      rw [hs] at ac
      exact s_pyRet (tup3 (ev_op ev_c (ev_var rfl) (rv_ixD T.dC hs)) (fun _ _ => ev_var rfl) (DT.tf (hW.tf g2) _ _ hd) hW2 fun H3 e3 hW3 => py_call (m := termM pt) rfl hW3) ac f2 rfl
end
end Prs
set_option Elab.async false
set_option linter.all false
set_option maxRecDepth 100000
set_option maxHeartbeats 4000000
namespace Prs
open PySem PySem.Spec PyProof.Rows L2 Evl
abbrev sEither : Stmt := top 38
abbrev sBracket : Stmt := top 39
abbrev sOne : Stmt := top 40
abbrev sBoth : Stmt := top 41
abbrev sRGuard : Stmt := top 42
abbrev sGuard : Stmt := top 43
abbrev BD := Bool × PyData
def RBD : Hp → V → BD → Prop := fun H v bd => ∃ a u, v = .ref a ∧ H a = some (.tup [.bl bd.1, u]) ∧ DT H bd.2 u
/-! ### the mirror of guards -/
def eitherM (pt : Rd' PyData) (br : Rd' BD) (ws : List Wd) (i : Nat) : Res BD :=
  match ws[i]? with
  | none => none
  | some x => if !decide (V.str x.kind = V.str "(") then mapR (fun d => (true, d)) (andThen (pt ws i) fun d j => restM pt ws d j)
    else andThen (br ws i) fun bd j => if bd.1 then mapR (fun d => (true, d)) (restM pt ws bd.2 j) else told bd j
def bothGo (one : Rd' PyData) (ws : List Wd) : Nat → PyData → Nat → Res PyData
  | 0, _, _ => none
  | n + 1, d, i => andThen (takeIfM ws "and" i) fun b j => if b then andThen (mapR (fun e => PyData.tuple [.str "both", d, e]) (one ws j)) fun e j => bothGo one ws n e j else told d j
def bothM (one : Rd' PyData) (ws : List Wd) (d : PyData) (i : Nat) : Res PyData := bothGo one ws (ws.length + 1) d i
def guardGo (one : Rd' PyData) (ws : List Wd) : Nat → PyData → Nat → Res PyData
  | 0, _, _ => none
  | n + 1, d, i => andThen (takeIfM ws "or" i) fun b j => if b then andThen (mapR (fun e => PyData.tuple [.str "either", d, e]) (andThen (one ws j) fun e j => bothM one ws e j)) fun e j => guardGo one ws n e j else told d j
def rguardM (one : Rd' PyData) (ws : List Wd) (d : PyData) (i : Nat) : Res PyData := andThen (bothM one ws d i) fun d j => guardGo one ws (ws.length + 1) d j
def guardM (one : Rd' PyData) (ws : List Wd) (i : Nat) : Res PyData := andThen (one ws i) fun d j => rguardM one ws d j
def notTerm : List Str := ["not", "yes", "in"]
def br5 (ws : List Wd) (bd : BD) (j : Nat) : Res BD := andThen (takeM ws [")"] j) fun _ j => told bd j
def br4 (one : Rd' PyData) (ws : List Wd) (bd : BD) (j : Nat) : Res BD := andThen (if !bd.1 then mapR (fun d => (false, d)) (rguardM one ws bd.2 j) else told bd j) (br5 ws)
def br3 (pt : Rd' PyData) (one : Rd' PyData) (ws : List Wd) (bd : BD) (j : Nat) : Res BD := andThen (if bd.1 then (match ws[j]? with
      | none => none
      | some y => if !decide (V.str y.kind = V.str ")") then mapR (fun d => (false, d)) (compM pt ws bd.2 j) else told bd j) else told bd j) (br4 one ws)
def bracketS (pt : Rd' PyData) (br : Rd' BD) (one : Rd' PyData) (ws : List Wd) (i : Nat) : Res BD :=
  andThen (takeM ws ["("] i) fun _ j => match ws[j]? with
  | none => none
  | some x => andThen (if !inV (.str x.kind) (notTerm.map V.str) then eitherM pt br ws j else mapR (fun d => (false, d)) (one ws j)) (br3 pt one ws)
def oneS (pt : Rd' PyData) (br : Rd' BD) (one : Rd' PyData) (ws : List Wd) (i : Nat) : Res PyData :=
  andThen (takeIfM ws "not" i) fun b j => if b then mapR (fun e => PyData.tuple [.str "not", e]) (one ws j) else
  andThen (takeIfM ws "yes" j) fun b j => if b then told (.tuple [.str "yes"]) j else
  andThen (takeIfM ws "in" j) fun b j => if b then mapR (fun e => PyData.tuple [.str "in", e]) (mapR PyData.str (takeM ws ["a name"] j)) else
  andThen (eitherM pt br ws j) fun bd j => if bd.1 then compM pt ws bd.2 j else told bd.2 j
def brOne : Nat → Rd' BD × Rd' PyData
  | 0 => (fun _ _ => none, fun _ _ => none)
  | n + 1 => (bracketS (partM n) (brOne n).1 (brOne n).2, oneS (partM n) (brOne n).1 (brOne n).2)
section
variable {P : Program} {w : World} {K : PySem.W.Frag} {mg : Str → Option Value} {base : Heap} {C : Cn P w K mg base}
section
variable {p : Addr} {num : Nm} {ws : List Wd} {E : XK} {σ : L2.St} {H H1 : Hp} {α α2 α3 β γ δ : Type} {D : Ends} {tz tu : TS} {Q : VK} {R : Hp → V → α → Prop}
theorem py_conv {t : L2.St → Hp → (β → Hp → Prop) → Prop} {R1 : Hp → β → α2 → Prop} {R2 : Hp → β → α3 → Prop} {x : Res α} {g : α → α2} {g2 : α → α3} (h : Py C p num ws E t σ H R1 (mapR g x)) (k : ∀ H v a, R1 H v (g a) → R2 H v (g2 a)) : Py C p num ws E t σ H R2 (mapR g2 x) := fun Q ac => h Q (by
  match x, ac with
  | some (.inl c), ac => exact ac
  | some (.inr (a, j)), ac => exact fun v H' f x r => ac v H' f x (k _ _ _ r))
theorem rbd_of {H : Hp} {v : V} {b : Bool} {d : PyData} (h : DT H (.tuple [.bool b, d]) v) : RBD H v (b, d) := by
  unfold DT at h
  obtain ⟨a, vs, rfl, h1, h2⟩ := h
  unfold DTs at h2
  obtain ⟨v1, r, rfl, h3, h4⟩ := h2
  unfold DTs at h4
  obtain ⟨v2, r, rfl, h5, h6⟩ := h4
  unfold DTs at h6
  subst h6
  unfold DT at h3
  subst h3
  exact ⟨a, v2, rfl, h1, h5⟩
theorem dt_bool {H : Hp} {s : Bool} : DT H (.bool s) (.bl s) := by unfold DT; rfl
/-- (b, a thing read) -/
theorem tupB {t1 t3 : TE} {b : Bool} {i : Nat} {x : Res PyData} (h1 : Ev t1 σ H (.bl b)) (hW : WAt C.W H p num ws i) (h3 : ∀ H', Ex H H' → WAt C.W H' p num ws i → Py C p num ws E t3 σ H' RD x) :
    Py C p num ws E (tTup (tCons t1 (tCons t3 tNil))) σ H RBD (mapR (fun e => (b, e)) x) := by
  refine py_conv (R1 := RD) (g := fun e => PyData.tuple [.bool b, e]) (py_is (py_tup (py_cons (d := .bool b) h1 hW dt_bool fun H1 e1 hW1 => py_last (h3 H1 e1 hW1)) ?_) ?_) fun H v a h => rbd_of h
  · rw [mapR_mapR]
    exact mapR_len fun _ => by
      show 2 ≤ 100000
      decide
  · rw [mapR_mapR, mapR_mapR]
theorem py_var {i k : Nat} {d : PyData} {v : V} (h0 : σ[k]? = some (some v)) (hW : WAt C.W H p num ws i) (hd : DT H d v) : Py C p num ws E (tVar k) σ H RD (told d i) := py_ev (ev_var h0) hW fun H' e => DT.tf (TF.ex e) _ _ hd
/-- a, b = what is read -/
theorem s_pyTup2 {t : TE} {k1 k2 : Nat} {x : Res BD} {f : BD → Nat → Res α} (h : Py C p num ws E t σ H1 RBD x) (ac : Acc C p num ws H Q E R (andThen x f)) (fr : Fr p H H1)
    (n : ∀ bd j, Acc C p num ws H Q E R (f bd j) → ∀ u H2, Fr p H H2 → Fr p H1 H2 → WAt C.W H2 p num ws j → DT H2 bd.2 u → D.nx ((σ.set k1 (some (.bl bd.1))).set k2 (some u)) H2) : tAsg t (gTup K 2 (gCons (gName k1) (gCons (gName k2) gNil))) D σ H1 := h _ (Acc.bind ac fr fun bd j ac2 v H2 f1 f2 hW r => by
  obtain ⟨a, u, rfl, h1, h2⟩ := r
  exact ⟨a, _, rfl, st_of h1, rfl, _, _, rfl, _, _, rfl, rfl, n bd j ac2 u H2 f1 f2 hW h2⟩)
theorem q_pyTup2 {t : TE} {k1 k2 : Nat} {x : Res BD} {f : BD → Nat → Res α} (h : Py C p num ws E t σ H1 RBD x) (ac : Acc C p num ws H Q E R (andThen x f)) (fr : Fr p H H1)
    (n : ∀ bd j, Acc C p num ws H Q E R (f bd j) → ∀ u H2, Fr p H H2 → Fr p H1 H2 → WAt C.W H2 p num ws j → DT H2 bd.2 u → tz D ((σ.set k1 (some (.bl bd.1))).set k2 (some u)) H2) : tSeq (tAsg t (gTup K 2 (gCons (gName k1) (gCons (gName k2) gNil)))) tz D σ H1 := s_pyTup2 (D := { D with nx := tz D }) h ac fr n
theorem andThen_map {g : α → α2} {x : Res α} {f : α2 → Nat → Res α3} : andThen (mapR g x) f = andThen x fun a j => f (g a) j := by
  match x with
  | none => rfl
  | some (.inl c) => rfl
  | some (.inr (a, j)) => rfl
/-- (b, thing) of two names -/
theorem s_retBD {k1 k2 : Nat} {i : Nat} {bd : BD} {u : V} (h1 : σ[k1]? = some (some (.bl bd.1))) (h2 : σ[k2]? = some (some u)) (hW : WAt C.W H1 p num ws i) (hd : DT H1 bd.2 u) (ac : Acc C p num ws H Q E RBD (told bd i)) (fr : Fr p H H1) (e : D.rt = Q) : tRet (tTup (tCons (tVar k1) (tCons (tVar k2) tNil))) D σ H1 :=
  s_pyRet (x := told bd i) (py_is (tupB (ev_var h1) hW fun H' e' hW' => py_var h2 hW' (DT.tf (TF.ex e') _ _ hd)) rfl) ac fr e
end
/-! ### read_either_kind -/
theorem scEither : FnScope ["words", "is_term", "thing"] ["words"] (defScope sEither) := ⟨rfl, rfl, rfl, by decide +kernel, rfl, by decide +kernel, by decide +kernel⟩
theorem ok_either {pt : Rd' PyData} {br : Rd' BD} {L : Nat} (hL : 4 ≤ L) (T : Tl C) (D : Df K mg "read_either_kind" sEither ["words"]) (DR : Df K mg "rest_of_term" sRest ["words", "term"]) (DP : Df K mg "read_part" sPart ["words"]) (DB : Df K mg "read_bracket" sBracket ["words"])
    (GP : FnOk P w K mg base (L2.CX P w) L DP.f DP.fd ["words"] (spG C RD pt)) (GR : FnOk P w K mg base (L2.CX P w) (L + 1) DR.f DR.fd ["words", "term"] (spG2 C RD (restM pt))) (GB : FnOk P w K mg base (L2.CX P w) L DB.f DB.fd ["words"] (spG C RBD br)) :
    FnOk P w K mg base (L2.CX P w) (L + 2) D.f D.fd ["words"] (spG C RBD (eitherM pt br)) := by
  refine D.F.okX scEither (fun vs H Q E h => ?_) (fun cdv A outer s0 H vs Q E hr h => ?_)
  · obtain ⟨p, num, ws, i, rfl, _⟩ := h
    rfl
  · obtain ⟨p, num, ws, i, rfl, hW, ac⟩ := h
    have hr0 : Room L (A.deeper (envOfC "read_either_kind" (defScope sEither) s0.heap.objs.size D.f cdv)) := hr.mono (by omega)
    refine ⟨_, pss_cons (ps_if (pt_cmpR op_ne (pe_meth0 (pv 0) C.cl T.mA T.GA (hr.mono (by omega)) T.bA .nil (passAny (E := E))) pe_str (nomark _))
        (pss_one (ps_ret (pe_tup (pa_cons pe_bl (pa_cons (pe_call GR hr rfl DR.m DR.F.kp DR.b .nil (passes_call (takes_of rfl rfl rfl rfl) fun _ _ _ _ h => h) (pa_cons (pv 0) (pa_cons (pe_call GP hr0 rfl DP.m DP.F.kp DP.b .nil (passes_call (takes_of rfl rfl rfl rfl) fun _ _ _ _ h => h) (pa_cons (pv 0) pa_nil)) pa_nil))) pa_nil))))) pss_nil)
      (pss_cons (ps_asg (pe_call GB hr0 rfl DB.m DB.F.kp DB.b .nil (passes_call (takes_of rfl rfl rfl rfl) fun _ _ _ _ h => h) (pa_cons (pv 0) pa_nil)) (pg_tup rfl (pgs_cons (pg_name (i := 1) scEither.nd rfl (.inl rfl)) (pgs_cons (pg_name (i := 2) scEither.nd rfl (.inl rfl)) pgs_nil))))
      (pss_cons (ps_if (pt_val (pv 1)) (pss_one (ps_set (i := 2) scEither.nd rfl (.inl rfl) (pe_call GR hr rfl DR.m DR.F.kp DR.b .nil (passes_call (takes_of rfl rfl rfl rfl) fun _ _ _ _ h => h) (pa_cons (pv 0) (pa_cons (pv 2) pa_nil))))) pss_nil)
      (pss_one (ps_ret (pe_tup (pa_cons (pv 1) (pa_cons (pv 2) pa_nil))))))), ?_⟩
    unfold eitherM at ac
    cases hx : ws[i]? with
    | none =>
      rw [hx] at ac
      exact ac.elim
    | some x =>
      rw [hx] at ac
      refine q_when (b := !decide (V.str x.kind = V.str "(")) (et_test (ev_op (ev_ahead rfl hW hx) ev_c (rv_ne rfl))) (fun hb H1 e1 => ?_) (fun hb H1 e1 => ?_)
      · simp only [hb, if_true] at ac
        exact s_pyRet (tupB ev_c (hW.ex e1) fun H2 e2 hW2 => py_call2 (m := restM pt) rfl (py_call rfl hW2)) ac (Fr.ex e1) rfl
      simp only [hb, Bool.false_eq_true, if_false] at ac
      refine q_pyTup2 (py_call (m := br) rfl (hW.ex e1)) ac (Fr.ex e1) fun bd j ac u H2 f2 _ hW2 hu => ?_
      obtain ⟨b, d⟩ := bd
      refine q_when (b := b) (et_B (ev_var rfl)) (fun hc H3 e3 => ?_) (fun hc H3 e3 => ?_)
      · subst hc
        simp only [if_true] at ac
        have ac2 : Acc C p num ws H Q E RBD (andThen (andThen (told d j) fun d j => restM pt ws d j) fun d j => told (true, d) j) := ac
        refine s_py (py_call2 (m := restM pt) rfl (py_var rfl (hW2.ex e3) (DT.tf (TF.ex e3) _ _ hu))) ac2 (f2.trans (Fr.ex e3)) fun d2 j2 ac v H4 f4 _ hW4 r => ?_
        exact s_retBD (bd := (true, d2)) (D := { nx := _, rt := Q }) rfl rfl hW4 r ac f4 rfl
      · subst hc
        simp only [Bool.false_eq_true, if_false] at ac
        exact s_retBD (bd := (false, d)) (D := { nx := _, rt := Q }) rfl rfl (hW2.ex e3) (DT.tf (TF.ex e3) _ _ hu) ac (f2.trans (Fr.ex e3)) rfl
/-! ### rest_of_both, rest_of_guard, read_guard -/
theorem scBoth : FnScope ["words", "guard"] ["words", "guard"] (defScope sBoth) := ⟨rfl, rfl, rfl, by decide +kernel, rfl, by decide +kernel, by decide +kernel⟩
theorem ok_both {one : Rd' PyData} {L : Nat} (hL : 4 ≤ L) (T : Tl C) (D : Df K mg "rest_of_both" sBoth ["words", "guard"]) (DO : Df K mg "read_one" sOne ["words"]) (GO : FnOk P w K mg base (L2.CX P w) L DO.f DO.fd ["words"] (spG C RD one)) :
    FnOk P w K mg base (L2.CX P w) (L + 1) D.f D.fd ["words", "guard"] (spG2 C RD (bothM one)) := by
  refine D.F.okX scBoth (fun vs H Q E h => ?_) (fun cdv A outer s0 H vs Q E hr h => ?_)
  · obtain ⟨p, num, ws, i, d, v, rfl, _⟩ := h
    rfl
  · obtain ⟨p, num, ws, i, d, v, rfl, hW, hd, ac⟩ := h
    refine ⟨_, pss_cons (ps_while (passes_of rfl) (pt_val (pe_meth (pv 0) C.cl T.mI T.GI (hr.mono (by omega)) T.bI .nil (passAny (E := E)) (pa_cons pe_str pa_nil)))
        (pss_one (ps_set (i := 1) scBoth.nd rfl (.inl rfl) (pe_tup (pa_cons pe_str (pa_cons (pv 1) (pa_cons (pe_call GO hr rfl DO.m DO.F.kp DO.b .nil (passes_call (takes_of rfl rfl rfl rfl) fun _ _ _ _ h => h) (pa_cons (pv 0) pa_nil)) pa_nil)))))))
      (pss_one (ps_ret (pv 1))), ?_⟩
    refine ⟨fun m σ' H' => ∃ d v i, Fr p H H' ∧ WAt C.W H' p num ws i ∧ DT H' d v ∧ σ' = [some (.ref p), some v] ∧ Acc C p num ws H Q E RD (bothGo one ws m d i), ⟨ws.length + 1, d, v, i, Fr.refl p H, hW, hd, rfl, ac⟩, ?_⟩
    rintro m σ' H' ⟨d, v, i, f1, hW, hd, rfl, ac⟩
    cases m with
    | zero => exact ac.elim
    | succ m =>
      unfold bothGo at ac
      refine (py_test (py_takeIf rfl ev_c hW) : Py C p num ws E _ _ H' REq (takeIfM ws "and" i)) _ (Acc.bind (R2 := REq) ac f1 fun b j ac _ H2 f2 g2 hW2 r => ?_)
      cases r
      have hd2 : DT H2 d v := DT.tf (hW.tf g2) _ _ hd
      cases b with
      | true =>
        simp only [if_true] at ac ⊢
        refine ⟨fun σ2 H2 => ∃ d v i, Fr p H H2 ∧ WAt C.W H2 p num ws i ∧ DT H2 d v ∧ σ2 = [some (.ref p), some v] ∧ Acc C p num ws H Q E RD (bothGo one ws m d i), fun σ2 H2 z => ⟨m, Nat.lt_succ_self _, z⟩, ?_⟩
        exact s_py (tup3 ev_c (fun _ _ => ev_var rfl) hd2 hW2 fun H3 e3 hW3 => py_call rfl hW3) ac f2 fun e j2 ac v3 H3 f3 g3 hW3 r => ⟨_, v3, j2, f3, hW3, r, rfl, ac⟩
      | false =>
        simp only [Bool.false_eq_true, if_false] at ac ⊢
        exact s_ret (v := v) (D := { nx := _, rt := Q }) (ev_var rfl) fun H7 e7 => Acc.ret (R := RD) ac (f2.trans (Fr.ex e7)) (hW2.ex e7) (DT.tf (TF.ex e7) _ _ hd2)
theorem scRGuard : FnScope ["words", "guard"] ["words", "guard"] (defScope sRGuard) := ⟨rfl, rfl, rfl, by decide +kernel, rfl, by decide +kernel, by decide +kernel⟩
theorem ok_rguard {one : Rd' PyData} {L : Nat} (hL : 4 ≤ L) (T : Tl C) (D : Df K mg "rest_of_guard" sRGuard ["words", "guard"]) (DB : Df K mg "rest_of_both" sBoth ["words", "guard"]) (DO : Df K mg "read_one" sOne ["words"]) (GO : FnOk P w K mg base (L2.CX P w) L DO.f DO.fd ["words"] (spG C RD one))
    (GB : FnOk P w K mg base (L2.CX P w) (L + 1) DB.f DB.fd ["words", "guard"] (spG2 C RD (bothM one))) : FnOk P w K mg base (L2.CX P w) (L + 2) D.f D.fd ["words", "guard"] (spG2 C RD (rguardM one)) := by
  refine D.F.okX scRGuard (fun vs H Q E h => ?_) (fun cdv A outer s0 H vs Q E hr h => ?_)
  · obtain ⟨p, num, ws, i, d, v, rfl, _⟩ := h
    rfl
  · obtain ⟨p, num, ws, i, d, v, rfl, hW, hd, ac⟩ := h
    have hr0 : Room L (A.deeper (envOfC "rest_of_guard" (defScope sRGuard) s0.heap.objs.size D.f cdv)) := hr.mono (by omega)
    refine ⟨_, pss_cons (ps_set (i := 1) scRGuard.nd rfl (.inl rfl) (pe_call GB hr rfl DB.m DB.F.kp DB.b .nil (passes_call (takes_of rfl rfl rfl rfl) fun _ _ _ _ h => h) (pa_cons (pv 0) (pa_cons (pv 1) pa_nil))))
      (pss_cons (ps_while (passes_of rfl) (pt_val (pe_meth (pv 0) C.cl T.mI T.GI (hr.mono (by omega)) T.bI .nil (passAny (E := E)) (pa_cons pe_str pa_nil)))
        (pss_one (ps_set (i := 1) scRGuard.nd rfl (.inl rfl) (pe_tup (pa_cons pe_str (pa_cons (pv 1) (pa_cons (pe_call GB hr rfl DB.m DB.F.kp DB.b .nil (passes_call (takes_of rfl rfl rfl rfl) fun _ _ _ _ h => h) (pa_cons (pv 0) (pa_cons (pe_call GO hr0 rfl DO.m DO.F.kp DO.b .nil (passes_call (takes_of rfl rfl rfl rfl) fun _ _ _ _ h => h) (pa_cons (pv 0) pa_nil)) pa_nil))) pa_nil)))))))
      (pss_one (ps_ret (pv 1)))), ?_⟩
    have ac0 : Acc C p num ws H Q E RD (andThen (andThen (told d i) fun d j => bothM one ws d j) fun d j => guardGo one ws (ws.length + 1) d j) := ac
    refine q_py (py_call2 (m := bothM one) rfl (py_var rfl hW hd)) ac0 (Fr.refl p H) fun d1 j1 ac1 v1 H1 f1 g1 hW1 hd1 => ?_
    refine ⟨fun m σ' H' => ∃ d v i, Fr p H H' ∧ WAt C.W H' p num ws i ∧ DT H' d v ∧ σ' = [some (.ref p), some v] ∧ Acc C p num ws H Q E RD (guardGo one ws m d i), ⟨ws.length + 1, d1, v1, j1, f1, hW1, hd1, rfl, ac1⟩, ?_⟩
    rintro m σ' H' ⟨d, v, i, f1, hW, hd, rfl, ac⟩
    cases m with
    | zero => exact ac.elim
    | succ m =>
      unfold guardGo at ac
      refine (py_test (py_takeIf rfl ev_c hW) : Py C p num ws E _ _ H' REq (takeIfM ws "or" i)) _ (Acc.bind (R2 := REq) ac f1 fun b j ac _ H2 f2 g2 hW2 r => ?_)
      cases r
      have hd2 : DT H2 d v := DT.tf (hW.tf g2) _ _ hd
      cases b with
      | true =>
        simp only [if_true] at ac ⊢
        refine ⟨fun σ2 H2 => ∃ d v i, Fr p H H2 ∧ WAt C.W H2 p num ws i ∧ DT H2 d v ∧ σ2 = [some (.ref p), some v] ∧ Acc C p num ws H Q E RD (guardGo one ws m d i), fun σ2 H2 z => ⟨m, Nat.lt_succ_self _, z⟩, ?_⟩
        exact s_py (tup3 ev_c (fun _ _ => ev_var rfl) hd2 hW2 fun H3 e3 hW3 => py_call2 (m := bothM one) rfl (py_call rfl hW3)) ac f2 fun e j2 ac v3 H3 f3 g3 hW3 r => ⟨_, v3, j2, f3, hW3, r, rfl, ac⟩
      | false =>
        simp only [Bool.false_eq_true, if_false] at ac ⊢
        exact s_ret (v := v) (D := { nx := _, rt := Q }) (ev_var rfl) fun H7 e7 => Acc.ret (R := RD) ac (f2.trans (Fr.ex e7)) (hW2.ex e7) (DT.tf (TF.ex e7) _ _ hd2)
theorem scGuard : FnScope ["words"] ["words"] (defScope sGuard) := ⟨rfl, rfl, rfl, by decide +kernel, rfl, by decide +kernel, by decide +kernel⟩
theorem ok_guard {one : Rd' PyData} {L : Nat} (D : Df K mg "read_guard" sGuard ["words"]) (DR : Df K mg "rest_of_guard" sRGuard ["words", "guard"]) (DO : Df K mg "read_one" sOne ["words"]) (GO : FnOk P w K mg base (L2.CX P w) L DO.f DO.fd ["words"] (spG C RD one))
    (GR : FnOk P w K mg base (L2.CX P w) (L + 2) DR.f DR.fd ["words", "guard"] (spG2 C RD (rguardM one))) : FnOk P w K mg base (L2.CX P w) (L + 3) D.f D.fd ["words"] (spG C RD (guardM one)) := by
  refine D.F.okX scGuard (fun vs H Q E h => ?_) (fun cdv A outer s0 H vs Q E hr h => ?_)
  · obtain ⟨p, num, ws, i, rfl, _⟩ := h
    rfl
  · obtain ⟨p, num, ws, i, rfl, hW, ac⟩ := h
    refine ⟨_, pss_one (ps_ret (pe_call GR hr rfl DR.m DR.F.kp DR.b .nil (passes_call (takes_of rfl rfl rfl rfl) fun _ _ _ _ h => h) (pa_cons (pv 0) (pa_cons (pe_call GO (hr.mono (by omega)) rfl DO.m DO.F.kp DO.b .nil (passes_call (takes_of rfl rfl rfl rfl) fun _ _ _ _ h => h) (pa_cons (pv 0) pa_nil)) pa_nil)))), ?_⟩
    exact s_pyRet (py_call2 (m := rguardM one) rfl (py_call rfl hW)) ac (Fr.refl p H) rfl
end
end Prs
set_option Elab.async false
set_option linter.all false
set_option maxRecDepth 100000
set_option maxHeartbeats 4000000
namespace Prs
open PySem PySem.Spec PyProof.Rows L2 Evl
section
variable {P : Program} {w : World} {K : PySem.W.Frag} {mg : Str → Option Value} {base : Heap} {C : Cn P w K mg base}
theorem py_ifB {p : Addr} {num : Nm} {ws : List Wd} {E : XK} {σ : L2.St} {H : Hp} {α : Type} {R : Hp → V → α → Prop} {t : TT} {ta tb : TE} {b : Bool} {x : Res α} (h : EvT t σ H b) (h1 : b = true → ∀ H', Ex H H' → Py C p num ws E ta σ H' R x) (h2 : b = false → ∀ H', Ex H H' → Py C p num ws E tb σ H' R x) :
    Py C p num ws E (tIf t ta tb) σ H R x := fun Q ac => h H (Ex.refl H) _ fun H2 e2 => by
  cases b with
  | true => exact h1 rfl H2 e2 Q (ac.fr (Fr.ex e2))
  | false => exact h2 rfl H2 e2 Q (ac.fr (Fr.ex e2))
/-! ### read_bracket -/
theorem scBracket : FnScope ["words", "is_term", "thing"] ["words"] (defScope sBracket) := ⟨rfl, rfl, rfl, by decide +kernel, rfl, by decide +kernel, by decide +kernel⟩
theorem ok_bracket {pt one : Rd' PyData} {br : Rd' BD} {L : Nat} (hL : 4 ≤ L) (T : Tl C) (D : Df K mg "read_bracket" sBracket ["words"]) (DE : Df K mg "read_either_kind" sEither ["words"]) (DO : Df K mg "read_one" sOne ["words"]) (DC : Df K mg "rest_of_comparison" sComp ["words", "term"]) (DG : Df K mg "rest_of_guard" sRGuard ["words", "guard"])
    (GE : FnOk P w K mg base (L2.CX P w) (L + 2) DE.f DE.fd ["words"] (spG C RBD (eitherM pt br))) (GO : FnOk P w K mg base (L2.CX P w) L DO.f DO.fd ["words"] (spG C RD one)) (GC : FnOk P w K mg base (L2.CX P w) (L + 3) DC.f DC.fd ["words", "term"] (spG2 C RD (compM pt)))
    (GG : FnOk P w K mg base (L2.CX P w) (L + 2) DG.f DG.fd ["words", "guard"] (spG2 C RD (rguardM one))) : FnOk P w K mg base (L2.CX P w) (L + 4) D.f D.fd ["words"] (spG C RBD (bracketS pt br one)) := by
  refine D.F.okX scBracket (fun vs H Q E h => ?_) (fun cdv A outer s0 H vs Q E hr h => ?_)
  · obtain ⟨p, num, ws, i, rfl, _⟩ := h
    rfl
  · obtain ⟨p, num, ws, i, rfl, hW, ac⟩ := h
    have hr0 : Room L (A.deeper (envOfC "read_bracket" (defScope sBracket) s0.heap.objs.size D.f cdv)) := hr.mono (by omega)
    have hr2 : Room (L + 2) (A.deeper (envOfC "read_bracket" (defScope sBracket) s0.heap.objs.size D.f cdv)) := hr.mono (by omega)
    have hr4 : Room 4 (A.deeper (envOfC "read_bracket" (defScope sBracket) s0.heap.objs.size D.f cdv)) := hr.mono (by omega)
    refine ⟨_, pss_cons (ps_expr (pe_methR (pv 0) C.cl T.mT T.FT hr4 (passes_call (takes_of rfl rfl rfl rfl) fun _ _ _ _ h => h) (pa_cons pe_str pa_nil)))
      (pss_cons (ps_set (i := 1) scBracket.nd rfl (.inl rfl) (pe_cmpR op_notIn_seq (pe_meth0 (pv 0) C.cl T.mA T.GA (hr.mono (by omega)) T.bA .nil (passAny (E := E))) (pe_tup (pa_cons pe_str (pa_cons pe_str (pa_cons pe_str pa_nil)))) (by rfl)))
      (Evl.pss_cut (ps_if (pt_val (pv 1)) (pss_one (ps_asg (pe_call GE hr2 rfl DE.m DE.F.kp DE.b .nil (passes_call (takes_of rfl rfl rfl rfl) fun _ _ _ _ h => h) (pa_cons (pv 0) pa_nil)) (pg_tup rfl (pgs_cons (pg_name (i := 1) scBracket.nd rfl (.inl rfl)) (pgs_cons (pg_name (i := 2) scBracket.nd rfl (.inl rfl)) pgs_nil)))))
          (pss_one (ps_set (i := 2) scBracket.nd rfl (.inl rfl) (pe_call GO hr0 rfl DO.m DO.F.kp DO.b .nil (passes_call (takes_of rfl rfl rfl rfl) fun _ _ _ _ h => h) (pa_cons (pv 0) pa_nil)))))
      (Evl.pss_cut (ps_if (PW.pt (pw_and (pt_val (pv 1)) (pw_and1 (pt_cmpR op_ne (pe_meth0 (pv 0) C.cl T.mA T.GA (hr.mono (by omega)) T.bA .nil (passAny (E := E))) pe_str (nomark _)))))
          (pss_cons (ps_set (i := 1) scBracket.nd rfl (.inl rfl) pe_bl) (pss_one (ps_set (i := 2) scBracket.nd rfl (.inl rfl) (pe_call GC hr rfl DC.m DC.F.kp DC.b .nil (passes_call (takes_of rfl rfl rfl rfl) fun _ _ _ _ h => h) (pa_cons (pv 0) (pa_cons (pv 2) pa_nil)))))) pss_nil)
      (Evl.pss_cut (ps_if (pt_not (pt_val (pv 1))) (pss_one (ps_set (i := 2) scBracket.nd rfl (.inl rfl) (pe_call GG hr2 rfl DG.m DG.F.kp DG.b .nil (passes_call (takes_of rfl rfl rfl rfl) fun _ _ _ _ h => h) (pa_cons (pv 0) (pa_cons (pv 2) pa_nil))))) pss_nil)
      (pss_cons (ps_expr (pe_methR (pv 0) C.cl T.mT T.FT hr4 (passes_call (takes_of rfl rfl rfl rfl) fun _ _ _ _ h => h) (pa_cons pe_str pa_nil)))
      (pss_one (ps_ret (pe_tup (pa_cons (pv 1) (pa_cons (pv 2) pa_nil)))))))))), ?_⟩
    unfold bracketS at ac
    refine q_pyDrop (py_take (ks := ["("]) rfl (ea_cons ev_c ea_nil) hW) ac (Fr.refl p H) fun _ j ac v1 H1 f1 g1 hW1 _ => ?_
    cases hx : ws[j]? with
    | none =>
      rw [hx] at ac
      exact ac.elim
    | some x =>
      rw [hx] at ac
      dsimp only at ac
      refine q_asg (v := .bl (!inV (.str x.kind) (notTerm.map V.str))) (ev_niU (ev_ahead rfl hW1 hx) (eu_tup (ea_cons ev_c (ea_cons ev_c (ea_cons ev_c ea_nil))) (by show 3 ≤ 100000; decide)) rfl rfl) fun H2 e2 => ?_
      have f2 := f1.trans (Fr.ex e2)
      have hW2 := hW1.ex e2
      refine Evl.q_cut (M := fun σ' H' => ∃ b d u j, Fr p H H' ∧ WAt C.W H' p num ws j ∧ DT H' d u ∧ σ' = [some (.ref p), some (.bl b), some u] ∧ Acc C p num ws H Q E RBD (br3 pt one ws (b, d) j)) ?_ ?_
      · refine s_if (b := !inV (.str x.kind) (notTerm.map V.str)) (et_B (ev_var rfl)) (fun hb H3 e3 => ?_) (fun hb H3 e3 => ?_)
        · simp only [hb, if_true] at ac
          exact s_pyTup2 (py_call (m := eitherM pt br) rfl (hW2.ex e3)) ac (f2.trans (Fr.ex e3)) fun bd j ac u H4 f4 _ hW4 hu => ⟨bd.1, bd.2, u, j, f4, hW4, hu, rfl, ac⟩
        · simp only [hb, Bool.false_eq_true, if_false] at ac
          rw [andThen_map] at ac
          exact s_py (py_call (m := one) (R := RD) rfl (hW2.ex e3)) ac (f2.trans (Fr.ex e3)) fun d j ac u H4 f4 _ hW4 hu => ⟨false, d, u, j, f4, hW4, hu, by rw [hb]; rfl, ac⟩
      rintro σ' H' ⟨b, d, u, j, f3, hW3, hd, rfl, ac⟩
      unfold br3 at ac
      refine Evl.q_cut (M := fun σ' H' => ∃ b d u j, Fr p H H' ∧ WAt C.W H' p num ws j ∧ DT H' d u ∧ σ' = [some (.ref p), some (.bl b), some u] ∧ Acc C p num ws H Q E RBD (br4 one ws (b, d) j)) ?_ ?_
      · cases b with
        | false =>
          simp only [Bool.false_eq_true, if_false] at ac
          refine s_when (b := false && false) (et_and (et_B (ev_var rfl)) fun h => Bool.noConfusion h) (fun hb _ _ => Bool.noConfusion hb) fun _ H4 e4 => ?_
          exact ⟨false, d, u, j, f3.trans (Fr.ex e4), hW3.ex e4, DT.tf (TF.ex e4) _ _ hd, rfl, ac⟩
        | true =>
          simp only [if_true] at ac
          cases hy : ws[j]? with
          | none =>
            rw [hy] at ac
            exact ac.elim
          | some y =>
            rw [hy] at ac
            dsimp only at ac
            refine s_when (b := true && !decide (V.str y.kind = V.str ")")) (et_and (et_B (ev_var rfl)) fun _ => et_test (ev_op (ev_ahead rfl hW3 hy) ev_c (rv_ne rfl))) (fun hb H4 e4 => ?_) (fun hb H4 e4 => ?_)
            · have hb' : (!decide (V.str y.kind = V.str ")")) = true := hb
              simp only [hb', if_true] at ac
              rw [andThen_map] at ac
              refine q_asg (v := .bl false) ev_c fun H5 e5 => ?_
              have e45 := Ex.trans e4 e5
              have ac2 : Acc C p num ws H Q E RBD (andThen (andThen (told d j) fun d j => compM pt ws d j) fun d j => br4 one ws (false, d) j) := ac
              exact s_py (py_call2 (m := compM pt) rfl (py_var rfl (hW3.ex e45) (DT.tf (TF.ex e45) _ _ hd))) ac2 (f3.trans (Fr.ex e45)) fun d j ac u H4 f4 _ hW4 hu => ⟨false, d, u, j, f4, hW4, hu, rfl, ac⟩
            · have hb' : (!decide (V.str y.kind = V.str ")")) = false := hb
              simp only [hb', Bool.false_eq_true, if_false] at ac
              exact ⟨true, d, u, j, f3.trans (Fr.ex e4), hW3.ex e4, DT.tf (TF.ex e4) _ _ hd, rfl, ac⟩
      rintro σ' H' ⟨b, d, u, j, f3, hW3, hd, rfl, ac⟩
      unfold br4 at ac
      refine Evl.q_cut (M := fun σ' H' => ∃ b d u j, Fr p H H' ∧ WAt C.W H' p num ws j ∧ DT H' d u ∧ σ' = [some (.ref p), some (.bl b), some u] ∧ Acc C p num ws H Q E RBD (br5 ws (b, d) j)) ?_ ?_
      · refine s_when (b := !b) (et_not (et_B (ev_var rfl))) (fun hb H4 e4 => ?_) (fun hb H4 e4 => ?_)
        · simp only [hb, if_true] at ac
          rw [andThen_map] at ac
          have hb' : b = false := by cases b with | true => exact Bool.noConfusion hb | false => rfl
          subst hb'
          have ac2 : Acc C p num ws H Q E RBD (andThen (andThen (told d j) fun d j => rguardM one ws d j) fun d j => br5 ws (false, d) j) := ac
          exact s_py (py_call2 (m := rguardM one) rfl (py_var rfl (hW3.ex e4) (DT.tf (TF.ex e4) _ _ hd))) ac2 (f3.trans (Fr.ex e4)) fun d j ac u H4 f4 _ hW4 hu => ⟨false, d, u, j, f4, hW4, hu, rfl, ac⟩
        · simp only [hb, Bool.false_eq_true, if_false] at ac
          exact ⟨b, d, u, j, f3.trans (Fr.ex e4), hW3.ex e4, DT.tf (TF.ex e4) _ _ hd, rfl, ac⟩
      rintro σ' H' ⟨b, d, u, j, f3, hW3, hd, rfl, ac⟩
      unfold br5 at ac
      refine q_pyDrop (py_take (ks := [")"]) rfl (ea_cons ev_c ea_nil) hW3) ac f3 fun _ j3 ac v2 H6 f6 g6 hW6 _ => ?_
      exact s_retBD (bd := (b, d)) (D := { nx := _, rt := Q }) rfl rfl hW6 (DT.tf (hW3.tf g6) _ _ hd) ac f6 rfl
/-! ### read_one -/
theorem scOne : FnScope ["words", "is_term", "thing"] ["words"] (defScope sOne) := ⟨rfl, rfl, rfl, by decide +kernel, rfl, by decide +kernel, by decide +kernel⟩
theorem ok_one {pt one : Rd' PyData} {br : Rd' BD} {L : Nat} (hL : 4 ≤ L) (T : Tl C) (D : Df K mg "read_one" sOne ["words"]) (DE : Df K mg "read_either_kind" sEither ["words"]) (DC : Df K mg "rest_of_comparison" sComp ["words", "term"])
    (GE : FnOk P w K mg base (L2.CX P w) (L + 2) DE.f DE.fd ["words"] (spG C RBD (eitherM pt br))) (GO : FnOk P w K mg base (L2.CX P w) L D.f D.fd ["words"] (spG C RD one)) (GC : FnOk P w K mg base (L2.CX P w) (L + 3) DC.f DC.fd ["words", "term"] (spG2 C RD (compM pt))) :
    FnOk P w K mg base (L2.CX P w) (L + 4) D.f D.fd ["words"] (spG C RD (oneS pt br one)) := by
  obtain ⟨_, gA⟩ := T.gA
  refine D.F.okX scOne (fun vs H Q E h => ?_) (fun cdv A outer s0 H vs Q E hr h => ?_)
  · obtain ⟨p, num, ws, i, rfl, _⟩ := h
    rfl
  · obtain ⟨p, num, ws, i, rfl, hW, ac⟩ := h
    have hr0 : Room L (A.deeper (envOfC "read_one" (defScope sOne) s0.heap.objs.size D.f cdv)) := hr.mono (by omega)
    have hr2 : Room (L + 2) (A.deeper (envOfC "read_one" (defScope sOne) s0.heap.objs.size D.f cdv)) := hr.mono (by omega)
    have hrI : Room 2 (A.deeper (envOfC "read_one" (defScope sOne) s0.heap.objs.size D.f cdv)) := hr.mono (by omega)
    refine ⟨_, pss_cons (ps_if (pt_val (pe_meth (pv 0) C.cl T.mI T.GI hrI T.bI .nil (passAny (E := E)) (pa_cons pe_str pa_nil))) (pss_one (ps_ret (pe_tup (pa_cons pe_str (pa_cons (pe_call GO hr0 rfl D.m D.F.kp D.b .nil (passes_call (takes_of rfl rfl rfl rfl) fun _ _ _ _ h => h) (pa_cons (pv 0) pa_nil)) pa_nil))))) pss_nil)
      (pss_cons (ps_if (pt_val (pe_meth (pv 0) C.cl T.mI T.GI hrI T.bI .nil (passAny (E := E)) (pa_cons pe_str pa_nil))) (pss_one (ps_ret (pe_tup (pa_cons pe_str pa_nil)))) pss_nil)
      (pss_cons (ps_if (pt_val (pe_meth (pv 0) C.cl T.mI T.GI hrI T.bI .nil (passAny (E := E)) (pa_cons pe_str pa_nil))) (pss_one (ps_ret (pe_tup (pa_cons pe_str (pa_cons (pe_methR (pv 0) C.cl T.mT T.FT (hr.mono (by omega)) (passes_call (takes_of rfl rfl rfl rfl) fun _ _ _ _ h => h) (pa_cons (pe_glob (v := .str "a name") rfl gA ⟨_, rfl⟩) pa_nil)) pa_nil))))) pss_nil)
      (pss_cons (ps_asg (pe_call GE hr2 rfl DE.m DE.F.kp DE.b .nil (passes_call (takes_of rfl rfl rfl rfl) fun _ _ _ _ h => h) (pa_cons (pv 0) pa_nil)) (pg_tup rfl (pgs_cons (pg_name (i := 1) scOne.nd rfl (.inl rfl)) (pgs_cons (pg_name (i := 2) scOne.nd rfl (.inl rfl)) pgs_nil))))
      (pss_one (ps_ret (pe_ifExp (pt_val (pv 1)) (pe_call GC hr rfl DC.m DC.F.kp DC.b .nil (passes_call (takes_of rfl rfl rfl rfl) fun _ _ _ _ h => h) (pa_cons (pv 0) (pa_cons (pv 2) pa_nil))) (pv 2))))))), ?_⟩
    unfold oneS at ac
    refine q_pyIf (py_test (py_takeIf rfl ev_c hW)) ac (Fr.refl p H) (fun j ac H1 f1 _ hW1 => ?_) (fun j ac H1 f1 _ hW1 => ?_)
    · simp only [if_true] at ac
      exact s_pyRet (tup2 ev_c hW1 fun H2 e2 hW2 => py_call rfl hW2) ac f1 rfl
    simp only [Bool.false_eq_true, if_false] at ac
    refine q_pyIf (py_test (py_takeIf rfl ev_c hW1)) ac f1 (fun j ac H2 f2 _ hW2 => ?_) (fun j ac H2 f2 _ hW2 => ?_)
    · simp only [if_true] at ac
      refine s_pyRet (x := told (.tuple [.str "yes"]) j) (py_is (py_tup (py_cons (d := .str "yes") ev_c hW2 dt_str fun H' e' hW' => py_nil hW') ?_) rfl) ac f2 rfl
      intro a j e
      cases e
      show 1 ≤ 100000
      decide
    simp only [Bool.false_eq_true, if_false] at ac
    refine q_pyIf (py_test (py_takeIf rfl ev_c hW2)) ac f2 (fun j ac H3 f3 _ hW3 => ?_) (fun j ac H3 f3 _ hW3 => ?_)
    · simp only [if_true] at ac
      refine s_pyRet (tup2 ev_c hW3 fun H4 e4 hW4 => py_map (py_take (ks := ["a name"]) rfl (ea_cons ev_c ea_nil) hW4) fun H v a r => ?_) ac f3 rfl
      cases r
      exact dt_str
    simp only [Bool.false_eq_true, if_false] at ac
    refine q_pyTup2 (py_call (m := eitherM pt br) rfl hW3) ac f3 fun bd j ac u H4 f4 _ hW4 hu => ?_
    obtain ⟨b, d⟩ := bd
    refine s_pyRet (py_ifB (b := b) (et_B (ev_var rfl)) (fun hb H5 e5 => ?_) (fun hb H5 e5 => ?_)) ac f4 rfl
    · subst hb
      exact py_call2 (m := compM pt) rfl (py_var rfl (hW4.ex e5) (DT.tf (TF.ex e5) _ _ hu))
    · subst hb
      exact py_var rfl (hW4.ex e5) (DT.tf (TF.ex e5) _ _ hu)
end
end Prs
set_option Elab.async false
set_option linter.all false
set_option maxRecDepth 100000
set_option maxHeartbeats 4000000
namespace Prs
open PySem PySem.Spec PyProof.Rows L2 Evl
abbrev sDeed : Stmt := top 44
abbrev sDeeds : Stmt := top 45
abbrev sGoals : Stmt := top 46
abbrev sWhen : Stmt := top 47
abbrev sMove : Stmt := top 48
abbrev sSigned : Stmt := top 49
abbrev sFact : Stmt := top 50
/-! ### the mirror -/
def deedM (tm : Rd' PyData) (ws : List Wd) (i : Nat) : Res PyData :=
  andThen (takeM ws ["set", "raise", "say"] i) fun wd j => andThen (takeM ws ["a name"] j) fun nm j =>
    if decide (V.str wd = V.str "raise") then told (.tuple [.str "raise", .str nm]) j else mapR (fun e => PyData.tuple [.str wd, .str nm, e]) (tm ws j)
def listGo (rd : Rd' PyData) (ws : List Wd) : Nat → List PyData → Nat → Res PyData
  | 0, _, _ => none
  | n + 1, ds, i => andThen (takeIfM ws "," i) fun b j => if b then andThen (rd ws j) fun d j => (if ds.length < 50000 then listGo rd ws n (ds ++ [d]) j else none) else told (.tuple ds) j
def listM (rd : Rd' PyData) (ws : List Wd) (i : Nat) : Res PyData := andThen (rd ws i) fun d j => listGo rd ws (ws.length + 1) [d] j
def nameM (ws : List Wd) (i : Nat) : Res PyData := mapR PyData.str (takeM ws ["a name"] i)
def intM (x : Res Str) : Res Int := andThen x fun w j => match numM w with
  | none => none
  | some k => told k j
def numbM (ws : List Wd) (i : Nat) : Res Int := intM (takeM ws ["a number"] i)
def whenM (ws : List Wd) (i : Nat) : Res PyData :=
  andThen (takeM ws ["on", "after", "done"] i) fun wd j => if decide (V.str wd = V.str "on") then mapR (fun e => PyData.tuple [.str "on", e]) (nameM ws j)
    else if decide (V.str wd = V.str "after") then mapR (fun e => PyData.tuple [.str "after", e]) (mapR PyData.int (numbM ws j)) else told (.tuple [.str "done"]) j
def optM (k : Str) (rd : Rd' PyData) (d0 : PyData) (ws : List Wd) (i : Nat) : Res PyData := andThen (takeIfM ws k i) fun b j => if b then rd ws j else told d0 j
def moveM (gd dd : Rd' PyData) (ws : List Wd) (i : Nat) : Res PyData :=
  andThen (whenM ws i) fun wn j => andThen (optM "if" gd (.tuple [.str "yes"]) ws j) fun g j => andThen (optM "do" dd (.tuple []) ws j) fun d j => andThen (optM "to" (listM nameM) (.tuple []) ws j) fun gl j => told (.tuple [wn, g, d, gl]) j
def signedM (ws : List Wd) (i : Nat) : Res PyData := andThen (takeIfM ws "-" i) fun b j => if b then mapR PyData.int (mapR (fun k => -k) (numbM ws j)) else mapR PyData.int (numbM ws j)
def factM (ws : List Wd) (i : Nat) : Res PyData :=
  andThen (takeM ws ["a name"] i) fun nm j => andThen (signedM ws j) fun lo j => andThen (signedM ws j) fun hi j => mapR (fun e => PyData.tuple [.str nm, lo, hi, e]) (signedM ws j)
section
variable {P : Program} {w : World} {K : PySem.W.Frag} {mg : Str → Option Value} {base : Heap} {C : Cn P w K mg base}
section
variable {p : Addr} {num : Nm} {ws : List Wd} {E : XK} {σ : L2.St} {H H1 : Hp} {α α2 α3 β γ δ : Type} {D : Ends} {tz tu : TS} {Q : VK} {R : Hp → V → α → Prop}
def RI : Hp → V → Int → Prop := fun _ v a => v = .int a
theorem py_name {ta : TA} {i : Nat} (h0 : σ[0]? = some (some (.ref p))) (h : EvA ta σ H [.str "a name"]) (hW : WAt C.W H p num ws i) : Py C p num ws E (tMethR C.W "take" (spTake C) E (tVar 0) ta) σ H RD (nameM ws i) := py_map (py_take (ks := ["a name"]) h0 h hW) fun H v a r => by
  cases r
  exact dt_str
theorem py_int {t : TE} {x : Res Str} (h : Py C p num ws E t σ H RStr x) : Py C p num ws E (tCB (fun xs H Q => ∃ a n, xs = [.str a] ∧ PySem.intText? a = some n ∧ a.length ≤ 640 ∧ Q (.int n) H) (tCons t tNil)) σ H RI (intM x) := fun Q ac => h _ (by
  match x, ac with
  | some (.inl c), ac => exact ac
  | some (.inr (a, j)), ac =>
    intro v H' f x r
    cases r
    have ac : Acc C p num ws H Q E RI (match numM a with | none => none | some k => told k j) := ac
    cases hn : numM a with
    | none =>
      rw [hn] at ac
      exact ac.elim
    | some k =>
      rw [hn] at ac
      unfold numM at hn
      split at hn
      · rename_i hl
        exact ⟨a, k, rfl, hn, hl, ac _ H' f x rfl⟩
      · cases hn)
theorem py_neg {t : TE} {x : Res Int} (h : Py C p num ws E t σ H RI x) : Py C p num ws E (tUn (rU fun i => .int (-i)) t) σ H RI (mapR (fun k => -k) x) := fun Q ac => h _ (by
  match x, ac with
  | some (.inl c), ac => exact ac
  | some (.inr (a, j)), ac => exact fun v H' f x r => ⟨a, r, ac _ H' f x rfl⟩)
theorem py_dint {t : TE} {x : Res Int} (h : Py C p num ws E t σ H RI x) : Py C p num ws E t σ H RD (mapR PyData.int x) := py_map h fun H v a r => by
  cases r
  exact dt_int
/-- if words.take_if(k): x = .. -/
theorem q_opt {t : TE} {tt : TT} {k : Str} {kk i : Nat} {rd : Rd' PyData} {d0 : PyData} {v0 : V} {f : PyData → Nat → Res α} (ht : Py C p num ws E tt σ H1 REq (takeIfM ws k i)) (h : ∀ H2 j, WAt C.W H2 p num ws j → Py C p num ws E t σ H2 RD (rd ws j)) (hd : DT H1 d0 v0) (hs : σ.set kk (some v0) = σ) (hW : WAt C.W H1 p num ws i)
    (ac : Acc C p num ws H Q E R (andThen (optM k rd d0 ws i) f)) (fr : Fr p H H1) (n : ∀ d j, Acc C p num ws H Q E R (f d j) → ∀ v H2, Fr p H H2 → Fr p H1 H2 → WAt C.W H2 p num ws j → DT H2 d v → tz D (σ.set kk (some v)) H2) :
    Evl.tCut (tIfS tt (tAsg t (gName kk)) tNext) tz D σ H1 := by
  refine Evl.q_cut (M := fun σ' H' => ∃ d v j, σ' = σ.set kk (some v) ∧ Fr p H H' ∧ Fr p H1 H' ∧ WAt C.W H' p num ws j ∧ DT H' d v ∧ Acc C p num ws H Q E R (f d j)) ?_ ?_
  · have e : andThen (optM k rd d0 ws i) f = andThen (takeIfM ws k i) fun b j => andThen (if b then rd ws j else told d0 j) f := by
      unfold optM
      match takeIfM ws k i with
      | none => rfl
      | some (.inl c) => rfl
      | some (.inr (a, j)) => rfl
    rw [e] at ac
    refine ht _ (Acc.bind (R2 := REq) ac fr fun b j ac _ H2 f2 g2 hW2 r => ?_)
    cases r
    cases b with
    | true =>
      simp only [if_true] at ac ⊢
      exact s_py (h H2 j hW2) ac f2 fun d j ac v H3 f3 g3 hW3 r => ⟨d, v, j, rfl, f3, g2.trans g3, hW3, r, ac⟩
    | false =>
      simp only [Bool.false_eq_true, if_false] at ac ⊢
      exact ⟨d0, v0, j, hs.symm, f2, g2, hW2, DT.tf (hW.tf g2) _ _ hd, ac⟩
  · rintro σ' H' ⟨d, v, j, rfl, f2, g2, hW2, hd2, ac⟩
    exact n d j ac v H' f2 g2 hW2 hd2
theorem dts_snoc {H : Hp} {d : PyData} {v : V} (h : DT H d v) : ∀ {ds : List PyData} {vs : List V}, DTs H ds vs → DTs H (ds ++ [d]) (vs ++ [v])
  | [], vs, h2 => by
    unfold DTs at h2
    subst h2
    exact dts_cons h dts_nil
  | e :: ds, vs, h2 => by
    unfold DTs at h2
    obtain ⟨v1, r, rfl, h3, h4⟩ := h2
    exact dts_cons h3 (dts_snoc h h4)
theorem WAt.upd {i : Nat} {l : Addr} {o : HO} (h : WAt C.W H p num ws i) (hp : l ≠ p) (hw : num.off l) (ht : ∀ xs, H l ≠ some (.tup xs)) : WAt C.W (upd H l o) p num ws i := by
  obtain ⟨dx, ts, a, b, c⟩ := h
  exact ⟨dx, ts, by rw [upd_ne (Ne.symm hp)]; exact a, by rw [upd_ne (Ne.symm hw.1)]; exact b, by rw [upd_ne (Ne.symm hw.2)]; exact c.1, c.2⟩
theorem WAt.fresh {i : Nat} {l : Addr} (h : WAt C.W H p num ws i) (hl : H l = none) : l ≠ p ∧ num.off l := by
  obtain ⟨dx, ts, a, b, c⟩ := h
  exact ⟨ne_old a hl, ne_old b hl, ne_old c.1 hl⟩
theorem Fr.mut {p l : Addr} {H H' : Hp} {o : HO} (f : Fr p H H') (hl : H l = none) : Fr p H (L2.upd H' l o) := fun b u n hb => by
  rw [upd_ne (ne_of_none hb hl)]
  exact f b u n hb
/-- xs = [..]; while words.take_if(","): xs.append(..); return tuple(xs) -/
theorem s_list {t : TE} {tt : TT} {rd : Rd' PyData} {i : Nat} {t1 : TE} (h1 : Py C p num ws E t1 [some (.ref p), none] H RD (rd ws i)) (ht : ∀ H2 j l, WAt C.W H2 p num ws j → Py C p num ws E tt [some (.ref p), some (.ref l)] H2 REq (takeIfM ws "," j)) (h : ∀ H2 j l, WAt C.W H2 p num ws j → Py C p num ws E t [some (.ref p), some (.ref l)] H2 RD (rd ws j))
    (ac : Acc C p num ws H Q E RD (listM rd ws i)) (e : D.rt = Q) :
    tSeq (tAsg (tLst (tCons t1 tNil)) (gName 1)) (tSeq (tWhile tt (tDrop (tBM K "list" rAppend (tVar 1) (tCons t tNil)))) (tRet (tCB (fun xs H Q => ∃ p ys, xs = [.ref p] ∧ ((SqL K H p ys ∧ ∀ l, H l = none → Q (.ref l) (upd H l (.tup ys))) ∨ (SqT K H p ys ∧ Q (.ref p) H))) (tCons (tVar 1) tNil)))) D [some (.ref p), none] H := by
  refine h1 _ (Acc.bind (R2 := RD) ac (Fr.refl p H) fun d j ac v H1 f1 _ hW1 hd => ⟨by show 1 ≤ sizeLine; exact sz_of (by decide), fun l hl => ?_⟩)
  have hl0 : H l = none := by
    cases h : H l with
    | none => rfl
    | some o =>
      by_cases z : l = p
      · exact absurd z (hW1.fresh hl).1
      · rw [f1 l o z h] at hl
        cases hl
  have e1 : Ex H1 (upd H1 l (.lst [v])) := fr_new hl
  have hlp := (hW1.fresh hl).1
  have hlw := (hW1.fresh hl).2
  refine ⟨fun m σ' H' => ∃ ds vs i, Fr p H H' ∧ WAt C.W H' p num ws i ∧ H' l = some (.lst vs) ∧ DTs H' ds vs ∧ σ' = [some (.ref p), some (.ref l)] ∧ Acc C p num ws H Q E RD (listGo rd ws m ds i), ⟨ws.length + 1, [d], [v], j, f1.trans (Fr.ex e1), hW1.ex e1, upd_same, dts_cons (DT.tf (TF.ex e1) _ _ hd) dts_nil, rfl, ac⟩, ?_⟩
  rintro m σ' H' ⟨ds, vs, i, f2, hW2, hl2, hds, rfl, ac⟩
  cases m with
  | zero => exact ac.elim
  | succ m =>
    unfold listGo at ac
    refine ht H' i l hW2 _ (Acc.bind (R2 := REq) ac f2 fun b j ac _ H3 f3 g3 hW3 r => ?_)
    cases r
    have hl3 := g3 l _ hlp hl2
    have hds3 := DTs.tf (hW2.tf g3) _ _ hds
    cases b with
    | true =>
      simp only [if_true] at ac ⊢
      refine ⟨fun σ2 H2 => ∃ ds vs i, Fr p H H2 ∧ WAt C.W H2 p num ws i ∧ H2 l = some (.lst vs) ∧ DTs H2 ds vs ∧ σ2 = [some (.ref p), some (.ref l)] ∧ Acc C p num ws H Q E RD (listGo rd ws m ds i), fun σ2 H2 z => ⟨m, Nat.lt_succ_self _, z⟩, ?_⟩
      refine ⟨.ref l, rfl, Or.inl ⟨rfl, vs, sq_of hl3⟩, h H3 j l hW3 _ (Acc.bind (R2 := RD) ac f3 fun d2 j2 ac v2 H4 f4 g4 hW4 hd2 => ?_)⟩
      by_cases hz : ds.length < 50000
      · rw [if_pos hz] at ac
        have hl4 := g4 l _ hlp hl3
        have hds4 := DTs.tf (hW3.tf g4) _ _ hds3
        have ht : ∀ xs, H4 l ≠ some (.tup xs) := fun xs z => by
          rw [hl4] at z
          cases z
        have tf : TF H4 (L2.upd H4 l (.lst (vs ++ [v2]))) := fun b xs hb => by
          have : b ≠ l := fun z => by
            rw [z] at hb
            exact ht _ hb
          rw [upd_ne this]
          exact hb
        exact ⟨l, vs, v2, rfl, rfl, hl4, sz_lt (by rw [DTs.len hds]; omega), ds ++ [d2], vs ++ [v2], j2, f4.mut hl0, hW4.upd hlp hlw ht, upd_same, DTs.tf tf _ _ (dts_snoc hd2 hds4), rfl, ac⟩
      · rw [if_neg hz] at ac
        exact ac.elim
    | false =>
      simp only [Bool.false_eq_true, if_false] at ac ⊢
      refine ⟨.ref l, rfl, l, vs, rfl, Or.inl ⟨sq_of hl3, fun q hq => ?_⟩⟩
      show D.rt _ _
      rw [e]
      exact ac _ _ (f3.trans (Fr.ex (fr_new hq))) (hW3.ex (fr_new hq)) (dt_tup upd_same (DTs.tf (TF.ex (fr_new hq)) _ _ hds3))
end
/-! ### read_deed -/
theorem scDeed : FnScope ["words", "word", "name"] ["words"] (defScope sDeed) := ⟨rfl, rfl, rfl, by decide +kernel, rfl, by decide +kernel, by decide +kernel⟩
theorem ok_deed {tm : Rd' PyData} {L : Nat} (hL : 4 ≤ L) (T : Tl C) (D : Df K mg "read_deed" sDeed ["words"]) (DT' : Df K mg "read_term" sTerm ["words"]) (GT : FnOk P w K mg base (L2.CX P w) L DT'.f DT'.fd ["words"] (spG C RD tm)) :
    FnOk P w K mg base (L2.CX P w) (L + 1) D.f D.fd ["words"] (spG C RD (deedM tm)) := by
  obtain ⟨_, gA⟩ := T.gA
  refine D.F.okX scDeed (fun vs H Q E h => ?_) (fun cdv A outer s0 H vs Q E hr h => ?_)
  · obtain ⟨p, num, ws, i, rfl, _⟩ := h
    rfl
  · obtain ⟨p, num, ws, i, rfl, hW, ac⟩ := h
    refine ⟨_, pss_cons (ps_set (i := 1) scDeed.nd rfl (.inl rfl) (pe_methR (pv 0) C.cl T.mT T.FT (hr.mono hL) (passes_call (takes_of rfl rfl rfl rfl) fun _ _ _ _ h => h) (pa_cons pe_str (pa_cons pe_str (pa_cons pe_str pa_nil)))))
      (pss_cons (ps_set (i := 2) scDeed.nd rfl (.inl rfl) (pe_methR (pv 0) C.cl T.mT T.FT (hr.mono hL) (passes_call (takes_of rfl rfl rfl rfl) fun _ _ _ _ h => h) (pa_cons (pe_glob (v := .str "a name") rfl gA ⟨_, rfl⟩) pa_nil)))
      (pss_cons (ps_if (pt_cmpR op_eq (pv 1) pe_str (nomark _)) (pss_one (ps_ret (pe_tup (pa_cons pe_str (pa_cons (pv 2) pa_nil))))) pss_nil)
      (pss_one (ps_ret (pe_tup (pa_cons (pv 1) (pa_cons (pv 2) (pa_cons (pe_call GT hr rfl DT'.m DT'.F.kp DT'.b .nil (passes_call (takes_of rfl rfl rfl rfl) fun _ _ _ _ h => h) (pa_cons (pv 0) pa_nil)) pa_nil)))))))), ?_⟩
    refine q_py (py_take (ks := ["set", "raise", "say"]) rfl (ea_cons ev_c (ea_cons ev_c (ea_cons ev_c ea_nil))) hW) ac (Fr.refl p H) fun wd j ac v H1 f1 _ hW1 r => ?_
    subst r
    refine q_py (py_take (ks := ["a name"]) rfl (ea_cons ev_c ea_nil) hW1) ac f1 fun nm j ac v H2 f2 _ hW2 r => ?_
    subst r
    refine q_when (b := decide (V.str wd = V.str "raise")) (et_test (ev_op (ev_var rfl) ev_c (rv_eq rfl))) (fun hb H3 e3 => ?_) (fun hb H3 e3 => ?_)
    · simp only [hb, if_true] at ac
      refine s_pyRet (x := told (.tuple [.str "raise", .str nm]) j) (py_is (py_tup (py_cons (v := .str "raise") (d := .str "raise") ev_c (hW2.ex e3) dt_str fun H' e' hW' => py_cons (v := .str nm) (d := .str nm) (ev_var rfl) hW' dt_str fun H' e' hW' => py_nil hW') ?_) rfl) ac (f2.trans (Fr.ex e3)) rfl
      intro a j e
      cases e
      show 2 ≤ 100000
      decide
    simp only [hb, Bool.false_eq_true, if_false] at ac
    exact s_pyRet (tup3 (ev_var rfl) (fun _ _ => ev_var rfl) dt_str (hW2.ex e3) fun H3 e3 hW3 => py_call (m := tm) rfl hW3) ac (f2.trans (Fr.ex e3)) rfl
/-! ### read_deeds, read_goals -/
theorem scDeeds : FnScope ["words", "deeds"] ["words"] (defScope sDeeds) := ⟨rfl, rfl, rfl, by decide +kernel, rfl, by decide +kernel, by decide +kernel⟩
theorem ok_deeds {dm : Rd' PyData} {L : Nat} (hL : 4 ≤ L) (T : Tl C) (D : Df K mg "read_deeds" sDeeds ["words"]) (DD : Df K mg "read_deed" sDeed ["words"]) (GD : FnOk P w K mg base (L2.CX P w) L DD.f DD.fd ["words"] (spG C RD dm)) (gT : mg "tuple" = none) :
    FnOk P w K mg base (L2.CX P w) (L + 1) D.f D.fd ["words"] (spG C RD (listM dm)) := by
  refine D.F.okX scDeeds (fun vs H Q E h => ?_) (fun cdv A outer s0 H vs Q E hr h => ?_)
  · obtain ⟨p, num, ws, i, rfl, _⟩ := h
    rfl
  · obtain ⟨p, num, ws, i, rfl, hW, ac⟩ := h
    refine ⟨_, pss_cons (ps_set (i := 1) scDeeds.nd rfl (.inl rfl) (pe_lst (pa_cons (pe_call GD hr rfl DD.m DD.F.kp DD.b .nil (passes_call (takes_of rfl rfl rfl rfl) fun _ _ _ _ h => h) (pa_cons (pv 0) pa_nil)) pa_nil)))
      (pss_cons (ps_while (passes_of rfl) (pt_val (pe_meth (pv 0) C.cl T.mI T.GI (hr.mono (by omega)) T.bI .nil (passAny (E := E)) (pa_cons pe_str pa_nil)))
        (pss_one (ps_expr (pe_bm PySem.F.plainAttrs_list PySem.F.slot_list_append PySem.F.type_list_append mt_append (pv 1) (pa_cons (pe_call GD hr rfl DD.m DD.F.kp DD.b .nil (passes_call (takes_of rfl rfl rfl rfl) fun _ _ _ _ h => h) (pa_cons (pv 0) pa_nil)) pa_nil)))))
      (pss_one (ps_ret (pe_callTy call_tuple_of rfl gT rfl (pa_cons (pv 1) pa_nil))))), ?_⟩
    exact s_list (py_call (m := dm) rfl hW) (fun H2 j l hW2 => py_test (py_takeIf rfl ev_c hW2)) (fun H2 j l hW2 => py_call (m := dm) rfl hW2) ac rfl
theorem scGoals : FnScope ["words", "goals"] ["words"] (defScope sGoals) := ⟨rfl, rfl, rfl, by decide +kernel, rfl, by decide +kernel, by decide +kernel⟩
theorem ok_goals (T : Tl C) (D : Df K mg "read_goals" sGoals ["words"]) (gT : mg "tuple" = none) : FnOk P w K mg base (L2.CX P w) 5 D.f D.fd ["words"] (spG C RD (listM nameM)) := by
  obtain ⟨_, gA⟩ := T.gA
  refine D.F.okX scGoals (fun vs H Q E h => ?_) (fun cdv A outer s0 H vs Q E hr h => ?_)
  · obtain ⟨p, num, ws, i, rfl, _⟩ := h
    rfl
  · obtain ⟨p, num, ws, i, rfl, hW, ac⟩ := h
    refine ⟨_, pss_cons (ps_set (i := 1) scGoals.nd rfl (.inl rfl) (pe_lst (pa_cons (pe_methR (pv 0) C.cl T.mT T.FT hr (passes_call (takes_of rfl rfl rfl rfl) fun _ _ _ _ h => h) (pa_cons (pe_glob (v := .str "a name") rfl gA ⟨_, rfl⟩) pa_nil)) pa_nil)))
      (pss_cons (ps_while (passes_of rfl) (pt_val (pe_meth (pv 0) C.cl T.mI T.GI (hr.mono (by omega)) T.bI .nil (passAny (E := E)) (pa_cons pe_str pa_nil)))
        (pss_one (ps_expr (pe_bm PySem.F.plainAttrs_list PySem.F.slot_list_append PySem.F.type_list_append mt_append (pv 1) (pa_cons (pe_methR (pv 0) C.cl T.mT T.FT hr (passes_call (takes_of rfl rfl rfl rfl) fun _ _ _ _ h => h) (pa_cons (pe_glob (v := .str "a name") rfl gA ⟨_, rfl⟩) pa_nil)) pa_nil)))))
      (pss_one (ps_ret (pe_callTy call_tuple_of rfl gT rfl (pa_cons (pv 1) pa_nil))))), ?_⟩
    exact s_list (py_name rfl (ea_cons ev_c ea_nil) hW) (fun H2 j l hW2 => py_test (py_takeIf rfl ev_c hW2)) (fun H2 j l hW2 => py_name rfl (ea_cons ev_c ea_nil) hW2) ac rfl
/-! ### read_when -/
theorem scWhen : FnScope ["words", "word"] ["words"] (defScope sWhen) := ⟨rfl, rfl, rfl, by decide +kernel, rfl, by decide +kernel, by decide +kernel⟩
theorem ok_when (T : Tl C) (D : Df K mg "read_when" sWhen ["words"]) : FnOk P w K mg base (L2.CX P w) 5 D.f D.fd ["words"] (spG C RD whenM) := by
  obtain ⟨_, gA⟩ := T.gA
  obtain ⟨_, gN⟩ := T.gN
  refine D.F.okX scWhen (fun vs H Q E h => ?_) (fun cdv A outer s0 H vs Q E hr h => ?_)
  · obtain ⟨p, num, ws, i, rfl, _⟩ := h
    rfl
  · obtain ⟨p, num, ws, i, rfl, hW, ac⟩ := h
    refine ⟨_, pss_cons (ps_set (i := 1) scWhen.nd rfl (.inl rfl) (pe_methR (pv 0) C.cl T.mT T.FT hr (passes_call (takes_of rfl rfl rfl rfl) fun _ _ _ _ h => h) (pa_cons pe_str (pa_cons pe_str (pa_cons pe_str pa_nil)))))
      (pss_cons (ps_if (pt_cmpR op_eq (pv 1) pe_str (nomark _)) (pss_one (ps_ret (pe_tup (pa_cons pe_str (pa_cons (pe_methR (pv 0) C.cl T.mT T.FT hr (passes_call (takes_of rfl rfl rfl rfl) fun _ _ _ _ h => h) (pa_cons (pe_glob (v := .str "a name") rfl gA ⟨_, rfl⟩) pa_nil)) pa_nil))))) pss_nil)
      (pss_cons (ps_if (pt_cmpR op_eq (pv 1) pe_str (nomark _)) (pss_one (ps_ret (pe_tup (pa_cons pe_str (pa_cons (pe_callTy call_int_str rfl T.gI rfl (pa_cons (pe_methR (pv 0) C.cl T.mT T.FT hr (passes_call (takes_of rfl rfl rfl rfl) fun _ _ _ _ h => h) (pa_cons (pe_glob (v := .str "a number") rfl gN ⟨_, rfl⟩) pa_nil)) pa_nil)) pa_nil))))) pss_nil)
      (pss_one (ps_ret (pe_tup (pa_cons pe_str pa_nil)))))), ?_⟩
    refine q_py (py_take (ks := ["on", "after", "done"]) rfl (ea_cons ev_c (ea_cons ev_c (ea_cons ev_c ea_nil))) hW) ac (Fr.refl p H) fun wd j ac v H1 f1 _ hW1 r => ?_
    subst r
    refine q_when (b := decide (V.str wd = V.str "on")) (et_test (ev_op (ev_var rfl) ev_c (rv_eq rfl))) (fun hb H2 e2 => ?_) (fun hb H2 e2 => ?_)
    · simp only [hb, if_true] at ac
      exact s_pyRet (tup2 ev_c (hW1.ex e2) fun H4 e4 hW4 => py_name rfl (ea_cons ev_c ea_nil) hW4) ac (f1.trans (Fr.ex e2)) rfl
    simp only [hb, Bool.false_eq_true, if_false] at ac
    have f2 := f1.trans (Fr.ex e2)
    have hW2 := hW1.ex e2
    refine q_when (b := decide (V.str wd = V.str "after")) (et_test (ev_op (ev_var rfl) ev_c (rv_eq rfl))) (fun hb H2 e2 => ?_) (fun hb H2 e2 => ?_)
    · simp only [hb, if_true] at ac
      exact s_pyRet (tup2 ev_c (hW2.ex e2) fun H4 e4 hW4 => py_dint (py_int (py_take (ks := ["a number"]) rfl (ea_cons ev_c ea_nil) hW4))) ac (f2.trans (Fr.ex e2)) rfl
    simp only [hb, Bool.false_eq_true, if_false] at ac
    refine s_pyRet (x := told (.tuple [.str "done"]) j) (py_is (py_tup (py_cons (d := .str "done") ev_c (hW2.ex e2) dt_str fun H' e' hW' => py_nil hW') ?_) rfl) ac (f2.trans (Fr.ex e2)) rfl
    intro a j e
    cases e
    show 1 ≤ 100000
    decide
/-! ### read_signed, read_fact -/
theorem scSigned : FnScope ["words"] ["words"] (defScope sSigned) := ⟨rfl, rfl, rfl, by decide +kernel, rfl, by decide +kernel, by decide +kernel⟩
theorem ok_signed (T : Tl C) (D : Df K mg "read_signed" sSigned ["words"]) : FnOk P w K mg base (L2.CX P w) 5 D.f D.fd ["words"] (spG C RD signedM) := by
  obtain ⟨_, gN⟩ := T.gN
  refine D.F.okX scSigned (fun vs H Q E h => ?_) (fun cdv A outer s0 H vs Q E hr h => ?_)
  · obtain ⟨p, num, ws, i, rfl, _⟩ := h
    rfl
  · obtain ⟨p, num, ws, i, rfl, hW, ac⟩ := h
    refine ⟨_, pss_cons (ps_if (pt_val (pe_meth (pv 0) C.cl T.mI T.GI (hr.mono (by decide)) T.bI .nil (passAny (E := E)) (pa_cons pe_str pa_nil))) (pss_one (ps_ret (pe_un un_neg (pe_callTy call_int_str rfl T.gI rfl (pa_cons (pe_methR (pv 0) C.cl T.mT T.FT hr (passes_call (takes_of rfl rfl rfl rfl) fun _ _ _ _ h => h) (pa_cons (pe_glob (v := .str "a number") rfl gN ⟨_, rfl⟩) pa_nil)) pa_nil))))) pss_nil)
      (pss_one (ps_ret (pe_callTy call_int_str rfl T.gI rfl (pa_cons (pe_methR (pv 0) C.cl T.mT T.FT hr (passes_call (takes_of rfl rfl rfl rfl) fun _ _ _ _ h => h) (pa_cons (pe_glob (v := .str "a number") rfl gN ⟨_, rfl⟩) pa_nil)) pa_nil)))), ?_⟩
    refine q_pyIf (py_test (py_takeIf rfl ev_c hW)) ac (Fr.refl p H) (fun j ac H1 f1 _ hW1 => ?_) (fun j ac H1 f1 _ hW1 => ?_)
    · simp only [if_true] at ac
      exact s_pyRet (py_dint (py_neg (py_int (py_take (ks := ["a number"]) rfl (ea_cons ev_c ea_nil) hW1)))) ac f1 rfl
    · simp only [Bool.false_eq_true, if_false] at ac
      exact s_pyRet (py_dint (py_int (py_take (ks := ["a number"]) rfl (ea_cons ev_c ea_nil) hW1))) ac f1 rfl
end
end Prs
set_option Elab.async false
set_option linter.all false
set_option maxRecDepth 100000
set_option maxHeartbeats 4000000
namespace Prs
open PySem PySem.Spec PyProof.Rows L2 Evl
section
variable {P : Program} {w : World} {K : PySem.W.Frag} {mg : Str → Option Value} {base : Heap} {C : Cn P w K mg base}
section
variable {p : Addr} {num : Nm} {ws : List Wd} {E : XK} {σ : L2.St} {H H1 : Hp}
/-- four names' things -/
theorem py_tup4 {t4 : TE} {k1 k2 k3 : Nat} {v1 v2 v3 : V} {d1 d2 d3 : PyData} {i : Nat} {x : Res PyData} (h1 : σ[k1]? = some (some v1)) (h2 : σ[k2]? = some (some v2)) (h3 : σ[k3]? = some (some v3)) (hW : WAt C.W H p num ws i) (e1 : DT H d1 v1) (e2 : DT H d2 v2) (e3 : DT H d3 v3)
    (h4 : ∀ H', Ex H H' → WAt C.W H' p num ws i → Py C p num ws E t4 σ H' RD x) : Py C p num ws E (tTup (tCons (tVar k1) (tCons (tVar k2) (tCons (tVar k3) (tCons t4 tNil))))) σ H RD (mapR (fun e => PyData.tuple [d1, d2, d3, e]) x) := by
  refine py_is (py_tup (py_cons (d := d1) (ev_var h1) hW e1 fun H1 f1 hW1 => py_cons (d := d2) (ev_var h2) hW1 (DT.tf (TF.ex f1) _ _ e2) fun H2 f2 hW2 => py_cons (d := d3) (ev_var h3) hW2 (DT.tf (TF.ex f2) _ _ (DT.tf (TF.ex f1) _ _ e3)) fun H3 f3 hW3 => py_last (h4 H3 (Ex.trans (Ex.trans f1 f2) f3) hW3)) ?_) ?_
  · rw [mapR_mapR, mapR_mapR, mapR_mapR]
    exact mapR_len fun _ => by
      show 4 ≤ 100000
      decide
  · rw [mapR_mapR, mapR_mapR, mapR_mapR, mapR_mapR]
end
/-! ### read_fact -/
theorem scFact : FnScope ["words", "name", "low", "high"] ["words"] (defScope sFact) := ⟨rfl, rfl, rfl, by decide +kernel, rfl, by decide +kernel, by decide +kernel⟩
theorem ok_fact (T : Tl C) (D : Df K mg "read_fact" sFact ["words"]) (DS : Df K mg "read_signed" sSigned ["words"]) (GS : FnOk P w K mg base (L2.CX P w) 5 DS.f DS.fd ["words"] (spG C RD signedM)) : FnOk P w K mg base (L2.CX P w) 6 D.f D.fd ["words"] (spG C RD factM) := by
  obtain ⟨_, gA⟩ := T.gA
  refine D.F.okX scFact (fun vs H Q E h => ?_) (fun cdv A outer s0 H vs Q E hr h => ?_)
  · obtain ⟨p, num, ws, i, rfl, _⟩ := h
    rfl
  · obtain ⟨p, num, ws, i, rfl, hW, ac⟩ := h
    refine ⟨_, pss_cons (ps_set (i := 1) scFact.nd rfl (.inl rfl) (pe_methR (pv 0) C.cl T.mT T.FT (hr.mono (by decide)) (passes_call (takes_of rfl rfl rfl rfl) fun _ _ _ _ h => h) (pa_cons (pe_glob (v := .str "a name") rfl gA ⟨_, rfl⟩) pa_nil)))
      (pss_cons (ps_set (i := 2) scFact.nd rfl (.inl rfl) (pe_call GS hr rfl DS.m DS.F.kp DS.b .nil (passes_call (takes_of rfl rfl rfl rfl) fun _ _ _ _ h => h) (pa_cons (pv 0) pa_nil)))
      (pss_cons (ps_set (i := 3) scFact.nd rfl (.inl rfl) (pe_call GS hr rfl DS.m DS.F.kp DS.b .nil (passes_call (takes_of rfl rfl rfl rfl) fun _ _ _ _ h => h) (pa_cons (pv 0) pa_nil)))
      (pss_one (ps_ret (pe_tup (pa_cons (pv 1) (pa_cons (pv 2) (pa_cons (pv 3) (pa_cons (pe_call GS hr rfl DS.m DS.F.kp DS.b .nil (passes_call (takes_of rfl rfl rfl rfl) fun _ _ _ _ h => h) (pa_cons (pv 0) pa_nil)) pa_nil))))))))), ?_⟩
    refine q_py (py_take (ks := ["a name"]) rfl (ea_cons ev_c ea_nil) hW) ac (Fr.refl p H) fun nm j ac v H1 f1 _ hW1 r => ?_
    subst r
    refine q_py (py_call (m := signedM) (R := RD) rfl hW1) ac f1 fun lo j ac v H2 f2 _ hW2 r2 => ?_
    refine q_py (py_call (m := signedM) (R := RD) rfl hW2) ac f2 fun hi j ac v3 H3 f3 g3 hW3 r3 => ?_
    exact s_pyRet (py_tup4 rfl rfl rfl hW3 dt_str (DT.tf (hW2.tf g3) _ _ r2) r3 fun H4 e4 hW4 => py_call (m := signedM) rfl hW4) ac f3 rfl
/-! ### read_move -/
theorem scMove : FnScope ["words", "when", "guard", "deeds", "goals"] ["words"] (defScope sMove) := ⟨rfl, rfl, rfl, by decide +kernel, rfl, by decide +kernel, by decide +kernel⟩
theorem ok_move {gd dd : Rd' PyData} {L : Nat} (hL : 5 ≤ L) (T : Tl C) (D : Df K mg "read_move" sMove ["words"]) (DW : Df K mg "read_when" sWhen ["words"]) (DG : Df K mg "read_guard" sGuard ["words"]) (DD : Df K mg "read_deeds" sDeeds ["words"]) (DO : Df K mg "read_goals" sGoals ["words"])
    (GW : FnOk P w K mg base (L2.CX P w) 5 DW.f DW.fd ["words"] (spG C RD whenM)) (GG : FnOk P w K mg base (L2.CX P w) L DG.f DG.fd ["words"] (spG C RD gd)) (GD : FnOk P w K mg base (L2.CX P w) L DD.f DD.fd ["words"] (spG C RD dd)) (GO : FnOk P w K mg base (L2.CX P w) 5 DO.f DO.fd ["words"] (spG C RD (listM nameM))) :
    FnOk P w K mg base (L2.CX P w) (L + 1) D.f D.fd ["words"] (spG C RD (moveM gd dd)) := by
  refine D.F.okX scMove (fun vs H Q E h => ?_) (fun cdv A outer s0 H vs Q E hr h => ?_)
  · obtain ⟨p, num, ws, i, rfl, _⟩ := h
    rfl
  · obtain ⟨p, num, ws, i, rfl, hW, ac⟩ := h
    have hr5 : Room 5 (A.deeper (envOfC "read_move" (defScope sMove) s0.heap.objs.size D.f cdv)) := hr.mono hL
    have hrI : Room 2 (A.deeper (envOfC "read_move" (defScope sMove) s0.heap.objs.size D.f cdv)) := hr.mono (by omega)
    refine ⟨_, pss_cons (ps_set (i := 1) scMove.nd rfl (.inl rfl) (pe_call GW hr5 rfl DW.m DW.F.kp DW.b .nil (passes_call (takes_of rfl rfl rfl rfl) fun _ _ _ _ h => h) (pa_cons (pv 0) pa_nil)))
      (pss_cons (ps_asg (pe_tup (pa_cons (pe_tup (pa_cons pe_str pa_nil)) (pa_cons (pe_tup pa_nil) (pa_cons (pe_tup pa_nil) pa_nil)))) (pg_tup rfl (pgs_cons (pg_name (i := 2) scMove.nd rfl (.inl rfl)) (pgs_cons (pg_name (i := 3) scMove.nd rfl (.inl rfl)) (pgs_cons (pg_name (i := 4) scMove.nd rfl (.inl rfl)) pgs_nil)))))
      (Evl.pss_cut (ps_if (pt_val (pe_meth (pv 0) C.cl T.mI T.GI hrI T.bI .nil (passAny (E := E)) (pa_cons pe_str pa_nil))) (pss_one (ps_set (i := 2) scMove.nd rfl (.inl rfl) (pe_call GG hr rfl DG.m DG.F.kp DG.b .nil (passes_call (takes_of rfl rfl rfl rfl) fun _ _ _ _ h => h) (pa_cons (pv 0) pa_nil)))) pss_nil)
      (Evl.pss_cut (ps_if (pt_val (pe_meth (pv 0) C.cl T.mI T.GI hrI T.bI .nil (passAny (E := E)) (pa_cons pe_str pa_nil))) (pss_one (ps_set (i := 3) scMove.nd rfl (.inl rfl) (pe_call GD hr rfl DD.m DD.F.kp DD.b .nil (passes_call (takes_of rfl rfl rfl rfl) fun _ _ _ _ h => h) (pa_cons (pv 0) pa_nil)))) pss_nil)
      (Evl.pss_cut (ps_if (pt_val (pe_meth (pv 0) C.cl T.mI T.GI hrI T.bI .nil (passAny (E := E)) (pa_cons pe_str pa_nil))) (pss_one (ps_set (i := 4) scMove.nd rfl (.inl rfl) (pe_call GO hr5 rfl DO.m DO.F.kp DO.b .nil (passes_call (takes_of rfl rfl rfl rfl) fun _ _ _ _ h => h) (pa_cons (pv 0) pa_nil)))) pss_nil)
      (pss_one (ps_ret (pe_tup (pa_cons (pv 1) (pa_cons (pv 2) (pa_cons (pv 3) (pa_cons (pv 4) pa_nil))))))))))), ?_⟩
    refine q_py (py_call (m := whenM) (R := RD) rfl hW) ac (Fr.refl p H) fun wn j ac v1 H1 f1 _ hW1 r1 => ?_
    refine ⟨by show 1 ≤ sizeLine; exact sz_of (by decide), fun a1 n1 => ⟨by show 0 ≤ sizeLine; exact sz_of (by decide), fun a2 n2 => ⟨by show 0 ≤ sizeLine; exact sz_of (by decide), fun a3 n3 => ⟨by show 3 ≤ sizeLine; exact sz_of (by decide), fun a4 n4 => ⟨a4, _, rfl, st_of upd_same, rfl, _, _, rfl, _, _, rfl, _, _, rfl, rfl, ?_⟩⟩⟩⟩⟩
    have x1 : Ex H1 (L2.upd H1 a1 (.tup [.str "yes"])) := fr_new n1
    have x2 : Ex _ (L2.upd (L2.upd H1 a1 (.tup [.str "yes"])) a2 (.tup [])) := fr_new n2
    have x3 : Ex _ (L2.upd (L2.upd (L2.upd H1 a1 (.tup [.str "yes"])) a2 (.tup [])) a3 (.tup [])) := fr_new n3
    have x4 : Ex _ (L2.upd (L2.upd (L2.upd (L2.upd H1 a1 (.tup [.str "yes"])) a2 (.tup [])) a3 (.tup [])) a4 (.tup [.ref a1, .ref a2, .ref a3])) := fr_new n4
    have d1 : DT (L2.upd (L2.upd (L2.upd (L2.upd H1 a1 (.tup [.str "yes"])) a2 (.tup [])) a3 (.tup [])) a4 (.tup [.ref a1, .ref a2, .ref a3])) (.tuple [.str "yes"]) (.ref a1) := DT.tf (TF.ex x4) _ _ (DT.tf (TF.ex x3) _ _ (DT.tf (TF.ex x2) _ _ (dt_tup upd_same (dts_cons dt_str dts_nil))))
    have d2 : DT (L2.upd (L2.upd (L2.upd (L2.upd H1 a1 (.tup [.str "yes"])) a2 (.tup [])) a3 (.tup [])) a4 (.tup [.ref a1, .ref a2, .ref a3])) (.tuple []) (.ref a2) := DT.tf (TF.ex x4) _ _ (DT.tf (TF.ex x3) _ _ (dt_tup upd_same dts_nil))
    have d3 : DT (L2.upd (L2.upd (L2.upd (L2.upd H1 a1 (.tup [.str "yes"])) a2 (.tup [])) a3 (.tup [])) a4 (.tup [.ref a1, .ref a2, .ref a3])) (.tuple []) (.ref a3) := DT.tf (TF.ex x4) _ _ (dt_tup upd_same dts_nil)
    have x13 := Ex.trans (Ex.trans (Ex.trans x1 x2) x3) x4
    have dw := DT.tf (TF.ex x13) _ _ r1
    have hW3 := hW1.ex x13
    have f3 := f1.trans (Fr.ex x13)
    refine q_opt (rd := gd) (d0 := .tuple [.str "yes"]) (v0 := .ref a1) (py_test (py_takeIf rfl ev_c hW3)) (fun H2 j hW2 => py_call rfl hW2) d1 rfl hW3 ac f3 fun g j ac vg H4 f4 g4 hW4 rg => ?_
    refine q_opt (rd := dd) (d0 := .tuple []) (v0 := .ref a2) (py_test (py_takeIf rfl ev_c hW4)) (fun H2 j hW2 => py_call rfl hW2) (DT.tf (hW3.tf g4) _ _ d2) rfl hW4 ac f4 fun de j ac vd H5 f5 g5 hW5 rd' => ?_
    have g45 := g4.trans g5
    refine q_opt (rd := listM nameM) (d0 := .tuple []) (v0 := .ref a3) (py_test (py_takeIf rfl ev_c hW5)) (fun H2 j hW2 => py_call rfl hW2) (DT.tf (hW3.tf g45) _ _ d3) rfl hW5 ac f5 fun gl j ac vl H6 f6 g6 hW6 rl => ?_
    have g46 := g45.trans g6
    exact s_pyRet (x := told (.tuple [wn, g, de, gl]) j) (py_is (py_tup4 rfl rfl rfl hW6 (DT.tf (hW3.tf g46) _ _ dw) (DT.tf (hW4.tf (g5.trans g6)) _ _ rg) (DT.tf (hW5.tf g6) _ _ rd') fun H7 e7 hW7 => py_var rfl hW7 (DT.tf (TF.ex e7) _ _ rl)) rfl) ac f6 rfl
/-! ### all defs of the grammar -/
structure Gd (K : PySem.W.Frag) (mg : Str → Option Value) where
  part : Df K mg "read_part" sPart ["words"]
  rest : Df K mg "rest_of_term" sRest ["words", "term"]
  term : Df K mg "read_term" sTerm ["words"]
  comp : Df K mg "rest_of_comparison" sComp ["words", "term"]
  either : Df K mg "read_either_kind" sEither ["words"]
  bracket : Df K mg "read_bracket" sBracket ["words"]
  one : Df K mg "read_one" sOne ["words"]
  both : Df K mg "rest_of_both" sBoth ["words", "guard"]
  rguard : Df K mg "rest_of_guard" sRGuard ["words", "guard"]
  guard : Df K mg "read_guard" sGuard ["words"]
  deed : Df K mg "read_deed" sDeed ["words"]
  deeds : Df K mg "read_deeds" sDeeds ["words"]
  goals : Df K mg "read_goals" sGoals ["words"]
  when : Df K mg "read_when" sWhen ["words"]
  move : Df K mg "read_move" sMove ["words"]
  signed : Df K mg "read_signed" sSigned ["words"]
  fact : Df K mg "read_fact" sFact ["words"]
  gT : mg "tuple" = none
theorem ok_none {α : Type} {R : Hp → V → α → Prop} {L : Nat} {f : Addr} {fd : FuncData} : FnOk P w K mg base (L2.CX P w) L f fd ["words"] (spG C R fun _ _ => none) := by
  refine ⟨fun vs H Q E h => ?_, fun A outer s H args us vs Q E _ _ _ _ h => ?_⟩
  · obtain ⟨p, num, ws, i, rfl, _⟩ := h
    rfl
  · obtain ⟨p, num, ws, i, rfl, _, ac⟩ := h
    exact ac.elim
theorem ok_levels (T : Tl C) (G : Gd K mg) : ∀ n : Nat, FnOk P w K mg base (L2.CX P w) (4 + 4 * n) G.part.f G.part.fd ["words"] (spG C RD (partM n)) ∧ FnOk P w K mg base (L2.CX P w) (4 + 4 * n) G.bracket.f G.bracket.fd ["words"] (spG C RBD (brOne n).1) ∧
    FnOk P w K mg base (L2.CX P w) (4 + 4 * n) G.one.f G.one.fd ["words"] (spG C RD (brOne n).2)
  | 0 => ⟨ok_none, ok_none, ok_none⟩
  | n + 1 => by
    obtain ⟨g1, g2, g3⟩ := ok_levels T G n
    have hL : 4 ≤ 4 + 4 * n := by omega
    have gr := ok_rest hL T G.rest G.part g1
    have gt := ok_term hL G.term G.rest G.part g1 gr
    have gc := ok_comp (by omega) T G.comp G.term gt
    have ge := ok_either hL T G.either G.rest G.part G.bracket g1 gr g2
    have gb := ok_both hL T G.both G.one g3
    have gg := ok_rguard hL T G.rguard G.both G.one g3 gb
    exact ⟨(ok_part (by omega) T G.part G.term gt).mono (by omega), (ok_bracket hL T G.bracket G.either G.one G.comp G.rguard ge g3 gc gg).mono (by omega), (ok_one hL T G.one G.either G.comp ge g3 gc).mono (by omega)⟩
/-- terms and guards of up to that many within one another -/
def mTerm (n : Nat) : Rd' PyData := termM (partM n)
def mGuard (n : Nat) : Rd' PyData := guardM (brOne n).2
def mDeeds (n : Nat) : Rd' PyData := listM (deedM (mTerm n))
def mMove (n : Nat) : Rd' PyData := moveM (mGuard n) (mDeeds n)
theorem ok_deedsN (T : Tl C) (G : Gd K mg) (n : Nat) : FnOk P w K mg base (L2.CX P w) (8 + 4 * n) G.deeds.f G.deeds.fd ["words"] (spG C RD (mDeeds n)) := by
  obtain ⟨g1, g2, g3⟩ := ok_levels T G n
  have hL : 4 ≤ 4 + 4 * n := by omega
  have gt := ok_term hL G.term G.rest G.part g1 (ok_rest hL T G.rest G.part g1)
  exact (ok_deeds (by omega) T G.deeds G.deed (ok_deed (by omega) T G.deed G.term gt) G.gT).mono (by omega)
theorem ok_moveN (T : Tl C) (G : Gd K mg) (n : Nat) : FnOk P w K mg base (L2.CX P w) (9 + 4 * n) G.move.f G.move.fd ["words"] (spG C RD (mMove n)) := by
  obtain ⟨g1, g2, g3⟩ := ok_levels T G n
  have hL : 4 ≤ 4 + 4 * n := by omega
  have gg := ok_guard G.guard G.rguard G.one g3 (ok_rguard hL T G.rguard G.both G.one g3 (ok_both hL T G.both G.one g3))
  exact (ok_move (L := 8 + 4 * n) (by omega) T G.move G.when G.guard G.deeds G.goals (ok_when T G.when) (gg.mono (by omega)) (ok_deedsN T G n) (ok_goals T G.goals G.gT)).mono (by omega)
end
end Prs
set_option Elab.async false
set_option linter.all false
set_option maxRecDepth 100000
set_option maxHeartbeats 4000000
namespace L2
open PySem PySem.Spec PyProof.Rows
/-! ### o.m(*y) -/
theorem starcall1_of {M : Model} {A : Around} {E : Value → Shared → Prop} {s : Shared} {env : Env} {o e1 : Expr} {m : Str} {p apos pos : Pos} {Q : Value → Shared → Prop} (hbase : attributeBase o m env (eval o env) = eval o env)
    (hst : starEach [.Starred e1 p] env = [(true, eval e1 env)])
    (h : wpAny M A (eval o env) (fun ov s₁ => wpAny M A (getAttr ov m true) (fun f s₂ => wpAny M A (callWith pos f [] (backTo pos [(true, eval e1 env)]) []) Q E s₂) E s₁) E s) :
    wpAny M A (eval (.Call (.Attribute o m apos) [.Starred e1 p] [] pos) env) Q E s := by
  have hke : backToKw pos (keywordEach [] env) = [] := rfl
  have hform : methodCallForm ([Expr.Starred e1 p].length + ([] : List Keyword).length) (backTo pos [(true, eval e1 env)]) [] = false := rfl
  have hpos : methodCallPos false o env apos pos = pure pos := rfl
  have hcal : ∀ ov, calleeOf false o env ov m = (getAttr ov m true >>= fun v => pure (v, [])) := fun _ => rfl
  rw [arm_eval_Call, hbase, hst, hke]
  refine wpAny_bind (wpAny_mono h (fun ov s₁ h₁ => ?_) fun _ _ x => x)
  refine wpAny_bind (wpAny_standAt ?_)
  unfold methodCall
  rw [hform, hpos, hcal]
  refine wpAny_bind (wpAny_holding (wpAny_bind (wpAny_mono h₁ (fun f s₂ h₂ => wpAny_pure ?_) fun _ _ x => x)))
  exact wpAny_bind (wpAny_pure h₂)
def tMethS1 (K : PySem.W.Frag) (C : Addr) (m : Str) (g : Addr) (sp : Sp) (E : XK) (ta t1 : TE) : TE := fun σ H Q => ta σ H fun x H1 => ∃ a dx fs, x = .ref a ∧ H1 a = some (.ins C dx fs) ∧ fs.lookup m = none ∧
  ∀ q, H1 q = none → t1 σ (upd H1 q (.met g a)) fun y1 H2 => ∃ b vs, y1 = .ref b ∧ (SqT K H2 b vs ∨ SqL K H2 b vs) ∧ H2 q = some (.met g a) ∧ sp (.ref a :: vs) H2 Q E
theorem pe_methS1 {X : Cx} {CX : CXT} {k : Nat} {C g : Addr} {m : Str} {sp : Sp} {E : XK} {o e1 : Expr} {ta t1 : TE} {p apos pos : Pos} (he : PE X o ta) (c : Cls X.K C) (b : BMeth X.K C m g) (F : FnR X.prog X.w X.K X.mg X.base CX k g sp) (hr : Room k X.A)
    (hx : Passes CX X E) (h1 : PE X e1 t1) (hbase : attributeBase o m X.env (eval o X.env) = eval o X.env := by rfl)
    (hst : starEach [.Starred e1 p] X.env = [(true, eval e1 X.env)] := by rfl) : PE X (.Call (.Attribute o m apos) [.Starred e1 p] [] pos) (tMethS1 X.K C m g sp E ta t1) := by
  refine ⟨fun pins s σ H Q I h => ?_⟩
  refine starcall1_of hbase hst (thn (he.run pins s σ H _ I h) fun u s1 ⟨x, H1, I1, rx, a, dx, fs, ex, ea, l, q⟩ => ?_)
  subst ex
  obtain rfl : u = Value.ref a := rx
  refine getbound_ok I1 ea c b l fun q1 s2 hq1 I2 => ?_
  refine PySem.W.ks_call (P := PySem.W.MethP X.K q1 g (.ref a)) rfl (PySem.W.keeps_M b.fi) (PySem.W.ks_lone (thn (h1.run pins s2 σ _ _ I2 (q q1 hq1)) fun v1 s3 ⟨y1, H2, I3, ry1, t, vs, ey, ht, hm, hsp⟩ => ?_))
  subst ey
  obtain rfl : v1 = Value.ref t := ry1
  refine StX.star_any I3 ht fun us s5 I5 rv => ?_
  exact ⟨met_P I5 hm, wpAny_call (PySem.W.method_call (met_P I5 hm).1 (run_fnR (us := Value.ref a :: us) (vs := V.ref a :: vs) F hr hx I5 (.cons rfl rv) hsp))⟩
/-! ### del xs[a:] -/
theorem keep_take {a : Nat} (f : Nat → Bool) : ∀ (its : List Value) (i : Nat), (∀ k, i ≤ k → k < i + its.length → f k = decide (a ≤ k)) → ((its.zipIdx i).filterMap fun x => if f x.2 = true then none else some x.1) = its.take (a - i)
  | [], i, _ => by simp
  | v :: its, i, h => by
    have h0 := h i (Nat.le_refl _) (by simp)
    have ih := keep_take f its (i + 1) fun k h1 h2 => h k (by omega) (by rw [List.length_cons]; omega)
    rw [List.zipIdx_cons, List.filterMap_cons]
    by_cases z : a ≤ i
    · have e : a - i = 0 := by omega
      have e2 : a - (i + 1) = 0 := by omega
      rw [e2] at ih
      simp only [h0, z, decide_true, if_true, e, List.take_zero]
      rw [ih, List.take_zero]
    · have e : a - i = (a - (i + 1)) + 1 := by omega
      simp only [h0, z, decide_false, Bool.false_eq_true, if_false, e, List.take_succ_cons]
      rw [ih]
section
variable {prog : Program} {w : World} {A : Around} {E : Value → Shared → Prop} {s : Shared}
theorem bounds_from {a n : Nat} (h : a ≤ n) : sliceBounds (some (a : Int)) none none n = ((a : Int), (n : Int), 1) := by
  simp only [sliceBounds, Option.getD_none]
  have h1 : ¬ ((a : Int) < 0) := by omega
  simp only [h1, if_false, show (1 : Int) > 0 by decide, if_true]
  congr 1
  omega
set_option maxRecDepth 100000 in
theorem delItem_slice {l sl : Addr} {its : List Value} {n : Nat} {vl : Value} {a : Nat} {Q : Unit → Shared → Prop}
    (e : s.heap.get? l = some { cls := .type "list", data := .seq its.toArray n })
    (hs : s.heap.IsSliceOf sl vl .none .none) (pl : IsPart vl (some (a : Int))) (ha : a ≤ its.length)
    (hsz : its.length ≤ sizeLine) (h : ∀ f : Array Value → Array Value, f its.toArray = (its.take a).toArray → Q () { s with heap := s.heap.update l (Obj.mapSeq f) }) :
    wpAny (model prog w) A (delItem (.ref l) (.ref sl)) Q E s := by
  have hl : s.heap.IsList l its.toArray := PySem.IsL.isList e
  obtain ⟨os, hos, hcs, hds⟩ := id hs
  have hTs : s.TypeIs (.ref sl) "slice" := ⟨os, hos, hcs⟩
  have hstep : ¬ ((rawPart none == rawInt 0) = true) := Bool.false_ne_true
  refine wpAny_delItem_slot hl.typeIs (by decide) PySem.F.slot_list_delitem ?_
  refine wpAny_call_entry PySem.F.slot_list_delitem hl.typeIs PySem.F.entry_list_delitem ?_ (PySem.F.args_list_delitem_2 _ _)
  show wpAny _ _ (Builtin.List.listSubscript? (.ref sl) >>= _) _ _ s
  refine wpAny_bind ?_
  unfold Builtin.List.listSubscript?
  refine wpAny_bind (wpAny_specialOf hTs slice_no_index ?_)
  simp only [Option.isNone_none, if_true]
  refine wpAny_pure ?_
  show wpAny _ _ (typeOf (.ref sl) >>= _) _ _ s
  refine wpAny_bind (wpAny_typeOf hTs ?_)
  first
    | rw [if_neg (by decide)]
    | refine PySem.W.KFB.if_not (by decide) ?_
  rw [listSliceParts_eq]
  refine wpAny_bind (wpAny_bind (wpAny_field hos hds (x := .none) rfl (wpAny_bind (wpAny_listPart .none ?_))))
  rw [if_neg hstep]
  refine wpAny_bind (wpAny_field hos hds (x := vl) rfl (wpAny_bind (wpAny_listPart pl ?_)))
  refine wpAny_bind (wpAny_field hos hds (x := .none) rfl (wpAny_bind (wpAny_listPart .none (wpAny_pure ?_))))
  unfold Builtin.List.listItems
  refine wpAny_bind (wpAny_bind (wpAny_seqItems e rfl (wpAny_pure ?_)))
  refine wpAny_bind (wpAny_of_eq ((sliceIndices_raw (some (a : Int)) none none its.toArray.size (by simp)).trans (congrArg (pure : Int × Int × Int → Sem (Int × Int × Int)) (bounds_from (by rw [List.size_toArray]; exact ha)))) ?_)
  refine wpAny_bind (wpAny_rule ?_)
  have fk : ∀ (g : Int → Int → Int → Nat → Bool), (∀ k, k < its.length → g (a : Int) (its.toArray.size : Nat) 1 k = decide (a ≤ k)) → (its.toArray.toList.zipIdx.filterMap fun x => if g (a : Int) (its.toArray.size : Nat) 1 x.2 = true then none else some x.1).toArray = (its.take a).toArray := fun g hf => by
    have := keep_take (a := a) (g (a : Int) (its.toArray.size : Nat) 1) its 0 fun k _ h2 => hf k (by omega)
    rw [Nat.sub_zero] at this
    show ((its.zipIdx 0).filterMap _).toArray = _
    rw [this]
  unfold Builtin.List.listUpdate
  dsimp only
  refine wpAny_bind (wpAny_updateSeq (hz := by rw [List.size_toArray]; exact hsz) (_hz' := ?sz) e rfl ?rest)
  case sz =>
    refine Nat.le_trans (Nat.le_of_eq (congrArg Array.size (fk _ fun k hk => ?_))) ?_
    · show (if (1 : Int) > 0 then (decide ((a : Int) ≤ (k : Int)) && decide ((k : Int) < (its.toArray.size : Nat)) && (((k : Int) - (a : Int)) % 1 == 0)) else _) = _
      rw [if_pos (by decide), Int.emod_one]
      have h1 : decide ((k : Int) < (its.toArray.size : Nat)) = true := decide_eq_true (by rw [List.size_toArray]; omega)
      rw [h1, Bool.and_true, beq_self_eq_true, Bool.and_true]
      exact decide_eq_decide.mpr (by omega)
    · rw [List.size_toArray, List.length_take]
      omega
  case rest =>
    refine wpAny_bind (wpAny_letGo ?_)
    refine wpAny_pure ⟨_, rfl, h _ (fk _ fun k hk => ?_)⟩
    show (if (1 : Int) > 0 then (decide ((a : Int) ≤ (k : Int)) && decide ((k : Int) < (its.toArray.size : Nat)) && (((k : Int) - (a : Int)) % 1 == 0)) else _) = _
    rw [if_pos (by decide), Int.emod_one]
    have h1 : decide ((k : Int) < (its.toArray.size : Nat)) = true := decide_eq_true (by rw [List.size_toArray]; omega)
    rw [h1, Bool.and_true, beq_self_eq_true, Bool.and_true]
    exact decide_eq_decide.mpr (by omega)
end
section
variable {X : Cx}
def tDelSl (to tl : TE) : TS := fun D σ H => to σ H fun x H1 => tl σ H1 fun y H2 => ∃ (l : Addr) (xs : List V) (a : Nat), x = .ref l ∧ y = .int (a : Int) ∧ H2 l = some (.lst xs) ∧ a ≤ xs.length ∧ D.nx σ (upd H2 l (.lst (xs.take a)))
theorem ps_delSl {o lo : Expr} {to tl : TE} {p2 tpos pos : Pos} (ho : PE X o to) (hl : PE X lo tl) : PS X (.Delete [.Subscript o (.Slice (some lo) none none p2) tpos] pos) (tDelSl to tl) := by
  refine ⟨fun pins s σ H D I h => ?_⟩
  refine wpAny_Delete (wpAny_deleteEach_cons (wpAny_delete_Subscript (thn (ho.run pins s σ H _ I h) fun u s1 ⟨x, H1, I1, rx, q1⟩ => ?_)))
  refine wpAny_Slice ?_
  rw [evalPart_some]
  refine thn (hl.run pins s1 σ H1 _ I1 q1) fun vl s2 ⟨y, H2, I2, ry, l, xs, a, ex, ey, hH, ha, q⟩ => ?_
  subst ex
  subst ey
  obtain rfl : u = Value.ref l := rx
  obtain ⟨t, rfl⟩ := (show ∃ t, vl = Value.int (a : Int) t from ry)
  rw [evalPart_none]
  refine wpAny_pure (wpAny_pure ?_)
  have I3 : Inv X pins σ H2 { s2 with heap := s2.heap.push { cls := .type "slice", data := .fields #[.int (a : Int) t, .none, .none] } } := I2.kept (t' := s2.toks) fun b ob q => Heap.get?_push_of_some _ q
  obtain ⟨z, its, n, r, hl2, e⟩ := I3.lstM hH
  refine delItem_slice e (Heap.IsSliceOf.new _ _ _ _) (.int _ _) (by omega) (by omega) fun f hf => wpAny_deleteEach_nil ⟨σ, _, I3.lset (its' := its.take a) (t' := s2.toks) hH e hf (r.take a) (by rw [List.length_take]; omega), q⟩
end
end L2
set_option Elab.async false
set_option linter.all false
set_option maxRecDepth 100000
set_option maxHeartbeats 4000000
namespace Prs
open PySem PySem.Spec PyProof.Rows L2 Evl
abbrev sDInit : Stmt := inClass (top 53) 0
abbrev sNext : Stmt := inClass (top 53) 1
abbrev sInner : Stmt := inClass (top 53) 2
def INNER : List Str := ["into", "out", "go"]
def SORTSs : List Str := ["one", "all", "leaf", "end", "back", "deep"]
def FULL : List Str := ["one", "all"]
def MARKER : List Str := ["back", "deep"]
/-- a stand as far as it was read -/
structure Rc where
  name : Str
  kind : Str
  num : Int
  into : PyData
  out : PyData
  moves : List PyData
  nums : List Int
  kids : List Nat
  passed : Nat
def dfl (r : Rc) (vi vo : V) (am an ad : Addr) : List (Str × V) :=
  putF "passed" (.int (r.passed : Int)) (putF "drafts" (.ref ad) (putF "move_numbers" (.ref an) (putF "moves" (.ref am) (putF "out" vo (putF "into" vi (putF "number" (.int r.num) (putF "kind" (.str r.kind) (putF "name" (.str r.name) []))))))))
def newRc (nm so : Str) (num : Int) : Rc := ⟨nm, so, num, .tuple [], .tuple [], [], [], [], 0⟩
structure Dc (K : PySem.W.Frag) (mg : Str → Option Value) where
  D : Addr
  cl : Cls K D
  nName : NoAttr K D "name"
  nKind : NoAttr K D "kind"
  nNum : NoAttr K D "number"
  nInto : NoAttr K D "into"
  nOut : NoAttr K D "out"
  nMoves : NoAttr K D "moves"
  nNums : NoAttr K D "move_numbers"
  nDrafts : NoAttr K D "drafts"
  nPassed : NoAttr K D "passed"
  m : mg "Draft" = some (.ref D)
  gS : KTup K mg "SORTS" (SORTSs.map V.str)
  gF : KTup K mg "FULL_SORTS" (FULL.map V.str)
  gM : KTup K mg "MARKER_SORTS" (MARKER.map V.str)
  gI : KTup K mg "INNER_WORDS" (INNER.map V.str)
section
variable {P : Program} {w : World} {K : PySem.W.Frag} {mg : Str → Option Value} {base : Heap} {C : Cn P w K mg base}
section
variable {σ : L2.St} {H : Hp} {p c dx : Addr} {fs : List (Str × V)} {f : Str} {D : Ends} {tz : TS}
theorem q_fldS {te : TE} {v : V} (h0 : σ[0]? = some (some (.ref p))) (h : Ev te σ H v) (hp : H p = some (.ins c dx fs)) (cl : Cls K c) (n : NoAttr K c f) (z : fs.length < 1000) (k : ∀ H1, Fr p H H1 → H1 p = some (.ins c dx (putF f v fs)) → tz D σ H1) : tSeq (sFld K (tVar 0) te f) tz D σ H :=
  h H (Ex.refl H) _ fun H1 e1 => ⟨.ref p, h0, p, c, dx, fs, rfl, e1 _ _ hp, cl, n, z, k _ (Fr.upd (Fr.ex e1)) upd_same⟩
theorem s_fldS {te : TE} {v : V} (h0 : σ[0]? = some (some (.ref p))) (h : Ev te σ H v) (hp : H p = some (.ins c dx fs)) (cl : Cls K c) (n : NoAttr K c f) (z : fs.length < 1000) (k : ∀ H1, Fr p H H1 → H1 p = some (.ins c dx (putF f v fs)) → D.nx σ H1) : sFld K (tVar 0) te f D σ H :=
  h H (Ex.refl H) _ fun H1 e1 => ⟨.ref p, h0, p, c, dx, fs, rfl, e1 _ _ hp, cl, n, z, k _ (Fr.upd (Fr.ex e1)) upd_same⟩
theorem q_fldT (h0 : σ[0]? = some (some (.ref p))) (hp : H p = some (.ins c dx fs)) (cl : Cls K c) (n : NoAttr K c f) (z : fs.length < 1000) (k : ∀ a H1, H a = none → a ≠ p → Fr p H H1 → H1 a = some (.tup []) → H1 p = some (.ins c dx (putF f (.ref a) fs)) → tz D σ H1) : tSeq (sFld K (tVar 0) (tTup tNil) f) tz D σ H :=
  ⟨by show 0 ≤ sizeLine; exact sz_of (by decide), fun a na => by
    have ea := ne_of_none' hp na
    refine ⟨.ref p, h0, p, c, dx, fs, rfl, fr_new na p _ hp, cl, n, z, k a _ na ea (Fr.upd (Fr.ex (fr_new na))) ?_ upd_same⟩
    rw [upd_ne ea, upd_same]⟩
theorem q_fldL (h0 : σ[0]? = some (some (.ref p))) (hp : H p = some (.ins c dx fs)) (cl : Cls K c) (n : NoAttr K c f) (z : fs.length < 1000) (k : ∀ a H1, H a = none → a ≠ p → Fr p H H1 → H1 a = some (.lst []) → H1 p = some (.ins c dx (putF f (.ref a) fs)) → tz D σ H1) : tSeq (sFld K (tVar 0) (tLst tNil) f) tz D σ H :=
  ⟨by show 0 ≤ sizeLine; exact sz_of (by decide), fun a na => by
    have ea := ne_of_none' hp na
    refine ⟨.ref p, h0, p, c, dx, fs, rfl, fr_new na p _ hp, cl, n, z, k a _ na ea (Fr.upd (Fr.ex (fr_new na))) ?_ upd_same⟩
    rw [upd_ne ea, upd_same]⟩
theorem putF_le {f : Str} {v : V} {fs : List (Str × V)} {n : Nat} (h : fs.length ≤ n) : (putF f v fs).length ≤ n + 1 := by
  have := length_putF f v fs
  omega
end
/-! ### Draft.__init__ -/
def spDInit (Dk : Dc K mg) : Sp := fun vs H Q _ => ∃ p nm so num dx, vs = [.ref p, .str nm, .str so, .int num] ∧ H p = some (.ins Dk.D dx []) ∧
  ∀ H' vi vo am an ad, Fr p H H' → H' p = some (.ins Dk.D dx (dfl (newRc nm so num) vi vo am an ad)) → DT H' (.tuple []) vi → DT H' (.tuple []) vo → H' am = some (.lst []) → H' an = some (.lst []) → H' ad = some (.lst []) →
    H am = none → H an = none → H ad = none → am ≠ p → an ≠ p → ad ≠ p → an ≠ am → ad ≠ am → ad ≠ an → Q .non H'
theorem scDInit : FnScope ["self", "name", "sort", "number"] ["self", "name", "sort", "number"] (defScope sDInit) := ⟨rfl, rfl, rfl, by decide +kernel, rfl, by decide +kernel, by decide +kernel⟩
theorem none_back {p a : Addr} {H H' : Hp} (f : Fr p H H') (n : a ≠ p) (h : H' a = none) : H a = none := by
  cases z : H a with
  | none => rfl
  | some o =>
    rw [f a o n z] at h
    cases h
theorem ok_dinit {f : Addr} {fd : FuncData} (Dk : Dc K mg) (F : Fun K "__init__" "Draft.__init__" sDInit f fd) : FnOk P w K mg base CX0 1 f fd ["self", "name", "sort", "number"] (spDInit Dk) := by
  refine F.ok scDInit (fun vs H Q E h => ?_) (fun cdv A outer s0 H vs Q E hr h => ?_)
  · obtain ⟨p, nm, so, num, dx, rfl, _⟩ := h
    rfl
  · obtain ⟨p, nm, so, num, dx, rfl, hp, q⟩ := h
    refine ⟨_, pss_cons (ps_fld (pv 0) (pv 1) rfl) (pss_cons (ps_fld (pv 0) (pv 2) rfl) (pss_cons (ps_fld (pv 0) (pv 3) rfl) (pss_cons (ps_fld (pv 0) (pe_tup pa_nil) rfl) (pss_cons (ps_fld (pv 0) (pe_tup pa_nil) rfl)
      (pss_cons (ps_fld (pv 0) (pe_lst pa_nil) rfl) (pss_cons (ps_fld (pv 0) (pe_lst pa_nil) rfl) (pss_cons (ps_fld (pv 0) (pe_lst pa_nil) rfl) (pss_one (ps_fld (pv 0) pe_int rfl))))))))), ?_⟩
    refine q_fldS rfl (ev_var rfl) hp Dk.cl Dk.nName (by decide) fun H1 f1 h1 => ?_
    refine q_fldS rfl (ev_var rfl) h1 Dk.cl Dk.nKind (by show 1 < 1000; decide) fun H2 f2 h2 => ?_
    refine q_fldS rfl (ev_var rfl) h2 Dk.cl Dk.nNum (by show 2 < 1000; decide) fun H3 f3 h3 => ?_
    refine q_fldT rfl h3 Dk.cl Dk.nInto (by show 3 < 1000; decide) fun ai H4 n4 e4 f4 t4 h4 => ?_
    refine q_fldT rfl h4 Dk.cl Dk.nOut (by show 4 < 1000; decide) fun ao H5 n5 e5 f5 t5 h5 => ?_
    refine q_fldL rfl h5 Dk.cl Dk.nMoves (by show 5 < 1000; decide) fun am H6 n6 e6 f6 t6 h6 => ?_
    refine q_fldL rfl h6 Dk.cl Dk.nNums (by show 6 < 1000; decide) fun an H7 n7 e7 f7 t7 h7 => ?_
    refine q_fldL rfl h7 Dk.cl Dk.nDrafts (by show 7 < 1000; decide) fun ad H8 n8 e8 f8 t8 h8 => ?_
    refine s_fldS rfl ev_c h8 Dk.cl Dk.nPassed (by show 8 < 1000; decide) fun H9 f9 h9 => ?_
    have g5 := f1.trans (f2.trans (f3.trans (f4.trans f5)))
    have g6 := g5.trans f6
    have g7 := g6.trans f7
    have x79 := f8.trans f9
    have x69 := f7.trans x79
    have x59 := f6.trans x69
    refine q H9 (.ref ai) (.ref ao) am an ad (g7.trans x79) h9 (dt_tup (x59 _ _ e4 (f5 _ _ e4 t4)) dts_nil) (dt_tup (x59 _ _ e5 t5) dts_nil) (x69 _ _ e6 t6) (x79 _ _ e7 t7) (f9 _ _ e8 t8)
      (none_back g5 e6 n6) (none_back g6 e7 n7) (none_back g7 e8 n8) e6 e7 e8 (ne_of_none' t6 n7) (ne_of_none' (f7 _ _ e6 t6) n8) (ne_of_none' t7 n8)
/-! ### the arena -/
def Dr (D : Addr) (H : Hp) (loc : Nat → Addr) (k : Nat) (r : Rc) : Prop := ∃ dx vi vo mvs, H (loc (4 * k)) = some (.ins D dx (dfl r vi vo (loc (4 * k + 1)) (loc (4 * k + 2)) (loc (4 * k + 3)))) ∧ DT H r.into vi ∧ DT H r.out vo ∧
  H (loc (4 * k + 1)) = some (.lst mvs) ∧ DTs H r.moves mvs ∧ H (loc (4 * k + 2)) = some (.lst (r.nums.map V.int)) ∧ H (loc (4 * k + 3)) = some (.lst (r.kids.map fun j => V.ref (loc (4 * j)))) ∧ r.passed ≤ 3
theorem Dr.fr {D : Addr} {H H' : Hp} {loc : Nat → Addr} {k : Nat} {r : Rc} (h : Dr D H loc k r) (e : ∀ j, j < 4 → ∀ o, H (loc (4 * k + j)) = some o → H' (loc (4 * k + j)) = some o) (t : TF H H') : Dr D H' loc k r := by
  obtain ⟨dx, vi, vo, mvs, h1, h2, h3, h4, h5, h6, h7, h8⟩ := h
  exact ⟨dx, vi, vo, mvs, e 0 (by decide) _ h1, DT.tf t _ _ h2, DT.tf t _ _ h3, e 1 (by decide) _ h4, DTs.tf t _ _ h5, e 2 (by decide) _ h6, e 3 (by decide) _ h7, h8⟩
structure Ar (D : Addr) (H0 H : Hp) (loc : Nat → Addr) (rs : List Rc) : Prop where
  inj : ∀ i j, i < 4 * rs.length → j < 4 * rs.length → loc i = loc j → i = j
  fresh : ∀ i, i < 4 * rs.length → H0 (loc i) = none
  at_ : ∀ (k : Nat) (r : Rc), rs[k]? = some r → Dr D H loc k r
  kid : ∀ (k : Nat) (r : Rc), rs[k]? = some r → ∀ j, j ∈ r.kids → j < rs.length
theorem Ar.fr {D : Addr} {H0 H H' : Hp} {loc : Nat → Addr} {rs : List Rc} (h : Ar D H0 H loc rs) (e : ∀ i, i < 4 * rs.length → ∀ o, H (loc i) = some o → H' (loc i) = some o) (t : TF H H') : Ar D H0 H' loc rs := by
  refine ⟨h.inj, h.fresh, fun k r hk => (h.at_ k r hk).fr (fun j hj => e _ ?_) t, h.kid⟩
  have := (List.getElem?_eq_some_iff.mp hk).1
  omega
theorem Ar.set {D : Addr} {H0 H H' : Hp} {loc : Nat → Addr} {rs : List Rc} {k : Nat} {r r' : Rc} (h : Ar D H0 H loc rs) (hk : rs[k]? = some r) (d : Dr D H' loc k r') (e : ∀ i, i < 4 * rs.length → i / 4 ≠ k → ∀ o, H (loc i) = some o → H' (loc i) = some o) (t : TF H H') (hkid : ∀ j, j ∈ r'.kids → j < rs.length) : Ar D H0 H' loc (rs.set k r') := by
  have hl : (rs.set k r').length = rs.length := List.length_set
  refine ⟨by rw [hl]; exact h.inj, by rw [hl]; exact h.fresh, fun k2 r2 h2 => ?_, fun k2 r2 h2 j hj => ?_⟩
  · by_cases z : k2 = k
    · subst z
      rw [List.getElem?_set_self (List.getElem?_eq_some_iff.mp hk).1] at h2
      cases h2
      exact d
    · rw [List.getElem?_set_ne (Ne.symm z)] at h2
      have := (List.getElem?_eq_some_iff.mp h2).1
      exact (h.at_ k2 r2 h2).fr (fun j hj => e _ (by omega) (by omega)) t
  · rw [hl]
    by_cases z : k2 = k
    · subst z
      rw [List.getElem?_set_self (List.getElem?_eq_some_iff.mp hk).1] at h2
      cases h2
      exact hkid j hj
    · rw [List.getElem?_set_ne (Ne.symm z)] at h2
      exact h.kid k2 r2 h2 j hj
end
end Prs
set_option Elab.async false
set_option linter.all false
set_option maxRecDepth 100000
set_option maxHeartbeats 4000000
namespace Prs
open PySem PySem.Spec PyProof.Rows L2 Evl
def nextWords (kind : Str) (passed : Nat) : List Str := INNER.drop passed ++ (if inV (.str kind) (FULL.map V.str) then SORTSs else [])
section
variable {P : Program} {w : World} {K : PySem.W.Frag} {mg : Str → Option Value} {base : Heap} {C : Cn P w K mg base}
theorem cat_any {H : Hp} {a b : Addr} {xs ys : List V} {Q : VK} (ha : SqT K H a xs) (hb : SqT K H b ys) (hz : xs.length + ys.length ≤ 100000) (k : ∀ c H', Ex H H' → SqT K H' c (xs ++ ys) → Q (.ref c) H') : rCatA K (.ref a) (.ref b) H Q := by
  refine ⟨a, b, xs, ys, rfl, rfl, ha, hb, sz_of hz, fun e => ?_, fun _ e => ?_, fun _ _ p hp => k p _ (fr_new hp) (st_of upd_same)⟩
  · subst e
    exact k b H (Ex.refl H) hb
  · subst e
    rw [List.append_nil] at k
    exact k a H (Ex.refl H) ha
theorem cut_any {H : Hp} {a : Addr} {n : Nat} {Q : VK} (ha : SqT K H a (INNER.map V.str)) (hn : n ≤ 3) (k : ∀ c H', Ex H H' → SqT K H' c ((INNER.drop n).map V.str) → Q (.ref c) H') : rSlA K (.ref a) (some (n : Int)) none H Q := by
  refine ⟨a, _, rfl, ha, fun e => ?_, fun e p hp => ?_⟩
  · match n, hn, e with
    | 0, _, _ => exact k a H (Ex.refl H) ha
    | 1, _, e => exact absurd e.1 (by decide)
    | 2, _, e => exact absurd e.1 (by decide)
    | 3, _, e => exact absurd e.1 (by decide)
  · have : cutV (INNER.map V.str) (some (n : Int)) none = (INNER.drop n).map V.str := by
      match n, hn with
      | 0, _ => rfl
      | 1, _ => rfl
      | 2, _ => rfl
      | 3, _ => rfl
    rw [this]
    exact k p _ (fr_new hp) (st_of upd_same)
/-! ### next_words -/
def spNext (Dk : Dc K mg) : Sp := fun vs H Q _ => ∃ a dx fs kind n, vs = [.ref a] ∧ H a = some (.ins Dk.D dx fs) ∧ fs.lookup ("kind" : Str) = some (.str kind) ∧ fs.lookup ("passed" : Str) = some (.int (n : Nat)) ∧ n ≤ 3 ∧
  ∀ c H', Ex H H' → SqT K H' c ((nextWords kind n).map V.str) → Q (.ref c) H'
theorem scNext : FnScope ["self", "stands"] ["self"] (defScope sNext) := ⟨rfl, rfl, rfl, by decide +kernel, rfl, by decide +kernel, by decide +kernel⟩
theorem ok_next {f : Addr} {fd : FuncData} (Dk : Dc K mg) (F : Fun K "next_words" "Draft.next_words" sNext f fd) : FnOk P w K mg base CX0 1 f fd ["self"] (spNext Dk) := by
  obtain ⟨aS, gS, hS⟩ := Dk.gS
  obtain ⟨aF, gF, hF⟩ := Dk.gF
  obtain ⟨aI, gI, hI⟩ := Dk.gI
  refine F.ok scNext (fun vs H Q E h => ?_) (fun cdv A outer s0 H vs Q E hr h => ?_)
  · obtain ⟨a, dx, fs, kind, n, rfl, _⟩ := h
    rfl
  · obtain ⟨a, dx, fs, kind, n, rfl, ha, l1, l2, hn, q⟩ := h
    refine ⟨_, Evl.pss_cut (ps_set (i := 1) scNext.nd rfl (.inl rfl) (pe_ifExp (pt_cmpR op_in_seq (pe_fld (pv 0) rfl) (pe_glob (v := .ref aF) rfl gF rfl) (by rfl)) (pe_glob (v := .ref aS) rfl gS rfl) (pe_tup pa_nil)))
      (pss_one (ps_ret (pe_op op_catA (pe_slice sl_tupA (pe_glob (v := .ref aI) rfl gI rfl) (po_some (pe_fld (pv 0) rfl)) po_none) (pv 1)))), ?_⟩
    refine Evl.q_cut (M := fun σ' H' => ∃ b, Ex H H' ∧ σ' = [some (.ref a), some (.ref b)] ∧ SqT K H' b ((if inV (.str kind) (FULL.map V.str) then SORTSs else []).map V.str)) ?_ ?_
    · refine (et_test (ev_op (ev_fld (ev_var rfl) ha Dk.cl Dk.nKind l1) ev_c (rv_isT (hF _) rfl (by decide +kernel))) : EvT _ _ H (inV (.str kind) (FULL.map V.str))) H (Ex.refl H) _ fun H1 e1 => ?_
      cases hb : inV (.str kind) (FULL.map V.str) with
      | true => exact ⟨aS, e1, rfl, hS _⟩
      | false => exact ⟨by show 0 ≤ sizeLine; exact sz_of (by decide), fun b nb => ⟨b, Ex.trans e1 (fr_new nb), rfl, st_of upd_same⟩⟩
    · rintro σ' H' ⟨b, e, rfl, hb⟩
      have eP : Ev (tFld K (fun σ H Q => ∃ v, σ[0]? = some (some v) ∧ Q v H) "passed") [some (.ref a), some (.ref b)] H' (.int (n : Nat)) := ev_fld (ev_var rfl) (e _ _ ha) Dk.cl Dk.nPassed l2
      unfold tRet tOp tSl tPart tC tNoPart tVar
      refine eP H' (Ex.refl H') _ fun H1 e1 => ⟨n, rfl, ?_⟩
      dsimp only
      refine cut_any (hI _) hn fun c H2 e2 hc => ⟨_, rfl, ?_⟩
      have e12 := Ex.trans e1 e2
      refine cat_any hc (ex_t e12 hb) ?_ fun c2 H3 e3 hc2 => q c2 H3 (Ex.trans e (Ex.trans e12 e3)) ?_
      · have h1 : ((INNER.drop n).map V.str).length ≤ 3 := by
          rw [List.length_map, List.length_drop]
          show 3 - n ≤ 3
          omega
        have h2 : ((if inV (.str kind) (FULL.map V.str) then SORTSs else []).map V.str).length ≤ 6 := by
          split
          · decide
          · decide
        omega
      · rw [← List.map_append] at hc2
        exact hc2
end
end Prs
set_option Elab.async false
set_option linter.all false
set_option maxRecDepth 100000
set_option maxHeartbeats 4000000
namespace Prs
open PySem PySem.Spec PyProof.Rows L2 Evl
def innerM (n : Nat) (rs : List Rc) (k : Nat) (num : Int) (ws : List Wd) (i : Nat) : Res (List Rc × Option Nat) :=
  match rs[k]? with
  | none => none
  | some r => andThen (takeM ws (nextWords r.kind r.passed) i) fun wd j =>
    if !inV (.str wd) (INNER.map V.str) then andThen (takeM ws ["a name"] j) fun nm j => (if r.kids.length < 50000 then told (rs.set k { r with passed := 3, kids := r.kids ++ [rs.length] } ++ [newRc nm wd num], some rs.length) j else none)
    else if decide (V.str wd = V.str "into") then andThen (mDeeds n ws j) fun d j => told (rs.set k { r with passed := 1, into := d }, none) j
    else if decide (V.str wd = V.str "out") then andThen (mDeeds n ws j) fun d j => told (rs.set k { r with passed := 2, out := d }, none) j
    else andThen (mMove n ws j) fun d j => (if r.moves.length < 50000 ∧ r.nums.length < 50000 then told (rs.set k { r with passed := 2, moves := r.moves ++ [d], nums := r.nums ++ [num] }, none) j else none)
section
variable {P : Program} {w : World} {K : PySem.W.Frag} {mg : Str → Option Value} {base : Heap} {C : Cn P w K mg base}
/-- the arena beside the words -/
structure Sw (Dk : Dc K mg) (C : Cn P w K mg base) (H0 H : Hp) (loc : Nat → Addr) (rs : List Rc) (p : Addr) (num : Nm) (ws : List Wd) (i : Nat) : Prop where
  ar : Ar Dk.D H0 H loc rs
  w : WAt C.W H p num ws i
  p0 : H0 p = none
  sep : ∀ i, i < 4 * rs.length → loc i ≠ p ∧ num.off (loc i)
def FrA (loc : Nat → Addr) (m : Nat) (p : Addr) (H H' : Hp) : Prop := ∀ b o, b ≠ p → (∀ i, i < 4 * m → b ≠ loc i) → H b = some o → H' b = some o
theorem FrA.refl {loc : Nat → Addr} {m : Nat} {p : Addr} {H : Hp} : FrA loc m p H H := fun _ _ _ _ h => h
theorem FrA.fr {loc : Nat → Addr} {m : Nat} {p : Addr} {H H1 H2 : Hp} (a : FrA loc m p H H1) (f : Fr p H1 H2) : FrA loc m p H H2 := fun b o n1 n2 h => f b o n1 (a b o n1 n2 h)
/-- all but the words and one draft stands -/
def Kp (loc : Nat → Addr) (k : Nat) (p : Addr) (H H' : Hp) : Prop := ∀ b o, b ≠ p → (∀ j, j < 4 → b ≠ loc (4 * k + j)) → H b = some o → H' b = some o
theorem Kp.fr {loc : Nat → Addr} {k : Nat} {p : Addr} {H H1 H2 : Hp} (a : Kp loc k p H H1) (f : Fr p H1 H2) : Kp loc k p H H2 := fun b o n1 n2 h => f b o n1 (a b o n1 n2 h)
theorem Kp.of {loc : Nat → Addr} {k : Nat} {p : Addr} {H H1 : Hp} (f : Fr p H H1) : Kp loc k p H H1 := fun b o n1 n2 h => f b o n1 h
theorem Kp.upd {loc : Nat → Addr} {k : Nat} {p : Addr} {H H1 : Hp} (a : Kp loc k p H H1) {j : Nat} (hj : j < 4) {o : HO} : Kp loc k p H (L2.upd H1 (loc (4 * k + j)) o) := fun b u n1 n2 h => by
  rw [upd_ne (n2 j hj)]
  exact a b u n1 n2 h
theorem Kp.fra {loc : Nat → Addr} {k m : Nat} {p : Addr} {H H1 : Hp} (a : Kp loc k p H H1) (hk : k < m) : FrA loc m p H H1 := fun b o n1 n2 h => a b o n1 (fun j hj => n2 _ (by omega)) h
section
variable {Dk : Dc K mg} {H0 H H1 H' : Hp} {loc : Nat → Addr} {rs : List Rc} {p : Addr} {num : Nm} {ws : List Wd} {i j k : Nat} {r r' : Rc}
theorem Dr.slots (d : Dr Dk.D H loc k r) : ∀ j, j < 4 → (∃ dx fs, H (loc (4 * k + j)) = some (.ins Dk.D dx fs)) ∨ ∃ xs, H (loc (4 * k + j)) = some (.lst xs) := by
  obtain ⟨dx, vi, vo, mvs, h1, h2, h3, h4, h5, h6, h7, h8⟩ := d
  intro j hj
  match j, hj with
  | 0, _ => exact .inl ⟨_, _, h1⟩
  | 1, _ => exact .inr ⟨_, h4⟩
  | 2, _ => exact .inr ⟨_, h6⟩
  | 3, _ => exact .inr ⟨_, h7⟩
theorem Sw.tf (s : Sw Dk C H0 H loc rs p num ws i) (hk : rs[k]? = some r) (a : Kp loc k p H H') : TF H H' := fun b xs h => by
  refine a b _ (fun z => ?_) (fun j hj z => ?_) h
  · obtain ⟨dx, fs, e⟩ := s.w.ins
    rw [z, e] at h
    cases h
  · rcases (s.ar.at_ k r hk).slots j hj with ⟨dx, fs, e⟩ | ⟨ys, e⟩
    · rw [z, e] at h
      cases h
    · rw [z, e] at h
      cases h
theorem Sw.step (s : Sw Dk C H0 H loc rs p num ws i) (hk : rs[k]? = some r) (a : Kp loc k p H H') (d : Dr Dk.D H' loc k r') (hw : WAt C.W H' p num ws j) (hkid : ∀ j, j ∈ r'.kids → j < rs.length) : Sw Dk C H0 H' loc (rs.set k r') p num ws j := by
  have hkl := (List.getElem?_eq_some_iff.mp hk).1
  refine ⟨s.ar.set hk d (fun i hi hn o ho => a _ o (s.sep i hi).1 (fun j hj z => hn ?_) ho) (s.tf hk a) hkid, hw, s.p0, by rw [List.length_set]; exact s.sep⟩
  have := s.ar.inj _ _ hi (by omega) z
  omega
/-- what a draft's reading comes to -/
def AccI (Dk : Dc K mg) (C : Cn P w K mg base) (p : Addr) (num : Nm) (ws : List Wd) (H0 H : Hp) (loc : Nat → Addr) (rs : List Rc) (Q : VK) (E : XK) : Res (List Rc × Option Nat) → Prop
  | none => False
  | some (.inl c) => ∀ d H', FrA loc rs.length p H H' → H' d = some (.xd [("column", .int (c : Nat)), ("row", .int num.n)]) → E (.ref C.N) (some d) H'
  | some (.inr ((rs', ok), j)) => ∀ v H' loc', FrA loc rs.length p H H' → Sw Dk C H0 H' loc' rs' p num ws j → (∀ i, i < 4 * rs.length → loc' i = loc i) → (∀ i, ¬ i < 4 * rs.length → i < 4 * rs'.length → H (loc' i) = none) → v = (match ok with
    | none => V.non
    | some m => V.ref (loc' (4 * m))) → Q v H'
theorem AccI.bind {α δ : Type} {Q : VK} {E : XK} {Q2 : δ → Hp → Prop} {R2 : Hp → δ → α → Prop} {x : Res α} {f : α → Nat → Res (List Rc × Option Nat)}
    (h : AccI Dk C p num ws H0 H loc rs Q E (andThen x f)) (fr : FrA loc rs.length p H H1) (k : ∀ a j, AccI Dk C p num ws H0 H loc rs Q E (f a j) → ∀ v H2, Fr p H1 H2 → WAt C.W H2 p num ws j → R2 H2 v a → Q2 v H2) : Acc C p num ws H1 Q2 E R2 x := by
  match x, h with
  | some (.inl c), h => exact fun d H' g z => h d H' (fr.fr g) z
  | some (.inr (a, j)), h => exact fun v H' g y z => k a j h v H' g y z
theorem py_takeV {σ : L2.St} {E : XK} {kk : Nat} {ta : TA} {ks : List Str} (h0 : σ[kk]? = some (some (.ref p))) (h : EvA ta σ H (ks.map V.str)) (hW : WAt C.W H p num ws i) (hz : ks.length ≤ 100000 := by decide) : Py C p num ws E (tMethR C.W "take" (spTake C) E (tVar kk) ta) σ H RStr (takeM ws ks i) := fun Q ac => by
  obtain ⟨dx, ts, hp, hl, hw⟩ := hW
  exact ⟨.ref p, h0, p, dx, _, rfl, hp, wf_no (by decide) (by decide) (by decide), h H (Ex.refl H) _ fun H2 e2 => ⟨p, num, ws, i, ks, rfl, hz, WAt.ex ⟨dx, ts, hp, hl, hw⟩ e2, ac.fr (Fr.ex e2)⟩⟩
theorem py_takeS {σ : L2.St} {E : XK} {kk k2 : Nat} {ks : List Str} {g c : Addr} (h0 : σ[kk]? = some (some (.ref p))) (h2 : σ[k2]? = some (some (.ref c))) (h : SqT K H c (ks.map V.str)) (hW : WAt C.W H p num ws i) (hz : ks.length ≤ 100000) : Py C p num ws E (tMethS1 K C.W "take" g (spTake C) E (tVar kk) (tVar k2)) σ H RStr (takeM ws ks i) := fun Q ac => by
  obtain ⟨dx, ts, hp, hl, hw⟩ := hW
  refine ⟨.ref p, h0, p, dx, _, rfl, hp, wf_no (by decide) (by decide) (by decide), fun q hq => ⟨.ref c, h2, c, _, rfl, .inl (ex_t (fr_new hq) h), upd_same, p, num, ws, i, ks, rfl, hz, WAt.ex ⟨dx, ts, hp, hl, hw⟩ (fr_new hq), ac.fr (Fr.ex (fr_new hq))⟩⟩
theorem py_callV {σ : L2.St} {E : XK} {α : Type} {kk : Nat} {R : Hp → V → α → Prop} {m : List Wd → Nat → Res α} (h0 : σ[kk]? = some (some (.ref p))) (hW : WAt C.W H p num ws i) : Py C p num ws E (tCall (spG C R m) [] E (tCons (tVar kk) tNil)) σ H R (m ws i) := fun Q ac => ⟨.ref p, h0, p, num, ws, i, rfl, hW, ac⟩
end
end
end Prs
set_option Elab.async false
set_option linter.all false
set_option maxRecDepth 100000
set_option maxHeartbeats 4000000
namespace Prs
open PySem PySem.Spec PyProof.Rows L2 Evl
section
variable {P : Program} {w : World} {K : PySem.W.Frag} {mg : Str → Option Value} {base : Heap} {C : Cn P w K mg base}
section
variable {Dk : Dc K mg} {H0 H H1 H2 H' : Hp} {loc : Nat → Addr} {rs : List Rc} {p : Addr} {num : Nm} {ws : List Wd} {i j k : Nat} {r r' : Rc}
theorem WAt.other {a : Addr} (h : WAt C.W H p num ws i) (f : Fr a H H') (ap : a ≠ p) (aw : num.off a) (ht : ∀ xs, H a ≠ some (.tup xs)) : WAt C.W H' p num ws i := by
  obtain ⟨dx, ts, a1, b, c⟩ := h
  exact ⟨dx, ts, f _ _ (Ne.symm ap) a1, f _ _ (Ne.symm aw.1) b, f _ _ (Ne.symm aw.2) c.1, c.2⟩
theorem Kp.at0 (a : Kp loc k p H H1) (f : Fr (loc (4 * k)) H1 H2) : Kp loc k p H H2 := fun b o n1 n2 h => f b o (n2 0 (by decide)) (a b o n1 n2 h)
theorem Kp.at1 {s : Nat} (hs : s < 4) (a : Kp loc k p H H1) (f : Fr (loc (4 * k + s)) H1 H2) : Kp loc k p H H2 := fun b o n1 n2 h => f b o (n2 s hs) (a b o n1 n2 h)
/-- the four places of a draft are apart, and apart from the words -/
theorem Sw.apart (s : Sw Dk C H0 H loc rs p num ws i) (hk : rs[k]? = some r) : (∀ a b, a < 4 → b < 4 → a ≠ b → loc (4 * k + a) ≠ loc (4 * k + b)) ∧ ∀ a, a < 4 → loc (4 * k + a) ≠ p ∧ num.off (loc (4 * k + a)) := by
  have hkl := (List.getElem?_eq_some_iff.mp hk).1
  refine ⟨fun a b ha hb n z => n ?_, fun a ha => s.sep _ (by omega)⟩
  have := s.ar.inj _ _ (by omega) (by omega) z
  omega
theorem no_tup_ins {a c dx : Addr} {fs : List (Str × V)} (h : H a = some (.ins c dx fs)) : ∀ xs, H a ≠ some (.tup xs) := fun xs z => by
  rw [h] at z
  cases z
theorem no_tup_lst {a : Addr} {ys : List V} (h : H a = some (.lst ys)) : ∀ xs, H a ≠ some (.tup xs) := fun xs z => by
  rw [h] at z
  cases z
theorem fr_upd {a : Addr} {o : HO} : Fr a H (L2.upd H a o) := fun b u n hb => by
  rw [upd_ne n]
  exact hb
end
/-! ### read_inner: into, out, go -/
theorem scInner : FnScope ["self", "words", "allowed", "word"] ["self", "words"] (defScope sInner) := ⟨rfl, rfl, rfl, by decide +kernel, rfl, by decide +kernel, by decide +kernel⟩
section
variable {Dk : Dc K mg} {H0 H H1 : Hp} {loc : Nat → Addr} {rs : List Rc} {p : Addr} {num : Nm} {ws : List Wd} {i j k : Nat} {r : Rc} {Q : VK} {E : XK} {D : Ends} {tz : TS} {v2 v3 : V}
/-- self.passed = n; self.into = read_deeds(words) -/
theorem br_into {n : Nat} (s : Sw Dk C H0 H loc rs p num ws i) (hk : rs[k]? = some r) (f : Fr p H H1) (hW : WAt C.W H1 p num ws j) (ac : AccI Dk C p num ws H0 H loc rs Q E (andThen (mDeeds n ws j) fun d j => told (rs.set k { r with passed := 1, into := d }, none) j))
    (fin : ∀ H5, Q .non H5 → tz D [some (.ref (loc (4 * k))), some (.ref p), some v2, some v3] H5) :
    tSeq (sFld K (tVar 0) (tC (.int 1)) "passed") (tSeq (sFld K (tVar 0) (tCall (spG C RD (mDeeds n)) [] E (tCons (tVar 1) tNil)) "into") tz) D [some (.ref (loc (4 * k))), some (.ref p), some v2, some v3] H1 := by
  obtain ⟨ap, aw⟩ := s.apart hk
  have hkl := (List.getElem?_eq_some_iff.mp hk).1
  have d1 : Dr Dk.D H1 loc k r := (s.ar.at_ k r hk).fr (fun j hj o ho => f _ _ (aw j hj).1 ho) (s.w.tf f)
  obtain ⟨dx, vi, vo, mvs, h1, d2, d3, h4, d5, h6, h7, h8⟩ := d1
  have a0p : loc (4 * k) ≠ p := (aw 0 (by decide)).1
  have a0w : num.off (loc (4 * k)) := (aw 0 (by decide)).2
  refine q_fldS rfl ev_c h1 Dk.cl Dk.nPassed (by show 9 < 1000; decide) fun H2 f2 h2 => ?_
  have hW2 := hW.other f2 a0p a0w (no_tup_ins h1)
  have kp2 : Kp loc k p H H2 := (Kp.of f).at0 f2
  refine (py_callV (m := mDeeds n) (R := RD) (E := E) rfl hW2) _ (AccI.bind ac (kp2.fra hkl) fun d j ac v H3 f3 hW3 hd => ?_)
  have h3 := f3 _ _ a0p h2
  refine ⟨.ref (loc (4 * k)), rfl, loc (4 * k), Dk.D, dx, _, rfl, h3, Dk.cl, Dk.nInto, by show 9 < 1000; decide, fin _ ?_⟩
  have f4 : Fr (loc (4 * k)) H3 (L2.upd H3 (loc (4 * k)) (.ins Dk.D dx (putF "into" v (putF "passed" (.int 1) (dfl r vi vo (loc (4 * k + 1)) (loc (4 * k + 2)) (loc (4 * k + 3))))))) := fr_upd
  have kp4 := (kp2.fr f3).at0 f4
  have tf4 := TF.fr h3 f4
  have tf2 : TF H1 H2 := TF.fr h1 f2
  have tf3 := hW2.tf f3
  have all : TF H1 _ := fun b xs h => tf4 b xs (tf3 b xs (tf2 b xs h))
  have go : ∀ s', s' < 4 → s' ≠ 0 → ∀ o, H1 (loc (4 * k + s')) = some o → (L2.upd H3 (loc (4 * k)) (.ins Dk.D dx (putF "into" v (putF "passed" (.int 1) (dfl r vi vo (loc (4 * k + 1)) (loc (4 * k + 2)) (loc (4 * k + 3))))))) (loc (4 * k + s')) = some o := fun s' hs hn o ho =>
    f4 _ _ (ap s' 0 hs (by decide) hn) (f3 _ _ (aw s' hs).1 (f2 _ _ (ap s' 0 hs (by decide) hn) ho))
  refine ac .non _ loc (kp4.fra hkl) (s.step hk kp4 ⟨dx, v, vo, mvs, by rw [upd_same]; rfl, DT.tf tf4 _ _ hd, DT.tf all _ _ d3, go 1 (by decide) (by decide) _ h4, DTs.tf all _ _ d5, go 2 (by decide) (by decide) _ h6, go 3 (by decide) (by decide) _ h7, by show 1 ≤ 3; decide⟩ (hW3.other f4 a0p a0w (no_tup_ins h3)) (fun j hj => s.ar.kid k r hk j hj)) (fun _ _ => rfl) (fun i h1 h2 => absurd (by rw [List.length_set] at h2; exact h2) h1) rfl
theorem br_out {n : Nat} (s : Sw Dk C H0 H loc rs p num ws i) (hk : rs[k]? = some r) (f : Fr p H H1) (hW : WAt C.W H1 p num ws j) (ac : AccI Dk C p num ws H0 H loc rs Q E (andThen (mDeeds n ws j) fun d j => told (rs.set k { r with passed := 2, out := d }, none) j))
    (fin : ∀ H5, Q .non H5 → tz D [some (.ref (loc (4 * k))), some (.ref p), some v2, some v3] H5) :
    tSeq (sFld K (tVar 0) (tC (.int 2)) "passed") (tSeq (sFld K (tVar 0) (tCall (spG C RD (mDeeds n)) [] E (tCons (tVar 1) tNil)) "out") tz) D [some (.ref (loc (4 * k))), some (.ref p), some v2, some v3] H1 := by
  obtain ⟨ap, aw⟩ := s.apart hk
  have hkl := (List.getElem?_eq_some_iff.mp hk).1
  have d1 : Dr Dk.D H1 loc k r := (s.ar.at_ k r hk).fr (fun j hj o ho => f _ _ (aw j hj).1 ho) (s.w.tf f)
  obtain ⟨dx, vi, vo, mvs, h1, d2, d3, h4, d5, h6, h7, h8⟩ := d1
  have a0p : loc (4 * k) ≠ p := (aw 0 (by decide)).1
  have a0w : num.off (loc (4 * k)) := (aw 0 (by decide)).2
  refine q_fldS rfl ev_c h1 Dk.cl Dk.nPassed (by show 9 < 1000; decide) fun H2 f2 h2 => ?_
  have hW2 := hW.other f2 a0p a0w (no_tup_ins h1)
  have kp2 : Kp loc k p H H2 := (Kp.of f).at0 f2
  refine (py_callV (m := mDeeds n) (R := RD) (E := E) rfl hW2) _ (AccI.bind ac (kp2.fra hkl) fun d j ac v H3 f3 hW3 hd => ?_)
  have h3 := f3 _ _ a0p h2
  refine ⟨.ref (loc (4 * k)), rfl, loc (4 * k), Dk.D, dx, _, rfl, h3, Dk.cl, Dk.nOut, by show 9 < 1000; decide, fin _ ?_⟩
  have f4 : Fr (loc (4 * k)) H3 (L2.upd H3 (loc (4 * k)) (.ins Dk.D dx (putF "out" v (putF "passed" (.int 2) (dfl r vi vo (loc (4 * k + 1)) (loc (4 * k + 2)) (loc (4 * k + 3))))))) := fr_upd
  have kp4 := (kp2.fr f3).at0 f4
  have tf4 := TF.fr h3 f4
  have tf2 : TF H1 H2 := TF.fr h1 f2
  have tf3 := hW2.tf f3
  have all : TF H1 _ := fun b xs h => tf4 b xs (tf3 b xs (tf2 b xs h))
  have go : ∀ s', s' < 4 → s' ≠ 0 → ∀ o, H1 (loc (4 * k + s')) = some o → (L2.upd H3 (loc (4 * k)) (.ins Dk.D dx (putF "out" v (putF "passed" (.int 2) (dfl r vi vo (loc (4 * k + 1)) (loc (4 * k + 2)) (loc (4 * k + 3))))))) (loc (4 * k + s')) = some o := fun s' hs hn o ho =>
    f4 _ _ (ap s' 0 hs (by decide) hn) (f3 _ _ (aw s' hs).1 (f2 _ _ (ap s' 0 hs (by decide) hn) ho))
  refine ac .non _ loc (kp4.fra hkl) (s.step hk kp4 ⟨dx, vi, v, mvs, by rw [upd_same]; rfl, DT.tf all _ _ d2, DT.tf tf4 _ _ hd, go 1 (by decide) (by decide) _ h4, DTs.tf all _ _ d5, go 2 (by decide) (by decide) _ h6, go 3 (by decide) (by decide) _ h7, by show 2 ≤ 3; decide⟩ (hW3.other f4 a0p a0w (no_tup_ins h3)) (fun j hj => s.ar.kid k r hk j hj)) (fun _ _ => rfl) (fun i h1 h2 => absurd (by rw [List.length_set] at h2; exact h2) h1) rfl
theorem lk_moves {r : Rc} {vi vo : V} {am an ad : Addr} {n : Nat} : (putF "passed" (.int (n : Int)) (dfl r vi vo am an ad)).lookup ("moves" : Str) = some (.ref am) := rfl
theorem lk_nums {r : Rc} {vi vo : V} {am an ad : Addr} {n : Nat} : (putF "passed" (.int (n : Int)) (dfl r vi vo am an ad)).lookup ("move_numbers" : Str) = some (.ref an) := rfl
theorem lk_drafts {r : Rc} {vi vo : V} {am an ad : Addr} {n : Nat} : (putF "passed" (.int (n : Int)) (dfl r vi vo am an ad)).lookup ("drafts" : Str) = some (.ref ad) := rfl
theorem br_go {n : Nat} (s : Sw Dk C H0 H loc rs p num ws i) (hk : rs[k]? = some r) (f : Fr p H H1) (hW : WAt C.W H1 p num ws j)
    (ac : AccI Dk C p num ws H0 H loc rs Q E (andThen (mMove n ws j) fun d j => (if r.moves.length < 50000 ∧ r.nums.length < 50000 then told (rs.set k { r with passed := 2, moves := r.moves ++ [d], nums := r.nums ++ [num.n] }, none) j else none)))
    (fin : ∀ H5, Q .non H5 → tz D [some (.ref (loc (4 * k))), some (.ref p), some v2, some v3] H5) :
    tSeq (sFld K (tVar 0) (tC (.int 2)) "passed") (tSeq (tDrop (tBM K "list" rAppend (tFld K (tVar 0) "moves") (tCons (tCall (spG C RD (mMove n)) [] E (tCons (tVar 1) tNil)) tNil))) (tSeq (tDrop (tBM K "list" rAppend (tFld K (tVar 0) "move_numbers") (tCons (tFld K (tVar 1) "number") tNil))) tz)) D [some (.ref (loc (4 * k))), some (.ref p), some v2, some v3] H1 := by
  obtain ⟨ap, aw⟩ := s.apart hk
  have hkl := (List.getElem?_eq_some_iff.mp hk).1
  have d1 : Dr Dk.D H1 loc k r := (s.ar.at_ k r hk).fr (fun j hj o ho => f _ _ (aw j hj).1 ho) (s.w.tf f)
  obtain ⟨dx, vi, vo, mvs, h1, d2, d3, h4, d5, h6, h7, h8⟩ := d1
  have a0p : loc (4 * k) ≠ p := (aw 0 (by decide)).1
  have a0w : num.off (loc (4 * k)) := (aw 0 (by decide)).2
  refine q_fldS rfl (v := .int ((2 : Nat) : Int)) ev_c h1 Dk.cl Dk.nPassed (by show 9 < 1000; decide) fun H2 f2 h2 => ?_
  have hW2 := hW.other f2 a0p a0w (no_tup_ins h1)
  have kp2 : Kp loc k p H H2 := (Kp.of f).at0 f2
  have m2 := f2 _ _ (ap 1 0 (by decide) (by decide) (by decide)) h4
  refine ⟨.ref (loc (4 * k)), rfl, loc (4 * k), Dk.D, dx, _, _, rfl, h2, Dk.cl, Dk.nMoves, lk_moves, Or.inl ⟨rfl, mvs, sq_of m2⟩, ?_⟩
  refine (py_callV (m := mMove n) (R := RD) (E := E) rfl hW2) _ (AccI.bind ac (kp2.fra hkl) fun d j ac v H3 f3 hW3 hd => ?_)
  split at ac
  case isFalse => exact ac.elim
  case isTrue hz =>
    have m3 := f3 _ _ (aw 1 (by decide)).1 m2
    have h3 := f3 _ _ a0p h2
    refine ⟨loc (4 * k + 1), mvs, v, rfl, rfl, m3, sz_lt (by rw [DTs.len d5]; omega), ?_⟩
    have f4 : Fr (loc (4 * k + 1)) H3 (L2.upd H3 (loc (4 * k + 1)) (.lst (mvs ++ [v]))) := fr_upd
    have m4 : (L2.upd H3 (loc (4 * k + 1)) (.lst (mvs ++ [v]))) (loc (4 * k + 1)) = some (.lst (mvs ++ [v])) := upd_same
    revert f4 m4
    generalize L2.upd H3 (loc (4 * k + 1)) (.lst (mvs ++ [v])) = H4
    intro f4 m4
    have kp4 := (kp2.fr f3).at1 (by decide : 1 < 4) f4
    have hW4 := hW3.other f4 (aw 1 (by decide)).1 (aw 1 (by decide)).2 (no_tup_lst m3)
    have h4' := f4 _ _ (ap 0 1 (by decide) (by decide) (by decide)) h3
    have n4 : H4 (loc (4 * k + 2)) = some (.lst (r.nums.map V.int)) := f4 _ _ (ap 2 1 (by decide) (by decide) (by decide)) (f3 _ _ (aw 2 (by decide)).1 (f2 _ _ (ap 2 0 (by decide) (by decide) (by decide)) h6))
    have k4 : H4 (loc (4 * k + 3)) = some (.lst (r.kids.map fun j => V.ref (loc (4 * j)))) := f4 _ _ (ap 3 1 (by decide) (by decide) (by decide)) (f3 _ _ (aw 3 (by decide)).1 (f2 _ _ (ap 3 0 (by decide) (by decide) (by decide)) h7))
    obtain ⟨dw, ts, hp4, hl4, hts4⟩ := id hW4
    refine ⟨.ref (loc (4 * k)), rfl, loc (4 * k), Dk.D, dx, _, _, rfl, h4', Dk.cl, Dk.nNums, lk_nums, Or.inl ⟨rfl, _, sq_of n4⟩, ?_⟩
    refine ⟨.ref p, rfl, p, C.W, dw, _, _, rfl, hp4, C.cl, C.nn, wf_number, ?_⟩
    refine ⟨loc (4 * k + 2), _, .int num.n, rfl, rfl, n4, sz_lt (by rw [List.length_map]; omega), fin _ ?_⟩
    have f5 : Fr (loc (4 * k + 2)) H4 (L2.upd H4 (loc (4 * k + 2)) (.lst (r.nums.map V.int ++ [.int num.n]))) := fr_upd
    have m5 : (L2.upd H4 (loc (4 * k + 2)) (.lst (r.nums.map V.int ++ [.int num.n]))) (loc (4 * k + 2)) = some (.lst (r.nums.map V.int ++ [.int num.n])) := upd_same
    revert f5 m5
    generalize L2.upd H4 (loc (4 * k + 2)) (.lst (r.nums.map V.int ++ [.int num.n])) = H5
    intro f5 m5
    have kp5 := kp4.at1 (by decide : 2 < 4) f5
    have nt4 : TF H3 H4 := fun b xs hb => f4 b _ (fun z => no_tup_lst m3 xs (by rw [← z]; exact hb)) hb
    have nt5 : TF H4 H5 := fun b xs hb => f5 b _ (fun z => no_tup_lst n4 xs (by rw [← z]; exact hb)) hb
    have t35 : TF H3 H5 := fun b xs h => nt5 b xs (nt4 b xs h)
    have all : TF H1 H5 := fun b xs h => t35 b xs (hW2.tf f3 b xs (TF.fr h1 f2 b xs h))
    refine ac .non _ loc (kp5.fra hkl) (s.step hk kp5 ⟨dx, vi, vo, mvs ++ [v], f5 _ _ (ap 0 2 (by decide) (by decide) (by decide)) h4', DT.tf all _ _ d2, DT.tf all _ _ d3, f5 _ _ (ap 1 2 (by decide) (by decide) (by decide)) m4, dts_snoc (DT.tf t35 _ _ hd) (DTs.tf all _ _ d5), by rw [m5, List.map_append]; rfl, f5 _ _ (ap 3 2 (by decide) (by decide) (by decide)) k4, by show 2 ≤ 3; decide⟩ (hW4.other f5 (aw 2 (by decide)).1 (aw 2 (by decide)).2 (no_tup_lst n4)) (fun j hj => s.ar.kid k r hk j hj)) (fun _ _ => rfl) (fun i h1 h2 => absurd (by rw [List.length_set] at h2; exact h2) h1) rfl
end
end
end Prs
set_option Elab.async false
set_option linter.all false
set_option maxRecDepth 100000
set_option maxHeartbeats 4000000
namespace Prs
open PySem PySem.Spec PyProof.Rows L2 Evl
section
variable {P : Program} {w : World} {K : PySem.W.Frag} {mg : Str → Option Value} {base : Heap} {C : Cn P w K mg base}
/-- the places of an arena with a draft more -/
def loc2 (loc : Nat → Addr) (m : Nat) (x am an ad : Addr) : Nat → Addr := fun i => if i < 4 * m then loc i else if i = 4 * m then x else if i = 4 * m + 1 then am else if i = 4 * m + 2 then an else ad
section
variable {loc : Nat → Addr} {m : Nat} {x am an ad : Addr}
theorem loc2_old {i : Nat} (h : i < 4 * m) : loc2 loc m x am an ad i = loc i := by
  unfold loc2
  rw [if_pos h]
theorem loc2_0 : loc2 loc m x am an ad (4 * m) = x := by
  unfold loc2
  rw [if_neg (by omega), if_pos rfl]
theorem loc2_1 : loc2 loc m x am an ad (4 * m + 1) = am := by
  unfold loc2
  rw [if_neg (by omega), if_neg (by omega), if_pos rfl]
theorem loc2_2 : loc2 loc m x am an ad (4 * m + 2) = an := by
  unfold loc2
  rw [if_neg (by omega), if_neg (by omega), if_neg (by omega), if_pos rfl]
theorem loc2_3 : loc2 loc m x am an ad (4 * m + 3) = ad := by
  unfold loc2
  rw [if_neg (by omega), if_neg (by omega), if_neg (by omega), if_neg (by omega)]
theorem loc2_new {i : Nat} (h : ¬ i < 4 * m) (h2 : i < 4 * (m + 1)) : (i = 4 * m ∧ loc2 loc m x am an ad i = x) ∨ (i = 4 * m + 1 ∧ loc2 loc m x am an ad i = am) ∨ (i = 4 * m + 2 ∧ loc2 loc m x am an ad i = an) ∨ (i = 4 * m + 3 ∧ loc2 loc m x am an ad i = ad) := by
  have : i = 4 * m ∨ i = 4 * m + 1 ∨ i = 4 * m + 2 ∨ i = 4 * m + 3 := by omega
  rcases this with rfl | rfl | rfl | rfl
  · exact .inl ⟨rfl, loc2_0⟩
  · exact .inr (.inl ⟨rfl, loc2_1⟩)
  · exact .inr (.inr (.inl ⟨rfl, loc2_2⟩))
  · exact .inr (.inr (.inr ⟨rfl, loc2_3⟩))
end
theorem Ex.none {H0 H : Hp} {a : Addr} (e : Ex H0 H) (h : H a = none) : H0 a = none := by
  cases z : H0 a with
  | none => rfl
  | some o =>
    rw [e a o z] at h
    cases h
section
variable {Dk : Dc K mg} {H0 H H1 H' : Hp} {loc : Nat → Addr} {rs : List Rc} {p : Addr} {num : Nm} {ws : List Wd} {i j k : Nat} {r : Rc} {Q : VK} {E : XK} {D : Ends} {tz : TS} {v2 v3 : V}
/-- a draft more -/
theorem Ar.push {x am an ad dx : Addr} {vi vo : V} {nm so : Str} {nn : Int} (s : Ar Dk.D H0 H loc rs) (e0 : Ex H0 H) (e : Ex H H') (nx : H x = none) (na : H am = none) (nb : H an = none) (nc : H ad = none) (d1 : am ≠ x) (d2 : an ≠ x) (d3 : ad ≠ x) (d4 : an ≠ am) (d5 : ad ≠ am) (d6 : ad ≠ an)
    (hx : H' x = some (.ins Dk.D dx (dfl (newRc nm so nn) vi vo am an ad))) (hi : DT H' (.tuple []) vi) (ho : DT H' (.tuple []) vo) (ha : H' am = some (.lst [])) (hb : H' an = some (.lst [])) (hc : H' ad = some (.lst [])) :
    Ar Dk.D H0 H' (loc2 loc rs.length x am an ad) (rs ++ [newRc nm so nn]) := by
  have old : ∀ i, i < 4 * rs.length → ∃ o, H (loc i) = some o := fun i hi => by
    have hk : i / 4 < rs.length := by omega
    have := (s.at_ (i / 4) rs[i / 4] (List.getElem?_eq_getElem hk)).slots (i % 4) (by omega)
    have e4 : 4 * (i / 4) + i % 4 = i := by omega
    rw [e4] at this
    rcases this with ⟨_, _, z⟩ | ⟨_, z⟩
    · exact ⟨_, z⟩
    · exact ⟨_, z⟩
  have far : ∀ i, i < 4 * rs.length → ∀ b, H b = none → loc i ≠ b := fun i hi b hb z => by
    obtain ⟨o, ho⟩ := old i hi
    rw [z, hb] at ho
    cases ho
  have hl : (rs ++ [newRc nm so nn]).length = rs.length + 1 := by simp
  refine ⟨?_, ?_, ?_, ?_⟩
  · rw [hl]
    intro a b ha' hb' z
    by_cases h1 : a < 4 * rs.length
    · rw [loc2_old h1] at z
      by_cases h2 : b < 4 * rs.length
      · rw [loc2_old h2] at z
        exact s.inj a b h1 h2 z
      · rcases loc2_new (loc := loc) (x := x) (am := am) (an := an) (ad := ad) h2 hb' with ⟨_, y⟩ | ⟨_, y⟩ | ⟨_, y⟩ | ⟨_, y⟩
        · rw [y] at z; exact absurd z (far a h1 x nx)
        · rw [y] at z; exact absurd z (far a h1 am na)
        · rw [y] at z; exact absurd z (far a h1 an nb)
        · rw [y] at z; exact absurd z (far a h1 ad nc)
    · rcases loc2_new (loc := loc) (x := x) (am := am) (an := an) (ad := ad) h1 ha' with ⟨e1, y1⟩ | ⟨e1, y1⟩ | ⟨e1, y1⟩ | ⟨e1, y1⟩ <;> rw [y1] at z <;>
      (by_cases h2 : b < 4 * rs.length
       · rw [loc2_old h2] at z
         first
         | exact absurd z.symm (far b h2 x nx)
         | exact absurd z.symm (far b h2 am na)
         | exact absurd z.symm (far b h2 an nb)
         | exact absurd z.symm (far b h2 ad nc)
       · rcases loc2_new (loc := loc) (x := x) (am := am) (an := an) (ad := ad) h2 hb' with ⟨e2, y⟩ | ⟨e2, y⟩ | ⟨e2, y⟩ | ⟨e2, y⟩ <;> rw [y] at z <;> first
         | exact e1.trans e2.symm
         | exact absurd z d1
         | exact absurd z d2
         | exact absurd z d3
         | exact absurd z d4
         | exact absurd z d5
         | exact absurd z d6
         | exact absurd z.symm d1
         | exact absurd z.symm d2
         | exact absurd z.symm d3
         | exact absurd z.symm d4
         | exact absurd z.symm d5
         | exact absurd z.symm d6)
  · rw [hl]
    intro a ha'
    by_cases h1 : a < 4 * rs.length
    · rw [loc2_old h1]
      exact s.fresh a h1
    · rcases loc2_new (loc := loc) (x := x) (am := am) (an := an) (ad := ad) h1 ha' with ⟨_, y⟩ | ⟨_, y⟩ | ⟨_, y⟩ | ⟨_, y⟩ <;> rw [y]
      · exact Ex.none e0 nx
      · exact Ex.none e0 na
      · exact Ex.none e0 nb
      · exact Ex.none e0 nc
  · intro k2 r2 h2
    by_cases z : k2 < rs.length
    · rw [List.getElem?_append_left z] at h2
      obtain ⟨dx2, vi2, vo2, mvs, g1, g2, g3, g4, g5, g6, g7, g8⟩ := s.at_ k2 r2 h2
      have t := TF.ex e
      have ek : (r2.kids.map fun j => V.ref (loc2 loc rs.length x am an ad (4 * j))) = r2.kids.map fun j => V.ref (loc (4 * j)) := List.map_congr_left fun j hj => by
        rw [loc2_old (by have := s.kid k2 r2 h2 j hj; omega)]
      refine ⟨dx2, vi2, vo2, mvs, ?_, DT.tf t _ _ g2, DT.tf t _ _ g3, ?_, DTs.tf t _ _ g5, ?_, ?_, g8⟩
      · rw [loc2_old (by omega), loc2_old (by omega), loc2_old (by omega), loc2_old (by omega)]
        exact e _ _ g1
      · rw [loc2_old (by omega)]
        exact e _ _ g4
      · rw [loc2_old (by omega)]
        exact e _ _ g6
      · rw [loc2_old (by omega), ek]
        exact e _ _ g7
    · have hk2 := (List.getElem?_eq_some_iff.mp h2).1
      rw [hl] at hk2
      have ek2 : k2 = rs.length := by omega
      subst ek2
      rw [List.getElem?_append_right (Nat.le_refl _), Nat.sub_self] at h2
      cases h2
      refine ⟨dx, vi, vo, [], ?_, hi, ho, ?_, dts_nil, ?_, ?_, Nat.zero_le _⟩
      · rw [loc2_0, loc2_1, loc2_2, loc2_3]
        exact hx
      · rw [loc2_1]
        exact ha
      · rw [loc2_2]
        exact hb
      · rw [loc2_3]
        exact hc
  · intro k2 r2 h2 j2 hj2
    rw [hl]
    by_cases z : k2 < rs.length
    · rw [List.getElem?_append_left z] at h2
      have := s.kid k2 r2 h2 j2 hj2
      omega
    · have hk2 := (List.getElem?_eq_some_iff.mp h2).1
      rw [hl] at hk2
      have ek2 : k2 = rs.length := by omega
      subst ek2
      rw [List.getElem?_append_right (Nat.le_refl _), Nat.sub_self] at h2
      cases h2
      cases hj2
end
end
end Prs
set_option Elab.async false
set_option linter.all false
set_option maxRecDepth 100000
set_option maxHeartbeats 4000000
namespace Prs
open PySem PySem.Spec PyProof.Rows L2 Evl
section
variable {P : Program} {w : World} {K : PySem.W.Frag} {mg : Str → Option Value} {base : Heap} {C : Cn P w K mg base}
section
variable {Dk : Dc K mg} {H0 H H1 H' : Hp} {loc : Nat → Addr} {rs : List Rc} {p : Addr} {num : Nm} {ws : List Wd} {i j k : Nat} {r : Rc} {Q : VK} {E : XK} {D : Ends} {tz : TS} {v2 v3 : V}
theorem Sw.ex0 (s : Sw Dk C H0 H loc rs p num ws i) (e0 : Ex H0 H) (f : FrA loc rs.length p H H') : Ex H0 H' := fun b o h => f b o (fun z => by
  rw [z, s.p0] at h
  cases h) (fun i hi z => by
  rw [z, s.ar.fresh i hi] at h
  cases h) (e0 b o h)
theorem q_pyI {α2 : Type} {σ : L2.St} {t : TE} {kk : Nat} {x : Res α2} {R2 : Hp → V → α2 → Prop} {f : α2 → Nat → Res (List Rc × Option Nat)} (h : Py C p num ws E t σ H1 R2 x) (ac : AccI Dk C p num ws H0 H loc rs Q E (andThen x f)) (fr : FrA loc rs.length p H H1)
    (n : ∀ a j, AccI Dk C p num ws H0 H loc rs Q E (f a j) → ∀ v H2, Fr p H1 H2 → WAt C.W H2 p num ws j → R2 H2 v a → tz D (σ.set kk (some v)) H2) : tSeq (tAsg t (gName kk)) tz D σ H1 := h _ (AccI.bind ac fr n)
/-- self.passed = len(INNER_WORDS); self.drafts.append(Draft(words.take(NAME), word, words.number)); return self.drafts[-1] -/
theorem br_new {wd : Str} {aI : Addr} (hI : ∀ H, SqT K H aI (INNER.map V.str)) (e0 : Ex H0 H) (s : Sw Dk C H0 H loc rs p num ws i) (hk : rs[k]? = some r) (f : Fr p H H1) (hW : WAt C.W H1 p num ws j)
    (ac : AccI Dk C p num ws H0 H loc rs Q E (andThen (takeM ws ["a name"] j) fun nm j => (if r.kids.length < 50000 then told (rs.set k { r with passed := 3, kids := r.kids ++ [rs.length] } ++ [newRc nm wd num.n], some rs.length) j else none)))
    (hD : D.rt = Q) :
    tSeq (sFld K (tVar 0) (tCB (fun xs H Q => ∃ x n, xs = [x] ∧ LenV K x H n ∧ Q (.int n) H) (tCons (tC (.ref aI)) tNil)) "passed")
      (tSeq (tDrop (tBM K "list" rAppend (tFld K (tVar 0) "drafts") (tCons (tMake Dk.D (spDInit Dk) [] E0 (tCons (tMethR C.W "take" (spTake C) E (tVar 1) (tCons (tC (.str "a name")) tNil)) (tCons (tVar 3) (tCons (tFld K (tVar 1) "number") tNil)))) tNil)))
        (tRet (tOp (rIxL K) (tFld K (tVar 0) "drafts") (tUn (rU fun i => .int (-i)) (tC (.int 1)))))) D [some (.ref (loc (4 * k))), some (.ref p), some v2, some (.str wd)] H1 := by
  obtain ⟨ap, aw⟩ := s.apart hk
  have hkl := (List.getElem?_eq_some_iff.mp hk).1
  have d1 : Dr Dk.D H1 loc k r := (s.ar.at_ k r hk).fr (fun j hj o ho => f _ _ (aw j hj).1 ho) (s.w.tf f)
  obtain ⟨dx, vi, vo, mvs, h1, d2, d3, h4, d5, h6, h7, h8⟩ := d1
  have a0p : loc (4 * k) ≠ p := (aw 0 (by decide)).1
  have a0w : num.off (loc (4 * k)) := (aw 0 (by decide)).2
  have eL : Ev (tCB (fun xs H Q => ∃ x n, xs = [x] ∧ LenV K x H n ∧ Q (.int n) H) (tCons (tC (.ref aI)) tNil)) [some (.ref (loc (4 * k))), some (.ref p), some v2, some (.str wd)] H1 (.int ((3 : Nat) : Int)) := fun H2 e Q q => ⟨_, 3, rfl, .inr ⟨_, hI H2, rfl⟩, q H2 (Ex.refl H2)⟩
  refine q_fldS rfl eL h1 Dk.cl Dk.nPassed (by show 9 < 1000; decide) fun H2 f2 h2 => ?_
  have hW2 := hW.other f2 a0p a0w (no_tup_ins h1)
  have kp2 : Kp loc k p H H2 := (Kp.of f).at0 f2
  have k2 : H2 (loc (4 * k + 3)) = some (.lst (r.kids.map fun j => V.ref (loc (4 * j)))) := f2 _ _ (ap 3 0 (by decide) (by decide) (by decide)) h7
  refine ⟨.ref (loc (4 * k)), rfl, loc (4 * k), Dk.D, dx, _, _, rfl, h2, Dk.cl, Dk.nDrafts, lk_drafts, Or.inl ⟨rfl, _, sq_of k2⟩, ?_⟩
  refine (py_takeV (ks := ["a name"]) (E := E) rfl (ea_cons ev_c ea_nil) hW2) _ (AccI.bind ac (kp2.fra hkl) fun nm j ac v H3 f3 hW3 hv => ?_)
  subst hv
  split at ac
  case isFalse => exact ac.elim
  case isTrue hz =>
    have h3 := f3 _ _ a0p h2
    have k3 := f3 _ _ (aw 3 (by decide)).1 k2
    have t13 : TF H1 H3 := fun b xs h => hW2.tf f3 b xs (TF.fr h1 f2 b xs h)
    have kp3 := kp2.fr f3
    have s3 : Sw Dk C H0 H3 loc (rs.set k { r with passed := 3 }) p num ws j := s.step hk kp3 ⟨dx, vi, vo, mvs, h3, DT.tf t13 _ _ d2, DT.tf t13 _ _ d3, f3 _ _ (aw 1 (by decide)).1 (f2 _ _ (ap 1 0 (by decide) (by decide) (by decide)) h4), DTs.tf t13 _ _ d5, f3 _ _ (aw 2 (by decide)).1 (f2 _ _ (ap 2 0 (by decide) (by decide) (by decide)) h6), k3, Nat.le_refl _⟩ hW3 (fun j hj => s.ar.kid k r hk j hj)
    have e03 := s.ex0 e0 (kp3.fra hkl)
    obtain ⟨dw, ts, hp3, hl3, hts3⟩ := id hW3
    refine ⟨.str wd, rfl, .ref p, rfl, p, C.W, dw, _, _, rfl, hp3, C.cl, C.nn, wf_number, fun x dx2 nx nd ned => ?_⟩
    refine ⟨x, nm, wd, num.n, dx2, rfl, upd_same, fun H4 vi2 vo2 am an ad f4 h4' hi ho ham han had nam nan nad d1' d2' d3' d4' d5' d6' => ?_⟩
    have e34 : Ex H3 H4 := fun b o hb => f4 b o (ne_of_none hb nx) (by
      rw [upd_ne (ne_of_none hb nx), upd_ne (ne_of_none hb nd)]
      exact hb)
    have nn : ∀ b, b ≠ x → (L2.upd (L2.upd H3 dx2 (.own x)) x (.ins Dk.D dx2 [])) b = none → H3 b = none := fun b hb h => by
      rw [upd_ne hb] at h
      have hbd : b ≠ dx2 := fun z => by
        rw [z, upd_same] at h
        cases h
      rw [upd_ne hbd] at h
      exact h
    have na := nn am d1' nam
    have nb := nn an d2' nan
    have nc := nn ad d3' nad
    have hl : (rs.set k { r with passed := 3 }).length = rs.length := List.length_set
    have ar4 := s3.ar.push e03 e34 nx na nb nc d1' d2' d3' d4' d5' d6' h4' hi ho ham han had
    rw [hl] at ar4
    have k4 := e34 _ _ k3
    refine ⟨rfl, loc (4 * k + 3), _, .ref x, rfl, rfl, k4, sz_lt (by rw [List.length_map]; omega), ?_⟩
    have f5 : Fr (loc (4 * k + 3)) H4 (L2.upd H4 (loc (4 * k + 3)) (.lst (r.kids.map (fun j => V.ref (loc (4 * j))) ++ [.ref x]))) := fr_upd
    have k5 : (L2.upd H4 (loc (4 * k + 3)) (.lst (r.kids.map (fun j => V.ref (loc (4 * j))) ++ [.ref x]))) (loc (4 * k + 3)) = some (.lst (r.kids.map (fun j => V.ref (loc (4 * j))) ++ [.ref x])) := upd_same
    revert f5 k5
    generalize L2.upd H4 (loc (4 * k + 3)) (.lst (r.kids.map (fun j => V.ref (loc (4 * j))) ++ [.ref x])) = H5
    intro f5 k5
    have o4 := e34 _ _ h3
    have o5 := f5 _ _ (ap 0 3 (by decide) (by decide) (by decide)) o4
    have hW4 := hW3.ex e34
    have hW5 := hW4.other f5 (aw 3 (by decide)).1 (aw 3 (by decide)).2 (no_tup_lst k4)
    have s4 : Sw Dk C H0 H4 (loc2 loc rs.length x am an ad) (rs.set k { r with passed := 3 } ++ [newRc nm wd num.n]) p num ws j := by
      refine ⟨ar4, hW4, s.p0, fun i hi => ?_⟩
      rw [List.length_append, hl] at hi
      have hi : i < 4 * (rs.length + 1) := hi
      by_cases z : i < 4 * rs.length
      · rw [loc2_old z]
        exact s.sep i z
      · have fx := hW3.fresh nx
        have fa := hW3.fresh na
        have fb := hW3.fresh nb
        have fc := hW3.fresh nc
        rcases loc2_new (loc := loc) (x := x) (am := am) (an := an) (ad := ad) z hi with ⟨_, y⟩ | ⟨_, y⟩ | ⟨_, y⟩ | ⟨_, y⟩ <;> rw [y] <;> assumption
    have hk1 : (rs.set k { r with passed := 3 } ++ [newRc nm wd num.n])[k]? = some { r with passed := 3 } := by
      rw [List.getElem?_append_left (by rw [hl]; exact hkl), List.getElem?_set_self hkl]
    have eq : ∀ s, s < 4 → loc2 loc rs.length x am an ad (4 * k + s) = loc (4 * k + s) := fun s hs => loc2_old (by omega)
    have kp5 : Kp (loc2 loc rs.length x am an ad) k p H4 H5 := fun b o n1 n2 h => f5 b o (fun z => n2 3 (by decide) (by rw [eq 3 (by decide)]; exact z)) h
    have t45 : TF H4 H5 := fun b xs hb => f5 b _ (fun z => no_tup_lst k4 xs (by rw [← z]; exact hb)) hb
    have t15 : TF H1 H5 := fun b xs h => t45 b xs (TF.ex e34 b xs (t13 b xs h))
    have dr5 : Dr Dk.D H5 (loc2 loc rs.length x am an ad) k { r with passed := 3, kids := r.kids ++ [rs.length] } := by
      refine ⟨dx, vi, vo, mvs, ?_, DT.tf t15 _ _ d2, DT.tf t15 _ _ d3, ?_, DTs.tf t15 _ _ d5, ?_, ?_, Nat.le_refl _⟩
      · rw [eq 1 (by decide), eq 2 (by decide), eq 3 (by decide), show loc2 loc rs.length x am an ad (4 * k) = loc (4 * k) from eq 0 (by decide)]
        exact o5
      · rw [eq 1 (by decide)]
        exact f5 _ _ (ap 1 3 (by decide) (by decide) (by decide)) (e34 _ _ (f3 _ _ (aw 1 (by decide)).1 (f2 _ _ (ap 1 0 (by decide) (by decide) (by decide)) h4)))
      · rw [eq 2 (by decide)]
        exact f5 _ _ (ap 2 3 (by decide) (by decide) (by decide)) (e34 _ _ (f3 _ _ (aw 2 (by decide)).1 (f2 _ _ (ap 2 0 (by decide) (by decide) (by decide)) h6)))
      · rw [eq 3 (by decide), k5, List.map_append]
        have ek : (r.kids.map fun j => V.ref (loc2 loc rs.length x am an ad (4 * j))) = r.kids.map fun j => V.ref (loc (4 * j)) := List.map_congr_left fun j hj => by
          rw [loc2_old (by have := s.ar.kid k r hk j hj; omega)]
        show _ = some (HO.lst ((r.kids.map fun j => V.ref (loc2 loc rs.length x am an ad (4 * j))) ++ [V.ref (loc2 loc rs.length x am an ad (4 * rs.length))]))
        rw [ek, loc2_0]
    have s5 := s4.step hk1 kp5 dr5 hW5 (fun j hj => by
      rw [List.length_append, hl]
      rcases List.mem_append.mp hj with q | q
      · have := s.ar.kid k r hk j q
        show j < rs.length + 1
        omega
      · rw [List.mem_singleton] at q
        show j < rs.length + 1
        omega)
    have er : (rs.set k { r with passed := 3 } ++ [newRc nm wd num.n]).set k { r with passed := 3, kids := r.kids ++ [rs.length] } = rs.set k { r with passed := 3, kids := r.kids ++ [rs.length] } ++ [newRc nm wd num.n] := by
      rw [List.set_append_left _ _ (by rw [hl]; exact hkl), List.set_set]
    rw [er] at s5
    have fra5 : FrA loc rs.length p H H5 := fun b o n1 n2 h => f5 b o (n2 _ (by omega)) (e34 b o (kp3.fra hkl b o n1 n2 h))
    refine ⟨.ref (loc (4 * k)), rfl, loc (4 * k), Dk.D, dx, _, _, rfl, o5, Dk.cl, Dk.nDrafts, lk_drafts, 1, rfl, loc (4 * k + 3), _, -1, .ref x, rfl, rfl, sq_of k5, atI_last _ _, ?_⟩
    show D.rt _ _
    rw [hD]
    have far : ∀ b, H3 b = none → H b = none := fun b hb => by
      cases z : H b with
      | none => rfl
      | some o =>
        by_cases zp : b = p
        · rw [zp, hp3] at hb
          cases hb
        · by_cases zl : ∃ i, i < 4 * rs.length ∧ b = loc i
          · obtain ⟨i, hi, rfl⟩ := zl
            have hk' : i / 4 < (rs.set k { r with passed := 3 }).length := by rw [hl]; omega
            have := (s3.ar.at_ (i / 4) _ (List.getElem?_eq_getElem hk')).slots (i % 4) (by omega)
            rw [show 4 * (i / 4) + i % 4 = i by omega] at this
            rcases this with ⟨_, _, y⟩ | ⟨_, y⟩ <;> (rw [hb] at y; cases y)
          · have := kp3.fra hkl b o zp (fun i hi y => zl ⟨i, hi, y⟩) z
            rw [hb] at this
            cases this
    exact ac (.ref x) H5 _ fra5 s5 (fun i hi => loc2_old hi) (fun i h1 h2 => by
      rw [List.length_append, List.length_set] at h2
      rcases loc2_new (loc := loc) (x := x) (am := am) (an := an) (ad := ad) h1 h2 with ⟨_, y⟩ | ⟨_, y⟩ | ⟨_, y⟩ | ⟨_, y⟩ <;> rw [y]
      · exact far _ nx
      · exact far _ na
      · exact far _ nb
      · exact far _ nc) (by show V.ref x = V.ref (loc2 loc rs.length x am an ad (4 * rs.length)); rw [loc2_0])
end
/-! ### read_inner -/
def spInner (Dk : Dc K mg) (C : Cn P w K mg base) (n : Nat) : Sp := fun vs H Q E => ∃ H0 loc rs k p num ws i, vs = [.ref (loc (4 * k)), .ref p] ∧ Ex H0 H ∧ Sw Dk C H0 H loc rs p num ws i ∧ AccI Dk C p num ws H0 H loc rs Q E (innerM n rs k num.n ws i)
/-- what read_inner calls -/
structure Ic (Dk : Dc K mg) (C : Cn P w K mg base) (T : Tl C) where
  aN : Addr
  fdN : FuncData
  GN : FnOk P w K mg base CX0 1 aN fdN ["self"] (spNext Dk)
  bN : Binds K fdN ["self"] []
  mN : Meth K Dk.D "next_words" aN
  bT : BMeth K C.W "take" T.aT
  aD : Addr
  fdD : FuncData
  GD : FnOk P w K mg base CX0 1 aD fdD ["self", "name", "sort", "number"] (spDInit Dk)
  bD : Binds K fdD ["self", "name", "sort", "number"] []
  mkD : Mk K Dk.D aD
theorem ok_inner {f : Addr} {fd : FuncData} (Dk : Dc K mg) (G : Gn K mg) (T : Tl C) (I : Ic Dk C T) (Gr : Gd K mg) (n : Nat) (F : Fun K "read_inner" "Draft.read_inner" sInner f fd) : FnOk P w K mg base (L2.CX P w) ((9 + 4 * n) + 1) f fd ["self", "words"] (spInner Dk C n) := by
  obtain ⟨aI, gI, hI⟩ := Dk.gI
  obtain ⟨_, gA⟩ := T.gA
  have GM := ok_moveN T Gr n
  have GDs := ok_deedsN T Gr n
  refine F.okX scInner (fun vs H Q E h => ?_) (fun cdv A outer s0 H vs Q E hr h => ?_)
  · obtain ⟨H0, loc, rs, k, p, num, ws, i, rfl, _⟩ := h
    rfl
  · obtain ⟨H0, loc, rs, k, p, num, ws, i, rfl, e0, s, ac⟩ := h
    have hr1 : Room 1 (A.deeper (envOfC "Draft.read_inner" (defScope sInner) s0.heap.objs.size f cdv)) := hr.mono (by omega)
    have hr2 : Room 2 (A.deeper (envOfC "Draft.read_inner" (defScope sInner) s0.heap.objs.size f cdv)) := hr.mono (by omega)
    have hr4 : Room 4 (A.deeper (envOfC "Draft.read_inner" (defScope sInner) s0.heap.objs.size f cdv)) := hr.mono (by omega)
    have hr8 : Room (8 + 4 * n) (A.deeper (envOfC "Draft.read_inner" (defScope sInner) s0.heap.objs.size f cdv)) := hr.mono (by omega)
    refine ⟨_, Evl.pss_cut (ps_set (i := 2) scInner.nd rfl (.inl rfl) (pe_meth0 (pv 0) Dk.cl I.mN I.GN hr1 I.bN .nil (passAny (E := E))))
      (pss_cons (ps_set (i := 3) scInner.nd rfl (.inl rfl) (pe_methS1 (pv 1) C.cl I.bT T.FT hr4 (passes_call (takes_of rfl rfl rfl rfl) fun _ _ _ _ h => h) (pv 2)))
      (pss_cons (ps_if (pt_cmpR op_notIn_seq (pv 3) (pe_glob (v := .ref aI) rfl gI rfl) (by rfl))
          (pss_cons (ps_fld (pv 0) (pe_callB call_len (by rfl) G.len PySem.boot_len (pa_cons (pe_glob (v := .ref aI) rfl gI rfl) pa_nil)) rfl)
          (pss_cons (ps_expr (pe_bm PySem.F.plainAttrs_list PySem.F.slot_list_append PySem.F.type_list_append mt_append (pe_fld (pv 0) rfl) (pa_cons (pe_make I.mkD I.GD hr2 rfl Dk.m I.bD .nil pass0 (pa_cons (pe_methR (pv 1) C.cl T.mT T.FT hr4 (passes_call (takes_of rfl rfl rfl rfl) fun _ _ _ _ h => h) (pa_cons (pe_glob (v := .str "a name") rfl gA ⟨_, rfl⟩) pa_nil)) (pa_cons (pv 3) (pa_cons (pe_fld (pv 1) rfl) pa_nil)))) pa_nil)))
          (pss_one (ps_ret (pe_ix ix_list (pe_fld (pv 0) rfl) (pe_un un_neg pe_int) (fun _ _ => rfl)))))) pss_nil)
      (pss_cons (ps_if (pt_cmpR op_eq (pv 3) pe_str (nomark _))
          (pss_cons (ps_fld (pv 0) pe_int rfl) (pss_one (ps_fld (pv 0) (pe_call GDs hr8 rfl Gr.deeds.m Gr.deeds.F.kp Gr.deeds.b .nil (passes_call (takes_of rfl rfl rfl rfl) fun _ _ _ _ h => h) (pa_cons (pv 1) pa_nil)) rfl)))
          (pss_one (ps_if (pt_cmpR op_eq (pv 3) pe_str (nomark _))
            (pss_cons (ps_fld (pv 0) pe_int rfl) (pss_one (ps_fld (pv 0) (pe_call GDs hr8 rfl Gr.deeds.m Gr.deeds.F.kp Gr.deeds.b .nil (passes_call (takes_of rfl rfl rfl rfl) fun _ _ _ _ h => h) (pa_cons (pv 1) pa_nil)) rfl)))
            (pss_cons (ps_fld (pv 0) pe_int rfl) (pss_cons (ps_expr (pe_bm PySem.F.plainAttrs_list PySem.F.slot_list_append PySem.F.type_list_append mt_append (pe_fld (pv 0) rfl) (pa_cons (pe_call GM hr rfl Gr.move.m Gr.move.F.kp Gr.move.b .nil (passes_call (takes_of rfl rfl rfl rfl) fun _ _ _ _ h => h) (pa_cons (pv 1) pa_nil)) pa_nil)))
              (pss_one (ps_expr (pe_bm PySem.F.plainAttrs_list PySem.F.slot_list_append PySem.F.type_list_append mt_append (pe_fld (pv 0) rfl) (pa_cons (pe_fld (pv 1) rfl) pa_nil)))))))))
      (pss_one (ps_ret pe_non))))), ?_⟩
    unfold innerM at ac
    cases hk : rs[k]? with
    | none =>
      rw [hk] at ac
      exact ac.elim
    | some r =>
      rw [hk] at ac
      dsimp only at ac
      obtain ⟨dx, vi, vo, mvs, h1, _, _, _, _, _, _, h8⟩ := s.ar.at_ k r hk
      refine Evl.q_cut (M := fun σ' H' => ∃ c, Ex H H' ∧ σ' = [some (.ref (loc (4 * k))), some (.ref p), some (.ref c), none] ∧ SqT K H' c ((nextWords r.kind r.passed).map V.str)) ?_ ?_
      · exact ⟨.ref (loc (4 * k)), rfl, loc (4 * k), dx, _, rfl, h1, rfl, loc (4 * k), dx, _, r.kind, r.passed, rfl, h1, rfl, rfl, h8, fun c H' e hc => ⟨c, e, rfl, hc⟩⟩
      rintro σ' H1 ⟨c, e1, rfl, hc⟩
      have hz : (nextWords r.kind r.passed).length ≤ 100000 := by
        have h1 : (INNER.drop r.passed).length ≤ 3 := by
          rw [List.length_drop]
          show 3 - r.passed ≤ 3
          omega
        have h2 : (if inV (.str r.kind) (FULL.map V.str) then SORTSs else []).length ≤ 6 := by
          split
          · decide
          · decide
        unfold nextWords
        rw [List.length_append]
        omega
      refine q_pyI (py_takeS (E := E) (g := T.aT) rfl rfl hc (s.w.ex e1) hz) ac (FrA.refl.fr (Fr.ex e1)) fun wd j ac v H2 f2 hW2 hv => ?_
      subst hv
      have f02 : Fr p H H2 := (Fr.ex e1).trans f2
      refine q_when (b := !inV (.str wd) (INNER.map V.str)) (et_test (ev_op (ev_var rfl) ev_c (rv_niT (hI _) rfl (flat_strs INNER)))) (fun hb H3 e3 => ?_) (fun hb H3 e3 => ?_)
      · simp only [hb, if_true] at ac
        exact br_new (D := { nx := _, rt := Q }) hI e0 s hk (f02.trans (Fr.ex e3)) (hW2.ex e3) ac rfl
      simp only [hb, Bool.false_eq_true, if_false] at ac
      have f03 := f02.trans (Fr.ex e3)
      have hW3 := hW2.ex e3
      refine q_if (b := decide (V.str wd = V.str "into")) (et_test (ev_op (ev_var rfl) ev_c (rv_eq rfl))) (fun hc H4 e4 => ?_) (fun hc H4 e4 => ?_)
      · simp only [hc, if_true] at ac
        exact br_into (D := { nx := fun _ H' => Q .non H', rt := Q }) (tz := tRet (tC .non)) s hk (f03.trans (Fr.ex e4)) (hW3.ex e4) ac (fun H5 q => q)
      simp only [hc, Bool.false_eq_true, if_false] at ac
      have f04 := f03.trans (Fr.ex e4)
      have hW4 := hW3.ex e4
      refine s_if (b := decide (V.str wd = V.str "out")) (et_test (ev_op (ev_var rfl) ev_c (rv_eq rfl))) (fun hd H5 e5 => ?_) (fun hd H5 e5 => ?_)
      · simp only [hd, if_true] at ac
        exact br_out (D := { nx := fun _ H' => Q .non H', rt := Q }) (tz := tRet (tC .non)) s hk (f04.trans (Fr.ex e5)) (hW4.ex e5) ac (fun H5 q => q)
      simp only [hd, Bool.false_eq_true, if_false] at ac
      exact br_go (D := { nx := fun _ H' => Q .non H', rt := Q }) (tz := tRet (tC .non)) s hk (f04.trans (Fr.ex e5)) (hW4.ex e5) ac (fun H5 q => q)
end
end Prs
set_option Elab.async false
set_option linter.all false
set_option maxRecDepth 100000
set_option maxHeartbeats 4000000
namespace Prs
open PySem PySem.Spec PyProof.Rows L2 Evl
abbrev sFin : Stmt := inClass (top 53) 3
def finAll (f : Nat → Option PyData) : List Nat → Option (List PyData)
  | [] => some []
  | k :: ks => match f k with
    | none => none
    | some d => match finAll f ks with
      | none => none
      | some ds => some (d :: ds)
def finM : Nat → List Rc → Nat → Option PyData
  | 0, _, _ => none
  | n + 1, rs, k => match rs[k]? with
    | none => none
    | some r => if r.kids.length < 40000 then (match finAll (finM n rs) r.kids with
      | none => none
      | some ds => some (.tuple [.str r.name, .str r.kind, .tuple ds, r.into, r.out, .tuple r.moves])) else none
section
variable {P : Program} {w : World} {K : PySem.W.Frag} {mg : Str → Option Value} {base : Heap}
def spFin (Dk : Dc K mg) (n : Nat) : Sp := fun vs H Q _ => ∃ H0 loc rs k d, vs = [.ref (loc (4 * k))] ∧ Ar Dk.D H0 H loc rs ∧ finM n rs k = some d ∧ ∀ v H', Ex H H' → DT H' d v → Q v H'
theorem scFin : FnScope ["self", "stands", "draft"] ["self"] (defScope sFin) := ⟨rfl, rfl, rfl, by decide +kernel, rfl, by decide +kernel, by decide +kernel⟩
theorem Ar.ex {D : Addr} {H0 H H' : Hp} {loc : Nat → Addr} {rs : List Rc} (h : Ar D H0 H loc rs) (e : Ex H H') : Ar D H0 H' loc rs := h.fr (fun i hi o ho => e _ _ ho) (TF.ex e)
theorem lf_name {r : Rc} {vi vo : V} {am an ad : Addr} : (dfl r vi vo am an ad).lookup ("name" : Str) = some (.str r.name) := rfl
theorem lf_kind {r : Rc} {vi vo : V} {am an ad : Addr} : (dfl r vi vo am an ad).lookup ("kind" : Str) = some (.str r.kind) := rfl
theorem lf_into {r : Rc} {vi vo : V} {am an ad : Addr} : (dfl r vi vo am an ad).lookup ("into" : Str) = some vi := rfl
theorem lf_out {r : Rc} {vi vo : V} {am an ad : Addr} : (dfl r vi vo am an ad).lookup ("out" : Str) = some vo := rfl
theorem lf_moves {r : Rc} {vi vo : V} {am an ad : Addr} : (dfl r vi vo am an ad).lookup ("moves" : Str) = some (.ref am) := rfl
theorem lf_drafts {r : Rc} {vi vo : V} {am an ad : Addr} : (dfl r vi vo am an ad).lookup ("drafts" : Str) = some (.ref ad) := rfl
/-- data made, whatever it stands at -/
def EvD (te : TE) (σ : L2.St) (H : Hp) (d : PyData) : Prop := ∀ H1, Ex H H1 → ∀ Q : VK, (∀ v H2, Ex H1 H2 → DT H2 d v → Q v H2) → te σ H1 Q
def EvDs (ta : TA) (σ : L2.St) (H : Hp) (ds : List PyData) : Prop := ∀ H1, Ex H H1 → ∀ Q : List V → Hp → Prop, (∀ vs H2, Ex H1 H2 → DTs H2 ds vs → Q vs H2) → ta σ H1 Q
section
variable {te : TE} {ta : TA} {σ : L2.St} {H : Hp} {d : PyData} {ds : List PyData} {v : V}
theorem evd_of (h : Ev te σ H v) (hd : DT H d v) : EvD te σ H d := fun H1 e Q q => h H1 e _ fun H2 e2 => q v H2 e2 (DT.tf (TF.ex (Ex.trans e e2)) _ _ hd)
theorem evds_nil : EvDs tNil σ H [] := fun H1 e Q q => q [] H1 (Ex.refl H1) dts_nil
theorem evds_cons (h : EvD te σ H d) (h2 : EvDs ta σ H ds) : EvDs (tCons te ta) σ H (d :: ds) := fun H1 e Q q => h H1 e _ fun v H2 e2 hv => h2 H2 (Ex.trans e e2) _ fun vs H3 e3 hvs => q (v :: vs) H3 (Ex.trans e2 e3) (dts_cons (DT.tf (TF.ex e3) _ _ hv) hvs)
theorem evd_tup (h : EvDs ta σ H ds) (hz : ds.length ≤ 100000) : EvD (tTup ta) σ H (.tuple ds) := fun H1 e Q q => h H1 e _ fun vs H2 e2 hvs => ⟨sz_of (by rw [DTs.len hvs]; exact hz), fun p hp => q (.ref p) _ (Ex.trans e2 (fr_new hp)) (dt_tup upd_same (DTs.tf (TF.ex (fr_new hp)) _ _ hvs))⟩
theorem evd_tupOf {l : Addr} {xs : List V} (h : Ev te σ H (.ref l)) (hl : H l = some (.lst xs)) (hd : DTs H ds xs) : EvD (tCB (fun xs H Q => ∃ p ys, xs = [.ref p] ∧ ((SqL K H p ys ∧ ∀ l, H l = none → Q (.ref l) (L2.upd H l (.tup ys))) ∨ (SqT K H p ys ∧ Q (.ref p) H))) (tCons te tNil)) σ H (.tuple ds) := fun H1 e Q q =>
  h H1 e _ fun H2 e2 => ⟨l, xs, rfl, .inl ⟨sq_of (e2 _ _ (e _ _ hl)), fun p hp => q (.ref p) _ (Ex.trans e2 (fr_new hp)) (dt_tup upd_same (DTs.tf (TF.ex (fr_new hp)) _ _ (DTs.tf (TF.ex (Ex.trans e e2)) _ _ hd)))⟩⟩
end
theorem TF.fr' {l : Addr} {xs ys : List V} {H : Hp} (h : H l = some (.lst xs)) : TF H (L2.upd H l (.lst ys)) := fun b zs hb => by
  have : b ≠ l := fun z => by
    rw [z, h] at hb
    cases hb
  rw [upd_ne this]
  exact hb
theorem ok_fin {f : Addr} {fd : FuncData} (Dk : Dc K mg) (F : Fun K "finished" "Draft.finished" sFin f fd) (bF : Binds K fd ["self"] []) (mF : Meth K Dk.D "finished" f) (gT : mg "tuple" = none) : ∀ n, FnOk P w K mg base CX0 n f fd ["self"] (spFin Dk n)
  | 0 => by
    refine ⟨fun vs H Q E h => ?_, fun A outer s H args us vs Q E _ _ _ _ h => ?_⟩
    · obtain ⟨H0, loc, rs, k, d, rfl, _⟩ := h
      rfl
    · obtain ⟨H0, loc, rs, k, d, rfl, _, h, _⟩ := h
      cases h
  | n + 1 => by
    have GF := ok_fin Dk F bF mF gT n
    refine F.ok scFin (fun vs H Q E h => ?_) (fun cdv A outer s0 H vs Q E hr h => ?_)
    · obtain ⟨H0, loc, rs, k, d, rfl, _⟩ := h
      rfl
    · obtain ⟨H0, loc, rs, k, d, rfl, ar, hf, q⟩ := h
      refine ⟨_, Evl.pss_cut (ps_set (i := 1) scFin.nd rfl (.inl rfl) (pe_callTy call_tuple_of rfl gT rfl (pa_cons (pe_lc (te := tMeth Dk.D "finished" (spFin Dk n) [] E0 (tVar 2) tNil) (own := [("draft", 2)]) (g := gName 2) (tt := tYes) rfl scFin.nd (pi_list (pe_fld (pv 0) rfl)) (blkOk_by (N := ["self", "stands", "draft"]) (sc := defScope sFin) (by decide +kernel))
          (fun _ _ _ _ _ => pg_name (i := 2) scFin.nd rfl (Or.inl rfl)) (fun _ _ _ _ _ => pts_nil) (fun _ _ _ _ _ => pe_meth0 (pv 2) Dk.cl mF GF hr bF .nil pass0)) pa_nil)))
        (pss_one (ps_ret (pe_tup (pa_cons (pe_fld (pv 0) rfl) (pa_cons (pe_fld (pv 0) rfl) (pa_cons (pv 1) (pa_cons (pe_fld (pv 0) rfl) (pa_cons (pe_fld (pv 0) rfl) (pa_cons (pe_callTy call_tuple_of rfl gT rfl (pa_cons (pe_fld (pv 0) rfl) pa_nil)) pa_nil))))))))), ?_⟩
      unfold finM at hf
      cases hk : rs[k]? with
      | none =>
        rw [hk] at hf
        cases hf
      | some r =>
        rw [hk] at hf
        dsimp only at hf
        split at hf
        case isFalse => cases hf
        case isTrue hz =>
        cases ha : finAll (finM n rs) r.kids with
        | none =>
          rw [ha] at hf
          cases hf
        | some ds =>
          rw [ha] at hf
          cases hf
          obtain ⟨dx, vi, vo, mvs, h1, d2, d3, h4, d5, h6, h7, h8⟩ := ar.at_ k r hk
          refine Evl.q_cut (M := fun σ' H' => ∃ v, Ex H H' ∧ σ' = [some (.ref (loc (4 * k))), some v, none] ∧ DT H' (.tuple ds) v) ?_ ?_
          · refine ⟨.ref (loc (4 * k)), rfl, loc (4 * k), Dk.D, dx, _, _, rfl, h1, Dk.cl, Dk.nDrafts, lf_drafts, loc (4 * k + 3), rfl, ⟨_, sq_of h7⟩, fun Dl hD => ?_⟩
            refine lc_list (K := K) (xs := r.kids.map fun j => V.ref (loc (4 * j))) (fun i H' => ∃ acc ds1 ds2, Ex H H' ∧ H' Dl = some (.lst acc) ∧ acc.length = i ∧ ds = ds1 ++ ds2 ∧ finAll (finM n rs) (r.kids.drop i) = some ds2 ∧ DTs H' ds1 acc)
              ⟨[], [], ds, Ex.new hD, upd_same, rfl, rfl, ha, dts_nil⟩ (fun i H' _ p => sq_of (by obtain ⟨_, _, _, e, _⟩ := p; exact e _ _ h7)) (fun i x H' hi p => ?_) (fun H' p => ?_)
            · obtain ⟨acc, ds1, ds2, e, hl, hn, hds, hfi, hd1⟩ := p
              rw [List.getElem?_map] at hi
              cases hki : r.kids[i]? with
              | none =>
                rw [hki] at hi
                cases hi
              | some kk =>
                rw [hki] at hi
                cases hi
                have hil := (List.getElem?_eq_some_iff.mp hki).1
                have hdrop : r.kids.drop i = kk :: r.kids.drop (i + 1) := by
                  rw [List.drop_eq_getElem_cons hil]
                  congr 1
                  exact (List.getElem?_eq_some_iff.mp hki).2
                rw [hdrop] at hfi
                unfold finAll at hfi
                cases hd : finM n rs kk with
                | none =>
                  rw [hd] at hfi
                  cases hfi
                | some d =>
                  rw [hd] at hfi
                  cases hr' : finAll (finM n rs) (r.kids.drop (i + 1)) with
                  | none =>
                    rw [hr'] at hfi
                    cases hfi
                  | some ds3 =>
                    rw [hr'] at hfi
                    cases hfi
                    refine ⟨rfl, ?_⟩
                    have hkk := ar.kid k r hk kk (List.mem_of_getElem? hki)
                    have arH := ar.ex e
                    obtain ⟨dx2, vi2, vo2, mv2, g1, _⟩ := arH.at_ kk rs[kk] (List.getElem?_eq_getElem hkk)
                    refine ⟨.ref (loc (4 * kk)), rfl, loc (4 * kk), dx2, _, rfl, g1, rfl, H0, loc, rs, kk, d, rfl, arH, hd, fun v H3 e3 hv => ?_⟩
                    have hl3 := e3 _ _ hl
                    refine ⟨acc, hl3, sz_lt (by omega), acc ++ [v], ds1 ++ [d], ds3, Ex.mut (Ex.trans e e3) hD, upd_same, by rw [List.length_append, hn]; rfl, by rw [hds, List.append_assoc]; rfl, rfl, ?_⟩
                    have t3 : TF H3 (L2.upd H3 Dl (.lst (acc ++ [v]))) := TF.fr' hl3
                    exact DTs.tf t3 _ _ (dts_snoc hv (DTs.tf (TF.ex e3) _ _ hd1))
            · obtain ⟨acc, ds1, ds2, e, hl, hn, hds, hfi, hd1⟩ := p
              rw [List.length_map, List.drop_length] at hfi
              cases hfi
              rw [List.append_nil] at hds
              subst hds
              refine ⟨Dl, acc, rfl, .inl ⟨sq_of hl, fun l hn => ⟨.ref l, Ex.trans e (fr_new hn), rfl, dt_tup upd_same (DTs.tf (TF.ex (fr_new hn)) _ _ hd1)⟩⟩⟩
          rintro σ' H1 ⟨v, e1, rfl, hv⟩
          have t1 := TF.ex e1
          have g1 := e1 _ _ h1
          have x : EvD (tTup (tCons (tFld K (tVar 0) "name") (tCons (tFld K (tVar 0) "kind") (tCons (tVar 1) (tCons (tFld K (tVar 0) "into") (tCons (tFld K (tVar 0) "out") (tCons (tCB (fun xs H Q => ∃ p ys, xs = [.ref p] ∧ ((SqL K H p ys ∧ ∀ l, H l = none → Q (.ref l) (L2.upd H l (.tup ys))) ∨ (SqT K H p ys ∧ Q (.ref p) H))) (tCons (tFld K (tVar 0) "moves") tNil)) tNil)))))))
              [some (.ref (loc (4 * k))), some v, none] H1 (.tuple [.str r.name, .str r.kind, .tuple ds, r.into, r.out, .tuple r.moves]) :=
            evd_tup (evds_cons (evd_of (ev_fld (ev_var rfl) g1 Dk.cl Dk.nName lf_name) dt_str) (evds_cons (evd_of (ev_fld (ev_var rfl) g1 Dk.cl Dk.nKind lf_kind) dt_str) (evds_cons (evd_of (ev_var rfl) hv) (evds_cons (evd_of (ev_fld (ev_var rfl) g1 Dk.cl Dk.nInto lf_into) (DT.tf t1 _ _ d2)) (evds_cons (evd_of (ev_fld (ev_var rfl) g1 Dk.cl Dk.nOut lf_out) (DT.tf t1 _ _ d3))
              (evds_cons (evd_tupOf (ev_fld (ev_var rfl) g1 Dk.cl Dk.nMoves lf_moves) (e1 _ _ h4) (DTs.tf t1 _ _ d5)) evds_nil)))))) (by show 6 ≤ 100000; decide)
          exact x H1 (Ex.refl H1) _ fun v H2 e2 hv => q v H2 (Ex.trans e1 e2) hv
end
end Prs
set_option Elab.async false
set_option linter.all false
set_option maxRecDepth 100000
set_option maxHeartbeats 4000000
namespace Prs
open PySem PySem.Spec PyProof.Rows L2 Evl
abbrev sSInit : Stmt := inClass (top 54) 0
abbrev sChart : Stmt := inClass (top 54) 3
abbrev sHead : Stmt := inClass (top 54) 2
/-- a text as far as it was read -/
structure Sh where
  facts : List PyData
  haps : List PyData
  root : Option Nat
  opened : List Nat
  rs : List Rc
def rootV (loc : Nat → Addr) : Option Nat → V
  | none => .non
  | some j => .ref (loc (4 * j))
def sfl (rv : V) (fl hl ol kl : Addr) : List (Str × V) := putF "known" (.ref kl) (putF "opened" (.ref ol) (putF "root" rv (putF "happenings" (.ref hl) (putF "facts" (.ref fl) []))))
structure Sc (K : PySem.W.Frag) (mg : Str → Option Value) where
  S : Addr
  cl : Cls K S
  nFacts : NoAttr K S "facts"
  nHaps : NoAttr K S "happenings"
  nRoot : NoAttr K S "root"
  nOpened : NoAttr K S "opened"
  nKnown : NoAttr K S "known"
  m : mg "Sheet" = some (.ref S)
  /-- so many kinds of words are known at most -/
  kb : Nat
def Sc.at {K : PySem.W.Frag} {mg : Str → Option Value} (Sk : Sc K mg) (k : Nat) : Sc K mg := { Sk with kb := k }
section
variable {P : Program} {w : World} {K : PySem.W.Frag} {mg : Str → Option Value} {base : Heap} {C : Cn P w K mg base}
/-! ### Sheet.__init__ -/
def spSInit (Sk : Sc K mg) : Sp := fun vs H Q _ => ∃ p dx, vs = [.ref p] ∧ H p = some (.ins Sk.S dx []) ∧
  ∀ H' fl hl ol kl kvs, Fr p H H' → H' p = some (.ins Sk.S dx (sfl .non fl hl ol kl)) → H' fl = some (.lst []) → H' hl = some (.lst []) → H' ol = some (.lst []) → H' kl = some (.dK kvs) → KnOk kvs → kvs.length ≤ 31 → H fl = none → H hl = none → H ol = none → H kl = none → fl ≠ p → hl ≠ p → ol ≠ p → hl ≠ fl → ol ≠ fl → ol ≠ hl → kl ≠ p → kl ≠ fl → kl ≠ hl → kl ≠ ol → Q .non H'
theorem scSInit : FnScope ["self"] ["self"] (defScope sSInit) := ⟨rfl, rfl, rfl, by decide +kernel, rfl, by decide +kernel, by decide +kernel⟩
theorem ok_sinit {f fK : Addr} {fd fdK : FuncData} (Sk : Sc K mg) (F : Fun K "__init__" "Sheet.__init__" sSInit f fd) (GK : FnOk P w K mg base CX0 1 fK fdK [] spKnown) (bK : Binds K fdK [] []) (kK : PySem.W.keepIn K (.ref fK) = true) (mK : mg "known_words" = some (.ref fK)) : FnOk P w K mg base CX0 2 f fd ["self"] (spSInit Sk) := by
  refine F.ok scSInit (fun vs H Q E h => ?_) (fun cdv A outer s0 H vs Q E hr h => ?_)
  · obtain ⟨p, dx, rfl, _⟩ := h
    rfl
  · obtain ⟨p, dx, rfl, hp, q⟩ := h
    refine ⟨_, pss_cons (ps_fld (pv 0) (pe_lst pa_nil) rfl) (pss_cons (ps_fld (pv 0) (pe_lst pa_nil) rfl) (pss_cons (ps_fld (pv 0) pe_non rfl) (pss_cons (ps_fld (pv 0) (pe_lst pa_nil) rfl) (pss_one (ps_fld (pv 0) (pe_call0 GK hr rfl mK kK bK .nil pass0) rfl))))), ?_⟩
    refine q_fldL rfl hp Sk.cl Sk.nFacts (by decide) fun fl H1 n1 e1 f1 t1 h1 => ?_
    refine q_fldL rfl h1 Sk.cl Sk.nHaps (by show 1 < 1000; decide) fun hl H2 n2 e2 f2 t2 h2 => ?_
    refine q_fldS rfl ev_c h2 Sk.cl Sk.nRoot (by show 2 < 1000; decide) fun H3 f3 h3 => ?_
    refine q_fldL rfl h3 Sk.cl Sk.nOpened (by show 3 < 1000; decide) fun ol H4 n4 e4 f4 t4 h4 => ?_
    refine ⟨rfl, fun kl kvs H5 nk e5 hk ok hn => ?_⟩
    have h5 := e5 _ _ h4
    have kp := ne_old h4 nk
    refine ⟨.ref p, rfl, p, Sk.S, dx, _, rfl, h5, Sk.cl, Sk.nKnown, by show 4 < 1000; decide, ?_⟩
    have f5 : Fr p H4 (L2.upd H5 p (.ins Sk.S dx (putF "known" (.ref kl) (putF "opened" (.ref ol) (putF "root" .non (putF "happenings" (.ref hl) (putF "facts" (.ref fl) []))))))) := Fr.upd (Fr.ex e5)
    have f45 := f4.trans f5
    have f35 := f3.trans f45
    have f25 := f2.trans f35
    refine q _ fl hl ol kl kvs (f1.trans f25) upd_same (f25 _ _ e1 t1) (f35 _ _ e2 t2) (f5 _ _ e4 t4) (by rw [upd_ne kp]; exact hk) ok hn n1 (none_back f1 e2 n2) (none_back (f1.trans (f2.trans f3)) e4 n4) (fr_none (f1.trans (f2.trans (f3.trans f4))) kp nk) e1 e2 e4 (ne_old t1 n2) (ne_old (f3 _ _ e1 (f2 _ _ e1 t1)) n4) (ne_old (f3 _ _ e2 t2) n4) kp (ne_old (f4 _ _ e1 (f3 _ _ e1 (f2 _ _ e1 t1))) nk) (ne_old (f4 _ _ e2 (f3 _ _ e2 t2)) nk) (ne_old t4 nk)
/-! ### the sheet's places: itself, facts, happenings, opened -/
def Sr (S : Addr) (H : Hp) (loc sl : Nat → Addr) (st : Sh) : Prop := ∃ dx fvs hvs, H (sl 0) = some (.ins S dx (sfl (rootV loc st.root) (sl 1) (sl 2) (sl 3) (sl 4))) ∧ H (sl 1) = some (.lst fvs) ∧ DTs H st.facts fvs ∧ H (sl 2) = some (.lst hvs) ∧ DTs H st.haps hvs ∧
  H (sl 3) = some (.lst (st.opened.map fun j => V.ref (loc (4 * j))))
structure Shs (Sk : Sc K mg) (Dk : Dc K mg) (H0 H : Hp) (loc sl : Nat → Addr) (st : Sh) : Prop where
  ar : Ar Dk.D H0 H loc st.rs
  at_ : Sr Sk.S H loc sl st
  inj : ∀ a b, a < 5 → b < 5 → sl a = sl b → a = b
  fresh : ∀ a, a < 5 → H0 (sl a) = none
  apart : ∀ a i, a < 5 → i < 4 * st.rs.length → sl a ≠ loc i
  op : ∀ j, j ∈ st.opened → j < st.rs.length
  rt : ∀ j, st.root = some j → j < st.rs.length
  kn : ∃ kvs, H (sl 4) = some (.dK kvs) ∧ KnOk kvs ∧ kvs.length ≤ Sk.kb
theorem Shs.cell {Sk : Sc K mg} {Dk : Dc K mg} {H0 H : Hp} {loc sl : Nat → Addr} {st : Sh} (s : Shs Sk Dk H0 H loc sl st) : ∀ a, a < 5 → ∃ o, H (sl a) = some o := fun a ha => by
  obtain ⟨dx, fvs, hvs, h0, h1, d1, h2, d2, h3⟩ := s.at_
  obtain ⟨kvs, h4, _⟩ := s.kn
  match a, ha with
  | 0, _ => exact ⟨_, h0⟩
  | 1, _ => exact ⟨_, h1⟩
  | 2, _ => exact ⟨_, h2⟩
  | 3, _ => exact ⟨_, h3⟩
  | 4, _ => exact ⟨_, h4⟩
/-! ### chart -/
def chartM (n : Nat) (st : Sh) : Option PyData := match st.root with
  | none => none
  | some k => match finM n st.rs k with
    | none => none
    | some d => some (.tuple [.tuple st.facts, .tuple st.haps, d])
def spChart (Sk : Sc K mg) (Dk : Dc K mg) (n : Nat) : Sp := fun vs H Q _ => ∃ kb H0 loc sl st d, vs = [.ref (sl 0)] ∧ Shs (Sk.at kb) Dk H0 H loc sl st ∧ chartM n st = some d ∧ ∀ v H', Ex H H' → DT H' d v → Q v H'
theorem scChart : FnScope ["self"] ["self"] (defScope sChart) := ⟨rfl, rfl, rfl, by decide +kernel, rfl, by decide +kernel, by decide +kernel⟩
theorem ls_known {rv : V} {fl hl ol kl : Addr} : (sfl rv fl hl ol kl).lookup ("known" : Str) = some (.ref kl) := rfl
theorem ls_facts {rv : V} {fl hl ol kl : Addr} : (sfl rv fl hl ol kl).lookup ("facts" : Str) = some (.ref fl) := rfl
theorem ls_haps {rv : V} {fl hl ol kl : Addr} : (sfl rv fl hl ol kl).lookup ("happenings" : Str) = some (.ref hl) := rfl
theorem ls_root {rv : V} {fl hl ol kl : Addr} : (sfl rv fl hl ol kl).lookup ("root" : Str) = some rv := rfl
theorem ls_opened {rv : V} {fl hl ol kl : Addr} : (sfl rv fl hl ol kl).lookup ("opened" : Str) = some (.ref ol) := rfl
theorem ok_chart {f fF : Addr} {fd fdF : FuncData} {n : Nat} (Sk : Sc K mg) (Dk : Dc K mg) (F : Fun K "chart" "Sheet.chart" sChart f fd) (GF : FnOk P w K mg base CX0 n fF fdF ["self"] (spFin Dk n)) (bF : Binds K fdF ["self"] []) (mF : Meth K Dk.D "finished" fF) (gT : mg "tuple" = none) : FnOk P w K mg base CX0 (n + 1) f fd ["self"] (spChart Sk Dk n) := by
  refine F.ok scChart (fun vs H Q E h => ?_) (fun cdv A outer s0 H vs Q E hr h => ?_)
  · obtain ⟨kb, H0, loc, sl, st, d, rfl, _⟩ := h
    rfl
  · obtain ⟨kb, H0, loc, sl, st, d, rfl, s, hc, q⟩ := h
    refine ⟨_, pss_one (ps_ret (pe_tup (pa_cons (pe_callTy call_tuple_of rfl gT rfl (pa_cons (pe_fld (pv 0) rfl) pa_nil)) (pa_cons (pe_callTy call_tuple_of rfl gT rfl (pa_cons (pe_fld (pv 0) rfl) pa_nil)) (pa_cons (pe_meth0 (pe_fld (pv 0) rfl) Dk.cl mF GF hr bF .nil pass0) pa_nil))))), ?_⟩
    unfold chartM at hc
    cases hr' : st.root with
    | none =>
      rw [hr'] at hc
      cases hc
    | some k =>
      rw [hr'] at hc
      dsimp only at hc
      cases hf : finM n st.rs k with
      | none =>
        rw [hf] at hc
        cases hc
      | some t =>
        rw [hf] at hc
        cases hc
        obtain ⟨dx, fvs, hvs, h0, h1, d1, h2, d2, h3⟩ := s.at_
        have hkl := s.rt k hr'
        obtain ⟨dx2, vi, vo, mvs, g1, _⟩ := s.ar.at_ k st.rs[k] (List.getElem?_eq_getElem hkl)
        have eF : EvD (tMeth Dk.D "finished" (spFin Dk n) [] E0 (tFld K (tVar 0) "root") tNil) [some (.ref (sl 0))] H t := fun H1 e Q q => by
          have x : Ev (tFld K (tVar 0) "root") [some (.ref (sl 0))] H (.ref (loc (4 * k))) := ev_fld (ev_var rfl) h0 Sk.cl Sk.nRoot (by rw [ls_root, hr']; rfl)
          exact x H1 e _ fun H2 e2 => ⟨loc (4 * k), dx2, _, rfl, e2 _ _ (e _ _ g1), rfl, H0, loc, st.rs, k, t, rfl, s.ar.ex (Ex.trans e e2), hf, fun v H3 e3 hv => q v H3 (Ex.trans e2 e3) hv⟩
        have x : EvD _ [some (.ref (sl 0))] H (.tuple [.tuple st.facts, .tuple st.haps, t]) :=
          evd_tup (evds_cons (evd_tupOf (K := K) (ev_fld (ev_var (i := 0) rfl) h0 Sk.cl Sk.nFacts ls_facts) h1 d1) (evds_cons (evd_tupOf (K := K) (ev_fld (ev_var (i := 0) rfl) h0 Sk.cl Sk.nHaps ls_haps) h2 d2) (evds_cons eF evds_nil))) (by show 3 ≤ 100000; decide)
        exact x H (Ex.refl H) _ q
end
end Prs
set_option Elab.async false
set_option linter.all false
set_option maxRecDepth 100000
set_option maxHeartbeats 4000000
namespace Prs
open PySem PySem.Spec PyProof.Rows L2 Evl
def headWords (st : Sh) : List Str := (if st.haps.isEmpty then (["fact", "on"] : List Str) else ["on"]) ++ SORTSs
def headM (st : Sh) (num : Int) (ws : List Wd) (i : Nat) : Res (Sh × Option Nat) := andThen (takeM ws (headWords st) i) fun wd j =>
  if decide (V.str wd = V.str "fact") then andThen (factM ws j) fun d j => (if st.facts.length < 50000 then told ({ st with facts := st.facts ++ [d] }, none) j else none)
  else if decide (V.str wd = V.str "on") then andThen (nameM ws j) fun d j => (if st.haps.length < 50000 then told ({ st with haps := st.haps ++ [d] }, none) j else none)
  else andThen (takeM ws ["a name"] j) fun nm j => told ({ st with rs := st.rs ++ [newRc nm wd num] }, some st.rs.length) j
section
variable {P : Program} {w : World} {K : PySem.W.Frag} {mg : Str → Option Value} {base : Heap} {C : Cn P w K mg base}
/-- the sheet beside the words of a row -/
structure ShW (Sk : Sc K mg) (Dk : Dc K mg) (C : Cn P w K mg base) (H0 H : Hp) (loc sl : Nat → Addr) (st : Sh) (p : Addr) (num : Nm) (ws : List Wd) (i : Nat) : Prop where
  sh : Shs Sk Dk H0 H loc sl st
  w : WAt C.W H p num ws i
  p0 : H0 p = none
  sepA : ∀ i, i < 4 * st.rs.length → loc i ≠ p ∧ num.off (loc i)
  sepS : ∀ a, a < 5 → sl a ≠ p ∧ num.off (sl a)
section
variable {Sk : Sc K mg} {Dk : Dc K mg} {H0 H H1 H2 H' : Hp} {loc sl : Nat → Addr} {st : Sh} {p : Addr} {num : Nm} {ws : List Wd} {i j k : Nat} {Q : VK} {E : XK} {D : Ends} {tz : TS} {v2 v3 : V}
theorem Sr.fr {S : Addr} (s : Sr S H loc sl st) (e : ∀ a, a < 4 → ∀ o, H (sl a) = some o → H' (sl a) = some o) (t : TF H H') : Sr S H' loc sl st := by
  obtain ⟨dx, fvs, hvs, h0, h1, d1, h2, d2, h3⟩ := s
  exact ⟨dx, fvs, hvs, e 0 (by decide) _ h0, e 1 (by decide) _ h1, DTs.tf t _ _ d1, e 2 (by decide) _ h2, DTs.tf t _ _ d2, e 3 (by decide) _ h3⟩
theorem ShW.fr (s : ShW Sk Dk C H0 H loc sl st p num ws i) (f : Fr p H H') (hw : WAt C.W H' p num ws j) : ShW Sk Dk C H0 H' loc sl st p num ws j := by
  have t := s.w.tf f
  exact ⟨⟨s.sh.ar.fr (fun i hi o ho => f _ _ (s.sepA i hi).1 ho) t, s.sh.at_.fr (fun a ha o ho => f _ _ (s.sepS a (by omega)).1 ho) t, s.sh.inj, s.sh.fresh, s.sh.apart, s.sh.op, s.sh.rt, s.sh.kn.imp fun kvs h => ⟨f _ _ (s.sepS 4 (by decide)).1 h.1, h.2⟩⟩, hw, s.p0, s.sepA, s.sepS⟩
theorem ex0_fr (e0 : Ex H0 H) (p0 : H0 p = none) (f : Fr p H H') : Ex H0 H' := fun b o h => f b o (fun z => by
  rw [z, p0] at h
  cases h) (e0 b o h)
theorem ex0_at (e0 : Ex H0 H) {a : Addr} (p0 : H0 a = none) (f : Fr a H H') : Ex H0 H' := ex0_fr e0 p0 f
def AccH (Sk : Sc K mg) (Dk : Dc K mg) (C : Cn P w K mg base) (p : Addr) (num : Nm) (ws : List Wd) (H0 : Hp) (sl : Nat → Addr) (Q : VK) (E : XK) : Res (Sh × Option Nat) → Prop
  | none => False
  | some (.inl c) => ∀ d H', Ex H0 H' → H' d = some (.xd [("column", .int (c : Nat)), ("row", .int num.n)]) → E (.ref C.N) (some d) H'
  | some (.inr ((st', ok), j)) => ∀ v H' loc', Ex H0 H' → ShW Sk Dk C H0 H' loc' sl st' p num ws j → v = rootV loc' ok → Q v H'
theorem AccH.bind {α δ : Type} {Q2 : δ → Hp → Prop} {R2 : Hp → δ → α → Prop} {x : Res α} {f : α → Nat → Res (Sh × Option Nat)} (h : AccH Sk Dk C p num ws H0 sl Q E (andThen x f)) (e0 : Ex H0 H1) (p0 : H0 p = none)
    (k : ∀ a j, AccH Sk Dk C p num ws H0 sl Q E (f a j) → ∀ v H2, Fr p H1 H2 → WAt C.W H2 p num ws j → R2 H2 v a → Q2 v H2) : Acc C p num ws H1 Q2 E R2 x := by
  match x, h with
  | some (.inl c), h => exact fun d H' g z => h d H' (ex0_fr e0 p0 g) z
  | some (.inr (a, j)), h => exact fun v H' g y z => k a j h v H' g y z
theorem q_pyH {α2 : Type} {σ : L2.St} {t : TE} {kk : Nat} {x : Res α2} {R2 : Hp → V → α2 → Prop} {f : α2 → Nat → Res (Sh × Option Nat)} (h : Py C p num ws E t σ H1 R2 x) (ac : AccH Sk Dk C p num ws H0 sl Q E (andThen x f)) (e0 : Ex H0 H1) (p0 : H0 p = none)
    (n : ∀ a j, AccH Sk Dk C p num ws H0 sl Q E (f a j) → ∀ v H2, Fr p H1 H2 → WAt C.W H2 p num ws j → R2 H2 v a → tz D (σ.set kk (some v)) H2) : tSeq (tAsg t (gName kk)) tz D σ H1 := h _ (AccH.bind ac e0 p0 n)
/-- a change of one of the sheet's own places -/
theorem ShW.own {st' : Sh} {a : Nat} (s : ShW Sk Dk C H0 H loc sl st p num ws i) (ha : a < 4) (f : Fr (sl a) H H') (nt : ∀ xs, H (sl a) ≠ some (.tup xs)) (d : Sr Sk.S H' loc sl st') (hrs : st'.rs = st.rs) (hop : ∀ j, j ∈ st'.opened → j < st.rs.length) (hrt : ∀ j, st'.root = some j → j < st.rs.length) : ShW Sk Dk C H0 H' loc sl st' p num ws i := by
  have t : TF H H' := fun b xs hb => f b _ (fun z => nt xs (by rw [← z]; exact hb)) hb
  have hl : st'.rs.length = st.rs.length := by rw [hrs]
  refine ⟨⟨by rw [hrs]; exact s.sh.ar.fr (fun i hi o ho => f _ _ (Ne.symm (s.sh.apart a i (by omega) hi)) ho) t, d, s.sh.inj, s.sh.fresh, by rw [hl]; exact s.sh.apart, by rw [hl]; exact hop, by rw [hl]; exact hrt, s.sh.kn.imp fun kvs h => ⟨f _ _ (fun z => by have := s.sh.inj 4 a (by decide) (by omega) z; omega) h.1, h.2⟩⟩, s.w.other f (s.sepS a (by omega)).1 (s.sepS a (by omega)).2 nt, s.p0, by rw [hl]; exact s.sepA, s.sepS⟩
end
theorem py_nameV {p : Addr} {num : Nm} {ws : List Wd} {E : XK} {σ : L2.St} {H : Hp} {kk : Nat} {ta : TA} {i : Nat} (h0 : σ[kk]? = some (some (.ref p))) (h : EvA ta σ H [.str "a name"]) (hW : WAt C.W H p num ws i) : Py C p num ws E (tMethR C.W "take" (spTake C) E (tVar kk) ta) σ H RD (nameM ws i) := py_map (py_takeV (ks := ["a name"]) h0 h hW) fun H v a r => by
  cases r
  exact dt_str
/-! ### read_head -/
def spHead (Sk : Sc K mg) (Dk : Dc K mg) (C : Cn P w K mg base) : Sp := fun vs H Q E => ∃ H0 loc sl st p num ws i, vs = [.ref (sl 0), .ref p] ∧ Ex H0 H ∧ ShW Sk Dk C H0 H loc sl st p num ws i ∧ AccH Sk Dk C p num ws H0 sl Q E (headM st num.n ws i)
theorem scHead : FnScope ["self", "words", "allowed", "word"] ["self", "words"] (defScope sHead) := ⟨rfl, rfl, rfl, by decide +kernel, rfl, by decide +kernel, by decide +kernel⟩
theorem ok_head {f : Addr} {fd : FuncData} (Sk : Sc K mg) (Dk : Dc K mg) (T : Tl C) (I : Ic Dk C T) (DF : Df K mg "read_fact" sFact ["words"]) (GF : FnOk P w K mg base (L2.CX P w) 6 DF.f DF.fd ["words"] (spG C RD factM)) (F : Fun K "read_head" "Sheet.read_head" sHead f fd) : FnOk P w K mg base (L2.CX P w) 7 f fd ["self", "words"] (spHead Sk Dk C) := by
  obtain ⟨aS, gS, hS⟩ := Dk.gS
  obtain ⟨_, gA⟩ := T.gA
  refine F.okX scHead (fun vs H Q E h => ?_) (fun cdv A outer s0 H vs Q E hr h => ?_)
  · obtain ⟨H0, loc, sl, st, p, num, ws, i, rfl, _⟩ := h
    rfl
  · obtain ⟨H0, loc, sl, st, p, num, ws, i, rfl, e0, s, ac⟩ := h
    have hr4 : Room 4 (A.deeper (envOfC "Sheet.read_head" (defScope sHead) s0.heap.objs.size f cdv)) := hr.mono (by decide)
    have hr2 : Room 2 (A.deeper (envOfC "Sheet.read_head" (defScope sHead) s0.heap.objs.size f cdv)) := hr.mono (by decide)
    refine ⟨_, Evl.pss_cut (ps_set (i := 2) scHead.nd rfl (.inl rfl) (pe_ifExp (pt_truth (pe_fld (pv 0) rfl) (fun _ => rfl)) (pe_tup (pa_cons pe_str (StX.pa_star (pe_glob (v := .ref aS) rfl gS rfl) pa_nil))) (pe_tup (pa_cons pe_str (pa_cons pe_str (StX.pa_star (pe_glob (v := .ref aS) rfl gS rfl) pa_nil))))))
      (pss_cons (ps_set (i := 3) scHead.nd rfl (.inl rfl) (pe_methS1 (pv 1) C.cl I.bT T.FT hr4 (passes_call (takes_of rfl rfl rfl rfl) fun _ _ _ _ h => h) (pv 2)))
      (pss_cons (ps_if (pt_cmpR op_eq (pv 3) pe_str (nomark _))
          (pss_one (ps_expr (pe_bm PySem.F.plainAttrs_list PySem.F.slot_list_append PySem.F.type_list_append mt_append (pe_fld (pv 0) rfl) (pa_cons (pe_call GF hr rfl DF.m DF.F.kp DF.b .nil (passes_call (takes_of rfl rfl rfl rfl) fun _ _ _ _ h => h) (pa_cons (pv 1) pa_nil)) pa_nil))))
          (pss_one (ps_if (pt_cmpR op_eq (pv 3) pe_str (nomark _))
            (pss_one (ps_expr (pe_bm PySem.F.plainAttrs_list PySem.F.slot_list_append PySem.F.type_list_append mt_append (pe_fld (pv 0) rfl) (pa_cons (pe_methR (pv 1) C.cl T.mT T.FT hr4 (passes_call (takes_of rfl rfl rfl rfl) fun _ _ _ _ h => h) (pa_cons (pe_glob (v := .str "a name") rfl gA ⟨_, rfl⟩) pa_nil)) pa_nil))))
            (pss_one (ps_ret (pe_make I.mkD I.GD hr2 rfl Dk.m I.bD .nil pass0 (pa_cons (pe_methR (pv 1) C.cl T.mT T.FT hr4 (passes_call (takes_of rfl rfl rfl rfl) fun _ _ _ _ h => h) (pa_cons (pe_glob (v := .str "a name") rfl gA ⟨_, rfl⟩) pa_nil)) (pa_cons (pv 3) (pa_cons (pe_fld (pv 1) rfl) pa_nil)))))))))
      (pss_one (ps_ret pe_non)))), ?_⟩
    unfold headM at ac
    obtain ⟨dx, fvs, hvs, h0, h1, d1, h2, d2, h3⟩ := s.sh.at_
    refine Evl.q_cut (M := fun σ' H' => ∃ c, Ex H H' ∧ σ' = [some (.ref (sl 0)), some (.ref p), some (.ref c), none] ∧ H' c = some (.tup ((headWords st).map V.str))) ?_ ?_
    · have eT : Ev (tFld K (tVar 0) "happenings") [some (.ref (sl 0)), some (.ref p), none, none] H (.ref (sl 2)) := ev_fld (ev_var rfl) h0 Sk.cl Sk.nHaps ls_haps
      unfold tAsg tIf
      refine eT H (Ex.refl H) _ fun H1 e1 => ⟨!hvs.isEmpty, .inl ⟨_, sq_of (e1 _ _ h2), rfl⟩, ?_⟩
      have eh : hvs.isEmpty = st.haps.isEmpty := by
        have := DTs.len d2
        cases hvs <;> cases hh : st.haps <;> simp_all
      rw [eh]
      cases hb : st.haps.isEmpty with
      | true =>
        refine ⟨aS, _, rfl, .inl (hS _), by show 8 ≤ sizeLine; exact sz_of (by decide), fun c hc => ⟨c, Ex.trans e1 (fr_new hc), rfl, ?_⟩⟩
        rw [upd_same]
        unfold headWords
        rw [hb]
        rfl
      | false =>
        refine ⟨aS, _, rfl, .inl (hS _), by show 7 ≤ sizeLine; exact sz_of (by decide), fun c hc => ⟨c, Ex.trans e1 (fr_new hc), rfl, ?_⟩⟩
        rw [upd_same]
        unfold headWords
        rw [hb]
        rfl
    rintro σ' H1 ⟨c, e1, rfl, hc⟩
    have hz : (headWords st).length ≤ 100000 := by
      unfold headWords
      split
      · decide
      · decide
    have s1 := s.fr (Fr.ex e1) (s.w.ex e1)
    have e01 := Ex.trans e0 e1
    refine q_pyH (py_takeS (E := E) (g := T.aT) rfl rfl (st_of hc) s1.w hz) ac e01 s.p0 fun wd j ac v H2 f2 hW2 hv => ?_
    subst hv
    have s2 := s1.fr f2 hW2
    have e02 := ex0_fr e01 s.p0 f2
    refine q_if (b := decide (V.str wd = V.str "fact")) (et_test (ev_op (ev_var rfl) ev_c (rv_eq rfl))) (fun hb H3 e3 => ?_) (fun hb H3 e3 => ?_)
    · simp only [hb, if_true] at ac
      have s3 := s2.fr (Fr.ex e3) (hW2.ex e3)
      have e03 := Ex.trans e02 e3
      obtain ⟨dx, fvs, hvs, h0, h1, d1, h2, d2, h3⟩ := s3.sh.at_
      refine ⟨.ref (sl 0), rfl, sl 0, Sk.S, dx, _, _, rfl, h0, Sk.cl, Sk.nFacts, ls_facts, Or.inl ⟨rfl, _, sq_of h1⟩, ?_⟩
      refine (py_callV (m := factM) (R := RD) (E := E) rfl s3.w) _ (AccH.bind ac e03 s.p0 fun d j ac v H4 f4 hW4 hd => ?_)
      have s4 := s3.fr f4 hW4
      have e04 := ex0_fr e03 s.p0 f4
      split at ac
      case isFalse => exact ac.elim
      case isTrue hz =>
        obtain ⟨dx, fvs', hvs, h0, h1', d1, h2, d2, h3⟩ := s4.sh.at_
        have h1'' := h1'
        rw [f4 _ _ (s.sepS 1 (by decide)).1 h1] at h1'
        cases h1'
        refine ⟨sl 1, _, v, rfl, rfl, h1'', sz_lt (by rw [DTs.len d1]; omega), ?_⟩
        have f5 : Fr (sl 1) H4 (L2.upd H4 (sl 1) (.lst (fvs ++ [v]))) := fr_upd
        have t5 : TF H4 (L2.upd H4 (sl 1) (.lst (fvs ++ [v]))) := TF.fr' h1''
        have ne : ∀ a, a < 5 → a ≠ 1 → sl a ≠ sl 1 := fun a ha n z => n (s.sh.inj a 1 ha (by decide) z)
        refine ac .non _ loc (ex0_at e04 (s.sh.fresh 1 (by decide)) f5) (s4.own (a := 1) (by decide) f5 (no_tup_lst h1'') ⟨dx, fvs ++ [v], hvs, f5 _ _ (ne 0 (by decide) (by decide)) h0, upd_same, dts_snoc (DT.tf t5 _ _ hd) (DTs.tf t5 _ _ d1), f5 _ _ (ne 2 (by decide) (by decide)) h2, DTs.tf t5 _ _ d2, f5 _ _ (ne 3 (by decide) (by decide)) h3⟩ rfl s4.sh.op s4.sh.rt) rfl
    simp only [hb, Bool.false_eq_true, if_false] at ac
    have s3 := s2.fr (Fr.ex e3) (hW2.ex e3)
    have e03 := Ex.trans e02 e3
    refine s_if (b := decide (V.str wd = V.str "on")) (et_test (ev_op (ev_var rfl) ev_c (rv_eq rfl))) (fun hb H4 e4 => ?_) (fun hb H4 e4 => ?_)
    · simp only [hb, if_true] at ac
      have s4 := s3.fr (Fr.ex e4) (s3.w.ex e4)
      have e04 := Ex.trans e03 e4
      obtain ⟨dx, fvs, hvs, h0, h1, d1, h2, d2, h3⟩ := s4.sh.at_
      refine ⟨.ref (sl 0), rfl, sl 0, Sk.S, dx, _, _, rfl, h0, Sk.cl, Sk.nHaps, ls_haps, Or.inl ⟨rfl, _, sq_of h2⟩, ?_⟩
      refine (py_nameV (E := E) rfl (ea_cons ev_c ea_nil) s4.w) _ (AccH.bind ac e04 s.p0 fun d j ac v H5 f5 hW5 hd => ?_)
      have s5 := s4.fr f5 hW5
      have e05 := ex0_fr e04 s.p0 f5
      split at ac
      case isFalse => exact ac.elim
      case isTrue hz =>
        obtain ⟨dx, fvs, hvs', h0, h1, d1, h2', d2, h3⟩ := s5.sh.at_
        have h2'' := h2'
        rw [f5 _ _ (s.sepS 2 (by decide)).1 h2] at h2'
        cases h2'
        refine ⟨sl 2, _, v, rfl, rfl, h2'', sz_lt (by rw [DTs.len d2]; omega), ?_⟩
        have f6 : Fr (sl 2) H5 (L2.upd H5 (sl 2) (.lst (hvs ++ [v]))) := fr_upd
        have t6 : TF H5 (L2.upd H5 (sl 2) (.lst (hvs ++ [v]))) := TF.fr' h2''
        have ne : ∀ a, a < 5 → a ≠ 2 → sl a ≠ sl 2 := fun a ha n z => n (s.sh.inj a 2 ha (by decide) z)
        refine ac .non _ loc (ex0_at e05 (s.sh.fresh 2 (by decide)) f6) (s5.own (a := 2) (by decide) f6 (no_tup_lst h2'') ⟨dx, fvs, hvs ++ [v], f6 _ _ (ne 0 (by decide) (by decide)) h0, f6 _ _ (ne 1 (by decide) (by decide)) h1, DTs.tf t6 _ _ d1, upd_same, dts_snoc (DT.tf t6 _ _ hd) (DTs.tf t6 _ _ d2), f6 _ _ (ne 3 (by decide) (by decide)) h3⟩ rfl s5.sh.op s5.sh.rt) rfl
    · simp only [hb, Bool.false_eq_true, if_false] at ac
      have s4 := s3.fr (Fr.ex e4) (s3.w.ex e4)
      have e04 := Ex.trans e03 e4
      refine (py_takeV (ks := ["a name"]) (E := E) rfl (ea_cons ev_c ea_nil) s4.w) _ (AccH.bind ac e04 s.p0 fun nm j ac v H5 f5 hW5 hd => ?_)
      subst hd
      have s5 := s4.fr f5 hW5
      have e05 := ex0_fr e04 s.p0 f5
      obtain ⟨dw, ts, hp5, hl5, hts5⟩ := id hW5
      refine ⟨.str wd, rfl, .ref p, rfl, p, C.W, dw, _, _, rfl, hp5, C.cl, C.nn, wf_number, fun x dx2 nx nd ned => ?_⟩
      refine ⟨x, nm, wd, num.n, dx2, rfl, upd_same, fun H6 vi2 vo2 am an ad f6 h6' hi ho ham han had nam nan nad d1' d2' d3' d4' d5' d6' => ?_⟩
      have e56 : Ex H5 H6 := fun b o hb => f6 b o (ne_of_none hb nx) (by
        rw [upd_ne (ne_of_none hb nx), upd_ne (ne_of_none hb nd)]
        exact hb)
      have nn : ∀ b, b ≠ x → (L2.upd (L2.upd H5 dx2 (.own x)) x (.ins Dk.D dx2 [])) b = none → H5 b = none := fun b hb h => by
        rw [upd_ne hb] at h
        have hbd : b ≠ dx2 := fun z => by
          rw [z, upd_same] at h
          cases h
        rw [upd_ne hbd] at h
        exact h
      have na := nn am d1' nam
      have nb := nn an d2' nan
      have nc := nn ad d3' nad
      have ar6 := s5.sh.ar.push e05 e56 nx na nb nc d1' d2' d3' d4' d5' d6' h6' hi ho ham han had
      have s6 := s5.fr (Fr.ex e56) (hW5.ex e56)
      have hl : (st.rs ++ [newRc nm wd num.n]).length = st.rs.length + 1 := by simp
      obtain ⟨dx, fvs, hvs, h0, h1, d1, h2, d2, h3⟩ := s5.sh.at_
      have cell := s5.sh.cell
      have far : ∀ a, a < 5 → ∀ b, H5 b = none → sl a ≠ b := fun a ha b hb z => by
        obtain ⟨o, ho⟩ := cell a ha
        rw [z, hb] at ho
        cases ho
      have er : rootV (loc2 loc st.rs.length x am an ad) st.root = rootV loc st.root := by
        cases hr' : st.root with
        | none => rfl
        | some k =>
          show V.ref _ = V.ref _
          rw [loc2_old (by have := s.sh.rt k hr'; omega)]
      have eo : (st.opened.map fun j => V.ref (loc2 loc st.rs.length x am an ad (4 * j))) = st.opened.map fun j => V.ref (loc (4 * j)) := List.map_congr_left fun j hj => by
        rw [loc2_old (by have := s.sh.op j hj; omega)]
      have t := TF.ex e56
      refine ⟨rfl, ?_⟩
      refine ac (.ref x) H6 (loc2 loc st.rs.length x am an ad) (Ex.trans e05 e56) ⟨⟨ar6, ⟨dx, fvs, hvs, ?_, e56 _ _ h1, DTs.tf t _ _ d1, e56 _ _ h2, DTs.tf t _ _ d2, ?_⟩, s.sh.inj, s.sh.fresh, ?_, ?_, ?_, s5.sh.kn.imp fun kvs h => ⟨e56 _ _ h.1, h.2⟩⟩, hW5.ex e56, s.p0, ?_, s.sepS⟩ ?_
      · show H6 (sl 0) = some (.ins Sk.S dx (sfl (rootV (loc2 loc st.rs.length x am an ad) st.root) (sl 1) (sl 2) (sl 3) (sl 4)))
        rw [er]
        exact e56 _ _ h0
      · show H6 (sl 3) = some (.lst (st.opened.map fun j => V.ref (loc2 loc st.rs.length x am an ad (4 * j))))
        rw [eo]
        exact e56 _ _ h3
      · intro a i ha hi
        have hi : i < 4 * (st.rs.length + 1) := by rw [← hl]; exact hi
        by_cases z : i < 4 * st.rs.length
        · rw [loc2_old z]
          exact s.sh.apart a i ha z
        · rcases loc2_new (loc := loc) (x := x) (am := am) (an := an) (ad := ad) z hi with ⟨_, y⟩ | ⟨_, y⟩ | ⟨_, y⟩ | ⟨_, y⟩ <;> rw [y]
          · exact far a ha _ nx
          · exact far a ha _ na
          · exact far a ha _ nb
          · exact far a ha _ nc
      · intro j hj
        show j < (st.rs ++ [newRc nm wd num.n]).length
        rw [hl]
        have := s.sh.op j hj
        omega
      · intro j hj
        show j < (st.rs ++ [newRc nm wd num.n]).length
        rw [hl]
        have := s.sh.rt j hj
        omega
      · intro i hi
        have hi : i < 4 * (st.rs.length + 1) := by rw [← hl]; exact hi
        by_cases z : i < 4 * st.rs.length
        · rw [loc2_old z]
          exact s.sepA i z
        · have fx := hW5.fresh nx
          have fa := hW5.fresh na
          have fb := hW5.fresh nb
          have fc := hW5.fresh nc
          rcases loc2_new (loc := loc) (x := x) (am := am) (an := an) (ad := ad) z hi with ⟨_, y⟩ | ⟨_, y⟩ | ⟨_, y⟩ | ⟨_, y⟩ <;> rw [y] <;> assumption
      · show V.ref x = V.ref (loc2 loc st.rs.length x am an ad (4 * st.rs.length))
        rw [loc2_0]
end
end Prs
set_option Elab.async false
set_option linter.all false
set_option maxRecDepth 100000
set_option maxHeartbeats 4000000
namespace Prs
open PySem PySem.Spec PyProof.Rows L2 Evl
abbrev sRow : Stmt := inClass (top 54) 1
abbrev ResS := Option (Sum Nat Sh)
def finRow (st : Sh) : Option Nat → Option Sh
  | none => some st
  | some m => match st.rs[m]? with
    | none => none
    | some r => if !inV (.str r.kind) (MARKER.map V.str) then (if st.opened.length < 50000 then some { st with opened := st.opened ++ [m] } else none) else some st
def endRow (ws : List Wd) (st : Sh) (ok : Option Nat) (j : Nat) : ResS := match takeM ws ["the row's end"] j with
  | none => none
  | some (.inl c) => some (.inl c)
  | some (.inr _) => match finRow st ok with
    | none => none
    | some st => some (.inr st)
def okIn (n : Nat) : Option Nat → Bool
  | none => true
  | some m => decide (m < n)
def rowHead (ws : List Wd) : Res (Sh × Option Nat) → ResS
  | none => none
  | some (.inl c) => some (.inl c)
  | some (.inr ((st, ok), j)) => if okIn st.rs.length ok then endRow ws { st with root := ok } ok j else none
def rowInner (st : Sh) (ws : List Wd) : Res (List Rc × Option Nat) → ResS
  | none => none
  | some (.inl c) => some (.inl c)
  | some (.inr ((rs', ok), j)) => if st.rs.length ≤ rs'.length ∧ okIn rs'.length ok = true then endRow ws { st with rs := rs' } ok j else none
def rowM0 (n : Nat) (st : Sh) (num : Int) (row : Str) : ResS :=
  match st.root with
  | none => if !decide (V.int (blanksOf row) = V.int 0) then some (.inl 1) else rowHead (wordsOf row) (headM st num (wordsOf row) 0)
  | some _ => if !decide (V.int (blanksOf row % 2) = V.int 0) || !(decide (1 ≤ blanksOf row / 2) && decide (blanksOf row / 2 ≤ (st.opened.length : Nat))) then some (.inl 1)
    else match (st.opened.take (blanksOf row / 2).toNat).getLast? with
      | none => none
      | some k => rowInner { st with opened := st.opened.take (blanksOf row / 2).toNat } (wordsOf row) (innerM n st.rs k num (wordsOf row) 0)
def rowM (n : Nat) (st : Sh) (num : Int) (row : Str) : ResS := if quickOk row = true then rowM0 n st num row else none
section
variable {P : Program} {w : World} {K : PySem.W.Frag} {mg : Str → Option Value} {base : Heap} {C : Cn P w K mg base}
section
variable {Sk : Sc K mg} {Dk : Dc K mg} {H0 H H1 H2 H' : Hp} {loc sl : Nat → Addr} {st : Sh} {p : Addr} {num : Nm} {ws : List Wd} {i j k : Nat} {Q : VK} {E : XK} {D : Ends} {tz : TS} {v2 v3 : V}
def AccR (Sk : Sc K mg) (Dk : Dc K mg) (C : Cn P w K mg base) (num : Int) (H0 : Hp) (sl : Nat → Addr) (Q : VK) (E : XK) : ResS → Prop
  | none => False
  | some (.inl c) => ∀ d H', Ex H0 H' → H' d = some (.xd [("column", .int (c : Nat)), ("row", .int num)]) → E (.ref C.N) (some d) H'
  | some (.inr st') => ∀ H' loc', Ex H0 H' → Shs Sk Dk H0 H' loc' sl st' → Q .non H'
theorem Shs.ex (s : Shs Sk Dk H0 H loc sl st) (e : Ex H H') : Shs Sk Dk H0 H' loc sl st := ⟨s.ar.ex e, s.at_.fr (fun a _ o ho => e _ _ ho) (TF.ex e), s.inj, s.fresh, s.apart, s.op, s.rt, s.kn.imp fun kvs h => ⟨e _ _ h.1, h.2⟩⟩
/-- the row's words made -/
theorem shw_new {num : Nm} {m : Nat} {kvs : List (Key × V)} (s : Shs Sk Dk H0 H loc sl st) (e0 : Ex H0 H) (np : H p = none) (nk : H num.kl = none) (nt : H num.tl = none) (f : Fr (sl 4) H H') (hk : H' (sl 4) = some (.dK kvs)) (ok : KnOk kvs) (hn : kvs.length ≤ m) (hW : WAt C.W H' p num ws 0) : ShW (Sk.at m) Dk C H0 H' loc sl st p num ws 0 := by
  obtain ⟨kv0, hk0, _⟩ := s.kn
  have far : ∀ a, a < 5 → ∀ b, H b = none → sl a ≠ b := fun a ha b hb z => by
    obtain ⟨o, ho⟩ := s.cell a ha
    rw [z, hb] at ho
    cases ho
  have old : ∀ i, i < 4 * st.rs.length → ∀ b, H b = none → loc i ≠ b := fun i hi b hb z => by
    have hk : i / 4 < st.rs.length := by omega
    have := (s.ar.at_ (i / 4) _ (List.getElem?_eq_getElem hk)).slots (i % 4) (by omega)
    rw [show 4 * (i / 4) + i % 4 = i by omega, z] at this
    rcases this with ⟨_, _, y⟩ | ⟨_, y⟩ <;> (rw [hb] at y; cases y)
  have t : TF H H' := fun b xs hb => f b _ (fun z => by
    rw [z, hk0] at hb
    cases hb) hb
  have ne4 : ∀ a, a < 4 → sl a ≠ sl 4 := fun a ha z => by
    have := s.inj a 4 (by omega) (by decide) z
    omega
  exact ⟨⟨s.ar.fr (fun i hi o ho => f _ _ (Ne.symm (s.apart 4 i (by decide) hi)) ho) t, s.at_.fr (fun a ha o ho => f _ _ (ne4 a ha) ho) t, s.inj, s.fresh, s.apart, s.op, s.rt, ⟨kvs, hk, ok, hn⟩⟩, hW, Ex.none e0 np, fun i hi => ⟨old i hi _ np, old i hi _ nk, old i hi _ nt⟩, fun a ha => ⟨far a ha _ np, far a ha _ nk, far a ha _ nt⟩⟩
theorem rv_notN {x : V} {H : Hp} : RV (fun x y H Q => y = .non ∧ Q (.bl (!decide (x = .non))) H) x .non H (.bl (!decide (x = .non))) := fun H1 _ _ q => ⟨rfl, q H1 (Ex.refl H1)⟩
/-- the words' end, and whether the draft is opened -/
def tEnd (C : Cn P w K mg base) (E : XK) (aM : Addr) : TS := tSeq (tDrop (tMethR C.W "take" (spTake C) E (tVar 3) (tCons (tC (.str "the row's end")) tNil)))
  (tIfS (tAnd (tTest (tOp (fun x y H Q => y = .non ∧ Q (.bl (!decide (x = .non))) H) (tVar 5) (tC .non))) (tTest (tOp (rIn K true) (tFld K (tVar 5) "kind") (tC (.ref aM))))) (tDrop (tBM K "list" rAppend (tFld K (tVar 0) "opened") (tCons (tVar 5) tNil))) tNext)
theorem end_row {aM : Addr} {ok : Option Nat} {x1 x2 x4 : V} {x6 : Option V} (hM : ∀ H, SqT K H aM (MARKER.map V.str)) (s : ShW Sk Dk C H0 H loc sl st p num ws j) (e0 : Ex H0 H) (ac : AccR Sk Dk C num.n H0 sl Q E (endRow ws st ok j)) (hq : ∀ σ' H', Q .non H' → D.nx σ' H') :
    tEnd C E aM D [some (.ref (sl 0)), some x1, some x2, some (.ref p), some x4, some (rootV loc ok), x6] H := by
  unfold endRow at ac
  refine (py_takeV (ks := ["the row's end"]) (E := E) rfl (ea_cons ev_c ea_nil) s.w) _ ?_
  cases ht : takeM ws ["the row's end"] j with
  | none =>
    rw [ht] at ac
    exact ac.elim
  | some z =>
    rw [ht] at ac
    match z, ac with
    | .inl c, ac => exact fun d H' f hd => ac d H' (ex0_fr e0 s.p0 f) hd
    | .inr (a, j2), ac =>
      intro v H1 f1 hW1 _
      dsimp only at ac
      have s1 := s.fr f1 hW1
      have e01 := ex0_fr e0 s.p0 f1
      dsimp only
      cases ok with
      | none =>
        have et : EvT (tAnd (tTest (tOp (fun x y H Q => y = .non ∧ Q (.bl (!decide (x = .non))) H) (tVar 5) (tC .non))) (tTest (tOp (rIn K true) (tFld K (tVar 5) "kind") (tC (.ref aM))))) [some (.ref (sl 0)), some x1, some x2, some (.ref p), some x4, some .non, x6] H1 (false && false) :=
          et_and (et_test (ev_op (ev_var rfl) ev_c rv_notN)) (fun h => Bool.noConfusion h)
        refine s_when et (fun h => Bool.noConfusion h) fun _ H2 e2 => hq _ _ ?_
        exact ac H2 loc (Ex.trans e01 e2) (s1.sh.ex e2)
      | some m =>
        unfold finRow at ac
        dsimp only at ac
        cases hm : st.rs[m]? with
        | none =>
          rw [hm] at ac
          exact ac.elim
        | some r =>
          rw [hm] at ac
          dsimp only at ac
          obtain ⟨dx, vi, vo, mvs, g1, _⟩ := s1.sh.ar.at_ m r hm
          have ek : Ev (tFld K (tVar 5) "kind") [some (.ref (sl 0)), some x1, some x2, some (.ref p), some x4, some (.ref (loc (4 * m))), x6] H1 (.str r.kind) := ev_fld (ev_var rfl) g1 Dk.cl Dk.nKind lf_kind
          have et : EvT (tAnd (tTest (tOp (fun x y H Q => y = .non ∧ Q (.bl (!decide (x = .non))) H) (tVar 5) (tC .non))) (tTest (tOp (rIn K true) (tFld K (tVar 5) "kind") (tC (.ref aM))))) [some (.ref (sl 0)), some x1, some x2, some (.ref p), some x4, some (.ref (loc (4 * m))), x6] H1 (true && !inV (.str r.kind) (MARKER.map V.str)) :=
            et_and (a := true) (et_test (ev_op (ev_var rfl) ev_c rv_notN)) (fun _ => et_test (ev_op ek ev_c (rv_niT (hM _) rfl (flat_strs MARKER))))
          refine s_when et (fun hb H2 e2 => ?_) (fun hb H2 e2 => ?_)
          · have hb' : (!inV (.str r.kind) (MARKER.map V.str)) = true := hb
            simp only [hb', if_true] at ac
            by_cases hz : st.opened.length < 50000
            · rw [if_pos hz] at ac
              have s2 := s1.fr (Fr.ex e2) (s1.w.ex e2)
              have e02 := Ex.trans e01 e2
              obtain ⟨dx, fvs, hvs, h0, h1, d1, h2, d2, h3⟩ := s2.sh.at_
              refine ⟨.ref (sl 0), rfl, sl 0, Sk.S, dx, _, _, rfl, h0, Sk.cl, Sk.nOpened, ls_opened, Or.inl ⟨rfl, _, sq_of h3⟩, .ref (loc (4 * m)), rfl, sl 3, _, _, rfl, rfl, h3, sz_lt (by rw [List.length_map]; omega), hq _ _ ?_⟩
              have f3 : Fr (sl 3) H2 (L2.upd H2 (sl 3) (.lst (st.opened.map (fun j => V.ref (loc (4 * j))) ++ [.ref (loc (4 * m))]))) := fr_upd
              have t3 := TF.fr' (ys := st.opened.map (fun j => V.ref (loc (4 * j))) ++ [.ref (loc (4 * m))]) h3
              have ne : ∀ a, a < 5 → a ≠ 3 → sl a ≠ sl 3 := fun a ha n z => n (s.sh.inj a 3 ha (by decide) z)
              have hml := (List.getElem?_eq_some_iff.mp hm).1
              have s3 := s2.own (st' := { st with opened := st.opened ++ [m] }) (a := 3) (by decide) f3 (no_tup_lst h3) ⟨dx, fvs, hvs, f3 _ _ (ne 0 (by decide) (by decide)) h0, f3 _ _ (ne 1 (by decide) (by decide)) h1, DTs.tf t3 _ _ d1, f3 _ _ (ne 2 (by decide) (by decide)) h2, DTs.tf t3 _ _ d2, by rw [upd_same, List.map_append]; rfl⟩ rfl (fun j hj => by
                rcases List.mem_append.mp hj with q | q
                · exact s.sh.op j q
                · rw [List.mem_singleton] at q
                  omega) s2.sh.rt
              exact ac _ loc (ex0_at e02 (s.sh.fresh 3 (by decide)) f3) s3.sh
            · rw [if_neg hz] at ac
              exact ac.elim
          · have hb' : (!inV (.str r.kind) (MARKER.map V.str)) = false := hb
            simp only [hb', Bool.false_eq_true, if_false] at ac
            exact hq _ _ (ac H2 loc (Ex.trans e01 e2) (s1.sh.ex e2))
end
end
end Prs
set_option Elab.async false
set_option linter.all false
set_option maxRecDepth 100000
set_option maxHeartbeats 4000000
namespace Prs
open PySem PySem.Spec PyProof.Rows L2 Evl
section
variable {P : Program} {w : World} {K : PySem.W.Frag} {mg : Str → Option Value} {base : Heap} {C : Cn P w K mg base}
def spRow (Sk : Sc K mg) (Dk : Dc K mg) (C : Cn P w K mg base) (n : Nat) : Sp := fun vs H Q E => ∃ kb H0 loc sl st num row, vs = [.ref (sl 0), .int num, .str row] ∧ row.length ≤ 10000 ∧ kb ≤ 16000000 ∧ Ex H0 H ∧ Shs (Sk.at kb) Dk H0 H loc sl st ∧ AccR (Sk.at (kb + 30000)) Dk C num H0 sl Q E (rowM n st num row)
theorem scRow : FnScope ["self", "number", "row", "words", "blanks", "draft", "depth"] ["self", "number", "row"] (defScope sRow) := ⟨rfl, rfl, rfl, by decide +kernel, rfl, by decide +kernel, by decide +kernel⟩
/-- what read_row calls -/
structure Rw (Sk : Sc K mg) (Dk : Dc K mg) (C : Cn P w K mg base) (n : Nat) where
  aW : Addr
  fdW : FuncData
  GW : FnOk P w K mg base CX0 4 aW fdW ["self", "number", "row", "known"] (spInit C)
  bW : Binds K fdW ["self", "number", "row", "known"] []
  mkW : Mk K C.W aW
  aB : Addr
  fdB : FuncData
  GB : FnOk P w K mg base CX0 1 aB fdB ["row"] spBlanks
  bB : Binds K fdB ["row"] []
  kB : PySem.W.keepIn K (.ref aB) = true
  mB : mg "blanks_of" = some (.ref aB)
  aH : Addr
  fdH : FuncData
  GH : ∀ kb, FnOk P w K mg base (L2.CX P w) 7 aH fdH ["self", "words"] (spHead (Sk.at kb) Dk C)
  bH : Binds K fdH ["self", "words"] []
  mH : Meth K Sk.S "read_head" aH
  aI : Addr
  fdI : FuncData
  GI : FnOk P w K mg base (L2.CX P w) ((9 + 4 * n) + 1) aI fdI ["self", "words"] (spInner Dk C n)
  bI : Binds K fdI ["self", "words"] []
  mI : Meth K Dk.D "read_inner" aI
section
variable {Sk : Sc K mg} {Dk : Dc K mg} {H0 H H1 H2 H' : Hp} {loc sl : Nat → Addr} {st : Sh} {p : Addr} {num : Nm} {ws : List Wd} {i j k : Nat} {Q : VK} {E : XK} {D : Ends} {tz : TS} {v2 v3 : V}
theorem acc_head {Q2 : VK} {x : Res (Sh × Option Nat)} (ac : AccR Sk Dk C num.n H0 sl Q E (rowHead ws x)) (k : ∀ v H' loc' st' ok j, Ex H0 H' → ShW Sk Dk C H0 H' loc' sl st' p num ws j → v = rootV loc' ok → okIn st'.rs.length ok = true → AccR Sk Dk C num.n H0 sl Q E (endRow ws { st' with root := ok } ok j) → Q2 v H') :
    AccH Sk Dk C p num ws H0 sl Q2 E x := by
  match x, ac with
  | some (.inl c), ac => exact ac
  | some (.inr ((st', ok), j)), ac =>
    intro v H' loc' e s hv
    unfold rowHead at ac
    dsimp only at ac
    cases ho : okIn st'.rs.length ok with
    | true =>
      rw [ho] at ac
      exact k v H' loc' st' ok j e s hv ho ac
    | false =>
      rw [ho] at ac
      exact ac.elim
theorem acc_inner {Q2 : VK} {x : Res (List Rc × Option Nat)} (e0 : Ex H0 H) (s : ShW Sk Dk C H0 H loc sl st p num ws i) (ac : AccR Sk Dk C num.n H0 sl Q E (rowInner st ws x))
    (k : ∀ v H' loc' rs' ok j, Ex H0 H' → ShW Sk Dk C H0 H' loc' sl { st with rs := rs' } p num ws j → v = rootV loc' ok → AccR Sk Dk C num.n H0 sl Q E (endRow ws { st with rs := rs' } ok j) → Q2 v H') : AccI Dk C p num ws H0 H loc st.rs Q2 E x := by
  have sw : Sw Dk C H0 H loc st.rs p num ws i := ⟨s.sh.ar, s.w, s.p0, s.sepA⟩
  match x, ac with
  | some (.inl c), ac => exact fun d H' f hd => ac d H' (sw.ex0 e0 f) hd
  | some (.inr ((rs', ok), j)), ac =>
    intro v H' loc' f s' old new hv
    unfold rowInner at ac
    dsimp only at ac
    split at ac
    case isFalse => exact ac.elim
    case isTrue hz =>
      obtain ⟨dx, fvs, hvs, h0, h1, d1, h2, d2, h3⟩ := s.sh.at_
      have cell := s.sh.cell
      have keep : ∀ a, a < 5 → ∀ o, H (sl a) = some o → H' (sl a) = some o := fun a ha o ho => f _ o (s.sepS a ha).1 (fun i hi => s.sh.apart a i ha hi) ho
      have t : TF H H' := fun b xs hb => f b _ (fun z => by
        obtain ⟨dx, fs, y⟩ := s.w.ins
        rw [z, y] at hb
        cases hb) (fun i hi z => by
        have hk : i / 4 < st.rs.length := by omega
        have := (s.sh.ar.at_ (i / 4) _ (List.getElem?_eq_getElem hk)).slots (i % 4) (by omega)
        rw [show 4 * (i / 4) + i % 4 = i by omega, ← z] at this
        rcases this with ⟨_, _, y⟩ | ⟨_, y⟩ <;> (rw [hb] at y; cases y)) hb
      have er : rootV loc' st.root = rootV loc st.root := by
        cases hr' : st.root with
        | none => rfl
        | some k =>
          show V.ref _ = V.ref _
          rw [old _ (by have := s.sh.rt k hr'; omega)]
      have eo : (st.opened.map fun j => V.ref (loc' (4 * j))) = st.opened.map fun j => V.ref (loc (4 * j)) := List.map_congr_left fun j hj => by
        rw [old _ (by have := s.sh.op j hj; omega)]
      refine k v H' loc' rs' ok j (sw.ex0 e0 f) ⟨⟨s'.ar, ⟨dx, fvs, hvs, ?_, keep 1 (by decide) _ h1, DTs.tf t _ _ d1, keep 2 (by decide) _ h2, DTs.tf t _ _ d2, ?_⟩, s.sh.inj, s.sh.fresh, ?_, ?_, ?_, s.sh.kn.imp fun kvs h => ⟨keep 4 (by decide) _ h.1, h.2⟩⟩, s'.w, s.p0, s'.sep, s.sepS⟩ hv ac
      · show H' (sl 0) = some (.ins Sk.S dx (sfl (rootV loc' st.root) (sl 1) (sl 2) (sl 3) (sl 4)))
        rw [er]
        exact keep 0 (by decide) _ h0
      · show H' (sl 3) = some (.lst (st.opened.map fun j => V.ref (loc' (4 * j))))
        rw [eo]
        exact keep 3 (by decide) _ h3
      · intro a i ha hi z
        by_cases hi2 : i < 4 * st.rs.length
        · rw [old i hi2] at z
          exact s.sh.apart a i ha hi2 z
        · obtain ⟨o, ho⟩ := cell a ha
          rw [z, new i hi2 hi] at ho
          cases ho
      · exact fun j hj => Nat.lt_of_lt_of_le (s.sh.op j hj) hz.1
      · exact fun j hj => Nat.lt_of_lt_of_le (s.sh.rt j hj) hz.1
end
end
end Prs
set_option Elab.async false
set_option linter.all false
set_option maxRecDepth 100000
set_option maxHeartbeats 4000000
namespace Prs
open PySem PySem.Spec PyProof.Rows L2 Evl
section
variable {P : Program} {w : World} {K : PySem.W.Frag} {mg : Str → Option Value} {base : Heap} {C : Cn P w K mg base}
theorem fresh_upd0 {H : Hp} {a c : Addr} {o : HO} (h : (L2.upd H a o) c = none) : H c = none := by
  have : c ≠ a := fun z => by
    rw [z, upd_same] at h
    cases h
  rw [upd_ne this] at h
  exact h
theorem fresh_upd2 {H : Hp} {a b c : Addr} {o1 o2 : HO} (na : H a = none) (nb : H b = none) (h : (L2.upd (L2.upd H b o1) a o2) c = none) : H c = none := fresh_upd0 (fresh_upd0 h)
theorem ev_chain {σ : L2.St} {H : Hp} {r r' : R2} {ta tb tc : TE} {x y z : V} {a b : Bool} (h1 : Ev ta σ H x) (h2 : Ev tb σ H y) (h3 : RV r x y H (.bl a)) (h4 : Ev tc σ H z) (h5 : RV r' y z H (.bl b)) : Ev (tChain r r' ta tb tc) σ H (.bl (a && b)) := fun H1 e Q q =>
  h1 H1 e _ fun H2 e2 => h2 H2 (Ex.trans e e2) _ fun H3 e3 => h3 H3 (Ex.trans (Ex.trans e e2) e3) _ fun H4 e4 => ⟨a, rfl, by
    have e14 := Ex.trans (Ex.trans e2 e3) e4
    cases a with
    | true => exact h4 H4 (Ex.trans e e14) _ fun H5 e5 => h5 H5 (Ex.trans e (Ex.trans e14 e5)) _ fun H6 e6 => q H6 (Ex.trans (Ex.trans e14 e5) e6)
    | false => exact q H4 e14⟩
theorem rv_isN {x : V} {H : Hp} : RV (fun x y H Q => y = .non ∧ Q (.bl (decide (x = .non))) H) x .non H (.bl (decide (x = .non))) := fun H1 _ _ q => ⟨rfl, q H1 (Ex.refl H1)⟩
/-- raise NoText(number, 1) -/
theorem raise_1 {H0 H : Hp} {sl : Nat → Addr} {Sk : Sc K mg} {Dk : Dc K mg} {Q : VK} {E : XK} {n : Int} {σ : L2.St} (h1 : σ[1]? = some (some (.int n))) (e0 : Ex H0 H) (ac : AccR Sk Dk C n H0 sl Q E (some (.inl 1))) :
    tMkO C.N (spI2 K "row" "column") [] (tCons (tVar 1) (tCons (tC (.int 1)) tNil)) σ H (fun cls d H' => E cls d H') :=
  ⟨.int n, h1, by show 2 ≤ 1000; decide, made2x C.T C.fR C.fC fun d H' e z => ac d H' (Ex.trans e0 e) z⟩
theorem ok_row {f : Addr} {fd : FuncData} {n : Nat} (Sk : Sc K mg) (Dk : Dc K mg) (G : Gn K mg) (T : Tl C) (R : Rw Sk Dk C n) (F : Fun K "read_row" "Sheet.read_row" sRow f fd) : FnOk P w K mg base (L2.CX P w) ((10 + 4 * n) + 1) f fd ["self", "number", "row"] (spRow Sk Dk C n) := by
  obtain ⟨aM, gM, hM⟩ := Dk.gM
  obtain ⟨_, gE⟩ := G.kEnd
  refine F.okX scRow (fun vs H Q E h => ?_) (fun cdv A outer s0 H vs Q E hr h => ?_)
  · obtain ⟨kb, H0, loc, sl, st, num, row, rfl, _⟩ := h
    rfl
  · obtain ⟨kb, H0, loc, sl, st, num, row, rfl, hz, hkb, e0, s, ac⟩ := h
    have hq : quickOk row = true := by
      cases hh : quickOk row with
      | true => rfl
      | false =>
        unfold rowM at ac
        rw [hh] at ac
        exact ac.elim
    have hrow : rowM n st num row = rowM0 n st num row := if_pos hq
    rw [hrow] at ac
    have hr5 : Room 5 (A.deeper (envOfC "Sheet.read_row" (defScope sRow) s0.heap.objs.size f cdv)) := hr.mono (by omega)
    have hr1 : Room 1 (A.deeper (envOfC "Sheet.read_row" (defScope sRow) s0.heap.objs.size f cdv)) := hr.mono (by omega)
    have hr2 : Room 2 (A.deeper (envOfC "Sheet.read_row" (defScope sRow) s0.heap.objs.size f cdv)) := hr.mono (by omega)
    have hr4 : Room 4 (A.deeper (envOfC "Sheet.read_row" (defScope sRow) s0.heap.objs.size f cdv)) := hr.mono (by omega)
    have hr7 : Room 7 (A.deeper (envOfC "Sheet.read_row" (defScope sRow) s0.heap.objs.size f cdv)) := hr.mono (by omega)
    have hrI : Room ((9 + 4 * n) + 1) (A.deeper (envOfC "Sheet.read_row" (defScope sRow) s0.heap.objs.size f cdv)) := hr.mono (by omega)
    refine ⟨_, pss_cons (ps_set (i := 3) scRow.nd rfl (.inl rfl) (pe_make R.mkW R.GW hr5 rfl C.mgW R.bW .nil pass0 (pa_cons (pv 1) (pa_cons (pv 2) (pa_cons (pe_fld (pv 0) rfl) pa_nil)))))
      (pss_cons (ps_set (i := 4) scRow.nd rfl (.inl rfl) (pe_call R.GB hr1 rfl R.mB R.kB R.bB .nil pass0 (pa_cons (pv 2) pa_nil)))
      (Evl.pss_cut (ps_if (pt_cmpR op_isN (pe_fld (pv 0) rfl) pe_non (nomark _))
        (pss_cons (ps_if (pt_cmpR op_ne (pv 4) pe_int (nomark _)) (pss_one (ps_raise rfl (takes_of rfl rfl rfl rfl) (pmk_oex (ds := []) (dvs := []) C.T C.iC C.tI C.nF hr2 C.nB .nil pass0 rfl C.mgN (pa_cons (pv 1) (pa_cons pe_int pa_nil))))) pss_nil)
        (pss_cons (ps_fld (pv 0) (pe_meth (pv 0) Sk.cl R.mH (R.GH (kb + 30000)) hr7 R.bH .nil (passes_call (takes_of rfl rfl rfl rfl) fun _ _ _ _ h => h) (pa_cons (pv 3) pa_nil)) rfl)
        (pss_one (ps_set (i := 5) scRow.nd rfl (.inl rfl) (pe_fld (pv 0) rfl)))))
        (pss_cons (ps_set (i := 6) scRow.nd rfl (.inl rfl) (pe_op op_fdiv (pv 4) pe_int))
        (pss_cons (ps_if (PW.pt (pw_or (pt_cmpR op_ne (pe_op op_mod (pv 4) pe_int) pe_int (nomark _)) (pw_or1 (pt_not (pt_chain op_le op_le pe_int (pv 6) (pe_callB call_len (by rfl) G.len PySem.boot_len (pa_cons (pe_fld (pv 0) rfl) pa_nil))))))) (pss_one (ps_raise rfl (takes_of rfl rfl rfl rfl) (pmk_oex (ds := []) (dvs := []) C.T C.iC C.tI C.nF hr2 C.nB .nil pass0 rfl C.mgN (pa_cons (pv 1) (pa_cons pe_int pa_nil))))) pss_nil)
        (pss_cons (ps_delSl (pe_fld (pv 0) rfl) (pv 6))
        (pss_one (ps_set (i := 5) scRow.nd rfl (.inl rfl) (pe_meth (pe_ix ix_list (pe_fld (pv 0) rfl) (pe_un un_neg pe_int) (fun _ _ => rfl)) Dk.cl R.mI R.GI hrI R.bI .nil (passes_call (takes_of rfl rfl rfl rfl) fun _ _ _ _ h => h) (pa_cons (pv 3) pa_nil))))))))
      (pss_cons (ps_expr (pe_methR (pv 3) C.cl T.mT T.FT hr4 (passes_call (takes_of rfl rfl rfl rfl) fun _ _ _ _ h => h) (pa_cons (pe_glob (v := .str "the row's end") rfl gE ⟨_, rfl⟩) pa_nil)))
      (pss_one (ps_if (PW.pt (pw_and (pt_cmpR op_notN (pv 5) pe_non (nomark _)) (pw_and1 (pt_cmpR op_notIn_seq (pe_fld (pv 5) rfl) (pe_glob (v := .ref aM) rfl gM rfl) (by rfl))))) (pss_one (ps_expr (pe_bm PySem.F.plainAttrs_list PySem.F.slot_list_append PySem.F.type_list_append mt_append (pe_fld (pv 0) rfl) (pa_cons (pv 5) pa_nil)))) pss_nil))))), ?_⟩
    obtain ⟨dxk, _, _, h00, _⟩ := id s.at_
    obtain ⟨kvs, hk0, ok0, hn0⟩ := id s.kn
    have hn0' : kvs.length ≤ kb := hn0
    refine ⟨.int num, rfl, .str row, rfl, .ref (sl 0), rfl, sl 0, Sk.S, dxk, _, .ref (sl 4), rfl, h00, Sk.cl, Sk.nKnown, ls_known, fun p dx np nd ned => ⟨p, num, row, dx, sl 4, kvs, rfl, hz, hq, upd_same, ?_, ok0, by omega, fun H1 kl tl kvs' f1 hk1 ok1 hn1 nk1 nt1 hW1 => ⟨rfl, ?_⟩⟩⟩
    · rw [upd_ne (ne_of_none hk0 np), upd_ne (ne_of_none hk0 nd)]
      exact hk0
    have f01 : Fr (sl 4) H H1 := fun b o n4 hb => f1 b o (ne_of_none hb np) n4 (by
      rw [upd_ne (ne_of_none hb np), upd_ne (ne_of_none hb nd)]
      exact hb)
    have nk : H kl = none := fresh_upd2 np nd nk1
    have nt : H tl = none := fresh_upd2 np nd nt1
    have s1 : ShW (Sk.at (kb + 30000)) Dk C H0 H1 loc sl st p ⟨num, kl, tl, row⟩ (wordsOf row) 0 := shw_new (Sk := Sk.at kb) (num := ⟨num, kl, tl, row⟩) (m := kb + 30000) s e0 np nk nt f01 hk1 ok1 (by omega) hW1
    have e01 : Ex H0 H1 := ex0_at e0 (s.fresh 4 (by decide)) f01
    have hb := blanks_nn row
    refine q_asg (v := .int (blanksOf row)) (ev_call (ea_cons (ev_var rfl) ea_nil) (sv_blanks (by omega))) fun H2 e2 => ?_
    have s2 := s1.fr (Fr.ex e2) (s1.w.ex e2)
    have e02 := Ex.trans e01 e2
    refine Evl.q_cut (M := fun σ' H' => ∃ st' loc' ok j x6, σ' = [some (.ref (sl 0)), some (.int num), some (.str row), some (.ref p), some (.int (blanksOf row)), some (rootV loc' ok), x6] ∧ Ex H0 H' ∧ ShW (Sk.at (kb + 30000)) Dk C H0 H' loc' sl st' p ⟨num, kl, tl, row⟩ (wordsOf row) j ∧ AccR (Sk.at (kb + 30000)) Dk C num H0 sl Q E (endRow (wordsOf row) st' ok j)) ?_ ?_
    · obtain ⟨dxs, fvs, hvs, h0, h1, d1, h2, d2, h3⟩ := s2.sh.at_
      unfold rowM0 at ac
      cases hroot : st.root with
      | none =>
        rw [hroot] at ac
        dsimp only at ac
        have eR : EvT (tTest (tOp (fun x y H Q => y = .non ∧ Q (.bl (decide (x = .non))) H) (tFld K (tVar 0) "root") (tC .non))) [some (.ref (sl 0)), some (.int num), some (.str row), some (.ref p), some (.int (blanksOf row)), none, none] H2 true :=
          et_is (et_test (ev_op (x := .non) (ev_fld (ev_var rfl) h0 Sk.cl Sk.nRoot (by rw [ls_root, hroot]; rfl)) ev_c rv_isN)) (by simp)
        refine s_if eR (fun _ H3 e3 => ?_) (fun h => Bool.noConfusion h)
        have s3 := s2.fr (Fr.ex e3) (s2.w.ex e3)
        have e03 := Ex.trans e02 e3
        refine q_when (b := !decide (V.int (blanksOf row) = V.int 0)) (et_test (ev_op (ev_var rfl) ev_c (rv_ne rfl))) (fun hc H4 e4 => ?_) (fun hc H4 e4 => ?_)
        · simp only [hc, if_true] at ac
          exact raise_1 rfl (Ex.trans e03 e4) ac
        simp only [hc, Bool.false_eq_true, if_false] at ac
        have s4 := s3.fr (Fr.ex e4) (s3.w.ex e4)
        have e04 := Ex.trans e03 e4
        obtain ⟨dxs4, fvs4, hvs4, h04, _⟩ := s4.sh.at_
        refine ⟨.ref (sl 0), rfl, sl 0, dxs4, _, rfl, h04, rfl, .ref p, rfl, H0, loc, sl, st, p, ⟨num, kl, tl, row⟩, wordsOf row, 0, rfl, e04, s4, acc_head ac fun v H5 loc' st' ok j e05 s5 hv hok ac => ?_⟩
        obtain ⟨dx5, fvs5, hvs5, g0, g1, k1, g2, k2, g3⟩ := s5.sh.at_
        refine ⟨.ref (sl 0), rfl, sl 0, Sk.S, dx5, _, rfl, g0, Sk.cl, Sk.nRoot, by show 5 < 1000; decide, ?_⟩
        have f6 : Fr (sl 0) H5 (L2.upd H5 (sl 0) (.ins Sk.S dx5 (putF "root" v (sfl (rootV loc' st'.root) (sl 1) (sl 2) (sl 3) (sl 4))))) := fr_upd
        have t6 : TF H5 (L2.upd H5 (sl 0) (.ins Sk.S dx5 (putF "root" v (sfl (rootV loc' st'.root) (sl 1) (sl 2) (sl 3) (sl 4))))) := TF.fr g0 f6
        have ne : ∀ a, a < 5 → a ≠ 0 → sl a ≠ sl 0 := fun a ha n z => n (s.inj a 0 ha (by decide) z)
        have ov : H5 (sl 0) = _ := g0
        have v6 : (L2.upd H5 (sl 0) (.ins Sk.S dx5 (putF "root" v (sfl (rootV loc' st'.root) (sl 1) (sl 2) (sl 3) (sl 4))))) (sl 0) = some (.ins Sk.S dx5 (sfl (rootV loc' ok) (sl 1) (sl 2) (sl 3) (sl 4))) := by
          rw [upd_same, hv]
          rfl
        revert f6 t6 v6
        generalize L2.upd H5 (sl 0) (.ins Sk.S dx5 (putF "root" v (sfl (rootV loc' st'.root) (sl 1) (sl 2) (sl 3) (sl 4)))) = H6
        intro f6 t6 v6
        have s6 : ShW (Sk.at (kb + 30000)) Dk C H0 H6 loc' sl { st' with root := ok } p ⟨num, kl, tl, row⟩ (wordsOf row) j := s5.own (a := 0) (by decide) f6 (no_tup_ins g0) ⟨dx5, fvs5, hvs5, v6, f6 _ _ (ne 1 (by decide) (by decide)) g1, DTs.tf t6 _ _ k1, f6 _ _ (ne 2 (by decide) (by decide)) g2, DTs.tf t6 _ _ k2, f6 _ _ (ne 3 (by decide) (by decide)) g3⟩ rfl s5.sh.op (fun j hj => by
          have hj : ok = some j := hj
          rw [hj] at hok
          exact of_decide_eq_true hok)
        have e06 := ex0_at e05 (s.fresh 0 (by decide)) f6
        refine s_asg (v := rootV loc' ok) (ev_fld (ev_var rfl) v6 Sk.cl Sk.nRoot ls_root) fun H7 e7 => ?_
        exact ⟨{ st' with root := ok }, loc', ok, j, _, rfl, Ex.trans e06 e7, s6.fr (Fr.ex e7) (s6.w.ex e7), ac⟩
      | some k0 =>
        rw [hroot] at ac
        dsimp only at ac
        have eR : EvT (tTest (tOp (fun x y H Q => y = .non ∧ Q (.bl (decide (x = .non))) H) (tFld K (tVar 0) "root") (tC .non))) [some (.ref (sl 0)), some (.int num), some (.str row), some (.ref p), some (.int (blanksOf row)), none, none] H2 false :=
          et_is (et_test (ev_op (x := .ref (loc (4 * k0))) (ev_fld (ev_var rfl) h0 Sk.cl Sk.nRoot (by rw [ls_root, hroot]; rfl)) ev_c rv_isN)) (by simp)
        refine s_if eR (fun h => Bool.noConfusion h) (fun _ H3 e3 => ?_)
        have s3 := s2.fr (Fr.ex e3) (s2.w.ex e3)
        have e03 := Ex.trans e02 e3
        refine q_asg (v := .int (blanksOf row / 2)) (ev_op (ev_var rfl) ev_c (rv_I ⟨by decide, by decide⟩)) fun H4 e4 => ?_
        have s4 := s3.fr (Fr.ex e4) (s3.w.ex e4)
        have e04 := Ex.trans e03 e4
        obtain ⟨dx4, fvs4, hvs4, g0, g1, k1, g2, k2, g3⟩ := s4.sh.at_
        have eL : Ev (tCB (fun xs H Q => ∃ x n, xs = [x] ∧ LenV K x H n ∧ Q (.int n) H) (tCons (tFld K (tVar 0) "opened") tNil)) [some (.ref (sl 0)), some (.int num), some (.str row), some (.ref p), some (.int (blanksOf row)), none, some (.int (blanksOf row / 2))] H4 (.int ((st.opened.length : Nat) : Int)) := fun H5 e Q q =>
          (ev_fld (ev_var rfl) g0 Sk.cl Sk.nOpened ls_opened : Ev (tFld K (tVar 0) "opened") _ H4 (.ref (sl 3))) H5 e _ fun H6 e6 => ⟨_, st.opened.length, rfl, .inl ⟨_, sq_of (e6 _ _ (e _ _ g3)), by rw [List.length_map]⟩, q H6 e6⟩
        refine q_when (b := !decide (V.int (blanksOf row % 2) = V.int 0) || !(decide (1 ≤ blanksOf row / 2) && decide (blanksOf row / 2 ≤ (st.opened.length : Nat)))) (et_or (et_test (ev_op (ev_op (ev_var rfl) ev_c (rv_I (by decide))) ev_c (rv_ne rfl))) (fun _ => et_not (et_test (ev_chain ev_c (ev_var rfl) rv_I0 eL rv_I0)))) (fun hc H5 e5 => ?_) (fun hc H5 e5 => ?_)
        · rw [if_pos hc] at ac
          exact raise_1 rfl (Ex.trans e04 e5) ac
        rw [if_neg (by rw [hc]; exact Bool.noConfusion)] at ac
        simp only [Bool.or_eq_false_iff, Bool.not_eq_false', Bool.and_eq_true, decide_eq_true_eq] at hc
        obtain ⟨_, hd1, hd2⟩ := hc
        obtain ⟨d, hd⟩ : ∃ d : Nat, blanksOf row / 2 = (d : Int) := ⟨(blanksOf row / 2).toNat, by omega⟩
        have hdt : (blanksOf row / 2).toNat = d := by omega
        rw [hdt] at ac
        have s5 := s4.fr (Fr.ex e5) (s4.w.ex e5)
        have e05 := Ex.trans e04 e5
        have q0 := e5 _ _ g0
        have q3 := e5 _ _ g3
        cases hgl : (st.opened.take d).getLast? with
        | none =>
          rw [hgl] at ac
          exact ac.elim
        | some k =>
          rw [hgl] at ac
          dsimp only at ac
          refine ⟨.ref (sl 0), rfl, sl 0, Sk.S, dx4, _, _, rfl, q0, Sk.cl, Sk.nOpened, ls_opened, .int (blanksOf row / 2), rfl, sl 3, _, d, rfl, by rw [hd], q3, by rw [List.length_map]; omega, ?_⟩
          have f6 : Fr (sl 3) H5 (L2.upd H5 (sl 3) (.lst ((st.opened.map fun j => V.ref (loc (4 * j))).take d))) := fr_upd
          have t6 := TF.fr' (ys := (st.opened.map fun j => V.ref (loc (4 * j))).take d) q3
          have v6 : (L2.upd H5 (sl 3) (.lst ((st.opened.map fun j => V.ref (loc (4 * j))).take d))) (sl 3) = some (.lst ((st.opened.take d).map fun j => V.ref (loc (4 * j)))) := by rw [upd_same, List.map_take]
          revert f6 t6 v6
          generalize L2.upd H5 (sl 3) (.lst ((st.opened.map fun j => V.ref (loc (4 * j))).take d)) = H6
          intro f6 t6 v6
          have ne : ∀ a, a < 5 → a ≠ 3 → sl a ≠ sl 3 := fun a ha n z => n (s.inj a 3 ha (by decide) z)
          have q6 := f6 _ _ (ne 0 (by decide) (by decide)) q0
          have s6 : ShW (Sk.at (kb + 30000)) Dk C H0 H6 loc sl { st with opened := st.opened.take d } p ⟨num, kl, tl, row⟩ (wordsOf row) 0 := s5.own (a := 3) (by decide) f6 (no_tup_lst q3) ⟨dx4, fvs4, hvs4, q6, f6 _ _ (ne 1 (by decide) (by decide)) (e5 _ _ g1), DTs.tf t6 _ _ (DTs.tf (TF.ex e5) _ _ k1), f6 _ _ (ne 2 (by decide) (by decide)) (e5 _ _ g2), DTs.tf t6 _ _ (DTs.tf (TF.ex e5) _ _ k2), v6⟩ rfl (fun j hj => s.op j (List.mem_of_mem_take hj)) s5.sh.rt
          have e06 := ex0_at e05 (s.fresh 3 (by decide)) f6
          obtain ⟨ini, hini⟩ := List.getLast?_eq_some_iff.mp hgl
          have hk : k ∈ st.opened := List.mem_of_mem_take (by rw [hini]; simp)
          have hkl := s.op k hk
          obtain ⟨dx7, vi7, vo7, mv7, r0, _⟩ := s6.sh.ar.at_ k st.rs[k] (List.getElem?_eq_getElem hkl)
          refine ⟨.ref (sl 0), rfl, sl 0, Sk.S, dx4, _, _, rfl, q6, Sk.cl, Sk.nOpened, ls_opened, 1, rfl, sl 3, _, -1, .ref (loc (4 * k)), rfl, rfl, sq_of v6, by rw [hini, List.map_append]; exact atI_last _ _, ?_⟩
          refine ⟨loc (4 * k), dx7, _, rfl, r0, rfl, .ref p, rfl, H0, loc, st.rs, k, p, ⟨num, kl, tl, row⟩, wordsOf row, 0, rfl, e06, ⟨s6.sh.ar, s6.w, s6.p0, s6.sepA⟩, acc_inner (st := { st with opened := st.opened.take d }) e06 s6 (by rw [← hroot] at ac; exact ac) fun v H7 loc' rs' ok j e07 s7 hv ac => ?_⟩
          subst hv
          exact ⟨_, loc', ok, j, _, rfl, e07, s7, ac⟩
    · rintro σ' H3 ⟨st', loc', ok, j, x6, rfl, e03, s3, ac⟩
      exact end_row (num := ⟨num, kl, tl, row⟩) hM s3 e03 ac (D := { nx := fun _ H' => Q .non H', rt := Q }) (fun σ' H' q => q)
end
end Prs
set_option Elab.async false
set_option linter.all false
set_option maxRecDepth 100000
set_option maxHeartbeats 4000000
namespace Prs
open PySem PySem.Spec PyProof.Rows L2 Evl
abbrev sSheet : Stmt := top 55
abbrev ResT (α : Type) := Option (Sum (Nat × Nat) α)
def sheetGo (n : Nat) : List Str → Nat → Sh → ResT Sh
  | [], _, st => some (.inr st)
  | r :: rs, i, st => if !isPassed r then (match rowM n st ((i : Int) + 1) r with
    | none => none
    | some (.inl c) => some (.inl (i + 1, c))
    | some (.inr st) => sheetGo n rs (i + 1) st) else sheetGo n rs (i + 1) st
def emptySh : Sh := ⟨[], [], none, [], []⟩
def endSheet (len : Nat) : ResT Sh → ResT Sh
  | none => none
  | some (.inl e) => some (.inl e)
  | some (.inr st) => match st.root with
    | none => some (.inl (len + 1, 1))
    | some _ => some (.inr st)
def sheetM (n : Nat) (rows : List Str) : ResT Sh := endSheet rows.length (sheetGo n rows 0 emptySh)
def goOn (n i : Nat) (rs : List Str) : ResS → ResT Sh
  | none => none
  | some (.inl c) => some (.inl (i + 1, c))
  | some (.inr st) => sheetGo n rs (i + 1) st
theorem sheetGo_cons {n i : Nat} {r : Str} {rs : List Str} {st : Sh} : sheetGo n (r :: rs) i st = if !isPassed r then goOn n i rs (rowM n st ((i : Int) + 1) r) else sheetGo n rs (i + 1) st := by
  conv => lhs; unfold sheetGo
  rfl
section
variable {P : Program} {w : World} {K : PySem.W.Frag} {mg : Str → Option Value} {base : Heap} {C : Cn P w K mg base}
def AccT (Sk : Sc K mg) (Dk : Dc K mg) (C : Cn P w K mg base) (H0 : Hp) (Q : (Nat → Addr) → (Nat → Addr) → Sh → Hp → Prop) (E : XK) : ResT Sh → Prop
  | none => False
  | some (.inl (r, c)) => ∀ d H', Ex H0 H' → H' d = some (.xd [("column", .int (c : Nat)), ("row", .int (r : Nat))]) → E (.ref C.N) (some d) H'
  | some (.inr st) => ∀ kb H' loc sl, Ex H0 H' → Shs (Sk.at kb) Dk H0 H' loc sl st → Q loc sl st H'
def spSheet (Sk : Sc K mg) (Dk : Dc K mg) (C : Cn P w K mg base) (n : Nat) : Sp := fun vs H Q E => ∃ tl rows, vs = [.ref tl] ∧ H tl = some (.lst (rows.map V.str)) ∧ rows.length ≤ 500 ∧ (∀ r, r ∈ rows → r.length ≤ 10000) ∧ AccT Sk Dk C H (fun loc sl st H' => Q (.ref (sl 0)) H') E (sheetM n rows)
theorem scSheet : FnScope ["text", "sheet", "at", "row"] ["text"] (defScope sSheet) := ⟨rfl, rfl, rfl, by decide +kernel, rfl, by decide +kernel, by decide +kernel⟩
/-- what read_sheet calls -/
structure St' (Sk : Sc K mg) (Dk : Dc K mg) (C : Cn P w K mg base) (n : Nat) where
  aS : Addr
  fdS : FuncData
  GS : FnOk P w K mg base CX0 2 aS fdS ["self"] (spSInit Sk)
  bS : Binds K fdS ["self"] []
  mkS : Mk K Sk.S aS
  aP : Addr
  fdP : FuncData
  GP : FnOk P w K mg base CX0 1 aP fdP ["row"] spPassed
  bP : Binds K fdP ["row"] []
  kP : PySem.W.keepIn K (.ref aP) = true
  mP : mg "is_passed" = some (.ref aP)
  aR : Addr
  fdR : FuncData
  GR : FnOk P w K mg base (L2.CX P w) ((10 + 4 * n) + 1) aR fdR ["self", "number", "row"] (spRow Sk Dk C n)
  bR : Binds K fdR ["self", "number", "row"] []
  mR : Meth K Sk.S "read_row" aR
  gE : mg "enumerate" = none
def slOf (a b c d e : Addr) : Nat → Addr
  | 0 => a
  | 1 => b
  | 2 => c
  | 3 => d
  | _ => e
/-- more kinds may be known -/
theorem Shs.more {Sk : Sc K mg} {Dk : Dc K mg} {H0 H : Hp} {loc sl : Nat → Addr} {st : Sh} {a b : Nat} (s : Shs (Sk.at a) Dk H0 H loc sl st) (h : a ≤ b) : Shs (Sk.at b) Dk H0 H loc sl st := ⟨s.ar, s.at_, s.inj, s.fresh, s.apart, s.op, s.rt, s.kn.imp fun kvs k => ⟨k.1, k.2.1, Nat.le_trans k.2.2 h⟩⟩
theorem sv_passed {a : Str} {H : Hp} (h : a.length ≤ 100000) : SpV spPassed [.str a] H (.bl (isPassed a)) := fun H1 e Q q E => ⟨a, rfl, h, fun H2 e2 => q H2 e2⟩
theorem acc_row {kb : Nat} {Sk : Sc K mg} {Dk : Dc K mg} {H0 : Hp} {sl : Nat → Addr} {E : XK} {Qf : (Nat → Addr) → (Nat → Addr) → Sh → Hp → Prop} {Q2 : VK} {n i len : Nat} {rs : List Str} {x : ResS} (ac : AccT Sk Dk C H0 Qf E (endSheet len (goOn n i rs x)))
    (k : ∀ H' loc st', Ex H0 H' → Shs (Sk.at kb) Dk H0 H' loc sl st' → AccT Sk Dk C H0 Qf E (endSheet len (sheetGo n rs (i + 1) st')) → Q2 .non H') : AccR (Sk.at kb) Dk C ((i : Int) + 1) H0 sl Q2 E x := by
  match x, ac with
  | some (.inl c), ac => exact fun d H' e hd => ac d H' e hd
  | some (.inr st'), ac => exact fun H' loc e s => k H' loc st' e s ac
theorem ok_sheet {f : Addr} {fd : FuncData} {n : Nat} (Sk : Sc K mg) (Dk : Dc K mg) (G : Gn K mg) (R : St' Sk Dk C n) (F : Fun K "read_sheet" "read_sheet" sSheet f fd) : FnOk P w K mg base (L2.CX P w) (((10 + 4 * n) + 1) + 1) f fd ["text"] (spSheet Sk Dk C n) := by
  refine F.okX scSheet (fun vs H Q E h => ?_) (fun cdv A outer s0 H vs Q E hr h => ?_)
  · obtain ⟨tl, rows, rfl, _⟩ := h
    rfl
  · obtain ⟨tl, rows, rfl, htl, hmany, hlen, ac⟩ := h
    have hr1 : Room 1 (A.deeper (envOfC "read_sheet" (defScope sSheet) s0.heap.objs.size f cdv)) := hr.mono (by omega)
    have hr2 : Room 2 (A.deeper (envOfC "read_sheet" (defScope sSheet) s0.heap.objs.size f cdv)) := hr.mono (by omega)
    have hr3 : Room 3 (A.deeper (envOfC "read_sheet" (defScope sSheet) s0.heap.objs.size f cdv)) := hr.mono (by omega)
    refine ⟨_, pss_cons (ps_set (i := 1) scSheet.nd rfl (.inl rfl) (pe_make0 R.mkS R.GS hr3 rfl Sk.m R.bS .nil pass0))
      (pss_cons (ps_for (passes_of rfl) rfl (pi_enum rfl R.gE (pa_cons (pv 0) pa_nil)) (pg_tup rfl (pgs_cons (pg_name (i := 2) scSheet.nd rfl (.inl rfl)) (pgs_cons (pg_name (i := 3) scSheet.nd rfl (.inl rfl)) pgs_nil)))
        (pss_one (ps_if (pt_not (pt_val (pe_call R.GP hr1 rfl R.mP R.kP R.bP .nil pass0 (pa_cons (pv 3) pa_nil)))) (pss_one (ps_expr (pe_meth (pv 1) Sk.cl R.mR R.GR hr R.bR .nil (passes_call (takes_of rfl rfl rfl rfl) fun _ _ _ _ h => h) (pa_cons (pe_op op_add (pv 2) pe_int) (pa_cons (pv 3) pa_nil))))) pss_nil)))
      (pss_cons (ps_if (pt_cmpR op_isN (pe_fld (pv 1) rfl) pe_non (nomark _)) (pss_one (ps_raise rfl (takes_of rfl rfl rfl rfl) (pmk_oex (ds := []) (dvs := []) C.T C.iC C.tI C.nF hr2 C.nB .nil pass0 rfl C.mgN (pa_cons (pe_op op_add (pe_callB call_len (by rfl) G.len PySem.boot_len (pa_cons (pv 0) pa_nil)) pe_int) (pa_cons pe_int pa_nil))))) pss_nil)
      (pss_one (ps_ret (pv 1))))), ?_⟩
    refine fun s dx np nd ned => ⟨s, dx, rfl, upd_same, fun H1 fl hl ol kl kvs f1 h0 h1 h2 h3 h4 ok4 hn4 n1 n2 n3 n4 a1 a2 a3 a4 a5 a6 a7 a8 a9 a10 => ⟨rfl, ?_⟩⟩
    have e1 : Ex H H1 := fun b o hb => f1 b o (ne_of_none hb np) (by
      rw [upd_ne (ne_of_none hb np), upd_ne (ne_of_none hb nd)]
      exact hb)
    have m1 : H fl = none := fresh_upd2 np nd n1
    have m2 : H hl = none := fresh_upd2 np nd n2
    have m3 : H ol = none := fresh_upd2 np nd n3
    have m4 : H kl = none := fresh_upd2 np nd n4
    have sh1 : Shs (Sk.at 31) Dk H H1 (fun _ => 0) (slOf s fl hl ol kl) emptySh := by
      refine ⟨⟨fun i j hi => absurd hi (by show ¬ i < 4 * 0; omega), fun i hi => absurd hi (by show ¬ i < 4 * 0; omega), fun k r hk => (by cases hk), fun k r hk => (by cases hk)⟩, ⟨dx, [], [], h0, h1, dts_nil, h2, dts_nil, h3⟩, ?_, ?_, fun a i _ hi => absurd hi (by show ¬ i < 4 * 0; omega), fun j hj => (by cases hj), fun j hj => (by cases hj), ⟨kvs, h4, ok4, hn4⟩⟩
      · intro a b ha hb z
        rcases (by omega : a = 0 ∨ a = 1 ∨ a = 2 ∨ a = 3 ∨ a = 4) with rfl | rfl | rfl | rfl | rfl <;>
          rcases (by omega : b = 0 ∨ b = 1 ∨ b = 2 ∨ b = 3 ∨ b = 4) with rfl | rfl | rfl | rfl | rfl <;>
          first
            | rfl
            | exact absurd z a1 | exact absurd z a2 | exact absurd z a3 | exact absurd z a4 | exact absurd z a5 | exact absurd z a6 | exact absurd z a7 | exact absurd z a8 | exact absurd z a9 | exact absurd z a10
            | exact absurd z.symm a1 | exact absurd z.symm a2 | exact absurd z.symm a3 | exact absurd z.symm a4 | exact absurd z.symm a5 | exact absurd z.symm a6 | exact absurd z.symm a7 | exact absurd z.symm a8 | exact absurd z.symm a9 | exact absurd z.symm a10
      · intro a ha
        rcases (by omega : a = 0 ∨ a = 1 ∨ a = 2 ∨ a = 3 ∨ a = 4) with rfl | rfl | rfl | rfl | rfl
        · exact np
        · exact m1
        · exact m2
        · exact m3
        · exact m4
    generalize hsl : slOf s fl hl ol kl = sl at sh1
    have hs0 : s = sl 0 := by rw [← hsl]; rfl
    subst hs0
    refine ⟨.ref tl, rfl, tl, _, rfl, sq_of (e1 _ _ htl), fun i m σ' H' => m = rows.length - i ∧ i ≤ rows.length ∧ ∃ st loc x y, σ' = [some (.ref tl), some (.ref (sl 0)), x, y] ∧ Ex H H' ∧ Shs (Sk.at (31 + 30000 * i)) Dk H H' loc sl st ∧ AccT Sk Dk C H (fun loc sl st H' => Q (.ref (sl 0)) H') E (endSheet rows.length (sheetGo n (rows.drop i) i st)),
      ⟨_, rfl, Nat.zero_le _, emptySh, _, none, none, rfl, e1, sh1, ac⟩, ?_⟩
    rintro i m σ' H' ⟨rfl, hi, st, loc, x, y, rfl, e, sh, ac⟩
    have hq : SqL K H' tl (rows.map V.str) := sq_of (e _ _ htl)
    by_cases hlt : i < rows.length
    · refine .inr ⟨⟨_, .str rows[i], hq, by rw [List.getElem?_map, List.getElem?_eq_getElem hlt]; rfl⟩, fun σ2 H2 => ∃ st loc x y, σ2 = [some (.ref tl), some (.ref (sl 0)), x, y] ∧ Ex H H2 ∧ Shs (Sk.at (31 + 30000 * (i + 1))) Dk H H2 loc sl st ∧ AccT Sk Dk C H (fun loc sl st H' => Q (.ref (sl 0)) H') E (endSheet rows.length (sheetGo n (rows.drop (i + 1)) (i + 1) st)),
        fun σ2 H2 z => ⟨rows.length - (i + 1), by omega, rfl, hlt, z⟩, ?_⟩
      rintro v H2 ⟨T, z, rfl, nT, rfl, hz⟩
      have hzz := hz _ hq
      rw [List.getElem?_map, List.getElem?_eq_getElem hlt] at hzz
      cases hzz
      refine ⟨T, _, rfl, st_of upd_same, rfl, _, _, rfl, _, _, rfl, rfl, ?_⟩
      have e2 : Ex H' (L2.upd H' T (.tup [.int (i : Nat), .str rows[i]])) := fr_new nT
      have hdrop : rows.drop i = rows[i] :: rows.drop (i + 1) := List.drop_eq_getElem_cons hlt
      rw [hdrop, sheetGo_cons] at ac
      have hlr := hlen rows[i] (List.getElem_mem hlt)
      refine s_when (b := !isPassed rows[i]) (et_not (et_B (ev_call (ea_cons (ev_var rfl) ea_nil) (sv_passed (by omega))))) (fun hb H3 e3 => ?_) (fun hb H3 e3 => ?_)
      · rw [if_pos hb] at ac
        have sh3 := sh.ex (Ex.trans e2 e3)
        obtain ⟨dx3, _, _, h03, _⟩ := sh3.at_
        exact ⟨.ref (sl 0), rfl, sl 0, dx3, _, rfl, h03, rfl, .int (i : Nat), rfl, i, 1, rfl, rfl, .str rows[i], rfl, 31 + 30000 * i, H, loc, sl, st, (i : Int) + 1, rows[i], rfl, hlr, by omega, Ex.trans e (Ex.trans e2 e3), sh3, acc_row (kb := 31 + 30000 * i + 30000) ac fun H4 loc' st' e4 sh4 ac => ⟨st', loc', _, _, rfl, e4, by rw [show 31 + 30000 * (i + 1) = 31 + 30000 * i + 30000 by omega]; exact sh4, ac⟩⟩
      · rw [if_neg (by rw [hb]; exact Bool.noConfusion)] at ac
        exact ⟨st, loc, _, _, rfl, Ex.trans e (Ex.trans e2 e3), (sh.ex (Ex.trans e2 e3)).more (by omega), ac⟩
    · refine .inl ⟨⟨_, hq, by rw [List.length_map]; omega⟩, ?_⟩
      have hdrop : rows.drop i = [] := List.drop_eq_nil_of_le (by omega)
      rw [hdrop] at ac
      unfold sheetGo endSheet at ac
      dsimp only at ac
      obtain ⟨dx3, _, _, h03, _⟩ := sh.at_
      have eR : EvT (tTest (tOp (fun x y H Q => y = .non ∧ Q (.bl (decide (x = .non))) H) (tFld K (tVar 1) "root") (tC .non))) [some (.ref tl), some (.ref (sl 0)), x, y] H' (decide (rootV loc st.root = .non)) :=
        et_test (ev_op (ev_fld (ev_var rfl) h03 Sk.cl Sk.nRoot ls_root) ev_c rv_isN)
      dsimp only
      refine q_when eR (fun hb H3 e3 => ?_) (fun hb H3 e3 => ?_)
      · cases hr' : st.root with
        | none =>
          rw [hr'] at ac
          have eLn : Ev (tCB (fun xs H Q => ∃ x n, xs = [x] ∧ LenV K x H n ∧ Q (.int n) H) (tCons (tVar 0) tNil)) [some (.ref tl), some (.ref (sl 0)), x, y] H3 (.int ((rows.length : Nat) : Int)) := fun H5 e5 Q q => ⟨.ref tl, rfl, _, rows.length, rfl, .inl ⟨_, sq_of (e5 _ _ (e3 _ _ (e _ _ htl))), by rw [List.length_map]⟩, q H5 (Ex.refl H5)⟩
          have eA : EvA (tCons (tOp (rI0 fun i j => .int (i + j)) (tCB (fun xs H Q => ∃ x n, xs = [x] ∧ LenV K x H n ∧ Q (.int n) H) (tCons (tVar 0) tNil)) (tC (.int 1))) (tCons (tC (.int 1)) tNil)) [some (.ref tl), some (.ref (sl 0)), x, y] H3 [.int ((rows.length : Nat) + 1), .int 1] := ea_cons (ev_op eLn ev_c rv_I0) (ea_cons ev_c ea_nil)
          exact eA H3 (Ex.refl H3) _ fun H4 e4 => ⟨by show 2 ≤ 1000; decide, made2x C.T C.fR C.fC fun d H5 e5 z => ac d H5 (Ex.trans e (Ex.trans e3 (Ex.trans e4 e5))) z⟩
        | some k =>
          rw [hr'] at hb
          exact absurd (of_decide_eq_true hb) (fun z => by cases z)
      · cases hr' : st.root with
        | none =>
          rw [hr'] at hb
          exact absurd rfl (of_decide_eq_false hb)
        | some k =>
          rw [hr'] at ac
          exact s_ret (v := .ref (sl 0)) (D := { nx := _, rt := Q }) (ev_var rfl) fun H4 e4 => ac _ H4 loc sl (Ex.trans e (Ex.trans e3 e4)) (sh.ex (Ex.trans e3 e4))
end
end Prs
set_option Elab.async false
set_option linter.all false
set_option maxRecDepth 100000
set_option maxHeartbeats 4000000
namespace Prs
open PySem PySem.Spec PyProof.Rows L2 Evl
def toldT (m : Nat) : ResT Sh → ResT PyData
  | none => none
  | some (.inl e) => some (.inl e)
  | some (.inr st) => match chartM m st with
    | none => none
    | some d => some (.inr d)
/-- read_chart: n the terms and guards within one another, m the stands within one another, at the most -/
def readM (n m : Nat) (rows : List Str) : ResT PyData := toldT m (sheetM n rows)
section
variable {P : Program} {w : World} {K : PySem.W.Frag} {mg : Str → Option Value} {base : Heap} {C : Cn P w K mg base}
def AccC (C : Cn P w K mg base) (H0 : Hp) (Q : VK) (E : XK) : ResT PyData → Prop
  | none => False
  | some (.inl (r, c)) => ∀ d H', Ex H0 H' → H' d = some (.xd [("column", .int (c : Nat)), ("row", .int (r : Nat))]) → E (.ref C.N) (some d) H'
  | some (.inr d) => ∀ v H', Ex H0 H' → DT H' d v → Q v H'
def spRead (C : Cn P w K mg base) (n m : Nat) : Sp := fun vs H Q E => ∃ tl rows, vs = [.ref tl] ∧ H tl = some (.lst (rows.map V.str)) ∧ rows.length ≤ 500 ∧ (∀ r, r ∈ rows → r.length ≤ 10000) ∧ AccC C H Q E (readM n m rows)
theorem acc_chart {Sk : Sc K mg} {Dk : Dc K mg} {H : Hp} {Q : VK} {E : XK} {m : Nat} {x : ResT Sh} {Qf : (Nat → Addr) → (Nat → Addr) → Sh → Hp → Prop} (ac : AccC C H Q E (toldT m x)) (k : ∀ kb H' loc sl st d, Ex H H' → Shs (Sk.at kb) Dk H H' loc sl st → chartM m st = some d → (∀ v H', Ex H H' → DT H' d v → Q v H') → Qf loc sl st H') : AccT Sk Dk C H Qf E x := by
  match x, ac with
  | some (.inl (r, c)), ac => exact ac
  | some (.inr st), ac =>
    intro kb H' loc sl e s
    unfold toldT at ac
    dsimp only at ac
    cases hc : chartM m st with
    | none =>
      rw [hc] at ac
      exact ac.elim
    | some d =>
      rw [hc] at ac
      exact k kb H' loc sl st d e s hc ac
end
end Prs
set_option Elab.async false
set_option linter.all false
set_option maxRecDepth 100000
set_option maxHeartbeats 4000000
namespace Prs
open PySem PySem.Spec PyProof.Rows L2 Evl
abbrev sRead : Stmt := top 57
section
variable {P : Program} {w : World} {K : PySem.W.Frag} {mg : Str → Option Value} {base : Heap} {C : Cn P w K mg base}
theorem scRead : FnScope ["text"] ["text"] (defScope sRead) := ⟨rfl, rfl, rfl, by decide +kernel, rfl, by decide +kernel, by decide +kernel⟩
theorem ok_read {f fC : Addr} {fd fdC : FuncData} {n m k : Nat} (Sk : Sc K mg) (Dk : Dc K mg) (DS : Df K mg "read_sheet" sSheet ["text"]) (GS : FnOk P w K mg base (L2.CX P w) k DS.f DS.fd ["text"] (spSheet Sk Dk C n)) (GC : FnOk P w K mg base CX0 k fC fdC ["self"] (spChart Sk Dk m)) (bC : Binds K fdC ["self"] []) (mC : Meth K Sk.S "chart" fC)
    (F : Fun K "read_chart" "read_chart" sRead f fd) : FnOk P w K mg base (L2.CX P w) (k + 1) f fd ["text"] (spRead C n m) := by
  refine F.okX scRead (fun vs H Q E h => ?_) (fun cdv A outer s0 H vs Q E hr h => ?_)
  · obtain ⟨tl, rows, rfl, _⟩ := h
    rfl
  · obtain ⟨tl, rows, rfl, htl, hmany, hlen, ac⟩ := h
    refine ⟨_, pss_one (ps_ret (pe_meth0 (pe_call GS hr rfl DS.m DS.F.kp DS.b .nil (passes_call (takes_of rfl rfl rfl rfl) fun _ _ _ _ h => h) (pa_cons (pv 0) pa_nil)) Sk.cl mC GC hr bC .nil (passAny (E := E)))), ?_⟩
    refine ⟨.ref tl, rfl, tl, rows, rfl, htl, hmany, hlen, acc_chart ac fun kb H' loc sl st d e s hc q => ?_⟩
    obtain ⟨dx, _, _, h0, _⟩ := s.at_
    exact ⟨sl 0, dx, _, rfl, h0, rfl, kb, H, loc, sl, st, d, rfl, s, hc, fun v H2 e2 hv => q v H2 (Ex.trans e e2) hv⟩
end
end Prs
set_option Elab.async false
set_option linter.all false
set_option maxRecDepth 100000
set_option maxHeartbeats 4000000
namespace Prs
open PySem PySem.Spec PyProof.Rows L2 Evl
abbrev lMixed : Stmt := top 59
abbrev lPurse : Stmt := top 60
abbrev lTake : Stmt := top 61
abbrev lAt : Stmt := top 62
abbrev lPick : Stmt := top 63
theorem op_powB {X : Cx} : OpR X (binaryOp .Pow) (rI (fun i j => 0 ≤ j ∧ (Builtin.Int.intBits i : Int) * j ≤ 2 ^ 27) fun i j => .int (i ^ j.toNat)) := opI fun _ _ _ _ _ _ _ hc q => pow_int hc.1 hc.2 q
theorem lg_lt {x : Int} {n : Nat} (hn : 0 < n) (h : 0 ≤ x) (h2 : x < 2 ^ n) : x.natAbs.log2 < n := by
  obtain ⟨m, rfl⟩ := Int.eq_ofNat_of_zero_le h
  by_cases z : m = 0
  · subst z
    exact hn
  · have hm : m < 2 ^ n := by
      have : ((m : Nat) : Int) < ((2 ^ n : Nat) : Int) := by
        rw [Int.natCast_pow]
        exact h2
      exact Int.ofNat_lt.mp this
    exact (Nat.log2_lt z).mpr hm
section
variable {P : Program} {w : World} {K : PySem.W.Frag} {mg : Str → Option Value} {base : Heap}
theorem rv_ixL' {H : Hp} {a : Addr} {xs : List V} {i : Int} {v : V} (h : SqL K H a xs) (ha : atI xs i = some v) : RV (rIxL K) (.ref a) (.int i) H v := fun H1 e _ q => ⟨a, xs, i, v, rfl, rfl, ex_l e h, ha, q H1 (Ex.refl H1)⟩
/-! ### _law_at -/
def spAt (K : PySem.W.Frag) : Sp := fun vs H Q _ => ∃ (a : Addr) (ns : List Int) (k : Int), vs = [.ref a, .int k] ∧ SqL K H a (ns.map V.int) ∧ 0 ≤ k ∧ k < 1000 ∧ ∀ n : Int, RetV (.int n) H Q
theorem scAt : FnScope ["_law_script", "_law_k"] ["_law_script", "_law_k"] (defScope lAt) := ⟨rfl, rfl, rfl, by decide +kernel, rfl, by decide +kernel, by decide +kernel⟩
theorem ok_at {f : Addr} {fd : FuncData} (F : Fun K "_law_at" "_law_at" lAt f fd) (G : Gn K mg) : FnOk P w K mg base CX0 1 f fd ["_law_script", "_law_k"] (spAt K) := by
  refine F.ok scAt (fun vs H Q E h => ?_) (fun cdv A outer s H vs Q E hr h => ?_)
  · obtain ⟨a, ns, k, rfl, _⟩ := h
    rfl
  · obtain ⟨a, ns, k, rfl, hS, h0, h9, q⟩ := h
    refine ⟨_, pss_cons (ps_if (pt_cmpR op_lt (pv 1) (pe_callB call_len_seq (by rfl) G.len PySem.boot_len (pa_cons (pv 0) pa_nil)) (nomark _)) (pss_one (ps_ret (pe_ix ix_list (pv 0) (pv 1) (fun _ _ => rfl)))) pss_nil) (pss_one (ps_ret (pe_op op_add (pe_op op_mul pe_int (pv 1)) pe_int))), ?_⟩
    refine q_when (b := decide (k < (ns.map V.int).length)) (et_test (ev_op (ev_var rfl) (ev_len (ev_var rfl) hS) rv_I0)) (fun hb H1 e1 => ?_) (fun _ H1 e1 => ?_)
    · have hlt : k < (ns.map V.int).length := of_decide_eq_true hb
      rw [List.length_map] at hlt
      obtain ⟨j, rfl⟩ : ∃ j : Nat, k = (j : Int) := ⟨k.toNat, by omega⟩
      have hj : j < ns.length := by omega
      refine s_ret (v := .int ns[j]) (ev_op (ev_var rfl) (ev_var rfl) (rv_ixL' (ex_l e1 hS) (atI_nat (by rw [List.getElem?_map, List.getElem?_eq_getElem hj]; rfl)))) fun H2 e2 => (q _).go (e1.trans e2)
    · exact s_ret (v := .int (3 * k + 1)) (ev_op (ev_op ev_c (ev_var rfl) (rv_I (.inl (by decide)))) ev_c rv_I0) fun H2 e2 => (q _).go (e1.trans e2)
/-! ### _law_mixed -/
def spMixed : Sp := fun vs H Q _ => ∃ (c k : Int), vs = [.int c, .int k] ∧ 0 ≤ k ∧ k < 1000000 ∧ ∀ r : Int, 0 ≤ r → r < 2 ^ 200 → RetV (.int r) H Q
theorem scMixed : FnScope ["_law_cell", "_law_k", "_law_number"] ["_law_cell", "_law_k"] (defScope lMixed) := ⟨rfl, rfl, rfl, by decide +kernel, rfl, by decide +kernel, by decide +kernel⟩
theorem ok_mixed {f : Addr} {fd : FuncData} (F : Fun K "_law_mixed" "_law_mixed" lMixed f fd) : FnOk P w K mg base CX0 1 f fd ["_law_cell", "_law_k"] spMixed := by
  refine F.ok scMixed (fun vs H Q E h => ?_) (fun cdv A outer s H vs Q E hr h => ?_)
  · obtain ⟨c, k, rfl, _⟩ := h
    rfl
  · obtain ⟨c, k, rfl, k0, k1, q⟩ := h
    refine ⟨_, pss_cons (ps_set (i := 2) scMixed.nd rfl (.inl rfl) (pe_op op_add (pe_op op_add (pe_op op_mul (pe_op op_add (pe_op op_mod (pv 0) (pe_op op_add (pe_op op_pow pe_int pe_int) pe_int)) (pe_op op_mul pe_int (pv 1))) pe_int) (pe_op op_mul pe_int (pv 1))) pe_int))
      (pss_cons (ps_set (i := 2) scMixed.nd rfl (.inl rfl) (pe_op op_mod (pe_op op_mulW (pv 2) (pv 2)) (pe_op op_add (pe_op op_pow pe_int pe_int) pe_int)))
      (pss_one (ps_ret (pe_op op_mod (pe_op op_mulW (pe_op op_add (pv 2) pe_int) (pe_op op_add (pv 2) pe_int)) (pe_op op_add (pe_op op_pow pe_int pe_int) pe_int))))), ?_⟩
    have hk : -(2 ^ 64) < k ∧ k < 2 ^ 64 := by omega
    generalize hm : (10 : Int) ^ (18 : Int).toNat + 9 = m
    have hmv : m = 1000000000000000009 := by rw [← hm]; decide
    generalize hM : (10 : Int) ^ (60 : Int).toNat + 7 = M
    have hM0 : 0 < M := by rw [← hM]; decide
    have hM1 : M < 2 ^ 200 := by rw [← hM]; decide
    have c0 : 0 ≤ c % m := Int.emod_nonneg _ (by omega)
    have c1 : c % m < m := Int.emod_lt_of_pos _ (by omega)
    refine q_asg (v := .int ((c % m + 7 * k) * 739108512309184756019283746561 + 7919 * k + 1)) (ev_op (ev_op (ev_op (ev_op (ev_op (ev_var rfl) (ev_is (ev_op (ev_op ev_c ev_c (rv_I (by unfold CPow; decide))) ev_c rv_I0) (congrArg V.int hm)) (rv_I (C := fun _ j => 0 < j) (by omega))) (ev_op ev_c (ev_var rfl) (rv_I (.inl (by decide)))) rv_I0) ev_c (rv_I (.inl (by omega)))) (ev_op ev_c (ev_var rfl) (rv_I (.inl (by decide)))) rv_I0) ev_c rv_I0) fun H1 e1 => ?_
    generalize hx : (c % m + 7 * k) * 739108512309184756019283746561 + 7919 * k + 1 = x
    have x0 : 0 ≤ x := by omega
    have x1 : x < 2 ^ 200 := by omega
    have lx := lg_lt (n := 200) (by decide) x0 x1
    refine q_asg (v := .int (x * x % M)) (ev_op (ev_op (ev_var rfl) (ev_var rfl) (rv_I (by unfold CMulW; omega))) (ev_is (ev_op (ev_op ev_c ev_c (rv_I (by unfold CPow; decide))) ev_c rv_I0) (congrArg V.int hM)) (rv_I (C := fun _ j => 0 < j) hM0)) fun H2 e2 => ?_
    generalize hy : x * x % M = y
    have y0 : 0 ≤ y := by rw [← hy]; exact Int.emod_nonneg _ (by omega)
    have y1 : y < 2 ^ 200 := by rw [← hy]; exact Int.lt_trans (Int.emod_lt_of_pos _ hM0) hM1
    have l1 := lg_lt (x := y + 40503) (n := 201) (by decide) (by omega) (by omega)
    have l2 := lg_lt (x := y + 57) (n := 201) (by decide) (by omega) (by omega)
    refine s_ret (v := .int ((y + 40503) * (y + 57) % M)) (ev_op (ev_op (ev_op (ev_var rfl) ev_c rv_I0) (ev_op (ev_var rfl) ev_c rv_I0) (rv_I (by unfold CMulW; omega))) (ev_is (ev_op (ev_op ev_c ev_c (rv_I (by unfold CPow; decide))) ev_c rv_I0) (congrArg V.int hM)) (rv_I (C := fun _ j => 0 < j) hM0)) fun H3 e3 => (q _ (Int.emod_nonneg _ (by omega)) (Int.lt_trans (Int.emod_lt_of_pos _ hM0) hM1)).go ((e1.trans e2).trans e3)
end
end Prs
set_option Elab.async false
set_option linter.all false
set_option maxRecDepth 100000
set_option maxHeartbeats 4000000
namespace Prs
open PySem PySem.Spec PyProof.Rows L2 Evl
section
variable {P : Program} {w : World} {K : PySem.W.Frag} {mg : Str → Option Value} {base : Heap}
/-! ### _law_purse -/
def PurseAt (H : Hp) (p : Addr) (y : Int) : Prop := ∃ x z : Int, H p = some (.lst [.int x, .int y, .int z])
def spPurse : Sp := fun vs H Q _ => ∃ (c k : Int), vs = [.int c, .int k] ∧ 0 ≤ k ∧ k < 1000 ∧ ∀ p H', H p = none → Ex H H' → PurseAt H' p 0 → Q (.ref p) H'
theorem scPurse : FnScope ["_law_cell", "_law_k"] ["_law_cell", "_law_k"] (defScope lPurse) := ⟨rfl, rfl, rfl, by decide +kernel, rfl, by decide +kernel, by decide +kernel⟩
theorem ok_purse {f : Addr} {fd : FuncData} (F : Fun K "_law_purse" "_law_purse" lPurse f fd) (D : Df K mg "_law_mixed" lMixed ["_law_cell", "_law_k"]) : FnOk P w K mg base CX0 2 f fd ["_law_cell", "_law_k"] spPurse := by
  have GM : FnOk P w K mg base CX0 1 D.f D.fd ["_law_cell", "_law_k"] spMixed := ok_mixed D.F
  refine F.ok scPurse (fun vs H Q E h => ?_) (fun cdv A outer s H vs Q E hr h => ?_)
  · obtain ⟨c, k, rfl, _⟩ := h
    rfl
  · obtain ⟨c, k, rfl, k0, k1, q⟩ := h
    refine ⟨_, pss_cons (ps_if (pt_cmpR op_ge (pv 0) (pe_op op_pow pe_int pe_int) (nomark _)) (pss_one (ps_ret (pe_lst (pa_cons (pe_op op_mod (pe_op op_sub (pv 0) (pe_op op_pow pe_int pe_int)) (pe_op op_powB (pe_op op_pow pe_int pe_int) pe_int)) (pa_cons pe_int (pa_cons (pv 1) pa_nil)))))) pss_nil)
      (pss_one (ps_ret (pe_lst (pa_cons (pe_call GM hr rfl D.m D.F.kp D.b .nil pass0 (pa_cons (pv 0) (pa_cons (pv 1) pa_nil))) (pa_cons pe_int (pa_cons (pe_op op_add (pe_op op_mod (pv 0) (pe_op op_add (pe_op op_pow pe_int pe_int) pe_int)) (pv 1)) pa_nil)))))), ?_⟩
    generalize hm : ((10 : Int) ^ (60 : Int).toNat) ^ (10 : Int).toNat = m
    have m0 : 0 < m := by rw [← hm]; decide +kernel
    generalize hn : (10 : Int) ^ (18 : Int).toNat + 9 = n
    have n0 : 0 < n := by rw [← hn]; decide
    refine q_when (b := decide (c ≥ 10 ^ (18 : Int).toNat)) (et_test (ev_op (ev_var rfl) (ev_op ev_c ev_c (rv_I (by unfold CPow; decide))) rv_I0)) (fun hb H1 e1 => ?_) (fun hb H1 e1 => ?_)
    · refine s_retL (xs := [.int ((c - 10 ^ (18 : Int).toNat) % m), .int 0, .int k]) (el_lst (ea_cons (ev_op (ev_op (ev_var rfl) (ev_op ev_c ev_c (rv_I (by unfold CPow; decide))) rv_I0) (ev_is (ev_op (ev_op ev_c ev_c (rv_I (by unfold CPow; decide))) ev_c (rv_I (by decide +kernel))) (congrArg V.int hm)) (rv_I (C := fun _ j => 0 < j) m0)) (ea_cons ev_c (ea_cons (ev_var rfl) ea_nil))) (by show 3 ≤ 100000; decide)) fun p H2 np e2 hp => ?_
      exact q p H2 (fresh_back e1 np) (e1.trans e2) ⟨_, _, hp⟩
    · refine ⟨_, rfl, _, rfl, c, k, rfl, k0, by omega, fun r r0 r1 H2 e2 => ?_⟩
      have eR : EvA (tCons (tC (.int 0)) (tCons (tOp (rI0 fun i j => .int (i + j)) (tOp (rI (fun _ j => 0 < j) fun i j => .int (i % j)) (tVar 0) (tOp (rI0 fun i j => .int (i + j)) (tOp (rI CPow fun i j => .int (i ^ j.toNat)) (tC (.int 10)) (tC (.int 18))) (tC (.int 9)))) (tVar 1)) tNil)) [some (.int c), some (.int k)] H2 [.int 0, .int (c % n + k)] :=
        ea_cons ev_c (ea_cons (ev_op (ev_op (ev_var rfl) (ev_is (ev_op (ev_op ev_c ev_c (rv_I (by unfold CPow; decide))) ev_c rv_I0) (congrArg V.int hn)) (rv_I (C := fun _ j => 0 < j) n0)) (ev_var rfl) rv_I0) ea_nil)
      refine eR H2 (Ex.refl H2) _ fun H3 e3 => ⟨by show 3 ≤ sizeLine; exact sz_of (by decide), fun p np => ?_⟩
      have e13 := (e1.trans e2).trans e3
      exact q p _ (fresh_back e13 np) (e13.trans (fr_new np)) ⟨_, _, upd_same⟩
/-! ### _law_take -/
def spLTake : Sp := fun vs H Q _ => ∃ (p : Addr) (m y : Int), vs = [.ref p, .int m] ∧ 2 ≤ m ∧ m ≤ 1000 ∧ PurseAt H p y ∧ 0 ≤ y ∧ y < 9000 ∧ ∀ (d y' : Int) (H' : Hp), 0 ≤ d → d < m → y ≤ y' → y' ≤ y + 1 → Fr p H H' → PurseAt H' p y' → Q (.int d) H'
theorem scLTake : FnScope ["_law_purse_here", "_law_far", "_law_got"] ["_law_purse_here", "_law_far"] (defScope lTake) := ⟨rfl, rfl, rfl, by decide +kernel, rfl, by decide +kernel, by decide +kernel⟩
theorem ok_ltake {f : Addr} {fd : FuncData} (F : Fun K "_law_take" "_law_take" lTake f fd) (D : Df K mg "_law_mixed" lMixed ["_law_cell", "_law_k"]) : FnOk P w K mg base CX0 2 f fd ["_law_purse_here", "_law_far"] spLTake := by
  have GM : FnOk P w K mg base CX0 1 D.f D.fd ["_law_cell", "_law_k"] spMixed := ok_mixed D.F
  refine F.ok scLTake (fun vs H Q E h => ?_) (fun cdv A outer s H vs Q E hr h => ?_)
  · obtain ⟨p, m, y, rfl, _⟩ := h
    rfl
  · obtain ⟨p, m, y, rfl, m0, m1, ⟨x, z, hp⟩, y0, y1, q⟩ := h
    refine ⟨_, Evl.pss_cut (ps_if (pt_cmpR op_lt (pe_ix ix_list (pv 0) pe_int (fun _ _ => rfl)) (pv 1) (nomark _))
        (pss_cons (ps_asg (pe_op op_add (pe_ix ix_list (pv 0) pe_int (fun _ _ => rfl)) pe_int) (pg_sub (pv 0) pe_int set_list))
        (pss_one (ps_asg (pe_op op_add (pe_ix ix_list (pv 0) pe_int (fun _ _ => rfl)) (pe_op op_mul (pv 1) (pe_call GM hr rfl D.m D.F.kp D.b .nil pass0 (pa_cons (pe_ix ix_list (pv 0) pe_int (fun _ _ => rfl)) (pa_cons (pe_op op_add (pe_op op_mul pe_int (pe_ix ix_list (pv 0) pe_int (fun _ _ => rfl))) pe_int) pa_nil))))) (pg_sub (pv 0) pe_int set_list)))) pss_nil)
      (pss_cons (ps_set (i := 2) scLTake.nd rfl (.inl rfl) (pe_op op_mod (pe_ix ix_list (pv 0) pe_int (fun _ _ => rfl)) (pv 1)))
      (pss_cons (ps_asg (pe_op op_fdiv (pe_ix ix_list (pv 0) pe_int (fun _ _ => rfl)) (pv 1)) (pg_sub (pv 0) pe_int set_list))
      (pss_one (ps_ret (pv 2))))), ?_⟩
    have i0 : ∀ {H' : Hp} {a b c : V}, H' p = some (.lst [a, b, c]) → ∀ {σ : L2.St}, σ[0]? = some (some (.ref p)) → Ev (tOp (rIxL K) (tVar 0) (tC (.int 0))) σ H' a := fun hh _ hs => ev_op (ev_var hs) ev_c (rv_ixL' (sq_of hh) rfl)
    have i1 : ∀ {H' : Hp} {a b c : V}, H' p = some (.lst [a, b, c]) → ∀ {σ : L2.St}, σ[0]? = some (some (.ref p)) → Ev (tOp (rIxL K) (tVar 0) (tC (.int 1))) σ H' b := fun hh _ hs => ev_op (ev_var hs) ev_c (rv_ixL' (sq_of hh) rfl)
    have i2 : ∀ {H' : Hp} {a b c : V}, H' p = some (.lst [a, b, c]) → ∀ {σ : L2.St}, σ[0]? = some (some (.ref p)) → Ev (tOp (rIxL K) (tVar 0) (tC (.int 2))) σ H' c := fun hh _ hs => ev_op (ev_var hs) ev_c (rv_ixL' (sq_of hh) rfl)
    refine Evl.q_cut (M := fun σ' H' => σ' = [some (.ref p), some (.int m), none] ∧ Fr p H H' ∧ ∃ x y' : Int, y ≤ y' ∧ y' ≤ y + 1 ∧ H' p = some (.lst [.int x, .int y', .int z])) ?_ ?_
    · refine s_when (b := decide (x < m)) (et_test (ev_op (i0 hp rfl) (ev_var rfl) rv_I0)) (fun hb H1 e1 => ?_) (fun hb H1 e1 => ⟨rfl, Fr.ex e1, x, y, by omega, by omega, e1 _ _ hp⟩)
      have hp1 := e1 p _ hp
      refine s_setL (D := { nx := _, rt := Q, bk := _, ct := _ }) (j := 1) (v := .int (y + 1)) hp1 (ev_op (i1 hp1 rfl) ev_c rv_I0) (ev_var rfl) ev_c (by show 1 < 3; decide) fun H2 e2 => ?_
      have hp2 : (L2.upd H2 p (.lst [.int x, .int (y + 1), .int z])) p = some (.lst [.int x, .int (y + 1), .int z]) := upd_same
      have f2 : Fr p H (L2.upd H2 p (.lst [.int x, .int (y + 1), .int z])) := Fr.upd (Fr.ex (e1.trans e2))
      have e3 : ∀ b o, b ≠ p → H b = some o → (L2.upd H2 p (.lst [.int x, .int (y + 1), .int z])) b = some o := f2
      refine i0 hp2 rfl _ (Ex.refl _) _ fun H3 e3 => ⟨.int m, rfl, ?_⟩
      have hp3 := e3 p _ hp2
      have eA : EvA (tCons (tOp (rIxL K) (tVar 0) (tC (.int 2))) (tCons (tOp (rI0 fun i j => .int (i + j)) (tOp (rI CMul fun i j => .int (i * j)) (tC (.int 11)) (tOp (rIxL K) (tVar 0) (tC (.int 1)))) (tC (.int 5))) tNil)) [some (.ref p), some (.int m), none] H3 [.int z, .int (11 * (y + 1) + 5)] :=
        ea_cons (i2 hp3 rfl) (ea_cons (ev_op (ev_op ev_c (i1 hp3 rfl) (rv_I (.inl (by decide)))) ev_c rv_I0) ea_nil)
      refine eA H3 (Ex.refl H3) _ fun H4 e4 => ⟨z, 11 * (y + 1) + 5, rfl, by omega, by omega, fun r r0 r1 H5 e5 => ⟨m, r, rfl, rfl, .inl (by omega), x, m * r, rfl, rfl, ?_⟩⟩
      have hp5 := e5 p _ (e4 p _ hp3)
      refine ⟨.ref p, rfl, p, _, 0, 0, rfl, rfl, hp5, ixN_nat (by show 0 < 3; decide), rfl, f2.trans (Fr.upd (Fr.ex (e3.trans (e4.trans e5)))), x + m * r, y + 1, by omega, by omega, upd_same⟩
    · rintro σ' H1 ⟨rfl, f1, x, y', h1, h2, hp1⟩
      refine q_asg (v := .int (x % m)) (ev_op (i0 hp1 rfl) (ev_var rfl) (rv_I (C := fun _ j => 0 < j) (by omega))) fun H2 e2 => ?_
      have hp2 := e2 p _ hp1
      refine s_setL (D := { nx := _, rt := Q }) (j := 0) (v := .int (x / m)) hp2 (ev_op (i0 hp2 rfl) (ev_var rfl) (rv_I (C := CDiv) ⟨by omega, by omega⟩)) (ev_var rfl) ev_c (by show 0 < 3; decide) fun H3 e3 => ?_
      refine s_ret (v := .int (x % m)) (ev_var rfl) fun H4 e4 => ?_
      exact q _ y' H4 (Int.emod_nonneg _ (by omega)) (Int.emod_lt_of_pos _ (by omega)) h1 h2 (f1.trans ((Fr.upd (Fr.ex (e2.trans e3))).trans (Fr.ex e4))) ⟨x / m, z, e4 p _ upd_same⟩
end
end Prs
set_option Elab.async false
set_option linter.all false
set_option maxRecDepth 100000
set_option maxHeartbeats 4000000
namespace Prs
open PySem PySem.Spec PyProof.Rows L2 Evl
abbrev lRowOf : Stmt := top 66
section
variable {P : Program} {w : World} {K : PySem.W.Frag} {mg : Str → Option Value} {base : Heap}
/-! ### _law_pick -/
def spPick (K : PySem.W.Frag) : Sp := fun vs H Q _ => ∃ (p a : Addr) (xs : List V) (y : Int), vs = [.ref p, .ref a] ∧ PurseAt H p y ∧ 0 ≤ y ∧ y < 9000 ∧ H a = some (.lst xs) ∧ 2 ≤ xs.length ∧ xs.length ≤ 1000 ∧ a ≠ p ∧
  ∀ (i : Nat) (v : V) (y' : Int) (H' : Hp), xs[i]? = some v → y ≤ y' → y' ≤ y + 1 → Fr p H H' → PurseAt H' p y' → Q v H'
theorem scPick : FnScope ["_law_purse_here", "_law_some"] ["_law_purse_here", "_law_some"] (defScope lPick) := ⟨rfl, rfl, rfl, by decide +kernel, rfl, by decide +kernel, by decide +kernel⟩
theorem ok_pick {f : Addr} {fd : FuncData} (F : Fun K "_law_pick" "_law_pick" lPick f fd) (G : Gn K mg) (DT' : Df K mg "_law_take" lTake ["_law_purse_here", "_law_far"]) (D : Df K mg "_law_mixed" lMixed ["_law_cell", "_law_k"]) : FnOk P w K mg base CX0 3 f fd ["_law_purse_here", "_law_some"] (spPick K) := by
  have GT : FnOk P w K mg base CX0 2 DT'.f DT'.fd ["_law_purse_here", "_law_far"] spLTake := ok_ltake DT'.F D
  refine F.ok scPick (fun vs H Q E h => ?_) (fun cdv A outer s H vs Q E hr h => ?_)
  · obtain ⟨p, a, xs, y, rfl, _⟩ := h
    rfl
  · obtain ⟨p, a, xs, y, rfl, hp, y0, y1, ha, l2, l3, n, q⟩ := h
    refine ⟨_, pss_one (ps_ret (pe_ix ix_list (pv 1) (pe_call GT hr rfl DT'.m DT'.F.kp DT'.b .nil pass0 (pa_cons (pv 0) (pa_cons (pe_callB call_len_seq (by rfl) G.len PySem.boot_len (pa_cons (pv 1) pa_nil)) pa_nil))) (fun _ _ => rfl))), ?_⟩
    have eA : EvA (tCons (tVar 0) (tCons (tCB (rLenS K) (tCons (tVar 1) tNil)) tNil)) [some (.ref p), some (.ref a)] H [.ref p, .int (xs.length : Nat)] := ea_cons (ev_var rfl) (ea_cons (ev_len (ev_var rfl) (sq_of ha)) ea_nil)
    refine ⟨.ref a, rfl, eA H (Ex.refl H) _ fun H1 e1 => ?_⟩
    obtain ⟨x, z, hpp⟩ := hp
    refine ⟨p, xs.length, y, rfl, by omega, by omega, ⟨x, z, e1 _ _ hpp⟩, y0, y1, fun d y' H2 d0 d1 h1 h2 f2 hp2 => ?_⟩
    obtain ⟨j, rfl⟩ := Int.eq_ofNat_of_zero_le d0
    have hj : j < xs.length := by omega
    exact ⟨a, xs, j, xs[j], rfl, rfl, sq_of (f2 _ _ n (e1 _ _ ha)), atI_nat (List.getElem?_eq_getElem hj), q j _ y' H2 (List.getElem?_eq_getElem hj) h1 h2 ((Fr.ex e1).trans f2) hp2⟩
/-! ### _law_row_of -/
def rowsOf (s : Str) : List Str := ["on tap", "one top", "  go on tap if " ++ s, "  leaf a"]
def spRowOf : Sp := fun vs H Q _ => ∃ s : Str, vs = [.str s] ∧ s.length ≤ 9000 ∧ ∀ l H', H l = none → Ex H H' → H' l = some (.lst ((rowsOf s).map V.str)) → Q (.ref l) H'
theorem scRowOf : FnScope ["_law_line"] ["_law_line"] (defScope lRowOf) := ⟨rfl, rfl, rfl, by decide +kernel, rfl, by decide +kernel, by decide +kernel⟩
theorem ok_rowOf {f : Addr} {fd : FuncData} (F : Fun K "_law_row_of" "_law_row_of" lRowOf f fd) : FnOk P w K mg base CX0 1 f fd ["_law_line"] spRowOf := by
  refine F.ok scRowOf (fun vs H Q E h => ?_) (fun cdv A outer s H vs Q E hr h => ?_)
  · obtain ⟨x, rfl, _⟩ := h
    rfl
  · obtain ⟨x, rfl, hz, q⟩ := h
    refine ⟨_, pss_one (ps_ret (pe_lst (pa_cons pe_str (pa_cons pe_str (pa_cons (pe_op op_add_str pe_str (pv 0)) (pa_cons pe_str pa_nil)))))), ?_⟩
    exact s_retL (D := { nx := _, rt := Q }) (xs := (rowsOf x).map V.str) (el_lst (ea_cons ev_c (ea_cons ev_c (ea_cons (ev_op ev_c (ev_var rfl) (rv_catS (by have : ("  go on tap if " : Str).length = 15 := rfl; omega))) (ea_cons ev_c ea_nil)))) (by show 4 ≤ 100000; decide)) fun l H1 n e h => q l H1 n e h
end
end Prs
set_option Elab.async false
set_option linter.all false
set_option maxRecDepth 100000
set_option maxHeartbeats 4000000
namespace Prs
open PySem PySem.Spec PyProof.Rows L2 Evl
abbrev lGood : Stmt := top 64
abbrev lBad : Stmt := top 65
/-! ### constant tuples of a def's text -/
mutual
def evE (env : List (Str × PyData)) : Expr → Option PyData
  | .Constant (.str s) _ _ => some (.str s)
  | .Constant (.int i) _ _ => some (.int i)
  | .Name x _ => env.lookup x
  | .Tuple es _ _ => match evEs env es with
    | none => none
    | some ds => some (.tuple ds)
  | _ => none
def evEs (env : List (Str × PyData)) : List Expr → Option (List PyData)
  | [] => some []
  | e :: es => match evE env e, evEs env es with
    | some d, some ds => some (d :: ds)
    | _, _ => none
end
def bindAll : List Expr → List PyData → List (Str × PyData)
  | .Name x _ :: es, d :: ds => (x, d) :: bindAll es ds
  | _, _ => []
def pairsOf (env : List (Str × PyData)) : List Stmt → List (Str × PyData)
  | [] => []
  | .Assign [.Tuple es _ _] e _ :: r => match evE env e with
    | some (.tuple ds) => pairsOf (bindAll es ds ++ env) r
    | _ => pairsOf env r
  | .Assign [.Name x _] e _ :: r => match evE env e with
    | some d => pairsOf ((x, d) :: env) r
    | none => pairsOf env r
  | .Expr (.Call _ [.List [.Constant (.str s) _ _, e] _] _ _) _ :: r => match evE env e with
    | some d => (s, d) :: pairsOf env r
    | none => pairsOf env r
  | _ :: r => pairsOf env r
def GOOD : List (Str × PyData) := pairsOf [] (defBody lGood)
def BAD : List (Str × PyData) := pairsOf [] (defBody lBad)
/-- at l: a list of lists of a text and a thing -/
def PairsAt (H : Hp) (l : Addr) (prs : List (Str × PyData)) : Prop := ∃ xs, H l = some (.lst xs) ∧ Paired (fun x (pr : Str × PyData) => ∃ q u, x = V.ref q ∧ q ≠ l ∧ H q = some (.lst [.str pr.1, u]) ∧ DT H pr.2 u) xs prs
theorem PairsAt.nil {H : Hp} {l : Addr} (h : H l = some (.lst [])) : PairsAt H l [] := ⟨[], h, .nil⟩
theorem PairsAt.ex {H H' : Hp} {l : Addr} {prs : List (Str × PyData)} (p : PairsAt H l prs) (e : Ex H H') : PairsAt H' l prs := by
  obtain ⟨xs, h, hp⟩ := p
  exact ⟨xs, e _ _ h, Paired.mapP hp fun x pr ⟨q, u, h1, n, h2, h3⟩ => ⟨q, u, h1, n, e _ _ h2, DT.tf (TF.ex e) _ _ h3⟩⟩
section
variable {P : Program} {w : World} {K : PySem.W.Frag} {mg : Str → Option Value} {base : Heap}
section
variable {σ : L2.St} {H : Hp} {D : Ends} {tz : TS} {te : TE}
theorem q_asgD {i : Nat} {d : PyData} (h : EvD te σ H d) (k : ∀ v H1, Ex H H1 → DT H1 d v → tz D (σ.set i (some v)) H1) : tSeq (tAsg te (gName i)) tz D σ H := h H (Ex.refl H) _ fun v H1 e hv => k v H1 e hv
theorem q_un3 {i j l : Nat} {d1 d2 d3 : PyData} (h : EvD te σ H (.tuple [d1, d2, d3])) (k : ∀ v1 v2 v3 H1, Ex H H1 → DT H1 d1 v1 → DT H1 d2 v2 → DT H1 d3 v3 → tz D (((σ.set i (some v1)).set j (some v2)).set l (some v3)) H1) :
    tSeq (tAsg te (gTup K 3 (gCons (gName i) (gCons (gName j) (gCons (gName l) gNil))))) tz D σ H := h H (Ex.refl H) _ fun v H1 e hv => by
  unfold DT at hv
  obtain ⟨a, vs, rfl, h1, h2⟩ := hv
  unfold DTs at h2
  obtain ⟨v1, r1, rfl, g1, h2⟩ := h2
  unfold DTs at h2
  obtain ⟨v2, r2, rfl, g2, h2⟩ := h2
  unfold DTs at h2
  obtain ⟨v3, r3, rfl, g3, h2⟩ := h2
  unfold DTs at h2
  subst h2
  exact ⟨a, _, rfl, st_of h1, rfl, _, _, rfl, _, _, rfl, _, _, rfl, rfl, k v1 v2 v3 H1 e g1 g2 g3⟩
theorem paired_snoc {α β : Type} {R : α → β → Prop} {a : α} {b : β} (h : R a b) : ∀ {xs : List α} {ys : List β}, Paired R xs ys → Paired R (xs ++ [a]) (ys ++ [b])
  | _, _, .nil => .cons h .nil
  | _, _, .cons r t => .cons r (paired_snoc h t)
theorem q_appP {l : Addr} {i : Nat} {prs : List (Str × PyData)} {s : Str} {d : PyData} (h0 : σ[i]? = some (some (.ref l))) (p : PairsAt H l prs) (h : EvD te σ H d) (hz : prs.length < 1000) (k : ∀ H1, TF H H1 → Fr l H H1 → PairsAt H1 l (prs ++ [(s, d)]) → tz D σ H1) :
    tSeq (tDrop (tBM K "list" rAppend (tVar i) (tCons (tLst (tCons (tC (.str s)) (tCons te tNil))) tNil))) tz D σ H := by
  obtain ⟨xs, hl, hp⟩ := p
  refine ⟨.ref l, h0, Or.inl ⟨rfl, xs, sq_of hl⟩, h H (Ex.refl H) _ fun u H1 e hu => ⟨by show 2 ≤ sizeLine; exact sz_of (by decide), fun q nq => ?_⟩⟩
  have e2 : Ex H1 (L2.upd H1 q (.lst [.str s, u])) := fr_new nq
  have hl2 := e2 _ _ (e _ _ hl)
  have nql : q ≠ l := ne_of_none' (e _ _ hl) nq
  refine ⟨l, xs, .ref q, rfl, rfl, hl2, sz_lt (by rw [Paired.length hp]; omega), ?_⟩
  have f3 : Fr l (L2.upd H1 q (.lst [.str s, u])) (L2.upd (L2.upd H1 q (.lst [.str s, u])) l (.lst (xs ++ [.ref q]))) := fr_upd
  have t3 := TF.fr' (ys := xs ++ [.ref q]) hl2
  have t : TF H _ := fun b zs hb => t3 b zs (e2 _ _ (e _ _ hb))
  refine k _ t (fun b o n hb => f3 b o n (e2 _ _ (e _ _ hb))) ⟨xs ++ [.ref q], upd_same, paired_snoc ⟨q, u, rfl, nql, ?_, DT.tf t3 _ _ (DT.tf (TF.ex e2) _ _ hu)⟩ (Paired.mapP hp fun x pr ⟨q2, u2, h1, n, h2, h3⟩ => ⟨q2, u2, h1, n, f3 _ _ n (e2 _ _ (e _ _ h2)), DT.tf t _ _ h3⟩)⟩
  rw [upd_ne nql, upd_same]
end
/-! ### _law_good, _law_bad -/
def spPairs (prs : List (Str × PyData)) : Sp := fun vs H Q _ => vs = [] ∧ ∀ l H', H l = none → Ex H H' → PairsAt H' l prs → Q (.ref l) H'
theorem scGood : FnScope ["_law_n", "_law_k", "_law_one", "_law_a", "_law_b", "_law_c", "_law_low", "_law_some"] [] (defScope lGood) := ⟨rfl, rfl, rfl, by decide +kernel, rfl, by decide +kernel, by decide +kernel⟩
theorem okscGood {f : Addr} {fd : FuncData} (F : Fun K "_law_good" "_law_good" lGood f fd) : FnOk P w K mg base CX0 1 f fd [] (spPairs GOOD) := by
  refine F.ok scGood (fun vs H Q E h => ?_) (fun cdv A outer s0 H vs Q E hr h => ?_)
  · obtain ⟨rfl, _⟩ := h
    rfl
  · obtain ⟨rfl, q⟩ := h
    refine ⟨_, (pss_cons (ps_asg (pe_tup (pa_cons (pe_tup (pa_cons pe_str (pa_cons pe_str pa_nil))) (pa_cons (pe_tup (pa_cons pe_str (pa_cons pe_str pa_nil))) (pa_cons (pe_tup (pa_cons pe_str (pa_cons pe_int pa_nil))) pa_nil)))) (pg_tup rfl (pgs_cons (pg_name (i := 0) scGood.nd rfl (.inl rfl)) (pgs_cons (pg_name (i := 1) scGood.nd rfl (.inl rfl)) (pgs_cons (pg_name (i := 2) scGood.nd rfl (.inl rfl)) pgs_nil)))))
      (pss_cons (ps_asg (pe_tup (pa_cons (pe_tup (pa_cons pe_str (pa_cons pe_str pa_nil))) (pa_cons (pe_tup (pa_cons pe_str (pa_cons pe_str pa_nil))) (pa_cons (pe_tup (pa_cons pe_str (pa_cons pe_str pa_nil))) pa_nil)))) (pg_tup rfl (pgs_cons (pg_name (i := 3) scGood.nd rfl (.inl rfl)) (pgs_cons (pg_name (i := 4) scGood.nd rfl (.inl rfl)) (pgs_cons (pg_name (i := 5) scGood.nd rfl (.inl rfl)) pgs_nil)))))
      (pss_cons (ps_set (i := 6) scGood.nd rfl (.inl rfl) (pe_tup (pa_cons pe_str (pa_cons (pv 0) (pa_cons (pv 2) pa_nil)))))
      (pss_cons (ps_set (i := 7) scGood.nd rfl (.inl rfl) (pe_lst pa_nil))
      (pss_cons (ps_expr (pe_bm PySem.F.plainAttrs_list PySem.F.slot_list_append PySem.F.type_list_append mt_append (pv 7) (pa_cons (pe_lst (pa_cons pe_str (pa_cons (pe_tup (pa_cons pe_str (pa_cons (pe_tup (pa_cons pe_str (pa_cons (pv 3) (pa_cons (pv 4) pa_nil)))) (pa_cons (pv 5) pa_nil)))) pa_nil))) pa_nil)))
      (pss_cons (ps_expr (pe_bm PySem.F.plainAttrs_list PySem.F.slot_list_append PySem.F.type_list_append mt_append (pv 7) (pa_cons (pe_lst (pa_cons pe_str (pa_cons (pe_tup (pa_cons pe_str (pa_cons (pv 3) (pa_cons (pe_tup (pa_cons pe_str (pa_cons (pv 4) (pa_cons (pv 5) pa_nil)))) pa_nil)))) pa_nil))) pa_nil)))
      (pss_cons (ps_expr (pe_bm PySem.F.plainAttrs_list PySem.F.slot_list_append PySem.F.type_list_append mt_append (pv 7) (pa_cons (pe_lst (pa_cons pe_str (pa_cons (pe_tup (pa_cons pe_str (pa_cons (pe_tup (pa_cons pe_str (pa_cons (pv 3) (pa_cons (pv 4) pa_nil)))) (pa_cons (pv 5) pa_nil)))) pa_nil))) pa_nil)))
      (pss_cons (ps_expr (pe_bm PySem.F.plainAttrs_list PySem.F.slot_list_append PySem.F.type_list_append mt_append (pv 7) (pa_cons (pe_lst (pa_cons pe_str (pa_cons (pe_tup (pa_cons pe_str (pa_cons (pe_tup (pa_cons pe_str (pa_cons (pv 3) (pa_cons (pv 4) pa_nil)))) (pa_cons (pv 5) pa_nil)))) pa_nil))) pa_nil)))
      (pss_cons (ps_expr (pe_bm PySem.F.plainAttrs_list PySem.F.slot_list_append PySem.F.type_list_append mt_append (pv 7) (pa_cons (pe_lst (pa_cons pe_str (pa_cons (pe_tup (pa_cons pe_str (pa_cons (pv 3) (pa_cons (pe_tup (pa_cons pe_str (pa_cons (pv 4) (pa_cons (pv 5) pa_nil)))) pa_nil)))) pa_nil))) pa_nil)))
      (pss_cons (ps_expr (pe_bm PySem.F.plainAttrs_list PySem.F.slot_list_append PySem.F.type_list_append mt_append (pv 7) (pa_cons (pe_lst (pa_cons pe_str (pa_cons (pe_tup (pa_cons pe_str (pa_cons (pe_tup (pa_cons pe_str (pa_cons (pv 3) pa_nil))) (pa_cons (pv 4) pa_nil)))) pa_nil))) pa_nil)))
      (pss_cons (ps_expr (pe_bm PySem.F.plainAttrs_list PySem.F.slot_list_append PySem.F.type_list_append mt_append (pv 7) (pa_cons (pe_lst (pa_cons pe_str (pa_cons (pe_tup (pa_cons pe_str (pa_cons (pe_tup (pa_cons pe_str (pa_cons (pv 3) (pa_cons (pv 4) pa_nil)))) pa_nil))) pa_nil))) pa_nil)))
      (pss_cons (ps_expr (pe_bm PySem.F.plainAttrs_list PySem.F.slot_list_append PySem.F.type_list_append mt_append (pv 7) (pa_cons (pe_lst (pa_cons pe_str (pa_cons (pe_tup (pa_cons pe_str (pa_cons (pe_tup (pa_cons pe_str (pa_cons (pe_tup (pa_cons pe_str pa_nil)) pa_nil))) pa_nil))) pa_nil))) pa_nil)))
      (pss_cons (ps_expr (pe_bm PySem.F.plainAttrs_list PySem.F.slot_list_append PySem.F.type_list_append mt_append (pv 7) (pa_cons (pe_lst (pa_cons pe_str (pa_cons (pv 6) pa_nil))) pa_nil)))
      (pss_cons (ps_expr (pe_bm PySem.F.plainAttrs_list PySem.F.slot_list_append PySem.F.type_list_append mt_append (pv 7) (pa_cons (pe_lst (pa_cons pe_str (pa_cons (pv 6) pa_nil))) pa_nil)))
      (pss_cons (ps_expr (pe_bm PySem.F.plainAttrs_list PySem.F.slot_list_append PySem.F.type_list_append mt_append (pv 7) (pa_cons (pe_lst (pa_cons pe_str (pa_cons (pv 6) pa_nil))) pa_nil)))
      (pss_cons (ps_expr (pe_bm PySem.F.plainAttrs_list PySem.F.slot_list_append PySem.F.type_list_append mt_append (pv 7) (pa_cons (pe_lst (pa_cons pe_str (pa_cons (pv 6) pa_nil))) pa_nil)))
      (pss_cons (ps_expr (pe_bm PySem.F.plainAttrs_list PySem.F.slot_list_append PySem.F.type_list_append mt_append (pv 7) (pa_cons (pe_lst (pa_cons pe_str (pa_cons (pe_tup (pa_cons pe_str (pa_cons (pv 6) pa_nil))) pa_nil))) pa_nil)))
      (pss_cons (ps_expr (pe_bm PySem.F.plainAttrs_list PySem.F.slot_list_append PySem.F.type_list_append mt_append (pv 7) (pa_cons (pe_lst (pa_cons pe_str (pa_cons (pe_tup (pa_cons pe_str (pa_cons (pe_tup (pa_cons pe_str (pa_cons (pe_tup (pa_cons pe_str (pa_cons (pv 0) (pa_cons (pv 2) pa_nil)))) (pa_cons (pv 1) pa_nil)))) (pa_cons (pv 2) pa_nil)))) pa_nil))) pa_nil)))
      (pss_cons (ps_expr (pe_bm PySem.F.plainAttrs_list PySem.F.slot_list_append PySem.F.type_list_append mt_append (pv 7) (pa_cons (pe_lst (pa_cons pe_str (pa_cons (pe_tup (pa_cons pe_str (pa_cons (pe_tup (pa_cons pe_str (pa_cons (pe_tup (pa_cons pe_str (pa_cons (pv 0) (pa_cons (pv 1) pa_nil)))) (pa_cons (pv 2) pa_nil)))) (pa_cons (pe_tup (pa_cons pe_str (pa_cons (pv 0) (pa_cons (pe_tup (pa_cons pe_str (pa_cons (pv 1) (pa_cons (pv 2) pa_nil)))) pa_nil)))) pa_nil)))) pa_nil))) pa_nil)))
      (pss_cons (ps_expr (pe_bm PySem.F.plainAttrs_list PySem.F.slot_list_append PySem.F.type_list_append mt_append (pv 7) (pa_cons (pe_lst (pa_cons pe_str (pa_cons (pe_tup (pa_cons pe_str (pa_cons (pe_tup (pa_cons pe_str (pa_cons (pv 6) (pa_cons (pv 3) pa_nil)))) (pa_cons (pe_tup (pa_cons pe_str pa_nil)) pa_nil)))) pa_nil))) pa_nil)))
      (pss_cons (ps_expr (pe_bm PySem.F.plainAttrs_list PySem.F.slot_list_append PySem.F.type_list_append mt_append (pv 7) (pa_cons (pe_lst (pa_cons pe_str (pa_cons (pe_tup (pa_cons pe_str (pa_cons (pe_tup (pa_cons pe_str (pa_cons (pv 0) (pa_cons (pv 2) pa_nil)))) (pa_cons (pv 1) pa_nil)))) pa_nil))) pa_nil)))
      (pss_cons (ps_expr (pe_bm PySem.F.plainAttrs_list PySem.F.slot_list_append PySem.F.type_list_append mt_append (pv 7) (pa_cons (pe_lst (pa_cons pe_str (pa_cons (pe_tup (pa_cons pe_str (pa_cons (pe_tup (pa_cons pe_str (pa_cons (pv 6) (pa_cons (pv 4) pa_nil)))) (pa_cons (pe_tup (pa_cons pe_str pa_nil)) pa_nil)))) pa_nil))) pa_nil)))
      (pss_cons (ps_expr (pe_bm PySem.F.plainAttrs_list PySem.F.slot_list_append PySem.F.type_list_append mt_append (pv 7) (pa_cons (pe_lst (pa_cons pe_str (pa_cons (pe_tup (pa_cons pe_str (pa_cons (pv 6) (pa_cons (pe_tup (pa_cons pe_str (pa_cons (pv 1) (pa_cons (pv 2) pa_nil)))) pa_nil)))) pa_nil))) pa_nil)))
      (pss_cons (ps_expr (pe_bm PySem.F.plainAttrs_list PySem.F.slot_list_append PySem.F.type_list_append mt_append (pv 7) (pa_cons (pe_lst (pa_cons pe_str (pa_cons (pe_tup (pa_cons pe_str (pa_cons (pe_tup (pa_cons pe_str (pa_cons (pv 2) (pa_cons (pv 2) pa_nil)))) (pa_cons (pe_tup (pa_cons pe_str (pa_cons (pv 2) (pa_cons (pv 0) pa_nil)))) pa_nil)))) pa_nil))) pa_nil)))
      (pss_cons (ps_expr (pe_bm PySem.F.plainAttrs_list PySem.F.slot_list_append PySem.F.type_list_append mt_append (pv 7) (pa_cons (pe_lst (pa_cons pe_str (pa_cons (pe_tup (pa_cons pe_str (pa_cons (pv 6) pa_nil))) pa_nil))) pa_nil)))
      (pss_cons (ps_expr (pe_bm PySem.F.plainAttrs_list PySem.F.slot_list_append PySem.F.type_list_append mt_append (pv 7) (pa_cons (pe_lst (pa_cons pe_str (pa_cons (pe_tup (pa_cons pe_str (pa_cons (pv 3) (pa_cons (pv 6) pa_nil)))) pa_nil))) pa_nil)))
      (pss_one (ps_ret (pv 7))))))))))))))))))))))))))))), ?_⟩
    refine q_un3 (evd_tup (evds_cons (evd_tup (evds_cons (evd_of ev_c dt_str) (evds_cons (evd_of ev_c dt_str) evds_nil)) (by show 2 ≤ 100000; decide)) (evds_cons (evd_tup (evds_cons (evd_of ev_c dt_str) (evds_cons (evd_of ev_c dt_str) evds_nil)) (by show 2 ≤ 100000; decide)) (evds_cons (evd_tup (evds_cons (evd_of ev_c dt_str) (evds_cons (evd_of ev_c dt_int) evds_nil)) (by show 2 ≤ 100000; decide)) evds_nil))) (by show 3 ≤ 100000; decide)) fun v0 v1 v2 H1 e1 d0_1 d1_1 d2_1 => ?_
    have x1 := e1
    refine q_un3 (evd_tup (evds_cons (evd_tup (evds_cons (evd_of ev_c dt_str) (evds_cons (evd_of ev_c dt_str) evds_nil)) (by show 2 ≤ 100000; decide)) (evds_cons (evd_tup (evds_cons (evd_of ev_c dt_str) (evds_cons (evd_of ev_c dt_str) evds_nil)) (by show 2 ≤ 100000; decide)) (evds_cons (evd_tup (evds_cons (evd_of ev_c dt_str) (evds_cons (evd_of ev_c dt_str) evds_nil)) (by show 2 ≤ 100000; decide)) evds_nil))) (by show 3 ≤ 100000; decide)) fun v3 v4 v5 H2 e2 d3_2 d4_2 d5_2 => ?_
    have d0_2 := DT.tf (TF.ex e2) _ _ d0_1
    have d1_2 := DT.tf (TF.ex e2) _ _ d1_1
    have d2_2 := DT.tf (TF.ex e2) _ _ d2_1
    have x2 := Ex.trans x1 e2
    refine q_asgD (evd_tup (evds_cons (evd_of ev_c dt_str) (evds_cons (evd_of (ev_var rfl) d0_2) (evds_cons (evd_of (ev_var rfl) d2_2) evds_nil))) (by show 3 ≤ 100000; decide)) fun v6 H3 e3 d6_3 => ?_
    have d0_3 := DT.tf (TF.ex e3) _ _ d0_2
    have d1_3 := DT.tf (TF.ex e3) _ _ d1_2
    have d2_3 := DT.tf (TF.ex e3) _ _ d2_2
    have d3_3 := DT.tf (TF.ex e3) _ _ d3_2
    have d4_3 := DT.tf (TF.ex e3) _ _ d4_2
    have d5_3 := DT.tf (TF.ex e3) _ _ d5_2
    have x3 := Ex.trans x2 e3
    refine q_asgL (xs := []) (el_lst ea_nil (by show 0 ≤ 100000; decide)) fun l H4 nl0 e4 h4 => ?_
    have d0_4 := DT.tf (TF.ex e4) _ _ d0_3
    have d1_4 := DT.tf (TF.ex e4) _ _ d1_3
    have d2_4 := DT.tf (TF.ex e4) _ _ d2_3
    have d3_4 := DT.tf (TF.ex e4) _ _ d3_3
    have d4_4 := DT.tf (TF.ex e4) _ _ d4_3
    have d5_4 := DT.tf (TF.ex e4) _ _ d5_3
    have d6_4 := DT.tf (TF.ex e4) _ _ d6_3
    have x4 := Ex.trans x3 e4
    have nl : H l = none := Ex.none x3 nl0
    have p4 : PairsAt H4 l [] := PairsAt.nil h4
    refine q_appP rfl p4 (evd_tup (evds_cons (evd_of ev_c dt_str) (evds_cons (evd_tup (evds_cons (evd_of ev_c dt_str) (evds_cons (evd_of (ev_var rfl) d3_4) (evds_cons (evd_of (ev_var rfl) d4_4) evds_nil))) (by show 3 ≤ 100000; decide)) (evds_cons (evd_of (ev_var rfl) d5_4) evds_nil))) (by show 3 ≤ 100000; decide)) (by decide) fun H5 t5 f5 p5 => ?_
    have d0_5 := DT.tf t5 _ _ d0_4
    have d1_5 := DT.tf t5 _ _ d1_4
    have d2_5 := DT.tf t5 _ _ d2_4
    have d3_5 := DT.tf t5 _ _ d3_4
    have d4_5 := DT.tf t5 _ _ d4_4
    have d5_5 := DT.tf t5 _ _ d5_4
    have d6_5 := DT.tf t5 _ _ d6_4
    have x5 := ex0_at x4 nl f5
    refine q_appP rfl p5 (evd_tup (evds_cons (evd_of ev_c dt_str) (evds_cons (evd_of (ev_var rfl) d3_5) (evds_cons (evd_tup (evds_cons (evd_of ev_c dt_str) (evds_cons (evd_of (ev_var rfl) d4_5) (evds_cons (evd_of (ev_var rfl) d5_5) evds_nil))) (by show 3 ≤ 100000; decide)) evds_nil))) (by show 3 ≤ 100000; decide)) (by decide) fun H6 t6 f6 p6 => ?_
    have d0_6 := DT.tf t6 _ _ d0_5
    have d1_6 := DT.tf t6 _ _ d1_5
    have d2_6 := DT.tf t6 _ _ d2_5
    have d3_6 := DT.tf t6 _ _ d3_5
    have d4_6 := DT.tf t6 _ _ d4_5
    have d5_6 := DT.tf t6 _ _ d5_5
    have d6_6 := DT.tf t6 _ _ d6_5
    have x6 := ex0_at x5 nl f6
    refine q_appP rfl p6 (evd_tup (evds_cons (evd_of ev_c dt_str) (evds_cons (evd_tup (evds_cons (evd_of ev_c dt_str) (evds_cons (evd_of (ev_var rfl) d3_6) (evds_cons (evd_of (ev_var rfl) d4_6) evds_nil))) (by show 3 ≤ 100000; decide)) (evds_cons (evd_of (ev_var rfl) d5_6) evds_nil))) (by show 3 ≤ 100000; decide)) (by decide) fun H7 t7 f7 p7 => ?_
    have d0_7 := DT.tf t7 _ _ d0_6
    have d1_7 := DT.tf t7 _ _ d1_6
    have d2_7 := DT.tf t7 _ _ d2_6
    have d3_7 := DT.tf t7 _ _ d3_6
    have d4_7 := DT.tf t7 _ _ d4_6
    have d5_7 := DT.tf t7 _ _ d5_6
    have d6_7 := DT.tf t7 _ _ d6_6
    have x7 := ex0_at x6 nl f7
    refine q_appP rfl p7 (evd_tup (evds_cons (evd_of ev_c dt_str) (evds_cons (evd_tup (evds_cons (evd_of ev_c dt_str) (evds_cons (evd_of (ev_var rfl) d3_7) (evds_cons (evd_of (ev_var rfl) d4_7) evds_nil))) (by show 3 ≤ 100000; decide)) (evds_cons (evd_of (ev_var rfl) d5_7) evds_nil))) (by show 3 ≤ 100000; decide)) (by decide) fun H8 t8 f8 p8 => ?_
    have d0_8 := DT.tf t8 _ _ d0_7
    have d1_8 := DT.tf t8 _ _ d1_7
    have d2_8 := DT.tf t8 _ _ d2_7
    have d3_8 := DT.tf t8 _ _ d3_7
    have d4_8 := DT.tf t8 _ _ d4_7
    have d5_8 := DT.tf t8 _ _ d5_7
    have d6_8 := DT.tf t8 _ _ d6_7
    have x8 := ex0_at x7 nl f8
    refine q_appP rfl p8 (evd_tup (evds_cons (evd_of ev_c dt_str) (evds_cons (evd_of (ev_var rfl) d3_8) (evds_cons (evd_tup (evds_cons (evd_of ev_c dt_str) (evds_cons (evd_of (ev_var rfl) d4_8) (evds_cons (evd_of (ev_var rfl) d5_8) evds_nil))) (by show 3 ≤ 100000; decide)) evds_nil))) (by show 3 ≤ 100000; decide)) (by decide) fun H9 t9 f9 p9 => ?_
    have d0_9 := DT.tf t9 _ _ d0_8
    have d1_9 := DT.tf t9 _ _ d1_8
    have d2_9 := DT.tf t9 _ _ d2_8
    have d3_9 := DT.tf t9 _ _ d3_8
    have d4_9 := DT.tf t9 _ _ d4_8
    have d5_9 := DT.tf t9 _ _ d5_8
    have d6_9 := DT.tf t9 _ _ d6_8
    have x9 := ex0_at x8 nl f9
    refine q_appP rfl p9 (evd_tup (evds_cons (evd_of ev_c dt_str) (evds_cons (evd_tup (evds_cons (evd_of ev_c dt_str) (evds_cons (evd_of (ev_var rfl) d3_9) evds_nil)) (by show 2 ≤ 100000; decide)) (evds_cons (evd_of (ev_var rfl) d4_9) evds_nil))) (by show 3 ≤ 100000; decide)) (by decide) fun H10 t10 f10 p10 => ?_
    have d0_10 := DT.tf t10 _ _ d0_9
    have d1_10 := DT.tf t10 _ _ d1_9
    have d2_10 := DT.tf t10 _ _ d2_9
    have d3_10 := DT.tf t10 _ _ d3_9
    have d4_10 := DT.tf t10 _ _ d4_9
    have d5_10 := DT.tf t10 _ _ d5_9
    have d6_10 := DT.tf t10 _ _ d6_9
    have x10 := ex0_at x9 nl f10
    refine q_appP rfl p10 (evd_tup (evds_cons (evd_of ev_c dt_str) (evds_cons (evd_tup (evds_cons (evd_of ev_c dt_str) (evds_cons (evd_of (ev_var rfl) d3_10) (evds_cons (evd_of (ev_var rfl) d4_10) evds_nil))) (by show 3 ≤ 100000; decide)) evds_nil)) (by show 2 ≤ 100000; decide)) (by decide) fun H11 t11 f11 p11 => ?_
    have d0_11 := DT.tf t11 _ _ d0_10
    have d1_11 := DT.tf t11 _ _ d1_10
    have d2_11 := DT.tf t11 _ _ d2_10
    have d3_11 := DT.tf t11 _ _ d3_10
    have d4_11 := DT.tf t11 _ _ d4_10
    have d5_11 := DT.tf t11 _ _ d5_10
    have d6_11 := DT.tf t11 _ _ d6_10
    have x11 := ex0_at x10 nl f11
    refine q_appP rfl p11 (evd_tup (evds_cons (evd_of ev_c dt_str) (evds_cons (evd_tup (evds_cons (evd_of ev_c dt_str) (evds_cons (evd_tup (evds_cons (evd_of ev_c dt_str) evds_nil) (by show 1 ≤ 100000; decide)) evds_nil)) (by show 2 ≤ 100000; decide)) evds_nil)) (by show 2 ≤ 100000; decide)) (by decide) fun H12 t12 f12 p12 => ?_
    have d0_12 := DT.tf t12 _ _ d0_11
    have d1_12 := DT.tf t12 _ _ d1_11
    have d2_12 := DT.tf t12 _ _ d2_11
    have d3_12 := DT.tf t12 _ _ d3_11
    have d4_12 := DT.tf t12 _ _ d4_11
    have d5_12 := DT.tf t12 _ _ d5_11
    have d6_12 := DT.tf t12 _ _ d6_11
    have x12 := ex0_at x11 nl f12
    refine q_appP rfl p12 (evd_of (ev_var rfl) d6_12) (by decide) fun H13 t13 f13 p13 => ?_
    have d0_13 := DT.tf t13 _ _ d0_12
    have d1_13 := DT.tf t13 _ _ d1_12
    have d2_13 := DT.tf t13 _ _ d2_12
    have d3_13 := DT.tf t13 _ _ d3_12
    have d4_13 := DT.tf t13 _ _ d4_12
    have d5_13 := DT.tf t13 _ _ d5_12
    have d6_13 := DT.tf t13 _ _ d6_12
    have x13 := ex0_at x12 nl f13
    refine q_appP rfl p13 (evd_of (ev_var rfl) d6_13) (by decide) fun H14 t14 f14 p14 => ?_
    have d0_14 := DT.tf t14 _ _ d0_13
    have d1_14 := DT.tf t14 _ _ d1_13
    have d2_14 := DT.tf t14 _ _ d2_13
    have d3_14 := DT.tf t14 _ _ d3_13
    have d4_14 := DT.tf t14 _ _ d4_13
    have d5_14 := DT.tf t14 _ _ d5_13
    have d6_14 := DT.tf t14 _ _ d6_13
    have x14 := ex0_at x13 nl f14
    refine q_appP rfl p14 (evd_of (ev_var rfl) d6_14) (by decide) fun H15 t15 f15 p15 => ?_
    have d0_15 := DT.tf t15 _ _ d0_14
    have d1_15 := DT.tf t15 _ _ d1_14
    have d2_15 := DT.tf t15 _ _ d2_14
    have d3_15 := DT.tf t15 _ _ d3_14
    have d4_15 := DT.tf t15 _ _ d4_14
    have d5_15 := DT.tf t15 _ _ d5_14
    have d6_15 := DT.tf t15 _ _ d6_14
    have x15 := ex0_at x14 nl f15
    refine q_appP rfl p15 (evd_of (ev_var rfl) d6_15) (by decide) fun H16 t16 f16 p16 => ?_
    have d0_16 := DT.tf t16 _ _ d0_15
    have d1_16 := DT.tf t16 _ _ d1_15
    have d2_16 := DT.tf t16 _ _ d2_15
    have d3_16 := DT.tf t16 _ _ d3_15
    have d4_16 := DT.tf t16 _ _ d4_15
    have d5_16 := DT.tf t16 _ _ d5_15
    have d6_16 := DT.tf t16 _ _ d6_15
    have x16 := ex0_at x15 nl f16
    refine q_appP rfl p16 (evd_tup (evds_cons (evd_of ev_c dt_str) (evds_cons (evd_of (ev_var rfl) d6_16) evds_nil)) (by show 2 ≤ 100000; decide)) (by decide) fun H17 t17 f17 p17 => ?_
    have d0_17 := DT.tf t17 _ _ d0_16
    have d1_17 := DT.tf t17 _ _ d1_16
    have d2_17 := DT.tf t17 _ _ d2_16
    have d3_17 := DT.tf t17 _ _ d3_16
    have d4_17 := DT.tf t17 _ _ d4_16
    have d5_17 := DT.tf t17 _ _ d5_16
    have d6_17 := DT.tf t17 _ _ d6_16
    have x17 := ex0_at x16 nl f17
    refine q_appP rfl p17 (evd_tup (evds_cons (evd_of ev_c dt_str) (evds_cons (evd_tup (evds_cons (evd_of ev_c dt_str) (evds_cons (evd_tup (evds_cons (evd_of ev_c dt_str) (evds_cons (evd_of (ev_var rfl) d0_17) (evds_cons (evd_of (ev_var rfl) d2_17) evds_nil))) (by show 3 ≤ 100000; decide)) (evds_cons (evd_of (ev_var rfl) d1_17) evds_nil))) (by show 3 ≤ 100000; decide)) (evds_cons (evd_of (ev_var rfl) d2_17) evds_nil))) (by show 3 ≤ 100000; decide)) (by decide) fun H18 t18 f18 p18 => ?_
    have d0_18 := DT.tf t18 _ _ d0_17
    have d1_18 := DT.tf t18 _ _ d1_17
    have d2_18 := DT.tf t18 _ _ d2_17
    have d3_18 := DT.tf t18 _ _ d3_17
    have d4_18 := DT.tf t18 _ _ d4_17
    have d5_18 := DT.tf t18 _ _ d5_17
    have d6_18 := DT.tf t18 _ _ d6_17
    have x18 := ex0_at x17 nl f18
    refine q_appP rfl p18 (evd_tup (evds_cons (evd_of ev_c dt_str) (evds_cons (evd_tup (evds_cons (evd_of ev_c dt_str) (evds_cons (evd_tup (evds_cons (evd_of ev_c dt_str) (evds_cons (evd_of (ev_var rfl) d0_18) (evds_cons (evd_of (ev_var rfl) d1_18) evds_nil))) (by show 3 ≤ 100000; decide)) (evds_cons (evd_of (ev_var rfl) d2_18) evds_nil))) (by show 3 ≤ 100000; decide)) (evds_cons (evd_tup (evds_cons (evd_of ev_c dt_str) (evds_cons (evd_of (ev_var rfl) d0_18) (evds_cons (evd_tup (evds_cons (evd_of ev_c dt_str) (evds_cons (evd_of (ev_var rfl) d1_18) (evds_cons (evd_of (ev_var rfl) d2_18) evds_nil))) (by show 3 ≤ 100000; decide)) evds_nil))) (by show 3 ≤ 100000; decide)) evds_nil))) (by show 3 ≤ 100000; decide)) (by decide) fun H19 t19 f19 p19 => ?_
    have d0_19 := DT.tf t19 _ _ d0_18
    have d1_19 := DT.tf t19 _ _ d1_18
    have d2_19 := DT.tf t19 _ _ d2_18
    have d3_19 := DT.tf t19 _ _ d3_18
    have d4_19 := DT.tf t19 _ _ d4_18
    have d5_19 := DT.tf t19 _ _ d5_18
    have d6_19 := DT.tf t19 _ _ d6_18
    have x19 := ex0_at x18 nl f19
    refine q_appP rfl p19 (evd_tup (evds_cons (evd_of ev_c dt_str) (evds_cons (evd_tup (evds_cons (evd_of ev_c dt_str) (evds_cons (evd_of (ev_var rfl) d6_19) (evds_cons (evd_of (ev_var rfl) d3_19) evds_nil))) (by show 3 ≤ 100000; decide)) (evds_cons (evd_tup (evds_cons (evd_of ev_c dt_str) evds_nil) (by show 1 ≤ 100000; decide)) evds_nil))) (by show 3 ≤ 100000; decide)) (by decide) fun H20 t20 f20 p20 => ?_
    have d0_20 := DT.tf t20 _ _ d0_19
    have d1_20 := DT.tf t20 _ _ d1_19
    have d2_20 := DT.tf t20 _ _ d2_19
    have d3_20 := DT.tf t20 _ _ d3_19
    have d4_20 := DT.tf t20 _ _ d4_19
    have d5_20 := DT.tf t20 _ _ d5_19
    have d6_20 := DT.tf t20 _ _ d6_19
    have x20 := ex0_at x19 nl f20
    refine q_appP rfl p20 (evd_tup (evds_cons (evd_of ev_c dt_str) (evds_cons (evd_tup (evds_cons (evd_of ev_c dt_str) (evds_cons (evd_of (ev_var rfl) d0_20) (evds_cons (evd_of (ev_var rfl) d2_20) evds_nil))) (by show 3 ≤ 100000; decide)) (evds_cons (evd_of (ev_var rfl) d1_20) evds_nil))) (by show 3 ≤ 100000; decide)) (by decide) fun H21 t21 f21 p21 => ?_
    have d0_21 := DT.tf t21 _ _ d0_20
    have d1_21 := DT.tf t21 _ _ d1_20
    have d2_21 := DT.tf t21 _ _ d2_20
    have d3_21 := DT.tf t21 _ _ d3_20
    have d4_21 := DT.tf t21 _ _ d4_20
    have d5_21 := DT.tf t21 _ _ d5_20
    have d6_21 := DT.tf t21 _ _ d6_20
    have x21 := ex0_at x20 nl f21
    refine q_appP rfl p21 (evd_tup (evds_cons (evd_of ev_c dt_str) (evds_cons (evd_tup (evds_cons (evd_of ev_c dt_str) (evds_cons (evd_of (ev_var rfl) d6_21) (evds_cons (evd_of (ev_var rfl) d4_21) evds_nil))) (by show 3 ≤ 100000; decide)) (evds_cons (evd_tup (evds_cons (evd_of ev_c dt_str) evds_nil) (by show 1 ≤ 100000; decide)) evds_nil))) (by show 3 ≤ 100000; decide)) (by decide) fun H22 t22 f22 p22 => ?_
    have d0_22 := DT.tf t22 _ _ d0_21
    have d1_22 := DT.tf t22 _ _ d1_21
    have d2_22 := DT.tf t22 _ _ d2_21
    have d3_22 := DT.tf t22 _ _ d3_21
    have d4_22 := DT.tf t22 _ _ d4_21
    have d5_22 := DT.tf t22 _ _ d5_21
    have d6_22 := DT.tf t22 _ _ d6_21
    have x22 := ex0_at x21 nl f22
    refine q_appP rfl p22 (evd_tup (evds_cons (evd_of ev_c dt_str) (evds_cons (evd_of (ev_var rfl) d6_22) (evds_cons (evd_tup (evds_cons (evd_of ev_c dt_str) (evds_cons (evd_of (ev_var rfl) d1_22) (evds_cons (evd_of (ev_var rfl) d2_22) evds_nil))) (by show 3 ≤ 100000; decide)) evds_nil))) (by show 3 ≤ 100000; decide)) (by decide) fun H23 t23 f23 p23 => ?_
    have d0_23 := DT.tf t23 _ _ d0_22
    have d1_23 := DT.tf t23 _ _ d1_22
    have d2_23 := DT.tf t23 _ _ d2_22
    have d3_23 := DT.tf t23 _ _ d3_22
    have d4_23 := DT.tf t23 _ _ d4_22
    have d5_23 := DT.tf t23 _ _ d5_22
    have d6_23 := DT.tf t23 _ _ d6_22
    have x23 := ex0_at x22 nl f23
    refine q_appP rfl p23 (evd_tup (evds_cons (evd_of ev_c dt_str) (evds_cons (evd_tup (evds_cons (evd_of ev_c dt_str) (evds_cons (evd_of (ev_var rfl) d2_23) (evds_cons (evd_of (ev_var rfl) d2_23) evds_nil))) (by show 3 ≤ 100000; decide)) (evds_cons (evd_tup (evds_cons (evd_of ev_c dt_str) (evds_cons (evd_of (ev_var rfl) d2_23) (evds_cons (evd_of (ev_var rfl) d0_23) evds_nil))) (by show 3 ≤ 100000; decide)) evds_nil))) (by show 3 ≤ 100000; decide)) (by decide) fun H24 t24 f24 p24 => ?_
    have d0_24 := DT.tf t24 _ _ d0_23
    have d1_24 := DT.tf t24 _ _ d1_23
    have d2_24 := DT.tf t24 _ _ d2_23
    have d3_24 := DT.tf t24 _ _ d3_23
    have d4_24 := DT.tf t24 _ _ d4_23
    have d5_24 := DT.tf t24 _ _ d5_23
    have d6_24 := DT.tf t24 _ _ d6_23
    have x24 := ex0_at x23 nl f24
    refine q_appP rfl p24 (evd_tup (evds_cons (evd_of ev_c dt_str) (evds_cons (evd_of (ev_var rfl) d6_24) evds_nil)) (by show 2 ≤ 100000; decide)) (by decide) fun H25 t25 f25 p25 => ?_
    have d0_25 := DT.tf t25 _ _ d0_24
    have d1_25 := DT.tf t25 _ _ d1_24
    have d2_25 := DT.tf t25 _ _ d2_24
    have d3_25 := DT.tf t25 _ _ d3_24
    have d4_25 := DT.tf t25 _ _ d4_24
    have d5_25 := DT.tf t25 _ _ d5_24
    have d6_25 := DT.tf t25 _ _ d6_24
    have x25 := ex0_at x24 nl f25
    refine q_appP rfl p25 (evd_tup (evds_cons (evd_of ev_c dt_str) (evds_cons (evd_of (ev_var rfl) d3_25) (evds_cons (evd_of (ev_var rfl) d6_25) evds_nil))) (by show 3 ≤ 100000; decide)) (by decide) fun H26 t26 f26 p26 => ?_
    have d0_26 := DT.tf t26 _ _ d0_25
    have d1_26 := DT.tf t26 _ _ d1_25
    have d2_26 := DT.tf t26 _ _ d2_25
    have d3_26 := DT.tf t26 _ _ d3_25
    have d4_26 := DT.tf t26 _ _ d4_25
    have d5_26 := DT.tf t26 _ _ d5_25
    have d6_26 := DT.tf t26 _ _ d6_25
    have x26 := ex0_at x25 nl f26
    exact s_ret (v := .ref l) (D := { nx := _, rt := Q }) (ev_var rfl) fun H9 e9 => q l H9 nl (Ex.trans x26 e9) (p26.ex e9)
theorem scBad : FnScope ["_law_some"] [] (defScope lBad) := ⟨rfl, rfl, rfl, by decide +kernel, rfl, by decide +kernel, by decide +kernel⟩
theorem okscBad {f : Addr} {fd : FuncData} (F : Fun K "_law_bad" "_law_bad" lBad f fd) : FnOk P w K mg base CX0 1 f fd [] (spPairs BAD) := by
  refine F.ok scBad (fun vs H Q E h => ?_) (fun cdv A outer s0 H vs Q E hr h => ?_)
  · obtain ⟨rfl, _⟩ := h
    rfl
  · obtain ⟨rfl, q⟩ := h
    refine ⟨_, (pss_cons (ps_set (i := 0) scBad.nd rfl (.inl rfl) (pe_lst pa_nil))
      (pss_cons (ps_expr (pe_bm PySem.F.plainAttrs_list PySem.F.slot_list_append PySem.F.type_list_append mt_append (pv 0) (pa_cons (pe_lst (pa_cons pe_str (pa_cons pe_int pa_nil))) pa_nil)))
      (pss_cons (ps_expr (pe_bm PySem.F.plainAttrs_list PySem.F.slot_list_append PySem.F.type_list_append mt_append (pv 0) (pa_cons (pe_lst (pa_cons pe_str (pa_cons pe_int pa_nil))) pa_nil)))
      (pss_cons (ps_expr (pe_bm PySem.F.plainAttrs_list PySem.F.slot_list_append PySem.F.type_list_append mt_append (pv 0) (pa_cons (pe_lst (pa_cons pe_str (pa_cons pe_int pa_nil))) pa_nil)))
      (pss_cons (ps_expr (pe_bm PySem.F.plainAttrs_list PySem.F.slot_list_append PySem.F.type_list_append mt_append (pv 0) (pa_cons (pe_lst (pa_cons pe_str (pa_cons pe_int pa_nil))) pa_nil)))
      (pss_cons (ps_expr (pe_bm PySem.F.plainAttrs_list PySem.F.slot_list_append PySem.F.type_list_append mt_append (pv 0) (pa_cons (pe_lst (pa_cons pe_str (pa_cons pe_int pa_nil))) pa_nil)))
      (pss_cons (ps_expr (pe_bm PySem.F.plainAttrs_list PySem.F.slot_list_append PySem.F.type_list_append mt_append (pv 0) (pa_cons (pe_lst (pa_cons pe_str (pa_cons pe_int pa_nil))) pa_nil)))
      (pss_cons (ps_expr (pe_bm PySem.F.plainAttrs_list PySem.F.slot_list_append PySem.F.type_list_append mt_append (pv 0) (pa_cons (pe_lst (pa_cons pe_str (pa_cons pe_int pa_nil))) pa_nil)))
      (pss_cons (ps_expr (pe_bm PySem.F.plainAttrs_list PySem.F.slot_list_append PySem.F.type_list_append mt_append (pv 0) (pa_cons (pe_lst (pa_cons pe_str (pa_cons pe_int pa_nil))) pa_nil)))
      (pss_cons (ps_expr (pe_bm PySem.F.plainAttrs_list PySem.F.slot_list_append PySem.F.type_list_append mt_append (pv 0) (pa_cons (pe_lst (pa_cons pe_str (pa_cons pe_int pa_nil))) pa_nil)))
      (pss_cons (ps_expr (pe_bm PySem.F.plainAttrs_list PySem.F.slot_list_append PySem.F.type_list_append mt_append (pv 0) (pa_cons (pe_lst (pa_cons pe_str (pa_cons pe_int pa_nil))) pa_nil)))
      (pss_cons (ps_expr (pe_bm PySem.F.plainAttrs_list PySem.F.slot_list_append PySem.F.type_list_append mt_append (pv 0) (pa_cons (pe_lst (pa_cons pe_str (pa_cons pe_int pa_nil))) pa_nil)))
      (pss_cons (ps_expr (pe_bm PySem.F.plainAttrs_list PySem.F.slot_list_append PySem.F.type_list_append mt_append (pv 0) (pa_cons (pe_lst (pa_cons pe_str (pa_cons pe_int pa_nil))) pa_nil)))
      (pss_cons (ps_expr (pe_bm PySem.F.plainAttrs_list PySem.F.slot_list_append PySem.F.type_list_append mt_append (pv 0) (pa_cons (pe_lst (pa_cons pe_str (pa_cons pe_int pa_nil))) pa_nil)))
      (pss_cons (ps_expr (pe_bm PySem.F.plainAttrs_list PySem.F.slot_list_append PySem.F.type_list_append mt_append (pv 0) (pa_cons (pe_lst (pa_cons pe_str (pa_cons pe_int pa_nil))) pa_nil)))
      (pss_cons (ps_expr (pe_bm PySem.F.plainAttrs_list PySem.F.slot_list_append PySem.F.type_list_append mt_append (pv 0) (pa_cons (pe_lst (pa_cons pe_str (pa_cons pe_int pa_nil))) pa_nil)))
      (pss_cons (ps_expr (pe_bm PySem.F.plainAttrs_list PySem.F.slot_list_append PySem.F.type_list_append mt_append (pv 0) (pa_cons (pe_lst (pa_cons pe_str (pa_cons pe_int pa_nil))) pa_nil)))
      (pss_cons (ps_expr (pe_bm PySem.F.plainAttrs_list PySem.F.slot_list_append PySem.F.type_list_append mt_append (pv 0) (pa_cons (pe_lst (pa_cons pe_str (pa_cons pe_int pa_nil))) pa_nil)))
      (pss_cons (ps_expr (pe_bm PySem.F.plainAttrs_list PySem.F.slot_list_append PySem.F.type_list_append mt_append (pv 0) (pa_cons (pe_lst (pa_cons pe_str (pa_cons pe_int pa_nil))) pa_nil)))
      (pss_cons (ps_expr (pe_bm PySem.F.plainAttrs_list PySem.F.slot_list_append PySem.F.type_list_append mt_append (pv 0) (pa_cons (pe_lst (pa_cons pe_str (pa_cons pe_int pa_nil))) pa_nil)))
      (pss_cons (ps_expr (pe_bm PySem.F.plainAttrs_list PySem.F.slot_list_append PySem.F.type_list_append mt_append (pv 0) (pa_cons (pe_lst (pa_cons pe_str (pa_cons pe_int pa_nil))) pa_nil)))
      (pss_cons (ps_expr (pe_bm PySem.F.plainAttrs_list PySem.F.slot_list_append PySem.F.type_list_append mt_append (pv 0) (pa_cons (pe_lst (pa_cons pe_str (pa_cons pe_int pa_nil))) pa_nil)))
      (pss_cons (ps_expr (pe_bm PySem.F.plainAttrs_list PySem.F.slot_list_append PySem.F.type_list_append mt_append (pv 0) (pa_cons (pe_lst (pa_cons pe_str (pa_cons pe_int pa_nil))) pa_nil)))
      (pss_cons (ps_expr (pe_bm PySem.F.plainAttrs_list PySem.F.slot_list_append PySem.F.type_list_append mt_append (pv 0) (pa_cons (pe_lst (pa_cons pe_str (pa_cons pe_int pa_nil))) pa_nil)))
      (pss_one (ps_ret (pv 0))))))))))))))))))))))))))), ?_⟩
    refine q_asgL (xs := []) (el_lst ea_nil (by show 0 ≤ 100000; decide)) fun l H1 nl0 e1 h1 => ?_
    have x1 := e1
    have nl : H l = none := nl0
    have p1 : PairsAt H1 l [] := PairsAt.nil h1
    refine q_appP rfl p1 (evd_of ev_c dt_int) (by decide) fun H2 t2 f2 p2 => ?_
    have x2 := ex0_at x1 nl f2
    refine q_appP rfl p2 (evd_of ev_c dt_int) (by decide) fun H3 t3 f3 p3 => ?_
    have x3 := ex0_at x2 nl f3
    refine q_appP rfl p3 (evd_of ev_c dt_int) (by decide) fun H4 t4 f4 p4 => ?_
    have x4 := ex0_at x3 nl f4
    refine q_appP rfl p4 (evd_of ev_c dt_int) (by decide) fun H5 t5 f5 p5 => ?_
    have x5 := ex0_at x4 nl f5
    refine q_appP rfl p5 (evd_of ev_c dt_int) (by decide) fun H6 t6 f6 p6 => ?_
    have x6 := ex0_at x5 nl f6
    refine q_appP rfl p6 (evd_of ev_c dt_int) (by decide) fun H7 t7 f7 p7 => ?_
    have x7 := ex0_at x6 nl f7
    refine q_appP rfl p7 (evd_of ev_c dt_int) (by decide) fun H8 t8 f8 p8 => ?_
    have x8 := ex0_at x7 nl f8
    refine q_appP rfl p8 (evd_of ev_c dt_int) (by decide) fun H9 t9 f9 p9 => ?_
    have x9 := ex0_at x8 nl f9
    refine q_appP rfl p9 (evd_of ev_c dt_int) (by decide) fun H10 t10 f10 p10 => ?_
    have x10 := ex0_at x9 nl f10
    refine q_appP rfl p10 (evd_of ev_c dt_int) (by decide) fun H11 t11 f11 p11 => ?_
    have x11 := ex0_at x10 nl f11
    refine q_appP rfl p11 (evd_of ev_c dt_int) (by decide) fun H12 t12 f12 p12 => ?_
    have x12 := ex0_at x11 nl f12
    refine q_appP rfl p12 (evd_of ev_c dt_int) (by decide) fun H13 t13 f13 p13 => ?_
    have x13 := ex0_at x12 nl f13
    refine q_appP rfl p13 (evd_of ev_c dt_int) (by decide) fun H14 t14 f14 p14 => ?_
    have x14 := ex0_at x13 nl f14
    refine q_appP rfl p14 (evd_of ev_c dt_int) (by decide) fun H15 t15 f15 p15 => ?_
    have x15 := ex0_at x14 nl f15
    refine q_appP rfl p15 (evd_of ev_c dt_int) (by decide) fun H16 t16 f16 p16 => ?_
    have x16 := ex0_at x15 nl f16
    refine q_appP rfl p16 (evd_of ev_c dt_int) (by decide) fun H17 t17 f17 p17 => ?_
    have x17 := ex0_at x16 nl f17
    refine q_appP rfl p17 (evd_of ev_c dt_int) (by decide) fun H18 t18 f18 p18 => ?_
    have x18 := ex0_at x17 nl f18
    refine q_appP rfl p18 (evd_of ev_c dt_int) (by decide) fun H19 t19 f19 p19 => ?_
    have x19 := ex0_at x18 nl f19
    refine q_appP rfl p19 (evd_of ev_c dt_int) (by decide) fun H20 t20 f20 p20 => ?_
    have x20 := ex0_at x19 nl f20
    refine q_appP rfl p20 (evd_of ev_c dt_int) (by decide) fun H21 t21 f21 p21 => ?_
    have x21 := ex0_at x20 nl f21
    refine q_appP rfl p21 (evd_of ev_c dt_int) (by decide) fun H22 t22 f22 p22 => ?_
    have x22 := ex0_at x21 nl f22
    refine q_appP rfl p22 (evd_of ev_c dt_int) (by decide) fun H23 t23 f23 p23 => ?_
    have x23 := ex0_at x22 nl f23
    refine q_appP rfl p23 (evd_of ev_c dt_int) (by decide) fun H24 t24 f24 p24 => ?_
    have x24 := ex0_at x23 nl f24
    exact s_ret (v := .ref l) (D := { nx := _, rt := Q }) (ev_var rfl) fun H9 e9 => q l H9 nl (Ex.trans x24 e9) (p24.ex e9)
end
end Prs
set_option Elab.async false
set_option linter.all false
set_option maxRecDepth 100000
set_option maxHeartbeats 4000000
namespace Prs
open PySem PySem.Spec PyProof.Rows L2 Evl
def MORE : Str := " do say hi n - ( 1 - k )"
def DEEDS : PyData := .tuple [.tuple [.str "say", .str "hi", .tuple [.str "less", .tuple [.str "fact", .str "n"], .tuple [.str "less", .tuple [.str "num", .int 1], .tuple [.str "fact", .str "k"]]]]]
def whenD : PyData := .tuple [.str "on", .str "tap"]
def moreS (m : Bool) : Str := if m then MORE else ""
def deedsD (m : Bool) : PyData := if m then DEEDS else .tuple []
def fits0 (x : ResT PyData) (due : PyData) (m : Bool) : Bool := match x with
  | some (.inr (.tuple [_, _, .tuple [_, _, _, _, _, .tuple (.tuple [w, g, ds, gs] :: _)]])) =>
    PyData.eqv (.tuple [w, g]) (.tuple [whenD, due]) && (PyData.eqv gs (.tuple []) && (PyData.eqv ds (deedsD m) && (SeqAt.shaped (.tuple [w, g]) && (SeqAt.shaped (.tuple [whenD, due]) && (SeqAt.shaped gs && SeqAt.shaped ds)))))
  | _ => false
def goodOne (pr : Str × PyData) (m : Bool) : Bool := fits0 (readM 12 12 (rowsOf (pr.1 ++ moreS m))) pr.2 m && decide (pr.1.length ≤ 100)
def badOne (pr : Str × PyData) : Bool := match readM 12 12 (rowsOf pr.1), pr.2 with
  | some (.inl (r, c)), .int k => decide (r = 3) && (decide ((c : Int) = k + 15) && decide (pr.1.length ≤ 100))
  | _, _ => false
/-! each row by itself: all at once the kernel does not come to an end -/
theorem all_ones {α : Type} {f : α → Bool} {l : List α} {n : Nat} (hn : l.length = n) (h : ∀ k, k < n → ((l.drop k).take 1).all f = true) : l.all f = true := List.all_eq_true.mpr fun x hx => by
  obtain ⟨k, hk, rfl⟩ := List.mem_iff_getElem.mp hx
  refine List.all_eq_true.mp (h k (by omega)) _ ?_
  rw [List.drop_eq_getElem_cons hk]
  exact List.mem_cons_self
theorem good0 : ((GOOD.drop 0).take 1).all (fun pr => goodOne pr true && goodOne pr false) = true := by decide +kernel
theorem good1 : ((GOOD.drop 1).take 1).all (fun pr => goodOne pr true && goodOne pr false) = true := by decide +kernel
theorem good2 : ((GOOD.drop 2).take 1).all (fun pr => goodOne pr true && goodOne pr false) = true := by decide +kernel
theorem good3 : ((GOOD.drop 3).take 1).all (fun pr => goodOne pr true && goodOne pr false) = true := by decide +kernel
theorem good4 : ((GOOD.drop 4).take 1).all (fun pr => goodOne pr true && goodOne pr false) = true := by decide +kernel
theorem good5 : ((GOOD.drop 5).take 1).all (fun pr => goodOne pr true && goodOne pr false) = true := by decide +kernel
theorem good6 : ((GOOD.drop 6).take 1).all (fun pr => goodOne pr true && goodOne pr false) = true := by decide +kernel
theorem good7 : ((GOOD.drop 7).take 1).all (fun pr => goodOne pr true && goodOne pr false) = true := by decide +kernel
theorem good8 : ((GOOD.drop 8).take 1).all (fun pr => goodOne pr true && goodOne pr false) = true := by decide +kernel
theorem good9 : ((GOOD.drop 9).take 1).all (fun pr => goodOne pr true && goodOne pr false) = true := by decide +kernel
theorem good10 : ((GOOD.drop 10).take 1).all (fun pr => goodOne pr true && goodOne pr false) = true := by decide +kernel
theorem good11 : ((GOOD.drop 11).take 1).all (fun pr => goodOne pr true && goodOne pr false) = true := by decide +kernel
theorem good12 : ((GOOD.drop 12).take 1).all (fun pr => goodOne pr true && goodOne pr false) = true := by decide +kernel
theorem good13 : ((GOOD.drop 13).take 1).all (fun pr => goodOne pr true && goodOne pr false) = true := by decide +kernel
theorem good14 : ((GOOD.drop 14).take 1).all (fun pr => goodOne pr true && goodOne pr false) = true := by decide +kernel
theorem good15 : ((GOOD.drop 15).take 1).all (fun pr => goodOne pr true && goodOne pr false) = true := by decide +kernel
theorem good16 : ((GOOD.drop 16).take 1).all (fun pr => goodOne pr true && goodOne pr false) = true := by decide +kernel
theorem good17 : ((GOOD.drop 17).take 1).all (fun pr => goodOne pr true && goodOne pr false) = true := by decide +kernel
theorem good18 : ((GOOD.drop 18).take 1).all (fun pr => goodOne pr true && goodOne pr false) = true := by decide +kernel
theorem good19 : ((GOOD.drop 19).take 1).all (fun pr => goodOne pr true && goodOne pr false) = true := by decide +kernel
theorem good20 : ((GOOD.drop 20).take 1).all (fun pr => goodOne pr true && goodOne pr false) = true := by decide +kernel
theorem good21 : ((GOOD.drop 21).take 1).all (fun pr => goodOne pr true && goodOne pr false) = true := by decide +kernel
theorem bad0 : ((BAD.drop 0).take 1).all badOne = true := by decide +kernel
theorem bad1 : ((BAD.drop 1).take 1).all badOne = true := by decide +kernel
theorem bad2 : ((BAD.drop 2).take 1).all badOne = true := by decide +kernel
theorem bad3 : ((BAD.drop 3).take 1).all badOne = true := by decide +kernel
theorem bad4 : ((BAD.drop 4).take 1).all badOne = true := by decide +kernel
theorem bad5 : ((BAD.drop 5).take 1).all badOne = true := by decide +kernel
theorem bad6 : ((BAD.drop 6).take 1).all badOne = true := by decide +kernel
theorem bad7 : ((BAD.drop 7).take 1).all badOne = true := by decide +kernel
theorem bad8 : ((BAD.drop 8).take 1).all badOne = true := by decide +kernel
theorem bad9 : ((BAD.drop 9).take 1).all badOne = true := by decide +kernel
theorem bad10 : ((BAD.drop 10).take 1).all badOne = true := by decide +kernel
theorem bad11 : ((BAD.drop 11).take 1).all badOne = true := by decide +kernel
theorem bad12 : ((BAD.drop 12).take 1).all badOne = true := by decide +kernel
theorem bad13 : ((BAD.drop 13).take 1).all badOne = true := by decide +kernel
theorem bad14 : ((BAD.drop 14).take 1).all badOne = true := by decide +kernel
theorem bad15 : ((BAD.drop 15).take 1).all badOne = true := by decide +kernel
theorem bad16 : ((BAD.drop 16).take 1).all badOne = true := by decide +kernel
theorem bad17 : ((BAD.drop 17).take 1).all badOne = true := by decide +kernel
theorem bad18 : ((BAD.drop 18).take 1).all badOne = true := by decide +kernel
theorem bad19 : ((BAD.drop 19).take 1).all badOne = true := by decide +kernel
theorem bad20 : ((BAD.drop 20).take 1).all badOne = true := by decide +kernel
theorem bad21 : ((BAD.drop 21).take 1).all badOne = true := by decide +kernel
theorem bad22 : ((BAD.drop 22).take 1).all badOne = true := by decide +kernel
theorem good_all : (GOOD.all fun pr => goodOne pr true && goodOne pr false) = true := all_ones (n := 22) (by decide +kernel) fun k hk => match k, hk with
  | 0, _ => good0
  | 1, _ => good1
  | 2, _ => good2
  | 3, _ => good3
  | 4, _ => good4
  | 5, _ => good5
  | 6, _ => good6
  | 7, _ => good7
  | 8, _ => good8
  | 9, _ => good9
  | 10, _ => good10
  | 11, _ => good11
  | 12, _ => good12
  | 13, _ => good13
  | 14, _ => good14
  | 15, _ => good15
  | 16, _ => good16
  | 17, _ => good17
  | 18, _ => good18
  | 19, _ => good19
  | 20, _ => good20
  | 21, _ => good21
  | k + 22, h => absurd h (by omega)
theorem bad_all : (BAD.all badOne) = true := all_ones (n := 23) (by decide +kernel) fun k hk => match k, hk with
  | 0, _ => bad0
  | 1, _ => bad1
  | 2, _ => bad2
  | 3, _ => bad3
  | 4, _ => bad4
  | 5, _ => bad5
  | 6, _ => bad6
  | 7, _ => bad7
  | 8, _ => bad8
  | 9, _ => bad9
  | 10, _ => bad10
  | 11, _ => bad11
  | 12, _ => bad12
  | 13, _ => bad13
  | 14, _ => bad14
  | 15, _ => bad15
  | 16, _ => bad16
  | 17, _ => bad17
  | 18, _ => bad18
  | 19, _ => bad19
  | 20, _ => bad20
  | 21, _ => bad21
  | 22, _ => bad22
  | k + 23, h => absurd h (by omega)
theorem good_len : GOOD.length = 22 := by decide +kernel
theorem bad_len : BAD.length = 23 := by decide +kernel
end Prs
set_option Elab.async false
set_option linter.all false
set_option maxRecDepth 100000
set_option maxHeartbeats 4000000
namespace Prs
open PySem PySem.Spec PyProof.Rows L2 Evl
theorem fits0_of {x : ResT PyData} {due : PyData} {m : Bool} (h : fits0 x due m = true) : ∃ x0 x1 a b c d e w g ds gs r, x = some (.inr (.tuple [x0, x1, .tuple [a, b, c, d, e, .tuple (.tuple [w, g, ds, gs] :: r)]])) ∧
    PyData.eqv (.tuple [w, g]) (.tuple [whenD, due]) = true ∧ PyData.eqv gs (.tuple []) = true ∧ PyData.eqv ds (deedsD m) = true ∧ SeqAt.shaped (.tuple [w, g]) = true ∧ SeqAt.shaped (.tuple [whenD, due]) = true ∧ SeqAt.shaped gs = true ∧ SeqAt.shaped ds = true := by
  unfold fits0 at h
  split at h
  · simp only [Bool.and_eq_true] at h
    exact ⟨_, _, _, _, _, _, _, _, _, _, _, _, rfl, h.1, h.2.1, h.2.2.1, h.2.2.2.1, h.2.2.2.2.1, h.2.2.2.2.2.1, h.2.2.2.2.2.2⟩
  · cases h
theorem good_at {pr : Str × PyData} (h : pr ∈ GOOD) (m : Bool) : fits0 (readM 12 12 (rowsOf (pr.1 ++ moreS m))) pr.2 m = true ∧ pr.1.length ≤ 100 := by
  have z := List.all_eq_true.mp good_all pr h
  rw [Bool.and_eq_true] at z
  have : goodOne pr m = true := match m with
    | true => z.1
    | false => z.2
  unfold goodOne at this
  rw [Bool.and_eq_true] at this
  exact ⟨this.1, of_decide_eq_true this.2⟩
theorem bad_at {pr : Str × PyData} (h : pr ∈ BAD) : ∃ c k, readM 12 12 (rowsOf pr.1) = some (.inl (3, c)) ∧ pr.2 = .int k ∧ (c : Int) = k + 15 ∧ pr.1.length ≤ 100 := by
  have z := List.all_eq_true.mp bad_all pr h
  unfold badOne at z
  split at z
  · rename_i r c k h1 h2
    simp only [Bool.and_eq_true, decide_eq_true_eq] at z
    obtain ⟨rfl, z2, z3⟩ := z
    exact ⟨c, k, h1, h2, z2, z3⟩
  · cases z
mutual
theorem dp_of {K : PySem.W.Frag} {H : Hp} : ∀ (d : PyData) (v : V), DT H d v → Dp K H v d
  | .int i, v, h => by unfold DT at h; subst h; exact .int i
  | .str i, v, h => by unfold DT at h; subst h; exact .str i
  | .none, v, h => by unfold DT at h; subst h; exact .non
  | .bool b, v, h => by unfold DT at h; subst h; exact .bl b
  | .tuple ds, v, h => by
    unfold DT at h
    obtain ⟨a, vs, rfl, h2, h3⟩ := h
    exact .tup (st_of h2) (dps_of ds vs h3)
  | .list ds, v, h => by unfold DT at h; exact h.elim
theorem dps_of {K : PySem.W.Frag} {H : Hp} : ∀ (ds : List PyData) (vs : List V), DTs H ds vs → DpAll K H vs ds
  | [], vs, h => by unfold DTs at h; subst h; exact .nil
  | d :: ds, vs, h => by
    unfold DTs at h
    obtain ⟨v, r, rfl, h1, h2⟩ := h
    exact .cons (dp_of d v h1) (dps_of ds r h2)
end
theorem takesN {X : Cx} : L2.Takes X (fun _ _ _ _ => False) := fun _ _ x => by
  obtain ⟨_, _, _, _, _, _, _, _, _, _, _, _, _, _, _, _, z⟩ := x
  exact z.elim
end Prs
namespace L2
open PySem PySem.Spec PyProof.Rows
/-- f of the exception that a suite holds (at a; its class cls, its dict d) -/
def tXBy (C : Addr) (a : Addr) (cls : Value) (d : Option Addr) (f : Str) (te : TE) : TE := fun σ H Q => te σ H fun x H1 => x = .ref a ∧ cls = .ref C ∧ ∃ (dd : Addr) (fs : List (Str × V)) (v : V), d = some dd ∧ H1 dd = some (.xd fs) ∧ fs.lookup f = some v ∧ Q v H1
theorem pe_xby {X : Cx} {C : Addr} {f : Str} {a : Addr} {oe : Obj} {cls : Value} {d : Option Addr} {pn : List (Addr × Obj)} {e : Expr} {te : TE} {pos : Pos} (T : XAt X.K C f) (hz : Zc cls d oe) (hf : ∃ vs, oe.data = .fields vs) (he : PE (X.suite a ((a, oe) :: pn)) e te)
    (hb : attributeBase e f X.env (eval e X.env) = eval e X.env := by rfl) : PE (X.suite a ((a, oe) :: pn)) (.Attribute e f pos) (tXBy C a cls d f te) := by
  refine ⟨fun pins s σ H Q I h => ?_⟩
  refine attr_of hb (thn (he.run pins s σ H _ I h) fun u s1 hh => ?_)
  obtain ⟨x, H1, I1, rx, ex, ec, dd, fs, v, ed, ea, l, q⟩ := hh
  subst ex
  obtain rfl : u = Value.ref a := rx
  subst ec
  subst ed
  obtain ⟨ha, _⟩ := I1.pin (a, oe) (List.mem_append_left _ List.mem_cons_self)
  obtain ⟨vs, hd⟩ := hf
  have hx : ObjOk X.prog X.w H1 s1.heap dd (.xd fs) := I1.hok dd _ ea
  obtain ⟨mA, hns, hr⟩ := hx
  obtain ⟨od, ho, hl⟩ := lookIn_ns hns
  obtain ⟨u, hu, ru⟩ := RelO.some_of (v := v) (o := mA f) (by rw [← l]; exact hr f)
  have J : PySem.W.InstAt s1.heap a oe C (some od) := ⟨ha, hz.1, by unfold PySem.W.notCls; rw [hd] <;> rfl, by rw [hz.2]; exact ho⟩
  exact HandSPX.exc_get I1.kIn J T.ga T.gg T.exC (PySem.W.findObj_own T.hdC T.noN rfl (by rw [hl, hu])) (handed_of ru) ⟨v, H1, I1.tok _, ru, q⟩
end L2
set_option Elab.async false
set_option linter.all false
set_option maxRecDepth 100000
set_option maxHeartbeats 4000000
namespace Prs
open PySem PySem.Spec PyProof.Rows L2 Evl
abbrev lLaw : Stmt := top 67
abbrev NL : List Str := ["_law_script", "_law_k", "_law_purse_here", "_law_turn", "_law_line", "_law_due", "_law_more", "_law_move", "_law_deeds", "_law_column", "_law_spot", "caught"]
theorem scLaw : FnScope NL ["_law_script"] (defScope lLaw) := ⟨rfl, rfl, rfl, by decide +kernel, rfl, by decide +kernel, by decide +kernel⟩
theorem boot_min : bootBuiltins "min" = some (.builtin "min") := by decide +kernel
theorem fr_l {K : PySem.W.Frag} {p a : Addr} {H H' : Hp} {xs : List V} (hS : SqL K H a xs) (np : H p = none) (f : Fr p H H') : SqL K H' a xs := ex_l (fun b o h => f b o (ne_of_none h np) h) hS
theorem paired_get {α β : Type} {R : α → β → Prop} : ∀ {xs : List α} {ys : List β} (_ : Paired R xs ys) {i : Nat} {x : α}, xs[i]? = some x → ∃ y, y ∈ ys ∧ R x y
  | _, _, .nil, i, x, h => by simp at h
  | _, _, .cons (a := a) (b := b) hr t, i, x, h => by
    cases i with
    | zero =>
      simp only [List.getElem?_cons_zero, Option.some.injEq] at h
      subst h
      exact ⟨b, List.mem_cons_self, hr⟩
    | succ n =>
      rw [List.getElem?_cons_succ] at h
      obtain ⟨y, hm, hy⟩ := paired_get t h
      exact ⟨y, List.mem_cons_of_mem _ hm, hy⟩
theorem dt_inv {H : Hp} {ds : List PyData} {v : V} (h : DT H (.tuple ds) v) : ∃ a vs, v = .ref a ∧ H a = some (.tup vs) ∧ DTs H ds vs := by unfold DT at h; exact h
theorem dts_inv {H : Hp} {d : PyData} {ds : List PyData} {vs : List V} (h : DTs H (d :: ds) vs) : ∃ v r, vs = v :: r ∧ DT H d v ∧ DTs H ds r := by unfold DTs at h; exact h
theorem dts_end {H : Hp} {vs : List V} (h : DTs H [] vs) : vs = [] := by unfold DTs at h; exact h
theorem dts_get {H : Hp} : ∀ {ds : List PyData} {vs : List V} {i : Nat} {d : PyData}, DTs H ds vs → ds[i]? = some d → ∃ v, vs[i]? = some v ∧ DT H d v
  | [], _, i, d, _, h => by simp at h
  | x :: ds, vs, i, d, hs, h => by
    obtain ⟨v, r, rfl, h1, h2⟩ := dts_inv hs
    cases i with
    | zero =>
      simp only [List.getElem?_cons_zero, Option.some.injEq] at h
      subst h
      exact ⟨v, rfl, h1⟩
    | succ n =>
      rw [List.getElem?_cons_succ] at h ⊢
      exact dts_get h2 h
theorem tf_fr {p : Addr} {xs : List V} {H H' : Hp} (hp : H p = some (.lst xs)) (f : Fr p H H') : TF H H' := fun b zs h => f b _ (fun z => by
  subst z
  rw [hp] at h
  exact absurd (Option.some.inj h) (fun q => nomatch q)) h
section
variable {K : PySem.W.Frag} {σ : L2.St} {H : Hp} {ta tb te : TE}
theorem ed_ix {ds : List PyData} {i : Nat} {d : PyData} (h : EvD te σ H (.tuple ds)) (hi : ds[i]? = some d) : EvD (tOp (rIxT K) te (tC (.int (i : Nat)))) σ H d := fun H1 e Q q => h H1 e _ fun v H2 e2 hv => by
  obtain ⟨a, vs, rfl, h1, h2⟩ := dt_inv hv
  obtain ⟨x, hx, dx⟩ := dts_get h2 hi
  exact ⟨a, vs, i, x, rfl, rfl, st_of h1, atI_nat hx, q x H2 e2 dx⟩
theorem ed_sl2 {w g ds gs : PyData} (h : EvD te σ H (.tuple [w, g, ds, gs])) : EvD (tSl (rSlT K) te tNoPart (tPart (tC (.int 2)))) σ H (.tuple [w, g]) := fun H1 e Q q => h H1 e _ fun v H2 e2 hv => by
  obtain ⟨a, vs, rfl, h1, h2⟩ := dt_inv hv
  obtain ⟨v1, r, rfl, d1, h2⟩ := dts_inv h2
  obtain ⟨v2, r, rfl, d2, h2⟩ := dts_inv h2
  obtain ⟨v3, r, rfl, d3, h2⟩ := dts_inv h2
  obtain ⟨v4, r, rfl, d4, h2⟩ := dts_inv h2
  obtain rfl := dts_end h2
  refine ⟨2, rfl, a, _, rfl, st_of h1, by show ¬ (HT.sIx 4 0 none = 0 ∧ HT.sIx 4 4 (some 2) = 4); decide, fun p np => q (.ref p) _ (e2.trans (fr_new np)) ?_⟩
  exact dt_tup (vs := [v1, v2]) upd_same (dts_cons (DT.tf (TF.ex (fr_new np)) _ _ d1) (dts_cons (DT.tf (TF.ex (fr_new np)) _ _ d2) dts_nil))
theorem ev_neD {d e : PyData} (ha : EvD ta σ H d) (hb : EvD tb σ H e) (sd : SeqAt.shaped d = true) (se : SeqAt.shaped e = true) (h : PyData.eqv d e = true) : Ev (tOp (rNeD K) ta tb) σ H (.bl false) := fun H1 e1 Q q =>
  ha H1 e1 _ fun x H2 e2 hx => hb H2 (e1.trans e2) _ fun y H3 e3 hy => ⟨d, e, dp_of _ _ (DT.tf (TF.ex e3) _ _ hx), dp_of _ _ hy, sd, se, by rw [h]; exact q H3 (e2.trans e3)⟩
end
section
variable {P : Program} {w : World} {K : PySem.W.Frag} {mg : Str → Option Value} {base : Heap} {C : Cn P w K mg base}
theorem acc_told {H0 : Hp} {Q : VK} {E : XK} {x : ResT PyData} {d : PyData} (h : x = some (.inr d)) (k : ∀ v H', Ex H0 H' → DT H' d v → Q v H') : AccC C H0 Q E x := by
  rw [h]
  exact k
theorem acc_ref {H0 : Hp} {Q : VK} {E : XK} {x : ResT PyData} {r c : Nat} (h : x = some (.inl (r, c))) (k : ∀ d H', Ex H0 H' → H' d = some (.xd [("column", .int (c : Nat)), ("row", .int (r : Nat))]) → E (.ref C.N) (some d) H') : AccC C H0 Q E x := by
  rw [h]
  exact k
end
theorem ed_pick {K : PySem.W.Frag} {σ : L2.St} {H : Hp} {m : Bool} {vd : V} (h6 : σ[6]? = some (some (.str (moreS m)))) (h8 : σ[8]? = some (some vd)) (hd : DT H DEEDS vd) :
    EvD (tOp (rIxL K) (tLst (tCons (tTup tNil) (tCons (tVar 8) tNil))) (tCB (fun xs H Q => (∃ i, xs = [.int i] ∧ Q (.int i) H) ∨ ∃ k, xs = [.bl k] ∧ Q (.int (if k then 1 else 0)) H) (tCons (tOp rNe (tVar 6) (tC (.str ""))) tNil))) σ H (deedsD m) := fun H1 e Q q => by
  refine ⟨by show 0 ≤ sizeLine; decide, fun T nT => ⟨vd, h8, by show 2 ≤ sizeLine; decide, fun L nL => ⟨.str (moreS m), h6, ?_, Or.inr ⟨_, rfl, ?_⟩⟩⟩⟩
  · cases m <;> rfl
  · have e1 : Ex H1 (L2.upd H1 T (.tup [])) := fr_new nT
    have e2 : Ex (L2.upd H1 T (.tup [])) (L2.upd (L2.upd H1 T (.tup [])) L (.lst [.ref T, vd])) := fr_new nL
    cases m with
    | true => exact ⟨L, _, _, vd, rfl, rfl, sq_of upd_same, rfl, q _ _ (e1.trans e2) (DT.tf (TF.ex ((e.trans e1).trans e2)) _ _ hd)⟩
    | false => exact ⟨L, _, _, .ref T, rfl, rfl, sq_of upd_same, rfl, q _ _ (e1.trans e2) (dt_tup (e2 _ _ upd_same) dts_nil)⟩
theorem len2 {a b : Str} (ha : a.length ≤ 100) (hb : b.length ≤ 100) : (a ++ b).length ≤ 9000 := by
  have : (a ++ b).length = a.length + b.length := PySem.Str.length_append a b
  omega
theorem rows_len {a b z : Str} (ha : a.length ≤ 100) (hb : b.length ≤ 100) (h : z ∈ rowsOf (a ++ b)) : z.length ≤ 10000 := by
  have l1 : (a ++ b).length ≤ 9000 := len2 ha hb
  have l2 : (("  go on tap if " : Str) ++ (a ++ b)).length = ("  go on tap if " : Str).length + (a ++ b).length := PySem.Str.length_append _ _
  simp only [rowsOf, List.mem_cons, List.not_mem_nil, or_false] at h
  rcases h with rfl | rfl | rfl | rfl
  · decide
  · decide
  · rw [l2]
    have : ("  go on tap if " : Str).length = 15 := rfl
    omega
  · decide
theorem rows_len1 {a z : Str} (ha : a.length ≤ 9000) (h : z ∈ rowsOf a) : z.length ≤ 10000 := by
  have l2 : (("  go on tap if " : Str) ++ a).length = ("  go on tap if " : Str).length + a.length := PySem.Str.length_append _ _
  simp only [rowsOf, List.mem_cons, List.not_mem_nil, or_false] at h
  rcases h with rfl | rfl | rfl | rfl
  · decide
  · decide
  · rw [l2]
    have : ("  go on tap if " : Str).length = 15 := rfl
    omega
  · decide
theorem shp (x y : Int) : SeqAt.shaped (.tuple [.int x, .int y]) = true := by simp [SeqAt.shaped, PyData.canLay0, PyData.canLayAll0, PyData.depth, PyData.depthAll]
theorem eqp {x y : Int} (h : x = y) : PyData.eqv (.tuple [.int 3, .int x]) (.tuple [.int 3, .int y]) = true := by
  subst h
  simp [PyData.eqv, PyData.eqvAll]
def spLaw (K : PySem.W.Frag) : Sp := fun vs H Q _ => ∃ (a : Addr) (ns : List Int), vs = [.ref a] ∧ SqL K H a (ns.map V.int) ∧ ∀ H', Q (.bl true) H'
section
variable {P : Program} {w : World} {K : PySem.W.Frag} {mg : Str → Option Value} {base : Heap}
set_option maxHeartbeats 0 in
theorem ok_law {f fR : Addr} {fd fdR : FuncData} {kR : Nat} (hk : 3 ≤ kR) (F : Fun K "law" "law" lLaw f fd) (G : Gn K mg) (gr : mg "range" = none) (gm : mg "min" = none) (gi : mg "int" = none)
    (DM : Df K mg "_law_mixed" lMixed ["_law_cell", "_law_k"]) (DP : Df K mg "_law_purse" lPurse ["_law_cell", "_law_k"]) (DK : Df K mg "_law_take" lTake ["_law_purse_here", "_law_far"]) (DA : Df K mg "_law_at" lAt ["_law_script", "_law_k"])
    (DPk : Df K mg "_law_pick" lPick ["_law_purse_here", "_law_some"]) (DG : Df K mg "_law_good" lGood []) (DB : Df K mg "_law_bad" lBad []) (DR : Df K mg "_law_row_of" lRowOf ["_law_line"]) (C : Cn P w K mg base)
    (xe : PySem.W.exmOne K (.ref C.N) (.ref C.N) = some true) (XR : XAt K C.N "row") (XC : XAt K C.N "column")
    (GR : FnOk P w K mg base (L2.CX P w) kR fR fdR ["text"] (spRead C 12 12)) (bR : Binds K fdR ["text"] []) (mR : mg "read_chart" = some (.ref fR)) (kpR : PySem.W.keepIn K (.ref fR) = true) :
    FnOk P w K mg base CX0 (kR + 1) f fd ["_law_script"] (spLaw K) := by
  have GM : FnOk P w K mg base CX0 1 DM.f DM.fd ["_law_cell", "_law_k"] spMixed := ok_mixed DM.F
  have GP : FnOk P w K mg base CX0 2 DP.f DP.fd ["_law_cell", "_law_k"] spPurse := ok_purse DP.F DM
  have GT : FnOk P w K mg base CX0 2 DK.f DK.fd ["_law_purse_here", "_law_far"] spLTake := ok_ltake DK.F DM
  have GA : FnOk P w K mg base CX0 1 DA.f DA.fd ["_law_script", "_law_k"] (spAt K) := ok_at DA.F G
  have GPk : FnOk P w K mg base CX0 3 DPk.f DPk.fd ["_law_purse_here", "_law_some"] (spPick K) := ok_pick DPk.F G DK DM
  have GG : FnOk P w K mg base CX0 1 DG.f DG.fd [] (spPairs GOOD) := okscGood DG.F
  have GB : FnOk P w K mg base CX0 1 DB.f DB.fd [] (spPairs BAD) := okscBad DB.F
  have GW : FnOk P w K mg base CX0 1 DR.f DR.fd ["_law_line"] spRowOf := ok_rowOf DR.F
  refine F.ok scLaw (fun vs H Q E h => ?_) (fun cdv A outer s H vs Q E hr h => ?_)
  · obtain ⟨a, ns, rfl, _⟩ := h
    rfl
  · obtain ⟨a, ns, rfl, hS, q⟩ := h
    have hr3 : Room 3 _ := hr.mono hk
    have hr2 : Room 2 _ := hr.mono (by omega)
    have hr1 : Room 1 _ := hr.mono (by omega)
    refine ⟨_, pss_cons (ps_for PassesOwn.never rfl (pi_range1 rfl gr (pa_cons (pe_op op_add pe_int (pe_callB (call_min2 rfl) (by rfl) gm boot_min (pa_cons (pe_callB call_len_seq (by rfl) G.len PySem.boot_len (pa_cons (pv 0) pa_nil)) (pa_cons pe_int pa_nil)))) pa_nil)) (pg_name (i := 1) scLaw.nd rfl (.inl rfl))
        (pss_cons (ps_set (i := 2) scLaw.nd rfl (.inl rfl) (pe_call GP hr2 rfl DP.m DP.F.kp DP.b .nil pass0 (pa_cons (pe_call GA hr1 rfl DA.m DA.F.kp DA.b .nil pass0 (pa_cons (pv 0) (pa_cons (pv 1) pa_nil))) (pa_cons (pv 1) pa_nil))))
        (pss_one (ps_for PassesOwn.never rfl (pi_range1 rfl gr (pa_cons pe_int pa_nil)) (pg_name (i := 3) scLaw.nd rfl (.inl rfl))
          (pss_cons (ps_asg (pe_call GPk hr3 rfl DPk.m DPk.F.kp DPk.b .nil pass0 (pa_cons (pv 2) (pa_cons (pe_call0 GG hr1 rfl DG.m DG.F.kp DG.b .nil pass0) pa_nil))) (pg_unl rfl (pgs_cons (pg_name (i := 4) scLaw.nd rfl (.inl rfl)) (pgs_cons (pg_name (i := 5) scLaw.nd rfl (.inl rfl)) pgs_nil))))
          (pss_cons (ps_set (i := 6) scLaw.nd rfl (.inl rfl) (pe_ix ix_list (pe_lst (pa_cons pe_str (pa_cons pe_str pa_nil))) (pe_call GT hr2 rfl DK.m DK.F.kp DK.b .nil pass0 (pa_cons (pv 2) (pa_cons pe_int pa_nil))) (fun _ _ => rfl)))
          (pss_cons (ps_set (i := 7) scLaw.nd rfl (.inl rfl) (pe_ix ix_tup (pe_ix ix_tup (pe_ix ix_tup (pe_call GR hr rfl mR kpR bR .nil (passes_call takesN fun _ _ _ _ h => h) (pa_cons (pe_call GW hr1 rfl DR.m DR.F.kp DR.b .nil pass0 (pa_cons (pe_op op_add_str (pv 4) (pv 6)) pa_nil)) pa_nil)) pe_int (fun _ _ => rfl)) pe_int (fun _ _ => rfl)) pe_int (fun _ _ => rfl)))
          (pss_cons (ps_if (PW.pt (pw_or (pt_cmpR (op_neD hr.units) (pe_slice sl_tup (pv 7) po_none (po_some pe_int)) (pe_tup (pa_cons (pe_tup (pa_cons pe_str (pa_cons pe_str pa_nil))) (pa_cons (pv 5) pa_nil))) (nomark _)) (pw_or1 (pt_cmpR (op_neD hr.units) (pe_ix ix_tup (pv 7) pe_int (fun _ _ => rfl)) (pe_tup pa_nil) (nomark _))))) (pss_one (ps_ret pe_bl)) pss_nil)
          (pss_cons (ps_set (i := 8) scLaw.nd rfl (.inl rfl) (pe_tup (pa_cons (pe_tup (pa_cons pe_str (pa_cons pe_str (pa_cons (pe_tup (pa_cons pe_str (pa_cons (pe_tup (pa_cons pe_str (pa_cons pe_str pa_nil))) (pa_cons (pe_tup (pa_cons pe_str (pa_cons (pe_tup (pa_cons pe_str (pa_cons pe_int pa_nil))) (pa_cons (pe_tup (pa_cons pe_str (pa_cons pe_str pa_nil))) pa_nil)))) pa_nil)))) pa_nil)))) pa_nil)))
          (pss_cons (ps_if (pt_cmpR (op_neD hr.units) (pe_ix ix_tup (pv 7) pe_int (fun _ _ => rfl)) (pe_ix ix_list (pe_lst (pa_cons (pe_tup pa_nil) (pa_cons (pv 8) pa_nil))) (pe_callTy call_int1 (by rfl) gi boot_int (pa_cons (pe_cmpR op_ne (pv 6) pe_str (nomark _)) pa_nil)) (fun _ _ => rfl)) (nomark _)) (pss_one (ps_ret pe_bl)) pss_nil)
          (pss_cons (ps_asg (pe_call GPk hr3 rfl DPk.m DPk.F.kp DPk.b .nil pass0 (pa_cons (pv 2) (pa_cons (pe_call0 GB hr1 rfl DB.m DB.F.kp DB.b .nil pass0) pa_nil))) (pg_unl rfl (pgs_cons (pg_name (i := 4) scLaw.nd rfl (.inl rfl)) (pgs_cons (pg_name (i := 9) scLaw.nd rfl (.inl rfl)) pgs_nil))))
          (pss_cons (ps_set (i := 10) scLaw.nd rfl (.inl rfl) pe_non)
          (pss_cons (ps_try_as (i := 11) rfl rfl scLaw.nd rfl rfl ⟨rfl, by decide, .inl C.mgN⟩ takesN
              (fun W pn xe tk _ => pss_one (ps_expr (pe_callS GR hr rfl mR kpR bR (fun σ => passAt tk σ) (pa_cons (pe_call GW hr1 rfl DR.m DR.F.kp DR.b .nil pass0 (pa_cons (pv 4) pa_nil)) pa_nil))))
              (fun a oe cls d pn hz hf => pss_one (ps_set (i := 10) scLaw.nd rfl (.inl rfl) (pe_tup (pa_cons (pe_xby XR hz hf (pv 11)) (pa_cons (pe_xby XC hz hf (pv 11)) pa_nil))))))
          (pss_one (ps_if (pt_cmpR (op_neD hr.units) (pv 10) (pe_tup (pa_cons pe_int (pa_cons (pe_op op_add (pv 9) pe_int) pa_nil))) (nomark _)) (pss_one (ps_ret pe_bl)) pss_nil)))))))))))))))
      (pss_one (ps_ret pe_bl)), ?_⟩
    refine q_forR1 (n := 2 + (if (4 : Int) < (((ns.map V.int).length : Nat) : Int) then (4 : Int) else (((ns.map V.int).length : Nat) : Int))) (Pv := fun i σ H' => SqL K H' a (ns.map V.int) ∧ ∃ v1 v2 v3 v4 v5 v6 v7 v8 v9 v10 v11 : Option V, σ = [some (.ref a), v1, v2, v3, v4, v5, v6, v7, v8, v9, v10, v11])
      (ea_cons (ev_op ev_c (ev_cb (ea_cons (ev_len (ev_var rfl) hS) (ea_cons ev_c ea_nil)) (fun H1 _ _ q => ⟨_, _, rfl, q H1 (Ex.refl H1)⟩)) rv_I0) ea_nil) (by split <;> omega) (fun H1 e1 => ⟨ex_l e1 hS, none, none, none, none, none, none, none, none, none, none, none, rfl⟩) (fun i σ' H0 hi hW => ?_) (fun σ' H' hW => ?_)
    · obtain ⟨hS0, v1, v2, v3, v4, v5, v6, v7, v8, v9, v10, v11, rfl⟩ := hW
      have hi9 : i < 6 := by split at hi <;> omega
      refine ⟨.ref a, rfl, .int (i : Int), rfl, a, ns, (i : Int), rfl, hS0, by omega, by omega, fun n H1 e1 => ⟨.int (i : Int), rfl, n, (i : Int), rfl, by omega, by omega, fun p H2 np e2 hp => ?_⟩⟩
      have np0 : H0 p = none := fresh_back e1 np
      refine s_forR1 (n := 6) (ea_cons ev_c ea_nil) (by decide) (fun j σ H' => Fr p H0 H' ∧ (∃ y, PurseAt H' p y ∧ 0 ≤ y ∧ y ≤ 3 * (j : Int)) ∧ ∃ v3 v4 v5 v6 v7 v8 v9 v10 v11 : Option V, σ = [some (.ref a), some (.int (i : Int)), some (.ref p), v3, v4, v5, v6, v7, v8, v9, v10, v11]) (fun H3 e3 => ?_) (fun j σ' H3 hj hW => ?_) (fun σ' H' hW => ?_)
      · obtain ⟨x, z, hp'⟩ := hp
        exact ⟨Fr.ex ((e1.trans e2).trans e3), ⟨0, ⟨x, z, e3 _ _ hp'⟩, by omega, by omega⟩, _, _, _, _, _, _, _, _, _, rfl⟩
      · obtain ⟨f3, ⟨y, hp3, y0, y1⟩, w3, w4, w5, w6, w7, w8, w9, w10, w11, rfl⟩ := hW
        have hj9 : j < 6 := by omega
        -- pick(purse, good())
        refine ⟨.ref p, rfl, rfl, fun lg H4 nlg e4 hg => ?_⟩
        obtain ⟨xg, hxg, pg⟩ := hg
        have lgp : lg ≠ p := fun z => by
          obtain ⟨x, y, hpp⟩ := hp3
          rw [z, hpp] at nlg
          cases nlg
        have nlen : xg.length = 22 := by rw [Paired.length pg, good_len]
        have hp4 : PurseAt H4 p y := by
          obtain ⟨x, z, hpp⟩ := hp3
          exact ⟨x, z, e4 _ _ hpp⟩
        refine ⟨p, lg, xg, y, rfl, hp4, y0, by omega, hxg, by omega, by omega, lgp, fun ig vg y5 H5 hgi y5a y5b f5 hp5 => ?_⟩
        obtain ⟨pr, hm, q1, u, rfl, nq, hq1, hu⟩ := paired_get pg hgi
        have t45 : TF H4 H5 := by
          obtain ⟨x, z, hpp⟩ := hp4
          exact tf_fr hpp f5
        have q1p : q1 ≠ p := fun z => by
          obtain ⟨x, w, hpp⟩ := hp4
          rw [z, hpp] at hq1
          exact absurd (congrArg List.length (HO.lst.inj (Option.some.inj hq1))) (by show ¬ 3 = 2; decide)
        have hu5 := DT.tf t45 _ _ hu
        have hq5 := f5 _ _ q1p hq1
        have f35 : Fr p H0 H5 := (f3.trans (Fr.ex e4)).trans f5
        refine ⟨q1, [.str pr.1, u], rfl, sq_of hq5, rfl, .str pr.1, [u], rfl, u, [], rfl, rfl, ?_⟩
        clear hq1 hu hgi nlen
        -- more
        refine ⟨by show 2 ≤ sizeLine; exact sz_of (by decide), fun L nL => ⟨.ref p, rfl, p, 2, y5, rfl, by omega, by omega, ?_, by omega, by omega, fun d y6 H6 d0 d1 y6a y6b f6 hp6 => ?_⟩⟩
        · obtain ⟨x, z, hpp⟩ := hp5
          exact ⟨x, z, fr_new nL _ _ hpp⟩
        have hL6 : H6 L = some (.lst [.str "", .str MORE]) := f6 _ _ (fun z => by
          obtain ⟨x, w, hpp⟩ := hp5
          rw [z, hpp] at nL
          cases nL) upd_same
        obtain ⟨m, hmd⟩ : ∃ m : Bool, atI [V.str "", V.str MORE] d = some (.str (moreS m)) := by
          rcases (by omega : d = 0 ∨ d = 1) with rfl | rfl
          · exact ⟨false, rfl⟩
          · exact ⟨true, rfl⟩
        refine ⟨L, _, d, .str (moreS m), rfl, rfl, sq_of hL6, hmd, ?_⟩
        have f06 : Fr p H0 H6 := (f35.trans (Fr.ex (fr_new nL))).trans f6
        have hu6 := DT.tf (TF.ex (fr_new (o := .lst [.str "", .str MORE]) nL)) _ _ hu5
        have t56 : TF (L2.upd H5 L (.lst [.str "", .str MORE])) H6 := by
          obtain ⟨x, z, hpp⟩ := hp5
          exact tf_fr (fr_new nL _ _ hpp) f6
        have hu6 := DT.tf t56 _ _ hu6
        obtain ⟨hfit, hlen⟩ := good_at hm m
        obtain ⟨x0, x1, xa, xb, xc, xd, xe', w, g, ds, gs, r, hread, e1', e2', e3', s1, s2, s3, s4⟩ := fits0_of hfit
        have hml : (moreS m).length ≤ 100 := by cases m <;> decide
        -- read_chart(..)[2][5][0]
        refine ⟨.str pr.1, rfl, .str (moreS m), rfl, pr.1, moreS m, rfl, rfl, sz_of (by omega), ?_⟩
        refine ⟨pr.1 ++ moreS m, rfl, len2 hlen hml, fun rl H7 nrl e7 hrl => ⟨rl, rowsOf (pr.1 ++ moreS m), rfl, hrl, by show 4 ≤ 500; decide, fun z hz => rows_len hlen hml hz, acc_told hread fun v H8 e8 hv => ?_⟩⟩
        have hu8 := DT.tf (TF.ex (e7.trans e8)) _ _ hu6
        obtain ⟨a1, vs1, rfl, ha1, hd1⟩ := dt_inv hv
        obtain ⟨v2, hv2, hd2⟩ := dts_get (i := 2) hd1 rfl
        obtain ⟨a2, vs2, rfl, ha2, hd3⟩ := dt_inv hd2
        obtain ⟨v5, hv5, hd5⟩ := dts_get (i := 5) hd3 rfl
        obtain ⟨a5, vs5, rfl, ha5, hd6⟩ := dt_inv hd5
        obtain ⟨mv, hmv, hdm⟩ := dts_get (i := 0) hd6 rfl
        refine ⟨a1, vs1, 2, _, rfl, rfl, st_of ha1, atI_nat hv2, a2, vs2, 5, _, rfl, rfl, st_of ha2, atI_nat hv5, a5, vs5, 0, mv, rfl, rfl, st_of ha5, atI_nat hmv, ?_⟩
        clear hv ha1 hd1 hv2 hd2 ha2 hd3 hv5 hd5 ha5 hd6 hmv
        have f08 : Fr p H0 H8 := f06.trans (Fr.ex (e7.trans e8))
        have hp8 : PurseAt H8 p y6 := by
          obtain ⟨x, z, hpp⟩ := hp6
          exact ⟨x, z, e8 _ _ (e7 _ _ hpp)⟩
        -- the first test
        refine q_when (b := false) (et_or (a := false) (b := false) (et_test (ev_neD (ed_sl2 (evd_of (ev_var rfl) hdm)) (evd_tup (evds_cons (evd_tup (evds_cons (evd_of ev_c dt_str) (evds_cons (evd_of ev_c dt_str) evds_nil)) (by show 2 ≤ 100000; decide)) (evds_cons (evd_of (ev_var rfl) hu8) evds_nil)) (by show 2 ≤ 100000; decide)) s1 s2 e1')) fun _ =>
          et_test (ev_neD (ed_ix (i := 3) (evd_of (ev_var rfl) hdm) rfl) (evd_tup evds_nil (by decide)) s3 (by decide +kernel) e2')) (fun z => nomatch z) fun _ H9 e9 => ?_
        have hdm9 := DT.tf (TF.ex e9) _ _ hdm
        refine q_asgD (d := DEEDS) (evd_tup (evds_cons (evd_tup (evds_cons (evd_of ev_c dt_str) (evds_cons (evd_of ev_c dt_str) (evds_cons (evd_tup (evds_cons (evd_of ev_c dt_str) (evds_cons (evd_tup (evds_cons (evd_of ev_c dt_str) (evds_cons (evd_of ev_c dt_str) evds_nil)) (by show 2 ≤ 100000; decide))
          (evds_cons (evd_tup (evds_cons (evd_of ev_c dt_str) (evds_cons (evd_tup (evds_cons (evd_of ev_c dt_str) (evds_cons (evd_of ev_c dt_int) evds_nil)) (by show 2 ≤ 100000; decide)) (evds_cons (evd_tup (evds_cons (evd_of ev_c dt_str) (evds_cons (evd_of ev_c dt_str) evds_nil)) (by show 2 ≤ 100000; decide)) evds_nil))) (by show 3 ≤ 100000; decide)) evds_nil))) (by show 3 ≤ 100000; decide)) evds_nil))) (by show 3 ≤ 100000; decide)) evds_nil) (by show 1 ≤ 100000; decide)) fun vd HA eA hvd => ?_
        have hdmA := DT.tf (TF.ex eA) _ _ hdm9
        refine q_when (b := false) (et_test (ev_neD (ed_ix (i := 2) (evd_of (ev_var rfl) hdmA) rfl) (ed_pick (m := m) rfl rfl hvd) s4 (by cases m <;> decide +kernel) e3')) (fun z => nomatch z) fun _ HB eB => ?_
        have e8B := (e9.trans eA).trans eB
        have hpB : PurseAt HB p y6 := by
          obtain ⟨x, z, hpp⟩ := hp8
          exact ⟨x, z, e8B _ _ hpp⟩
        have f0B : Fr p H0 HB := f08.trans (Fr.ex e8B)
        clear hdm hdm9 hdmA hvd e8B eB eA e9 hp8 hp6 f08 f06 hread hu8 hu6 hu5
        -- pick(purse, bad())
        refine ⟨.ref p, rfl, rfl, fun lb HC nlb eC hb => ?_⟩
        obtain ⟨xb', hxb, pb⟩ := hb
        have lbp : lb ≠ p := fun z => by
          obtain ⟨x, y, hpp⟩ := hpB
          rw [z, hpp] at nlb
          cases nlb
        have nlenb : xb'.length = 23 := by rw [Paired.length pb, bad_len]
        have hpC : PurseAt HC p y6 := by
          obtain ⟨x, z, hpp⟩ := hpB
          exact ⟨x, z, eC _ _ hpp⟩
        refine ⟨p, lb, xb', y6, rfl, hpC, by omega, by omega, hxb, by omega, by omega, lbp, fun ib vb y7 HD hbi y7a y7b f7 hp7 => ?_⟩
        obtain ⟨pb1, hmb, q2, ub, rfl, nq2, hq2, hub⟩ := paired_get pb hbi
        obtain ⟨cc, kk, hrd, hkk, hck, hlb⟩ := bad_at hmb
        have q2p : q2 ≠ p := fun z => by
          obtain ⟨x, w, hpp⟩ := hpC
          rw [z, hpp] at hq2
          exact absurd (congrArg List.length (HO.lst.inj (Option.some.inj hq2))) (by show ¬ 3 = 2; decide)
        have hqD := f7 _ _ q2p hq2
        obtain rfl : ub = .int kk := by rw [hkk] at hub; unfold DT at hub; exact hub
        have f0D : Fr p H0 HD := (f0B.trans (Fr.ex eC)).trans f7
        refine ⟨q2, [.str pb1.1, .int kk], rfl, sq_of hqD, rfl, .str pb1.1, [.int kk], rfl, .int kk, [], rfl, rfl, ?_⟩
        refine q_asg (v := .non) ev_c fun HE eE => ?_
        have lb9 : pb1.1.length ≤ 9000 := by omega
        refine ⟨.str pb1.1, rfl, pb1.1, rfl, lb9, fun rb HF nrb eF hrb => ⟨rb, rowsOf pb1.1, rfl, hrb, by show 4 ≤ 500; decide, fun z hz => rows_len1 lb9 hz, acc_ref hrd fun dd HG eG hdd => ⟨true, xe, fun _ ca nca => ?_, fun z => nomatch z⟩⟩⟩
        refine ⟨.ref ca, rfl, rfl, rfl, dd, _, .int (3 : Nat), rfl, hdd, rfl, .ref ca, rfl, rfl, rfl, dd, _, .int (cc : Nat), rfl, hdd, rfl, by show 2 ≤ sizeLine; decide, fun T nT => ?_⟩
        have eT : Ex HG (L2.upd HG T (.tup [.int (3 : Nat), .int (cc : Nat)])) := fr_new nT
        have dT : DT (L2.upd HG T (.tup [.int (3 : Nat), .int (cc : Nat)])) (.tuple [.int 3, .int (cc : Nat)]) (.ref T) := dt_tup upd_same (dts_cons dt_int (dts_cons dt_int dts_nil))
        have eAll : Ex HD (L2.upd HG T (.tup [.int (3 : Nat), .int (cc : Nat)])) := (eE.trans (eF.trans eG)).trans eT
        revert dT eAll
        generalize (L2.upd HG T (.tup [.int (3 : Nat), .int (cc : Nat)])) = HT
        intro dT eAll
        refine s_when (b := false) (et_test (ev_neD (evd_of (ev_var rfl) dT) (evd_tup (evds_cons (evd_of ev_c dt_int) (evds_cons (evd_of (ev_op (ev_var rfl) ev_c rv_I0) dt_int) evds_nil)) (by show 2 ≤ 100000; decide)) (shp _ _) (shp _ _) (eqp hck))) (fun z => nomatch z) fun _ HZ eZ => ?_
        refine ⟨f0D.trans (Fr.ex (eAll.trans eZ)), ⟨y7, ?_, by omega, by omega⟩, _, _, _, _, _, _, _, _, _, rfl⟩
        obtain ⟨x, z, hpp⟩ := hp7
        exact ⟨x, z, (eAll.trans eZ) _ _ hpp⟩
      · obtain ⟨f9, _, w3, w4, w5, w6, w7, w8, w9, w10, w11, rfl⟩ := hW
        exact ⟨fr_l hS0 np0 f9, _, _, _, _, _, _, _, _, _, _, _, rfl⟩
    · obtain ⟨hS', v1, v2, v3, v4, v5, v6, v7, v8, v9, v10, v11, rfl⟩ := hW
      exact s_ret (v := .bl true) ev_c fun H2 e2 => q H2
end
end Prs
set_option Elab.async false
set_option linter.all false
set_option maxRecDepth 100000
set_option maxHeartbeats 4000000
/-! f(k = v, ..), nothing by its place -/
namespace L2
open PySem PySem.Spec PyProof.Rows
section
variable {X : Cx} {CX : CXT} {k : Nat} {f : Addr} {fd : FuncData} {ps ks : List Str} {sp : Sp} {E : XK} {x : Str} {p pos : Pos} {kws : List Keyword} {tk : TA} {g : List Value → List Value → List Value} {gV : List V → List V → List V}
theorem pe_onlyK (G : FnOk X.prog X.w X.K X.mg X.base CX k f fd ps sp) (room : Room k X.A) (gl : Gl X x) (at_ : X.mg x = some (.ref f)) (kp : PySem.W.keepIn X.K (.ref f) = true) (B : KBn X.K fd ps 0 ks g gV) (out : Passes CX X E)
    (T : PK X kws tk) (e1 : (backToKw pos (keywordEach kws X.env)).all (·.1.isSome) = true := by rfl) (e2 : (backToKw pos (keywordEach kws X.env)).filterMap (·.1) = ks := by rfl)
    (e3 : (x == ("__debug__" : Str)) = false := by decide) (e4 : ((backTo pos (starEach [] X.env)).any (·.1) || (backToKw pos (keywordEach kws X.env)).any (·.1.isNone)) = false := by rfl) :
    PE X (.Call (.Name x p) [] kws pos) (tCallN 0 ks.length sp gV E tNil tk) :=
  ⟨fun pins s σ H Q I h => wpAny_Call_Name_kw (ld_glob I gl at_ (PySem.W.callWith_KW0 (h₀ := X.base) I.ok.mod.kin kp e1 (thn (T.run pos pins s σ H _ I h) fun ws s2 ⟨zs, H2, I2, rz, n1, n2, q⟩ => ⟨I2.kIn, by
    rw [e2]
    exact run_fnN (us := []) (vs := []) G room B out I2 .nil rz n1 n2 q⟩) e4) e3)⟩
/-- a def of one parameter, called by its name alone -/
theorem Fun.byName {K : PySem.W.Frag} {x q a : Str} {st : Stmt} {f : Addr} {fd : FuncData} (F : Fun K x q st f fd)
    (h : ∀ (kV doc pm : Value) (an : Option Addr) (cdv ct : Value) (u : Value), bindArgs (PySem.W.fnOf x q (defArgs st) (defBody st) (defScope st) .none kV doc pm an cdv ct) ⟨[], [(a, u)]⟩ = pure [(a, u)]) : KBn K fd [a] 0 [a] (fun us ws => us ++ ws) (fun vs zs => vs ++ zs) := by
  obtain ⟨oc, od, kV, doc, pm, an, cdv, ct, osl, rfl, lk, hcd⟩ := F.ex
  refine ⟨fun s us ws _ l1 l2 => ?_, fun r z => r.append z⟩
  match us, ws, l1, l2 with
  | [], [u], _, _ => exact .of_eq (h kV doc pm an cdv ct u)
end
end L2
set_option Elab.async false
set_option linter.all false
set_option maxRecDepth 100000
set_option maxHeartbeats 8000000
namespace Prs
open PySem PySem.Spec PyProof.Rows L2 Evl
/-! ### what the top has made, asked at once: an exception's class -/
def oexB (K : PySem.W.Frag) (C : Addr) : Bool := match K.lookup C with
  | some ⟨.type "type", _, .cls cd, sl⟩ => (match cd.mro, sl.toList with
    | .ref C' :: bm, [_, _, _, _, some (.builtin n), _] => C' == C && n == "ValueError.__new__" && !cd.hasDel && cd.hasDict && PySem.HandSPX.refsVE bm
    | _, _ => false)
  | _ => false
theorem oex_cls {K : PySem.W.Frag} {C : Addr} (h : oexB K C = true) : ∃ nm q N bs bm sn sub ab col dd k0 k1 k2 k3 k5, K.lookup C = some (excClassObj nm q C N bs bm true sn sub ab col dd k0 k1 k2 k3 k5 "ValueError.__new__") ∧ PySem.HandSPX.refsVE bm = true := by
  unfold oexB at h
  split at h
  · rename_i dd cd sl ho
    split at h
    · rename_i C' bm k0 k1 k2 k3 n k5 hm hs
      simp only [Bool.and_eq_true, beq_iff_eq, Bool.not_eq_true'] at h
      obtain ⟨⟨⟨⟨rfl, rfl⟩, hdel⟩, hdi⟩, hr⟩ := h
      obtain ⟨nm, bs, mro, ns, qn, hd, sn, sub, ab, col, del⟩ := cd
      dsimp only at hm hdel hdi
      subst hm hdel hdi
      obtain ⟨l⟩ := sl
      simp only at hs
      subst hs
      exact ⟨nm, qn, ns, bs, bm, sn, sub, ab, col, dd, k0, k1, k2, k3, k5, ho, hr⟩
    · cases h
  · cases h
def excB (K : PySem.W.Frag) (C : Addr) : Bool := PySem.W.findIn K (.ref C) "__getattribute__" == some (some (.builtin "BaseException.__getattribute__")) && PySem.W.findIn K (.ref C) "__getattr__" == some none &&
  PySem.W.subIn K (.ref C) (.type "BaseException") == some true && PySem.W.hasDictIn K C
def fldB (K : PySem.W.Frag) (C : Addr) (fs : List Str) : Bool := oexB K C && PySem.W.findIn K (.ref C) "__setattr__" == some (some (.builtin "object.__setattr__")) && PySem.W.typeIn K (.ref C) == some (.type "type") && PySem.W.keepIn K (.ref C) && fs.all fun f => PySem.W.findIn K (.ref C) f == some none
theorem oexC_of {K : PySem.W.Frag} {C : Addr} {fs : List Str} (h : fldB K C fs = true) (e : excB K C = true) : OexC K C := by
  unfold fldB at h
  unfold excB at e
  simp only [Bool.and_eq_true, beq_iff_eq] at h e
  obtain ⟨⟨⟨⟨h1, h2⟩, h3⟩, h4⟩, _⟩ := h
  exact ⟨oex_cls h1, h2, e.1.2, h3, h4⟩
theorem xAt_of {K : PySem.W.Frag} {C : Addr} {fs : List Str} (h : fldB K C fs = true) (e : excB K C = true) {f : Str} (hf : f ∈ fs) : XAt K C f := by
  unfold fldB at h
  unfold excB at e
  simp only [Bool.and_eq_true, beq_iff_eq] at h e
  have := List.all_eq_true.mp h.2 f hf
  exact ⟨e.1.1.1, e.1.1.2, e.1.2, e.2, beq_iff_eq.mp this⟩
theorem no_of {K : PySem.W.Frag} {C : Addr} {fs : List Str} (h : fldB K C fs = true) {f : Str} (hf : f ∈ fs) : PySem.W.findIn K (.ref C) f = some none := by
  unfold fldB at h
  simp only [Bool.and_eq_true, beq_iff_eq] at h
  exact beq_iff_eq.mp (List.all_eq_true.mp h.2 f hf)
/-! ### a method that is taken as a value, a class's def -/
def bmB (K : PySem.W.Frag) (x m : Str) : Bool := He.eqO (PySem.W.specialIn K (.ref (He.ma K (He.ga K x) m)) "__get__") (some (some (.builtin "function.__get__"))) && (decide (PySem.W.takesIn K (.ref (He.ma K (He.ga K x) m)) = some false) && PySem.W.fnIn K (He.ma K (He.ga K x) m))
theorem bm_of {K : PySem.W.Frag} {x m : Str} (h : bmB K x m = true) (M : Meth K (He.ga K x) m (He.ma K (He.ga K x) m)) (cp : PySem.W.copiedNames.contains m = false) : BMeth K (He.ga K x) m (He.ma K (He.ga K x) m) := by
  obtain ⟨h1, h2⟩ := He.ba h
  obtain ⟨h3, h4⟩ := He.ba h2
  exact ⟨M, He.eqO_ok h1, of_decide_eq_true h3, cp, h4⟩
theorem fun_of {K : PySem.W.Frag} {x qual : Str} {st : Stmt} {f : Addr} {fd : FuncData} (F : FunD K x qual (defArgs st) (defBody st) (defScope st) [] [] f fd) : Fun K x qual st f fd := by
  obtain ⟨oc, od, dV, kV, doc, pm, an, cdv, ct, osl, rfl, lk, hcd, hD, hK⟩ := F.ex
  rcases hD with ⟨_, rfl⟩ | ⟨h, _⟩
  · exact ⟨⟨oc, od, kV, doc, pm, an, cdv, ct, osl, rfl, lk, hcd⟩, F.kp⟩
  · exact absurd rfl h
/-! ### a dict of the top, all its keys -/
theorem isStr_lit {x z : Str} {t : PySem.Tok} : (Value.str x t).isStr z = decide (x = z) := by
  show (x == z) = decide (x = z)
  by_cases h : x = z
  · subst h
    simp
  · simp [h]
theorem find_keys {P : Params} {z : Str} : ∀ {es : List DictEntry} {ks : List Str}, es.map He.keyOf = He.keysIn P ks → (es.find? (·.key.isStr z)).isSome = decide (z ∈ ks) ∧ es.any (·.refKey) = false
  | [], [], _ => ⟨rfl, rfl⟩
  | [], _ :: _, h => by cases h
  | _ :: _, [], h => by cases h
  | e :: es, k :: ks, h => by
    have h1 : He.keyOf e :: es.map He.keyOf = some (k, PyData.keyHash P k) :: He.keysIn P ks := h
    injection h1 with h2 h3
    obtain ⟨i1, i2⟩ := find_keys (z := z) h3
    unfold He.keyOf at h2
    split at h2
    · rename_i x t q
      have h4 := Option.some.inj h2
      obtain ⟨h5, _⟩ := Prod.mk.inj h4
      subst h5
      constructor
      · rw [List.find?_cons]
        cases hb : e.key.isStr z with
        | true =>
          rw [q, isStr_lit] at hb
          have := of_decide_eq_true hb
          subst this
          simp
        | false =>
          rw [q, isStr_lit] at hb
          have hne := of_decide_eq_false hb
          show (es.find? (·.key.isStr z)).isSome = _
          rw [i1]
          simp only [List.mem_cons]
          have : ¬ z = x := fun y => hne y.symm
          simp [this]
      · rw [List.any_cons, i2, Bool.or_false]
        unfold DictEntry.refKey
        rw [q]
    · cases h2
theorem ns_all {K : PySem.W.Frag} {P : Params} {a : Addr} {ks : List Str} (h : He.dicW K a = some (He.keysIn P ks)) (z : Str) : ∃ r, PySem.W.nsIn K a z = some r ∧ r.isSome = decide (z ∈ ks) := by
  unfold He.dicW at h
  split at h
  · rename_i c es n sl hl
    split at h
    · obtain ⟨i1, i2⟩ := find_keys (z := z) (Option.some.inj h)
      unfold PySem.W.nsIn
      rw [hl]
      dsimp only
      cases hf : es.toList.find? (·.key.isStr z) with
      | some e =>
        rw [hf] at i1
        exact ⟨some e.val, rfl, i1⟩
      | none =>
        rw [hf] at i1
        rw [i2]
        exact ⟨none, rfl, i1⟩
    · cases h
  · cases h
theorem inV_strs {z : Str} : ∀ {ks : List Str}, inV (.str z) (ks.map V.str) = decide (z ∈ ks)
  | [] => by simp [inV]
  | k :: ks => by
    have := inV_strs (z := z) (ks := ks)
    unfold inV at this ⊢
    simp only [List.map_cons, List.any_cons, List.mem_cons]
    rw [this]
    by_cases h : z = k
    · subst h
      simp [eqV]
    · have h' : ¬ k = z := fun y => h y.symm
      simp [eqV, h, h']

/-! ### the defs -/
def d_is_name : He.DefD := ⟨("is_name", none), "is_name", "is_name", defArgs sIsName, defBody sIsName, defScope sIsName, [], []⟩
def d_end_of_run : He.DefD := ⟨("end_of_run", none), "end_of_run", "end_of_run", defArgs sRun, defBody sRun, defScope sRun, [], []⟩
def d_end_of_word : He.DefD := ⟨("end_of_word", none), "end_of_word", "end_of_word", defArgs sWord, defBody sWord, defScope sWord, [], []⟩
def d_kind_of : He.DefD := ⟨("kind_of", none), "kind_of", "kind_of", defArgs sKind, defBody sKind, defScope sKind, [], []⟩
def d_blanks_of : He.DefD := ⟨("blanks_of", none), "blanks_of", "blanks_of", defArgs sBlanks, defBody sBlanks, defScope sBlanks, [], []⟩
def d_is_passed : He.DefD := ⟨("is_passed", none), "is_passed", "is_passed", defArgs sPassed, defBody sPassed, defScope sPassed, [], []⟩
def d_words_of : He.DefD := ⟨("words_of", none), "words_of", "words_of", defArgs sWordsOf, defBody sWordsOf, defScope sWordsOf, [], []⟩
def d_known_words : He.DefD := ⟨("known_words", none), "known_words", "known_words", defArgs sKnownW, defBody sKnownW, defScope sKnownW, [], []⟩
def d_kind_of_whole : He.DefD := ⟨("kind_of_whole", none), "kind_of_whole", "kind_of_whole", defArgs sWhole, defBody sWhole, defScope sWhole, [], []⟩
def d_quick_words : He.DefD := ⟨("quick_words", none), "quick_words", "quick_words", defArgs sQuick, defBody sQuick, defScope sQuick, [], []⟩
def d_read_part : He.DefD := ⟨("read_part", none), "read_part", "read_part", defArgs sPart, defBody sPart, defScope sPart, [], []⟩
def d_rest_of_term : He.DefD := ⟨("rest_of_term", none), "rest_of_term", "rest_of_term", defArgs sRest, defBody sRest, defScope sRest, [], []⟩
def d_read_term : He.DefD := ⟨("read_term", none), "read_term", "read_term", defArgs sTerm, defBody sTerm, defScope sTerm, [], []⟩
def d_rest_of_comparison : He.DefD := ⟨("rest_of_comparison", none), "rest_of_comparison", "rest_of_comparison", defArgs sComp, defBody sComp, defScope sComp, [], []⟩
def d_read_either_kind : He.DefD := ⟨("read_either_kind", none), "read_either_kind", "read_either_kind", defArgs sEither, defBody sEither, defScope sEither, [], []⟩
def d_read_bracket : He.DefD := ⟨("read_bracket", none), "read_bracket", "read_bracket", defArgs sBracket, defBody sBracket, defScope sBracket, [], []⟩
def d_read_one : He.DefD := ⟨("read_one", none), "read_one", "read_one", defArgs sOne, defBody sOne, defScope sOne, [], []⟩
def d_rest_of_both : He.DefD := ⟨("rest_of_both", none), "rest_of_both", "rest_of_both", defArgs sBoth, defBody sBoth, defScope sBoth, [], []⟩
def d_rest_of_guard : He.DefD := ⟨("rest_of_guard", none), "rest_of_guard", "rest_of_guard", defArgs sRGuard, defBody sRGuard, defScope sRGuard, [], []⟩
def d_read_guard : He.DefD := ⟨("read_guard", none), "read_guard", "read_guard", defArgs sGuard, defBody sGuard, defScope sGuard, [], []⟩
def d_read_deed : He.DefD := ⟨("read_deed", none), "read_deed", "read_deed", defArgs sDeed, defBody sDeed, defScope sDeed, [], []⟩
def d_read_deeds : He.DefD := ⟨("read_deeds", none), "read_deeds", "read_deeds", defArgs sDeeds, defBody sDeeds, defScope sDeeds, [], []⟩
def d_read_goals : He.DefD := ⟨("read_goals", none), "read_goals", "read_goals", defArgs sGoals, defBody sGoals, defScope sGoals, [], []⟩
def d_read_when : He.DefD := ⟨("read_when", none), "read_when", "read_when", defArgs sWhen, defBody sWhen, defScope sWhen, [], []⟩
def d_read_move : He.DefD := ⟨("read_move", none), "read_move", "read_move", defArgs sMove, defBody sMove, defScope sMove, [], []⟩
def d_read_signed : He.DefD := ⟨("read_signed", none), "read_signed", "read_signed", defArgs sSigned, defBody sSigned, defScope sSigned, [], []⟩
def d_read_fact : He.DefD := ⟨("read_fact", none), "read_fact", "read_fact", defArgs sFact, defBody sFact, defScope sFact, [], []⟩
def d_read_sheet : He.DefD := ⟨("read_sheet", none), "read_sheet", "read_sheet", defArgs sSheet, defBody sSheet, defScope sSheet, [], []⟩
def d_read_chart : He.DefD := ⟨("read_chart", none), "read_chart", "read_chart", defArgs sRead, defBody sRead, defScope sRead, [], []⟩
def d_Words___init__ : He.DefD := ⟨("Words", some "__init__"), "__init__", "Words.__init__", defArgs sInit, defBody sInit, defScope sInit, [], []⟩
def d_Words_ahead : He.DefD := ⟨("Words", some "ahead"), "ahead", "Words.ahead", defArgs sAhead, defBody sAhead, defScope sAhead, [], []⟩
def d_Words_take : He.DefD := ⟨("Words", some "take"), "take", "Words.take", defArgs sTake, defBody sTake, defScope sTake, [], []⟩
def d_Words_take_if : He.DefD := ⟨("Words", some "take_if"), "take_if", "Words.take_if", defArgs sTakeIf, defBody sTakeIf, defScope sTakeIf, [], []⟩
def d_Draft___init__ : He.DefD := ⟨("Draft", some "__init__"), "__init__", "Draft.__init__", defArgs sDInit, defBody sDInit, defScope sDInit, [], []⟩
def d_Draft_next_words : He.DefD := ⟨("Draft", some "next_words"), "next_words", "Draft.next_words", defArgs sNext, defBody sNext, defScope sNext, [], []⟩
def d_Draft_read_inner : He.DefD := ⟨("Draft", some "read_inner"), "read_inner", "Draft.read_inner", defArgs sInner, defBody sInner, defScope sInner, [], []⟩
def d_Draft_finished : He.DefD := ⟨("Draft", some "finished"), "finished", "Draft.finished", defArgs sFin, defBody sFin, defScope sFin, [], []⟩
def d_Sheet___init__ : He.DefD := ⟨("Sheet", some "__init__"), "__init__", "Sheet.__init__", defArgs sSInit, defBody sSInit, defScope sSInit, [], []⟩
def d_Sheet_chart : He.DefD := ⟨("Sheet", some "chart"), "chart", "Sheet.chart", defArgs sChart, defBody sChart, defScope sChart, [], []⟩
def d_Sheet_read_head : He.DefD := ⟨("Sheet", some "read_head"), "read_head", "Sheet.read_head", defArgs sHead, defBody sHead, defScope sHead, [], []⟩
def d_Sheet_read_row : He.DefD := ⟨("Sheet", some "read_row"), "read_row", "Sheet.read_row", defArgs sRow, defBody sRow, defScope sRow, [], []⟩
abbrev sNT : Stmt := inClass (top 13) 0
def d_NT : He.DefD := ⟨("NoText", some "__init__"), "__init__", "NoText.__init__", defArgs sNT, defBody sNT, defScope sNT, [.non, .non], []⟩
theorem scNT : FnScope ["self", "row", "column"] ["self", "row", "column"] (defScope sNT) := ⟨rfl, rfl, rfl, by decide +kernel, rfl, by decide +kernel, by decide +kernel⟩
theorem okNT {P : Program} {w : World} {K : PySem.W.Frag} {mg : Str → Option Value} {base : Heap} {f : Addr} {fd : FuncData} (F : FunD K "__init__" "NoText.__init__" (defArgs sNT) (defBody sNT) (defScope sNT) [.non, .non] [] f fd) : FnOk P w K mg base CX0 1 f fd ["self", "row", "column"] (spI2 K "row" "column") := by
  refine F.ok scNT (fun vs H Q E h => ?_) (fun cdv A outer s H vs Q E hr h => ⟨_, ?_, read_i2 rfl h⟩)
  · obtain ⟨_, _, _, _, rfl, _⟩ := h
    rfl
  · exact pss_cons (ps_ost (pv 0) (pv 1)) (pss_one (ps_ost (pv 0) (pv 2)))
theorem bNT {K : PySem.W.Frag} {f : Addr} {fd : FuncData} (F : FunD K "__init__" "NoText.__init__" (defArgs sNT) (defBody sNT) (defScope sNT) [.non, .non] [] f fd) : Binds K fd ["self", "row", "column"] [] := by
  obtain ⟨ds, h, hb⟩ := FunD.binds1 (ps := ["self", "row", "column"]) F 3 2 (by intro h; cases h) rfl (fun _ _ _ _ _ _ _ us its l1 l2 => match us, its, l1, l2 with | [_, _, _], [_, _], _, _ => ⟨_, rfl, rfl⟩)
  have : ds = [] := by
    cases ds with
    | nil => rfl
    | cons x r => nomatch h
  subst this
  exact hb
def faR : List He.Fa := [.free "len", .str "LETTERS" "abcdefghijklmnopqrstuvwxyz", .str "FIGURES" "0123456789", .str "MARKS" "()+-<=,", .int "MOST_SIGNS" 8, .int "MOST_FIGURES" 9, .str "NAME" "a name", .str "NUMBER" "a number", .str "NO_WORD" "no word", .str "ROW_END" "the row's end", .cls "Words", .noat "Words" "at", .noat "Words" "kinds", .noat "Words" "texts", .noat "Words" "row", .noat "Words" "number", .glo "Words", .glo "NoText", .meth "NoText" "__init__", .glo "KEYWORDS", .glo "end_of_run", .glo "end_of_word", .glo "kind_of", .glo "blanks_of", .glo "words_of", .free "isinstance", .free "str", .free "list", .glo "is_name", .glo "kind_of_whole", .glo "PARTED", .glo "quick_words", .meth "Words" "take", .meth "Words" "ahead", .meth "Words" "take_if", .free "int", .glo "SUMS", .glo "COMPARED", .glo "read_part", .glo "rest_of_term", .glo "read_term", .glo "rest_of_comparison", .glo "read_either_kind", .glo "read_bracket", .glo "read_one", .glo "rest_of_both", .glo "rest_of_guard", .glo "read_guard", .glo "read_deed", .glo "read_deeds", .glo "read_goals", .glo "read_when", .glo "read_move", .glo "read_signed", .glo "read_fact", .free "tuple", .cls "Draft", .noat "Draft" "name", .noat "Draft" "kind", .noat "Draft" "number", .noat "Draft" "into", .noat "Draft" "out", .noat "Draft" "moves", .noat "Draft" "move_numbers", .noat "Draft" "drafts", .noat "Draft" "passed", .glo "Draft", .glo "SORTS", .glo "FULL_SORTS", .glo "MARKER_SORTS", .glo "INNER_WORDS", .cls "Sheet", .noat "Sheet" "facts", .noat "Sheet" "happenings", .noat "Sheet" "root", .noat "Sheet" "opened", .noat "Sheet" "known", .glo "Sheet", .meth "Draft" "next_words", .mkr "Draft", .mkr "Words", .meth "Sheet" "read_head", .meth "Draft" "read_inner", .glo "known_words", .mkr "Sheet", .glo "is_passed", .meth "Sheet" "read_row", .free "enumerate", .meth "Draft" "finished", .glo "read_sheet", .meth "Sheet" "chart", .exm "NoText" "NoText" true, .glo "read_chart"]
def fnR : List He.DefD := [d_is_name, d_end_of_run, d_end_of_word, d_kind_of, d_blanks_of, d_is_passed, d_words_of, d_known_words, d_kind_of_whole, d_quick_words, d_read_part, d_rest_of_term, d_read_term, d_rest_of_comparison, d_read_either_kind, d_read_bracket, d_read_one, d_rest_of_both, d_rest_of_guard, d_read_guard, d_read_deed, d_read_deeds, d_read_goals, d_read_when, d_read_move, d_read_signed, d_read_fact, d_read_sheet, d_read_chart, d_Words___init__, d_Words_ahead, d_Words_take, d_Words_take_if, d_Draft___init__, d_Draft_next_words, d_Draft_read_inner, d_Draft_finished, d_Sheet___init__, d_Sheet_chart, d_Sheet_read_head, d_Sheet_read_row, d_NT]
def tsR : List He.Tab := [(fun K => He.ga K "KEYWORDS", KEYS), (fun K => He.ga K "SUMS", ["+", "-"]), (fun K => He.ga K "COMPARED", ["<", "="])]
def csR : List (PySem.W.Frag → Bool) := [fun K => He.tupB K "SORTS" (SORTSs.map He.Dv.str), fun K => He.tupB K "FULL_SORTS" (FULL.map He.Dv.str), fun K => He.tupB K "MARKER_SORTS" (MARKER.map He.Dv.str), fun K => He.tupB K "INNER_WORDS" (INNER.map He.Dv.str), fun K => bmB K "Words" "take", fun K => fldB K (He.ga K "NoText") ["row", "column"], fun K => excB K (He.ga K "NoText"), fun K => He.valsB K (He.ga K "SUMS") [("+", .str "sum"), ("-", .str "less")], fun K => He.valsB K (He.ga K "COMPARED") [("<", .str "below"), ("=", .str "same")], fun K => decide (PySem.W.typeIn K (.ref (He.ma K (He.ga K "NoText") "__init__")) = some (.type "function")), fun K => topTabB K (He.ga K "PARTED") PART]
theorem cs_of {K : PySem.W.Frag} (cc : (csR.all fun f => f K) = true) (i : Nat) {f : PySem.W.Frag → Bool} (h : csR[i]? = some f) : f K = true := List.all_eq_true.mp cc f (List.mem_of_getElem? h)
theorem tab_of {w : World} {K : PySem.W.Frag} (c : He.SaysT faR fnR tsR w K) (i : Nat) {t : He.Tab} (h : tsR[i]? = some t) : He.dicW K (t.1 K) = some (He.keysIn w.params t.2) := by
  have e : tsR.map (fun t => He.dicW K (t.1 K)) = tsR.map fun t => some (He.keysIn w.params t.2) := congrArg (fun z : He.AlT => z.2) c
  have e2 : (tsR.map fun t => He.dicW K (t.1 K))[i]? = (tsR.map fun t => some (He.keysIn w.params t.2))[i]? := by rw [e]
  rw [List.getElem?_map, List.getElem?_map, h] at e2
  exact Option.some.inj e2
section
variable {P : Program} {w : World} {K : PySem.W.Frag} {mg : Str → Option Value} {base h : Heap}
theorem ktup_of (X : K.In h) (G : h.Ns mainGlobals mg) {x : Str} {l : List Str} (c : (He.Fa.glo x).ok K = true) (t : He.tupB K x (l.map He.Dv.str) = true) : KTup K mg x (l.map V.str) := by
  refine ⟨_, He.glo_ok X G c, fun H => ?_⟩
  have := He.tupB_ok t H
  rw [List.map_map] at this
  exact this
theorem kset_of (X : K.In h) (G : h.Ns mainGlobals mg) {x : Str} {l : List Str} (c : (He.Fa.glo x).ok K = true) (d : He.dicW K (He.ga K x) = some (He.keysIn w.params l)) : KSet K w mg x (l.map V.str) := by
  obtain ⟨es, n, D⟩ := He.dicW_ok d
  refine ⟨_, es, n, He.glo_ok X G c, D, fun z => ?_⟩
  rw [inV_strs]
  exact ns_all d z
theorem strV_of {K : PySem.W.Frag} {a : Addr} {z y : Str} {kvs : List (Str × He.Dv)} (v : He.valsB K a kvs = true) (hm : (z, He.Dv.str y) ∈ kvs) {r : Option Value} (hr : PySem.W.nsIn K a z = some r) : ∃ t, r = some (.str y t) := by
  obtain ⟨u, h1, h2⟩ := He.valsB_ok v hm
  rw [hr] at h1
  obtain rfl := Option.some.inj h1
  obtain ⟨t, rfl⟩ : ∃ t, u = .str y t := h2
  exact ⟨t, rfl⟩
theorem kdS_of {a : Addr} (d : He.dicW K a = some (He.keysIn w.params ["+", "-"])) (v : He.valsB K a [("+", .str "sum"), ("-", .str "less")] = true) : KD2 K w a sumsOf := by
  refine ⟨He.dicW_ok d, fun z => ?_⟩
  obtain ⟨r, h1, h2⟩ := ns_all d z
  refine ⟨r, h1, ?_, fun y hy => ?_⟩
  · rw [h2]
    unfold sumsOf
    by_cases a1 : z = "+"
    · subst a1
      rfl
    · by_cases a2 : z = "-"
      · subst a2
        rfl
      · simp [a1, a2]
  · unfold sumsOf at hy
    split at hy
    · rename_i e
      subst e
      obtain rfl := Option.some.inj hy
      exact strV_of v (by simp) h1
    · split at hy
      · rename_i e
        subst e
        obtain rfl := Option.some.inj hy
        exact strV_of v (by simp) h1
      · cases hy
theorem kdC_of {a : Addr} (d : He.dicW K a = some (He.keysIn w.params ["<", "="])) (v : He.valsB K a [("<", .str "below"), ("=", .str "same")] = true) : KD2 K w a compsOf := by
  refine ⟨He.dicW_ok d, fun z => ?_⟩
  obtain ⟨r, h1, h2⟩ := ns_all d z
  refine ⟨r, h1, ?_, fun y hy => ?_⟩
  · rw [h2]
    unfold compsOf
    by_cases a1 : z = "<"
    · subst a1
      rfl
    · by_cases a2 : z = "="
      · subst a2
        rfl
      · simp [a1, a2]
  · unfold compsOf at hy
    split at hy
    · rename_i e
      subst e
      obtain rfl := Option.some.inj hy
      exact strV_of v (by simp) h1
    · split at hy
      · rename_i e
        subst e
        obtain rfl := Option.some.inj hy
        exact strV_of v (by simp) h1
      · cases hy
end
set_option maxHeartbeats 0 in
/-- read_chart, by what the top has made -/
theorem reader {P : Program} {w : World} {K : PySem.W.Frag} {mg : Str → Option Value} {base h : Heap} (n m : Nat) (hm : m ≤ 11 + 4 * n) (X : K.In h) (G : h.Ns mainGlobals mg) (c : He.SaysT faR fnR tsR w K) (cc : (csR.all fun f => f K) = true) :
    ∃ (C : Cn P w K mg base) (_ : Gn K mg), PySem.W.exmOne K (.ref C.N) (.ref C.N) = some true ∧ XAt K C.N "row" ∧ XAt K C.N "column" ∧ ∃ fdR, FnOk P w K mg base (L2.CX P w) ((((10 + 4 * n) + 1) + 1) + 1) (He.ga K "read_chart") fdR ["text"] (spRead C n m) ∧ Binds K fdR ["text"] [] ∧ PySem.W.keepIn K (.ref (He.ga K "read_chart")) = true ∧ mg "read_chart" = some (.ref (He.ga K "read_chart")) ∧ KBn K fdR ["text"] 0 ["text"] (fun us ws => us ++ ws) (fun vs zs => vs ++ zs) := by
  obtain ⟨fd_is_name, FD_is_name⟩ := c.d.def_ 0 (d := d_is_name) rfl
  have F_is_name := fun_of (st := sIsName) FD_is_name
  have B_is_name := F_is_name.binds (ps := ["thing"]) fun _ _ _ _ _ _ us hl => match us, hl with | [_], _ => rfl
  obtain ⟨fd_end_of_run, FD_end_of_run⟩ := c.d.def_ 1 (d := d_end_of_run) rfl
  have F_end_of_run := fun_of (st := sRun) FD_end_of_run
  have B_end_of_run := F_end_of_run.binds (ps := ["row", "at", "signs", "most"]) fun _ _ _ _ _ _ us hl => match us, hl with | [_, _, _, _], _ => rfl
  obtain ⟨fd_end_of_word, FD_end_of_word⟩ := c.d.def_ 2 (d := d_end_of_word) rfl
  have F_end_of_word := fun_of (st := sWord) FD_end_of_word
  have B_end_of_word := F_end_of_word.binds (ps := ["row", "at"]) fun _ _ _ _ _ _ us hl => match us, hl with | [_, _], _ => rfl
  obtain ⟨fd_kind_of, FD_kind_of⟩ := c.d.def_ 3 (d := d_kind_of) rfl
  have F_kind_of := fun_of (st := sKind) FD_kind_of
  have B_kind_of := F_kind_of.binds (ps := ["word"]) fun _ _ _ _ _ _ us hl => match us, hl with | [_], _ => rfl
  obtain ⟨fd_blanks_of, FD_blanks_of⟩ := c.d.def_ 4 (d := d_blanks_of) rfl
  have F_blanks_of := fun_of (st := sBlanks) FD_blanks_of
  have B_blanks_of := F_blanks_of.binds (ps := ["row"]) fun _ _ _ _ _ _ us hl => match us, hl with | [_], _ => rfl
  obtain ⟨fd_is_passed, FD_is_passed⟩ := c.d.def_ 5 (d := d_is_passed) rfl
  have F_is_passed := fun_of (st := sPassed) FD_is_passed
  have B_is_passed := F_is_passed.binds (ps := ["row"]) fun _ _ _ _ _ _ us hl => match us, hl with | [_], _ => rfl
  obtain ⟨fd_words_of, FD_words_of⟩ := c.d.def_ 6 (d := d_words_of) rfl
  have F_words_of := fun_of (st := sWordsOf) FD_words_of
  have B_words_of := F_words_of.binds (ps := ["row"]) fun _ _ _ _ _ _ us hl => match us, hl with | [_], _ => rfl
  obtain ⟨fd_known_words, FD_known_words⟩ := c.d.def_ 7 (d := d_known_words) rfl
  have F_known_words := fun_of (st := sKnownW) FD_known_words
  have B_known_words := F_known_words.binds (ps := []) fun _ _ _ _ _ _ us hl => match us, hl with | [], _ => rfl
  obtain ⟨fd_kind_of_whole, FD_kind_of_whole⟩ := c.d.def_ 8 (d := d_kind_of_whole) rfl
  have F_kind_of_whole := fun_of (st := sWhole) FD_kind_of_whole
  have B_kind_of_whole := F_kind_of_whole.binds (ps := ["text"]) fun _ _ _ _ _ _ us hl => match us, hl with | [_], _ => rfl
  obtain ⟨fd_quick_words, FD_quick_words⟩ := c.d.def_ 9 (d := d_quick_words) rfl
  have F_quick_words := fun_of (st := sQuick) FD_quick_words
  have B_quick_words := F_quick_words.binds (ps := ["row", "known"]) fun _ _ _ _ _ _ us hl => match us, hl with | [_, _], _ => rfl
  obtain ⟨fd_read_part, FD_read_part⟩ := c.d.def_ 10 (d := d_read_part) rfl
  have F_read_part := fun_of (st := sPart) FD_read_part
  have B_read_part := F_read_part.binds (ps := ["words"]) fun _ _ _ _ _ _ us hl => match us, hl with | [_], _ => rfl
  obtain ⟨fd_rest_of_term, FD_rest_of_term⟩ := c.d.def_ 11 (d := d_rest_of_term) rfl
  have F_rest_of_term := fun_of (st := sRest) FD_rest_of_term
  have B_rest_of_term := F_rest_of_term.binds (ps := ["words", "term"]) fun _ _ _ _ _ _ us hl => match us, hl with | [_, _], _ => rfl
  obtain ⟨fd_read_term, FD_read_term⟩ := c.d.def_ 12 (d := d_read_term) rfl
  have F_read_term := fun_of (st := sTerm) FD_read_term
  have B_read_term := F_read_term.binds (ps := ["words"]) fun _ _ _ _ _ _ us hl => match us, hl with | [_], _ => rfl
  obtain ⟨fd_rest_of_comparison, FD_rest_of_comparison⟩ := c.d.def_ 13 (d := d_rest_of_comparison) rfl
  have F_rest_of_comparison := fun_of (st := sComp) FD_rest_of_comparison
  have B_rest_of_comparison := F_rest_of_comparison.binds (ps := ["words", "term"]) fun _ _ _ _ _ _ us hl => match us, hl with | [_, _], _ => rfl
  obtain ⟨fd_read_either_kind, FD_read_either_kind⟩ := c.d.def_ 14 (d := d_read_either_kind) rfl
  have F_read_either_kind := fun_of (st := sEither) FD_read_either_kind
  have B_read_either_kind := F_read_either_kind.binds (ps := ["words"]) fun _ _ _ _ _ _ us hl => match us, hl with | [_], _ => rfl
  obtain ⟨fd_read_bracket, FD_read_bracket⟩ := c.d.def_ 15 (d := d_read_bracket) rfl
  have F_read_bracket := fun_of (st := sBracket) FD_read_bracket
  have B_read_bracket := F_read_bracket.binds (ps := ["words"]) fun _ _ _ _ _ _ us hl => match us, hl with | [_], _ => rfl
  obtain ⟨fd_read_one, FD_read_one⟩ := c.d.def_ 16 (d := d_read_one) rfl
  have F_read_one := fun_of (st := sOne) FD_read_one
  have B_read_one := F_read_one.binds (ps := ["words"]) fun _ _ _ _ _ _ us hl => match us, hl with | [_], _ => rfl
  obtain ⟨fd_rest_of_both, FD_rest_of_both⟩ := c.d.def_ 17 (d := d_rest_of_both) rfl
  have F_rest_of_both := fun_of (st := sBoth) FD_rest_of_both
  have B_rest_of_both := F_rest_of_both.binds (ps := ["words", "guard"]) fun _ _ _ _ _ _ us hl => match us, hl with | [_, _], _ => rfl
  obtain ⟨fd_rest_of_guard, FD_rest_of_guard⟩ := c.d.def_ 18 (d := d_rest_of_guard) rfl
  have F_rest_of_guard := fun_of (st := sRGuard) FD_rest_of_guard
  have B_rest_of_guard := F_rest_of_guard.binds (ps := ["words", "guard"]) fun _ _ _ _ _ _ us hl => match us, hl with | [_, _], _ => rfl
  obtain ⟨fd_read_guard, FD_read_guard⟩ := c.d.def_ 19 (d := d_read_guard) rfl
  have F_read_guard := fun_of (st := sGuard) FD_read_guard
  have B_read_guard := F_read_guard.binds (ps := ["words"]) fun _ _ _ _ _ _ us hl => match us, hl with | [_], _ => rfl
  obtain ⟨fd_read_deed, FD_read_deed⟩ := c.d.def_ 20 (d := d_read_deed) rfl
  have F_read_deed := fun_of (st := sDeed) FD_read_deed
  have B_read_deed := F_read_deed.binds (ps := ["words"]) fun _ _ _ _ _ _ us hl => match us, hl with | [_], _ => rfl
  obtain ⟨fd_read_deeds, FD_read_deeds⟩ := c.d.def_ 21 (d := d_read_deeds) rfl
  have F_read_deeds := fun_of (st := sDeeds) FD_read_deeds
  have B_read_deeds := F_read_deeds.binds (ps := ["words"]) fun _ _ _ _ _ _ us hl => match us, hl with | [_], _ => rfl
  obtain ⟨fd_read_goals, FD_read_goals⟩ := c.d.def_ 22 (d := d_read_goals) rfl
  have F_read_goals := fun_of (st := sGoals) FD_read_goals
  have B_read_goals := F_read_goals.binds (ps := ["words"]) fun _ _ _ _ _ _ us hl => match us, hl with | [_], _ => rfl
  obtain ⟨fd_read_when, FD_read_when⟩ := c.d.def_ 23 (d := d_read_when) rfl
  have F_read_when := fun_of (st := sWhen) FD_read_when
  have B_read_when := F_read_when.binds (ps := ["words"]) fun _ _ _ _ _ _ us hl => match us, hl with | [_], _ => rfl
  obtain ⟨fd_read_move, FD_read_move⟩ := c.d.def_ 24 (d := d_read_move) rfl
  have F_read_move := fun_of (st := sMove) FD_read_move
  have B_read_move := F_read_move.binds (ps := ["words"]) fun _ _ _ _ _ _ us hl => match us, hl with | [_], _ => rfl
  obtain ⟨fd_read_signed, FD_read_signed⟩ := c.d.def_ 25 (d := d_read_signed) rfl
  have F_read_signed := fun_of (st := sSigned) FD_read_signed
  have B_read_signed := F_read_signed.binds (ps := ["words"]) fun _ _ _ _ _ _ us hl => match us, hl with | [_], _ => rfl
  obtain ⟨fd_read_fact, FD_read_fact⟩ := c.d.def_ 26 (d := d_read_fact) rfl
  have F_read_fact := fun_of (st := sFact) FD_read_fact
  have B_read_fact := F_read_fact.binds (ps := ["words"]) fun _ _ _ _ _ _ us hl => match us, hl with | [_], _ => rfl
  obtain ⟨fd_read_sheet, FD_read_sheet⟩ := c.d.def_ 27 (d := d_read_sheet) rfl
  have F_read_sheet := fun_of (st := sSheet) FD_read_sheet
  have B_read_sheet := F_read_sheet.binds (ps := ["text"]) fun _ _ _ _ _ _ us hl => match us, hl with | [_], _ => rfl
  obtain ⟨fd_read_chart, FD_read_chart⟩ := c.d.def_ 28 (d := d_read_chart) rfl
  have F_read_chart := fun_of (st := sRead) FD_read_chart
  have B_read_chart := F_read_chart.binds (ps := ["text"]) fun _ _ _ _ _ _ us hl => match us, hl with | [_], _ => rfl
  obtain ⟨fd_Words___init__, FD_Words___init__⟩ := c.d.def_ 29 (d := d_Words___init__) rfl
  have F_Words___init__ := fun_of (st := sInit) FD_Words___init__
  have B_Words___init__ := F_Words___init__.binds (ps := ["self", "number", "row", "known"]) fun _ _ _ _ _ _ us hl => match us, hl with | [_, _, _, _], _ => rfl
  obtain ⟨fd_Words_ahead, FD_Words_ahead⟩ := c.d.def_ 30 (d := d_Words_ahead) rfl
  have F_Words_ahead := fun_of (st := sAhead) FD_Words_ahead
  have B_Words_ahead := F_Words_ahead.binds (ps := ["self"]) fun _ _ _ _ _ _ us hl => match us, hl with | [_], _ => rfl
  obtain ⟨fd_Words_take, FD_Words_take⟩ := c.d.def_ 31 (d := d_Words_take) rfl
  have F_Words_take := fun_of (st := sTake) FD_Words_take
  obtain ⟨fd_Words_take_if, FD_Words_take_if⟩ := c.d.def_ 32 (d := d_Words_take_if) rfl
  have F_Words_take_if := fun_of (st := sTakeIf) FD_Words_take_if
  have B_Words_take_if := F_Words_take_if.binds (ps := ["self", "kind"]) fun _ _ _ _ _ _ us hl => match us, hl with | [_, _], _ => rfl
  obtain ⟨fd_Draft___init__, FD_Draft___init__⟩ := c.d.def_ 33 (d := d_Draft___init__) rfl
  have F_Draft___init__ := fun_of (st := sDInit) FD_Draft___init__
  have B_Draft___init__ := F_Draft___init__.binds (ps := ["self", "name", "sort", "number"]) fun _ _ _ _ _ _ us hl => match us, hl with | [_, _, _, _], _ => rfl
  obtain ⟨fd_Draft_next_words, FD_Draft_next_words⟩ := c.d.def_ 34 (d := d_Draft_next_words) rfl
  have F_Draft_next_words := fun_of (st := sNext) FD_Draft_next_words
  have B_Draft_next_words := F_Draft_next_words.binds (ps := ["self"]) fun _ _ _ _ _ _ us hl => match us, hl with | [_], _ => rfl
  obtain ⟨fd_Draft_read_inner, FD_Draft_read_inner⟩ := c.d.def_ 35 (d := d_Draft_read_inner) rfl
  have F_Draft_read_inner := fun_of (st := sInner) FD_Draft_read_inner
  have B_Draft_read_inner := F_Draft_read_inner.binds (ps := ["self", "words"]) fun _ _ _ _ _ _ us hl => match us, hl with | [_, _], _ => rfl
  obtain ⟨fd_Draft_finished, FD_Draft_finished⟩ := c.d.def_ 36 (d := d_Draft_finished) rfl
  have F_Draft_finished := fun_of (st := sFin) FD_Draft_finished
  have B_Draft_finished := F_Draft_finished.binds (ps := ["self"]) fun _ _ _ _ _ _ us hl => match us, hl with | [_], _ => rfl
  obtain ⟨fd_Sheet___init__, FD_Sheet___init__⟩ := c.d.def_ 37 (d := d_Sheet___init__) rfl
  have F_Sheet___init__ := fun_of (st := sSInit) FD_Sheet___init__
  have B_Sheet___init__ := F_Sheet___init__.binds (ps := ["self"]) fun _ _ _ _ _ _ us hl => match us, hl with | [_], _ => rfl
  obtain ⟨fd_Sheet_chart, FD_Sheet_chart⟩ := c.d.def_ 38 (d := d_Sheet_chart) rfl
  have F_Sheet_chart := fun_of (st := sChart) FD_Sheet_chart
  have B_Sheet_chart := F_Sheet_chart.binds (ps := ["self"]) fun _ _ _ _ _ _ us hl => match us, hl with | [_], _ => rfl
  obtain ⟨fd_Sheet_read_head, FD_Sheet_read_head⟩ := c.d.def_ 39 (d := d_Sheet_read_head) rfl
  have F_Sheet_read_head := fun_of (st := sHead) FD_Sheet_read_head
  have B_Sheet_read_head := F_Sheet_read_head.binds (ps := ["self", "words"]) fun _ _ _ _ _ _ us hl => match us, hl with | [_, _], _ => rfl
  obtain ⟨fd_Sheet_read_row, FD_Sheet_read_row⟩ := c.d.def_ 40 (d := d_Sheet_read_row) rfl
  have F_Sheet_read_row := fun_of (st := sRow) FD_Sheet_read_row
  have B_Sheet_read_row := F_Sheet_read_row.binds (ps := ["self", "number", "row"]) fun _ _ _ _ _ _ us hl => match us, hl with | [_, _, _], _ => rfl
  obtain ⟨fd_NT, FD_NT⟩ := c.d.def_ 41 (d := d_NT) rfl
  have Gm : Gn K mg := ⟨(He.free_ok X G (c.d.fact 0 (f := .free "len") rfl)), (He.str_ok X G (c.d.fact 1 (f := .str "LETTERS" "abcdefghijklmnopqrstuvwxyz") rfl)), (He.str_ok X G (c.d.fact 2 (f := .str "FIGURES" "0123456789") rfl)), (He.str_ok X G (c.d.fact 3 (f := .str "MARKS" "()+-<=,") rfl)), (He.int_ok X G (c.d.fact 4 (f := .int "MOST_SIGNS" 8) rfl)), (He.int_ok X G (c.d.fact 5 (f := .int "MOST_FIGURES" 9) rfl)), (He.str_ok X G (c.d.fact 6 (f := .str "NAME" "a name") rfl)), (He.str_ok X G (c.d.fact 7 (f := .str "NUMBER" "a number") rfl)), (He.str_ok X G (c.d.fact 8 (f := .str "NO_WORD" "no word") rfl)), (He.str_ok X G (c.d.fact 9 (f := .str "ROW_END" "the row's end") rfl))⟩
  have c5 := (show fldB K (He.ga K "NoText") ["row", "column"] = true from cs_of cc 5 rfl)
  have c6 := (show excB K (He.ga K "NoText") = true from cs_of cc 6 rfl)
  let C : Cn P w K mg base := { W := He.ga K "Words", N := He.ga K "NoText", cl := (He.cls_ok (c.d.fact 10 (f := .cls "Words") rfl)), na := (He.noat_ok (c.d.fact 11 (f := .noat "Words" "at") rfl)), nk := (He.noat_ok (c.d.fact 12 (f := .noat "Words" "kinds") rfl)), nt := (He.noat_ok (c.d.fact 13 (f := .noat "Words" "texts") rfl)), nr := (He.noat_ok (c.d.fact 14 (f := .noat "Words" "row") rfl)), nn := (He.noat_ok (c.d.fact 15 (f := .noat "Words" "number") rfl)), mgW := (He.glo_ok X G (c.d.fact 16 (f := .glo "Words") rfl)), T := oexC_of c5 c6, fR := no_of c5 (by decide), fC := no_of c5 (by decide), mgN := (He.glo_ok X G (c.d.fact 17 (f := .glo "NoText") rfl)), nI := He.ma K (He.ga K "NoText") "__init__", nfd := fd_NT, iC := (He.meth_ok (c.d.fact 18 (f := .meth "NoText" "__init__") rfl)).at_, tI := of_decide_eq_true (cs_of (f := fun K => decide (PySem.W.typeIn K (.ref (He.ma K (He.ga K "NoText") "__init__")) = some (.type "function"))) cc 9 rfl), nF := okNT FD_NT, nB := bNT FD_NT }
  have GBl := ok_blanks (P := P) (w := w) (base := base) F_blanks_of Gm
  have GK := ok_kind (P := P) (w := w) (base := base) F_kind_of Gm (kset_of X G (c.d.fact 19 (f := .glo "KEYWORDS") rfl) (tab_of c 0 rfl))
  have GWd := ok_word (P := P) (w := w) (base := base) F_end_of_word F_end_of_run B_end_of_run (He.glo_ok X G (c.d.fact 20 (f := .glo "end_of_run") rfl)) Gm
  have GWs := ok_wordsOf (P := P) (w := w) (base := base) F_words_of GWd B_end_of_word F_end_of_word.kp (He.glo_ok X G (c.d.fact 21 (f := .glo "end_of_word") rfl)) GK B_kind_of F_kind_of.kp (He.glo_ok X G (c.d.fact 22 (f := .glo "kind_of") rfl)) GBl B_blanks_of F_blanks_of.kp (He.glo_ok X G (c.d.fact 23 (f := .glo "blanks_of") rfl)) Gm
  let O : Wo P w K mg base := ⟨_, fd_words_of, GWs, B_words_of, F_words_of.kp, (He.glo_ok X G (c.d.fact 24 (f := .glo "words_of") rfl))⟩
  have Gz : Gq K w mg := ⟨(He.free_ok X G (c.d.fact 25 (f := .free "isinstance") rfl)), (He.free_ok X G (c.d.fact 26 (f := .free "str") rfl)), (He.free_ok X G (c.d.fact 27 (f := .free "list") rfl)), _, (He.glo_ok X G (c.d.fact 19 (f := .glo "KEYWORDS") rfl)), topKeys_of (tab_of c 0 rfl)⟩
  have GIsN := ok_isName (P := P) (base := base) F_is_name Gm Gz (kset_of X G (c.d.fact 19 (f := .glo "KEYWORDS") rfl) (tab_of c 0 rfl))
  have GWhole := ok_whole (P := P) (w := w) (base := base) F_kind_of_whole GIsN B_is_name F_is_name.kp (He.glo_ok X G (c.d.fact 28 (f := .glo "is_name") rfl)) Gm
  have GKnown := ok_known (P := P) (w := w) (base := base) F_known_words Gm Gz
  have GQuick := ok_quick (P := P) (w := w) (base := base) F_quick_words GWhole B_kind_of_whole F_kind_of_whole.kp (He.glo_ok X G (c.d.fact 29 (f := .glo "kind_of_whole") rfl)) Gm (He.glo_ok X G (c.d.fact 30 (f := .glo "PARTED") rfl)) (topTab_of (cs_of (f := fun K => topTabB K (He.ga K "PARTED") PART) cc 10 rfl))
  have GInit := ok_init C O F_Words___init__ GQuick B_quick_words F_quick_words.kp (He.glo_ok X G (c.d.fact 31 (f := .glo "quick_words") rfl))
  have GAhead := ok_ahead C F_Words_ahead
  let T : Tl C := { aT := _, FT := ok_take C O F_Words_take, mT := (He.meth_ok (c.d.fact 32 (f := .meth "Words" "take") rfl)), aA := _, fdA := fd_Words_ahead, GA := GAhead, bA := B_Words_ahead, mA := (He.meth_ok (c.d.fact 33 (f := .meth "Words" "ahead") rfl)), aI := _, fdI := fd_Words_take_if, GI := ok_takeIf C F_Words_take_if, bI := B_Words_take_if, mI := (He.meth_ok (c.d.fact 34 (f := .meth "Words" "take_if") rfl)), gN := (He.str_ok X G (c.d.fact 7 (f := .str "NUMBER" "a number") rfl)), gA := (He.str_ok X G (c.d.fact 6 (f := .str "NAME" "a name") rfl)), gI := (He.free_ok X G (c.d.fact 35 (f := .free "int") rfl)), aS := He.ga K "SUMS", gS := (He.glo_ok X G (c.d.fact 36 (f := .glo "SUMS") rfl)), dS := kdS_of (tab_of c 1 rfl) (cs_of (f := fun K => He.valsB K (He.ga K "SUMS") [("+", .str "sum"), ("-", .str "less")]) cc 7 rfl), aC := He.ga K "COMPARED", gC := (He.glo_ok X G (c.d.fact 37 (f := .glo "COMPARED") rfl)), dC := kdC_of (tab_of c 2 rfl) (cs_of (f := fun K => He.valsB K (He.ga K "COMPARED") [("<", .str "below"), ("=", .str "same")]) cc 8 rfl) }
  let Gr : Gd K mg := ⟨⟨He.ga K "read_part", fd_read_part, F_read_part, (He.glo_ok X G (c.d.fact 38 (f := .glo "read_part") rfl)), B_read_part⟩, ⟨He.ga K "rest_of_term", fd_rest_of_term, F_rest_of_term, (He.glo_ok X G (c.d.fact 39 (f := .glo "rest_of_term") rfl)), B_rest_of_term⟩, ⟨He.ga K "read_term", fd_read_term, F_read_term, (He.glo_ok X G (c.d.fact 40 (f := .glo "read_term") rfl)), B_read_term⟩, ⟨He.ga K "rest_of_comparison", fd_rest_of_comparison, F_rest_of_comparison, (He.glo_ok X G (c.d.fact 41 (f := .glo "rest_of_comparison") rfl)), B_rest_of_comparison⟩, ⟨He.ga K "read_either_kind", fd_read_either_kind, F_read_either_kind, (He.glo_ok X G (c.d.fact 42 (f := .glo "read_either_kind") rfl)), B_read_either_kind⟩, ⟨He.ga K "read_bracket", fd_read_bracket, F_read_bracket, (He.glo_ok X G (c.d.fact 43 (f := .glo "read_bracket") rfl)), B_read_bracket⟩, ⟨He.ga K "read_one", fd_read_one, F_read_one, (He.glo_ok X G (c.d.fact 44 (f := .glo "read_one") rfl)), B_read_one⟩, ⟨He.ga K "rest_of_both", fd_rest_of_both, F_rest_of_both, (He.glo_ok X G (c.d.fact 45 (f := .glo "rest_of_both") rfl)), B_rest_of_both⟩, ⟨He.ga K "rest_of_guard", fd_rest_of_guard, F_rest_of_guard, (He.glo_ok X G (c.d.fact 46 (f := .glo "rest_of_guard") rfl)), B_rest_of_guard⟩, ⟨He.ga K "read_guard", fd_read_guard, F_read_guard, (He.glo_ok X G (c.d.fact 47 (f := .glo "read_guard") rfl)), B_read_guard⟩, ⟨He.ga K "read_deed", fd_read_deed, F_read_deed, (He.glo_ok X G (c.d.fact 48 (f := .glo "read_deed") rfl)), B_read_deed⟩, ⟨He.ga K "read_deeds", fd_read_deeds, F_read_deeds, (He.glo_ok X G (c.d.fact 49 (f := .glo "read_deeds") rfl)), B_read_deeds⟩, ⟨He.ga K "read_goals", fd_read_goals, F_read_goals, (He.glo_ok X G (c.d.fact 50 (f := .glo "read_goals") rfl)), B_read_goals⟩, ⟨He.ga K "read_when", fd_read_when, F_read_when, (He.glo_ok X G (c.d.fact 51 (f := .glo "read_when") rfl)), B_read_when⟩, ⟨He.ga K "read_move", fd_read_move, F_read_move, (He.glo_ok X G (c.d.fact 52 (f := .glo "read_move") rfl)), B_read_move⟩, ⟨He.ga K "read_signed", fd_read_signed, F_read_signed, (He.glo_ok X G (c.d.fact 53 (f := .glo "read_signed") rfl)), B_read_signed⟩, ⟨He.ga K "read_fact", fd_read_fact, F_read_fact, (He.glo_ok X G (c.d.fact 54 (f := .glo "read_fact") rfl)), B_read_fact⟩, (He.free_ok X G (c.d.fact 55 (f := .free "tuple") rfl))⟩
  let Dk : Dc K mg := ⟨He.ga K "Draft", (He.cls_ok (c.d.fact 56 (f := .cls "Draft") rfl)), (He.noat_ok (c.d.fact 57 (f := .noat "Draft" "name") rfl)), (He.noat_ok (c.d.fact 58 (f := .noat "Draft" "kind") rfl)), (He.noat_ok (c.d.fact 59 (f := .noat "Draft" "number") rfl)), (He.noat_ok (c.d.fact 60 (f := .noat "Draft" "into") rfl)), (He.noat_ok (c.d.fact 61 (f := .noat "Draft" "out") rfl)), (He.noat_ok (c.d.fact 62 (f := .noat "Draft" "moves") rfl)), (He.noat_ok (c.d.fact 63 (f := .noat "Draft" "move_numbers") rfl)), (He.noat_ok (c.d.fact 64 (f := .noat "Draft" "drafts") rfl)), (He.noat_ok (c.d.fact 65 (f := .noat "Draft" "passed") rfl)), (He.glo_ok X G (c.d.fact 66 (f := .glo "Draft") rfl)), ktup_of X G (c.d.fact 67 (f := .glo "SORTS") rfl) (cs_of (f := fun K => He.tupB K "SORTS" (SORTSs.map He.Dv.str)) cc 0 rfl), ktup_of X G (c.d.fact 68 (f := .glo "FULL_SORTS") rfl) (cs_of (f := fun K => He.tupB K "FULL_SORTS" (FULL.map He.Dv.str)) cc 1 rfl), ktup_of X G (c.d.fact 69 (f := .glo "MARKER_SORTS") rfl) (cs_of (f := fun K => He.tupB K "MARKER_SORTS" (MARKER.map He.Dv.str)) cc 2 rfl), ktup_of X G (c.d.fact 70 (f := .glo "INNER_WORDS") rfl) (cs_of (f := fun K => He.tupB K "INNER_WORDS" (INNER.map He.Dv.str)) cc 3 rfl)⟩
  let Sk : Sc K mg := ⟨He.ga K "Sheet", (He.cls_ok (c.d.fact 71 (f := .cls "Sheet") rfl)), (He.noat_ok (c.d.fact 72 (f := .noat "Sheet" "facts") rfl)), (He.noat_ok (c.d.fact 73 (f := .noat "Sheet" "happenings") rfl)), (He.noat_ok (c.d.fact 74 (f := .noat "Sheet" "root") rfl)), (He.noat_ok (c.d.fact 75 (f := .noat "Sheet" "opened") rfl)), (He.noat_ok (c.d.fact 76 (f := .noat "Sheet" "known") rfl)), (He.glo_ok X G (c.d.fact 77 (f := .glo "Sheet") rfl)), 0⟩
  have bT : BMeth K C.W "take" T.aT := bm_of (cs_of (f := fun K => bmB K "Words" "take") cc 4 rfl) (He.meth_ok (c.d.fact 32 (f := .meth "Words" "take") rfl)) (by decide)
  let I : Ic Dk C T := ⟨_, fd_Draft_next_words, ok_next Dk F_Draft_next_words, B_Draft_next_words, (He.meth_ok (c.d.fact 78 (f := .meth "Draft" "next_words") rfl)), bT, _, fd_Draft___init__, ok_dinit Dk F_Draft___init__, B_Draft___init__, (He.mkr_ok (c.d.fact 79 (f := .mkr "Draft") rfl))⟩
  have GFact := ok_fact T Gr.fact Gr.signed (ok_signed T Gr.signed)
  have GHead := fun kb => ok_head (Sk.at kb) Dk T I Gr.fact GFact F_Sheet_read_head
  have GInner := ok_inner Dk Gm T I Gr n F_Draft_read_inner
  let R : Rw Sk Dk C n := ⟨_, fd_Words___init__, GInit, B_Words___init__, (He.mkr_ok (c.d.fact 80 (f := .mkr "Words") rfl)), _, fd_blanks_of, GBl, B_blanks_of, F_blanks_of.kp, (He.glo_ok X G (c.d.fact 23 (f := .glo "blanks_of") rfl)), _, fd_Sheet_read_head, GHead, B_Sheet_read_head, (He.meth_ok (c.d.fact 81 (f := .meth "Sheet" "read_head") rfl)), _, fd_Draft_read_inner, GInner, B_Draft_read_inner, (He.meth_ok (c.d.fact 82 (f := .meth "Draft" "read_inner") rfl))⟩
  have GRow := ok_row Sk Dk Gm T R F_Sheet_read_row
  let S : St' Sk Dk C n := ⟨_, fd_Sheet___init__, ok_sinit Sk F_Sheet___init__ GKnown B_known_words F_known_words.kp (He.glo_ok X G (c.d.fact 83 (f := .glo "known_words") rfl)), B_Sheet___init__, (He.mkr_ok (c.d.fact 84 (f := .mkr "Sheet") rfl)), _, fd_is_passed, ok_passed F_is_passed, B_is_passed, F_is_passed.kp, (He.glo_ok X G (c.d.fact 85 (f := .glo "is_passed") rfl)), _, fd_Sheet_read_row, GRow, B_Sheet_read_row, (He.meth_ok (c.d.fact 86 (f := .meth "Sheet" "read_row") rfl)), (He.free_ok X G (c.d.fact 87 (f := .free "enumerate") rfl))⟩
  have GSheet := ok_sheet Sk Dk Gm S F_read_sheet
  have GFin := ok_fin (P := P) (w := w) (base := base) Dk F_Draft_finished B_Draft_finished (He.meth_ok (c.d.fact 88 (f := .meth "Draft" "finished") rfl)) (He.free_ok X G (c.d.fact 55 (f := .free "tuple") rfl)) m
  have GChart := (ok_chart Sk Dk F_Sheet_chart GFin B_Draft_finished (He.meth_ok (c.d.fact 88 (f := .meth "Draft" "finished") rfl)) (He.free_ok X G (c.d.fact 55 (f := .free "tuple") rfl))).mono (show m + 1 ≤ ((10 + 4 * n) + 1) + 1 by omega)
  have GRead := ok_read Sk Dk ⟨He.ga K "read_sheet", fd_read_sheet, F_read_sheet, (He.glo_ok X G (c.d.fact 89 (f := .glo "read_sheet") rfl)), B_read_sheet⟩ GSheet GChart B_Sheet_chart (He.meth_ok (c.d.fact 90 (f := .meth "Sheet" "chart") rfl)) F_read_chart
  exact ⟨C, Gm, He.exm_ok (c.d.fact 91 (f := .exm "NoText" "NoText" true) rfl), xAt_of c5 c6 (by decide), xAt_of c5 c6 (by decide), fd_read_chart, GRead, B_read_chart, F_read_chart.kp, (He.glo_ok X G (c.d.fact 92 (f := .glo "read_chart") rfl)), F_read_chart.byName fun _ _ _ _ _ _ _ => rfl⟩
end Prs
set_option Elab.async false
set_option linter.all false
set_option maxRecDepth 100000
set_option maxHeartbeats 8000000
namespace Prs
open PySem PySem.Spec PyProof.Rows L2 Evl
def dl_at : He.DefD := ⟨("_law_at", none), "_law_at", "_law_at", defArgs lAt, defBody lAt, defScope lAt, [], []⟩
def dl_mixed : He.DefD := ⟨("_law_mixed", none), "_law_mixed", "_law_mixed", defArgs lMixed, defBody lMixed, defScope lMixed, [], []⟩
def dl_purse : He.DefD := ⟨("_law_purse", none), "_law_purse", "_law_purse", defArgs lPurse, defBody lPurse, defScope lPurse, [], []⟩
def dl_take : He.DefD := ⟨("_law_take", none), "_law_take", "_law_take", defArgs lTake, defBody lTake, defScope lTake, [], []⟩
def dl_pick : He.DefD := ⟨("_law_pick", none), "_law_pick", "_law_pick", defArgs lPick, defBody lPick, defScope lPick, [], []⟩
def dl_good : He.DefD := ⟨("_law_good", none), "_law_good", "_law_good", defArgs lGood, defBody lGood, defScope lGood, [], []⟩
def dl_bad : He.DefD := ⟨("_law_bad", none), "_law_bad", "_law_bad", defArgs lBad, defBody lBad, defScope lBad, [], []⟩
def dl_rowof : He.DefD := ⟨("_law_row_of", none), "_law_row_of", "_law_row_of", defArgs lRowOf, defBody lRowOf, defScope lRowOf, [], []⟩
def dl_law : He.DefD := ⟨("law", none), "law", "law", defArgs lLaw, defBody lLaw, defScope lLaw, [], []⟩
def faL : List He.Fa := [.glo "_law_at", .glo "_law_mixed", .glo "_law_purse", .glo "_law_take", .glo "_law_pick", .glo "_law_good", .glo "_law_bad", .glo "_law_row_of", .glo "law", .free "range", .free "min", .free "int"]
def fnL : List He.DefD := [dl_at, dl_mixed, dl_purse, dl_take, dl_pick, dl_good, dl_bad, dl_rowof, dl_law]
set_option maxHeartbeats 0 in
theorem law_all {l : PySem.W.OpenLaw} {w : World} {K : PySem.W.Frag} {h : Heap} {mg : Str → Option Value} {fa : Addr} (X : K.In h) (G : h.Ns mainGlobals mg) (hfa : mg "law" = some (.ref fa)) (c : He.SaysT faR fnR tsR w K) (cc : (csR.all fun f => f K) = true) (cl : He.SaysD faL fnL K) :
    ∃ fd : FuncData, (∀ (s : Shared) (v : Value), BindsTo s fd ⟨[v], []⟩ [("_law_script", v)]) ∧ ∀ base : Heap, K.In base → base.Ns mainGlobals mg → FnOk l.prog w K mg base CX0 62 fa fd ["_law_script"] (spLaw K) := by
  obtain ⟨f0, F0⟩ := cl.def_ 0 (d := dl_at) rfl
  obtain ⟨f1, F1⟩ := cl.def_ 1 (d := dl_mixed) rfl
  obtain ⟨f2, F2⟩ := cl.def_ 2 (d := dl_purse) rfl
  obtain ⟨f3, F3⟩ := cl.def_ 3 (d := dl_take) rfl
  obtain ⟨f4, F4⟩ := cl.def_ 4 (d := dl_pick) rfl
  obtain ⟨f5, F5⟩ := cl.def_ 5 (d := dl_good) rfl
  obtain ⟨f6, F6⟩ := cl.def_ 6 (d := dl_bad) rfl
  obtain ⟨f7, F7⟩ := cl.def_ 7 (d := dl_rowof) rfl
  obtain ⟨f8, F8⟩ := cl.def_ 8 (d := dl_law) rfl
  have g := fun (i : Nat) (x : Str) (e : faL[i]? = some (.glo x)) => He.glo_ok X G (cl.fact i e)
  have e := hfa.symm.trans (g 8 "law" rfl)
  cases e
  have b := FunD.bindsA (ps := ["_law_script"]) F8 fun _ _ _ _ _ _ us hl => match us, hl with | [_], _ => rfl
  refine ⟨f8, fun s v => b s [v] rfl, fun base _ _ => ?_⟩
  obtain ⟨C, Gm, xe, XR, XC, fdR, GR, bR, kR, mR, _⟩ := reader (P := l.prog) (w := w) (base := base) 12 12 (by decide) X G c cc
  have F0' := fun_of (st := lAt) F0
  have F1' := fun_of (st := lMixed) F1
  have F2' := fun_of (st := lPurse) F2
  have F3' := fun_of (st := lTake) F3
  have F4' := fun_of (st := lPick) F4
  have F5' := fun_of (st := lGood) F5
  have F6' := fun_of (st := lBad) F6
  have F7' := fun_of (st := lRowOf) F7
  have F8' := fun_of (st := lLaw) F8
  exact ok_law (kR := 61) (by decide) F8' Gm (He.free_ok X G (cl.fact 9 (f := .free "range") rfl)) (He.free_ok X G (cl.fact 10 (f := .free "min") rfl)) (He.free_ok X G (cl.fact 11 (f := .free "int") rfl))
    ⟨_, f1, F1', g 1 _ rfl, F1'.binds fun _ _ _ _ _ _ us hl => match us, hl with | [_, _], _ => rfl⟩
    ⟨_, f2, F2', g 2 _ rfl, F2'.binds fun _ _ _ _ _ _ us hl => match us, hl with | [_, _], _ => rfl⟩
    ⟨_, f3, F3', g 3 _ rfl, F3'.binds fun _ _ _ _ _ _ us hl => match us, hl with | [_, _], _ => rfl⟩
    ⟨_, f0, F0', g 0 _ rfl, F0'.binds fun _ _ _ _ _ _ us hl => match us, hl with | [_, _], _ => rfl⟩
    ⟨_, f4, F4', g 4 _ rfl, F4'.binds fun _ _ _ _ _ _ us hl => match us, hl with | [_, _], _ => rfl⟩
    ⟨_, f5, F5', g 5 _ rfl, F5'.binds fun _ _ _ _ _ _ us hl => match us, hl with | [], _ => rfl⟩
    ⟨_, f6, F6', g 6 _ rfl, F6'.binds fun _ _ _ _ _ _ us hl => match us, hl with | [], _ => rfl⟩
    ⟨_, f7, F7', g 7 _ rfl, F7'.binds fun _ _ _ _ _ _ us hl => match us, hl with | [_], _ => rfl⟩
    C xe XR XC GR bR mR kR
theorem walk {l : PySem.W.OpenLaw} {q : Program} {loose : List Str} {XP : (Str → Option Value) → Heap → Prop} {YP : World → Heap → Prop} {d : DefRec} {K : Params → PySem.W.Frag} (hn : l.most = some 63) (hdf : d.params.defaults = [])
    (hY : ∀ (w : World) (h : Heap), YP w h → (K w.params).In h)
    (F : ∀ (w : World) (mg : Str → Option Value) (fa : Addr) (h : Heap), (K w.params).In h → h.Ns mainGlobals mg → mg d.name = some (.ref fa) →
      ∃ fd : FuncData, (∀ (s : Shared) (u : Value), BindsTo s fd ⟨[u], []⟩ [("_law_script", u)]) ∧ ∀ base : Heap, (K w.params).In base → base.Ns mainGlobals mg → FnOk l.prog w (K w.params) mg base CX0 62 fa fd ["_law_script"] (spLaw (K w.params))) :
    PySem.W.WalkO q loose XP YP l.row.toRowW d [] (fun f vs => PySem.call f vs) :=
  L2.walk_of (n := 63) (k := 62) (x := "_law_script") (CX := fun _ => CX0) (sp := fun w => spLaw (K w.params)) hn (by decide) hdf ⟨rfl, by decide, by decide⟩ hY F (fun _ _ a ns hl _ hS => ⟨a, ns, rfl, hS, fun _ => rfl⟩) fun _ _ _ _ _ z => z
end Prs
set_option Elab.async false
set_option maxRecDepth 100000
open PySem PySem.W PyProof.Rows
set_option maxRecDepth 100000 in
set_option maxHeartbeats 0 in
theorem PySem.Challenge.cw_deepstands_k06_guards_and_terms_by_hand_holds : PySem.Challenge.rw_deepstands_k06_guards_and_terms_by_hand.Holds := by
  w_on; o_law; k_head; (case hw => w_witness2)
  k_fill
  refine Prs.walk (l := PySem.Challenge.rw_deepstands_k06_guards_and_terms_by_hand) rfl rfl (fun w h Y => PySem.W.kIn_of Y) ?F
  case F =>
    intro w mg fa h KX G hmg
    exact Prs.law_all KX G hmg (by unfold He.SaysT; kernel_rfl) (by kernel_rfl) (by unfold He.SaysD; kernel_rfl)
