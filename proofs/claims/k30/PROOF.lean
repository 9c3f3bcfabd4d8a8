import PyProof.Rows.All
import Wide.All
import OpenK.AllK
import Wide.FinOn
import HandS.ExcInit
import HandS.Defaults
import HandS.MakeKw
import HandS.ExcIs
import HandS.IsInst
import HandS.Evl
import HandS.ForMost
import HandS.ExcValue
import HandS.NoneIn
import HandS.WideBits
import KE.DataEq
import HandS.Walk
import PySem.Challenge.RW_deepstands_k30_refusals_by_hand
set_option Elab.async false
set_option linter.all false
set_option maxRecDepth 100000
set_option maxHeartbeats 4000000
namespace PySem
namespace XKw
open PySem.W PySem.Calls PyProof.Rows PySem.HandSPX
section
variable {M : Model} {A : Around} {E : Value → Shared → Prop} {h : Heap} {g : Array GenState} {d : Drawn} {t : Nat} {os : OsState}
variable {nm q : Str} {C N : Addr} {bs bm bmB : List Value} {hdct : Bool} {sn : List Str} {sub : List Value} {ab : Bool} {col : Option Bool} {dd : Option Addr} {k0 k1 k2 k3 k5 : Option Value} {B newId initId : String}
theorem check_new_kw (F : ExcBaseFacts B newId initId bmB) (hT : ∀ X : String, bm.contains (.type X) = bmB.contains (.type X)) {rest : List Value} {kw : List (Str × Value)} {Q : Unit → Shared → Prop}
    (hC : h.get? C = some (excClassObj nm q C N bs bm hdct sn sub ab col dd k0 k1 k2 k3 k5 newId)) (hq : Q () ⟨h, g, d, t, os⟩) : wpAny M A (checkBuiltinCall newId ⟨.ref C :: rest, kw⟩) Q E ⟨h, g, d, t, os⟩ := by
  have hcont : (Value.ref C :: bm).contains (.type B) = true := by rw [List.contains_cons, hT, F.hasB, Bool.or_true]
  have hstar := F.noStar
  simp only [checkBuiltinCall, F.newKind, F.newSplit, F.newRow]
  repeat (first | refine wpAny_loadPart_at hC ?_ | (refine wpAny_isSubtype_exc hC ?_; rw [hcont]) | refine wpAny_staticBase_exc hC ?_ | refine wpAny_madeBy_exc hC ?_ | simp only [bne_self_eq_false, Bool.false_eq_true, if_false] | wp_step)
  exact hq
end
section
variable {prog : Program} {w : World} {A : Around} {E : Value → Shared → Prop} {R : Result → Shared → Prop} {h : Heap} {g : Array GenState} {d : Drawn} {t : Nat} {os : OsState}
variable {nm q : Str} {C N : Addr} {bs bm bmB : List Value} {hdct : Bool} {sn : List Str} {sub : List Value} {ab : Bool} {col : Option Bool} {dd : Option Addr} {k0 k1 k2 k3 k5 : Option Value} {B newId initId : String}
theorem new_kw (F : ExcBaseFacts B newId initId bmB) (hT : ∀ X : String, bm.contains (.type X) = bmB.contains (.type X)) {rest : List Value} {kw : List (Str × Value)}
    (hC : h.get? C = some (excClassObj nm q C N bs bm hdct sn sub ab col dd k0 k1 k2 k3 k5 newId))
    (hq : R (.ok (.ret (.ref (h.objs.size + 1)))) ⟨(h.push { cls := .type "tuple", data := .seq rest.toArray }).push
      { cls := .ref C, data := .fields #[.ref h.objs.size, .none, .none, .none, .bool false, .none] }, g, d, t, os⟩) (hrest : rest.length ≤ sizeLine) :
    codeAny (model prog w) A (.builtin newId ⟨.ref C :: rest, kw⟩) R ⟨h, g, d, t, os⟩ := by
  have hends := F.ends
  have hcB : (Value.ref C :: bm).contains (.type B) = true := by rw [List.contains_cons, hT, F.hasB, Bool.or_true]
  have hcA : (Value.ref C :: bm).contains (.type "AttributeError") = false := by rw [List.contains_cons, hT, F.noAttr]; rfl
  have hcN : (Value.ref C :: bm).contains (.type "NameError") = false := by rw [List.contains_cons, hT, F.noName]; rfl
  refine codeAny_builtinAt F.entry ?_
  unfold Builtin.«BaseException.__new__»
  refine wpAt_bind ?_
  show wpAt _ _ _ (stack >>= _) _ _ _
  refine wpAt_bind (wpAt_stack fun p below => wpAt_of_wpAny ?_)
  wp_walk
  refine wpAt_of_wpAny ?_
  rw [F.owner]
  repeat (first | with_reducible refine wpAny_madeHere_exc F.canon hC ?_ | with_reducible refine wpAny_loadPart_at hC ?_ | (with_reducible refine wpAny_isSubtype_exc hC ?_; first | rw [hcB] | rw [hcA] | rw [hcN]) | wp_step)
  show R _ _
  rw [Heap.size_push]
  exact hq
theorem type_call_kw (F : ExcBaseFacts B newId initId bmB) (hT : ∀ X : String, bm.contains (.type X) = bmB.contains (.type X)) {rest : List Value} {kw : List (Str × Value)} {fI : Addr} {Q : Fin → Shared → Prop}
    (hC : h.get? C = some (excClassObj nm q C N bs bm hdct sn sub ab col dd k0 k1 k2 k3 k5 newId))
    (hi : W.Looks (model prog w) h (typeLookup (.ref C) "__init__") (some (.ref fI))) (hb : ∀ self, W.Looks (model prog w) h (bindSpecial (.ref fI) self) (.ref fI, [self])) (hrest : rest.length ≤ sizeLine)
    (hq : codeAny (model prog w) A (.call (.ref fI) ⟨.ref (h.objs.size + 1) :: rest, kw⟩)
      (fun r s' => match r with | .ok (.ret v) => v = .none ∧ Q (.done (.ret (.ref (h.objs.size + 1)))) s' | .ok _ => False | .error e => E e s')
      ⟨(h.push (W.kdv_tup rest)).push (excO C h.objs.size), g, d, t, os⟩) :
    wpAny (model prog w) A (Builtin.«type.__call__» ⟨.ref C :: rest, kw⟩) Q E ⟨h, g, d, t, os⟩ := by
  repeat (first | with_reducible refine wpAny_loadPart_at hC ?_ | with_reducible refine wpAny_madeBy_exc hC ?_ | wp_step)
  refine codeAny_call_builtin_code (Code.quiet_builtin _ F.quiet) (check_new_kw F hT hC ?_)
  refine new_kw F hT hC ?_ hrest
  show wpAny _ _ _ _ _ _
  have k : ∀ b o, h.get? b = some o → ((h.push (W.kdv_tup rest)).push (excO C h.objs.size)).get? b = some o := fun b o e => Heap.get?_push_of_some _ (Heap.get?_push_of_some _ e)
  have hC₁ := k _ _ hC
  have hget : ((h.push (W.kdv_tup rest)).push (excO C h.objs.size)).get? (h.objs.size + 1) = some (excO C h.objs.size) := by heap_get
  have hcC : (Value.ref C :: bm).contains (.ref C) = true := by simp
  have i1 := hi.keeps k
  have b1 := (hb (.ref (h.objs.size + 1))).keeps k
  unfold isInstance
  repeat (first | with_reducible refine wpAny_loadPart_at hget ?_ | (with_reducible refine wpAny_isSubtype_exc hC₁ ?_; rw [hcC]) | wp_step)
  show wpAny _ _ (typeLookup (.ref C) _) _ _ _
  refine i1.at ?_
  refine wpAny_holding (wpAny_bind (b1.at ?_))
  refine wpAny_bind (wpAny_call (codeAny_mono hq fun r s' z => ?_))
  rcases r with e | (v | _ | _ | _) <;> first | exact z | exact z.elim | skip
  obtain ⟨rfl, z⟩ := z
  first
    | exact wpAny_pure (wpAny_pure z)
    | (wp_walk; exact z)
theorem call_kw (F : ExcBaseFacts B newId initId bmB) (hT : ∀ X : String, bm.contains (.type X) = bmB.contains (.type X)) {rest : List Value} {kw : List (Str × Value)} {fI : Addr}
    (hC : h.get? C = some (excClassObj nm q C N bs bm hdct sn sub ab col dd k0 k1 k2 k3 k5 newId))
    (hi : W.Looks (model prog w) h (typeLookup (.ref C) "__init__") (some (.ref fI))) (hb : ∀ self, W.Looks (model prog w) h (bindSpecial (.ref fI) self) (.ref fI, [self])) (hrest : rest.length ≤ sizeLine)
    (hq : codeAny (model prog w) (A.under (.builtin "type.__call__" ⟨.ref C :: rest, kw⟩)) (.call (.ref fI) ⟨.ref (h.objs.size + 1) :: rest, kw⟩) (W.InitBack (h.objs.size + 1) R)
      ⟨(h.push (W.kdv_tup rest)).push (excO C h.objs.size), g, d, t, os⟩) :
    codeAny (model prog w) A (.call (.ref C) ⟨rest, kw⟩) R ⟨h, g, d, t, os⟩ := by
  have f1 := tc_lookup
  have f2 := tc_bind (.ref C)
  have hTy : (⟨h, g, d, t, os⟩ : Shared).TypeIs (.ref C) "type" := ⟨_, hC, rfl⟩
  refine codeAny_of_tree ?_
  show wpAny _ _ (callAny (.ref C) _) _ _ _
  repeat (any_goals (first | assumption | with_reducible refine wpAny_loadPart_at hC ?_ | wp_step))
  refine ⟨rfl, ?_⟩
  refine codeAny_call_builtin_at (Code.quiet_builtin _ (by decide +kernel)) entry_typeCall (wpAny_check_type_call_sub hC (type_call_kw F hT hC hi hb hrest ?_))
  refine codeAny_mono hq fun r s' z => ?_
  rcases r with e | (v | _ | _ | _) <;> exact z
end
end XKw
end PySem

set_option Elab.async false
set_option linter.all false
set_option maxRecDepth 100000
set_option maxHeartbeats 4000000
namespace L2
open PySem PySem.Spec PyProof.Rows
/-! ### an own exception, made as a value -/
def tXMk (C : Addr) (n m : Nat) (sp : Sp) (gV : List V → List V → List V) (t tk : TA) : TE := fun σ H Q => t σ H fun vs H1 => tk σ H1 fun zs H2 => vs.length = n ∧ zs.length = m ∧
  ∀ a, H2 a = none → sp (gV (.ref a :: vs) zs) (upd H2 a (exo a C none)) (fun v H3 => v = .non ∧ Q (.ref a) H3) (fun _ _ _ => False)
section
variable {X : Cx} {CX : CXT} {k n : Nat} {fI C : Addr} {fd : FuncData} {ps ks : List Str} {sp : Sp} {x : Str} {p pos : Pos} {e : Expr} {es : List Expr} {kws : List Keyword} {t tk : TA} {g : List Value → List Value → List Value} {gV : List V → List V → List V}
theorem run_xmk {pins : List (Addr × Obj)} {σ : St} {H : Hp} {s : Shared} {Q : VK} {us ws : List Value} {vs zs : List V} (T : OexC X.K C) (iC : PySem.W.findIn X.K (.ref C) "__init__" = some (some (.ref fI))) (tI : PySem.W.typeIn X.K (.ref fI) = some (.type "function"))
    (F1 : FnOk X.prog X.w X.K X.mg X.base CX k fI fd ps sp) (hr : Room (k + 1) X.A) (hb : KBn X.K fd ps (n + 1) ks g gV) (hx : Passes CX X (fun _ _ _ => False)) (I : Inv X pins σ H s) (r : Vals vs us) (rz : Vals zs ws) (l1 : vs.length = n) (l2 : zs.length = ks.length) (hn1 : n ≤ 1000)
    (h : ∀ a, H a = none → sp (gV (.ref a :: vs) zs) (upd H a (exo a C none)) (fun v H2 => v = .non ∧ Q (.ref a) H2) (fun _ _ _ => False)) :
    wpAny (model X.prog X.w) X.A (call (.ref C) us (ks.zip ws)) (EP X pins σ Q) X.xe s := by
  obtain ⟨nm, q, N, bs, bm, sn, sub, ab, col, dd, k0, k1, k2, k3, k5, hC, hbm⟩ := T.cls
  obtain ⟨hp, gn, dr, tk, os⟩ := s
  have hsz : hp.objs.size ≤ hp.objs.size + 1 := Nat.le_succ _
  have hn : H (hp.objs.size + 1) = none := I.hok.fresh hsz
  have hq := h (hp.objs.size + 1) hn
  have kk : ∀ b o, hp.get? b = some o → ((hp.push (PySem.W.kdv_tup us)).push (PySem.HandSPX.excO C hp.objs.size)).get? b = some o := fun b o e => Heap.get?_push_of_some _ (Heap.get?_push_of_some _ e)
  have hget : ((hp.push (PySem.W.kdv_tup us)).push (PySem.HandSPX.excO C hp.objs.size)).get? (hp.objs.size + 1) = some (PySem.HandSPX.excO C hp.objs.size) := by heap_get
  have I2 : Inv X pins σ (upd H (hp.objs.size + 1) (exo (hp.objs.size + 1) C none)) ⟨(hp.push (PySem.W.kdv_tup us)).push (PySem.HandSPX.excO C hp.objs.size), gn, dr, tk, os⟩ :=
    I.laid (t' := tk) (a := hp.objs.size + 1) (o := exo (hp.objs.size + 1) C none) (h' := (hp.push (PySem.W.kdv_tup us)).push (PySem.HandSPX.excO C hp.objs.size)) kk hsz (exo_ok hget)
  have r1 : Vals (V.ref (hp.objs.size + 1) :: vs) (Value.ref (hp.objs.size + 1) :: us) := .cons rfl r
  have r2 := hb.rel r1 rz
  have e1 : (Value.ref (hp.objs.size + 1) :: us).length = n + 1 := r1.length.symm.trans (congrArg Nat.succ l1)
  have e2 : ws.length = ks.length := rz.length.symm.trans l2
  have hus : us.length ≤ sizeLine := by
    rw [← Paired.length r, l1, sizeLine_eq]
    omega
  refine wpAny_call (PySem.XKw.call_kw PySem.F.excBase_ValueError (fun Y => PySem.HandSPX.refsVE_contains Y bm hbm) (I.kIn _ _ hC) (PySem.W.looks_findIn I.kIn iC) (fun self => PySem.W.bind_fn I.kIn self tI) hus
    (codeAny_mono (F1.run _ X.stack _ _ ⟨Value.ref (hp.objs.size + 1) :: us, ks.zip ws⟩ (g (Value.ref (hp.objs.size + 1) :: us) ws) _ _ (fun _ _ _ => False) (hr.make C us (ks.zip ws)) (I2.env0.make C us (ks.zip ws)) (hb.to _ (Value.ref (hp.objs.size + 1) :: us) ws I2.kIn e1 e2) r2 hq) fun r s' hq' => ?_))
  cases r with
  | error er => exact hx pins σ _ _ er s' I2 hq'
  | ok fl =>
    cases fl with
    | ret u =>
      obtain ⟨v, H', I3, rv, ev, q3⟩ := I2.after hq'
      subst ev
      exact ⟨rv, ⟨V.ref (hp.objs.size + 1), H', I3, rfl, q3⟩⟩
    | next => exact False.elim hq'
    | brk => exact False.elim hq'
    | cont => exact False.elim hq'
/-- C(e, .., k = v, ..) -/
theorem pe_xmkN (T : OexC X.K C) (iC : PySem.W.findIn X.K (.ref C) "__init__" = some (some (.ref fI))) (tI : PySem.W.typeIn X.K (.ref fI) = some (.type "function"))
    (F1 : FnOk X.prog X.w X.K X.mg X.base CX k fI fd ps sp) (hr : Room (k + 1) X.A) (hg : Gl X x) (hm : X.mg x = some (.ref C)) (hb : KBn X.K fd ps (n + 1) ks g gV) (hx : Passes CX X (fun _ _ _ => False)) (hn1 : n ≤ 1000)
    (ha : PA X (e :: es) t) (hkw : PK X kws tk) (hall : (backToKw pos (keywordEach kws X.env)).all (·.1.isSome) = true := by rfl) (hks : (backToKw pos (keywordEach kws X.env)).filterMap (·.1) = ks := by rfl)
    (hdb : (x == ("__debug__" : Str)) = false := by decide) (he : starEach (e :: es) X.env = (false, eval e X.env) :: starEach es X.env := by rfl)
    (hpl : ((backTo pos (starEach (e :: es) X.env)).any (·.1) || (backToKw pos (keywordEach kws X.env)).any (·.1.isNone)) = false := by rfl) :
    PE X (.Call (.Name x p) (e :: es) kws pos) (tXMk C n ks.length sp gV t tk) := by
  refine ⟨fun pins s σ H Q I h => ?_⟩
  refine wpAny_Call_Name_kw (ld_glob I hg hm ?_ hdb)
  refine PySem.W.callWith_KW (h₀ := X.base) I.ok.mod.kin T.kC hall (thn (ha.run pos pins s σ H _ I h) fun us s1 ⟨vs, H1, I1, r, q⟩ => ?_) hpl he
  refine thn (hkw.run pos pins s1 σ H1 _ I1 q) fun ws s2 ⟨zs, H2, I2, rz, l1, l2, q2⟩ => ⟨I2.kIn, ?_⟩
  rw [hks]
  exact run_xmk T iC tI F1 hr hb hx I2 r rz l1 l2 hn1 q2
/-- C(k = v, ..), C() -/
theorem pe_xmk0 (T : OexC X.K C) (iC : PySem.W.findIn X.K (.ref C) "__init__" = some (some (.ref fI))) (tI : PySem.W.typeIn X.K (.ref fI) = some (.type "function"))
    (F1 : FnOk X.prog X.w X.K X.mg X.base CX k fI fd ps sp) (hr : Room (k + 1) X.A) (hg : Gl X x) (hm : X.mg x = some (.ref C)) (hb : KBn X.K fd ps 1 ks g gV) (hx : Passes CX X (fun _ _ _ => False))
    (hkw : PK X kws tk) (hall : (backToKw pos (keywordEach kws X.env)).all (·.1.isSome) = true := by rfl) (hks : (backToKw pos (keywordEach kws X.env)).filterMap (·.1) = ks := by rfl)
    (hdb : (x == ("__debug__" : Str)) = false := by decide)
    (hpl : ((backTo pos (starEach [] X.env)).any (·.1) || (backToKw pos (keywordEach kws X.env)).any (·.1.isNone)) = false := by rfl) :
    PE X (.Call (.Name x p) [] kws pos) (tXMk C 0 ks.length sp gV tNil tk) := by
  refine ⟨fun pins s σ H Q I h => ?_⟩
  refine wpAny_Call_Name_kw (ld_glob I hg hm ?_ hdb)
  refine PySem.W.callWith_KW0 (h₀ := X.base) I.ok.mod.kin T.kC hall ?_ hpl
  refine thn (hkw.run pos pins s σ H _ I h) fun ws s2 ⟨zs, H2, I2, rz, l1, l2, q2⟩ => ⟨I2.kIn, ?_⟩
  rw [hks]
  exact run_xmk (us := []) (vs := []) T iC tI F1 hr hb hx I2 .nil rz rfl l2 (by omega) q2
end
/-- e.f, a field of such an exception -/
structure XAt (K : PySem.W.Frag) (C : Addr) (f : Str) : Prop where
  ga : PySem.W.findIn K (.ref C) "__getattribute__" = some (some (.builtin "BaseException.__getattribute__"))
  gg : PySem.W.findIn K (.ref C) "__getattr__" = some none
  exC : PySem.W.subIn K (.ref C) (.type "BaseException") = some true
  hdC : PySem.W.hasDictIn K C = true
  noN : PySem.W.findIn K (.ref C) f = some none
def tXAt (K : PySem.W.Frag) (te : TE) (f : Str) : TE := fun σ H Q => te σ H fun x H1 => ∃ (a C d : Addr) (fs : List (Str × V)) (v : V), x = .ref a ∧ H1 a = some (exo a C (some d)) ∧ H1 d = some (exd d fs) ∧ XAt K C f ∧ fs.lookup f = some v ∧ Q v H1
section
variable {X : Cx} {e : Expr} {te : TE} {f : Str} {pos : Pos}
theorem pe_xat (he : PE X e te) (hb : attributeBase e f X.env (eval e X.env) = eval e X.env := by rfl) : PE X (.Attribute e f pos) (tXAt X.K te f) := by
  refine ⟨fun pins s σ H Q I h => ?_⟩
  refine attr_of hb (thn (he.run pins s σ H _ I h) fun u s1 hh => ?_)
  obtain ⟨x, H1, I1, rx, a, C, d, fs, v, ex, ea, ed, T, hl, q⟩ := hh
  subst ex
  obtain rfl : u = Value.ref a := rx
  obtain ⟨t1, ho⟩ := exo_at I1.hok ea
  obtain ⟨mA, hns, hr⟩ := exd_at I1.hok ed
  obtain ⟨od, hod, hlk⟩ := lookIn_ns hns
  obtain ⟨u, hu, ru⟩ := RelO.some_of (v := v) (o := mA f) (by rw [← hl]; exact hr f)
  have J : PySem.W.InstAt s1.heap a { cls := .ref C, dict := some d, data := .fields #[.ref t1, .none, .none, .none, .bool false, .none] } C (some od) := ⟨ho, rfl, rfl, hod⟩
  exact HandSPX.exc_get I1.kIn J T.ga T.gg T.exC (PySem.W.findObj_own T.hdC T.noN rfl (by rw [hlk, hu])) (handed_of ru) ⟨v, H1, I1.tok _, ru, q⟩
end
end L2

set_option Elab.async false
set_option linter.all false
set_option maxRecDepth 100000
set_option maxHeartbeats 4000000
namespace L2
open PySem PySem.Spec PyProof.Rows
/-- all that H knows stands in H' -/
abbrev Ext (H H' : Hp) : Prop := ∀ a o, H a = some o → H' a = some o
theorem Ext.rfl' {H : Hp} : Ext H H := fun _ _ h => h
theorem Ext.tr {H H1 H2 : Hp} (a : Ext H H1) (b : Ext H1 H2) : Ext H H2 := fun x o h => b x o (a x o h)
theorem PE.weak {X : Cx} {e : Expr} {t t' : TE} (h : PE X e t) (w : ∀ σ H Q, t' σ H Q → t σ H Q) : PE X e t' := ⟨fun pins s σ H Q I q => h.run pins s σ H Q I (w σ H Q q)⟩
/-- an exception's __init__ of one field, of two -/
def spI1 (K : PySem.W.Frag) (f : Str) : Sp := fun vs H Q _ => ∃ (a C : Addr) (y : V), vs = [.ref a, y] ∧ H a = some (exo a C none) ∧ OexC K C ∧ PySem.W.findIn K (.ref C) f = some none ∧
  ∀ dx, H dx = none → dx ≠ a → Q .non (upd (upd H dx (exd dx [(f, y)])) a (exo a C (some dx)))
def spI2 (K : PySem.W.Frag) (f g : Str) : Sp := fun vs H Q _ => ∃ (a C : Addr) (y z : V), vs = [.ref a, y, z] ∧ H a = some (exo a C none) ∧ OexC K C ∧ PySem.W.findIn K (.ref C) f = some none ∧ PySem.W.findIn K (.ref C) g = some none ∧
  ∀ dx, H dx = none → dx ≠ a → Q .non (upd (upd (upd H dx (exd dx [(f, y)])) a (exo a C (some dx))) dx (exd dx [(g, z), (f, y)]))
/-- their bodies' readings -/
theorem read_i1 {K : PySem.W.Frag} {f : Str} {vs : List V} {H : Hp} {Q : VK} {E : XK} {N : List Str} (hN : N = (["self", f] : List Str)) (h : spI1 K f vs H Q E) :
    tOst K f (tVar 0) (tVar 1) { nx := fun _ H' => Q .non H', rt := Q } (start N vs) H := by
  subst hN
  obtain ⟨a, C, y, rfl, ha, T, nf, q⟩ := h
  exact ⟨_, rfl, _, rfl, a, C, rfl, T, nf, .inl ⟨ha, fun dx n ne => q dx n ne⟩⟩
theorem read_i2 {K : PySem.W.Frag} {f g : Str} {vs : List V} {H : Hp} {Q : VK} {E : XK} {N : List Str} (hN : N = (["self", f, g] : List Str)) (h : spI2 K f g vs H Q E) :
    tSeq (tOst K f (tVar 0) (tVar 1)) (tOst K g (tVar 0) (tVar 2)) { nx := fun _ H' => Q .non H', rt := Q } (start N vs) H := by
  subst hN
  obtain ⟨a, C, y, z, rfl, ha, T, nf, ng, q⟩ := h
  refine ⟨_, rfl, _, rfl, a, C, rfl, T, nf, .inl ⟨ha, fun dx n ne => ?_⟩⟩
  refine ⟨_, rfl, _, rfl, a, C, rfl, T, ng, .inr ⟨dx, [(f, y)], upd_same, ?_, by show 1 ≤ 900; decide, q dx n ne⟩⟩
  rw [upd_ne ne, upd_same]
/-- what the making of such an exception asks, and what it leaves -/
theorem made1 {K : PySem.W.Frag} {C : Addr} {f : Str} {y : V} {H : Hp} {Q : VK} (T : OexC K C) (nf : PySem.W.findIn K (.ref C) f = some none) {E : XK}
    (h : ∀ a d H', Ext H H' → H a = none → H' a = some (exo a C (some d)) → H' d = some (exd d [(f, y)]) → Q (.ref a) H') (a : Addr) (na : H a = none) :
    spI1 K f [.ref a, y] (upd H a (exo a C none)) (fun v H3 => v = .non ∧ Q (.ref a) H3) E := by
  refine ⟨a, C, y, rfl, upd_same, T, nf, fun dx nd ne => ⟨rfl, h a dx _ (fun b o e => ?_) na upd_same (by rw [upd_ne ne, upd_same])⟩⟩
  have hb : b ≠ a := ne_of_none e na
  have nd' : H dx = none := by rw [upd_ne ne] at nd; exact nd
  rw [upd_ne hb, upd_ne (ne_of_none e nd'), upd_ne hb]
  exact e
theorem made2 {K : PySem.W.Frag} {C : Addr} {f g : Str} {y z : V} {H : Hp} {Q : VK} (T : OexC K C) (nf : PySem.W.findIn K (.ref C) f = some none) (ng : PySem.W.findIn K (.ref C) g = some none) {E : XK}
    (h : ∀ a d H', Ext H H' → H a = none → H' a = some (exo a C (some d)) → H' d = some (exd d [(g, z), (f, y)]) → Q (.ref a) H') (a : Addr) (na : H a = none) :
    spI2 K f g [.ref a, y, z] (upd H a (exo a C none)) (fun v H3 => v = .non ∧ Q (.ref a) H3) E := by
  refine ⟨a, C, y, z, rfl, upd_same, T, nf, ng, fun dx nd ne => ⟨rfl, h a dx _ (fun b o e => ?_) na (by rw [upd_ne (Ne.symm ne), upd_same]) upd_same⟩⟩
  have hb : b ≠ a := ne_of_none e na
  have nd' : H dx = none := by rw [upd_ne ne] at nd; exact nd
  rw [upd_ne (ne_of_none e nd'), upd_ne hb, upd_ne (ne_of_none e nd'), upd_ne hb]
  exact e
/-- an instance of the exception class at C, with its fields -/
def ExcAt (H : Hp) (v : V) (C : Addr) (fs : List (Str × V)) : Prop := ∃ a d, v = .ref a ∧ H a = some (exo a C (some d)) ∧ H d = some (exd d fs)
/-- the readings that a caller sees -/
def tX1 (C : Addr) (f : Str) (te : TE) : TE := fun σ H Q => te σ H fun y H1 => ∀ v H2, Ext H1 H2 → ExcAt H2 v C [(f, y)] → Q v H2
def tX10 (C : Addr) (f : Str) : TE := fun σ H Q => ∀ v H2, Ext H H2 → ExcAt H2 v C [(f, .non)] → Q v H2
def tX2 (C : Addr) (f g : Str) (te tu : TE) : TE := fun σ H Q => te σ H fun y H1 => tu σ H1 fun z H2 => ∀ v H3, Ext H2 H3 → ExcAt H3 v C [(g, z), (f, y)] → Q v H3
/-- keywords the other way about -/
def tX2r (C : Addr) (f g : Str) (tu te : TE) : TE := fun σ H Q => tu σ H fun z H1 => te σ H1 fun y H2 => ∀ v H3, Ext H2 H3 → ExcAt H3 v C [(g, z), (f, y)] → Q v H3
def tX2f (C : Addr) (f g : Str) (te : TE) : TE := fun σ H Q => te σ H fun y H1 => ∀ v H2, Ext H1 H2 → ExcAt H2 v C [(g, .non), (f, y)] → Q v H2
def tX2g (C : Addr) (f g : Str) (tu : TE) : TE := fun σ H Q => tu σ H fun z H1 => ∀ v H2, Ext H1 H2 → ExcAt H2 v C [(g, z), (f, .non)] → Q v H2
def tX20 (C : Addr) (f g : Str) : TE := fun σ H Q => ∀ v H2, Ext H H2 → ExcAt H2 v C [(g, .non), (f, .non)] → Q v H2
/-- any weaker wish -/
def tM (te : TE) : TE := fun σ H Q => ∃ R : VK, te σ H R ∧ ∀ v H', R v H' → Q v H'
theorem PE.mono {X : Cx} {e : Expr} {te : TE} (h : PE X e te) : PE X e (tM te) := ⟨fun pins s σ H Q I ⟨R, hR, k⟩ =>
  wpAny_mono (h.run pins s σ H R I hR) (fun _ _ ⟨v, H', I', r, q⟩ => ⟨v, H', I', r, k _ _ q⟩) (fun _ _ x => x)⟩
/-- v.f -/
def tXF (C : Addr) (te : TE) (f : Str) : TE := fun σ H Q => te σ H fun x H1 => ∃ fs v, ExcAt H1 x C fs ∧ fs.lookup f = some v ∧ Q v H1
theorem pe_xf {X : Cx} {e : Expr} {te : TE} {f : Str} {pos : Pos} {C : Addr} (A : XAt X.K C f) (he : PE X e te) (hb : attributeBase e f X.env (eval e X.env) = eval e X.env := by rfl) : PE X (.Attribute e f pos) (tXF C te f) :=
  (pe_xat he.mono hb).weak fun σ H Q h => ⟨_, h, fun x H1 q => by
    obtain ⟨fs, v, ⟨a, d, ex, ea, ed⟩, hl, q⟩ := q
    exact ⟨a, C, d, fs, v, ex, ea, ed, A, hl, q⟩⟩
/-- what is known of such a class, and how it is made -/
structure XC1 (P : Program) (w : World) (K : PySem.W.Frag) (mg : Str → Option Value) (base : Heap) (x f : Str) (C : Addr) : Prop where
  T : OexC K C
  A : XAt K C f
  mgC : mg x = some (.ref C)
  fn : ∃ (fI : Addr) (fd : FuncData), PySem.W.findIn K (.ref C) "__init__" = some (some (.ref fI)) ∧ PySem.W.typeIn K (.ref fI) = some (.type "function") ∧ FnOk P w K mg base CX0 1 fI fd ["self", f] (spI1 K f) ∧
    (∃ g, KBn K fd ["self", f] 2 [] g (fun vs _ => vs)) ∧ (∃ g, KBn K fd ["self", f] 1 [f] g (fun vs zs => vs ++ zs)) ∧ (∃ g, KBn K fd ["self", f] 1 [] g (fun vs _ => vs ++ [.non]))
structure XC2 (P : Program) (w : World) (K : PySem.W.Frag) (mg : Str → Option Value) (base : Heap) (x f g : Str) (C : Addr) : Prop where
  T : OexC K C
  A : XAt K C f
  B : XAt K C g
  mgC : mg x = some (.ref C)
  fn : ∃ (fI : Addr) (fd : FuncData), PySem.W.findIn K (.ref C) "__init__" = some (some (.ref fI)) ∧ PySem.W.typeIn K (.ref fI) = some (.type "function") ∧ FnOk P w K mg base CX0 1 fI fd ["self", f, g] (spI2 K f g) ∧
    (∃ h, KBn K fd ["self", f, g] 3 [] h (fun vs _ => vs)) ∧ (∃ h, KBn K fd ["self", f, g] 2 [] h (fun vs _ => vs ++ [.non])) ∧ (∃ h, KBn K fd ["self", f, g] 1 [] h (fun vs _ => vs ++ [.non, .non])) ∧
    (∃ h, KBn K fd ["self", f, g] 1 [g, f] h (fun vs zs => vs ++ (zs.drop 1 ++ zs.take 1))) ∧ (∃ h, KBn K fd ["self", f, g] 2 [g] h (fun vs zs => vs ++ zs)) ∧ (∃ h, KBn K fd ["self", f, g] 1 [g] h (fun vs zs => vs ++ (V.non :: zs)))
section
variable {X : Cx} {x f g : Str} {C : Addr} {e e2 : Expr} {te tu : TE} {p pos p1 p2 : Pos}
theorem xle {n : Nat} (h : n ≤ 3) : n ≤ 1000 := by omega
/-- X(a) -/
theorem pe_1p (c : XC1 X.prog X.w X.K X.mg X.base x f C) (hr : Room 2 X.A) (he : PE X e te) (hg : Gl X x := by rfl) (hx : Passes CX0 X (fun _ _ _ => False) := by exact pass0) (hdb : (x == ("__debug__" : Str)) = false := by decide)
    (hs : starEach [e] X.env = (false, eval e X.env) :: starEach [] X.env := by rfl) : PE X (.Call (.Name x p) [e] [] pos) (tX1 C f te) := by
  obtain ⟨fI, fd, iC, tI, F, ⟨g', hb⟩, _⟩ := c.fn
  have hpl : ((backTo pos (starEach [e] X.env)).any (·.1) || (backToKw pos (keywordEach [] X.env)).any (·.1.isNone)) = false := by rw [hs]; rfl
  refine (pe_xmkN c.T iC tI F hr hg c.mgC hb hx (xle (by decide)) (pa_cons he.mono pa_nil hs) pk_nil rfl rfl hdb hs hpl).weak fun σ H Q h => ?_
  exact ⟨_, h, fun y H1 q => ⟨rfl, rfl, made1 c.T c.A.noN fun a d H' e n ea ed => q _ _ e ⟨a, d, rfl, ea, ed⟩⟩⟩
/-- X(f=a) -/
theorem pe_1k (c : XC1 X.prog X.w X.K X.mg X.base x f C) (hr : Room 2 X.A) (he : PE X e te) (hg : Gl X x := by rfl) (hx : Passes CX0 X (fun _ _ _ => False) := by exact pass0) (hdb : (x == ("__debug__" : Str)) = false := by decide) :
    PE X (.Call (.Name x p) [] [⟨some f, e, p1⟩] pos) (tX1 C f te) := by
  obtain ⟨fI, fd, iC, tI, F, _, ⟨g', hb⟩, _⟩ := c.fn
  refine (pe_xmk0 c.T iC tI F hr hg c.mgC hb hx (pk_cons he.mono pk_nil) rfl rfl hdb rfl).weak fun σ H Q h => ?_
  exact ⟨_, h, fun y H1 q => ⟨rfl, rfl, made1 c.T c.A.noN fun a d H' e n ea ed => q _ _ e ⟨a, d, rfl, ea, ed⟩⟩⟩
/-- X() -/
theorem pe_10 (c : XC1 X.prog X.w X.K X.mg X.base x f C) (hr : Room 2 X.A) (hg : Gl X x := by rfl) (hx : Passes CX0 X (fun _ _ _ => False) := by exact pass0) (hdb : (x == ("__debug__" : Str)) = false := by decide) :
    PE X (.Call (.Name x p) [] [] pos) (tX10 C f) := by
  obtain ⟨fI, fd, iC, tI, F, _, _, ⟨g', hb⟩⟩ := c.fn
  refine (pe_xmk0 c.T iC tI F hr hg c.mgC hb hx pk_nil rfl rfl hdb rfl).weak fun σ H Q h => ?_
  exact ⟨rfl, rfl, made1 c.T c.A.noN fun a d H' e n ea ed => h _ _ e ⟨a, d, rfl, ea, ed⟩⟩
/-- X(a, b) -/
theorem pe_2pp (c : XC2 X.prog X.w X.K X.mg X.base x f g C) (hr : Room 2 X.A) (he : PE X e te) (he2 : PE X e2 tu) (hg : Gl X x := by rfl) (hx : Passes CX0 X (fun _ _ _ => False) := by exact pass0) (hdb : (x == ("__debug__" : Str)) = false := by decide)
    (hs : starEach [e, e2] X.env = (false, eval e X.env) :: starEach [e2] X.env := by rfl) (hs2 : starEach [e2] X.env = (false, eval e2 X.env) :: starEach [] X.env := by rfl) : PE X (.Call (.Name x p) [e, e2] [] pos) (tX2 C f g te tu) := by
  obtain ⟨fI, fd, iC, tI, F, ⟨g', hb⟩, _⟩ := c.fn
  have hpl : ((backTo pos (starEach [e, e2] X.env)).any (·.1) || (backToKw pos (keywordEach [] X.env)).any (·.1.isNone)) = false := by rw [hs, hs2]; rfl
  refine (pe_xmkN c.T iC tI F hr hg c.mgC hb hx (xle (by decide)) (pa_cons he.mono (pa_cons he2.mono pa_nil hs2) hs) pk_nil rfl rfl hdb hs hpl).weak fun σ H Q h => ?_
  exact ⟨_, h, fun y H1 q => ⟨_, q, fun z H2 q => ⟨rfl, rfl, made2 c.T c.A.noN c.B.noN fun a d H' e n ea ed => q _ _ e ⟨a, d, rfl, ea, ed⟩⟩⟩⟩
/-- X(a) of two fields -/
theorem pe_2p (c : XC2 X.prog X.w X.K X.mg X.base x f g C) (hr : Room 2 X.A) (he : PE X e te) (hg : Gl X x := by rfl) (hx : Passes CX0 X (fun _ _ _ => False) := by exact pass0) (hdb : (x == ("__debug__" : Str)) = false := by decide)
    (hs : starEach [e] X.env = (false, eval e X.env) :: starEach [] X.env := by rfl) : PE X (.Call (.Name x p) [e] [] pos) (tX2f C f g te) := by
  obtain ⟨fI, fd, iC, tI, F, _, ⟨g', hb⟩, _⟩ := c.fn
  have hpl : ((backTo pos (starEach [e] X.env)).any (·.1) || (backToKw pos (keywordEach [] X.env)).any (·.1.isNone)) = false := by rw [hs]; rfl
  refine (pe_xmkN c.T iC tI F hr hg c.mgC hb hx (xle (by decide)) (pa_cons he.mono pa_nil hs) pk_nil rfl rfl hdb hs hpl).weak fun σ H Q h => ?_
  exact ⟨_, h, fun y H1 q => ⟨rfl, rfl, made2 c.T c.A.noN c.B.noN fun a d H' e n ea ed => q _ _ e ⟨a, d, rfl, ea, ed⟩⟩⟩
/-- X() of two fields -/
theorem pe_20 (c : XC2 X.prog X.w X.K X.mg X.base x f g C) (hr : Room 2 X.A) (hg : Gl X x := by rfl) (hx : Passes CX0 X (fun _ _ _ => False) := by exact pass0) (hdb : (x == ("__debug__" : Str)) = false := by decide) :
    PE X (.Call (.Name x p) [] [] pos) (tX20 C f g) := by
  obtain ⟨fI, fd, iC, tI, F, _, _, ⟨g', hb⟩, _⟩ := c.fn
  refine (pe_xmk0 c.T iC tI F hr hg c.mgC hb hx pk_nil rfl rfl hdb rfl).weak fun σ H Q h => ?_
  exact ⟨rfl, rfl, made2 c.T c.A.noN c.B.noN fun a d H' e n ea ed => h _ _ e ⟨a, d, rfl, ea, ed⟩⟩
/-- X(g=b, f=a) -/
theorem pe_2kr (c : XC2 X.prog X.w X.K X.mg X.base x f g C) (hr : Room 2 X.A) (he2 : PE X e2 tu) (he : PE X e te) (hg : Gl X x := by rfl) (hx : Passes CX0 X (fun _ _ _ => False) := by exact pass0) (hdb : (x == ("__debug__" : Str)) = false := by decide) :
    PE X (.Call (.Name x p) [] [⟨some g, e2, p1⟩, ⟨some f, e, p2⟩] pos) (tX2r C f g tu te) := by
  obtain ⟨fI, fd, iC, tI, F, _, _, _, ⟨g', hb⟩, _⟩ := c.fn
  refine (pe_xmk0 c.T iC tI F hr hg c.mgC hb hx (pk_cons he2.mono (pk_cons he.mono pk_nil)) rfl rfl hdb rfl).weak fun σ H Q h => ?_
  exact ⟨_, h, fun z H1 q => ⟨_, q, fun y H2 q => ⟨rfl, rfl, made2 c.T c.A.noN c.B.noN fun a d H' e n ea ed => q _ _ e ⟨a, d, rfl, ea, ed⟩⟩⟩⟩
/-- X(a, g=b) -/
theorem pe_2pk (c : XC2 X.prog X.w X.K X.mg X.base x f g C) (hr : Room 2 X.A) (he : PE X e te) (he2 : PE X e2 tu) (hg : Gl X x := by rfl) (hx : Passes CX0 X (fun _ _ _ => False) := by exact pass0) (hdb : (x == ("__debug__" : Str)) = false := by decide)
    (hs : starEach [e] X.env = (false, eval e X.env) :: starEach [] X.env := by rfl) : PE X (.Call (.Name x p) [e] [⟨some g, e2, p1⟩] pos) (tX2 C f g te tu) := by
  obtain ⟨fI, fd, iC, tI, F, _, _, _, _, ⟨g', hb⟩, _⟩ := c.fn
  have hpl : ((backTo pos (starEach [e] X.env)).any (·.1) || (backToKw pos (keywordEach [⟨some g, e2, p1⟩] X.env)).any (·.1.isNone)) = false := by rw [hs]; rfl
  refine (pe_xmkN c.T iC tI F hr hg c.mgC hb hx (xle (by decide)) (pa_cons he.mono pa_nil hs) (pk_cons he2.mono pk_nil) rfl rfl hdb hs hpl).weak fun σ H Q h => ?_
  exact ⟨_, h, fun y H1 q => ⟨_, q, fun z H2 q => ⟨rfl, rfl, made2 c.T c.A.noN c.B.noN fun a d H' e n ea ed => q _ _ e ⟨a, d, rfl, ea, ed⟩⟩⟩⟩
/-- X(g=b) -/
theorem pe_2kg (c : XC2 X.prog X.w X.K X.mg X.base x f g C) (hr : Room 2 X.A) (he2 : PE X e2 tu) (hg : Gl X x := by rfl) (hx : Passes CX0 X (fun _ _ _ => False) := by exact pass0) (hdb : (x == ("__debug__" : Str)) = false := by decide) :
    PE X (.Call (.Name x p) [] [⟨some g, e2, p1⟩] pos) (tX2g C f g tu) := by
  obtain ⟨fI, fd, iC, tI, F, _, _, _, _, _, ⟨g', hb⟩⟩ := c.fn
  refine (pe_xmk0 c.T iC tI F hr hg c.mgC hb hx (pk_cons he2.mono pk_nil) rfl rfl hdb rfl).weak fun σ H Q h => ?_
  exact ⟨_, h, fun z H1 q => ⟨rfl, rfl, made2 c.T c.A.noN c.B.noN fun a d H' e n ea ed => q _ _ e ⟨a, d, rfl, ea, ed⟩⟩⟩
end
/-! ### what they evaluate to -/
section
open Evl
variable {σ : L2.St} {H : Hp} {C : Addr} {f g : Str} {te tu ta tb : TE} {y z : V} {xs ys : List V}
/-- te gives an instance of C with fields fs -/
def EvE (te : TE) (σ : L2.St) (H : Hp) (C : Addr) (fs : List (Str × V)) : Prop := ∀ H1, Ex H H1 → ∀ Q : VK, (∀ v H2, Ex H1 H2 → ExcAt H2 v C fs → Q v H2) → te σ H1 Q
theorem ee_1 (h : Ev te σ H y) : EvE (tX1 C f te) σ H C [(f, y)] := fun H1 e _ q => h H1 e _ fun _ e2 _ _ e3 hx => q _ _ (e2.trans e3) hx
theorem ee_10 : EvE (tX10 C f) σ H C [(f, .non)] := fun _ _ _ q _ _ e3 hx => q _ _ e3 hx
theorem ee_2 (h : Ev te σ H y) (h2 : Ev tu σ H z) : EvE (tX2 C f g te tu) σ H C [(g, z), (f, y)] := fun H1 e _ q => h H1 e _ fun H2 e2 => h2 H2 (e.trans e2) _ fun _ e3 _ _ e4 hx => q _ _ ((e2.trans e3).trans e4) hx
theorem ee_2r (h2 : Ev tu σ H z) (h : Ev te σ H y) : EvE (tX2r C f g tu te) σ H C [(g, z), (f, y)] := fun H1 e _ q => h2 H1 e _ fun H2 e2 => h H2 (e.trans e2) _ fun _ e3 _ _ e4 hx => q _ _ ((e2.trans e3).trans e4) hx
theorem ee_2f (h : Ev te σ H y) : EvE (tX2f C f g te) σ H C [(g, .non), (f, y)] := fun H1 e _ q => h H1 e _ fun _ e2 _ _ e3 hx => q _ _ (e2.trans e3) hx
theorem ee_2g (h : Ev tu σ H z) : EvE (tX2g C f g tu) σ H C [(g, z), (f, .non)] := fun H1 e _ q => h H1 e _ fun _ e2 _ _ e3 hx => q _ _ (e2.trans e3) hx
theorem ee_20 : EvE (tX20 C f g) σ H C [(g, .non), (f, .non)] := fun _ _ _ q _ _ e3 hx => q _ _ e3 hx
theorem ev_xf {fs : List (Str × V)} (h : EvE te σ H C fs) (hl : fs.lookup f = some y) : Ev (tXF C te f) σ H y := fun H1 e _ q => h H1 e _ fun _ H2 e2 hx => ⟨fs, y, hx, hl, q H2 e2⟩
/-- xs + ys, both new; xs * k -/
theorem el_cat (ha : EvL ta σ H xs) (hb : EvL tb σ H ys) (hz : xs.length + ys.length ≤ 100000) : EvL (tOp rCat ta tb) σ H (xs ++ ys) := fun H1 e _ q =>
  ha H1 e _ fun p H2 n2 e2 h2 => hb H2 (e.trans e2) _ fun p' H3 n3 e3 h3 => ⟨p, p', xs, ys, rfl, rfl, e3 p _ h2, h3, sz_of hz, fun r hr => q r _ (fresh_back (e2.trans e3) hr) ((e2.trans e3).trans (Ex.new hr)) upd_same⟩
/-- a list that is known + a new one -/
theorem el_catK {l : Addr} (ha : Ev ta σ H (.ref l)) (hl : H l = some (.lst xs)) (hb : EvL tb σ H ys) (hz : xs.length + ys.length ≤ 100000) : EvL (tOp rCat ta tb) σ H (xs ++ ys) := fun H1 e _ q =>
  ha H1 e _ fun H2 e2 => hb H2 (e.trans e2) _ fun p' H3 n3 e3 h3 => ⟨l, p', xs, ys, rfl, rfl, e3 l _ (e2 l _ (e l _ hl)), h3, sz_of hz, fun r hr => q r _ (fresh_back (e2.trans e3) hr) ((e2.trans e3).trans (Ex.new hr)) upd_same⟩
theorem el_rep {k : Nat} (ha : EvL ta σ H xs) (hb : Ev tb σ H (.int k)) (hk : k ≤ 1000) (hz : xs.length * k ≤ 100000) : EvL (tOp rRep ta tb) σ H (List.replicate k xs).flatten := fun H1 e _ q =>
  ha H1 e _ fun p H2 n2 e2 h2 => hb H2 (e.trans e2) _ fun H3 e3 => ⟨p, k, xs, rfl, rfl, e3 p _ h2, by omega, by omega, by simpa using sz_of hz, fun r hr => q r _ (fresh_back (e2.trans e3) hr) ((e2.trans e3).trans (Ex.new hr)) (by rw [upd_same]; simp)⟩
end
end L2

set_option Elab.async false
set_option linter.all false
set_option maxRecDepth 100000
set_option maxHeartbeats 4000000
/-! isinstance of an own exception that holds fields -/
namespace PySem.W
open PySem PySem.Calls PyProof.Rows PySem.HandSPX
theorem excls_find {K : Frag} {D : Addr} {od : Option Obj} (T : L2.ExcC K D) : findObj K D od "__class__" = some (.bind (.builtin "getset_descriptor.__get__") (.builtin "object.__class__")) := by
  obtain ⟨cd, hc, _⟩ := any_some T.hd
  unfold findObj
  rw [hc, Option.bind_some, T.ha, Option.bind_some]
  simp [T.hn, T.ht]
theorem excls_get {prog : Program} {w : World} {A : Around} {E : Value → Shared → Prop} {K : Frag} {D x : Addr} {ox : Obj} {od : Option Obj} {s : Shared} {Q : Option Value → Shared → Prop} (T : L2.ExcC K D) (KI : K.In s.heap) (J : InstAt s.heap x ox D od)
    (goal : Q (some (.ref D)) { s with toks := s.toks + 1 }) : wpAny (model prog w) A (getAttr? (.ref x) "__class__") Q E s := by
  obtain ⟨h0, g0, d0, t0, o0⟩ := s
  have ty := J.type (M := model prog w)
  have lg := looks_findIn (M := model prog w) KI T.hg
  have lk := looks_findIn (M := model prog w) KI T.hk
  have lc := looks_find (M := model prog w) KI J (excls_find T)
  have isB : Looks (model prog w) h0 (isInstance (.ref x) (.type "BaseException")) true := ty.andThen (looks_subIn KI T.hs)
  have n1 : (Value.builtin "BaseException.__getattribute__" == Value.builtin "object.__getattribute__") = false := by decide +kernel
  have n2 : (onTheHeap (Value.ref D) && Value.builtin "BaseException.__getattribute__" == Value.builtin "object.__getattribute__") = false := by rw [n1]; rfl
  have n3 : (false && onTheHeap (Value.builtin "BaseException.__getattribute__")) = false := rfl
  unfold getAttr? getAttrBy? getAttrBy
  refine wpAny_bind (wpAny_mkText ?_)
  refine wpAny_bind (wpAny_attempt (wpAny_holding (wpAny_bind (ty.at (wpAny_bind (lg.at ?_))))))
  show wpAny _ _ (if (onTheHeap (Value.ref D) && Value.builtin "BaseException.__getattribute__" == Value.builtin "object.__getattribute__") = true then _ else _) _ _ _
  rw [n2, if_neg Bool.false_ne_true]
  unfold getAttrByItsOwn hookBefore
  refine wpAny_bind ?_
  rw [if_pos (show onTheHeap (Value.ref D) = true from rfl)]
  refine lk.at (wpAny_bind (wpAny_attempt (wpAny_holding ?_)))
  unfold callGetattribute
  rw [n3, if_neg Bool.false_ne_true]
  unfold boundAndCalled
  rw [PySem.F.excAttr_ValueError.ga.bind (.ref x)]
  refine wpAny_bind (wpAny_pure ?_)
  show wpAny _ _ (call (.builtin "BaseException.__getattribute__") [.ref x, .str "__class__" t0]) _ _ _
  refine wpAny_call (codeAny_call_builtin PySem.F.excAttr_ValueError.ga.plain PySem.F.entry_bexc_ga ?_)
  refine @check_slot (model prog w) _ _ ⟨h0, g0, d0, t0 + 1, o0⟩ "BaseException.__getattribute__" "BaseException" "__getattribute__" (.ref x) [.str "__class__" t0] [] _ (by decide +kernel) (by decide +kernel) isB (PySem.F.args_bexc_ga (.ref x) (.str "__class__" t0)) ?_
  unfold Builtin.«object.__getattribute__»
  refine wpAny_bind (wpAny_of_eq (a := ((Value.ref x : Value), [Value.str "__class__" t0])) (by first | rfl | (simp only [slotArgs]; rfl)) ?_)
  refine wpAny_bind (wpAny_pure (wpAny_bind (ty.at (wpAny_bind (lc.at ?_)))))
  show wpAny _ _ (holding [Value.builtin "object.__class__"] (call (.builtin "getset_descriptor.__get__") [.builtin "object.__class__", .ref x, .ref D]) >>= ret) _ _ _
  refine wpAny_bind (wpAny_holding (wpAny_call (class_get (s := ⟨h0, g0, d0, t0 + 1, o0⟩) (ox := ox) (od := od) KI J T.hm ?_)))
  refine wpAny_pure ?_
  show wpAny _ _ (handedOut (.ref D)) _ _ _
  rw [handedOut_of (v := .ref D) rfl]
  first
    | exact wpAny_pure (wpAny_pure goal)
    | exact wpAny_pure goal
    | exact wpAny_pure (wpAny_bind (wpAny_pure (wpAny_pure goal)))
theorem excls_kit {K : Frag} {D x : Addr} {ox : Obj} {od : Option Obj} (T : L2.ExcC K D) : KitX K (.ref x) (.ref D) (fun h => InstAt h x ox D od) where
  ty := fun _ _ _ J => J.type
  it := fun _ _ KI _ => by
    obtain ⟨cd, hc, _⟩ := any_some T.hd
    unfold clsIn at hc
    split at hc
    · rename_i ho
      intro A' Q' E' s' k q
      unfold isType loadHead
      exact wpAny_bind (wpAny_loadPart (k _ _ (KI _ _ ho)) (wpAny_pure q))
    · cases hc
  ne := fun h tp dd its n sl KI htp => by
    obtain ⟨cd, hc, _⟩ := any_some T.hd
    refine Bool.eq_false_iff.mpr fun q => ?_
    obtain rfl : D = tp := Value.ref.inj (beq_iff_eq.mp q)
    unfold clsIn at hc
    split at hc
    · rename_i ho
      have z := (KI _ _ ho).symm.trans htp
      cases z
    · cases hc
  ca := fun KI J k => excls_get T KI J k
end PySem.W
namespace L2
open PySem PySem.Spec PyProof.Rows Evl
/-- an instance of the exception class at C, with fields or with none -/
def IsX (H : Hp) (v : V) (C : Addr) : Prop := ∃ a, v = .ref a ∧ (H a = some (exo a C none) ∨ ∃ d fs, H a = some (exo a C (some d)) ∧ H d = some (exd d fs))
theorem IsX.of {H : Hp} {v : V} {C : Addr} {fs : List (Str × V)} (h : ExcAt H v C fs) : IsX H v C := by
  obtain ⟨a, d, rfl, h1, h2⟩ := h
  exact ⟨a, rfl, .inr ⟨d, fs, h1, h2⟩⟩
theorem IsX.mono {H H' : Hp} {v : V} {C : Addr} (e : Ex H H') (h : IsX H v C) : IsX H' v C := by
  obtain ⟨a, rfl, h | ⟨d, fs, h1, h2⟩⟩ := h
  · exact ⟨a, rfl, .inl (e _ _ h)⟩
  · exact ⟨a, rfl, .inr ⟨d, fs, e _ _ h1, e _ _ h2⟩⟩
theorem ExcAt.mono {H H' : Hp} {v : V} {C : Addr} {fs : List (Str × V)} (e : Ex H H') (h : ExcAt H v C fs) : ExcAt H' v C fs := by
  obtain ⟨a, d, rfl, h1, h2⟩ := h
  exact ⟨a, d, rfl, e _ _ h1, e _ _ h2⟩
def rIsX (K : PySem.W.Frag) : List V → Hp → VK → Prop := fun xs H Q => ∃ (x c : V) (D : Addr) (u : Value) (b : Bool), xs = [x, c] ∧ ClsV c u ∧ IsX H x D ∧ ExcC K D ∧ PySem.W.kitOne K (.ref D) u = some b ∧ Q (.bl b) H
theorem call_isX {X : Cx} : CallR X (.builtin "isinstance") (rIsX X.K) := by
  intro pins s σ H xs us Q I r h
  obtain ⟨x, c, D, u, b, rfl, k, hx, T, e, q⟩ := h
  obtain ⟨u1, u2, rfl, r1, r2⟩ := vals2 r
  have e2 := k.eq r2
  subst e2
  obtain ⟨a, rfl, ha⟩ := hx
  cases (show u1 = Value.ref a from r1)
  rcases ha with ha | ⟨d, fs, ha, hd⟩
  · obtain ⟨t1, ho⟩ := exo_at I.hok ha
    have J : PySem.W.InstAt s.heap a { cls := .ref D, dict := none, data := .fields #[.ref t1, .none, .none, .none, .bool false, .none] } D none := ⟨ho, rfl, rfl, trivial⟩
    exact PySem.W.kia_one (PySem.W.excls_kit T) I.kIn J e (fun z => nomatch z) fun tk => ⟨.bl b, H, I.tok tk, rfl, q⟩
  · obtain ⟨t1, ho⟩ := exo_at I.hok ha
    obtain ⟨mA, hns, hr⟩ := exd_at I.hok hd
    obtain ⟨od, hod, _⟩ := lookIn_ns hns
    have J : PySem.W.InstAt s.heap a { cls := .ref D, dict := some d, data := .fields #[.ref t1, .none, .none, .none, .bool false, .none] } D (some od) := ⟨ho, rfl, rfl, hod⟩
    exact PySem.W.kia_one (PySem.W.excls_kit T) I.kIn J e (fun z => nomatch z) fun tk => ⟨.bl b, H, I.tok tk, rfl, q⟩
/-- a class without fields of its own -/
structure XC0 (K : PySem.W.Frag) (mg : Str → Option Value) (x : Str) (C : Addr) : Prop where
  q : PySem.W.excIn K C [.type "ValueError", .type "Exception", .type "BaseException", .type "object"] "ValueError.__new__" = true
  mgC : mg x = some (.ref C)
  kC : PySem.W.keepIn K (.ref C) = true
def tX00 (C : Addr) : TE := fun σ H Q => ∀ v H2, Ex H H2 → IsX H2 v C → Q v H2
theorem pe_00 {X : Cx} {x : Str} {C : Addr} {p pos : Pos} (c : XC0 X.K X.mg x C) (hg : Gl X x := by rfl) (hdb : (x == ("__debug__" : Str)) = false := by decide) : PE X (.Call (.Name x p) [] [] pos) (tX00 C) := by
  refine ⟨fun pins s σ H Q I h => ?_⟩
  refine wpAny_Call_Name_kw (ld_glob I hg c.mgC ?_ hdb)
  refine PySem.W.callWith_K0 I.kIn c.kC ?_
  show wpAny _ _ (call (.ref C) []) _ _ _
  obtain ⟨bm, N, nm, qn, bs, hdct, sn, sub, ab, col, dd, k0, k1, k2, k3, k5, mN, hC, hN, hni, T⟩ := exc_obj I.kIn c.q
  refine wpAny_call_exc_subT PySem.F.excBase_ValueError T hC hN hni (fun h' a hm => ?_) (by show 0 ≤ sizeLine; rw [sizeLine_eq]; omega)
  have hn : H a = none := I.hok.gone hm.new
  obtain ⟨t, ht, _, _⟩ := hm.there
  refine ⟨.ref a, upd H a (exo a C none), I.laidN hm.keeps hm.new hn (exo_ok ht), rfl, h _ _ (Ex.new hn) ⟨a, rfl, .inl upd_same⟩⟩
end L2

set_option Elab.async false
set_option linter.all false
set_option maxRecDepth 100000
set_option maxHeartbeats 4000000
namespace K30
open PySem PySem.Spec PyProof.Rows L2 Evl
def top (i : Nat) : Stmt := PySem.Challenge.pw_deepstands_k30_refusals_by_hand.main.body.getD i (.Pass ⟨0, 0, 0, 0⟩)
abbrev sAt : Stmt := top 25
abbrev sMixed : Stmt := top 26
abbrev sPurse : Stmt := top 27
abbrev sDraw : Stmt := top 28
abbrev sBare : Stmt := top 29
abbrev sPlaces : Stmt := top 30
abbrev sNamed : Stmt := top 31
abbrev sBeside : Stmt := top 32
abbrev sLeft : Stmt := top 33
abbrev sClasses : Stmt := top 34
abbrev sLaw : Stmt := top 35
/-- the built-in names that the law uses are the built-in ones -/
structure Bl (mg : Str → Option Value) : Prop where
  len : mg "len" = none
  max : mg "max" = none
  range : mg "range" = none
  str : mg "str" = none
  isi : mg "isinstance" = none
  enum : mg "enumerate" = none
  ve : mg "ValueError" = none
theorem op_powB {X : Cx} : OpR X (binaryOp .Pow) (rI (fun i j => 0 ≤ j ∧ (Builtin.Int.intBits i : Int) * j ≤ 2 ^ 27) fun i j => .int (i ^ j.toNat)) := opI fun _ _ _ _ _ _ _ hc q => pow_int hc.1 hc.2 q
theorem ev_bits {σ : L2.St} {H : Hp} {te : TE} {i : Int} (h : Ev te σ H (.int i)) : Ev (tBits te) σ H (.int (Builtin.Int.intBits i : Nat)) := fun H1 e Q q => h H1 e _ fun H2 e2 => ⟨i, rfl, q H2 e2⟩
section
variable {P : Program} {w : World} {K : PySem.W.Frag} {mg : Str → Option Value} {base : Heap}
/-! ### _law_at -/
def spAt (K : PySem.W.Frag) : Sp := fun vs H Q _ => ∃ (a : Addr) (ns : List Int) (k : Int), vs = [.ref a, .int k] ∧ SqL K H a (ns.map V.int) ∧ 0 ≤ k ∧ ∀ n : Int, RetV (.int n) H Q
theorem scAt : FnScope ["_law_script", "_law_k"] ["_law_script", "_law_k"] (defScope sAt) := ⟨rfl, rfl, rfl, by decide +kernel, rfl, by decide +kernel, by decide +kernel⟩
theorem ok_at {f : Addr} {fd : FuncData} (F : Fun K "_law_at" "_law_at" sAt f fd) (B : Bl mg) : FnOk P w K mg base CX0 1 f fd ["_law_script", "_law_k"] (spAt K) := by
  refine F.ok scAt (fun vs H Q E h => ?_) (fun cdv A outer s H vs Q E hr h => ?_)
  · obtain ⟨a, ns, k, rfl, _⟩ := h
    rfl
  · obtain ⟨a, ns, k, rfl, hS, h0, q⟩ := h
    refine ⟨_, pss_cons (ps_if (pt_cmpR op_lt (pv 1) (pe_callB call_len_seq (by rfl) B.len PySem.boot_len (pa_cons (pv 0) pa_nil)) (nomark _)) (pss_one (ps_ret (pe_ix ix_list (pv 0) (pv 1) (fun _ _ => rfl)))) pss_nil) (pss_one (ps_ret pe_int)), ?_⟩
    refine q_when (b := decide (k < (ns.map V.int).length)) (et_test (ev_op (ev_var rfl) (ev_len (ev_var rfl) hS) rv_I0)) (fun hb H1 e1 => ?_) (fun _ H1 e1 => ?_)
    · have hlt : k < (ns.map V.int).length := of_decide_eq_true hb
      rw [List.length_map] at hlt
      obtain ⟨j, rfl⟩ : ∃ j : Nat, k = (j : Int) := ⟨k.toNat, by omega⟩
      have hj : j < ns.length := by omega
      refine s_ret (v := .int ns[j]) (ev_op (ev_var rfl) (ev_var rfl) (rv_ixL (ex_l e1 hS) (atI_nat (by rw [List.getElem?_map, List.getElem?_eq_getElem hj]; rfl)))) fun H2 e2 => (q _).go (e1.trans e2)
    · exact s_ret ev_c fun H2 e2 => (q 0).go (e1.trans e2)
/-! ### _law_mixed -/
def spMixed : Sp := fun vs H Q _ => ∃ (c k : Int), vs = [.int c, .int k] ∧ 0 ≤ c ∧ c < 2147483647 ∧ 0 ≤ k ∧ k < 1000000 ∧ ∀ r : Int, 0 ≤ r → r < 2147483587 → RetV (.int r) H Q
theorem scMixed : FnScope ["_law_cell", "_law_k", "_law_figure"] ["_law_cell", "_law_k"] (defScope sMixed) := ⟨rfl, rfl, rfl, by decide +kernel, rfl, by decide +kernel, by decide +kernel⟩
theorem ok_mixed {f : Addr} {fd : FuncData} (F : Fun K "_law_mixed" "_law_mixed" sMixed f fd) : FnOk P w K mg base CX0 1 f fd ["_law_cell", "_law_k"] spMixed := by
  refine F.ok scMixed (fun vs H Q E h => ?_) (fun cdv A outer s H vs Q E hr h => ?_)
  · obtain ⟨c, k, rfl, _⟩ := h
    rfl
  · obtain ⟨c, k, rfl, c0, c1, k0, k1, q⟩ := h
    refine ⟨_, pss_cons (ps_set (i := 2) scMixed.nd rfl (.inl rfl) (pe_op op_mod (pe_op op_add (pe_op op_add (pe_op op_add (pe_op op_mul (pv 0) pe_int) (pe_op op_mul (pe_op op_mul pe_int (pv 1)) (pv 1))) (pv 1)) pe_int) pe_int))
      (pss_cons (ps_set (i := 2) scMixed.nd rfl (.inl rfl) (pe_op op_mod (pe_op op_add (pe_op op_mul (pv 2) (pv 2)) pe_int) pe_int))
      (pss_one (ps_ret (pe_op op_mod (pe_op op_mul (pv 2) pe_int) pe_int)))), ?_⟩
    have hk : -(2 ^ 64) < k ∧ k < 2 ^ 64 := by omega
    refine q_asg (v := .int _) (ev_op (ev_op (ev_op (ev_op (ev_op (ev_var rfl) ev_c (rv_I (.inl (by omega)))) (ev_op (ev_op ev_c (ev_var rfl) (rv_I (.inr hk))) (ev_var rfl) (rv_I (.inr hk))) rv_I0) (ev_var rfl) rv_I0) ev_c rv_I0) ev_c (rv_I (by decide))) fun H1 e1 => ?_
    generalize hx : (c * 1103515245 + 7919 * k * k + k + 1) % 2147483647 = x
    have x0 : 0 ≤ x := by rw [← hx]; exact Int.emod_nonneg _ (by decide)
    have x1 : x < 2147483647 := by rw [← hx]; exact Int.emod_lt_of_pos _ (by decide)
    refine q_asg (v := .int _) (ev_op (ev_op (ev_op (ev_var rfl) (ev_var rfl) (rv_I (.inl (by omega)))) ev_c rv_I0) ev_c (rv_I (by decide))) fun H2 e2 => ?_
    generalize hy : (x * x + 69621) % 2147483629 = y
    have y0 : 0 ≤ y := by rw [← hy]; exact Int.emod_nonneg _ (by decide)
    have y1 : y < 2147483629 := by rw [← hy]; exact Int.emod_lt_of_pos _ (by decide)
    refine s_ret (v := .int (y * 48271 % 2147483587)) (ev_op (ev_op (ev_var rfl) ev_c (rv_I (.inl (by omega)))) ev_c (rv_I (by decide))) fun H3 e3 => (q _ (Int.emod_nonneg _ (by decide)) (Int.emod_lt_of_pos _ (by decide))).go ((e1.trans e2).trans e3)
/-! ### _law_purse -/
/-- a purse at p: the rest of the cell, the cell's residue, how far it is drawn -/
def PurseAt (H : Hp) (p : Addr) (z : Int) : Prop := ∃ x y : Int, H p = some (.lst [.int x, .int y, .int z]) ∧ 0 ≤ x ∧ 0 ≤ y ∧ y < 2147483647
def spPurse (K : PySem.W.Frag) : Sp := fun vs H Q _ => ∃ (a : Addr) (ns : List Int) (k : Int), vs = [.ref a, .int k] ∧ SqL K H a (ns.map V.int) ∧ 0 ≤ k ∧ k < 4 ∧
  ∀ p H', H p = none → Ex H H' → PurseAt H' p (1000 * k) → Q (.ref p) H'
theorem scPurse : FnScope ["_law_script", "_law_at_here", "_law_cell"] ["_law_script", "_law_at_here"] (defScope sPurse) := ⟨rfl, rfl, rfl, by decide +kernel, rfl, by decide +kernel, by decide +kernel⟩
theorem ok_purse {f fA : Addr} {fd fdA : FuncData} (F : Fun K "_law_purse" "_law_purse" sPurse f fd) (FA : Fun K "_law_at" "_law_at" sAt fA fdA) (bA : Binds K fdA ["_law_script", "_law_k"] []) (mA : mg "_law_at" = some (.ref fA)) (B : Bl mg) :
    FnOk P w K mg base CX0 2 f fd ["_law_script", "_law_at_here"] (spPurse K) := by
  have GA : FnOk P w K mg base CX0 1 fA fdA ["_law_script", "_law_k"] (spAt K) := ok_at FA B
  refine F.ok scPurse (fun vs H Q E h => ?_) (fun cdv A outer s H vs Q E hr h => ?_)
  · obtain ⟨a, ns, k, rfl, _⟩ := h
    rfl
  · obtain ⟨a, ns, k, rfl, hS, h0, h4, q⟩ := h
    refine ⟨_, pss_cons (ps_set (i := 2) scPurse.nd rfl (.inl rfl) (pe_call GA hr rfl mA FA.kp bA .nil pass0 (pa_cons (pv 0) (pa_cons (pv 1) pa_nil))))
      (pss_one (ps_ret (pe_lst (pa_cons (pe_op op_mod (pe_callB (call_max2 rfl) (by rfl) B.max (by decide +kernel) (pa_cons (pe_op op_sub (pv 2) (pe_op op_pow pe_int pe_int)) (pa_cons pe_int pa_nil))) (pe_op op_powB (pe_op op_pow pe_int pe_int) pe_int))
        (pa_cons (pe_op op_mod (pv 2) pe_int) (pa_cons (pe_op op_mul pe_int (pv 1)) pa_nil)))))), ?_⟩
    refine ⟨_, rfl, _, rfl, a, ns, k, rfl, hS, h0, fun n H1 e1 => ?_⟩
    generalize hm : ((10 : Int) ^ (60 : Int).toNat) ^ (10 : Int).toNat = m
    have m0 : 0 < m := by rw [← hm]; decide +kernel
    refine s_retL (xs := [.int ((if (0 : Int) > n - 10 ^ (18 : Int).toNat then 0 else n - 10 ^ (18 : Int).toNat) % m), .int (n % 2147483647), .int (1000 * k)]) (el_lst (ea_cons (ev_op (ev_max2 (ev_op (ev_var rfl) (ev_op ev_c ev_c (rv_I (by unfold CPow; decide))) rv_I0) ev_c) (ev_is (ev_op (ev_op ev_c ev_c (rv_I (by unfold CPow; decide))) ev_c (rv_I (by decide +kernel))) (congrArg V.int hm)) (rv_I (C := fun _ j => 0 < j) m0))
      (ea_cons (ev_op (ev_var rfl) ev_c (rv_I (by decide))) (ea_cons (ev_op ev_c (ev_var rfl) (rv_I (.inl (by decide)))) ea_nil))) (by show 3 ≤ 100000; decide)) fun p H2 np e2 hp => ?_
    refine q p H2 (fresh_back e1 np) (e1.trans e2) ⟨_, _, hp, Int.emod_nonneg _ (by omega), Int.emod_nonneg _ (by decide), Int.emod_lt_of_pos _ (by decide)⟩
/-! ### _law_draw -/
def spDraw : Sp := fun vs H Q _ => ∃ (p : Addr) (m z : Int), vs = [.ref p, .int m] ∧ (m = 1000 ∨ m = 9 ∨ m = 10) ∧ PurseAt H p z ∧ 0 ≤ z ∧ z < 900000 ∧
  ∀ (d z' : Int) (H' : Hp), 0 ≤ d → d < m → z ≤ z' → z' ≤ z + 1 → (∀ b o, b ≠ p → H b = some o → H' b = some o) → PurseAt H' p z' → Q (.int d) H'
theorem scDraw : FnScope ["_law_purse_here", "_law_out_of", "_law_drawn", "_law_figure", "_law_k"] ["_law_purse_here", "_law_out_of"] (defScope sDraw) := ⟨rfl, rfl, rfl, by decide +kernel, rfl, by decide +kernel, by decide +kernel⟩
theorem ok_draw {f fM : Addr} {fd fdM : FuncData} (F : Fun K "_law_draw" "_law_draw" sDraw f fd) (FM : Fun K "_law_mixed" "_law_mixed" sMixed fM fdM) (bM : Binds K fdM ["_law_cell", "_law_k"] []) (mM : mg "_law_mixed" = some (.ref fM)) (B : Bl mg) :
    FnOk P w K mg base CX0 2 f fd ["_law_purse_here", "_law_out_of"] spDraw := by
  have GM : FnOk P w K mg base CX0 1 fM fdM ["_law_cell", "_law_k"] spMixed := ok_mixed FM
  refine F.ok scDraw (fun vs H Q E h => ?_) (fun cdv A outer s H vs Q E hr h => ?_)
  · obtain ⟨p, m, z, rfl, _⟩ := h
    rfl
  · obtain ⟨p, m, z, rfl, hm, ⟨x, y, hp, x0, y0, y1⟩, z0, z1, q⟩ := h
    have m0 : 0 < m := by omega
    have m1 : m ≤ 1000 := by omega
    have mb : (Builtin.Int.intBits m : Nat) ≤ 10 := by rcases hm with rfl | rfl | rfl <;> decide +kernel
    refine ⟨_, pss_cons (ps_if (pt_cmpR op_gt (pe_ix ix_list (pv 0) pe_int (fun _ _ => rfl)) pe_int (nomark _))
        (pss_cons (ps_set (i := 2) scDraw.nd rfl (.inl rfl) (pe_op op_mod (pe_ix ix_list (pv 0) pe_int (fun _ _ => rfl)) (pv 1)))
        (pss_cons (ps_asg (pe_op op_fdiv (pe_ix ix_list (pv 0) pe_int (fun _ _ => rfl)) (pv 1)) (pg_sub (pv 0) pe_int set_list))
        (pss_one (ps_ret (pv 2))))) pss_nil)
      (pss_cons (ps_set (i := 3) scDraw.nd rfl (.inl rfl) pe_int)
      (pss_cons (ps_for PassesOwn.never rfl (pi_range1 rfl B.range (pa_cons (pe_op op_add pe_int (pe_op op_fdiv (pe_bits (pv 1)) pe_int)) pa_nil)) (pg_name (i := 4) scDraw.nd rfl (.inl rfl))
        (pss_cons (ps_asg (pe_op op_add (pe_ix ix_list (pv 0) pe_int (fun _ _ => rfl)) pe_int) (pg_sub (pv 0) pe_int set_list))
        (pss_one (ps_set (i := 3) scDraw.nd rfl (.inl rfl) (pe_op op_add (pe_op op_mul (pv 3) pe_int) (pe_call GM hr rfl mM FM.kp bM .nil pass0 (pa_cons (pe_ix ix_list (pv 0) pe_int (fun _ _ => rfl)) (pa_cons (pe_ix ix_list (pv 0) pe_int (fun _ _ => rfl)) pa_nil))))))))
      (pss_one (ps_ret (pe_op op_mod (pv 3) (pv 1)))))), ?_⟩
    have i0 : ∀ {H' : Hp} {a b c : V}, H' p = some (.lst [a, b, c]) → ∀ {σ : L2.St}, σ[0]? = some (some (.ref p)) → Ev (tOp (rIxL K) (tVar 0) (tC (.int 0))) σ H' a := fun hh _ hs => ev_op (ev_var hs) ev_c (rv_ixL (sq_of hh) rfl)
    have i1 : ∀ {H' : Hp} {a b c : V}, H' p = some (.lst [a, b, c]) → ∀ {σ : L2.St}, σ[0]? = some (some (.ref p)) → Ev (tOp (rIxL K) (tVar 0) (tC (.int 1))) σ H' b := fun hh _ hs => ev_op (ev_var hs) ev_c (rv_ixL (sq_of hh) rfl)
    have i2 : ∀ {H' : Hp} {a b c : V}, H' p = some (.lst [a, b, c]) → ∀ {σ : L2.St}, σ[0]? = some (some (.ref p)) → Ev (tOp (rIxL K) (tVar 0) (tC (.int 2))) σ H' c := fun hh _ hs => ev_op (ev_var hs) ev_c (rv_ixL (sq_of hh) rfl)
    -- if purse[0] > 0
    refine q_when (b := decide (0 < x)) (et_test (ev_op (i0 hp rfl) ev_c rv_I0)) (fun _ H1 e1 => ?_) (fun _ H1 e1 => ?_)
    · have hp1 := e1 p _ hp
      refine q_asg (v := .int (x % m)) (ev_op (i0 hp1 rfl) (ev_var rfl) (rv_I (C := fun _ j => 0 < j) m0)) fun H2 e2 => ?_
      have hp2 := e2 p _ hp1
      refine s_setL (D := { nx := _, rt := Q }) (j := 0) (v := .int (x / m)) hp2 (ev_op (i0 hp2 rfl) (ev_var rfl) (rv_I (C := CDiv) ⟨m0, by omega⟩)) (ev_var rfl) ev_c (by show 0 < 3; decide) fun H3 e3 => ?_
      refine s_ret (v := .int (x % m)) (ev_var rfl) fun H4 e4 => ?_
      refine q _ z H4 (Int.emod_nonneg _ (by omega)) (Int.emod_lt_of_pos _ m0) (by omega) (by omega) (fun b o hb ho => e4 b o ?_) ⟨x / m, y, e4 p _ upd_same, Int.ediv_nonneg x0 (by omega), y0, y1⟩
      rw [upd_ne hb]
      exact e3 b o (e2 b o (e1 b o ho))
    · have hp1 := e1 p _ hp
      refine q_asg (v := .int 0) ev_c fun H2 e2 => ?_
      have hp2 := e2 p _ hp1
      have hb30 : (((Builtin.Int.intBits m : Nat) : Int)) / 30 = 0 := by omega
      refine q_forR1 (n := 1) (Pv := fun i σ H' => (∀ b o, b ≠ p → H b = some o → H' b = some o) ∧ ∃ (fg : Int) (v4 : Option V), 0 ≤ fg ∧ σ = [some (.ref p), some (.int m), none, some (.int fg), v4] ∧ ((i = 0 ∧ fg = 0 ∧ H' p = some (.lst [.int x, .int y, .int z])) ∨ (i = 1 ∧ H' p = some (.lst [.int x, .int y, .int (z + 1)]))))
        (ea_cons (ev_is (ev_op ev_c (ev_op (ev_bits (ev_var rfl)) ev_c (rv_I (C := CDiv) ⟨by decide, by decide⟩)) rv_I0) (by rw [hb30]; rfl)) ea_nil) (by decide) (fun H3 e3 => ?_) (fun i σ' H' hi hW => ?_) (fun σ' H' hW => ?_)
      · exact ⟨fun b o _ ho => e3 b o (e2 b o (e1 b o ho)), 0, none, by decide, rfl, .inl ⟨rfl, rfl, e3 p _ hp2⟩⟩
      · obtain ⟨hk, fg, v4, f0, rfl, hc⟩ := hW
        have hi0 : i = 0 := by omega
        subst hi0
        rcases hc with ⟨_, rfl, hpH⟩ | ⟨h, _⟩
        · refine s_setL (D := { nx := _, rt := Q, bk := _, ct := _ }) (j := 2) (v := .int (z + 1)) hpH (ev_op (i2 hpH rfl) ev_c rv_I0) (ev_var rfl) ev_c (by show 2 < 3; decide) fun H3 e3 => ?_
          have hp3 : (upd H3 p (.lst [.int x, .int y, .int (z + 1)])) p = some (.lst [.int x, .int y, .int (z + 1)]) := upd_same
          refine (ev_op (z := .int (0 * 2147483587)) (ev_var rfl) ev_c (rv_I (.inl (by decide)))) _ (Ex.refl _) _ fun H4 e4 => ?_
          have hp4 := e4 p _ hp3
          refine (ea_cons (i1 hp4 rfl) (ea_cons (i2 hp4 rfl) ea_nil)) _ (Ex.refl _) _ fun H5 e5 => ?_
          refine ⟨y, z + 1, rfl, y0, y1, by omega, by omega, fun r r0 r1 H6 e6 => ?_⟩
          refine ⟨_, _, rfl, rfl, ?_⟩
          refine ⟨fun b o hb ho => e6 b o (e5 b o (e4 b o ?_)), 0 * 2147483587 + r, some (.int ((0 : Nat) : Int)), by omega, rfl, .inr ⟨rfl, e6 p _ (e5 p _ hp4)⟩⟩
          have := e3 b o (hk b o hb ho)
          rw [upd_ne hb]
          exact this
        · omega
      · obtain ⟨hk, fg, v4, f0, rfl, hc⟩ := hW
        rcases hc with ⟨h, _⟩ | ⟨_, hpH⟩
        · exact absurd h (by decide)
        · refine s_ret (v := .int (fg % m)) (ev_op (ev_var rfl) (ev_var rfl) (rv_I (C := fun _ j => 0 < j) m0)) fun H4 e4 => ?_
          exact q _ (z + 1) H4 (Int.emod_nonneg _ (by omega)) (Int.emod_lt_of_pos _ m0) (by omega) (by omega) (fun b o hb ho => e4 b o (hk b o hb ho)) ⟨x, y, e4 p _ hpH, x0, y0, y1⟩
end
end K30

set_option Elab.async false
set_option linter.all false
set_option maxRecDepth 100000
set_option maxHeartbeats 4000000
namespace K30
open PySem PySem.Spec PyProof.Rows L2 Evl
/-! ### data that are equal to themselves -/
mutual
theorem dp_mono {K : PySem.W.Frag} {H H' : Hp} (e : Ex H H') : ∀ (d : PyData) (v : V), Dp K H v d → Dp K H' v d
  | .none, _, h => by cases h; exact .non
  | .bool b, _, h => by cases h; exact .bl b
  | .int i, _, h => by cases h; exact .int i
  | .str x, _, h => by cases h; exact .str x
  | .list ds, _, h => by
    cases h with
    | lst hs ha => exact .lst (ex_l e hs) (dp_monoAll e ds _ ha)
  | .tuple ds, _, h => by
    cases h with
    | tup hs ha => exact .tup (ex_t e hs) (dp_monoAll e ds _ ha)
  | .dict _, _, h => by cases h
theorem dp_monoAll {K : PySem.W.Frag} {H H' : Hp} (e : Ex H H') : ∀ (ds : List PyData) (vs : List V), DpAll K H vs ds → DpAll K H' vs ds
  | [], _, h => by cases h; exact .nil
  | d :: ds, _, h => by
    cases h with
    | cons h1 h2 => exact .cons (dp_mono e d _ h1) (dp_monoAll e ds _ h2)
end
/-- v is of data that may be compared -/
def DV (K : PySem.W.Frag) (H : Hp) (v : V) : Prop := ∃ d : PyData, Dp K H v d ∧ d.canLay0 = true ∧ d.depth ≤ 8
theorem DV.mono {K : PySem.W.Frag} {H H' : Hp} {v : V} (e : Ex H H') (h : DV K H v) : DV K H' v := by
  obtain ⟨d, h1, h2⟩ := h
  exact ⟨d, dp_mono e d v h1, h2⟩
inductive DVs (K : PySem.W.Frag) (H : Hp) : List V → Prop
  | nil : DVs K H []
  | cons {v : V} {vs : List V} : DV K H v → DVs K H vs → DVs K H (v :: vs)
theorem dvs_data {K : PySem.W.Frag} {H : Hp} {vs : List V} (h : DVs K H vs) : ∃ ds, DpAll K H vs ds ∧ PyData.canLayAll0 ds = true ∧ ∀ d ∈ ds, PyData.depth d ≤ 8 := by
  induction h with
  | nil => exact ⟨[], .nil, rfl, fun d hd => nomatch hd⟩
  | cons h1 _ ih =>
    obtain ⟨d, a, b, c⟩ := h1
    obtain ⟨ds, a2, b2, c2⟩ := ih
    refine ⟨d :: ds, .cons a a2, by simp [PyData.canLayAll0, b, b2], fun x hx => ?_⟩
    rcases List.mem_cons.mp hx with rfl | hx
    · exact c
    · exact c2 x hx
theorem depth_all {ds : List PyData} (h : ∀ d ∈ ds, PyData.depth d ≤ 8) : PyData.depth (.list ds) ≤ 64 := by
  have k : ∀ ds : List PyData, (∀ d ∈ ds, PyData.depth d ≤ 8) → PyData.depthAll ds ≤ 8 := by
    intro ds
    induction ds with
    | nil => intro _; simp [PyData.depthAll]
    | cons x xs ih =>
      intro h
      have h1 := h x List.mem_cons_self
      have h2 := ih fun d hd => h d (List.mem_cons_of_mem _ hd)
      simp only [PyData.depthAll]
      omega
  have := k ds h
  simp only [PyData.depth]
  omega
/-- two lists of the same such values are equal -/
theorem rv_same {K : PySem.W.Frag} {H : Hp} {p q : Addr} {xs : List V} (hp : H p = some (.lst xs)) (hq : H q = some (.lst xs)) (h : DVs K H xs) : RV (rEqD K) (.ref p) (.ref q) H (.bl true) := fun H1 e _ k => by
  obtain ⟨ds, a, b, c⟩ := dvs_data h
  have hs : SeqAt.shaped (.list ds) = true := by
    unfold SeqAt.shaped
    rw [Bool.and_eq_true]
    exact ⟨by simpa [PyData.canLay0] using b, decide_eq_true (depth_all c)⟩
  have hd := dp_monoAll e ds _ a
  refine ⟨.list ds, .list ds, .lst (sq_of (e p _ hp)) hd, .lst (sq_of (e q _ hq)) hd, hs, hs, ?_⟩
  have he : PyData.eqv (.list ds) (.list ds) = true := SeqAt.eqv_refl_plain _ (PyData.plain_of_canLay0 _ (SeqAt.canLay_of_shaped hs))
  rw [he]
  exact k H1 (Ex.refl H1)
theorem dvs_rep {K : PySem.W.Frag} {H : Hp} {a : V} (h : DV K H a) : ∀ n : Nat, DVs K H (List.replicate n a)
  | 0 => .nil
  | n + 1 => .cons h (dvs_rep h n)
theorem lk1 {f : Str} {y : V} {fs : List (Str × V)} : ((f, y) :: fs).lookup f = some y := by simp [List.lookup]
theorem lk2b {f g : Str} {y z : V} (h : f ≠ g) : [(g, z), (f, y)].lookup f = some y := by
  have e : (f == g) = false := by simpa using h
  simp [List.lookup, e]

theorem ne11 : ("fact" : Str) ≠ "stand" := by decide
theorem ne12 : ("row" : Str) ≠ "column" := by decide
theorem ne18 : ("one" : Str) ≠ "other" := by decide
theorem ne23 : ("title" : Str) ≠ "wrong" := by decide
/-- the classes with fields -/
structure Cs (P : Program) (w : World) (K : PySem.W.Frag) (mg : Str → Option Value) (base : Heap) (C : Nat → Addr) : Prop where
  c8 : XC1 P w K mg base "NoChart" "wrong" (C 8)
  c9 : XC1 P w K mg base "NoStanding" "wrong" (C 9)
  c10 : XC1 P w K mg base "NoHappening" "what" (C 10)
  c11 : XC2 P w K mg base "Beyond" "fact" "stand" (C 11)
  c12 : XC2 P w K mg base "NoText" "row" "column" (C 12)
  c13 : XC1 P w K mg base "NoName" "name" (C 13)
  c14 : XC1 P w K mg base "NoMove" "number" (C 14)
  c15 : XC1 P w K mg base "NoSaying" "wrong" (C 15)
  c16 : XC1 P w K mg base "TooGreat" "most" (C 16)
  c17 : XC1 P w K mg base "Gone" "name" (C 17)
  c18 : XC2 P w K mg base "Apart" "one" "other" (C 18)
  c19 : XC1 P w K mg base "Moved" "name" (C 19)
  c20 : XC1 P w K mg base "NoTitle" "title" (C 20)
  c21 : XC1 P w K mg base "Taken" "title" (C 21)
  c22 : XC1 P w K mg base "NoRun" "title" (C 22)
  c23 : XC2 P w K mg base "NoLead" "title" "wrong" (C 23)
section
variable {P : Program} {w : World} {K : PySem.W.Frag} {mg : Str → Option Value} {base : Heap} {C : Nat → Addr}
def spTwo (K : PySem.W.Frag) : Sp := fun vs H Q _ => ∃ a b : V, vs = [a, b] ∧ DV K H a ∧ RetV (.bl true) H Q
theorem scPlaces : FnScope ["_law_a", "_law_b", "_law_found", "_law_behind"] ["_law_a", "_law_b"] (defScope sPlaces) := ⟨rfl, rfl, rfl, by decide +kernel, rfl, by decide +kernel, by decide +kernel⟩
theorem ok_places {f : Addr} {fd : FuncData} (F : Fun K "_law_places" "_law_places" sPlaces f fd) (c : Cs P w K mg base C) : FnOk P w K mg base CX0 3 f fd ["_law_a", "_law_b"] (spTwo K) := by
  obtain ⟨c8, c9, c10, c11, c12, c13, c14, c15, c16, c17, c18, c19, c20, c21, c22, c23⟩ := c
  refine F.ok scPlaces (fun vs H Q E h => ?_) (fun cdv A outer s H vs Q E hr h => ?_)
  · obtain ⟨a, b, rfl, _⟩ := h
    rfl
  · obtain ⟨a, b, rfl, hd, q⟩ := h
    refine ⟨_, (pss_cons (ps_set (i := 2) scPlaces.nd rfl (.inl rfl) (pe_lst (pa_cons (pe_xf c8.A (pe_1p c8 hr (pv 0))) (pa_cons (pe_xf c9.A (pe_1p c9 hr (pv 0))) (pa_cons (pe_xf c10.A (pe_1p c10 hr (pv 0))) (pa_cons (pe_xf c13.A (pe_1p c13 hr (pv 0))) (pa_cons (pe_xf c14.A (pe_1p c14 hr (pv 0))) pa_nil)))))))
      (pss_cons (ps_set (i := 2) scPlaces.nd rfl (.inl rfl) (pe_op op_cat (pv 2) (pe_lst (pa_cons (pe_xf c15.A (pe_1p c15 hr (pv 0))) (pa_cons (pe_xf c16.A (pe_1p c16 hr (pv 0))) (pa_cons (pe_xf c17.A (pe_1p c17 hr (pv 0))) (pa_cons (pe_xf c19.A (pe_1p c19 hr (pv 0))) (pa_cons (pe_xf c20.A (pe_1p c20 hr (pv 0))) pa_nil))))))))
      (pss_cons (ps_set (i := 2) scPlaces.nd rfl (.inl rfl) (pe_op op_cat (pv 2) (pe_lst (pa_cons (pe_xf c21.A (pe_1p c21 hr (pv 0))) (pa_cons (pe_xf c22.A (pe_1p c22 hr (pv 0))) (pa_cons (pe_xf c11.A (pe_2pp c11 hr (pv 0) (pv 1))) (pa_cons (pe_xf c12.A (pe_2pp c12 hr (pv 0) (pv 1))) (pa_cons (pe_xf c18.A (pe_2pp c18 hr (pv 0) (pv 1))) pa_nil))))))))
      (pss_cons (ps_set (i := 2) scPlaces.nd rfl (.inl rfl) (pe_op op_cat (pv 2) (pe_lst (pa_cons (pe_xf c23.A (pe_2pp c23 hr (pv 0) (pv 1))) (pa_cons (pe_xf c11.A (pe_2p c11 hr (pv 0))) (pa_cons (pe_xf c12.A (pe_2p c12 hr (pv 0))) (pa_cons (pe_xf c18.A (pe_2p c18 hr (pv 0))) (pa_cons (pe_xf c23.A (pe_2p c23 hr (pv 0))) pa_nil))))))))
      (pss_cons (ps_set (i := 3) scPlaces.nd rfl (.inl rfl) (pe_lst (pa_cons (pe_xf c11.B (pe_2pp c11 hr (pv 1) (pv 0))) (pa_cons (pe_xf c12.B (pe_2pp c12 hr (pv 1) (pv 0))) (pa_cons (pe_xf c18.B (pe_2pp c18 hr (pv 1) (pv 0))) (pa_cons (pe_xf c23.B (pe_2pp c23 hr (pv 1) (pv 0))) pa_nil))))))
      (pss_one (ps_ret (pe_and (pe_cmpR (op_eqD hr.units) (pv 2) (pe_op op_rep (pe_lst (pa_cons (pv 0) pa_nil)) pe_int) (nomark _)) (pe_one (pe_cmpR (op_eqD hr.units) (pv 3) (pe_op op_rep (pe_lst (pa_cons (pv 0) pa_nil)) pe_int) (nomark _))))))))))), ?_⟩
    refine q_asgL (xs := [a, a, a, a, a]) (el_lst (ea_cons (ev_xf (ee_1 (ev_var rfl)) lk1) (ea_cons (ev_xf (ee_1 (ev_var rfl)) lk1) (ea_cons (ev_xf (ee_1 (ev_var rfl)) lk1) (ea_cons (ev_xf (ee_1 (ev_var rfl)) lk1) (ea_cons (ev_xf (ee_1 (ev_var rfl)) lk1) ea_nil))))) (by show 5 ≤ 100000; decide)) fun p1 H1 n1 e1 h1 => ?_
    refine q_asgL (xs := [a, a, a, a, a, a, a, a, a, a]) (el_catK (ev_var rfl) h1 (el_lst (ea_cons (ev_xf (ee_1 (ev_var rfl)) lk1) (ea_cons (ev_xf (ee_1 (ev_var rfl)) lk1) (ea_cons (ev_xf (ee_1 (ev_var rfl)) lk1) (ea_cons (ev_xf (ee_1 (ev_var rfl)) lk1) (ea_cons (ev_xf (ee_1 (ev_var rfl)) lk1) ea_nil))))) (by show 5 ≤ 100000; decide)) (by show 5 + 5 ≤ 100000; decide)) fun p2 H2 n2 e2 h2 => ?_
    refine q_asgL (xs := [a, a, a, a, a, a, a, a, a, a, a, a, a, a, a]) (el_catK (ev_var rfl) h2 (el_lst (ea_cons (ev_xf (ee_1 (ev_var rfl)) lk1) (ea_cons (ev_xf (ee_1 (ev_var rfl)) lk1) (ea_cons (ev_xf (ee_2 (ev_var rfl) (ev_var rfl)) (lk2b ne11)) (ea_cons (ev_xf (ee_2 (ev_var rfl) (ev_var rfl)) (lk2b ne12)) (ea_cons (ev_xf (ee_2 (ev_var rfl) (ev_var rfl)) (lk2b ne18)) ea_nil))))) (by show 5 ≤ 100000; decide)) (by show 10 + 5 ≤ 100000; decide)) fun p3 H3 n3 e3 h3 => ?_
    refine q_asgL (xs := [a, a, a, a, a, a, a, a, a, a, a, a, a, a, a, a, a, a, a, a]) (el_catK (ev_var rfl) h3 (el_lst (ea_cons (ev_xf (ee_2 (ev_var rfl) (ev_var rfl)) (lk2b ne23)) (ea_cons (ev_xf (ee_2f (ev_var rfl)) (lk2b ne11)) (ea_cons (ev_xf (ee_2f (ev_var rfl)) (lk2b ne12)) (ea_cons (ev_xf (ee_2f (ev_var rfl)) (lk2b ne18)) (ea_cons (ev_xf (ee_2f (ev_var rfl)) (lk2b ne23)) ea_nil))))) (by show 5 ≤ 100000; decide)) (by show 15 + 5 ≤ 100000; decide)) fun p4 H4 n4 e4 h4 => ?_
    refine q_asgL (xs := [a, a, a, a]) (el_lst (ea_cons (ev_xf (ee_2 (ev_var rfl) (ev_var rfl)) lk1) (ea_cons (ev_xf (ee_2 (ev_var rfl) (ev_var rfl)) lk1) (ea_cons (ev_xf (ee_2 (ev_var rfl) (ev_var rfl)) lk1) (ea_cons (ev_xf (ee_2 (ev_var rfl) (ev_var rfl)) lk1) ea_nil)))) (by show 4 ≤ 100000; decide)) fun p5 H5 n5 e5 h5 => ?_
    refine s_ret (v := .bl true) (ev_andV (a := true) (b := true) (ev_opL (ev_var rfl) (el_rep (k := 20) (el_lst (ea_cons (ev_var rfl) ea_nil) (by show 1 ≤ 100000; decide)) ev_c (by decide) (by show 1 * 20 ≤ 100000; decide)) fun q H' hq e' => rv_same (e' _ _ (e5 _ _ h4)) hq (dvs_rep (DV.mono (Ex.trans (Ex.trans (Ex.trans (Ex.trans (Ex.trans e1 e2) e3) e4) e5) e') hd) 20)) fun _ => (ev_opL (ev_var rfl) (el_rep (k := 4) (el_lst (ea_cons (ev_var rfl) ea_nil) (by show 1 ≤ 100000; decide)) ev_c (by decide) (by show 1 * 4 ≤ 100000; decide)) fun q H' hq e' => rv_same (e' _ _ h5) hq (dvs_rep (DV.mono (Ex.trans (Ex.trans (Ex.trans (Ex.trans (Ex.trans e1 e2) e3) e4) e5) e') hd) 4))) fun H9 e9 => ?_
    exact q _ (Ex.trans (Ex.trans (Ex.trans (Ex.trans (Ex.trans e1 e2) e3) e4) e5) e9)
theorem scNamed : FnScope ["_law_a", "_law_b", "_law_found", "_law_behind"] ["_law_a", "_law_b"] (defScope sNamed) := ⟨rfl, rfl, rfl, by decide +kernel, rfl, by decide +kernel, by decide +kernel⟩
theorem ok_named {f : Addr} {fd : FuncData} (F : Fun K "_law_named" "_law_named" sNamed f fd) (c : Cs P w K mg base C) : FnOk P w K mg base CX0 3 f fd ["_law_a", "_law_b"] (spTwo K) := by
  obtain ⟨c8, c9, c10, c11, c12, c13, c14, c15, c16, c17, c18, c19, c20, c21, c22, c23⟩ := c
  refine F.ok scNamed (fun vs H Q E h => ?_) (fun cdv A outer s H vs Q E hr h => ?_)
  · obtain ⟨a, b, rfl, _⟩ := h
    rfl
  · obtain ⟨a, b, rfl, hd, q⟩ := h
    refine ⟨_, (pss_cons (ps_set (i := 2) scNamed.nd rfl (.inl rfl) (pe_lst (pa_cons (pe_xf c12.A (pe_2kr c12 hr (pv 1) (pv 0))) (pa_cons (pe_xf c18.A (pe_2kr c18 hr (pv 1) (pv 0))) (pa_cons (pe_xf c11.A (pe_2kr c11 hr (pv 1) (pv 0))) pa_nil)))))
      (pss_cons (ps_set (i := 2) scNamed.nd rfl (.inl rfl) (pe_op op_cat (pv 2) (pe_lst (pa_cons (pe_xf c23.A (pe_2kr c23 hr (pv 1) (pv 0))) (pa_cons (pe_xf c8.A (pe_1k c8 hr (pv 0))) pa_nil)))))
      (pss_cons (ps_set (i := 2) scNamed.nd rfl (.inl rfl) (pe_op op_cat (pv 2) (pe_lst (pa_cons (pe_xf c16.A (pe_1k c16 hr (pv 0))) (pa_cons (pe_xf c10.A (pe_1k c10 hr (pv 0))) (pa_cons (pe_xf c17.A (pe_1k c17 hr (pv 0))) (pa_cons (pe_xf c22.A (pe_1k c22 hr (pv 0))) pa_nil)))))))
      (pss_cons (ps_set (i := 2) scNamed.nd rfl (.inl rfl) (pe_op op_cat (pv 2) (pe_lst (pa_cons (pe_xf c9.A (pe_1k c9 hr (pv 0))) (pa_cons (pe_xf c13.A (pe_1k c13 hr (pv 0))) (pa_cons (pe_xf c14.A (pe_1k c14 hr (pv 0))) pa_nil))))))
      (pss_cons (ps_set (i := 2) scNamed.nd rfl (.inl rfl) (pe_op op_cat (pv 2) (pe_lst (pa_cons (pe_xf c15.A (pe_1k c15 hr (pv 0))) (pa_cons (pe_xf c19.A (pe_1k c19 hr (pv 0))) (pa_cons (pe_xf c20.A (pe_1k c20 hr (pv 0))) (pa_cons (pe_xf c21.A (pe_1k c21 hr (pv 0))) pa_nil)))))))
      (pss_cons (ps_set (i := 3) scNamed.nd rfl (.inl rfl) (pe_lst (pa_cons (pe_xf c11.B (pe_2kr c11 hr (pv 0) (pv 1))) (pa_cons (pe_xf c12.B (pe_2kr c12 hr (pv 0) (pv 1))) (pa_cons (pe_xf c18.B (pe_2kr c18 hr (pv 0) (pv 1))) pa_nil)))))
      (pss_cons (ps_set (i := 3) scNamed.nd rfl (.inl rfl) (pe_op op_cat (pv 3) (pe_lst (pa_cons (pe_xf c23.B (pe_2kr c23 hr (pv 0) (pv 1))) (pa_cons (pe_xf c11.B (pe_2pk c11 hr (pv 1) (pv 0))) (pa_cons (pe_xf c12.B (pe_2kg c12 hr (pv 0))) pa_nil))))))
      (pss_one (ps_ret (pe_and (pe_cmpR (op_eqD hr.units) (pv 2) (pe_op op_rep (pe_lst (pa_cons (pv 0) pa_nil)) pe_int) (nomark _)) (pe_one (pe_cmpR (op_eqD hr.units) (pv 3) (pe_op op_rep (pe_lst (pa_cons (pv 0) pa_nil)) pe_int) (nomark _))))))))))))), ?_⟩
    refine q_asgL (xs := [a, a, a]) (el_lst (ea_cons (ev_xf (ee_2r (ev_var rfl) (ev_var rfl)) (lk2b ne12)) (ea_cons (ev_xf (ee_2r (ev_var rfl) (ev_var rfl)) (lk2b ne18)) (ea_cons (ev_xf (ee_2r (ev_var rfl) (ev_var rfl)) (lk2b ne11)) ea_nil))) (by show 3 ≤ 100000; decide)) fun p1 H1 n1 e1 h1 => ?_
    refine q_asgL (xs := [a, a, a, a, a]) (el_catK (ev_var rfl) h1 (el_lst (ea_cons (ev_xf (ee_2r (ev_var rfl) (ev_var rfl)) (lk2b ne23)) (ea_cons (ev_xf (ee_1 (ev_var rfl)) lk1) ea_nil)) (by show 2 ≤ 100000; decide)) (by show 3 + 2 ≤ 100000; decide)) fun p2 H2 n2 e2 h2 => ?_
    refine q_asgL (xs := [a, a, a, a, a, a, a, a, a]) (el_catK (ev_var rfl) h2 (el_lst (ea_cons (ev_xf (ee_1 (ev_var rfl)) lk1) (ea_cons (ev_xf (ee_1 (ev_var rfl)) lk1) (ea_cons (ev_xf (ee_1 (ev_var rfl)) lk1) (ea_cons (ev_xf (ee_1 (ev_var rfl)) lk1) ea_nil)))) (by show 4 ≤ 100000; decide)) (by show 5 + 4 ≤ 100000; decide)) fun p3 H3 n3 e3 h3 => ?_
    refine q_asgL (xs := [a, a, a, a, a, a, a, a, a, a, a, a]) (el_catK (ev_var rfl) h3 (el_lst (ea_cons (ev_xf (ee_1 (ev_var rfl)) lk1) (ea_cons (ev_xf (ee_1 (ev_var rfl)) lk1) (ea_cons (ev_xf (ee_1 (ev_var rfl)) lk1) ea_nil))) (by show 3 ≤ 100000; decide)) (by show 9 + 3 ≤ 100000; decide)) fun p4 H4 n4 e4 h4 => ?_
    refine q_asgL (xs := [a, a, a, a, a, a, a, a, a, a, a, a, a, a, a, a]) (el_catK (ev_var rfl) h4 (el_lst (ea_cons (ev_xf (ee_1 (ev_var rfl)) lk1) (ea_cons (ev_xf (ee_1 (ev_var rfl)) lk1) (ea_cons (ev_xf (ee_1 (ev_var rfl)) lk1) (ea_cons (ev_xf (ee_1 (ev_var rfl)) lk1) ea_nil)))) (by show 4 ≤ 100000; decide)) (by show 12 + 4 ≤ 100000; decide)) fun p5 H5 n5 e5 h5 => ?_
    refine q_asgL (xs := [a, a, a]) (el_lst (ea_cons (ev_xf (ee_2r (ev_var rfl) (ev_var rfl)) lk1) (ea_cons (ev_xf (ee_2r (ev_var rfl) (ev_var rfl)) lk1) (ea_cons (ev_xf (ee_2r (ev_var rfl) (ev_var rfl)) lk1) ea_nil))) (by show 3 ≤ 100000; decide)) fun p6 H6 n6 e6 h6 => ?_
    refine q_asgL (xs := [a, a, a, a, a, a]) (el_catK (ev_var rfl) h6 (el_lst (ea_cons (ev_xf (ee_2r (ev_var rfl) (ev_var rfl)) lk1) (ea_cons (ev_xf (ee_2 (ev_var rfl) (ev_var rfl)) lk1) (ea_cons (ev_xf (ee_2g (ev_var rfl)) lk1) ea_nil))) (by show 3 ≤ 100000; decide)) (by show 3 + 3 ≤ 100000; decide)) fun p7 H7 n7 e7 h7 => ?_
    refine s_ret (v := .bl true) (ev_andV (a := true) (b := true) (ev_opL (ev_var rfl) (el_rep (k := 16) (el_lst (ea_cons (ev_var rfl) ea_nil) (by show 1 ≤ 100000; decide)) ev_c (by decide) (by show 1 * 16 ≤ 100000; decide)) fun q H' hq e' => rv_same (e' _ _ (e7 _ _ (e6 _ _ h5))) hq (dvs_rep (DV.mono (Ex.trans (Ex.trans (Ex.trans (Ex.trans (Ex.trans (Ex.trans (Ex.trans e1 e2) e3) e4) e5) e6) e7) e') hd) 16)) fun _ => (ev_opL (ev_var rfl) (el_rep (k := 6) (el_lst (ea_cons (ev_var rfl) ea_nil) (by show 1 ≤ 100000; decide)) ev_c (by decide) (by show 1 * 6 ≤ 100000; decide)) fun q H' hq e' => rv_same (e' _ _ h7) hq (dvs_rep (DV.mono (Ex.trans (Ex.trans (Ex.trans (Ex.trans (Ex.trans (Ex.trans (Ex.trans e1 e2) e3) e4) e5) e6) e7) e') hd) 6))) fun H9 e9 => ?_
    exact q _ (Ex.trans (Ex.trans (Ex.trans (Ex.trans (Ex.trans (Ex.trans (Ex.trans e1 e2) e3) e4) e5) e6) e7) e9)
def spNil : Sp := fun vs H Q _ => vs = [] ∧ RetV (.bl true) H Q
theorem scLeft : FnScope ["_law_found"] [] (defScope sLeft) := ⟨rfl, rfl, rfl, by decide +kernel, rfl, by decide +kernel, by decide +kernel⟩
theorem ok_left {f : Addr} {fd : FuncData} (F : Fun K "_law_left_out" "_law_left_out" sLeft f fd) (c : Cs P w K mg base C) (B : Bl mg) : FnOk P w K mg base CX0 3 f fd [] spNil := by
  obtain ⟨c8, c9, c10, c11, c12, c13, c14, c15, c16, c17, c18, c19, c20, c21, c22, c23⟩ := c
  refine F.ok scLeft (fun vs H Q E h => ?_) (fun cdv A outer s H vs Q E hr h => ?_)
  · obtain ⟨rfl, _⟩ := h
    rfl
  · obtain ⟨rfl, q⟩ := h
    refine ⟨_, (pss_cons (ps_set (i := 0) scLeft.nd rfl (.inl rfl) (pe_lst (pa_cons (pe_xf c8.A (pe_10 c8 hr)) (pa_cons (pe_xf c9.A (pe_10 c9 hr)) (pa_cons (pe_xf c10.A (pe_10 c10 hr)) (pa_cons (pe_xf c13.A (pe_10 c13 hr)) (pa_cons (pe_xf c14.A (pe_10 c14 hr)) (pa_cons (pe_xf c17.A (pe_10 c17 hr)) pa_nil))))))))
      (pss_cons (ps_set (i := 0) scLeft.nd rfl (.inl rfl) (pe_op op_cat (pv 0) (pe_lst (pa_cons (pe_xf c15.A (pe_10 c15 hr)) (pa_cons (pe_xf c16.A (pe_10 c16 hr)) (pa_cons (pe_xf c19.A (pe_10 c19 hr)) (pa_cons (pe_xf c20.A (pe_10 c20 hr)) (pa_cons (pe_xf c21.A (pe_10 c21 hr)) (pa_cons (pe_xf c22.A (pe_10 c22 hr)) pa_nil)))))))))
      (pss_cons (ps_set (i := 0) scLeft.nd rfl (.inl rfl) (pe_op op_cat (pv 0) (pe_lst (pa_cons (pe_xf c11.B (pe_2p c11 hr pe_str)) (pa_cons (pe_xf c12.B (pe_2p c12 hr pe_int)) (pa_cons (pe_xf c18.B (pe_2p c18 hr pe_str)) (pa_cons (pe_xf c23.B (pe_2p c23 hr pe_str)) (pa_cons (pe_xf c23.A (pe_20 c23 hr)) pa_nil))))))))
      (pss_cons (ps_set (i := 0) scLeft.nd rfl (.inl rfl) (pe_op op_cat (pv 0) (pe_lst (pa_cons (pe_xf c11.A (pe_20 c11 hr)) (pa_cons (pe_xf c11.B (pe_20 c11 hr)) (pa_cons (pe_xf c12.A (pe_20 c12 hr)) (pa_cons (pe_xf c12.B (pe_20 c12 hr)) (pa_cons (pe_xf c18.A (pe_20 c18 hr)) (pa_cons (pe_xf c18.B (pe_20 c18 hr)) pa_nil)))))))))
      (pss_cons (ps_set (i := 0) scLeft.nd rfl (.inl rfl) (pe_op op_cat (pv 0) (pe_lst (pa_cons (pe_xf c23.B (pe_20 c23 hr)) (pa_cons (pe_xf c11.A (pe_2kg c11 hr pe_str)) (pa_cons (pe_xf c12.A (pe_2kg c12 hr pe_int)) (pa_cons (pe_xf c18.A (pe_2kg c18 hr pe_str)) pa_nil)))))))
      (pss_one (ps_ret (pe_cmpR op_eq (pe_callB call_len_seq (by rfl) B.len PySem.boot_len (pa_cons (pe_op op_cat (pv 0) (pe_lst (pa_cons (pe_xf c23.A (pe_2kg c23 hr pe_str)) pa_nil))) pa_nil)) pe_int (nomark _))))))))), ?_⟩
    refine q_asgL (xs := [.non, .non, .non, .non, .non, .non]) (el_lst (ea_cons (ev_xf ee_10 lk1) (ea_cons (ev_xf ee_10 lk1) (ea_cons (ev_xf ee_10 lk1) (ea_cons (ev_xf ee_10 lk1) (ea_cons (ev_xf ee_10 lk1) (ea_cons (ev_xf ee_10 lk1) ea_nil)))))) (by show 6 ≤ 100000; decide)) fun p1 H1 n1 e1 h1 => ?_
    refine q_asgL (xs := [.non, .non, .non, .non, .non, .non, .non, .non, .non, .non, .non, .non]) (el_catK (ev_var rfl) h1 (el_lst (ea_cons (ev_xf ee_10 lk1) (ea_cons (ev_xf ee_10 lk1) (ea_cons (ev_xf ee_10 lk1) (ea_cons (ev_xf ee_10 lk1) (ea_cons (ev_xf ee_10 lk1) (ea_cons (ev_xf ee_10 lk1) ea_nil)))))) (by show 6 ≤ 100000; decide)) (by show 6 + 6 ≤ 100000; decide)) fun p2 H2 n2 e2 h2 => ?_
    refine q_asgL (xs := [.non, .non, .non, .non, .non, .non, .non, .non, .non, .non, .non, .non, .non, .non, .non, .non, .non]) (el_catK (ev_var rfl) h2 (el_lst (ea_cons (ev_xf (ee_2f ev_c) lk1) (ea_cons (ev_xf (ee_2f ev_c) lk1) (ea_cons (ev_xf (ee_2f ev_c) lk1) (ea_cons (ev_xf (ee_2f ev_c) lk1) (ea_cons (ev_xf ee_20 (lk2b ne23)) ea_nil))))) (by show 5 ≤ 100000; decide)) (by show 12 + 5 ≤ 100000; decide)) fun p3 H3 n3 e3 h3 => ?_
    refine q_asgL (xs := [.non, .non, .non, .non, .non, .non, .non, .non, .non, .non, .non, .non, .non, .non, .non, .non, .non, .non, .non, .non, .non, .non, .non]) (el_catK (ev_var rfl) h3 (el_lst (ea_cons (ev_xf ee_20 (lk2b ne11)) (ea_cons (ev_xf ee_20 lk1) (ea_cons (ev_xf ee_20 (lk2b ne12)) (ea_cons (ev_xf ee_20 lk1) (ea_cons (ev_xf ee_20 (lk2b ne18)) (ea_cons (ev_xf ee_20 lk1) ea_nil)))))) (by show 6 ≤ 100000; decide)) (by show 17 + 6 ≤ 100000; decide)) fun p4 H4 n4 e4 h4 => ?_
    refine q_asgL (xs := [.non, .non, .non, .non, .non, .non, .non, .non, .non, .non, .non, .non, .non, .non, .non, .non, .non, .non, .non, .non, .non, .non, .non, .non, .non, .non, .non]) (el_catK (ev_var rfl) h4 (el_lst (ea_cons (ev_xf ee_20 lk1) (ea_cons (ev_xf (ee_2g ev_c) (lk2b ne11)) (ea_cons (ev_xf (ee_2g ev_c) (lk2b ne12)) (ea_cons (ev_xf (ee_2g ev_c) (lk2b ne18)) ea_nil)))) (by show 4 ≤ 100000; decide)) (by show 23 + 4 ≤ 100000; decide)) fun p5 H5 n5 e5 h5 => ?_
    refine s_ret (v := .bl true) (ev_op (ev_lenN (xs := [.non, .non, .non, .non, .non, .non, .non, .non, .non, .non, .non, .non, .non, .non, .non, .non, .non, .non, .non, .non, .non, .non, .non, .non, .non, .non, .non, .non]) (el_catK (ev_var rfl) h5 (el_lst (ea_cons (ev_xf (ee_2g ev_c) (lk2b ne23)) ea_nil) (by show 1 ≤ 100000; decide)) (by show 28 ≤ 100000; decide))) ev_c (rv_eq rfl)) fun H9 e9 => ?_
    exact q _ (Ex.trans (Ex.trans (Ex.trans (Ex.trans (Ex.trans e1 e2) e3) e4) e5) e9)
end
end K30

set_option Elab.async false
set_option linter.all false
set_option maxRecDepth 100000
set_option maxHeartbeats 8000000
namespace K30
open PySem PySem.Spec PyProof.Rows L2 Evl
/-- the class of the k-th instance -/
abbrev CL (C : Nat → Addr) : List Addr := [C 2, C 3, C 4, C 5, C 6, C 7, C 8, C 9, C 10, C 11, C 12, C 13, C 14, C 15, C 16, C 17, C 18, C 19, C 20, C 21, C 22, C 23]
structure Cs0 (K : PySem.W.Frag) (mg : Str → Option Value) (C : Nat → Addr) : Prop where
  d1 : XC0 K mg "StandError" (C 1)
  d2 : XC0 K mg "Endless" (C 2)
  d3 : XC0 K mg "NoBack" (C 3)
  d4 : XC0 K mg "Unlike" (C 4)
  d5 : XC0 K mg "NoNumber" (C 5)
  d6 : XC0 K mg "NoGoal" (C 6)
  d7 : XC0 K mg "NoLine" (C 7)
  kit : ∀ i j : Nat, i < 22 → j < 22 → PySem.W.kitOne K (.ref (C (i + 2))) (.ref (C (j + 2))) = some (decide (j = i))
  kitS : ∀ i : Nat, i < 22 → PySem.W.kitOne K (.ref (C (i + 2))) (.ref (C 1)) = some true
  kitV : ∀ i : Nat, i < 23 → PySem.W.kitOne K (.ref (C (i + 1))) (.type "ValueError") = some true
  ex : ∀ i : Nat, i < 23 → ExcC K (C (i + 1))
section
variable {P : Program} {w : World} {K : PySem.W.Frag} {mg : Str → Option Value} {base : Heap} {C : Nat → Addr}
/-! ### _law_beside -/
theorem ee_var {σ : L2.St} {H : Hp} {i : Nat} {v : V} {D : Addr} {fs : List (Str × V)} (h : σ[i]? = some (some v)) (hx : ExcAt H v D fs) : EvE (tVar i) σ H D fs := fun H1 e _ q => ⟨v, h, q v H1 (Ex.refl H1) (ExcAt.mono e hx)⟩
theorem dvs6 {H : Hp} {a b : V} (ha : DV K H a) (hb : DV K H b) : DVs K H [a, b, a, b, b, a] := .cons ha (.cons hb (.cons ha (.cons hb (.cons hb (.cons ha .nil)))))
def spTwo2 (K : PySem.W.Frag) : Sp := fun vs H Q _ => ∃ a b : V, vs = [a, b] ∧ DV K H a ∧ DV K H b ∧ RetV (.bl true) H Q
theorem scBeside : FnScope ["_law_a", "_law_b", "_law_early", "_law_late", "_law_found"] ["_law_a", "_law_b"] (defScope sBeside) := ⟨rfl, rfl, rfl, by decide +kernel, rfl, by decide +kernel, by decide +kernel⟩
theorem ok_beside {f : Addr} {fd : FuncData} (F : Fun K "_law_beside" "_law_beside" sBeside f fd) (c : Cs P w K mg base C) : FnOk P w K mg base CX0 3 f fd ["_law_a", "_law_b"] (spTwo2 K) := by
  have c8 := c.c8
  have c11 := c.c11
  refine F.ok scBeside (fun vs H Q E h => ?_) (fun cdv A outer s H vs Q E hr h => ?_)
  · obtain ⟨a, b, rfl, _⟩ := h
    rfl
  · obtain ⟨a, b, rfl, hda, hdb, q⟩ := h
    refine ⟨_, pss_cons (ps_asg (pe_lst (pa_cons (pe_1p c8 hr (pv 0)) (pa_cons (pe_1p c8 hr (pv 1)) pa_nil))) (pg_unl rfl (pgs_cons (pg_name (i := 2) scBeside.nd rfl (.inl rfl)) (pgs_cons (pg_name (i := 3) scBeside.nd rfl (.inl rfl)) pgs_nil))))
      (pss_cons (ps_set (i := 4) scBeside.nd rfl (.inl rfl) (pe_lst (pa_cons (pe_xf c8.A (pv 2)) (pa_cons (pe_xf c8.A (pv 3)) pa_nil))))
      (pss_cons (ps_asg (pe_lst (pa_cons (pe_2pp c11 hr (pv 0) (pv 1)) (pa_cons (pe_2pp c11 hr (pv 1) (pv 0)) pa_nil))) (pg_unl rfl (pgs_cons (pg_name (i := 2) scBeside.nd rfl (.inl rfl)) (pgs_cons (pg_name (i := 3) scBeside.nd rfl (.inl rfl)) pgs_nil))))
      (pss_cons (ps_set (i := 4) scBeside.nd rfl (.inl rfl) (pe_op op_cat (pv 4) (pe_lst (pa_cons (pe_xf c11.A (pv 2)) (pa_cons (pe_xf c11.B (pv 2)) (pa_cons (pe_xf c11.A (pv 3)) (pa_cons (pe_xf c11.B (pv 3)) pa_nil)))))))
      (pss_one (ps_ret (pe_cmpR (op_eqD hr.units) (pv 4) (pe_lst (pa_cons (pv 0) (pa_cons (pv 1) (pa_cons (pv 0) (pa_cons (pv 1) (pa_cons (pv 1) (pa_cons (pv 0) pa_nil))))))) (nomark _))))))), ?_⟩
    refine (ee_1 (ev_var rfl)) _ (Ex.refl _) _ fun v1 H1 e1 x1 => ?_
    refine (ee_1 (ev_var rfl)) _ (Ex.refl _) _ fun v2 H2 e2 x2 => ?_
    refine ⟨by show 2 ≤ sizeLine; decide, fun p hp => ⟨p, [v1, v2], rfl, sq_of upd_same, rfl, v1, [v2], rfl, v2, [], rfl, rfl, ?_⟩⟩
    have e3 : Ex H2 (upd H2 p (.lst [v1, v2])) := Ex.new hp
    show tSeq _ _ _ [some a, some b, some v1, some v2, none] _
    have x1' := ExcAt.mono (Ex.trans e2 e3) x1
    have x2' := ExcAt.mono e3 x2
    refine q_asgL (xs := [a, b]) (el_lst (ea_cons (ev_xf (ee_var (i := 2) rfl x1') lk1) (ea_cons (ev_xf (ee_var (i := 3) rfl x2') lk1) ea_nil)) (by show 2 ≤ 100000; decide)) fun p4 H4 n4 e4 h4 => ?_
    have E4 := Ex.trans (Ex.trans (Ex.trans e1 e2) e3) e4
    refine (ee_2 (ev_var rfl) (ev_var rfl)) _ (Ex.refl _) _ fun v5 H5 e5 x5 => ?_
    refine (ee_2 (ev_var rfl) (ev_var rfl)) _ (Ex.refl _) _ fun v6 H6 e6 x6 => ?_
    refine ⟨by show 2 ≤ sizeLine; decide, fun p7 hp7 => ⟨p7, [v5, v6], rfl, sq_of upd_same, rfl, v5, [v6], rfl, v6, [], rfl, rfl, ?_⟩⟩
    have e7 : Ex H6 (upd H6 p7 (.lst [v5, v6])) := Ex.new hp7
    show tSeq _ _ _ [some a, some b, some v5, some v6, some (.ref p4)] _
    have x5' := ExcAt.mono (Ex.trans e6 e7) x5
    have x6' := ExcAt.mono e7 x6
    refine q_asgL (xs := [a, b, a, b, b, a]) (el_catK (xs := [a, b]) (ev_var rfl) (e7 _ _ (e6 _ _ (e5 _ _ h4))) (el_lst (ea_cons (ev_xf (ee_var (i := 2) rfl x5') (lk2b ne11)) (ea_cons (ev_xf (ee_var (i := 2) rfl x5') lk1) (ea_cons (ev_xf (ee_var (i := 3) rfl x6') (lk2b ne11)) (ea_cons (ev_xf (ee_var (i := 3) rfl x6') lk1) ea_nil)))) (by show 4 ≤ 100000; decide)) (by show 2 + 4 ≤ 100000; decide)) fun p8 H8 n8 e8 h8 => ?_
    have E8 := Ex.trans (Ex.trans (Ex.trans (Ex.trans E4 e5) e6) e7) e8
    refine s_ret (v := .bl true) (ev_opL (ev_var rfl) (el_lst (ea_cons (ev_var rfl) (ea_cons (ev_var rfl) (ea_cons (ev_var rfl) (ea_cons (ev_var rfl) (ea_cons (ev_var rfl) (ea_cons (ev_var rfl) ea_nil)))))) (by show 6 ≤ 100000; decide)) fun r H9 hr9 e9 => rv_same (e9 _ _ h8) hr9 (dvs6 (DV.mono (Ex.trans E8 e9) hda) (DV.mono (Ex.trans E8 e9) hdb))) fun H10 e10 => ?_
    exact q _ (Ex.trans E8 e10)

/-! ### _law_bare -/
def EvX (te : TE) (σ : L2.St) (H : Hp) (D : Addr) : Prop := ∀ H1, Ex H H1 → ∀ Q : VK, (∀ v H2, Ex H1 H2 → IsX H2 v D → Q v H2) → te σ H1 Q
abbrev AreX (H : Hp) (Ds : List Addr) (vs : List V) : Prop := Paired (fun D v => IsX H v D) Ds vs
theorem AreX.mono {H H' : Hp} {Ds : List Addr} {vs : List V} (e : Ex H H') (h : AreX H Ds vs) : AreX H' Ds vs := Paired.mapP h fun _ _ x => IsX.mono e x
theorem AreX.app {H : Hp} : ∀ {Ds Es : List Addr} {vs us : List V}, AreX H Ds vs → AreX H Es us → AreX H (Ds ++ Es) (vs ++ us)
  | _, _, _, _, .nil, s => s
  | _, _, _, _, .cons r t, s => .cons r (AreX.app t s)
def EvAX (ta : TA) (σ : L2.St) (H : Hp) (Ds : List Addr) : Prop := ∀ H1, Ex H H1 → ∀ Q : List V → Hp → Prop, (∀ vs H2, Ex H1 H2 → AreX H2 Ds vs → Q vs H2) → ta σ H1 Q
def ElX (te : TE) (σ : L2.St) (H : Hp) (Ds : List Addr) : Prop := ∀ H1, Ex H H1 → ∀ Q : VK, (∀ p vs H2, H1 p = none → Ex H1 H2 → H2 p = some (.lst vs) → AreX H2 Ds vs → Q (.ref p) H2) → te σ H1 Q
section
variable {σ : L2.St} {H : Hp} {te tf : TE} {ta : TA} {D : Addr} {Ds Es : List Addr} {fs : List (Str × V)}
theorem ex_of (h : EvE te σ H D fs) : EvX te σ H D := fun H1 e _ q => h H1 e _ fun v H2 e2 x => q v H2 e2 (IsX.of x)
theorem ex_00 : EvX (tX00 D) σ H D := fun _ _ _ q _ _ e x => q _ _ e x
theorem eax_nil : EvAX tNil σ H [] := fun H1 _ _ q => q [] H1 (Ex.refl _) .nil
theorem eax_cons (h : EvX te σ H D) (h2 : EvAX ta σ H Ds) : EvAX (tCons te ta) σ H (D :: Ds) := fun H1 e _ q => h H1 e _ fun v H2 e2 x => h2 H2 (Ex.trans e e2) _ fun vs H3 e3 y => q (v :: vs) H3 (Ex.trans e2 e3) (.cons (IsX.mono e3 x) y)
theorem elx_lst (h : EvAX ta σ H Ds) (hl : Ds.length ≤ 1000) : ElX (tLst ta) σ H Ds := fun H1 e _ q => h H1 e _ fun vs H2 e2 y => ⟨by rw [← Paired.length y, sizeLine_eq]; omega, fun p hp => q p vs _ (fresh_back e2 hp) (Ex.trans e2 (Ex.new hp)) upd_same (AreX.mono (Ex.new hp) y)⟩
theorem elx_cat {p : Addr} {us : List V} (ha : Ev te σ H (.ref p)) (hp : H p = some (.lst us)) (hx : AreX H Es us) (h : ElX tf σ H Ds) (hl : Es.length + Ds.length ≤ 1000) : ElX (tOp rCat te tf) σ H (Es ++ Ds) := fun H1 e _ q =>
  ha H1 e _ fun H2 e2 => h H2 (Ex.trans e e2) _ fun r vs H3 n3 e3 h3 y => ⟨p, r, us, vs, rfl, rfl, e3 _ _ (e2 _ _ (e _ _ hp)), h3, by rw [← Paired.length y, ← Paired.length hx, sizeLine_eq]; omega,
    fun z hz => q z (us ++ vs) _ (fresh_back (Ex.trans e2 e3) hz) (Ex.trans (Ex.trans e2 e3) (Ex.new hz)) upd_same (AreX.app (AreX.mono (Ex.trans (Ex.trans (Ex.trans e e2) e3) (Ex.new hz)) hx) (AreX.mono (Ex.new hz) y))⟩
end
theorem qx_asg {σ : L2.St} {H : Hp} {te : TE} {Ds : List Addr} {tz : TS} {D : Ends} {i : Nat} (h : ElX te σ H Ds) (k : ∀ p us H1, H p = none → Ex H H1 → H1 p = some (.lst us) → AreX H1 Ds us → tz D (σ.set i (some (.ref p))) H1) : tSeq (tAsg te (gName i)) tz D σ H := h H (Ex.refl H) _ fun p us H1 n e h1 x => k p us H1 n e h1 x
theorem sx_ret {σ : L2.St} {H : Hp} {te : TE} {Ds : List Addr} {D : Ends} (h : ElX te σ H Ds) (k : ∀ p us H1, H p = none → Ex H H1 → H1 p = some (.lst us) → AreX H1 Ds us → D.rt (.ref p) H1) : tRet te D σ H := h H (Ex.refl H) _ fun p us H1 n e h1 x => k p us H1 n e h1 x
def spBare (C : Nat → Addr) : Sp := fun vs H Q _ => vs = [] ∧ ∀ p us H', H p = none → Ex H H' → H' p = some (.lst us) → AreX H' (CL C) us → Q (.ref p) H'
theorem scBare : FnScope ["_law_found"] [] (defScope sBare) := ⟨rfl, rfl, rfl, by decide +kernel, rfl, by decide +kernel, by decide +kernel⟩
theorem ok_bare {f : Addr} {fd : FuncData} (F : Fun K "_law_bare" "_law_bare" sBare f fd) (c : Cs P w K mg base C) (c0 : Cs0 K mg C) : FnOk P w K mg base CX0 3 f fd [] (spBare C) := by
  refine F.ok scBare (fun vs H Q E h => ?_) (fun cdv A outer s H vs Q E hr h => ?_)
  · obtain ⟨rfl, _⟩ := h
    rfl
  · obtain ⟨rfl, q⟩ := h
    refine ⟨_, pss_cons (ps_set (i := 0) scBare.nd rfl (.inl rfl) (pe_lst (pa_cons (pe_00 c0.d2) (pa_cons (pe_00 c0.d3) (pa_cons (pe_00 c0.d4) (pa_cons (pe_00 c0.d5) (pa_cons (pe_00 c0.d6) (pa_cons (pe_00 c0.d7) (pa_cons (pe_10 c.c8 hr) (pa_cons (pe_10 c.c9 hr) (pa_cons (pe_10 c.c10 hr) pa_nil)))))))))))
      (pss_cons (ps_set (i := 0) scBare.nd rfl (.inl rfl) (pe_op op_cat (pv 0) (pe_lst (pa_cons (pe_20 c.c11 hr) (pa_cons (pe_20 c.c12 hr) (pa_cons (pe_10 c.c13 hr) (pa_cons (pe_10 c.c14 hr) (pa_cons (pe_10 c.c15 hr) (pa_cons (pe_10 c.c16 hr) (pa_cons (pe_10 c.c17 hr) (pa_cons (pe_20 c.c18 hr) (pa_cons (pe_10 c.c19 hr) pa_nil))))))))))))
      (pss_one (ps_ret (pe_op op_cat (pv 0) (pe_lst (pa_cons (pe_10 c.c20 hr) (pa_cons (pe_10 c.c21 hr) (pa_cons (pe_10 c.c22 hr) (pa_cons (pe_20 c.c23 hr) pa_nil))))))))), ?_⟩
    refine qx_asg (elx_lst (Ds := [C 2, C 3, C 4, C 5, C 6, C 7, C 8, C 9, C 10]) (eax_cons (ex_00 (D := C 2)) (eax_cons (ex_00 (D := C 3)) (eax_cons (ex_00 (D := C 4)) (eax_cons (ex_00 (D := C 5)) (eax_cons (ex_00 (D := C 6)) (eax_cons (ex_00 (D := C 7)) (eax_cons (ex_of ee_10) (eax_cons (ex_of ee_10) (eax_cons (ex_of ee_10) eax_nil))))))))) (by show 9 ≤ 1000; decide)) fun p1 v1 H1 n1 e1 h1 x1 => ?_
    refine qx_asg (elx_cat (ev_var rfl) h1 x1 (elx_lst (Ds := [C 11, C 12, C 13, C 14, C 15, C 16, C 17, C 18, C 19]) (eax_cons (ex_of ee_20) (eax_cons (ex_of ee_20) (eax_cons (ex_of ee_10) (eax_cons (ex_of ee_10) (eax_cons (ex_of ee_10) (eax_cons (ex_of ee_10) (eax_cons (ex_of ee_10) (eax_cons (ex_of ee_20) (eax_cons (ex_of ee_10) eax_nil))))))))) (by show 9 ≤ 1000; decide)) (by show 18 ≤ 1000; decide)) fun p2 v2 H2 n2 e2 h2 x2 => ?_
    refine sx_ret (elx_cat (ev_var rfl) h2 x2 (elx_lst (Ds := [C 20, C 21, C 22, C 23]) (eax_cons (ex_of ee_10) (eax_cons (ex_of ee_10) (eax_cons (ex_of ee_10) (eax_cons (ex_of ee_20) eax_nil)))) (by show 4 ≤ 1000; decide)) (by show 22 ≤ 1000; decide)) fun p3 v3 H3 n3 e3 h3 x3 => ?_
    exact q p3 v3 H3 (fresh_back (Ex.trans e1 e2) n3) (Ex.trans (Ex.trans e1 e2) e3) h3 x3

end
end K30

set_option Elab.async false
set_option linter.all false
set_option maxRecDepth 100000
set_option maxHeartbeats 8000000
namespace K30
open PySem PySem.Spec PyProof.Rows L2 Evl
section
variable {P : Program} {w : World} {K : PySem.W.Frag} {mg : Str → Option Value} {base : Heap} {C : Nat → Addr}
/-- isinstance(here, a class) -/
theorem ev_isx {σ : L2.St} {H : Hp} {i : Nat} {v c : V} {D : Addr} {u : Value} {b : Bool} (hs : σ[i]? = some (some v)) (hx : IsX H v D) (hT : ExcC K D) (hc : ClsV c u) (hk : PySem.W.kitOne K (.ref D) u = some b) : Ev (tCB (rIsX K) (tCons (tVar i) (tCons (tC c) tNil))) σ H (.bl b) :=
  ev_cb (ea_cons (ev_var hs) (ea_cons ev_c ea_nil)) fun H1 e Q q => ⟨v, c, D, u, b, rfl, hc, IsX.mono e hx, hT, hk, q H1 (Ex.refl H1)⟩
theorem rv_nsame {H : Hp} {p q : Addr} {xs : List V} (hp : H p = some (.lst xs)) (hq : H q = some (.lst xs)) (h : DVs K H xs) : RV (rNeD K) (.ref p) (.ref q) H (.bl false) := fun H1 e _ k => by
  obtain ⟨ds, a, b, c⟩ := dvs_data h
  have hs : SeqAt.shaped (.list ds) = true := by
    unfold SeqAt.shaped
    rw [Bool.and_eq_true]
    exact ⟨by simpa [PyData.canLay0] using b, decide_eq_true (depth_all c)⟩
  have hd := dp_monoAll e ds _ a
  refine ⟨.list ds, .list ds, .lst (sq_of (e p _ hp)) hd, .lst (sq_of (e q _ hq)) hd, hs, hs, ?_⟩
  have he : PyData.eqv (.list ds) (.list ds) = true := SeqAt.eqv_refl_plain _ (PyData.plain_of_canLay0 _ (SeqAt.canLay_of_shaped hs))
  rw [he]
  exact k H1 (Ex.refl H1)
theorem dvs_bl {H : Hp} (f : Nat → Bool) : ∀ l : List Nat, DVs K H (l.map fun j => V.bl (f j))
  | [] => .nil
  | j :: l => .cons ⟨.bool (f j), .bl _, rfl, by show 0 ≤ 8; decide⟩ (dvs_bl f l)
theorem given_all (n : Nat) (v : Nat → V) : given n (fun _ => true) v = (List.range n).map v := by
  unfold given
  rw [List.filter_eq_self.mpr fun _ _ => rfl]
theorem CL_get {C : Nat → Addr} {i : Nat} (h : i < 22) : (CL C)[i]? = some (C (i + 2)) := by
  have : i = 0 ∨ i = 1 ∨ i = 2 ∨ i = 3 ∨ i = 4 ∨ i = 5 ∨ i = 6 ∨ i = 7 ∨ i = 8 ∨ i = 9 ∨ i = 10 ∨ i = 11 ∨ i = 12 ∨ i = 13 ∨ i = 14 ∨ i = 15 ∨ i = 16 ∨ i = 17 ∨ i = 18 ∨ i = 19 ∨ i = 20 ∨ i = 21 := by omega
  rcases this with rfl | rfl | rfl | rfl | rfl | rfl | rfl | rfl | rfl | rfl | rfl | rfl | rfl | rfl | rfl | rfl | rfl | rfl | rfl | rfl | rfl | rfl <;> rfl
theorem Paired.get {α β : Type} {R : α → β → Prop} : ∀ {l1 : List α} {l2 : List β} {i : Nat} {x : β}, Paired R l1 l2 → l2[i]? = some x → ∃ a, l1[i]? = some a ∧ R a x
  | _, _, _, _, .nil, e => by simp at e
  | _, _, 0, _, .cons r _, e => by simp at e; subst e; exact ⟨_, rfl, r⟩
  | _, _, i + 1, x, .cons _ t, e => by
    obtain ⟨u, h1, h2⟩ := Paired.get (i := i) (x := x) t (by simpa using e)
    exact ⟨u, by simpa using h1, h2⟩

theorem scClasses : FnScope ["_law_some", "_law_k", "_law_here", "_law_kinds", "_law_j"] [] (defScope sClasses) := ⟨rfl, rfl, rfl, by decide +kernel, rfl, by decide +kernel, by decide +kernel⟩
set_option maxHeartbeats 0 in
theorem ok_classes {f fB : Addr} {fd fdB : FuncData} (F : Fun K "_law_classes" "_law_classes" sClasses f fd) (c : Cs P w K mg base C) (c0 : Cs0 K mg C) (B : Bl mg) (FB : Fun K "_law_bare" "_law_bare" sBare fB fdB) (bB : Binds K fdB [] []) (mB : mg "_law_bare" = some (.ref fB)) :
    FnOk P w K mg base CX0 4 f fd [] spNil := by
  have GB : FnOk P w K mg base CX0 3 fB fdB [] (spBare C) := ok_bare FB c c0
  refine F.ok scClasses (fun vs H Q E h => ?_) (fun cdv A outer s H vs Q E hr h => ?_)
  · obtain ⟨rfl, _⟩ := h
    rfl
  · obtain ⟨rfl, q⟩ := h
    refine ⟨_, pss_cons (ps_set (i := 0) scClasses.nd rfl (.inl rfl) (pe_call0 GB hr rfl mB FB.kp bB .nil pass0))
      (pss_cons (ps_if (pt_not (pt_val (pe_callB call_isX (by rfl) B.isi PyProof.Rows.boot_isinstance (pa_cons (pe_00 c0.d1) (pa_cons (pe_bltn (v := .ty "ValueError") (by rfl) B.ve (by decide +kernel) rfl) pa_nil))))) (pss_one (ps_ret pe_bl)) pss_nil)
      (pss_cons (ps_for PassesOwn.never rfl (pi_enum (by rfl) B.enum (pa_cons (pv 0) pa_nil)) (pg_tup rfl (pgs_cons (pg_name (i := 1) scClasses.nd rfl (.inr rfl)) (pgs_cons (pg_name (i := 2) scClasses.nd rfl (.inl rfl)) pgs_nil)))
        (pss_cons (ps_if (PW.pt (pw_or (pt_not (pt_val (pe_callB call_isX (by rfl) B.isi PyProof.Rows.boot_isinstance (pa_cons (pv 2) (pa_cons (pe_glob (v := .ref (C 1)) rfl c0.d1.mgC rfl) pa_nil))))) (pw_or1 (pt_not (pt_val (pe_callB call_isX (by rfl) B.isi PyProof.Rows.boot_isinstance (pa_cons (pv 2) (pa_cons (pe_bltn (v := .ty "ValueError") (by rfl) B.ve (by decide +kernel) rfl) pa_nil)))))))) (pss_one (ps_ret pe_bl)) pss_nil)
        (pss_cons (ps_set (i := 3) scClasses.nd rfl (.inl rfl) (pe_lst (pa_cons (pe_callB call_isX (by rfl) B.isi PyProof.Rows.boot_isinstance (pa_cons (pv 2) (pa_cons (pe_glob (v := .ref (C 2)) rfl c0.d2.mgC rfl) pa_nil))) (pa_cons (pe_callB call_isX (by rfl) B.isi PyProof.Rows.boot_isinstance (pa_cons (pv 2) (pa_cons (pe_glob (v := .ref (C 3)) rfl c0.d3.mgC rfl) pa_nil))) (pa_cons (pe_callB call_isX (by rfl) B.isi PyProof.Rows.boot_isinstance (pa_cons (pv 2) (pa_cons (pe_glob (v := .ref (C 4)) rfl c0.d4.mgC rfl) pa_nil))) pa_nil)))))
        (pss_cons (ps_set (i := 3) scClasses.nd rfl (.inl rfl) (pe_op op_cat (pv 3) (pe_lst (pa_cons (pe_callB call_isX (by rfl) B.isi PyProof.Rows.boot_isinstance (pa_cons (pv 2) (pa_cons (pe_glob (v := .ref (C 5)) rfl c0.d5.mgC rfl) pa_nil))) (pa_cons (pe_callB call_isX (by rfl) B.isi PyProof.Rows.boot_isinstance (pa_cons (pv 2) (pa_cons (pe_glob (v := .ref (C 6)) rfl c0.d6.mgC rfl) pa_nil))) (pa_cons (pe_callB call_isX (by rfl) B.isi PyProof.Rows.boot_isinstance (pa_cons (pv 2) (pa_cons (pe_glob (v := .ref (C 7)) rfl c0.d7.mgC rfl) pa_nil))) pa_nil))))))
        (pss_cons (ps_expr (pe_bm PySem.F.plainAttrs_list PySem.F.slot_list_append PySem.F.type_list_append mt_append (pv 3) (pa_cons (pe_callB call_isX (by rfl) B.isi PyProof.Rows.boot_isinstance (pa_cons (pv 2) (pa_cons (pe_glob (v := .ref (C 8)) rfl c.c8.mgC rfl) pa_nil))) pa_nil)))
        (pss_cons (ps_set (i := 3) scClasses.nd rfl (.inl rfl) (pe_op op_cat (pv 3) (pe_lst (pa_cons (pe_callB call_isX (by rfl) B.isi PyProof.Rows.boot_isinstance (pa_cons (pv 2) (pa_cons (pe_glob (v := .ref (C 9)) rfl c.c9.mgC rfl) pa_nil))) (pa_cons (pe_callB call_isX (by rfl) B.isi PyProof.Rows.boot_isinstance (pa_cons (pv 2) (pa_cons (pe_glob (v := .ref (C 10)) rfl c.c10.mgC rfl) pa_nil))) (pa_cons (pe_callB call_isX (by rfl) B.isi PyProof.Rows.boot_isinstance (pa_cons (pv 2) (pa_cons (pe_glob (v := .ref (C 11)) rfl c.c11.mgC rfl) pa_nil))) pa_nil))))))
        (pss_cons (ps_set (i := 3) scClasses.nd rfl (.inl rfl) (pe_op op_cat (pv 3) (pe_lst (pa_cons (pe_callB call_isX (by rfl) B.isi PyProof.Rows.boot_isinstance (pa_cons (pv 2) (pa_cons (pe_glob (v := .ref (C 12)) rfl c.c12.mgC rfl) pa_nil))) (pa_cons (pe_callB call_isX (by rfl) B.isi PyProof.Rows.boot_isinstance (pa_cons (pv 2) (pa_cons (pe_glob (v := .ref (C 13)) rfl c.c13.mgC rfl) pa_nil))) (pa_cons (pe_callB call_isX (by rfl) B.isi PyProof.Rows.boot_isinstance (pa_cons (pv 2) (pa_cons (pe_glob (v := .ref (C 14)) rfl c.c14.mgC rfl) pa_nil))) pa_nil))))))
        (pss_cons (ps_set (i := 3) scClasses.nd rfl (.inl rfl) (pe_op op_cat (pv 3) (pe_lst (pa_cons (pe_callB call_isX (by rfl) B.isi PyProof.Rows.boot_isinstance (pa_cons (pv 2) (pa_cons (pe_glob (v := .ref (C 15)) rfl c.c15.mgC rfl) pa_nil))) (pa_cons (pe_callB call_isX (by rfl) B.isi PyProof.Rows.boot_isinstance (pa_cons (pv 2) (pa_cons (pe_glob (v := .ref (C 16)) rfl c.c16.mgC rfl) pa_nil))) (pa_cons (pe_callB call_isX (by rfl) B.isi PyProof.Rows.boot_isinstance (pa_cons (pv 2) (pa_cons (pe_glob (v := .ref (C 17)) rfl c.c17.mgC rfl) pa_nil))) pa_nil))))))
        (pss_cons (ps_set (i := 3) scClasses.nd rfl (.inl rfl) (pe_op op_cat (pv 3) (pe_lst (pa_cons (pe_callB call_isX (by rfl) B.isi PyProof.Rows.boot_isinstance (pa_cons (pv 2) (pa_cons (pe_glob (v := .ref (C 18)) rfl c.c18.mgC rfl) pa_nil))) (pa_cons (pe_callB call_isX (by rfl) B.isi PyProof.Rows.boot_isinstance (pa_cons (pv 2) (pa_cons (pe_glob (v := .ref (C 19)) rfl c.c19.mgC rfl) pa_nil))) (pa_cons (pe_callB call_isX (by rfl) B.isi PyProof.Rows.boot_isinstance (pa_cons (pv 2) (pa_cons (pe_glob (v := .ref (C 20)) rfl c.c20.mgC rfl) pa_nil))) pa_nil))))))
        (pss_cons (ps_set (i := 3) scClasses.nd rfl (.inl rfl) (pe_op op_cat (pv 3) (pe_lst (pa_cons (pe_callB call_isX (by rfl) B.isi PyProof.Rows.boot_isinstance (pa_cons (pv 2) (pa_cons (pe_glob (v := .ref (C 21)) rfl c.c21.mgC rfl) pa_nil))) (pa_cons (pe_callB call_isX (by rfl) B.isi PyProof.Rows.boot_isinstance (pa_cons (pv 2) (pa_cons (pe_glob (v := .ref (C 22)) rfl c.c22.mgC rfl) pa_nil))) (pa_cons (pe_callB call_isX (by rfl) B.isi PyProof.Rows.boot_isinstance (pa_cons (pv 2) (pa_cons (pe_glob (v := .ref (C 23)) rfl c.c23.mgC rfl) pa_nil))) pa_nil))))))
        (pss_one (ps_if (pt_cmpR (op_neD hr.units) (pv 3) (pe_lc (own := [("_law_j", 4)]) (g := gName 4) (tt := tYes) rfl scClasses.nd (pi_range1 rfl B.range (pa_cons (pe_callB call_len_seq (by rfl) B.len PySem.boot_len (pa_cons (pv 0) pa_nil)) pa_nil)) (blkOk_by (N := ["_law_some", "_law_k", "_law_here", "_law_kinds", "_law_j"]) (sc := defScope sClasses) (by decide +kernel))
          (fun _ _ _ _ _ => pg_name (i := 4) scClasses.nd rfl (Or.inl rfl)) (fun _ _ _ _ _ => pts_nil) (fun _ _ _ _ _ => pe_cmpR op_eq (pv 4) (pv 1) (nomark _))) (nomark _)) (pss_one (ps_ret pe_bl)) pss_nil))))))))))))
      (pss_one (ps_ret pe_bl)))), ?_⟩
    refine ⟨rfl, fun p us H1 n1 e1 hp hx => ?_⟩
    have hul : us.length = 22 := (Paired.length hx).symm
    -- not isinstance(StandError(), ValueError)
    refine fun v0 H2 e2 x0 => ?_
    refine ⟨v0, .ty "ValueError", C 1, .type "ValueError", true, rfl, .ty _, x0, c0.ex 0 (by decide), c0.kitV 0 (by decide), true, rfl, ?_⟩
    refine iteF ?_
    have hp2 := e2 _ _ hp
    have hx2 := AreX.mono e2 hx
    refine ⟨_, rfl, p, us, rfl, sq_of hp2, for_it (walk_enum (K := K) (a := p) (xs := us)) (fun i σ H' => Ex H2 H' ∧ ∃ a1 a2 a3 a4 : Option V, σ = [some (.ref p), a1, a2, a3, a4]) ⟨Ex.refl _, none, none, none, none, rfl⟩ (fun i σ H' _ hW => sq_of (hW.1 _ _ hp2)) ?_ ?_⟩
    · rintro i z σ H3 H4 hi ⟨E3, a1, a2, a3, a4, rfl⟩ ⟨T, x, v, rfl, nT, rfl, ex, ev⟩
      rw [hul] at hi
      obtain rfl : V.int ((i : Nat) : Int) = x := Option.some.inj ex
      obtain ⟨D, hD, hv⟩ := Paired.get hx2 ev
      rw [CL_get hi] at hD
      obtain rfl : C (i + 2) = D := Option.some.inj hD
      have hTi := c0.ex (i + 1) (by omega)
      refine ⟨T, _, rfl, st_of upd_same, rfl, _, _, rfl, _, _, rfl, rfl, ?_⟩
      generalize hH : upd H3 T (.tup [V.int ((i : Nat) : Int), v]) = H
      have E2 : Ex H2 H := by
        rw [← hH]
        exact Ex.trans E3 (Ex.new nT)
      have X2 : IsX H v (C (i + 2)) := IsX.mono E2 hv
      show tSeq _ _ _ [some (.ref p), some (.int (i : Nat)), some v, a3, a4] _
      refine q_when (b := false) (et_or (a := false) (et_not (a := true) (et_B (ev_isx rfl X2 hTi (.own _) (c0.kitS i hi)))) fun _ => et_not (a := true) (et_B (ev_isx rfl X2 hTi (.ty _) (c0.kitV (i + 1) (by omega))))) (fun z => nomatch z) fun _ H2' e2' => ?_
      have hpB := e2' _ _ (E2 _ _ hp2)
      have XB := IsX.mono e2' X2
      refine q_asgL (xs := [.bl (decide (0 = i)), .bl (decide (1 = i)), .bl (decide (2 = i))]) (el_lst (ea_cons (ev_isx rfl XB hTi (.own _) (c0.kit i 0 hi (by decide))) (ea_cons (ev_isx rfl XB hTi (.own _) (c0.kit i 1 hi (by decide))) (ea_cons (ev_isx rfl XB hTi (.own _) (c0.kit i 2 hi (by decide))) ea_nil))) (by show 3 ≤ 100000; decide)) fun p3 H3 n3 e3 h3 => ?_
      have X3 := IsX.mono e3 XB
      have E3 := Ex.trans (Ex.refl H2') e3
      refine q_asgL (xs := [.bl (decide (0 = i)), .bl (decide (1 = i)), .bl (decide (2 = i)), .bl (decide (3 = i)), .bl (decide (4 = i)), .bl (decide (5 = i))]) (el_catK (ev_var rfl) h3 (el_lst (ea_cons (ev_isx rfl X3 hTi (.own _) (c0.kit i 3 hi (by decide))) (ea_cons (ev_isx rfl X3 hTi (.own _) (c0.kit i 4 hi (by decide))) (ea_cons (ev_isx rfl X3 hTi (.own _) (c0.kit i 5 hi (by decide))) ea_nil))) (by show 3 ≤ 100000; decide)) (by show 3 + 3 ≤ 100000; decide)) fun p4 H4 n4 e4 h4 => ?_
      have X4 := IsX.mono e4 X3
      have E4 := Ex.trans E3 e4
      refine q_app h4 (ev_var rfl) (ev_isx rfl X4 hTi (.own _) (c0.kit i 6 hi (by decide))) (by show 6 < 100000; decide) fun G5 g5 => ?_
      have h5 : (upd G5 p4 (.lst [.bl (decide (0 = i)), .bl (decide (1 = i)), .bl (decide (2 = i)), .bl (decide (3 = i)), .bl (decide (4 = i)), .bl (decide (5 = i)), .bl (decide (6 = i))])) p4 = some (.lst [.bl (decide (0 = i)), .bl (decide (1 = i)), .bl (decide (2 = i)), .bl (decide (3 = i)), .bl (decide (4 = i)), .bl (decide (5 = i)), .bl (decide (6 = i))]) := upd_same
      have X5 : IsX (upd G5 p4 (.lst [.bl (decide (0 = i)), .bl (decide (1 = i)), .bl (decide (2 = i)), .bl (decide (3 = i)), .bl (decide (4 = i)), .bl (decide (5 = i)), .bl (decide (6 = i))])) v (C (i + 2)) := IsX.mono (Ex.mut (Ex.trans e4 g5) n4) X3
      have E5 : Ex H2' (upd G5 p4 (.lst [.bl (decide (0 = i)), .bl (decide (1 = i)), .bl (decide (2 = i)), .bl (decide (3 = i)), .bl (decide (4 = i)), .bl (decide (5 = i)), .bl (decide (6 = i))])) := Ex.mut (Ex.trans E4 g5) (fresh_back E3 n4)
      have k5 := E5 _ _ hpB
      refine q_asgL (xs := [.bl (decide (0 = i)), .bl (decide (1 = i)), .bl (decide (2 = i)), .bl (decide (3 = i)), .bl (decide (4 = i)), .bl (decide (5 = i)), .bl (decide (6 = i)), .bl (decide (7 = i)), .bl (decide (8 = i)), .bl (decide (9 = i))]) (el_catK (ev_var rfl) h5 (el_lst (ea_cons (ev_isx rfl X5 hTi (.own _) (c0.kit i 7 hi (by decide))) (ea_cons (ev_isx rfl X5 hTi (.own _) (c0.kit i 8 hi (by decide))) (ea_cons (ev_isx rfl X5 hTi (.own _) (c0.kit i 9 hi (by decide))) ea_nil))) (by show 3 ≤ 100000; decide)) (by show 7 + 3 ≤ 100000; decide)) fun p6 H6 n6 e6 h6 => ?_
      have X6 := IsX.mono e6 X5
      have E6 := Ex.trans E5 e6
      refine q_asgL (xs := [.bl (decide (0 = i)), .bl (decide (1 = i)), .bl (decide (2 = i)), .bl (decide (3 = i)), .bl (decide (4 = i)), .bl (decide (5 = i)), .bl (decide (6 = i)), .bl (decide (7 = i)), .bl (decide (8 = i)), .bl (decide (9 = i)), .bl (decide (10 = i)), .bl (decide (11 = i)), .bl (decide (12 = i))]) (el_catK (ev_var rfl) h6 (el_lst (ea_cons (ev_isx rfl X6 hTi (.own _) (c0.kit i 10 hi (by decide))) (ea_cons (ev_isx rfl X6 hTi (.own _) (c0.kit i 11 hi (by decide))) (ea_cons (ev_isx rfl X6 hTi (.own _) (c0.kit i 12 hi (by decide))) ea_nil))) (by show 3 ≤ 100000; decide)) (by show 10 + 3 ≤ 100000; decide)) fun p7 H7 n7 e7 h7 => ?_
      have X7 := IsX.mono e7 X6
      have E7 := Ex.trans E6 e7
      refine q_asgL (xs := [.bl (decide (0 = i)), .bl (decide (1 = i)), .bl (decide (2 = i)), .bl (decide (3 = i)), .bl (decide (4 = i)), .bl (decide (5 = i)), .bl (decide (6 = i)), .bl (decide (7 = i)), .bl (decide (8 = i)), .bl (decide (9 = i)), .bl (decide (10 = i)), .bl (decide (11 = i)), .bl (decide (12 = i)), .bl (decide (13 = i)), .bl (decide (14 = i)), .bl (decide (15 = i))]) (el_catK (ev_var rfl) h7 (el_lst (ea_cons (ev_isx rfl X7 hTi (.own _) (c0.kit i 13 hi (by decide))) (ea_cons (ev_isx rfl X7 hTi (.own _) (c0.kit i 14 hi (by decide))) (ea_cons (ev_isx rfl X7 hTi (.own _) (c0.kit i 15 hi (by decide))) ea_nil))) (by show 3 ≤ 100000; decide)) (by show 13 + 3 ≤ 100000; decide)) fun p8 H8 n8 e8 h8 => ?_
      have X8 := IsX.mono e8 X7
      have E8 := Ex.trans E7 e8
      refine q_asgL (xs := [.bl (decide (0 = i)), .bl (decide (1 = i)), .bl (decide (2 = i)), .bl (decide (3 = i)), .bl (decide (4 = i)), .bl (decide (5 = i)), .bl (decide (6 = i)), .bl (decide (7 = i)), .bl (decide (8 = i)), .bl (decide (9 = i)), .bl (decide (10 = i)), .bl (decide (11 = i)), .bl (decide (12 = i)), .bl (decide (13 = i)), .bl (decide (14 = i)), .bl (decide (15 = i)), .bl (decide (16 = i)), .bl (decide (17 = i)), .bl (decide (18 = i))]) (el_catK (ev_var rfl) h8 (el_lst (ea_cons (ev_isx rfl X8 hTi (.own _) (c0.kit i 16 hi (by decide))) (ea_cons (ev_isx rfl X8 hTi (.own _) (c0.kit i 17 hi (by decide))) (ea_cons (ev_isx rfl X8 hTi (.own _) (c0.kit i 18 hi (by decide))) ea_nil))) (by show 3 ≤ 100000; decide)) (by show 16 + 3 ≤ 100000; decide)) fun p9 H9 n9 e9 h9 => ?_
      have X9 := IsX.mono e9 X8
      have E9 := Ex.trans E8 e9
      refine q_asgL (xs := [.bl (decide (0 = i)), .bl (decide (1 = i)), .bl (decide (2 = i)), .bl (decide (3 = i)), .bl (decide (4 = i)), .bl (decide (5 = i)), .bl (decide (6 = i)), .bl (decide (7 = i)), .bl (decide (8 = i)), .bl (decide (9 = i)), .bl (decide (10 = i)), .bl (decide (11 = i)), .bl (decide (12 = i)), .bl (decide (13 = i)), .bl (decide (14 = i)), .bl (decide (15 = i)), .bl (decide (16 = i)), .bl (decide (17 = i)), .bl (decide (18 = i)), .bl (decide (19 = i)), .bl (decide (20 = i)), .bl (decide (21 = i))]) (el_catK (ev_var rfl) h9 (el_lst (ea_cons (ev_isx rfl X9 hTi (.own _) (c0.kit i 19 hi (by decide))) (ea_cons (ev_isx rfl X9 hTi (.own _) (c0.kit i 20 hi (by decide))) (ea_cons (ev_isx rfl X9 hTi (.own _) (c0.kit i 21 hi (by decide))) ea_nil))) (by show 3 ≤ 100000; decide)) (by show 19 + 3 ≤ 100000; decide)) fun p10 H10 n10 e10 h10 => ?_
      have X10 := IsX.mono e10 X9
      have E10 := Ex.trans E9 e10
      have hpZ := E10 _ _ hpB
      have hL : ([.bl (decide (0 = i)), .bl (decide (1 = i)), .bl (decide (2 = i)), .bl (decide (3 = i)), .bl (decide (4 = i)), .bl (decide (5 = i)), .bl (decide (6 = i)), .bl (decide (7 = i)), .bl (decide (8 = i)), .bl (decide (9 = i)), .bl (decide (10 = i)), .bl (decide (11 = i)), .bl (decide (12 = i)), .bl (decide (13 = i)), .bl (decide (14 = i)), .bl (decide (15 = i)), .bl (decide (16 = i)), .bl (decide (17 = i)), .bl (decide (18 = i)), .bl (decide (19 = i)), .bl (decide (20 = i)), .bl (decide (21 = i))] : List V) = given 22 (fun _ => true) (fun j => V.bl (decide (V.int ((j : Nat) : Int) = V.int ((i : Nat) : Int)))) := by
        rw [given_all]
        have e : (fun j : Nat => V.bl (decide (V.int ((j : Nat) : Int) = V.int ((i : Nat) : Int)))) = fun j : Nat => V.bl (decide (j = i)) := by
          funext j
          have : (V.int ((j : Nat) : Int) = V.int ((i : Nat) : Int)) ↔ j = i := by constructor <;> intro h <;> (first | (injection h with h; exact Int.ofNat.inj h) | rw [h])
          simp only [this]
        rw [e]
        rfl
      refine s_when (b := false) (et_test (ev_opL (ev_var rfl) (el_lcR1 (n := 22) (fun _ => true) (fun j => V.bl (decide (V.int ((j : Nat) : Int) = V.int ((i : Nat) : Int)))) (ea_cons (ev_is (ev_len (ev_var rfl) (sq_of hpZ)) (by rw [hul]; rfl)) ea_nil) (by decide) (fun x => rfl) (fun j H1 e hj => fun H2 e2 Q q => q H2 (Ex.refl H2)) (fun j H1 e hj _ => ev_op (ev_var rfl) (ev_var rfl) (rv_eq rfl))) fun r H1 hr e => ?_)) (fun z => nomatch z) fun _ H9 e9 => ?_
      · have hr' : H1 r = some (.lst [.bl (decide (0 = i)), .bl (decide (1 = i)), .bl (decide (2 = i)), .bl (decide (3 = i)), .bl (decide (4 = i)), .bl (decide (5 = i)), .bl (decide (6 = i)), .bl (decide (7 = i)), .bl (decide (8 = i)), .bl (decide (9 = i)), .bl (decide (10 = i)), .bl (decide (11 = i)), .bl (decide (12 = i)), .bl (decide (13 = i)), .bl (decide (14 = i)), .bl (decide (15 = i)), .bl (decide (16 = i)), .bl (decide (17 = i)), .bl (decide (18 = i)), .bl (decide (19 = i)), .bl (decide (20 = i)), .bl (decide (21 = i))]) := by rw [hL]; exact hr
        exact rv_nsame (e _ _ h10) hr' (dvs_bl (fun j => decide (j = i)) (List.range 22))
      · exact ⟨Ex.trans (Ex.trans E2 e2') (Ex.trans E10 e9), _, _, _, _, rfl⟩
    · rintro σ H3 ⟨E3, a1, a2, a3, a4, rfl⟩
      show tRet (tC (V.bl true)) { nx := fun _ H' => Q .non H', rt := Q } [some (.ref p), a1, a2, a3, a4] H3
      refine s_ret (v := .bl true) ev_c fun H4 e4 => ?_
      exact q _ (Ex.trans (Ex.trans (Ex.trans e1 e2) E3) e4)
end
end K30

set_option Elab.async false
set_option linter.all false
set_option maxRecDepth 100000
set_option maxHeartbeats 8000000
namespace K30
open PySem PySem.Spec PyProof.Rows L2 Evl
def okS (d : Nat) : Bool := let x : Str := ("a" : Str) ++ (toString (d : Int)); PyData.strOk x && decide ((d : Int).natAbs.log2 < 1920) && decide (("a" : Str).length + (toString (d : Int) : Str).length ≤ 100)
theorem okS_all : ((List.range 1000).all okS) = true := by decide +kernel
theorem okS_at {d : Int} (h0 : 0 ≤ d) (h1 : d < 1000) : PyData.strOk (("a" : Str) ++ (toString d)) = true ∧ d.natAbs.log2 < 1920 ∧ ("a" : Str).length + (toString d : Str).length ≤ 100 := by
  obtain ⟨n, rfl⟩ : ∃ n : Nat, d = (n : Int) := ⟨d.toNat, by omega⟩
  have h := List.all_eq_true.mp okS_all n (List.mem_range.mpr (by omega))
  unfold okS at h
  simp only [Bool.and_eq_true, decide_eq_true_eq] at h
  exact ⟨h.1.1, h.1.2, h.2⟩
/-- all but p and D stands -/
def Exn (p D : Addr) (H H' : Hp) : Prop := ∀ b o, b ≠ p → b ≠ D → H b = some o → H' b = some o
theorem exn_l {K : PySem.W.Frag} {H H' : Hp} {p D a : Addr} {xs : List V} (hS : SqL K H a xs) (np : H p = none) (nD : H D = none) (e : Exn p D H H') : SqL K H' a xs := by
  rcases hS with (h | ⟨o, h⟩) | h
  · exact .inl (.inl (e _ _ (ne_of_none h np) (ne_of_none h nD) h))
  · exact .inl (.inr ⟨o, e _ _ (ne_of_none h np) (ne_of_none h nD) h⟩)
  · exact .inr h
theorem PurseAt.mono {H H' : Hp} {p : Addr} {z : Int} (e : Ex H H') (h : PurseAt H p z) : PurseAt H' p z := by
  obtain ⟨x, y, h1, h2⟩ := h
  exact ⟨x, y, e _ _ h1, h2⟩
/-- what the law draws from -/
def its (s1 : Str) (d2 : Int) (T T0 L0 L1 : Addr) : List V := [.str s1, .int d2, .ref T, .non, .ref T0, .ref L0, .str "", .bl true, .int (-7), .ref L1]
structure Raw (H : Hp) (d3 : Int) (T T0 L0 L1 : Addr) : Prop where
  t : H T = some (.tup [.str "b", .int d3])
  t0 : H T0 = some (.tup [])
  l0 : H L0 = some (.lst [])
  l1 : H L1 = some (.lst [.str "a", .non])
theorem raw_dv {K : PySem.W.Frag} {H : Hp} {s1 : Str} {d2 d3 : Int} {T T0 L0 L1 : Addr} (h : Raw H d3 T T0 L0 L1) (hs : PyData.strOk s1 = true) : ∀ v ∈ its s1 d2 T T0 L0 L1, DV K H v := by
  intro v hv
  simp only [its, List.mem_cons, List.not_mem_nil, or_false] at hv
  rcases hv with rfl | rfl | rfl | rfl | rfl | rfl | rfl | rfl | rfl | rfl
  · exact ⟨_, .str _, by simpa [PyData.canLay0] using hs, by show 0 ≤ 8; decide⟩
  · exact ⟨_, .int _, rfl, by show 0 ≤ 8; decide⟩
  · exact ⟨_, .tup (st_of h.t) (.cons (.str _) (.cons (.int _) .nil)), by simp only [PyData.canLay0, PyData.canLayAll0, Bool.and_true]; decide +kernel, by simp [PyData.depth, PyData.depthAll]⟩
  · exact ⟨_, .non, rfl, by show 0 ≤ 8; decide⟩
  · exact ⟨_, .tup (st_of h.t0) .nil, by decide +kernel, by simp [PyData.depth, PyData.depthAll]⟩
  · exact ⟨_, .lst (sq_of h.l0) .nil, by decide +kernel, by simp [PyData.depth, PyData.depthAll]⟩
  · exact ⟨_, .str _, by decide +kernel, by show 0 ≤ 8; decide⟩
  · exact ⟨_, .bl _, rfl, by show 0 ≤ 8; decide⟩
  · exact ⟨_, .int _, rfl, by show 0 ≤ 8; decide⟩
  · exact ⟨_, .lst (sq_of h.l1) (.cons (.str _) (.cons .non .nil)), by decide +kernel, by simp [PyData.depth, PyData.depthAll]⟩
theorem dv_b {K : PySem.W.Frag} {H : Hp} : DV K H (.str "b") := ⟨_, .str _, by decide +kernel, by show 0 ≤ 8; decide⟩
theorem its_get {s1 : Str} {d2 : Int} {T T0 L0 L1 : Addr} {d : Int} (h0 : 0 ≤ d) (h1 : d < 10) : ∃ v, atI (its s1 d2 T T0 L0 L1) d = some v ∧ v ∈ its s1 d2 T T0 L0 L1 := by
  obtain ⟨n, rfl⟩ : ∃ n : Nat, d = (n : Int) := ⟨d.toNat, by omega⟩
  have hl : (its s1 d2 T T0 L0 L1).length = 10 := rfl
  have hn : n < (its s1 d2 T T0 L0 L1).length := by omega
  exact ⟨_, atI_nat (List.getElem?_eq_getElem hn), List.getElem_mem hn⟩
section
variable {P : Program} {w : World} {K : PySem.W.Frag} {mg : Str → Option Value} {base : Heap} {C : Nat → Addr}
theorem sv_two {H : Hp} {a b : V} (h : DV K H a) : SpV (spTwo K) [a, b] H (.bl true) := fun H1 e Q q E => ⟨a, b, rfl, DV.mono e h, fun H2 e2 => q H2 e2⟩
theorem sv_two2 {H : Hp} {a b : V} (h : DV K H a) (h2 : DV K H b) : SpV (spTwo2 K) [a, b] H (.bl true) := fun H1 e Q q E => ⟨a, b, rfl, DV.mono e h, DV.mono e h2, fun H2 e2 => q H2 e2⟩
theorem sv_nil {H : Hp} : SpV spNil [] H (.bl true) := fun H1 e Q q E => ⟨rfl, fun H2 e2 => q H2 e2⟩
abbrev NL : List Str := ["_law_script", "_law_cell", "_law_purse_here", "_law_some", "_law_a", "_law_b", "_law_x", "_law_y", "_law_k"]
theorem scLaw : FnScope NL ["_law_script"] (defScope sLaw) := ⟨rfl, rfl, rfl, by decide +kernel, rfl, by decide +kernel, by decide +kernel⟩
/-- for x, y in [(a, 'b'), (a, b), (b, a), (a, a)]: .. -/
theorem rest2 {D : Ends} {H : Hp} {o0 o1 o2 o3 v6 v7 v8 : Option V} {va vb : V} (ha : DV K H va) (hb : DV K H vb) (k : ∀ (u6 u7 : Option V) H', Ex H H' → D.nx [o0, o1, o2, o3, some va, some vb, u6, u7, v8] H') :
    tFor (iList K (tLst (tCons (tTup (tCons (tVar 4) (tCons (tC (.str "b")) tNil))) (tCons (tTup (tCons (tVar 4) (tCons (tVar 5) tNil))) (tCons (tTup (tCons (tVar 5) (tCons (tVar 4) tNil))) (tCons (tTup (tCons (tVar 4) (tCons (tVar 4) tNil))) tNil))))))
      (gTup K 2 (gCons (gName 6) (gCons (gName 7) gNil)))
      (tIfS (tOr (tNot (tB (tCall (spTwo K) [] E0 (tCons (tVar 6) (tCons (tVar 7) tNil))))) (tOr (tNot (tB (tCall (spTwo K) [] E0 (tCons (tVar 6) (tCons (tVar 7) tNil))))) (tNot (tB (tCall (spTwo2 K) [] E0 (tCons (tVar 6) (tCons (tVar 7) tNil))))))) (tRet (tC (.bl false))) tNext)
      D [o0, o1, o2, o3, some va, some vb, v6, v7, v8] H := by
  refine ⟨_, rfl, by show 2 ≤ sizeLine; decide, fun T1 n1 => ?_⟩
  refine ⟨_, rfl, _, rfl, by show 2 ≤ sizeLine; decide, fun T2 n2 => ?_⟩
  refine ⟨_, rfl, _, rfl, by show 2 ≤ sizeLine; decide, fun T3 n3 => ?_⟩
  refine ⟨_, rfl, _, rfl, by show 2 ≤ sizeLine; decide, fun T4 n4 => ?_⟩
  refine ⟨by show 4 ≤ sizeLine; decide, fun L nL => ?_⟩
  have x1 := Ex.new (o := .tup [va, .str "b"]) n1
  have x2 := Ex.new (o := .tup [va, vb]) n2
  have x3 := Ex.new (o := .tup [vb, va]) n3
  have x4 := Ex.new (o := .tup [va, va]) n4
  have x5 := Ex.new (o := .lst [.ref T1, .ref T2, .ref T3, .ref T4]) nL
  have xA := Ex.trans x1 (Ex.trans x2 (Ex.trans x3 (Ex.trans x4 x5)))
  have ha' := DV.mono xA ha
  have hb' := DV.mono xA hb
  have hits : ∀ x ∈ ([.ref T1, .ref T2, .ref T3, .ref T4] : List V), ∃ T u v, x = .ref T ∧ (upd (upd (upd (upd (upd H T1 (.tup [va, .str "b"])) T2 (.tup [va, vb])) T3 (.tup [vb, va])) T4 (.tup [va, va])) L (.lst [.ref T1, .ref T2, .ref T3, .ref T4])) T = some (.tup [u, v]) ∧
      DV K (upd (upd (upd (upd (upd H T1 (.tup [va, .str "b"])) T2 (.tup [va, vb])) T3 (.tup [vb, va])) T4 (.tup [va, va])) L (.lst [.ref T1, .ref T2, .ref T3, .ref T4])) u ∧
      DV K (upd (upd (upd (upd (upd H T1 (.tup [va, .str "b"])) T2 (.tup [va, vb])) T3 (.tup [vb, va])) T4 (.tup [va, va])) L (.lst [.ref T1, .ref T2, .ref T3, .ref T4])) v := by
    intro x hx
    simp only [List.mem_cons, List.not_mem_nil, or_false] at hx
    rcases hx with rfl | rfl | rfl | rfl
    · exact ⟨T1, va, .str "b", rfl, Ex.trans x2 (Ex.trans x3 (Ex.trans x4 x5)) _ _ upd_same, ha', dv_b⟩
    · exact ⟨T2, va, vb, rfl, Ex.trans x3 (Ex.trans x4 x5) _ _ upd_same, ha', hb'⟩
    · exact ⟨T3, vb, va, rfl, Ex.trans x4 x5 _ _ upd_same, hb', ha'⟩
    · exact ⟨T4, va, va, rfl, x5 _ _ upd_same, ha', ha'⟩
  refine ⟨L, rfl, ⟨_, sq_of upd_same⟩, ?_⟩
  have hL : (upd (upd (upd (upd (upd H T1 (.tup [va, .str "b"])) T2 (.tup [va, vb])) T3 (.tup [vb, va])) T4 (.tup [va, va])) L (.lst [.ref T1, .ref T2, .ref T3, .ref T4])) L = some (.lst [.ref T1, .ref T2, .ref T3, .ref T4]) := upd_same
  revert hits hL xA
  generalize (upd (upd (upd (upd (upd H T1 (.tup [va, .str "b"])) T2 (.tup [va, vb])) T3 (.tup [vb, va])) T4 (.tup [va, va])) L (.lst [.ref T1, .ref T2, .ref T3, .ref T4])) = HL
  intro xA hits hL
  refine for_list (K := K) (a := L) (xs := [.ref T1, .ref T2, .ref T3, .ref T4]) (fun j σ H' => Ex HL H' ∧ ∃ u6 u7 : Option V, σ = [o0, o1, o2, o3, some va, some vb, u6, u7, v8]) ⟨Ex.refl _, _, _, rfl⟩ (fun j σ H' _ hW => sq_of (hW.1 _ _ hL)) ?_ ?_
  · rintro j x σ H' hj ⟨E, u6, u7, rfl⟩
    obtain ⟨T, u, v, rfl, hT, hu, hv⟩ := hits x (List.mem_of_getElem? hj)
    refine ⟨T, _, rfl, st_of (E _ _ hT), rfl, u, [v], rfl, v, [], rfl, rfl, ?_⟩
    have hu' := DV.mono E hu
    have hv' := DV.mono E hv
    refine s_when (b := false) (et_or (a := false) (b := false) (et_not (a := true) (et_B (ev_call (ea_cons (ev_var rfl) (ea_cons (ev_var rfl) ea_nil)) (sv_two hu')))) fun _ =>
      et_or (a := false) (b := false) (et_not (a := true) (et_B (ev_call (ea_cons (ev_var rfl) (ea_cons (ev_var rfl) ea_nil)) (sv_two hu')))) fun _ => et_not (a := true) (et_B (ev_call (ea_cons (ev_var rfl) (ea_cons (ev_var rfl) ea_nil)) (sv_two2 hu' hv')))) (fun z => nomatch z) fun _ H2 e2 => ?_
    exact ⟨Ex.trans E e2, _, _, rfl⟩
  · rintro σ H' ⟨E, u6, u7, rfl⟩
    exact k _ _ _ (Ex.trans xA E)
/-- a, b = [some[draw(purse, 10)] for k in range(2)]; then the loop -/
theorem rest1 {D : Ends} {H5 : Hp} {a p S T T0 L0 L1 : Addr} {ns : List Int} {s1 : Str} {d2 d3 z3 : Int} {o1 v4 v5 v6 v7 v8 : Option V} {tz : TS} (np : ∀ (Dl : Addr) (H' : Hp), H5 Dl = none → Exn p Dl H5 H' → SqL K H' a (ns.map V.int)) (hp5 : PurseAt H5 p z3) (z30 : 0 ≤ z3) (z31 : z3 < 800000) (hSS : H5 S = some (.lst (its s1 d2 T T0 L0 L1)))
    (raw : Raw H5 d3 T T0 L0 L1) (hs : PyData.strOk s1 = true)
    (k : ∀ (va vb : V) H', DV K H' va → DV K H' vb → SqL K H' a (ns.map V.int) → tz D [some (.ref a), o1, some (.ref p), some (.ref S), some va, some vb, v6, v7, v8] H') :
    tSeq (tAsg (tLc (iRng1 (tCons (tC (.int 2)) tNil)) (gName 8) tYes (tOp (rIxL K) (tVar 3) (tCall spDraw [] E0 (tCons (tVar 2) (tCons (tC (.int 10)) tNil)))) [8]) (gUnl K 2 (gCons (gName 4) (gCons (gName 5) gNil)))) tz
      D [some (.ref a), o1, some (.ref p), some (.ref S), v4, v5, v6, v7, v8] H5 := by
  have pS : S ≠ p := by
    obtain ⟨x, y, hp, _⟩ := hp5
    rintro rfl
    rw [hp] at hSS
    have := Option.some.inj hSS
    injection this with h
    exact absurd (congrArg List.length h) (by show ¬ 3 = 10; decide)
  have nep : ∀ {b : Addr} {o : HO}, H5 b = some o → (∀ x y z : Int, o ≠ .lst [.int x, .int y, .int z]) → b ≠ p := fun {b o} h ho hb => by
    obtain ⟨x, y, hp, _⟩ := hp5
    rw [hb, hp] at h
    exact ho x y z3 (Option.some.inj h).symm
  refine ⟨2, rfl, by decide, by decide, fun Dl nD => lc_range (lo := 0) (n := 2) (fun i H' => Exn p Dl H5 H' ∧ (∃ z', PurseAt H' p z' ∧ 0 ≤ z' ∧ z' ≤ z3 + i) ∧ ∃ acc, H' Dl = some (.lst acc) ∧ acc.length = i ∧ ∀ v ∈ acc, v ∈ its s1 d2 T T0 L0 L1) ?_ ?_ ?_⟩
  · exact ⟨fun b o _ hD h => by rw [upd_ne hD]; exact h, ⟨z3, PurseAt.mono (Ex.new nD) hp5, z30, by omega⟩, [], upd_same, rfl, fun v hv => nomatch hv⟩
  · rintro i H' hi ⟨x, ⟨z', hp', z0', z1'⟩, acc, hA, hlen, hall⟩
    have pD : p ≠ Dl := by
      obtain ⟨x, y, hp, _⟩ := hp5
      exact ne_of_none hp nD
    refine ⟨rfl, ?_⟩
    show tOp (rIxL K) (tVar 3) (tCall spDraw [] E0 (tCons (tVar 2) (tCons (tC (.int 10)) tNil))) _ H' _
    refine ⟨_, rfl, _, rfl, p, 10, z', rfl, .inr (.inr rfl), hp', z0', by omega, fun d z'' H6 d0 d1 z0'' z1'' x6 hp6 => ?_⟩
    obtain ⟨v, hv, hm⟩ := its_get (s1 := s1) (d2 := d2) (T := T) (T0 := T0) (L0 := L0) (L1 := L1) d0 d1
    have hS6 : H6 S = some (.lst (its s1 d2 T T0 L0 L1)) := x6 _ _ pS (x _ _ pS (ne_of_none hSS nD) hSS)
    have hA6 := x6 _ _ (Ne.symm pD) hA
    refine ⟨S, _, d, v, rfl, rfl, sq_of hS6, hv, acc, hA6, by rw [hlen, sizeLine_eq]; omega, ?_⟩
    refine ⟨fun b o hb hD h => by rw [upd_ne hD]; exact x6 b o hb (x b o hb hD h), ⟨z'', ?_, by omega, by omega⟩, acc ++ [v], upd_same, by simp [hlen], fun u hu => ?_⟩
    · obtain ⟨x, y, hp, r⟩ := hp6
      exact ⟨x, y, by rw [upd_ne pD]; exact hp, r⟩
    · rcases List.mem_append.mp hu with h | h
      · exact hall u h
      · rw [List.mem_singleton.mp h]
        exact hm
  · rintro H' ⟨x, _, acc, hA, hlen, hall⟩
    match acc, hlen with
    | [va, vb], _ =>
      refine ⟨Dl, [va, vb], rfl, sq_of hA, rfl, va, [vb], rfl, vb, [], rfl, rfl, ?_⟩
      have raw' : Raw H' d3 T T0 L0 L1 := by
        refine ⟨x _ _ (nep raw.t fun _ _ _ z => nomatch z) (ne_of_none raw.t nD) raw.t, x _ _ (nep raw.t0 fun _ _ _ z => nomatch z) (ne_of_none raw.t0 nD) raw.t0, x _ _ (nep raw.l0 fun _ _ _ z => nomatch (HO.lst.inj z)) (ne_of_none raw.l0 nD) raw.l0, x _ _ (nep raw.l1 fun _ _ _ z => nomatch (HO.lst.inj z)) (ne_of_none raw.l1 nD) raw.l1⟩
      exact k va vb H' (raw_dv raw' hs va (hall va (by simp))) (raw_dv raw' hs vb (hall vb (by simp))) (np Dl H' nD x)
def spLaw (K : PySem.W.Frag) : Sp := fun vs H Q _ => ∃ (a : Addr) (ns : List Int), vs = [.ref a] ∧ SqL K H a (ns.map V.int) ∧ ∀ H', Q (.bl true) H'
set_option maxHeartbeats 0 in
theorem ok_law {f fP fD fPl fN fB fC fL : Addr} {fd fdP fdD fdPl fdN fdB fdC fdL : FuncData} (F : Fun K "law" "law" sLaw f fd) (B : Bl mg)
    (GP : FnOk P w K mg base CX0 2 fP fdP ["_law_script", "_law_at_here"] (spPurse K)) (bP : Binds K fdP ["_law_script", "_law_at_here"] []) (kP : PySem.W.keepIn K (.ref fP) = true) (mP : mg "_law_purse" = some (.ref fP))
    (GD : FnOk P w K mg base CX0 2 fD fdD ["_law_purse_here", "_law_out_of"] spDraw) (bD : Binds K fdD ["_law_purse_here", "_law_out_of"] []) (kD : PySem.W.keepIn K (.ref fD) = true) (mD : mg "_law_draw" = some (.ref fD))
    (GPl : FnOk P w K mg base CX0 3 fPl fdPl ["_law_a", "_law_b"] (spTwo K)) (bPl : Binds K fdPl ["_law_a", "_law_b"] []) (kPl : PySem.W.keepIn K (.ref fPl) = true) (mPl : mg "_law_places" = some (.ref fPl))
    (GN : FnOk P w K mg base CX0 3 fN fdN ["_law_a", "_law_b"] (spTwo K)) (bN : Binds K fdN ["_law_a", "_law_b"] []) (kN : PySem.W.keepIn K (.ref fN) = true) (mN : mg "_law_named" = some (.ref fN))
    (GB : FnOk P w K mg base CX0 3 fB fdB ["_law_a", "_law_b"] (spTwo2 K)) (bB : Binds K fdB ["_law_a", "_law_b"] []) (kB : PySem.W.keepIn K (.ref fB) = true) (mB : mg "_law_beside" = some (.ref fB))
    (GC : FnOk P w K mg base CX0 4 fC fdC [] spNil) (bC : Binds K fdC [] []) (kC : PySem.W.keepIn K (.ref fC) = true) (mC : mg "_law_classes" = some (.ref fC))
    (GL : FnOk P w K mg base CX0 3 fL fdL [] spNil) (bL : Binds K fdL [] []) (kL : PySem.W.keepIn K (.ref fL) = true) (mL : mg "_law_left_out" = some (.ref fL)) :
    FnOk P w K mg base CX0 5 f fd ["_law_script"] (spLaw K) := by
  refine F.ok scLaw (fun vs H Q E h => ?_) (fun cdv A outer s H vs Q E hr h => ?_)
  · obtain ⟨a, ns, rfl, _⟩ := h
    rfl
  · obtain ⟨a, ns, rfl, hS, q⟩ := h
    have hr3 : Room 3 _ := hr.mono (by decide)
    have hr2 : Room 2 _ := hr.mono (by decide)
    refine ⟨_, pss_cons (ps_for PassesOwn.never rfl (pi_range1 rfl B.range (pa_cons pe_int pa_nil)) (pg_name (i := 1) scLaw.nd rfl (.inl rfl))
        (pss_cons (ps_set (i := 2) scLaw.nd rfl (.inr rfl) (pe_call GP hr2 rfl mP kP bP .nil pass0 (pa_cons (pv 0) (pa_cons (pv 1) pa_nil))))
        (pss_cons (ps_set (i := 3) scLaw.nd rfl (.inr rfl) (pe_lst (pa_cons (pe_op op_add_str pe_str (pe_callTy call_str_int (by rfl) B.str PyProof.Rows.boot_str (pa_cons (pe_call GD hr2 rfl mD kD bD .nil pass0 (pa_cons (pv 2) (pa_cons pe_int pa_nil))) pa_nil)))
          (pa_cons (pe_call GD hr2 rfl mD kD bD .nil pass0 (pa_cons (pv 2) (pa_cons pe_int pa_nil))) (pa_cons (pe_tup (pa_cons pe_str (pa_cons (pe_call GD hr2 rfl mD kD bD .nil pass0 (pa_cons (pv 2) (pa_cons pe_int pa_nil))) pa_nil))) pa_nil)))))
        (pss_cons (ps_set (i := 3) scLaw.nd rfl (.inr rfl) (pe_op op_cat (pv 3) (pe_lst (pa_cons pe_non (pa_cons (pe_tup pa_nil) (pa_cons (pe_lst pa_nil) (pa_cons pe_str (pa_cons pe_bl (pa_cons (pe_un un_neg pe_int) (pa_cons (pe_lst (pa_cons pe_str (pa_cons pe_non pa_nil))) pa_nil))))))))))
        (pss_cons (ps_asg (pe_lc (te := tOp (rIxL K) (tVar 3) (tCall spDraw [] E0 (tCons (tVar 2) (tCons (tC (.int 10)) tNil)))) (own := [("_law_k", 8)]) (g := gName 8) (tt := tYes) rfl scLaw.nd (pi_range1 rfl B.range (pa_cons pe_int pa_nil)) (blkOk_by (N := NL) (sc := defScope sLaw) (by decide +kernel))
            (fun _ _ _ _ _ => pg_name (i := 8) scLaw.nd rfl (Or.inl rfl)) (fun _ _ _ _ _ => pts_nil) (fun _ _ _ _ _ => pe_ix (r := rIxL K) ix_list (pv 3) (pe_call GD hr2 rfl mD kD bD .nil pass0 (pa_cons (pv 2) (pa_cons pe_int pa_nil))) (fun _ _ => rfl)))
          (pg_unl rfl (pgs_cons (pg_name (i := 4) scLaw.nd rfl (.inl rfl)) (pgs_cons (pg_name (i := 5) scLaw.nd rfl (.inl rfl)) pgs_nil))))
        (pss_one (ps_for PassesOwn.never rfl (pi_list (pe_lst (pa_cons (pe_tup (pa_cons (pv 4) (pa_cons pe_str pa_nil))) (pa_cons (pe_tup (pa_cons (pv 4) (pa_cons (pv 5) pa_nil))) (pa_cons (pe_tup (pa_cons (pv 5) (pa_cons (pv 4) pa_nil))) (pa_cons (pe_tup (pa_cons (pv 4) (pa_cons (pv 4) pa_nil))) pa_nil))))))
          (pg_tup rfl (pgs_cons (pg_name (i := 6) scLaw.nd rfl (.inl rfl)) (pgs_cons (pg_name (i := 7) scLaw.nd rfl (.inl rfl)) pgs_nil)))
          (pss_one (ps_if (PW.pt (pw_or (pt_not (pt_val (pe_call GPl hr3 rfl mPl kPl bPl .nil pass0 (pa_cons (pv 6) (pa_cons (pv 7) pa_nil))))) (pw_or (pt_not (pt_val (pe_call GN hr3 rfl mN kN bN .nil pass0 (pa_cons (pv 6) (pa_cons (pv 7) pa_nil))))) (pw_or1 (pt_not (pt_val (pe_call GB hr3 rfl mB kB bB .nil pass0 (pa_cons (pv 6) (pa_cons (pv 7) pa_nil)))))))))
            (pss_one (ps_ret pe_bl)) pss_nil)))))))))
      (pss_one (ps_ret (pe_and (pe_call0 GC hr rfl mC kC bC .nil pass0) (pe_one (pe_call0 GL hr3 rfl mL kL bL .nil pass0))))), ?_⟩
    refine q_forR1 (n := 4) (Pv := fun i σ H' => SqL K H' a (ns.map V.int) ∧ ∃ v1 v2 v3 v4 v5 v6 v7 v8 : Option V, σ = [some (.ref a), v1, v2, v3, v4, v5, v6, v7, v8]) (ea_cons ev_c ea_nil) (by decide) (fun H1 e1 => ⟨ex_l e1 hS, none, none, none, none, none, none, none, none, rfl⟩) (fun i σ' H0 hi hW => ?_) (fun σ' H' hW => ?_)
    · obtain ⟨hS0, v1, v2, v3, v4, v5, v6, v7, v8, rfl⟩ := hW
      -- the purse
      refine ⟨_, rfl, _, rfl, a, ns, (i : Int), rfl, hS0, by omega, by omega, fun p H1 np e1 hp1 => ?_⟩
      have x01 : Exn p p H0 H1 := fun b o _ _ h => e1 b o h
      -- the three draws
      refine ⟨_, rfl, p, 1000, _, rfl, .inl rfl, hp1, by omega, by omega, fun d1 z1 H2 d10 d11 z10 z11 x12 hp2 => ?_⟩
      obtain ⟨okA, okB, okC⟩ := okS_at d10 d11
      refine ⟨d1, rfl, okB, _, _, rfl, rfl, sz_of (by omega), ?_⟩
      refine ⟨_, rfl, p, 1000, _, rfl, .inl rfl, hp2, by omega, by omega, fun d2 z2 H3 d20 d21 z20 z21 x23 hp3 => ?_⟩
      refine ⟨_, rfl, p, 9, _, rfl, .inr (.inl rfl), hp3, by omega, by omega, fun d3 z3 H4 d30 d31 z30 z31 x34 hp4 => ?_⟩
      refine ⟨by show 2 ≤ sizeLine; decide, fun T nT => ⟨by show 3 ≤ sizeLine; decide, fun L nL => ?_⟩⟩
      -- some = some + [..]
      refine ⟨_, rfl, ?_⟩
      refine ⟨by show 0 ≤ sizeLine; decide, fun T0 nT0 => ⟨by show 0 ≤ sizeLine; decide, fun L0 nL0 => ?_⟩⟩
      refine ⟨7, rfl, by show 2 ≤ sizeLine; decide, fun L1 nL1 => ⟨by show 7 ≤ sizeLine; decide, fun L2 nL2 => ?_⟩⟩
      have c5 := Ex.new (o := .tup [.str "b", .int d3]) nT
      have c6 := Ex.new (o := .lst [.str ("a" ++ toString d1), .int d2, .ref T]) nL
      have c7 := Ex.new (o := .tup []) nT0
      have c8 := Ex.new (o := .lst []) nL0
      have c9 := Ex.new (o := .lst [.str "a", .non]) nL1
      have c10 := Ex.new (o := .lst [.non, .ref T0, .ref L0, .str "", .bl true, .int (-7), .ref L1]) nL2
      have cA := Ex.trans c7 (Ex.trans c8 (Ex.trans c9 c10))
      refine ⟨L, L2, _, _, rfl, rfl, cA _ _ upd_same, upd_same, by show 10 ≤ sizeLine; decide, fun S nS => ?_⟩
      have c11 := Ex.new (o := .lst (its ("a" ++ toString d1) d2 T T0 L0 L1)) nS
      have cB := Ex.trans c8 (Ex.trans c9 (Ex.trans c10 c11))
      have raw0 : Raw _ d3 T T0 L0 L1 := ⟨Ex.trans c6 (Ex.trans cA c11) _ _ upd_same, cB _ _ upd_same, Ex.trans c9 (Ex.trans c10 c11) _ _ upd_same, Ex.trans c10 c11 _ _ upd_same⟩
      have hp5 : PurseAt _ p z3 := PurseAt.mono (Ex.trans c5 (Ex.trans c6 (Ex.trans cA c11))) hp4
      have x05 : Exn p p H0 _ := fun b o hb _ h => Ex.trans c5 (Ex.trans c6 (Ex.trans cA c11)) b o (x34 b o hb (x23 b o hb (x12 b o hb (e1 b o h))))
      clear c5 c6 c7 c8 c9 c10 cA cB c11
      have hSS : (upd (upd (upd (upd (upd (upd (upd H4 T (.tup [.str "b", .int d3])) L (.lst [.str ("a" ++ toString d1), .int d2, .ref T])) T0 (.tup [])) L0 (.lst [])) L1 (.lst [.str "a", .non])) L2 (.lst [.non, .ref T0, .ref L0, .str "", .bl true, .int (-7), .ref L1])) S (.lst (its ("a" ++ toString d1) d2 T T0 L0 L1))) S = some (.lst (its ("a" ++ toString d1) d2 T T0 L0 L1)) := upd_same
      refine rest1 (s1 := "a" ++ toString d1) (d2 := d2) (d3 := d3) (z3 := z3) (T := T) (T0 := T0) (L0 := L0) (L1 := L1) (ns := ns) (fun Dl H' nD e => ex_l (fun b o h => e b o (ne_of_none h np) (ne_of_none (x05 b o (ne_of_none h np) (ne_of_none h np) h) nD) (x05 b o (ne_of_none h np) (ne_of_none h np) h)) hS0) hp5 (by omega) (by omega) hSS raw0 okA (fun va vb H' da db hS' => ?_)
      exact rest2 da db fun u6 u7 H2 e2 => ⟨ex_l e2 hS', _, _, _, _, _, _, _, _, rfl⟩
    · obtain ⟨hS', v1, v2, v3, v4, v5, v6, v7, v8, rfl⟩ := hW
      refine s_ret (v := .bl true) (ev_andV (a := true) (b := true) (ev_call ea_nil sv_nil) fun _ => ev_call ea_nil sv_nil) fun H2 e2 => ?_
      exact q H2
end
end K30

set_option Elab.async false
set_option linter.all false
set_option maxRecDepth 100000
set_option maxHeartbeats 8000000
namespace K30
open PySem PySem.Spec PyProof.Rows L2 Evl
/-! ### what the top has made of the classes, asked at once -/
abbrev baseB : List Value := [.type "ValueError", .type "Exception", .type "BaseException", .type "object"]
def oexB (K : PySem.W.Frag) (C : Addr) : Bool := match K.lookup C with
  | some ⟨.type "type", _, .cls cd, sl⟩ => (match cd.mro, sl.toList with
    | .ref C' :: bm, [_, _, _, _, some (.builtin n), _] => C' == C && n == "ValueError.__new__" && !cd.hasDel && cd.hasDict && PySem.HandSPX.refsVE bm
    | _, _ => false)
  | _ => false
theorem oex_cls {K : PySem.W.Frag} {C : Addr} (h : oexB K C = true) : ∃ nm q N bs bm sn sub ab col dd k0 k1 k2 k3 k5, K.lookup C = some (excClassObj nm q C N bs bm true sn sub ab col dd k0 k1 k2 k3 k5 "ValueError.__new__") ∧ PySem.HandSPX.refsVE bm = true := by
  unfold oexB at h
  split at h
  · rename_i dd cd sl ho
    split at h
    · rename_i C' bm k0 k1 k2 k3 n k5 hm hs
      simp only [Bool.and_eq_true, beq_iff_eq, Bool.not_eq_true'] at h
      obtain ⟨⟨⟨⟨rfl, rfl⟩, hdel⟩, hdi⟩, hr⟩ := h
      obtain ⟨nm, bs, mro, ns, qn, hd, sn, sub, ab, col, del⟩ := cd
      dsimp only at hm hdel hdi
      subst hm hdel hdi
      obtain ⟨l⟩ := sl
      simp only at hs
      subst hs
      exact ⟨nm, qn, ns, bs, bm, sn, sub, ab, col, dd, k0, k1, k2, k3, k5, ho, hr⟩
    · cases h
  · cases h
def excB (K : PySem.W.Frag) (C : Addr) : Bool := PySem.W.findIn K (.ref C) "__getattribute__" == some (some (.builtin "BaseException.__getattribute__")) && PySem.W.findIn K (.ref C) "__getattr__" == some none &&
  PySem.W.subIn K (.ref C) (.type "BaseException") == some true && PySem.W.hasDictIn K C && PySem.W.findIn K (.ref C) "__class__" == some (some (.builtin "object.__class__")) && PySem.W.mroIn K C (.type "object") == some true
def onceB (K : PySem.W.Frag) : Bool := PySem.W.specialIn K (.builtin "object.__class__") "__get__" == some (some (.builtin "getset_descriptor.__get__")) && PySem.W.takesIn K (.builtin "object.__class__") == some true
theorem excC_of {K : PySem.W.Frag} {C : Addr} (h : excB K C = true) (o : onceB K = true) : ExcC K C := by
  unfold excB at h
  unfold onceB at o
  simp only [Bool.and_eq_true, beq_iff_eq] at h o
  obtain ⟨⟨⟨⟨⟨h1, h2⟩, h3⟩, h4⟩, h5⟩, h6⟩ := h
  exact ⟨h1, h2, h3, h4, h5, o.1, o.2, h6⟩
def fldB (K : PySem.W.Frag) (C : Addr) (fs : List Str) : Bool := oexB K C && PySem.W.findIn K (.ref C) "__setattr__" == some (some (.builtin "object.__setattr__")) && PySem.W.typeIn K (.ref C) == some (.type "type") && PySem.W.keepIn K (.ref C) && fs.all fun f => PySem.W.findIn K (.ref C) f == some none
theorem oexC_of {K : PySem.W.Frag} {C : Addr} {fs : List Str} (h : fldB K C fs = true) (e : excB K C = true) : OexC K C := by
  unfold fldB at h
  unfold excB at e
  simp only [Bool.and_eq_true, beq_iff_eq] at h e
  obtain ⟨⟨⟨⟨h1, h2⟩, h3⟩, h4⟩, _⟩ := h
  exact ⟨oex_cls h1, h2, e.1.1.1.2, h3, h4⟩
theorem xAt_of {K : PySem.W.Frag} {C : Addr} {fs : List Str} (h : fldB K C fs = true) (e : excB K C = true) {f : Str} (hf : f ∈ fs) : XAt K C f := by
  unfold fldB at h
  unfold excB at e
  simp only [Bool.and_eq_true, beq_iff_eq] at h e
  have := List.all_eq_true.mp h.2 f hf
  exact ⟨e.1.1.1.1.1, e.1.1.1.1.2, e.1.1.1.2, e.1.1.2, beq_iff_eq.mp this⟩
def plnB (K : PySem.W.Frag) (C : Addr) : Bool := PySem.W.excIn K C baseB "ValueError.__new__" && PySem.W.keepIn K (.ref C)
def kitB (K : PySem.W.Frag) (Cs : List Addr) : Bool := ((List.range 22).all fun i => (List.range 22).all fun j => PySem.W.kitOne K (.ref (Cs.getD (i + 2) 0)) (.ref (Cs.getD (j + 2) 0)) == some (decide (j = i))) &&
  ((List.range 22).all fun i => PySem.W.kitOne K (.ref (Cs.getD (i + 2) 0)) (.ref (Cs.getD 1 0)) == some true) && ((List.range 23).all fun i => PySem.W.kitOne K (.ref (Cs.getD (i + 1) 0)) (.type "ValueError") == some true) && ((List.range 23).all fun i => excB K (Cs.getD (i + 1) 0))
section
variable {P : Program} {w : World} {K : PySem.W.Frag} {mg : Str → Option Value} {base : Heap}

abbrev sI8 : Stmt := inClass (top 8) 0
theorem scI8 : FnScope ["self", "wrong"] ["self", "wrong"] (defScope sI8) := ⟨rfl, rfl, rfl, by decide +kernel, rfl, by decide +kernel, by decide +kernel⟩
abbrev FD8 (K : PySem.W.Frag) (f : Addr) (fd : FuncData) : Prop := FunD K "__init__" "NoChart.__init__" (defArgs sI8) (defBody sI8) (defScope sI8) [.non] [] f fd
theorem okI8 {f : Addr} {fd : FuncData} (F : FD8 K f fd) : FnOk P w K mg base CX0 1 f fd ["self", "wrong"] (spI1 K "wrong") := by
  refine F.ok scI8 (fun vs H Q E h => ?_) (fun cdv A outer s H vs Q E hr h => ⟨_, ?_, read_i1 rfl h⟩)
  · obtain ⟨_, _, _, rfl, _⟩ := h
    rfl
  · exact pss_one (ps_ost (pv 0) (pv 1))
theorem xc8 {f C : Addr} {fd : FuncData} (F : FD8 K f fd) (hf : fldB K C ["wrong"] = true) (he : excB K C = true) (mC : mg "NoChart" = some (.ref C)) (iC : PySem.W.findIn K (.ref C) "__init__" = some (some (.ref f))) (tI : PySem.W.typeIn K (.ref f) = some (.type "function")) : XC1 P w K mg base "NoChart" "wrong" C := by
  obtain ⟨i1, b1⟩ := F.kbindsD (ps := ["self", "wrong"]) 2 [] (fun vs _ _ => vs) (by intro h; cases h) (fun h _ _ => h) (fun _ _ _ _ _ _ _ us is ws l1 l2 l3 => match us, is, ws, l1, l2, l3 with | [_, _], [_], [], _, _, _ => ⟨_, rfl, rfl⟩)
  obtain ⟨i2, b2⟩ := F.kbindsD (ps := ["self", "wrong"]) 1 ["wrong"] (fun vs _ zs => vs ++ zs) (by intro h; cases h) (fun h _ z => h.append z) (fun _ _ _ _ _ _ _ us is ws l1 l2 l3 => match us, is, ws, l1, l2, l3 with | [_], [_], [_], _, _, _ => ⟨_, rfl, rfl⟩)
  obtain ⟨i3, b3⟩ := F.kbindsD (ps := ["self", "wrong"]) 1 [] (fun vs ds _ => vs ++ ds) (by intro h; cases h) (fun h d _ => h.append d) (fun _ _ _ _ _ _ _ us is ws l1 l2 l3 => match us, is, ws, l1, l2, l3 with | [_], [_], [], _, _, _ => ⟨_, rfl, rfl⟩)
  exact ⟨oexC_of hf he, xAt_of hf he (by decide), mC, f, fd, iC, tI, okI8 F, ⟨_, b1⟩, ⟨_, b2⟩, ⟨_, b3⟩⟩
abbrev sI9 : Stmt := inClass (top 9) 0
theorem scI9 : FnScope ["self", "wrong"] ["self", "wrong"] (defScope sI9) := ⟨rfl, rfl, rfl, by decide +kernel, rfl, by decide +kernel, by decide +kernel⟩
abbrev FD9 (K : PySem.W.Frag) (f : Addr) (fd : FuncData) : Prop := FunD K "__init__" "NoStanding.__init__" (defArgs sI9) (defBody sI9) (defScope sI9) [.non] [] f fd
theorem okI9 {f : Addr} {fd : FuncData} (F : FD9 K f fd) : FnOk P w K mg base CX0 1 f fd ["self", "wrong"] (spI1 K "wrong") := by
  refine F.ok scI9 (fun vs H Q E h => ?_) (fun cdv A outer s H vs Q E hr h => ⟨_, ?_, read_i1 rfl h⟩)
  · obtain ⟨_, _, _, rfl, _⟩ := h
    rfl
  · exact pss_one (ps_ost (pv 0) (pv 1))
theorem xc9 {f C : Addr} {fd : FuncData} (F : FD9 K f fd) (hf : fldB K C ["wrong"] = true) (he : excB K C = true) (mC : mg "NoStanding" = some (.ref C)) (iC : PySem.W.findIn K (.ref C) "__init__" = some (some (.ref f))) (tI : PySem.W.typeIn K (.ref f) = some (.type "function")) : XC1 P w K mg base "NoStanding" "wrong" C := by
  obtain ⟨i1, b1⟩ := F.kbindsD (ps := ["self", "wrong"]) 2 [] (fun vs _ _ => vs) (by intro h; cases h) (fun h _ _ => h) (fun _ _ _ _ _ _ _ us is ws l1 l2 l3 => match us, is, ws, l1, l2, l3 with | [_, _], [_], [], _, _, _ => ⟨_, rfl, rfl⟩)
  obtain ⟨i2, b2⟩ := F.kbindsD (ps := ["self", "wrong"]) 1 ["wrong"] (fun vs _ zs => vs ++ zs) (by intro h; cases h) (fun h _ z => h.append z) (fun _ _ _ _ _ _ _ us is ws l1 l2 l3 => match us, is, ws, l1, l2, l3 with | [_], [_], [_], _, _, _ => ⟨_, rfl, rfl⟩)
  obtain ⟨i3, b3⟩ := F.kbindsD (ps := ["self", "wrong"]) 1 [] (fun vs ds _ => vs ++ ds) (by intro h; cases h) (fun h d _ => h.append d) (fun _ _ _ _ _ _ _ us is ws l1 l2 l3 => match us, is, ws, l1, l2, l3 with | [_], [_], [], _, _, _ => ⟨_, rfl, rfl⟩)
  exact ⟨oexC_of hf he, xAt_of hf he (by decide), mC, f, fd, iC, tI, okI9 F, ⟨_, b1⟩, ⟨_, b2⟩, ⟨_, b3⟩⟩
abbrev sI10 : Stmt := inClass (top 10) 0
theorem scI10 : FnScope ["self", "what"] ["self", "what"] (defScope sI10) := ⟨rfl, rfl, rfl, by decide +kernel, rfl, by decide +kernel, by decide +kernel⟩
abbrev FD10 (K : PySem.W.Frag) (f : Addr) (fd : FuncData) : Prop := FunD K "__init__" "NoHappening.__init__" (defArgs sI10) (defBody sI10) (defScope sI10) [.non] [] f fd
theorem okI10 {f : Addr} {fd : FuncData} (F : FD10 K f fd) : FnOk P w K mg base CX0 1 f fd ["self", "what"] (spI1 K "what") := by
  refine F.ok scI10 (fun vs H Q E h => ?_) (fun cdv A outer s H vs Q E hr h => ⟨_, ?_, read_i1 rfl h⟩)
  · obtain ⟨_, _, _, rfl, _⟩ := h
    rfl
  · exact pss_one (ps_ost (pv 0) (pv 1))
theorem xc10 {f C : Addr} {fd : FuncData} (F : FD10 K f fd) (hf : fldB K C ["what"] = true) (he : excB K C = true) (mC : mg "NoHappening" = some (.ref C)) (iC : PySem.W.findIn K (.ref C) "__init__" = some (some (.ref f))) (tI : PySem.W.typeIn K (.ref f) = some (.type "function")) : XC1 P w K mg base "NoHappening" "what" C := by
  obtain ⟨i1, b1⟩ := F.kbindsD (ps := ["self", "what"]) 2 [] (fun vs _ _ => vs) (by intro h; cases h) (fun h _ _ => h) (fun _ _ _ _ _ _ _ us is ws l1 l2 l3 => match us, is, ws, l1, l2, l3 with | [_, _], [_], [], _, _, _ => ⟨_, rfl, rfl⟩)
  obtain ⟨i2, b2⟩ := F.kbindsD (ps := ["self", "what"]) 1 ["what"] (fun vs _ zs => vs ++ zs) (by intro h; cases h) (fun h _ z => h.append z) (fun _ _ _ _ _ _ _ us is ws l1 l2 l3 => match us, is, ws, l1, l2, l3 with | [_], [_], [_], _, _, _ => ⟨_, rfl, rfl⟩)
  obtain ⟨i3, b3⟩ := F.kbindsD (ps := ["self", "what"]) 1 [] (fun vs ds _ => vs ++ ds) (by intro h; cases h) (fun h d _ => h.append d) (fun _ _ _ _ _ _ _ us is ws l1 l2 l3 => match us, is, ws, l1, l2, l3 with | [_], [_], [], _, _, _ => ⟨_, rfl, rfl⟩)
  exact ⟨oexC_of hf he, xAt_of hf he (by decide), mC, f, fd, iC, tI, okI10 F, ⟨_, b1⟩, ⟨_, b2⟩, ⟨_, b3⟩⟩
abbrev sI11 : Stmt := inClass (top 11) 0
theorem scI11 : FnScope ["self", "fact", "stand"] ["self", "fact", "stand"] (defScope sI11) := ⟨rfl, rfl, rfl, by decide +kernel, rfl, by decide +kernel, by decide +kernel⟩
abbrev FD11 (K : PySem.W.Frag) (f : Addr) (fd : FuncData) : Prop := FunD K "__init__" "Beyond.__init__" (defArgs sI11) (defBody sI11) (defScope sI11) [.non, .non] [] f fd
theorem okI11 {f : Addr} {fd : FuncData} (F : FD11 K f fd) : FnOk P w K mg base CX0 1 f fd ["self", "fact", "stand"] (spI2 K "fact" "stand") := by
  refine F.ok scI11 (fun vs H Q E h => ?_) (fun cdv A outer s H vs Q E hr h => ⟨_, ?_, read_i2 rfl h⟩)
  · obtain ⟨_, _, _, _, rfl, _⟩ := h
    rfl
  · exact pss_cons (ps_ost (pv 0) (pv 1)) (pss_one (ps_ost (pv 0) (pv 2)))
theorem xc11 {f C : Addr} {fd : FuncData} (F : FD11 K f fd) (hf : fldB K C ["fact", "stand"] = true) (he : excB K C = true) (mC : mg "Beyond" = some (.ref C)) (iC : PySem.W.findIn K (.ref C) "__init__" = some (some (.ref f))) (tI : PySem.W.typeIn K (.ref f) = some (.type "function")) : XC2 P w K mg base "Beyond" "fact" "stand" C := by
  obtain ⟨i1, b1⟩ := F.kbindsD (ps := ["self", "fact", "stand"]) 3 [] (fun vs ds zs => vs) (by intro h; cases h) (fun h d z => h) (fun _ _ _ _ _ _ _ us is ws l1 l2 l3 => match us, is, ws, l1, l2, l3 with | [_, _, _], [_, _], [], _, _, _ => ⟨_, rfl, rfl⟩)
  obtain ⟨i2, b2⟩ := F.kbindsD (ps := ["self", "fact", "stand"]) 2 [] (fun vs ds zs => vs ++ ds.drop 1) (by intro h; cases h) (fun h d z => h.append (d.drop 1)) (fun _ _ _ _ _ _ _ us is ws l1 l2 l3 => match us, is, ws, l1, l2, l3 with | [_, _], [_, _], [], _, _, _ => ⟨_, rfl, rfl⟩)
  obtain ⟨i3, b3⟩ := F.kbindsD (ps := ["self", "fact", "stand"]) 1 [] (fun vs ds zs => vs ++ ds) (by intro h; cases h) (fun h d z => h.append d) (fun _ _ _ _ _ _ _ us is ws l1 l2 l3 => match us, is, ws, l1, l2, l3 with | [_], [_, _], [], _, _, _ => ⟨_, rfl, rfl⟩)
  obtain ⟨i4, b4⟩ := F.kbindsD (ps := ["self", "fact", "stand"]) 1 ["stand", "fact"] (fun vs ds zs => vs ++ (zs.drop 1 ++ zs.take 1)) (by intro h; cases h) (fun h d z => h.append ((z.drop 1).append (z.take 1))) (fun _ _ _ _ _ _ _ us is ws l1 l2 l3 => match us, is, ws, l1, l2, l3 with | [_], [_, _], [_, _], _, _, _ => ⟨_, rfl, rfl⟩)
  obtain ⟨i5, b5⟩ := F.kbindsD (ps := ["self", "fact", "stand"]) 2 ["stand"] (fun vs ds zs => vs ++ zs) (by intro h; cases h) (fun h d z => h.append z) (fun _ _ _ _ _ _ _ us is ws l1 l2 l3 => match us, is, ws, l1, l2, l3 with | [_, _], [_, _], [_], _, _, _ => ⟨_, rfl, rfl⟩)
  obtain ⟨i6, b6⟩ := F.kbindsD (ps := ["self", "fact", "stand"]) 1 ["stand"] (fun vs ds zs => vs ++ (ds.take 1 ++ zs)) (by intro h; cases h) (fun h d z => h.append ((d.take 1).append z)) (fun _ _ _ _ _ _ _ us is ws l1 l2 l3 => match us, is, ws, l1, l2, l3 with | [_], [_, _], [_], _, _, _ => ⟨_, rfl, rfl⟩)
  exact ⟨oexC_of hf he, xAt_of hf he (by decide), xAt_of hf he (by decide), mC, f, fd, iC, tI, okI11 F, ⟨_, b1⟩, ⟨_, b2⟩, ⟨_, b3⟩, ⟨_, b4⟩, ⟨_, b5⟩, ⟨_, b6⟩⟩
abbrev sI12 : Stmt := inClass (top 12) 0
theorem scI12 : FnScope ["self", "row", "column"] ["self", "row", "column"] (defScope sI12) := ⟨rfl, rfl, rfl, by decide +kernel, rfl, by decide +kernel, by decide +kernel⟩
abbrev FD12 (K : PySem.W.Frag) (f : Addr) (fd : FuncData) : Prop := FunD K "__init__" "NoText.__init__" (defArgs sI12) (defBody sI12) (defScope sI12) [.non, .non] [] f fd
theorem okI12 {f : Addr} {fd : FuncData} (F : FD12 K f fd) : FnOk P w K mg base CX0 1 f fd ["self", "row", "column"] (spI2 K "row" "column") := by
  refine F.ok scI12 (fun vs H Q E h => ?_) (fun cdv A outer s H vs Q E hr h => ⟨_, ?_, read_i2 rfl h⟩)
  · obtain ⟨_, _, _, _, rfl, _⟩ := h
    rfl
  · exact pss_cons (ps_ost (pv 0) (pv 1)) (pss_one (ps_ost (pv 0) (pv 2)))
theorem xc12 {f C : Addr} {fd : FuncData} (F : FD12 K f fd) (hf : fldB K C ["row", "column"] = true) (he : excB K C = true) (mC : mg "NoText" = some (.ref C)) (iC : PySem.W.findIn K (.ref C) "__init__" = some (some (.ref f))) (tI : PySem.W.typeIn K (.ref f) = some (.type "function")) : XC2 P w K mg base "NoText" "row" "column" C := by
  obtain ⟨i1, b1⟩ := F.kbindsD (ps := ["self", "row", "column"]) 3 [] (fun vs ds zs => vs) (by intro h; cases h) (fun h d z => h) (fun _ _ _ _ _ _ _ us is ws l1 l2 l3 => match us, is, ws, l1, l2, l3 with | [_, _, _], [_, _], [], _, _, _ => ⟨_, rfl, rfl⟩)
  obtain ⟨i2, b2⟩ := F.kbindsD (ps := ["self", "row", "column"]) 2 [] (fun vs ds zs => vs ++ ds.drop 1) (by intro h; cases h) (fun h d z => h.append (d.drop 1)) (fun _ _ _ _ _ _ _ us is ws l1 l2 l3 => match us, is, ws, l1, l2, l3 with | [_, _], [_, _], [], _, _, _ => ⟨_, rfl, rfl⟩)
  obtain ⟨i3, b3⟩ := F.kbindsD (ps := ["self", "row", "column"]) 1 [] (fun vs ds zs => vs ++ ds) (by intro h; cases h) (fun h d z => h.append d) (fun _ _ _ _ _ _ _ us is ws l1 l2 l3 => match us, is, ws, l1, l2, l3 with | [_], [_, _], [], _, _, _ => ⟨_, rfl, rfl⟩)
  obtain ⟨i4, b4⟩ := F.kbindsD (ps := ["self", "row", "column"]) 1 ["column", "row"] (fun vs ds zs => vs ++ (zs.drop 1 ++ zs.take 1)) (by intro h; cases h) (fun h d z => h.append ((z.drop 1).append (z.take 1))) (fun _ _ _ _ _ _ _ us is ws l1 l2 l3 => match us, is, ws, l1, l2, l3 with | [_], [_, _], [_, _], _, _, _ => ⟨_, rfl, rfl⟩)
  obtain ⟨i5, b5⟩ := F.kbindsD (ps := ["self", "row", "column"]) 2 ["column"] (fun vs ds zs => vs ++ zs) (by intro h; cases h) (fun h d z => h.append z) (fun _ _ _ _ _ _ _ us is ws l1 l2 l3 => match us, is, ws, l1, l2, l3 with | [_, _], [_, _], [_], _, _, _ => ⟨_, rfl, rfl⟩)
  obtain ⟨i6, b6⟩ := F.kbindsD (ps := ["self", "row", "column"]) 1 ["column"] (fun vs ds zs => vs ++ (ds.take 1 ++ zs)) (by intro h; cases h) (fun h d z => h.append ((d.take 1).append z)) (fun _ _ _ _ _ _ _ us is ws l1 l2 l3 => match us, is, ws, l1, l2, l3 with | [_], [_, _], [_], _, _, _ => ⟨_, rfl, rfl⟩)
  exact ⟨oexC_of hf he, xAt_of hf he (by decide), xAt_of hf he (by decide), mC, f, fd, iC, tI, okI12 F, ⟨_, b1⟩, ⟨_, b2⟩, ⟨_, b3⟩, ⟨_, b4⟩, ⟨_, b5⟩, ⟨_, b6⟩⟩
abbrev sI13 : Stmt := inClass (top 13) 0
theorem scI13 : FnScope ["self", "name"] ["self", "name"] (defScope sI13) := ⟨rfl, rfl, rfl, by decide +kernel, rfl, by decide +kernel, by decide +kernel⟩
abbrev FD13 (K : PySem.W.Frag) (f : Addr) (fd : FuncData) : Prop := FunD K "__init__" "NoName.__init__" (defArgs sI13) (defBody sI13) (defScope sI13) [.non] [] f fd
theorem okI13 {f : Addr} {fd : FuncData} (F : FD13 K f fd) : FnOk P w K mg base CX0 1 f fd ["self", "name"] (spI1 K "name") := by
  refine F.ok scI13 (fun vs H Q E h => ?_) (fun cdv A outer s H vs Q E hr h => ⟨_, ?_, read_i1 rfl h⟩)
  · obtain ⟨_, _, _, rfl, _⟩ := h
    rfl
  · exact pss_one (ps_ost (pv 0) (pv 1))
theorem xc13 {f C : Addr} {fd : FuncData} (F : FD13 K f fd) (hf : fldB K C ["name"] = true) (he : excB K C = true) (mC : mg "NoName" = some (.ref C)) (iC : PySem.W.findIn K (.ref C) "__init__" = some (some (.ref f))) (tI : PySem.W.typeIn K (.ref f) = some (.type "function")) : XC1 P w K mg base "NoName" "name" C := by
  obtain ⟨i1, b1⟩ := F.kbindsD (ps := ["self", "name"]) 2 [] (fun vs _ _ => vs) (by intro h; cases h) (fun h _ _ => h) (fun _ _ _ _ _ _ _ us is ws l1 l2 l3 => match us, is, ws, l1, l2, l3 with | [_, _], [_], [], _, _, _ => ⟨_, rfl, rfl⟩)
  obtain ⟨i2, b2⟩ := F.kbindsD (ps := ["self", "name"]) 1 ["name"] (fun vs _ zs => vs ++ zs) (by intro h; cases h) (fun h _ z => h.append z) (fun _ _ _ _ _ _ _ us is ws l1 l2 l3 => match us, is, ws, l1, l2, l3 with | [_], [_], [_], _, _, _ => ⟨_, rfl, rfl⟩)
  obtain ⟨i3, b3⟩ := F.kbindsD (ps := ["self", "name"]) 1 [] (fun vs ds _ => vs ++ ds) (by intro h; cases h) (fun h d _ => h.append d) (fun _ _ _ _ _ _ _ us is ws l1 l2 l3 => match us, is, ws, l1, l2, l3 with | [_], [_], [], _, _, _ => ⟨_, rfl, rfl⟩)
  exact ⟨oexC_of hf he, xAt_of hf he (by decide), mC, f, fd, iC, tI, okI13 F, ⟨_, b1⟩, ⟨_, b2⟩, ⟨_, b3⟩⟩
abbrev sI14 : Stmt := inClass (top 14) 0
theorem scI14 : FnScope ["self", "number"] ["self", "number"] (defScope sI14) := ⟨rfl, rfl, rfl, by decide +kernel, rfl, by decide +kernel, by decide +kernel⟩
abbrev FD14 (K : PySem.W.Frag) (f : Addr) (fd : FuncData) : Prop := FunD K "__init__" "NoMove.__init__" (defArgs sI14) (defBody sI14) (defScope sI14) [.non] [] f fd
theorem okI14 {f : Addr} {fd : FuncData} (F : FD14 K f fd) : FnOk P w K mg base CX0 1 f fd ["self", "number"] (spI1 K "number") := by
  refine F.ok scI14 (fun vs H Q E h => ?_) (fun cdv A outer s H vs Q E hr h => ⟨_, ?_, read_i1 rfl h⟩)
  · obtain ⟨_, _, _, rfl, _⟩ := h
    rfl
  · exact pss_one (ps_ost (pv 0) (pv 1))
theorem xc14 {f C : Addr} {fd : FuncData} (F : FD14 K f fd) (hf : fldB K C ["number"] = true) (he : excB K C = true) (mC : mg "NoMove" = some (.ref C)) (iC : PySem.W.findIn K (.ref C) "__init__" = some (some (.ref f))) (tI : PySem.W.typeIn K (.ref f) = some (.type "function")) : XC1 P w K mg base "NoMove" "number" C := by
  obtain ⟨i1, b1⟩ := F.kbindsD (ps := ["self", "number"]) 2 [] (fun vs _ _ => vs) (by intro h; cases h) (fun h _ _ => h) (fun _ _ _ _ _ _ _ us is ws l1 l2 l3 => match us, is, ws, l1, l2, l3 with | [_, _], [_], [], _, _, _ => ⟨_, rfl, rfl⟩)
  obtain ⟨i2, b2⟩ := F.kbindsD (ps := ["self", "number"]) 1 ["number"] (fun vs _ zs => vs ++ zs) (by intro h; cases h) (fun h _ z => h.append z) (fun _ _ _ _ _ _ _ us is ws l1 l2 l3 => match us, is, ws, l1, l2, l3 with | [_], [_], [_], _, _, _ => ⟨_, rfl, rfl⟩)
  obtain ⟨i3, b3⟩ := F.kbindsD (ps := ["self", "number"]) 1 [] (fun vs ds _ => vs ++ ds) (by intro h; cases h) (fun h d _ => h.append d) (fun _ _ _ _ _ _ _ us is ws l1 l2 l3 => match us, is, ws, l1, l2, l3 with | [_], [_], [], _, _, _ => ⟨_, rfl, rfl⟩)
  exact ⟨oexC_of hf he, xAt_of hf he (by decide), mC, f, fd, iC, tI, okI14 F, ⟨_, b1⟩, ⟨_, b2⟩, ⟨_, b3⟩⟩
abbrev sI15 : Stmt := inClass (top 15) 0
theorem scI15 : FnScope ["self", "wrong"] ["self", "wrong"] (defScope sI15) := ⟨rfl, rfl, rfl, by decide +kernel, rfl, by decide +kernel, by decide +kernel⟩
abbrev FD15 (K : PySem.W.Frag) (f : Addr) (fd : FuncData) : Prop := FunD K "__init__" "NoSaying.__init__" (defArgs sI15) (defBody sI15) (defScope sI15) [.non] [] f fd
theorem okI15 {f : Addr} {fd : FuncData} (F : FD15 K f fd) : FnOk P w K mg base CX0 1 f fd ["self", "wrong"] (spI1 K "wrong") := by
  refine F.ok scI15 (fun vs H Q E h => ?_) (fun cdv A outer s H vs Q E hr h => ⟨_, ?_, read_i1 rfl h⟩)
  · obtain ⟨_, _, _, rfl, _⟩ := h
    rfl
  · exact pss_one (ps_ost (pv 0) (pv 1))
theorem xc15 {f C : Addr} {fd : FuncData} (F : FD15 K f fd) (hf : fldB K C ["wrong"] = true) (he : excB K C = true) (mC : mg "NoSaying" = some (.ref C)) (iC : PySem.W.findIn K (.ref C) "__init__" = some (some (.ref f))) (tI : PySem.W.typeIn K (.ref f) = some (.type "function")) : XC1 P w K mg base "NoSaying" "wrong" C := by
  obtain ⟨i1, b1⟩ := F.kbindsD (ps := ["self", "wrong"]) 2 [] (fun vs _ _ => vs) (by intro h; cases h) (fun h _ _ => h) (fun _ _ _ _ _ _ _ us is ws l1 l2 l3 => match us, is, ws, l1, l2, l3 with | [_, _], [_], [], _, _, _ => ⟨_, rfl, rfl⟩)
  obtain ⟨i2, b2⟩ := F.kbindsD (ps := ["self", "wrong"]) 1 ["wrong"] (fun vs _ zs => vs ++ zs) (by intro h; cases h) (fun h _ z => h.append z) (fun _ _ _ _ _ _ _ us is ws l1 l2 l3 => match us, is, ws, l1, l2, l3 with | [_], [_], [_], _, _, _ => ⟨_, rfl, rfl⟩)
  obtain ⟨i3, b3⟩ := F.kbindsD (ps := ["self", "wrong"]) 1 [] (fun vs ds _ => vs ++ ds) (by intro h; cases h) (fun h d _ => h.append d) (fun _ _ _ _ _ _ _ us is ws l1 l2 l3 => match us, is, ws, l1, l2, l3 with | [_], [_], [], _, _, _ => ⟨_, rfl, rfl⟩)
  exact ⟨oexC_of hf he, xAt_of hf he (by decide), mC, f, fd, iC, tI, okI15 F, ⟨_, b1⟩, ⟨_, b2⟩, ⟨_, b3⟩⟩
abbrev sI16 : Stmt := inClass (top 16) 0
theorem scI16 : FnScope ["self", "most"] ["self", "most"] (defScope sI16) := ⟨rfl, rfl, rfl, by decide +kernel, rfl, by decide +kernel, by decide +kernel⟩
abbrev FD16 (K : PySem.W.Frag) (f : Addr) (fd : FuncData) : Prop := FunD K "__init__" "TooGreat.__init__" (defArgs sI16) (defBody sI16) (defScope sI16) [.non] [] f fd
theorem okI16 {f : Addr} {fd : FuncData} (F : FD16 K f fd) : FnOk P w K mg base CX0 1 f fd ["self", "most"] (spI1 K "most") := by
  refine F.ok scI16 (fun vs H Q E h => ?_) (fun cdv A outer s H vs Q E hr h => ⟨_, ?_, read_i1 rfl h⟩)
  · obtain ⟨_, _, _, rfl, _⟩ := h
    rfl
  · exact pss_one (ps_ost (pv 0) (pv 1))
theorem xc16 {f C : Addr} {fd : FuncData} (F : FD16 K f fd) (hf : fldB K C ["most"] = true) (he : excB K C = true) (mC : mg "TooGreat" = some (.ref C)) (iC : PySem.W.findIn K (.ref C) "__init__" = some (some (.ref f))) (tI : PySem.W.typeIn K (.ref f) = some (.type "function")) : XC1 P w K mg base "TooGreat" "most" C := by
  obtain ⟨i1, b1⟩ := F.kbindsD (ps := ["self", "most"]) 2 [] (fun vs _ _ => vs) (by intro h; cases h) (fun h _ _ => h) (fun _ _ _ _ _ _ _ us is ws l1 l2 l3 => match us, is, ws, l1, l2, l3 with | [_, _], [_], [], _, _, _ => ⟨_, rfl, rfl⟩)
  obtain ⟨i2, b2⟩ := F.kbindsD (ps := ["self", "most"]) 1 ["most"] (fun vs _ zs => vs ++ zs) (by intro h; cases h) (fun h _ z => h.append z) (fun _ _ _ _ _ _ _ us is ws l1 l2 l3 => match us, is, ws, l1, l2, l3 with | [_], [_], [_], _, _, _ => ⟨_, rfl, rfl⟩)
  obtain ⟨i3, b3⟩ := F.kbindsD (ps := ["self", "most"]) 1 [] (fun vs ds _ => vs ++ ds) (by intro h; cases h) (fun h d _ => h.append d) (fun _ _ _ _ _ _ _ us is ws l1 l2 l3 => match us, is, ws, l1, l2, l3 with | [_], [_], [], _, _, _ => ⟨_, rfl, rfl⟩)
  exact ⟨oexC_of hf he, xAt_of hf he (by decide), mC, f, fd, iC, tI, okI16 F, ⟨_, b1⟩, ⟨_, b2⟩, ⟨_, b3⟩⟩
abbrev sI17 : Stmt := inClass (top 17) 0
theorem scI17 : FnScope ["self", "name"] ["self", "name"] (defScope sI17) := ⟨rfl, rfl, rfl, by decide +kernel, rfl, by decide +kernel, by decide +kernel⟩
abbrev FD17 (K : PySem.W.Frag) (f : Addr) (fd : FuncData) : Prop := FunD K "__init__" "Gone.__init__" (defArgs sI17) (defBody sI17) (defScope sI17) [.non] [] f fd
theorem okI17 {f : Addr} {fd : FuncData} (F : FD17 K f fd) : FnOk P w K mg base CX0 1 f fd ["self", "name"] (spI1 K "name") := by
  refine F.ok scI17 (fun vs H Q E h => ?_) (fun cdv A outer s H vs Q E hr h => ⟨_, ?_, read_i1 rfl h⟩)
  · obtain ⟨_, _, _, rfl, _⟩ := h
    rfl
  · exact pss_one (ps_ost (pv 0) (pv 1))
theorem xc17 {f C : Addr} {fd : FuncData} (F : FD17 K f fd) (hf : fldB K C ["name"] = true) (he : excB K C = true) (mC : mg "Gone" = some (.ref C)) (iC : PySem.W.findIn K (.ref C) "__init__" = some (some (.ref f))) (tI : PySem.W.typeIn K (.ref f) = some (.type "function")) : XC1 P w K mg base "Gone" "name" C := by
  obtain ⟨i1, b1⟩ := F.kbindsD (ps := ["self", "name"]) 2 [] (fun vs _ _ => vs) (by intro h; cases h) (fun h _ _ => h) (fun _ _ _ _ _ _ _ us is ws l1 l2 l3 => match us, is, ws, l1, l2, l3 with | [_, _], [_], [], _, _, _ => ⟨_, rfl, rfl⟩)
  obtain ⟨i2, b2⟩ := F.kbindsD (ps := ["self", "name"]) 1 ["name"] (fun vs _ zs => vs ++ zs) (by intro h; cases h) (fun h _ z => h.append z) (fun _ _ _ _ _ _ _ us is ws l1 l2 l3 => match us, is, ws, l1, l2, l3 with | [_], [_], [_], _, _, _ => ⟨_, rfl, rfl⟩)
  obtain ⟨i3, b3⟩ := F.kbindsD (ps := ["self", "name"]) 1 [] (fun vs ds _ => vs ++ ds) (by intro h; cases h) (fun h d _ => h.append d) (fun _ _ _ _ _ _ _ us is ws l1 l2 l3 => match us, is, ws, l1, l2, l3 with | [_], [_], [], _, _, _ => ⟨_, rfl, rfl⟩)
  exact ⟨oexC_of hf he, xAt_of hf he (by decide), mC, f, fd, iC, tI, okI17 F, ⟨_, b1⟩, ⟨_, b2⟩, ⟨_, b3⟩⟩
abbrev sI18 : Stmt := inClass (top 18) 0
theorem scI18 : FnScope ["self", "one", "other"] ["self", "one", "other"] (defScope sI18) := ⟨rfl, rfl, rfl, by decide +kernel, rfl, by decide +kernel, by decide +kernel⟩
abbrev FD18 (K : PySem.W.Frag) (f : Addr) (fd : FuncData) : Prop := FunD K "__init__" "Apart.__init__" (defArgs sI18) (defBody sI18) (defScope sI18) [.non, .non] [] f fd
theorem okI18 {f : Addr} {fd : FuncData} (F : FD18 K f fd) : FnOk P w K mg base CX0 1 f fd ["self", "one", "other"] (spI2 K "one" "other") := by
  refine F.ok scI18 (fun vs H Q E h => ?_) (fun cdv A outer s H vs Q E hr h => ⟨_, ?_, read_i2 rfl h⟩)
  · obtain ⟨_, _, _, _, rfl, _⟩ := h
    rfl
  · exact pss_cons (ps_ost (pv 0) (pv 1)) (pss_one (ps_ost (pv 0) (pv 2)))
theorem xc18 {f C : Addr} {fd : FuncData} (F : FD18 K f fd) (hf : fldB K C ["one", "other"] = true) (he : excB K C = true) (mC : mg "Apart" = some (.ref C)) (iC : PySem.W.findIn K (.ref C) "__init__" = some (some (.ref f))) (tI : PySem.W.typeIn K (.ref f) = some (.type "function")) : XC2 P w K mg base "Apart" "one" "other" C := by
  obtain ⟨i1, b1⟩ := F.kbindsD (ps := ["self", "one", "other"]) 3 [] (fun vs ds zs => vs) (by intro h; cases h) (fun h d z => h) (fun _ _ _ _ _ _ _ us is ws l1 l2 l3 => match us, is, ws, l1, l2, l3 with | [_, _, _], [_, _], [], _, _, _ => ⟨_, rfl, rfl⟩)
  obtain ⟨i2, b2⟩ := F.kbindsD (ps := ["self", "one", "other"]) 2 [] (fun vs ds zs => vs ++ ds.drop 1) (by intro h; cases h) (fun h d z => h.append (d.drop 1)) (fun _ _ _ _ _ _ _ us is ws l1 l2 l3 => match us, is, ws, l1, l2, l3 with | [_, _], [_, _], [], _, _, _ => ⟨_, rfl, rfl⟩)
  obtain ⟨i3, b3⟩ := F.kbindsD (ps := ["self", "one", "other"]) 1 [] (fun vs ds zs => vs ++ ds) (by intro h; cases h) (fun h d z => h.append d) (fun _ _ _ _ _ _ _ us is ws l1 l2 l3 => match us, is, ws, l1, l2, l3 with | [_], [_, _], [], _, _, _ => ⟨_, rfl, rfl⟩)
  obtain ⟨i4, b4⟩ := F.kbindsD (ps := ["self", "one", "other"]) 1 ["other", "one"] (fun vs ds zs => vs ++ (zs.drop 1 ++ zs.take 1)) (by intro h; cases h) (fun h d z => h.append ((z.drop 1).append (z.take 1))) (fun _ _ _ _ _ _ _ us is ws l1 l2 l3 => match us, is, ws, l1, l2, l3 with | [_], [_, _], [_, _], _, _, _ => ⟨_, rfl, rfl⟩)
  obtain ⟨i5, b5⟩ := F.kbindsD (ps := ["self", "one", "other"]) 2 ["other"] (fun vs ds zs => vs ++ zs) (by intro h; cases h) (fun h d z => h.append z) (fun _ _ _ _ _ _ _ us is ws l1 l2 l3 => match us, is, ws, l1, l2, l3 with | [_, _], [_, _], [_], _, _, _ => ⟨_, rfl, rfl⟩)
  obtain ⟨i6, b6⟩ := F.kbindsD (ps := ["self", "one", "other"]) 1 ["other"] (fun vs ds zs => vs ++ (ds.take 1 ++ zs)) (by intro h; cases h) (fun h d z => h.append ((d.take 1).append z)) (fun _ _ _ _ _ _ _ us is ws l1 l2 l3 => match us, is, ws, l1, l2, l3 with | [_], [_, _], [_], _, _, _ => ⟨_, rfl, rfl⟩)
  exact ⟨oexC_of hf he, xAt_of hf he (by decide), xAt_of hf he (by decide), mC, f, fd, iC, tI, okI18 F, ⟨_, b1⟩, ⟨_, b2⟩, ⟨_, b3⟩, ⟨_, b4⟩, ⟨_, b5⟩, ⟨_, b6⟩⟩
abbrev sI19 : Stmt := inClass (top 19) 0
theorem scI19 : FnScope ["self", "name"] ["self", "name"] (defScope sI19) := ⟨rfl, rfl, rfl, by decide +kernel, rfl, by decide +kernel, by decide +kernel⟩
abbrev FD19 (K : PySem.W.Frag) (f : Addr) (fd : FuncData) : Prop := FunD K "__init__" "Moved.__init__" (defArgs sI19) (defBody sI19) (defScope sI19) [.non] [] f fd
theorem okI19 {f : Addr} {fd : FuncData} (F : FD19 K f fd) : FnOk P w K mg base CX0 1 f fd ["self", "name"] (spI1 K "name") := by
  refine F.ok scI19 (fun vs H Q E h => ?_) (fun cdv A outer s H vs Q E hr h => ⟨_, ?_, read_i1 rfl h⟩)
  · obtain ⟨_, _, _, rfl, _⟩ := h
    rfl
  · exact pss_one (ps_ost (pv 0) (pv 1))
theorem xc19 {f C : Addr} {fd : FuncData} (F : FD19 K f fd) (hf : fldB K C ["name"] = true) (he : excB K C = true) (mC : mg "Moved" = some (.ref C)) (iC : PySem.W.findIn K (.ref C) "__init__" = some (some (.ref f))) (tI : PySem.W.typeIn K (.ref f) = some (.type "function")) : XC1 P w K mg base "Moved" "name" C := by
  obtain ⟨i1, b1⟩ := F.kbindsD (ps := ["self", "name"]) 2 [] (fun vs _ _ => vs) (by intro h; cases h) (fun h _ _ => h) (fun _ _ _ _ _ _ _ us is ws l1 l2 l3 => match us, is, ws, l1, l2, l3 with | [_, _], [_], [], _, _, _ => ⟨_, rfl, rfl⟩)
  obtain ⟨i2, b2⟩ := F.kbindsD (ps := ["self", "name"]) 1 ["name"] (fun vs _ zs => vs ++ zs) (by intro h; cases h) (fun h _ z => h.append z) (fun _ _ _ _ _ _ _ us is ws l1 l2 l3 => match us, is, ws, l1, l2, l3 with | [_], [_], [_], _, _, _ => ⟨_, rfl, rfl⟩)
  obtain ⟨i3, b3⟩ := F.kbindsD (ps := ["self", "name"]) 1 [] (fun vs ds _ => vs ++ ds) (by intro h; cases h) (fun h d _ => h.append d) (fun _ _ _ _ _ _ _ us is ws l1 l2 l3 => match us, is, ws, l1, l2, l3 with | [_], [_], [], _, _, _ => ⟨_, rfl, rfl⟩)
  exact ⟨oexC_of hf he, xAt_of hf he (by decide), mC, f, fd, iC, tI, okI19 F, ⟨_, b1⟩, ⟨_, b2⟩, ⟨_, b3⟩⟩
abbrev sI20 : Stmt := inClass (top 20) 0
theorem scI20 : FnScope ["self", "title"] ["self", "title"] (defScope sI20) := ⟨rfl, rfl, rfl, by decide +kernel, rfl, by decide +kernel, by decide +kernel⟩
abbrev FD20 (K : PySem.W.Frag) (f : Addr) (fd : FuncData) : Prop := FunD K "__init__" "NoTitle.__init__" (defArgs sI20) (defBody sI20) (defScope sI20) [.non] [] f fd
theorem okI20 {f : Addr} {fd : FuncData} (F : FD20 K f fd) : FnOk P w K mg base CX0 1 f fd ["self", "title"] (spI1 K "title") := by
  refine F.ok scI20 (fun vs H Q E h => ?_) (fun cdv A outer s H vs Q E hr h => ⟨_, ?_, read_i1 rfl h⟩)
  · obtain ⟨_, _, _, rfl, _⟩ := h
    rfl
  · exact pss_one (ps_ost (pv 0) (pv 1))
theorem xc20 {f C : Addr} {fd : FuncData} (F : FD20 K f fd) (hf : fldB K C ["title"] = true) (he : excB K C = true) (mC : mg "NoTitle" = some (.ref C)) (iC : PySem.W.findIn K (.ref C) "__init__" = some (some (.ref f))) (tI : PySem.W.typeIn K (.ref f) = some (.type "function")) : XC1 P w K mg base "NoTitle" "title" C := by
  obtain ⟨i1, b1⟩ := F.kbindsD (ps := ["self", "title"]) 2 [] (fun vs _ _ => vs) (by intro h; cases h) (fun h _ _ => h) (fun _ _ _ _ _ _ _ us is ws l1 l2 l3 => match us, is, ws, l1, l2, l3 with | [_, _], [_], [], _, _, _ => ⟨_, rfl, rfl⟩)
  obtain ⟨i2, b2⟩ := F.kbindsD (ps := ["self", "title"]) 1 ["title"] (fun vs _ zs => vs ++ zs) (by intro h; cases h) (fun h _ z => h.append z) (fun _ _ _ _ _ _ _ us is ws l1 l2 l3 => match us, is, ws, l1, l2, l3 with | [_], [_], [_], _, _, _ => ⟨_, rfl, rfl⟩)
  obtain ⟨i3, b3⟩ := F.kbindsD (ps := ["self", "title"]) 1 [] (fun vs ds _ => vs ++ ds) (by intro h; cases h) (fun h d _ => h.append d) (fun _ _ _ _ _ _ _ us is ws l1 l2 l3 => match us, is, ws, l1, l2, l3 with | [_], [_], [], _, _, _ => ⟨_, rfl, rfl⟩)
  exact ⟨oexC_of hf he, xAt_of hf he (by decide), mC, f, fd, iC, tI, okI20 F, ⟨_, b1⟩, ⟨_, b2⟩, ⟨_, b3⟩⟩
abbrev sI21 : Stmt := inClass (top 21) 0
theorem scI21 : FnScope ["self", "title"] ["self", "title"] (defScope sI21) := ⟨rfl, rfl, rfl, by decide +kernel, rfl, by decide +kernel, by decide +kernel⟩
abbrev FD21 (K : PySem.W.Frag) (f : Addr) (fd : FuncData) : Prop := FunD K "__init__" "Taken.__init__" (defArgs sI21) (defBody sI21) (defScope sI21) [.non] [] f fd
theorem okI21 {f : Addr} {fd : FuncData} (F : FD21 K f fd) : FnOk P w K mg base CX0 1 f fd ["self", "title"] (spI1 K "title") := by
  refine F.ok scI21 (fun vs H Q E h => ?_) (fun cdv A outer s H vs Q E hr h => ⟨_, ?_, read_i1 rfl h⟩)
  · obtain ⟨_, _, _, rfl, _⟩ := h
    rfl
  · exact pss_one (ps_ost (pv 0) (pv 1))
theorem xc21 {f C : Addr} {fd : FuncData} (F : FD21 K f fd) (hf : fldB K C ["title"] = true) (he : excB K C = true) (mC : mg "Taken" = some (.ref C)) (iC : PySem.W.findIn K (.ref C) "__init__" = some (some (.ref f))) (tI : PySem.W.typeIn K (.ref f) = some (.type "function")) : XC1 P w K mg base "Taken" "title" C := by
  obtain ⟨i1, b1⟩ := F.kbindsD (ps := ["self", "title"]) 2 [] (fun vs _ _ => vs) (by intro h; cases h) (fun h _ _ => h) (fun _ _ _ _ _ _ _ us is ws l1 l2 l3 => match us, is, ws, l1, l2, l3 with | [_, _], [_], [], _, _, _ => ⟨_, rfl, rfl⟩)
  obtain ⟨i2, b2⟩ := F.kbindsD (ps := ["self", "title"]) 1 ["title"] (fun vs _ zs => vs ++ zs) (by intro h; cases h) (fun h _ z => h.append z) (fun _ _ _ _ _ _ _ us is ws l1 l2 l3 => match us, is, ws, l1, l2, l3 with | [_], [_], [_], _, _, _ => ⟨_, rfl, rfl⟩)
  obtain ⟨i3, b3⟩ := F.kbindsD (ps := ["self", "title"]) 1 [] (fun vs ds _ => vs ++ ds) (by intro h; cases h) (fun h d _ => h.append d) (fun _ _ _ _ _ _ _ us is ws l1 l2 l3 => match us, is, ws, l1, l2, l3 with | [_], [_], [], _, _, _ => ⟨_, rfl, rfl⟩)
  exact ⟨oexC_of hf he, xAt_of hf he (by decide), mC, f, fd, iC, tI, okI21 F, ⟨_, b1⟩, ⟨_, b2⟩, ⟨_, b3⟩⟩
abbrev sI22 : Stmt := inClass (top 22) 0
theorem scI22 : FnScope ["self", "title"] ["self", "title"] (defScope sI22) := ⟨rfl, rfl, rfl, by decide +kernel, rfl, by decide +kernel, by decide +kernel⟩
abbrev FD22 (K : PySem.W.Frag) (f : Addr) (fd : FuncData) : Prop := FunD K "__init__" "NoRun.__init__" (defArgs sI22) (defBody sI22) (defScope sI22) [.non] [] f fd
theorem okI22 {f : Addr} {fd : FuncData} (F : FD22 K f fd) : FnOk P w K mg base CX0 1 f fd ["self", "title"] (spI1 K "title") := by
  refine F.ok scI22 (fun vs H Q E h => ?_) (fun cdv A outer s H vs Q E hr h => ⟨_, ?_, read_i1 rfl h⟩)
  · obtain ⟨_, _, _, rfl, _⟩ := h
    rfl
  · exact pss_one (ps_ost (pv 0) (pv 1))
theorem xc22 {f C : Addr} {fd : FuncData} (F : FD22 K f fd) (hf : fldB K C ["title"] = true) (he : excB K C = true) (mC : mg "NoRun" = some (.ref C)) (iC : PySem.W.findIn K (.ref C) "__init__" = some (some (.ref f))) (tI : PySem.W.typeIn K (.ref f) = some (.type "function")) : XC1 P w K mg base "NoRun" "title" C := by
  obtain ⟨i1, b1⟩ := F.kbindsD (ps := ["self", "title"]) 2 [] (fun vs _ _ => vs) (by intro h; cases h) (fun h _ _ => h) (fun _ _ _ _ _ _ _ us is ws l1 l2 l3 => match us, is, ws, l1, l2, l3 with | [_, _], [_], [], _, _, _ => ⟨_, rfl, rfl⟩)
  obtain ⟨i2, b2⟩ := F.kbindsD (ps := ["self", "title"]) 1 ["title"] (fun vs _ zs => vs ++ zs) (by intro h; cases h) (fun h _ z => h.append z) (fun _ _ _ _ _ _ _ us is ws l1 l2 l3 => match us, is, ws, l1, l2, l3 with | [_], [_], [_], _, _, _ => ⟨_, rfl, rfl⟩)
  obtain ⟨i3, b3⟩ := F.kbindsD (ps := ["self", "title"]) 1 [] (fun vs ds _ => vs ++ ds) (by intro h; cases h) (fun h d _ => h.append d) (fun _ _ _ _ _ _ _ us is ws l1 l2 l3 => match us, is, ws, l1, l2, l3 with | [_], [_], [], _, _, _ => ⟨_, rfl, rfl⟩)
  exact ⟨oexC_of hf he, xAt_of hf he (by decide), mC, f, fd, iC, tI, okI22 F, ⟨_, b1⟩, ⟨_, b2⟩, ⟨_, b3⟩⟩
abbrev sI23 : Stmt := inClass (top 23) 0
theorem scI23 : FnScope ["self", "title", "wrong"] ["self", "title", "wrong"] (defScope sI23) := ⟨rfl, rfl, rfl, by decide +kernel, rfl, by decide +kernel, by decide +kernel⟩
abbrev FD23 (K : PySem.W.Frag) (f : Addr) (fd : FuncData) : Prop := FunD K "__init__" "NoLead.__init__" (defArgs sI23) (defBody sI23) (defScope sI23) [.non, .non] [] f fd
theorem okI23 {f : Addr} {fd : FuncData} (F : FD23 K f fd) : FnOk P w K mg base CX0 1 f fd ["self", "title", "wrong"] (spI2 K "title" "wrong") := by
  refine F.ok scI23 (fun vs H Q E h => ?_) (fun cdv A outer s H vs Q E hr h => ⟨_, ?_, read_i2 rfl h⟩)
  · obtain ⟨_, _, _, _, rfl, _⟩ := h
    rfl
  · exact pss_cons (ps_ost (pv 0) (pv 1)) (pss_one (ps_ost (pv 0) (pv 2)))
theorem xc23 {f C : Addr} {fd : FuncData} (F : FD23 K f fd) (hf : fldB K C ["title", "wrong"] = true) (he : excB K C = true) (mC : mg "NoLead" = some (.ref C)) (iC : PySem.W.findIn K (.ref C) "__init__" = some (some (.ref f))) (tI : PySem.W.typeIn K (.ref f) = some (.type "function")) : XC2 P w K mg base "NoLead" "title" "wrong" C := by
  obtain ⟨i1, b1⟩ := F.kbindsD (ps := ["self", "title", "wrong"]) 3 [] (fun vs ds zs => vs) (by intro h; cases h) (fun h d z => h) (fun _ _ _ _ _ _ _ us is ws l1 l2 l3 => match us, is, ws, l1, l2, l3 with | [_, _, _], [_, _], [], _, _, _ => ⟨_, rfl, rfl⟩)
  obtain ⟨i2, b2⟩ := F.kbindsD (ps := ["self", "title", "wrong"]) 2 [] (fun vs ds zs => vs ++ ds.drop 1) (by intro h; cases h) (fun h d z => h.append (d.drop 1)) (fun _ _ _ _ _ _ _ us is ws l1 l2 l3 => match us, is, ws, l1, l2, l3 with | [_, _], [_, _], [], _, _, _ => ⟨_, rfl, rfl⟩)
  obtain ⟨i3, b3⟩ := F.kbindsD (ps := ["self", "title", "wrong"]) 1 [] (fun vs ds zs => vs ++ ds) (by intro h; cases h) (fun h d z => h.append d) (fun _ _ _ _ _ _ _ us is ws l1 l2 l3 => match us, is, ws, l1, l2, l3 with | [_], [_, _], [], _, _, _ => ⟨_, rfl, rfl⟩)
  obtain ⟨i4, b4⟩ := F.kbindsD (ps := ["self", "title", "wrong"]) 1 ["wrong", "title"] (fun vs ds zs => vs ++ (zs.drop 1 ++ zs.take 1)) (by intro h; cases h) (fun h d z => h.append ((z.drop 1).append (z.take 1))) (fun _ _ _ _ _ _ _ us is ws l1 l2 l3 => match us, is, ws, l1, l2, l3 with | [_], [_, _], [_, _], _, _, _ => ⟨_, rfl, rfl⟩)
  obtain ⟨i5, b5⟩ := F.kbindsD (ps := ["self", "title", "wrong"]) 2 ["wrong"] (fun vs ds zs => vs ++ zs) (by intro h; cases h) (fun h d z => h.append z) (fun _ _ _ _ _ _ _ us is ws l1 l2 l3 => match us, is, ws, l1, l2, l3 with | [_, _], [_, _], [_], _, _, _ => ⟨_, rfl, rfl⟩)
  obtain ⟨i6, b6⟩ := F.kbindsD (ps := ["self", "title", "wrong"]) 1 ["wrong"] (fun vs ds zs => vs ++ (ds.take 1 ++ zs)) (by intro h; cases h) (fun h d z => h.append ((d.take 1).append z)) (fun _ _ _ _ _ _ _ us is ws l1 l2 l3 => match us, is, ws, l1, l2, l3 with | [_], [_, _], [_], _, _, _ => ⟨_, rfl, rfl⟩)
  exact ⟨oexC_of hf he, xAt_of hf he (by decide), xAt_of hf he (by decide), mC, f, fd, iC, tI, okI23 F, ⟨_, b1⟩, ⟨_, b2⟩, ⟨_, b3⟩, ⟨_, b4⟩, ⟨_, b5⟩, ⟨_, b6⟩⟩
/-- a def with defaults as it stands -/
theorem fund_mk {x qual : Str} {params : Arguments} {body : List Stmt} {scope : Scope} {dvs : List V} {f T : Addr} {its : List Value} {n : Nat} {tc oc : Value} {td od an : Option Addr} {tsl osl : Array (Option Value)} {kV doc pm cdv ct : Value}
    (l : K.lookup f = some ⟨oc, od, .func (PySem.W.fnOf x qual params body scope (.ref T) kV doc pm an cdv ct), osl⟩) (lT : K.lookup T = some ⟨tc, td, .seq its.toArray n, tsl⟩) (hv : Vals dvs its) (hd : dvs ≠ [])
    (c : PySem.W.codeIn K cdv qual = true) (k : PySem.W.keepIn K (.ref f) = true) : FunD K x qual params body scope dvs [] f (PySem.W.fnOf x qual params body scope (.ref T) kV doc pm an cdv ct) :=
  ⟨⟨oc, od, .ref T, kV, doc, pm, an, cdv, ct, osl, rfl, l, c, .inr ⟨hd, T, _, its, n, rfl, lT, rfl, hv⟩, .inl rfl⟩, k⟩
theorem cs0_of {C1 C2 C3 C4 C5 C6 C7 : Addr} {Cs : List Addr} (hk : kitB K Cs = true) (o : onceB K = true)
    (p1 : plnB K (Cs.getD 1 0) = true) (m1 : mg "StandError" = some (.ref (Cs.getD 1 0)))
    (p2 : plnB K (Cs.getD 2 0) = true) (m2 : mg "Endless" = some (.ref (Cs.getD 2 0)))
    (p3 : plnB K (Cs.getD 3 0) = true) (m3 : mg "NoBack" = some (.ref (Cs.getD 3 0)))
    (p4 : plnB K (Cs.getD 4 0) = true) (m4 : mg "Unlike" = some (.ref (Cs.getD 4 0)))
    (p5 : plnB K (Cs.getD 5 0) = true) (m5 : mg "NoNumber" = some (.ref (Cs.getD 5 0)))
    (p6 : plnB K (Cs.getD 6 0) = true) (m6 : mg "NoGoal" = some (.ref (Cs.getD 6 0)))
    (p7 : plnB K (Cs.getD 7 0) = true) (m7 : mg "NoLine" = some (.ref (Cs.getD 7 0)))
    : Cs0 K mg (fun i => Cs.getD i 0) := by
  unfold kitB at hk
  simp only [Bool.and_eq_true, List.all_eq_true, List.mem_range, beq_iff_eq] at hk
  obtain ⟨⟨⟨h1, h2⟩, h3⟩, h4⟩ := hk
  have pl : ∀ {C : Addr} {x : Str}, plnB K C = true → mg x = some (.ref C) → XC0 K mg x C := fun h m => by
    unfold plnB at h
    rw [Bool.and_eq_true] at h
    exact ⟨h.1, m, h.2⟩
  exact ⟨pl p1 m1, pl p2 m2, pl p3 m3, pl p4 m4, pl p5 m5, pl p6 m6, pl p7 m7, fun i j hi hj => h1 i hi j hj, fun i hi => h2 i hi, fun i hi => h3 i hi, fun i hi => excC_of (h4 i hi) o⟩
end
/-! ### what the top has written (each a fact that k_is finds) -/
theorem all_mk {l : PySem.W.OpenLaw} {w : World} {K : PySem.W.Frag} {h : Heap} {mg : Str → Option Value} {fa : Addr}
    {C1 C2 C3 C4 C5 C6 C7 C8 C9 C10 C11 C12 C13 C14 C15 C16 C17 C18 C19 C20 C21 C22 C23 : Addr}
    {f8 T8 f9 T9 f10 T10 f11 T11 f12 T12 f13 T13 f14 T14 f15 T15 f16 T16 f17 T17 f18 T18 f19 T19 f20 T20 f21 T21 f22 T22 f23 T23 : Addr}
    {od8 an8 td8 od9 an9 td9 od10 an10 td10 od11 an11 td11 od12 an12 td12 od13 an13 td13 od14 an14 td14 od15 an15 td15 od16 an16 td16 od17 an17 td17 od18 an18 td18 od19 an19 td19 od20 an20 td20 od21 an21 td21 od22 an22 td22 od23 an23 td23 : Option Addr}
    {sl8 tl8 sl9 tl9 sl10 tl10 sl11 tl11 sl12 tl12 sl13 tl13 sl14 tl14 sl15 tl15 sl16 tl16 sl17 tl17 sl18 tl18 sl19 tl19 sl20 tl20 sl21 tl21 sl22 tl22 sl23 tl23 : Array (Option Value)}
    {oc8 kV8 dc8 pm8 cd8 ct8 tc8 oc9 kV9 dc9 pm9 cd9 ct9 tc9 oc10 kV10 dc10 pm10 cd10 ct10 tc10 oc11 kV11 dc11 pm11 cd11 ct11 tc11 oc12 kV12 dc12 pm12 cd12 ct12 tc12 oc13 kV13 dc13 pm13 cd13 ct13 tc13 oc14 kV14 dc14 pm14 cd14 ct14 tc14 oc15 kV15 dc15 pm15 cd15 ct15 tc15 oc16 kV16 dc16 pm16 cd16 ct16 tc16 oc17 kV17 dc17 pm17 cd17 ct17 tc17 oc18 kV18 dc18 pm18 cd18 ct18 tc18 oc19 kV19 dc19 pm19 cd19 ct19 tc19 oc20 kV20 dc20 pm20 cd20 ct20 tc20 oc21 kV21 dc21 pm21 cd21 ct21 tc21 oc22 kV22 dc22 pm22 cd22 ct22 tc22 oc23 kV23 dc23 pm23 cd23 ct23 tc23 : Value}
    {n8 n9 n10 n11 n12 n13 n14 n15 n16 n17 n18 n19 n20 n21 n22 n23 : Nat}
    {g0 g1 g2 g3 g4 g5 g6 g7 g8 g9 g10 : Addr}
    {ro0 ra0 ro1 ra1 ro2 ra2 ro3 ra3 ro4 ra4 ro5 ra5 ro6 ra6 ro7 ra7 ro8 ra8 ro9 ra9 ro10 ra10 : Option Addr}
    {rs0 rs1 rs2 rs3 rs4 rs5 rs6 rs7 rs8 rs9 rs10 : Array (Option Value)}
    {rc0 rk0 rd0 rp0 rq0 rt0 rc1 rk1 rd1 rp1 rq1 rt1 rc2 rk2 rd2 rp2 rq2 rt2 rc3 rk3 rd3 rp3 rq3 rt3 rc4 rk4 rd4 rp4 rq4 rt4 rc5 rk5 rd5 rp5 rq5 rt5 rc6 rk6 rd6 rp6 rq6 rt6 rc7 rk7 rd7 rp7 rq7 rt7 rc8 rk8 rd8 rp8 rq8 rt8 rc9 rk9 rd9 rp9 rq9 rt9 rc10 rk10 rd10 rp10 rq10 rt10 : Value} (X : K.In h) (G : h.Ns mainGlobals mg) (hfa : mg "law" = some (.ref fa))
    (a1 : PySem.W.nsIn K mainGlobals "StandError" = some (some (.ref C1)))
    (a2 : PySem.W.nsIn K mainGlobals "Endless" = some (some (.ref C2)))
    (a3 : PySem.W.nsIn K mainGlobals "NoBack" = some (some (.ref C3)))
    (a4 : PySem.W.nsIn K mainGlobals "Unlike" = some (some (.ref C4)))
    (a5 : PySem.W.nsIn K mainGlobals "NoNumber" = some (some (.ref C5)))
    (a6 : PySem.W.nsIn K mainGlobals "NoGoal" = some (some (.ref C6)))
    (a7 : PySem.W.nsIn K mainGlobals "NoLine" = some (some (.ref C7)))
    (a8 : PySem.W.nsIn K mainGlobals "NoChart" = some (some (.ref C8)))
    (a9 : PySem.W.nsIn K mainGlobals "NoStanding" = some (some (.ref C9)))
    (a10 : PySem.W.nsIn K mainGlobals "NoHappening" = some (some (.ref C10)))
    (a11 : PySem.W.nsIn K mainGlobals "Beyond" = some (some (.ref C11)))
    (a12 : PySem.W.nsIn K mainGlobals "NoText" = some (some (.ref C12)))
    (a13 : PySem.W.nsIn K mainGlobals "NoName" = some (some (.ref C13)))
    (a14 : PySem.W.nsIn K mainGlobals "NoMove" = some (some (.ref C14)))
    (a15 : PySem.W.nsIn K mainGlobals "NoSaying" = some (some (.ref C15)))
    (a16 : PySem.W.nsIn K mainGlobals "TooGreat" = some (some (.ref C16)))
    (a17 : PySem.W.nsIn K mainGlobals "Gone" = some (some (.ref C17)))
    (a18 : PySem.W.nsIn K mainGlobals "Apart" = some (some (.ref C18)))
    (a19 : PySem.W.nsIn K mainGlobals "Moved" = some (some (.ref C19)))
    (a20 : PySem.W.nsIn K mainGlobals "NoTitle" = some (some (.ref C20)))
    (a21 : PySem.W.nsIn K mainGlobals "Taken" = some (some (.ref C21)))
    (a22 : PySem.W.nsIn K mainGlobals "NoRun" = some (some (.ref C22)))
    (a23 : PySem.W.nsIn K mainGlobals "NoLead" = some (some (.ref C23)))
    (e8 : excB K C8 = true)
    (b8 : fldB K C8 ["wrong"] = true)
    (i8 : PySem.W.findIn K (.ref C8) "__init__" = some (some (.ref f8)))
    (t8 : PySem.W.typeIn K (.ref f8) = some (.type "function"))
    (l8 : K.lookup f8 = some ⟨oc8, od8, .func (PySem.W.fnOf "__init__" "NoChart.__init__" (defArgs sI8) (defBody sI8) (defScope sI8) (.ref T8) kV8 dc8 pm8 an8 cd8 ct8), sl8⟩)
    (d8 : K.lookup T8 = some ⟨tc8, td8, .seq #[.none] n8, tl8⟩)
    (c8 : PySem.W.codeIn K cd8 "NoChart.__init__" = true)
    (k8 : PySem.W.keepIn K (.ref f8) = true)
    (e9 : excB K C9 = true)
    (b9 : fldB K C9 ["wrong"] = true)
    (i9 : PySem.W.findIn K (.ref C9) "__init__" = some (some (.ref f9)))
    (t9 : PySem.W.typeIn K (.ref f9) = some (.type "function"))
    (l9 : K.lookup f9 = some ⟨oc9, od9, .func (PySem.W.fnOf "__init__" "NoStanding.__init__" (defArgs sI9) (defBody sI9) (defScope sI9) (.ref T9) kV9 dc9 pm9 an9 cd9 ct9), sl9⟩)
    (d9 : K.lookup T9 = some ⟨tc9, td9, .seq #[.none] n9, tl9⟩)
    (c9 : PySem.W.codeIn K cd9 "NoStanding.__init__" = true)
    (k9 : PySem.W.keepIn K (.ref f9) = true)
    (e10 : excB K C10 = true)
    (b10 : fldB K C10 ["what"] = true)
    (i10 : PySem.W.findIn K (.ref C10) "__init__" = some (some (.ref f10)))
    (t10 : PySem.W.typeIn K (.ref f10) = some (.type "function"))
    (l10 : K.lookup f10 = some ⟨oc10, od10, .func (PySem.W.fnOf "__init__" "NoHappening.__init__" (defArgs sI10) (defBody sI10) (defScope sI10) (.ref T10) kV10 dc10 pm10 an10 cd10 ct10), sl10⟩)
    (d10 : K.lookup T10 = some ⟨tc10, td10, .seq #[.none] n10, tl10⟩)
    (c10 : PySem.W.codeIn K cd10 "NoHappening.__init__" = true)
    (k10 : PySem.W.keepIn K (.ref f10) = true)
    (e11 : excB K C11 = true)
    (b11 : fldB K C11 ["fact", "stand"] = true)
    (i11 : PySem.W.findIn K (.ref C11) "__init__" = some (some (.ref f11)))
    (t11 : PySem.W.typeIn K (.ref f11) = some (.type "function"))
    (l11 : K.lookup f11 = some ⟨oc11, od11, .func (PySem.W.fnOf "__init__" "Beyond.__init__" (defArgs sI11) (defBody sI11) (defScope sI11) (.ref T11) kV11 dc11 pm11 an11 cd11 ct11), sl11⟩)
    (d11 : K.lookup T11 = some ⟨tc11, td11, .seq #[.none, .none] n11, tl11⟩)
    (c11 : PySem.W.codeIn K cd11 "Beyond.__init__" = true)
    (k11 : PySem.W.keepIn K (.ref f11) = true)
    (e12 : excB K C12 = true)
    (b12 : fldB K C12 ["row", "column"] = true)
    (i12 : PySem.W.findIn K (.ref C12) "__init__" = some (some (.ref f12)))
    (t12 : PySem.W.typeIn K (.ref f12) = some (.type "function"))
    (l12 : K.lookup f12 = some ⟨oc12, od12, .func (PySem.W.fnOf "__init__" "NoText.__init__" (defArgs sI12) (defBody sI12) (defScope sI12) (.ref T12) kV12 dc12 pm12 an12 cd12 ct12), sl12⟩)
    (d12 : K.lookup T12 = some ⟨tc12, td12, .seq #[.none, .none] n12, tl12⟩)
    (c12 : PySem.W.codeIn K cd12 "NoText.__init__" = true)
    (k12 : PySem.W.keepIn K (.ref f12) = true)
    (e13 : excB K C13 = true)
    (b13 : fldB K C13 ["name"] = true)
    (i13 : PySem.W.findIn K (.ref C13) "__init__" = some (some (.ref f13)))
    (t13 : PySem.W.typeIn K (.ref f13) = some (.type "function"))
    (l13 : K.lookup f13 = some ⟨oc13, od13, .func (PySem.W.fnOf "__init__" "NoName.__init__" (defArgs sI13) (defBody sI13) (defScope sI13) (.ref T13) kV13 dc13 pm13 an13 cd13 ct13), sl13⟩)
    (d13 : K.lookup T13 = some ⟨tc13, td13, .seq #[.none] n13, tl13⟩)
    (c13 : PySem.W.codeIn K cd13 "NoName.__init__" = true)
    (k13 : PySem.W.keepIn K (.ref f13) = true)
    (e14 : excB K C14 = true)
    (b14 : fldB K C14 ["number"] = true)
    (i14 : PySem.W.findIn K (.ref C14) "__init__" = some (some (.ref f14)))
    (t14 : PySem.W.typeIn K (.ref f14) = some (.type "function"))
    (l14 : K.lookup f14 = some ⟨oc14, od14, .func (PySem.W.fnOf "__init__" "NoMove.__init__" (defArgs sI14) (defBody sI14) (defScope sI14) (.ref T14) kV14 dc14 pm14 an14 cd14 ct14), sl14⟩)
    (d14 : K.lookup T14 = some ⟨tc14, td14, .seq #[.none] n14, tl14⟩)
    (c14 : PySem.W.codeIn K cd14 "NoMove.__init__" = true)
    (k14 : PySem.W.keepIn K (.ref f14) = true)
    (e15 : excB K C15 = true)
    (b15 : fldB K C15 ["wrong"] = true)
    (i15 : PySem.W.findIn K (.ref C15) "__init__" = some (some (.ref f15)))
    (t15 : PySem.W.typeIn K (.ref f15) = some (.type "function"))
    (l15 : K.lookup f15 = some ⟨oc15, od15, .func (PySem.W.fnOf "__init__" "NoSaying.__init__" (defArgs sI15) (defBody sI15) (defScope sI15) (.ref T15) kV15 dc15 pm15 an15 cd15 ct15), sl15⟩)
    (d15 : K.lookup T15 = some ⟨tc15, td15, .seq #[.none] n15, tl15⟩)
    (c15 : PySem.W.codeIn K cd15 "NoSaying.__init__" = true)
    (k15 : PySem.W.keepIn K (.ref f15) = true)
    (e16 : excB K C16 = true)
    (b16 : fldB K C16 ["most"] = true)
    (i16 : PySem.W.findIn K (.ref C16) "__init__" = some (some (.ref f16)))
    (t16 : PySem.W.typeIn K (.ref f16) = some (.type "function"))
    (l16 : K.lookup f16 = some ⟨oc16, od16, .func (PySem.W.fnOf "__init__" "TooGreat.__init__" (defArgs sI16) (defBody sI16) (defScope sI16) (.ref T16) kV16 dc16 pm16 an16 cd16 ct16), sl16⟩)
    (d16 : K.lookup T16 = some ⟨tc16, td16, .seq #[.none] n16, tl16⟩)
    (c16 : PySem.W.codeIn K cd16 "TooGreat.__init__" = true)
    (k16 : PySem.W.keepIn K (.ref f16) = true)
    (e17 : excB K C17 = true)
    (b17 : fldB K C17 ["name"] = true)
    (i17 : PySem.W.findIn K (.ref C17) "__init__" = some (some (.ref f17)))
    (t17 : PySem.W.typeIn K (.ref f17) = some (.type "function"))
    (l17 : K.lookup f17 = some ⟨oc17, od17, .func (PySem.W.fnOf "__init__" "Gone.__init__" (defArgs sI17) (defBody sI17) (defScope sI17) (.ref T17) kV17 dc17 pm17 an17 cd17 ct17), sl17⟩)
    (d17 : K.lookup T17 = some ⟨tc17, td17, .seq #[.none] n17, tl17⟩)
    (c17 : PySem.W.codeIn K cd17 "Gone.__init__" = true)
    (k17 : PySem.W.keepIn K (.ref f17) = true)
    (e18 : excB K C18 = true)
    (b18 : fldB K C18 ["one", "other"] = true)
    (i18 : PySem.W.findIn K (.ref C18) "__init__" = some (some (.ref f18)))
    (t18 : PySem.W.typeIn K (.ref f18) = some (.type "function"))
    (l18 : K.lookup f18 = some ⟨oc18, od18, .func (PySem.W.fnOf "__init__" "Apart.__init__" (defArgs sI18) (defBody sI18) (defScope sI18) (.ref T18) kV18 dc18 pm18 an18 cd18 ct18), sl18⟩)
    (d18 : K.lookup T18 = some ⟨tc18, td18, .seq #[.none, .none] n18, tl18⟩)
    (c18 : PySem.W.codeIn K cd18 "Apart.__init__" = true)
    (k18 : PySem.W.keepIn K (.ref f18) = true)
    (e19 : excB K C19 = true)
    (b19 : fldB K C19 ["name"] = true)
    (i19 : PySem.W.findIn K (.ref C19) "__init__" = some (some (.ref f19)))
    (t19 : PySem.W.typeIn K (.ref f19) = some (.type "function"))
    (l19 : K.lookup f19 = some ⟨oc19, od19, .func (PySem.W.fnOf "__init__" "Moved.__init__" (defArgs sI19) (defBody sI19) (defScope sI19) (.ref T19) kV19 dc19 pm19 an19 cd19 ct19), sl19⟩)
    (d19 : K.lookup T19 = some ⟨tc19, td19, .seq #[.none] n19, tl19⟩)
    (c19 : PySem.W.codeIn K cd19 "Moved.__init__" = true)
    (k19 : PySem.W.keepIn K (.ref f19) = true)
    (e20 : excB K C20 = true)
    (b20 : fldB K C20 ["title"] = true)
    (i20 : PySem.W.findIn K (.ref C20) "__init__" = some (some (.ref f20)))
    (t20 : PySem.W.typeIn K (.ref f20) = some (.type "function"))
    (l20 : K.lookup f20 = some ⟨oc20, od20, .func (PySem.W.fnOf "__init__" "NoTitle.__init__" (defArgs sI20) (defBody sI20) (defScope sI20) (.ref T20) kV20 dc20 pm20 an20 cd20 ct20), sl20⟩)
    (d20 : K.lookup T20 = some ⟨tc20, td20, .seq #[.none] n20, tl20⟩)
    (c20 : PySem.W.codeIn K cd20 "NoTitle.__init__" = true)
    (k20 : PySem.W.keepIn K (.ref f20) = true)
    (e21 : excB K C21 = true)
    (b21 : fldB K C21 ["title"] = true)
    (i21 : PySem.W.findIn K (.ref C21) "__init__" = some (some (.ref f21)))
    (t21 : PySem.W.typeIn K (.ref f21) = some (.type "function"))
    (l21 : K.lookup f21 = some ⟨oc21, od21, .func (PySem.W.fnOf "__init__" "Taken.__init__" (defArgs sI21) (defBody sI21) (defScope sI21) (.ref T21) kV21 dc21 pm21 an21 cd21 ct21), sl21⟩)
    (d21 : K.lookup T21 = some ⟨tc21, td21, .seq #[.none] n21, tl21⟩)
    (c21 : PySem.W.codeIn K cd21 "Taken.__init__" = true)
    (k21 : PySem.W.keepIn K (.ref f21) = true)
    (e22 : excB K C22 = true)
    (b22 : fldB K C22 ["title"] = true)
    (i22 : PySem.W.findIn K (.ref C22) "__init__" = some (some (.ref f22)))
    (t22 : PySem.W.typeIn K (.ref f22) = some (.type "function"))
    (l22 : K.lookup f22 = some ⟨oc22, od22, .func (PySem.W.fnOf "__init__" "NoRun.__init__" (defArgs sI22) (defBody sI22) (defScope sI22) (.ref T22) kV22 dc22 pm22 an22 cd22 ct22), sl22⟩)
    (d22 : K.lookup T22 = some ⟨tc22, td22, .seq #[.none] n22, tl22⟩)
    (c22 : PySem.W.codeIn K cd22 "NoRun.__init__" = true)
    (k22 : PySem.W.keepIn K (.ref f22) = true)
    (e23 : excB K C23 = true)
    (b23 : fldB K C23 ["title", "wrong"] = true)
    (i23 : PySem.W.findIn K (.ref C23) "__init__" = some (some (.ref f23)))
    (t23 : PySem.W.typeIn K (.ref f23) = some (.type "function"))
    (l23 : K.lookup f23 = some ⟨oc23, od23, .func (PySem.W.fnOf "__init__" "NoLead.__init__" (defArgs sI23) (defBody sI23) (defScope sI23) (.ref T23) kV23 dc23 pm23 an23 cd23 ct23), sl23⟩)
    (d23 : K.lookup T23 = some ⟨tc23, td23, .seq #[.none, .none] n23, tl23⟩)
    (c23 : PySem.W.codeIn K cd23 "NoLead.__init__" = true)
    (k23 : PySem.W.keepIn K (.ref f23) = true)
    (p1 : plnB K C1 = true)
    (p2 : plnB K C2 = true)
    (p3 : plnB K C3 = true)
    (p4 : plnB K C4 = true)
    (p5 : plnB K C5 = true)
    (p6 : plnB K C6 = true)
    (p7 : plnB K C7 = true)
    (ga0 : PySem.W.nsIn K mainGlobals "_law_at" = some (some (.ref g0)))
    (gl0 : K.lookup g0 = some ⟨rc0, ro0, .func (PySem.W.fnOf "_law_at" "_law_at" (defArgs sAt) (defBody sAt) (defScope sAt) .none rk0 rd0 rp0 ra0 rq0 rt0), rs0⟩)
    (gc0 : PySem.W.codeIn K rq0 "_law_at" = true)
    (gk0 : PySem.W.keepIn K (.ref g0) = true)
    (ga1 : PySem.W.nsIn K mainGlobals "_law_mixed" = some (some (.ref g1)))
    (gl1 : K.lookup g1 = some ⟨rc1, ro1, .func (PySem.W.fnOf "_law_mixed" "_law_mixed" (defArgs sMixed) (defBody sMixed) (defScope sMixed) .none rk1 rd1 rp1 ra1 rq1 rt1), rs1⟩)
    (gc1 : PySem.W.codeIn K rq1 "_law_mixed" = true)
    (gk1 : PySem.W.keepIn K (.ref g1) = true)
    (ga2 : PySem.W.nsIn K mainGlobals "_law_purse" = some (some (.ref g2)))
    (gl2 : K.lookup g2 = some ⟨rc2, ro2, .func (PySem.W.fnOf "_law_purse" "_law_purse" (defArgs sPurse) (defBody sPurse) (defScope sPurse) .none rk2 rd2 rp2 ra2 rq2 rt2), rs2⟩)
    (gc2 : PySem.W.codeIn K rq2 "_law_purse" = true)
    (gk2 : PySem.W.keepIn K (.ref g2) = true)
    (ga3 : PySem.W.nsIn K mainGlobals "_law_draw" = some (some (.ref g3)))
    (gl3 : K.lookup g3 = some ⟨rc3, ro3, .func (PySem.W.fnOf "_law_draw" "_law_draw" (defArgs sDraw) (defBody sDraw) (defScope sDraw) .none rk3 rd3 rp3 ra3 rq3 rt3), rs3⟩)
    (gc3 : PySem.W.codeIn K rq3 "_law_draw" = true)
    (gk3 : PySem.W.keepIn K (.ref g3) = true)
    (ga4 : PySem.W.nsIn K mainGlobals "_law_bare" = some (some (.ref g4)))
    (gl4 : K.lookup g4 = some ⟨rc4, ro4, .func (PySem.W.fnOf "_law_bare" "_law_bare" (defArgs sBare) (defBody sBare) (defScope sBare) .none rk4 rd4 rp4 ra4 rq4 rt4), rs4⟩)
    (gc4 : PySem.W.codeIn K rq4 "_law_bare" = true)
    (gk4 : PySem.W.keepIn K (.ref g4) = true)
    (ga5 : PySem.W.nsIn K mainGlobals "_law_places" = some (some (.ref g5)))
    (gl5 : K.lookup g5 = some ⟨rc5, ro5, .func (PySem.W.fnOf "_law_places" "_law_places" (defArgs sPlaces) (defBody sPlaces) (defScope sPlaces) .none rk5 rd5 rp5 ra5 rq5 rt5), rs5⟩)
    (gc5 : PySem.W.codeIn K rq5 "_law_places" = true)
    (gk5 : PySem.W.keepIn K (.ref g5) = true)
    (ga6 : PySem.W.nsIn K mainGlobals "_law_named" = some (some (.ref g6)))
    (gl6 : K.lookup g6 = some ⟨rc6, ro6, .func (PySem.W.fnOf "_law_named" "_law_named" (defArgs sNamed) (defBody sNamed) (defScope sNamed) .none rk6 rd6 rp6 ra6 rq6 rt6), rs6⟩)
    (gc6 : PySem.W.codeIn K rq6 "_law_named" = true)
    (gk6 : PySem.W.keepIn K (.ref g6) = true)
    (ga7 : PySem.W.nsIn K mainGlobals "_law_beside" = some (some (.ref g7)))
    (gl7 : K.lookup g7 = some ⟨rc7, ro7, .func (PySem.W.fnOf "_law_beside" "_law_beside" (defArgs sBeside) (defBody sBeside) (defScope sBeside) .none rk7 rd7 rp7 ra7 rq7 rt7), rs7⟩)
    (gc7 : PySem.W.codeIn K rq7 "_law_beside" = true)
    (gk7 : PySem.W.keepIn K (.ref g7) = true)
    (ga8 : PySem.W.nsIn K mainGlobals "_law_left_out" = some (some (.ref g8)))
    (gl8 : K.lookup g8 = some ⟨rc8, ro8, .func (PySem.W.fnOf "_law_left_out" "_law_left_out" (defArgs sLeft) (defBody sLeft) (defScope sLeft) .none rk8 rd8 rp8 ra8 rq8 rt8), rs8⟩)
    (gc8 : PySem.W.codeIn K rq8 "_law_left_out" = true)
    (gk8 : PySem.W.keepIn K (.ref g8) = true)
    (ga9 : PySem.W.nsIn K mainGlobals "_law_classes" = some (some (.ref g9)))
    (gl9 : K.lookup g9 = some ⟨rc9, ro9, .func (PySem.W.fnOf "_law_classes" "_law_classes" (defArgs sClasses) (defBody sClasses) (defScope sClasses) .none rk9 rd9 rp9 ra9 rq9 rt9), rs9⟩)
    (gc9 : PySem.W.codeIn K rq9 "_law_classes" = true)
    (gk9 : PySem.W.keepIn K (.ref g9) = true)
    (ga10 : PySem.W.nsIn K mainGlobals "law" = some (some (.ref g10)))
    (gl10 : K.lookup g10 = some ⟨rc10, ro10, .func (PySem.W.fnOf "law" "law" (defArgs sLaw) (defBody sLaw) (defScope sLaw) .none rk10 rd10 rp10 ra10 rq10 rt10), rs10⟩)
    (gc10 : PySem.W.codeIn K rq10 "law" = true)
    (gk10 : PySem.W.keepIn K (.ref g10) = true)
    (z_len : PySem.W.nsIn K mainGlobals "len" = some none)
    (z_max : PySem.W.nsIn K mainGlobals "max" = some none)
    (z_range : PySem.W.nsIn K mainGlobals "range" = some none)
    (z_str : PySem.W.nsIn K mainGlobals "str" = some none)
    (z_isinstance : PySem.W.nsIn K mainGlobals "isinstance" = some none)
    (z_enumerate : PySem.W.nsIn K mainGlobals "enumerate" = some none)
    (z_ValueError : PySem.W.nsIn K mainGlobals "ValueError" = some none)
    (kit : kitB K [0, C1, C2, C3, C4, C5, C6, C7, C8, C9, C10, C11, C12, C13, C14, C15, C16, C17, C18, C19, C20, C21, C22, C23] = true)
    (one : onceB K = true)
    : ∃ fd : FuncData, (∀ (s : Shared) (v : Value), BindsTo s fd ⟨[v], []⟩ [("_law_script", v)]) ∧ ∀ base : Heap, K.In base → base.Ns mainGlobals mg → FnOk l.prog w K mg base CX0 5 fa fd ["_law_script"] (spLaw K) := by
  have e := hfa.symm.trans (PySem.W.mg_of X G ga10)
  cases e
  have B : Bl mg := ⟨PySem.W.mg_none_of X G z_len, PySem.W.mg_none_of X G z_max, PySem.W.mg_none_of X G z_range, PySem.W.mg_none_of X G z_str, PySem.W.mg_none_of X G z_isinstance, PySem.W.mg_none_of X G z_enumerate, PySem.W.mg_none_of X G z_ValueError⟩
  have F0 := fun_mk (st := sAt) gl0 gc0 gk0
  have B0 := F0.binds (ps := ["_law_script", "_law_k"]) fun _ _ _ _ _ _ us hl => match us, hl with | [_, _], _ => rfl
  have F1 := fun_mk (st := sMixed) gl1 gc1 gk1
  have B1 := F1.binds (ps := ["_law_cell", "_law_k"]) fun _ _ _ _ _ _ us hl => match us, hl with | [_, _], _ => rfl
  have F2 := fun_mk (st := sPurse) gl2 gc2 gk2
  have B2 := F2.binds (ps := ["_law_script", "_law_at_here"]) fun _ _ _ _ _ _ us hl => match us, hl with | [_, _], _ => rfl
  have F3 := fun_mk (st := sDraw) gl3 gc3 gk3
  have B3 := F3.binds (ps := ["_law_purse_here", "_law_out_of"]) fun _ _ _ _ _ _ us hl => match us, hl with | [_, _], _ => rfl
  have F4 := fun_mk (st := sBare) gl4 gc4 gk4
  have B4 := F4.binds (ps := []) fun _ _ _ _ _ _ us hl => match us, hl with | [], _ => rfl
  have F5 := fun_mk (st := sPlaces) gl5 gc5 gk5
  have B5 := F5.binds (ps := ["_law_a", "_law_b"]) fun _ _ _ _ _ _ us hl => match us, hl with | [_, _], _ => rfl
  have F6 := fun_mk (st := sNamed) gl6 gc6 gk6
  have B6 := F6.binds (ps := ["_law_a", "_law_b"]) fun _ _ _ _ _ _ us hl => match us, hl with | [_, _], _ => rfl
  have F7 := fun_mk (st := sBeside) gl7 gc7 gk7
  have B7 := F7.binds (ps := ["_law_a", "_law_b"]) fun _ _ _ _ _ _ us hl => match us, hl with | [_, _], _ => rfl
  have F8 := fun_mk (st := sLeft) gl8 gc8 gk8
  have B8 := F8.binds (ps := []) fun _ _ _ _ _ _ us hl => match us, hl with | [], _ => rfl
  have F9 := fun_mk (st := sClasses) gl9 gc9 gk9
  have B9 := F9.binds (ps := []) fun _ _ _ _ _ _ us hl => match us, hl with | [], _ => rfl
  have F10 := fun_mk (st := sLaw) gl10 gc10 gk10
  have c0 : Cs0 K mg (fun i => ([0, C1, C2, C3, C4, C5, C6, C7, C8, C9, C10, C11, C12, C13, C14, C15, C16, C17, C18, C19, C20, C21, C22, C23] : List Addr).getD i 0) := cs0_of (C1 := 0) (C2 := 0) (C3 := 0) (C4 := 0) (C5 := 0) (C6 := 0) (C7 := 0) (Cs := [0, C1, C2, C3, C4, C5, C6, C7, C8, C9, C10, C11, C12, C13, C14, C15, C16, C17, C18, C19, C20, C21, C22, C23]) kit one p1 (PySem.W.mg_of X G a1) p2 (PySem.W.mg_of X G a2) p3 (PySem.W.mg_of X G a3) p4 (PySem.W.mg_of X G a4) p5 (PySem.W.mg_of X G a5) p6 (PySem.W.mg_of X G a6) p7 (PySem.W.mg_of X G a7)
  refine ⟨PySem.W.fnOf "law" "law" (defArgs sLaw) (defBody sLaw) (defScope sLaw) .none rk10 rd10 rp10 ra10 rq10 rt10, fun s v => .of_eq rfl, fun base _ _ => ?_⟩
  have c : Cs l.prog w K mg base (fun i => ([0, C1, C2, C3, C4, C5, C6, C7, C8, C9, C10, C11, C12, C13, C14, C15, C16, C17, C18, C19, C20, C21, C22, C23] : List Addr).getD i 0) := ⟨xc8 (fund_mk (its := [.none]) l8 d8 (.cons rfl .nil) (by intro h; cases h) c8 k8) b8 e8 (PySem.W.mg_of X G a8) i8 t8,
    xc9 (fund_mk (its := [.none]) l9 d9 (.cons rfl .nil) (by intro h; cases h) c9 k9) b9 e9 (PySem.W.mg_of X G a9) i9 t9,
    xc10 (fund_mk (its := [.none]) l10 d10 (.cons rfl .nil) (by intro h; cases h) c10 k10) b10 e10 (PySem.W.mg_of X G a10) i10 t10,
    xc11 (fund_mk (its := [.none, .none]) l11 d11 (.cons rfl (.cons rfl .nil)) (by intro h; cases h) c11 k11) b11 e11 (PySem.W.mg_of X G a11) i11 t11,
    xc12 (fund_mk (its := [.none, .none]) l12 d12 (.cons rfl (.cons rfl .nil)) (by intro h; cases h) c12 k12) b12 e12 (PySem.W.mg_of X G a12) i12 t12,
    xc13 (fund_mk (its := [.none]) l13 d13 (.cons rfl .nil) (by intro h; cases h) c13 k13) b13 e13 (PySem.W.mg_of X G a13) i13 t13,
    xc14 (fund_mk (its := [.none]) l14 d14 (.cons rfl .nil) (by intro h; cases h) c14 k14) b14 e14 (PySem.W.mg_of X G a14) i14 t14,
    xc15 (fund_mk (its := [.none]) l15 d15 (.cons rfl .nil) (by intro h; cases h) c15 k15) b15 e15 (PySem.W.mg_of X G a15) i15 t15,
    xc16 (fund_mk (its := [.none]) l16 d16 (.cons rfl .nil) (by intro h; cases h) c16 k16) b16 e16 (PySem.W.mg_of X G a16) i16 t16,
    xc17 (fund_mk (its := [.none]) l17 d17 (.cons rfl .nil) (by intro h; cases h) c17 k17) b17 e17 (PySem.W.mg_of X G a17) i17 t17,
    xc18 (fund_mk (its := [.none, .none]) l18 d18 (.cons rfl (.cons rfl .nil)) (by intro h; cases h) c18 k18) b18 e18 (PySem.W.mg_of X G a18) i18 t18,
    xc19 (fund_mk (its := [.none]) l19 d19 (.cons rfl .nil) (by intro h; cases h) c19 k19) b19 e19 (PySem.W.mg_of X G a19) i19 t19,
    xc20 (fund_mk (its := [.none]) l20 d20 (.cons rfl .nil) (by intro h; cases h) c20 k20) b20 e20 (PySem.W.mg_of X G a20) i20 t20,
    xc21 (fund_mk (its := [.none]) l21 d21 (.cons rfl .nil) (by intro h; cases h) c21 k21) b21 e21 (PySem.W.mg_of X G a21) i21 t21,
    xc22 (fund_mk (its := [.none]) l22 d22 (.cons rfl .nil) (by intro h; cases h) c22 k22) b22 e22 (PySem.W.mg_of X G a22) i22 t22,
    xc23 (fund_mk (its := [.none, .none]) l23 d23 (.cons rfl (.cons rfl .nil)) (by intro h; cases h) c23 k23) b23 e23 (PySem.W.mg_of X G a23) i23 t23⟩
  exact ok_law F10 B (ok_purse F2 F0 B0 (PySem.W.mg_of X G ga0) B) B2 gk2 (PySem.W.mg_of X G ga2) (ok_draw F3 F1 B1 (PySem.W.mg_of X G ga1) B) B3 gk3 (PySem.W.mg_of X G ga3) (ok_places F5 c) B5 gk5 (PySem.W.mg_of X G ga5) (ok_named F6 c) B6 gk6 (PySem.W.mg_of X G ga6) (ok_beside F7 c) B7 gk7 (PySem.W.mg_of X G ga7) (ok_classes F9 c c0 B F4 B4 (PySem.W.mg_of X G ga4)) B9 gk9 (PySem.W.mg_of X G ga9) (ok_left F8 c B) B8 gk8 (PySem.W.mg_of X G ga8)
theorem walk {l : PySem.W.OpenLaw} {q : Program} {loose : List Str} {XP : (Str → Option Value) → Heap → Prop} {YP : World → Heap → Prop} {d : DefRec} {K : Params → PySem.W.Frag} (hn : l.most = some 63) (hdf : d.params.defaults = [])
    (hY : ∀ (w : World) (h : Heap), YP w h → (K w.params).In h)
    (F : ∀ (w : World) (mg : Str → Option Value) (fa : Addr) (h : Heap), (K w.params).In h → h.Ns mainGlobals mg → mg d.name = some (.ref fa) →
      ∃ fd : FuncData, (∀ (s : Shared) (u : Value), BindsTo s fd ⟨[u], []⟩ [("_law_script", u)]) ∧ ∀ base : Heap, (K w.params).In base → base.Ns mainGlobals mg → FnOk l.prog w (K w.params) mg base CX0 5 fa fd ["_law_script"] (spLaw (K w.params))) :
    PySem.W.WalkO q loose XP YP l.row.toRowW d [] (fun f vs => PySem.call f vs) :=
  L2.walk_of (n := 63) (k := 5) (x := "_law_script") (CX := fun _ => CX0) (sp := fun w => spLaw (K w.params)) hn (by decide) hdf ⟨rfl, by decide, by decide⟩ hY F (fun _ _ a ns hl _ hS => ⟨a, ns, rfl, hS, fun _ => rfl⟩) fun _ _ _ _ _ z => z
end K30

set_option Elab.async false
set_option maxRecDepth 100000
open PySem PySem.W PyProof.Rows
set_option maxRecDepth 100000 in
set_option maxHeartbeats 0 in
theorem PySem.Challenge.cw_deepstands_k30_refusals_by_hand_holds : PySem.Challenge.rw_deepstands_k30_refusals_by_hand.Holds := by
  w_on; o_law; k_head; (case hw => w_witness2)
  k_fill
  refine K30.walk (l := PySem.Challenge.rw_deepstands_k30_refusals_by_hand) rfl rfl (fun w h Y => PySem.W.kIn_of Y) ?F
  case F =>
    intro w mg fa h KX G hmg
    refine' K30.all_mk KX G hmg ?a1 ?a2 ?a3 ?a4 ?a5 ?a6 ?a7 ?a8 ?a9 ?a10 ?a11 ?a12 ?a13 ?a14 ?a15 ?a16 ?a17 ?a18 ?a19 ?a20 ?a21 ?a22 ?a23 ?e8 ?b8 ?i8 ?t8 ?l8 ?d8 ?c8 ?k8 ?e9 ?b9 ?i9 ?t9 ?l9 ?d9 ?c9 ?k9 ?e10 ?b10 ?i10 ?t10 ?l10 ?d10 ?c10 ?k10 ?e11 ?b11 ?i11 ?t11 ?l11 ?d11 ?c11 ?k11 ?e12 ?b12 ?i12 ?t12 ?l12 ?d12 ?c12 ?k12 ?e13 ?b13 ?i13 ?t13 ?l13 ?d13 ?c13 ?k13 ?e14 ?b14 ?i14 ?t14 ?l14 ?d14 ?c14 ?k14 ?e15 ?b15 ?i15 ?t15 ?l15 ?d15 ?c15 ?k15 ?e16 ?b16 ?i16 ?t16 ?l16 ?d16 ?c16 ?k16 ?e17 ?b17 ?i17 ?t17 ?l17 ?d17 ?c17 ?k17 ?e18 ?b18 ?i18 ?t18 ?l18 ?d18 ?c18 ?k18 ?e19 ?b19 ?i19 ?t19 ?l19 ?d19 ?c19 ?k19 ?e20 ?b20 ?i20 ?t20 ?l20 ?d20 ?c20 ?k20 ?e21 ?b21 ?i21 ?t21 ?l21 ?d21 ?c21 ?k21 ?e22 ?b22 ?i22 ?t22 ?l22 ?d22 ?c22 ?k22 ?e23 ?b23 ?i23 ?t23 ?l23 ?d23 ?c23 ?k23 ?p1 ?p2 ?p3 ?p4 ?p5 ?p6 ?p7 ?ga0 ?gl0 ?gc0 ?gk0 ?ga1 ?gl1 ?gc1 ?gk1 ?ga2 ?gl2 ?gc2 ?gk2 ?ga3 ?gl3 ?gc3 ?gk3 ?ga4 ?gl4 ?gc4 ?gk4 ?ga5 ?gl5 ?gc5 ?gk5 ?ga6 ?gl6 ?gc6 ?gk6 ?ga7 ?gl7 ?gc7 ?gk7 ?ga8 ?gl8 ?gc8 ?gk8 ?ga9 ?gl9 ?gc9 ?gk9 ?ga10 ?gl10 ?gc10 ?gk10 ?z_len ?z_max ?z_range ?z_str ?z_isinstance ?z_enumerate ?z_ValueError ?kit ?one
    (case a1 => k_is)
    (case a2 => k_is)
    (case a3 => k_is)
    (case a4 => k_is)
    (case a5 => k_is)
    (case a6 => k_is)
    (case a7 => k_is)
    (case a8 => k_is)
    (case a9 => k_is)
    (case a10 => k_is)
    (case a11 => k_is)
    (case a12 => k_is)
    (case a13 => k_is)
    (case a14 => k_is)
    (case a15 => k_is)
    (case a16 => k_is)
    (case a17 => k_is)
    (case a18 => k_is)
    (case a19 => k_is)
    (case a20 => k_is)
    (case a21 => k_is)
    (case a22 => k_is)
    (case a23 => k_is)
    (case e8 => kernel_rfl)
    (case b8 => kernel_rfl)
    (case i8 => k_is)
    (case t8 => k_is)
    (case l8 => k_is)
    (case d8 => k_is)
    (case c8 => k_is)
    (case k8 => k_is)
    (case e9 => kernel_rfl)
    (case b9 => kernel_rfl)
    (case i9 => k_is)
    (case t9 => k_is)
    (case l9 => k_is)
    (case d9 => k_is)
    (case c9 => k_is)
    (case k9 => k_is)
    (case e10 => kernel_rfl)
    (case b10 => kernel_rfl)
    (case i10 => k_is)
    (case t10 => k_is)
    (case l10 => k_is)
    (case d10 => k_is)
    (case c10 => k_is)
    (case k10 => k_is)
    (case e11 => kernel_rfl)
    (case b11 => kernel_rfl)
    (case i11 => k_is)
    (case t11 => k_is)
    (case l11 => k_is)
    (case d11 => k_is)
    (case c11 => k_is)
    (case k11 => k_is)
    (case e12 => kernel_rfl)
    (case b12 => kernel_rfl)
    (case i12 => k_is)
    (case t12 => k_is)
    (case l12 => k_is)
    (case d12 => k_is)
    (case c12 => k_is)
    (case k12 => k_is)
    (case e13 => kernel_rfl)
    (case b13 => kernel_rfl)
    (case i13 => k_is)
    (case t13 => k_is)
    (case l13 => k_is)
    (case d13 => k_is)
    (case c13 => k_is)
    (case k13 => k_is)
    (case e14 => kernel_rfl)
    (case b14 => kernel_rfl)
    (case i14 => k_is)
    (case t14 => k_is)
    (case l14 => k_is)
    (case d14 => k_is)
    (case c14 => k_is)
    (case k14 => k_is)
    (case e15 => kernel_rfl)
    (case b15 => kernel_rfl)
    (case i15 => k_is)
    (case t15 => k_is)
    (case l15 => k_is)
    (case d15 => k_is)
    (case c15 => k_is)
    (case k15 => k_is)
    (case e16 => kernel_rfl)
    (case b16 => kernel_rfl)
    (case i16 => k_is)
    (case t16 => k_is)
    (case l16 => k_is)
    (case d16 => k_is)
    (case c16 => k_is)
    (case k16 => k_is)
    (case e17 => kernel_rfl)
    (case b17 => kernel_rfl)
    (case i17 => k_is)
    (case t17 => k_is)
    (case l17 => k_is)
    (case d17 => k_is)
    (case c17 => k_is)
    (case k17 => k_is)
    (case e18 => kernel_rfl)
    (case b18 => kernel_rfl)
    (case i18 => k_is)
    (case t18 => k_is)
    (case l18 => k_is)
    (case d18 => k_is)
    (case c18 => k_is)
    (case k18 => k_is)
    (case e19 => kernel_rfl)
    (case b19 => kernel_rfl)
    (case i19 => k_is)
    (case t19 => k_is)
    (case l19 => k_is)
    (case d19 => k_is)
    (case c19 => k_is)
    (case k19 => k_is)
    (case e20 => kernel_rfl)
    (case b20 => kernel_rfl)
    (case i20 => k_is)
    (case t20 => k_is)
    (case l20 => k_is)
    (case d20 => k_is)
    (case c20 => k_is)
    (case k20 => k_is)
    (case e21 => kernel_rfl)
    (case b21 => kernel_rfl)
    (case i21 => k_is)
    (case t21 => k_is)
    (case l21 => k_is)
    (case d21 => k_is)
    (case c21 => k_is)
    (case k21 => k_is)
    (case e22 => kernel_rfl)
    (case b22 => kernel_rfl)
    (case i22 => k_is)
    (case t22 => k_is)
    (case l22 => k_is)
    (case d22 => k_is)
    (case c22 => k_is)
    (case k22 => k_is)
    (case e23 => kernel_rfl)
    (case b23 => kernel_rfl)
    (case i23 => k_is)
    (case t23 => k_is)
    (case l23 => k_is)
    (case d23 => k_is)
    (case c23 => k_is)
    (case k23 => k_is)
    (case p1 => kernel_rfl)
    (case p2 => kernel_rfl)
    (case p3 => kernel_rfl)
    (case p4 => kernel_rfl)
    (case p5 => kernel_rfl)
    (case p6 => kernel_rfl)
    (case p7 => kernel_rfl)
    (case ga0 => k_is)
    (case gl0 => k_is)
    (case gc0 => k_is)
    (case gk0 => k_is)
    (case ga1 => k_is)
    (case gl1 => k_is)
    (case gc1 => k_is)
    (case gk1 => k_is)
    (case ga2 => k_is)
    (case gl2 => k_is)
    (case gc2 => k_is)
    (case gk2 => k_is)
    (case ga3 => k_is)
    (case gl3 => k_is)
    (case gc3 => k_is)
    (case gk3 => k_is)
    (case ga4 => k_is)
    (case gl4 => k_is)
    (case gc4 => k_is)
    (case gk4 => k_is)
    (case ga5 => k_is)
    (case gl5 => k_is)
    (case gc5 => k_is)
    (case gk5 => k_is)
    (case ga6 => k_is)
    (case gl6 => k_is)
    (case gc6 => k_is)
    (case gk6 => k_is)
    (case ga7 => k_is)
    (case gl7 => k_is)
    (case gc7 => k_is)
    (case gk7 => k_is)
    (case ga8 => k_is)
    (case gl8 => k_is)
    (case gc8 => k_is)
    (case gk8 => k_is)
    (case ga9 => k_is)
    (case gl9 => k_is)
    (case gc9 => k_is)
    (case gk9 => k_is)
    (case ga10 => k_is)
    (case gl10 => k_is)
    (case gc10 => k_is)
    (case gk10 => k_is)
    (case z_len => k_is)
    (case z_max => k_is)
    (case z_range => k_is)
    (case z_str => k_is)
    (case z_isinstance => k_is)
    (case z_enumerate => k_is)
    (case z_ValueError => k_is)
    (case kit => kernel_rfl)
    (case one => kernel_rfl)
