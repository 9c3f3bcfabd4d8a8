import PyProof.Rows.All
import Wide.All
import OpenK.AllK
import Wide.FinOn
import HandS.ExcInit
import HandS.Defaults
import HandS.MakeKw
import HandS.ExcIs
import HandS.IsInst
import HandS.Evl
import HandS.ForMost
import HandS.StrMore
import HandS.Steps
import HandS.More
import PyProof.CollectStr
import HandS.Star
import HandS.HeadHook3
import HandS.Conv
import PyProof.MeetsSeq2
import PyProof.DictTable
import HandS.Codes
import HandS.Translate
import HandS.DictComp
import HandS.Dict
import HandS.Call
import HandS.ForExc
import HandS.TupAny
import HandS.Style
import HandS.MethStar
import HandS.Flow
import HandS.Iter
import HandS.Words
import PyProof.StrLawsIn
import HandS.Text
import HandS.Wide
import HandS.NoneIn
import HandS.Comp
import HandS.RaiseMore
import HandS.Walk
import KE.GoesMore
import PySem.Challenge.RW_deepstands_k01_charts_read
set_option Elab.async false
set_option linter.all false
set_option maxRecDepth 100000
set_option maxHeartbeats 4000000
namespace PySem
namespace XKw
open PySem.W PySem.Calls PyProof.Rows PySem.HandSPX
section
variable {M : Model} {A : Around} {E : Value → Shared → Prop} {h : Heap} {g : Array GenState} {d : Drawn} {t : Nat} {os : OsState}
variable {nm q : Str} {C N : Addr} {bs bm bmB : List Value} {hdct : Bool} {sn : List Str} {sub : List Value} {ab : Bool} {col : Option Bool} {dd : Option Addr} {k0 k1 k2 k3 k5 : Option Value} {B newId initId : String}
theorem check_new_kw (F : ExcBaseFacts B newId initId bmB) (hT : ∀ X : String, bm.contains (.type X) = bmB.contains (.type X)) {rest : List Value} {kw : List (Str × Value)} {Q : Unit → Shared → Prop}
    (hC : h.get? C = some (excClassObj nm q C N bs bm hdct sn sub ab col dd k0 k1 k2 k3 k5 newId)) (hq : Q () ⟨h, g, d, t, os⟩) : wpAny M A (checkBuiltinCall newId ⟨.ref C :: rest, kw⟩) Q E ⟨h, g, d, t, os⟩ := by
  have hcont : (Value.ref C :: bm).contains (.type B) = true := by rw [List.contains_cons, hT, F.hasB, Bool.or_true]
  have hstar := F.noStar
  simp only [checkBuiltinCall, F.newKind, F.newSplit, F.newRow]
  repeat (first | refine wpAny_loadPart_at hC ?_ | (refine wpAny_isSubtype_exc hC ?_; rw [hcont]) | refine wpAny_staticBase_exc hC ?_ | refine wpAny_madeBy_exc hC ?_ | simp only [bne_self_eq_false, Bool.false_eq_true, if_false] | wp_step)
  exact hq
end
section
variable {prog : Program} {w : World} {A : Around} {E : Value → Shared → Prop} {R : Result → Shared → Prop} {h : Heap} {g : Array GenState} {d : Drawn} {t : Nat} {os : OsState}
variable {nm q : Str} {C N : Addr} {bs bm bmB : List Value} {hdct : Bool} {sn : List Str} {sub : List Value} {ab : Bool} {col : Option Bool} {dd : Option Addr} {k0 k1 k2 k3 k5 : Option Value} {B newId initId : String}
theorem new_kw (F : ExcBaseFacts B newId initId bmB) (hT : ∀ X : String, bm.contains (.type X) = bmB.contains (.type X)) {rest : List Value} {kw : List (Str × Value)}
    (hC : h.get? C = some (excClassObj nm q C N bs bm hdct sn sub ab col dd k0 k1 k2 k3 k5 newId))
    (hq : R (.ok (.ret (.ref (h.objs.size + 1)))) ⟨(h.push { cls := .type "tuple", data := .seq rest.toArray }).push
      { cls := .ref C, data := .fields #[.ref h.objs.size, .none, .none, .none, .bool false, .none] }, g, d, t, os⟩) (hrest : rest.length ≤ sizeLine) :
    codeAny (model prog w) A (.builtin newId ⟨.ref C :: rest, kw⟩) R ⟨h, g, d, t, os⟩ := by
  have hends := F.ends
  have hcB : (Value.ref C :: bm).contains (.type B) = true := by rw [List.contains_cons, hT, F.hasB, Bool.or_true]
  have hcA : (Value.ref C :: bm).contains (.type "AttributeError") = false := by rw [List.contains_cons, hT, F.noAttr]; rfl
  have hcN : (Value.ref C :: bm).contains (.type "NameError") = false := by rw [List.contains_cons, hT, F.noName]; rfl
  refine codeAny_builtinAt F.entry ?_
  unfold Builtin.«BaseException.__new__»
  refine wpAt_bind ?_
  show wpAt _ _ _ (stack >>= _) _ _ _
  refine wpAt_bind (wpAt_stack fun p below => wpAt_of_wpAny ?_)
  wp_walk
  refine wpAt_of_wpAny ?_
  rw [F.owner]
  repeat (first | with_reducible refine wpAny_madeHere_exc F.canon hC ?_ | with_reducible refine wpAny_loadPart_at hC ?_ | (with_reducible refine wpAny_isSubtype_exc hC ?_; first | rw [hcB] | rw [hcA] | rw [hcN]) | wp_step)
  show R _ _
  rw [Heap.size_push]
  exact hq
theorem type_call_kw (F : ExcBaseFacts B newId initId bmB) (hT : ∀ X : String, bm.contains (.type X) = bmB.contains (.type X)) {rest : List Value} {kw : List (Str × Value)} {fI : Addr} {Q : Fin → Shared → Prop}
    (hC : h.get? C = some (excClassObj nm q C N bs bm hdct sn sub ab col dd k0 k1 k2 k3 k5 newId))
    (hi : W.Looks (model prog w) h (typeLookup (.ref C) "__init__") (some (.ref fI))) (hb : ∀ self, W.Looks (model prog w) h (bindSpecial (.ref fI) self) (.ref fI, [self])) (hrest : rest.length ≤ sizeLine)
    (hq : codeAny (model prog w) A (.call (.ref fI) ⟨.ref (h.objs.size + 1) :: rest, kw⟩)
      (fun r s' => match r with | .ok (.ret v) => v = .none ∧ Q (.done (.ret (.ref (h.objs.size + 1)))) s' | .ok _ => False | .error e => E e s')
      ⟨(h.push (W.kdv_tup rest)).push (excO C h.objs.size), g, d, t, os⟩) :
    wpAny (model prog w) A (Builtin.«type.__call__» ⟨.ref C :: rest, kw⟩) Q E ⟨h, g, d, t, os⟩ := by
  repeat (first | with_reducible refine wpAny_loadPart_at hC ?_ | with_reducible refine wpAny_madeBy_exc hC ?_ | wp_step)
  refine codeAny_call_builtin_code (Code.quiet_builtin _ F.quiet) (check_new_kw F hT hC ?_)
  refine new_kw F hT hC ?_ hrest
  show wpAny _ _ _ _ _ _
  have k : ∀ b o, h.get? b = some o → ((h.push (W.kdv_tup rest)).push (excO C h.objs.size)).get? b = some o := fun b o e => Heap.get?_push_of_some _ (Heap.get?_push_of_some _ e)
  have hC₁ := k _ _ hC
  have hget : ((h.push (W.kdv_tup rest)).push (excO C h.objs.size)).get? (h.objs.size + 1) = some (excO C h.objs.size) := by heap_get
  have hcC : (Value.ref C :: bm).contains (.ref C) = true := by simp
  have i1 := hi.keeps k
  have b1 := (hb (.ref (h.objs.size + 1))).keeps k
  unfold isInstance
  repeat (first | with_reducible refine wpAny_loadPart_at hget ?_ | (with_reducible refine wpAny_isSubtype_exc hC₁ ?_; rw [hcC]) | wp_step)
  show wpAny _ _ (typeLookup (.ref C) _) _ _ _
  refine i1.at ?_
  refine wpAny_holding (wpAny_bind (b1.at ?_))
  refine wpAny_bind (wpAny_call (codeAny_mono hq fun r s' z => ?_))
  rcases r with e | (v | _ | _ | _) <;> first | exact z | exact z.elim | skip
  obtain ⟨rfl, z⟩ := z
  first
    | exact wpAny_pure (wpAny_pure z)
    | (wp_walk; exact z)
theorem call_kw (F : ExcBaseFacts B newId initId bmB) (hT : ∀ X : String, bm.contains (.type X) = bmB.contains (.type X)) {rest : List Value} {kw : List (Str × Value)} {fI : Addr}
    (hC : h.get? C = some (excClassObj nm q C N bs bm hdct sn sub ab col dd k0 k1 k2 k3 k5 newId))
    (hi : W.Looks (model prog w) h (typeLookup (.ref C) "__init__") (some (.ref fI))) (hb : ∀ self, W.Looks (model prog w) h (bindSpecial (.ref fI) self) (.ref fI, [self])) (hrest : rest.length ≤ sizeLine)
    (hq : codeAny (model prog w) (A.under (.builtin "type.__call__" ⟨.ref C :: rest, kw⟩)) (.call (.ref fI) ⟨.ref (h.objs.size + 1) :: rest, kw⟩) (W.InitBack (h.objs.size + 1) R)
      ⟨(h.push (W.kdv_tup rest)).push (excO C h.objs.size), g, d, t, os⟩) :
    codeAny (model prog w) A (.call (.ref C) ⟨rest, kw⟩) R ⟨h, g, d, t, os⟩ := by
  have f1 := tc_lookup
  have f2 := tc_bind (.ref C)
  have hTy : (⟨h, g, d, t, os⟩ : Shared).TypeIs (.ref C) "type" := ⟨_, hC, rfl⟩
  refine codeAny_of_tree ?_
  show wpAny _ _ (callAny (.ref C) _) _ _ _
  repeat (any_goals (first | assumption | with_reducible refine wpAny_loadPart_at hC ?_ | wp_step))
  refine ⟨rfl, ?_⟩
  refine codeAny_call_builtin_at (Code.quiet_builtin _ (by decide +kernel)) entry_typeCall (wpAny_check_type_call_sub hC (type_call_kw F hT hC hi hb hrest ?_))
  refine codeAny_mono hq fun r s' z => ?_
  rcases r with e | (v | _ | _ | _) <;> exact z
end
end XKw
end PySem
set_option Elab.async false
set_option linter.all false
set_option maxRecDepth 100000
set_option maxHeartbeats 4000000
namespace L2
open PySem PySem.Spec PyProof.Rows
/-! ### an own exception, made as a value -/
def tXMk (C : Addr) (n m : Nat) (sp : Sp) (gV : List V → List V → List V) (t tk : TA) : TE := fun σ H Q => t σ H fun vs H1 => tk σ H1 fun zs H2 => vs.length = n ∧ zs.length = m ∧
  ∀ a, H2 a = none → sp (gV (.ref a :: vs) zs) (upd H2 a (exo a C none)) (fun v H3 => v = .non ∧ Q (.ref a) H3) (fun _ _ _ => False)
section
variable {X : Cx} {CX : CXT} {k n : Nat} {fI C : Addr} {fd : FuncData} {ps ks : List Str} {sp : Sp} {x : Str} {p pos : Pos} {e : Expr} {es : List Expr} {kws : List Keyword} {t tk : TA} {g : List Value → List Value → List Value} {gV : List V → List V → List V}
theorem run_xmk {pins : List (Addr × Obj)} {σ : St} {H : Hp} {s : Shared} {Q : VK} {us ws : List Value} {vs zs : List V} (T : OexC X.K C) (iC : PySem.W.findIn X.K (.ref C) "__init__" = some (some (.ref fI))) (tI : PySem.W.typeIn X.K (.ref fI) = some (.type "function"))
    (F1 : FnOk X.prog X.w X.K X.mg X.base CX k fI fd ps sp) (hr : Room (k + 1) X.A) (hb : KBn X.K fd ps (n + 1) ks g gV) (hx : Passes CX X (fun _ _ _ => False)) (I : Inv X pins σ H s) (r : Vals vs us) (rz : Vals zs ws) (l1 : vs.length = n) (l2 : zs.length = ks.length) (hn1 : n ≤ 1000)
    (h : ∀ a, H a = none → sp (gV (.ref a :: vs) zs) (upd H a (exo a C none)) (fun v H2 => v = .non ∧ Q (.ref a) H2) (fun _ _ _ => False)) :
    wpAny (model X.prog X.w) X.A (call (.ref C) us (ks.zip ws)) (EP X pins σ Q) X.xe s := by
  obtain ⟨nm, q, N, bs, bm, sn, sub, ab, col, dd, k0, k1, k2, k3, k5, hC, hbm⟩ := T.cls
  obtain ⟨hp, gn, dr, tk, os⟩ := s
  have hsz : hp.objs.size ≤ hp.objs.size + 1 := Nat.le_succ _
  have hn : H (hp.objs.size + 1) = none := I.hok.fresh hsz
  have hq := h (hp.objs.size + 1) hn
  have kk : ∀ b o, hp.get? b = some o → ((hp.push (PySem.W.kdv_tup us)).push (PySem.HandSPX.excO C hp.objs.size)).get? b = some o := fun b o e => Heap.get?_push_of_some _ (Heap.get?_push_of_some _ e)
  have hget : ((hp.push (PySem.W.kdv_tup us)).push (PySem.HandSPX.excO C hp.objs.size)).get? (hp.objs.size + 1) = some (PySem.HandSPX.excO C hp.objs.size) := by heap_get
  have I2 : Inv X pins σ (upd H (hp.objs.size + 1) (exo (hp.objs.size + 1) C none)) ⟨(hp.push (PySem.W.kdv_tup us)).push (PySem.HandSPX.excO C hp.objs.size), gn, dr, tk, os⟩ :=
    I.laid (t' := tk) (a := hp.objs.size + 1) (o := exo (hp.objs.size + 1) C none) (h' := (hp.push (PySem.W.kdv_tup us)).push (PySem.HandSPX.excO C hp.objs.size)) kk hsz (exo_ok hget)
  have r1 : Vals (V.ref (hp.objs.size + 1) :: vs) (Value.ref (hp.objs.size + 1) :: us) := .cons rfl r
  have r2 := hb.rel r1 rz
  have e1 : (Value.ref (hp.objs.size + 1) :: us).length = n + 1 := r1.length.symm.trans (congrArg Nat.succ l1)
  have e2 : ws.length = ks.length := rz.length.symm.trans l2
  have hus : us.length ≤ sizeLine := by
    rw [← Paired.length r, l1, sizeLine_eq]
    omega
  refine wpAny_call (PySem.XKw.call_kw PySem.F.excBase_ValueError (fun Y => PySem.HandSPX.refsVE_contains Y bm hbm) (I.kIn _ _ hC) (PySem.W.looks_findIn I.kIn iC) (fun self => PySem.W.bind_fn I.kIn self tI) hus
    (codeAny_mono (F1.run _ X.stack _ _ ⟨Value.ref (hp.objs.size + 1) :: us, ks.zip ws⟩ (g (Value.ref (hp.objs.size + 1) :: us) ws) _ _ (fun _ _ _ => False) (hr.make C us (ks.zip ws)) (I2.env0.make C us (ks.zip ws)) (hb.to _ (Value.ref (hp.objs.size + 1) :: us) ws I2.kIn e1 e2) r2 hq) fun r s' hq' => ?_))
  cases r with
  | error er => exact hx pins σ _ _ er s' I2 hq'
  | ok fl =>
    cases fl with
    | ret u =>
      obtain ⟨v, H', I3, rv, ev, q3⟩ := I2.after hq'
      subst ev
      exact ⟨rv, ⟨V.ref (hp.objs.size + 1), H', I3, rfl, q3⟩⟩
    | next => exact False.elim hq'
    | brk => exact False.elim hq'
    | cont => exact False.elim hq'
/-- C(e, .., k = v, ..) -/
theorem pe_xmkN (T : OexC X.K C) (iC : PySem.W.findIn X.K (.ref C) "__init__" = some (some (.ref fI))) (tI : PySem.W.typeIn X.K (.ref fI) = some (.type "function"))
    (F1 : FnOk X.prog X.w X.K X.mg X.base CX k fI fd ps sp) (hr : Room (k + 1) X.A) (hg : Gl X x) (hm : X.mg x = some (.ref C)) (hb : KBn X.K fd ps (n + 1) ks g gV) (hx : Passes CX X (fun _ _ _ => False)) (hn1 : n ≤ 1000)
    (ha : PA X (e :: es) t) (hkw : PK X kws tk) (hall : (backToKw pos (keywordEach kws X.env)).all (·.1.isSome) = true := by rfl) (hks : (backToKw pos (keywordEach kws X.env)).filterMap (·.1) = ks := by rfl)
    (hdb : (x == ("__debug__" : Str)) = false := by decide) (he : starEach (e :: es) X.env = (false, eval e X.env) :: starEach es X.env := by rfl)
    (hpl : ((backTo pos (starEach (e :: es) X.env)).any (·.1) || (backToKw pos (keywordEach kws X.env)).any (·.1.isNone)) = false := by rfl) :
    PE X (.Call (.Name x p) (e :: es) kws pos) (tXMk C n ks.length sp gV t tk) := by
  refine ⟨fun pins s σ H Q I h => ?_⟩
  refine wpAny_Call_Name_kw (ld_glob I hg hm ?_ hdb)
  refine PySem.W.callWith_KW (h₀ := X.base) I.ok.mod.kin T.kC hall (thn (ha.run pos pins s σ H _ I h) fun us s1 ⟨vs, H1, I1, r, q⟩ => ?_) hpl he
  refine thn (hkw.run pos pins s1 σ H1 _ I1 q) fun ws s2 ⟨zs, H2, I2, rz, l1, l2, q2⟩ => ⟨I2.kIn, ?_⟩
  rw [hks]
  exact run_xmk T iC tI F1 hr hb hx I2 r rz l1 l2 hn1 q2
/-- C(k = v, ..), C() -/
theorem pe_xmk0 (T : OexC X.K C) (iC : PySem.W.findIn X.K (.ref C) "__init__" = some (some (.ref fI))) (tI : PySem.W.typeIn X.K (.ref fI) = some (.type "function"))
    (F1 : FnOk X.prog X.w X.K X.mg X.base CX k fI fd ps sp) (hr : Room (k + 1) X.A) (hg : Gl X x) (hm : X.mg x = some (.ref C)) (hb : KBn X.K fd ps 1 ks g gV) (hx : Passes CX X (fun _ _ _ => False))
    (hkw : PK X kws tk) (hall : (backToKw pos (keywordEach kws X.env)).all (·.1.isSome) = true := by rfl) (hks : (backToKw pos (keywordEach kws X.env)).filterMap (·.1) = ks := by rfl)
    (hdb : (x == ("__debug__" : Str)) = false := by decide)
    (hpl : ((backTo pos (starEach [] X.env)).any (·.1) || (backToKw pos (keywordEach kws X.env)).any (·.1.isNone)) = false := by rfl) :
    PE X (.Call (.Name x p) [] kws pos) (tXMk C 0 ks.length sp gV tNil tk) := by
  refine ⟨fun pins s σ H Q I h => ?_⟩
  refine wpAny_Call_Name_kw (ld_glob I hg hm ?_ hdb)
  refine PySem.W.callWith_KW0 (h₀ := X.base) I.ok.mod.kin T.kC hall ?_ hpl
  refine thn (hkw.run pos pins s σ H _ I h) fun ws s2 ⟨zs, H2, I2, rz, l1, l2, q2⟩ => ⟨I2.kIn, ?_⟩
  rw [hks]
  exact run_xmk (us := []) (vs := []) T iC tI F1 hr hb hx I2 .nil rz rfl l2 (by omega) q2
end
/-- e.f, a field of such an exception -/
structure XAt (K : PySem.W.Frag) (C : Addr) (f : Str) : Prop where
  ga : PySem.W.findIn K (.ref C) "__getattribute__" = some (some (.builtin "BaseException.__getattribute__"))
  gg : PySem.W.findIn K (.ref C) "__getattr__" = some none
  exC : PySem.W.subIn K (.ref C) (.type "BaseException") = some true
  hdC : PySem.W.hasDictIn K C = true
  noN : PySem.W.findIn K (.ref C) f = some none
def tXAt (K : PySem.W.Frag) (te : TE) (f : Str) : TE := fun σ H Q => te σ H fun x H1 => ∃ (a C d : Addr) (fs : List (Str × V)) (v : V), x = .ref a ∧ H1 a = some (exo a C (some d)) ∧ H1 d = some (exd d fs) ∧ XAt K C f ∧ fs.lookup f = some v ∧ Q v H1
section
variable {X : Cx} {e : Expr} {te : TE} {f : Str} {pos : Pos}
theorem pe_xat (he : PE X e te) (hb : attributeBase e f X.env (eval e X.env) = eval e X.env := by rfl) : PE X (.Attribute e f pos) (tXAt X.K te f) := by
  refine ⟨fun pins s σ H Q I h => ?_⟩
  refine attr_of hb (thn (he.run pins s σ H _ I h) fun u s1 hh => ?_)
  obtain ⟨x, H1, I1, rx, a, C, d, fs, v, ex, ea, ed, T, hl, q⟩ := hh
  subst ex
  obtain rfl : u = Value.ref a := rx
  obtain ⟨t1, ho⟩ := exo_at I1.hok ea
  obtain ⟨mA, hns, hr⟩ := exd_at I1.hok ed
  obtain ⟨od, hod, hlk⟩ := lookIn_ns hns
  obtain ⟨u, hu, ru⟩ := RelO.some_of (v := v) (o := mA f) (by rw [← hl]; exact hr f)
  have J : PySem.W.InstAt s1.heap a { cls := .ref C, dict := some d, data := .fields #[.ref t1, .none, .none, .none, .bool false, .none] } C (some od) := ⟨ho, rfl, rfl, hod⟩
  exact HandSPX.exc_get I1.kIn J T.ga T.gg T.exC (PySem.W.findObj_own T.hdC T.noN rfl (by rw [hlk, hu])) (handed_of ru) ⟨v, H1, I1.tok _, ru, q⟩
end
end L2
set_option Elab.async false
set_option linter.all false
set_option maxRecDepth 100000
set_option maxHeartbeats 4000000
namespace L2
open PySem PySem.Spec PyProof.Rows
/-- all that H knows stands in H' -/
abbrev Ext (H H' : Hp) : Prop := ∀ a o, H a = some o → H' a = some o
theorem Ext.rfl' {H : Hp} : Ext H H := fun _ _ h => h
theorem Ext.tr {H H1 H2 : Hp} (a : Ext H H1) (b : Ext H1 H2) : Ext H H2 := fun x o h => b x o (a x o h)
theorem PE.weak {X : Cx} {e : Expr} {t t' : TE} (h : PE X e t) (w : ∀ σ H Q, t' σ H Q → t σ H Q) : PE X e t' := ⟨fun pins s σ H Q I q => h.run pins s σ H Q I (w σ H Q q)⟩
/-- an exception's __init__ of one field, of two -/
def spI1 (K : PySem.W.Frag) (f : Str) : Sp := fun vs H Q _ => ∃ (a C : Addr) (y : V), vs = [.ref a, y] ∧ H a = some (exo a C none) ∧ OexC K C ∧ PySem.W.findIn K (.ref C) f = some none ∧
  ∀ dx, H dx = none → dx ≠ a → Q .non (upd (upd H dx (exd dx [(f, y)])) a (exo a C (some dx)))
def spI2 (K : PySem.W.Frag) (f g : Str) : Sp := fun vs H Q _ => ∃ (a C : Addr) (y z : V), vs = [.ref a, y, z] ∧ H a = some (exo a C none) ∧ OexC K C ∧ PySem.W.findIn K (.ref C) f = some none ∧ PySem.W.findIn K (.ref C) g = some none ∧
  ∀ dx, H dx = none → dx ≠ a → Q .non (upd (upd (upd H dx (exd dx [(f, y)])) a (exo a C (some dx))) dx (exd dx [(g, z), (f, y)]))
/-- their bodies' readings -/
theorem read_i1 {K : PySem.W.Frag} {f : Str} {vs : List V} {H : Hp} {Q : VK} {E : XK} {N : List Str} (hN : N = (["self", f] : List Str)) (h : spI1 K f vs H Q E) :
    tOst K f (tVar 0) (tVar 1) { nx := fun _ H' => Q .non H', rt := Q } (start N vs) H := by
  subst hN
  obtain ⟨a, C, y, rfl, ha, T, nf, q⟩ := h
  exact ⟨_, rfl, _, rfl, a, C, rfl, T, nf, .inl ⟨ha, fun dx n ne => q dx n ne⟩⟩
theorem read_i2 {K : PySem.W.Frag} {f g : Str} {vs : List V} {H : Hp} {Q : VK} {E : XK} {N : List Str} (hN : N = (["self", f, g] : List Str)) (h : spI2 K f g vs H Q E) :
    tSeq (tOst K f (tVar 0) (tVar 1)) (tOst K g (tVar 0) (tVar 2)) { nx := fun _ H' => Q .non H', rt := Q } (start N vs) H := by
  subst hN
  obtain ⟨a, C, y, z, rfl, ha, T, nf, ng, q⟩ := h
  refine ⟨_, rfl, _, rfl, a, C, rfl, T, nf, .inl ⟨ha, fun dx n ne => ?_⟩⟩
  refine ⟨_, rfl, _, rfl, a, C, rfl, T, ng, .inr ⟨dx, [(f, y)], upd_same, ?_, by show 1 ≤ 900; decide, q dx n ne⟩⟩
  rw [upd_ne ne, upd_same]
/-- what the making of such an exception asks, and what it leaves -/
theorem made1 {K : PySem.W.Frag} {C : Addr} {f : Str} {y : V} {H : Hp} {Q : VK} (T : OexC K C) (nf : PySem.W.findIn K (.ref C) f = some none) {E : XK}
    (h : ∀ a d H', Ext H H' → H a = none → H' a = some (exo a C (some d)) → H' d = some (exd d [(f, y)]) → Q (.ref a) H') (a : Addr) (na : H a = none) :
    spI1 K f [.ref a, y] (upd H a (exo a C none)) (fun v H3 => v = .non ∧ Q (.ref a) H3) E := by
  refine ⟨a, C, y, rfl, upd_same, T, nf, fun dx nd ne => ⟨rfl, h a dx _ (fun b o e => ?_) na upd_same (by rw [upd_ne ne, upd_same])⟩⟩
  have hb : b ≠ a := ne_of_none e na
  have nd' : H dx = none := by rw [upd_ne ne] at nd; exact nd
  rw [upd_ne hb, upd_ne (ne_of_none e nd'), upd_ne hb]
  exact e
theorem made2 {K : PySem.W.Frag} {C : Addr} {f g : Str} {y z : V} {H : Hp} {Q : VK} (T : OexC K C) (nf : PySem.W.findIn K (.ref C) f = some none) (ng : PySem.W.findIn K (.ref C) g = some none) {E : XK}
    (h : ∀ a d H', Ext H H' → H a = none → H' a = some (exo a C (some d)) → H' d = some (exd d [(g, z), (f, y)]) → Q (.ref a) H') (a : Addr) (na : H a = none) :
    spI2 K f g [.ref a, y, z] (upd H a (exo a C none)) (fun v H3 => v = .non ∧ Q (.ref a) H3) E := by
  refine ⟨a, C, y, z, rfl, upd_same, T, nf, ng, fun dx nd ne => ⟨rfl, h a dx _ (fun b o e => ?_) na (by rw [upd_ne (Ne.symm ne), upd_same]) upd_same⟩⟩
  have hb : b ≠ a := ne_of_none e na
  have nd' : H dx = none := by rw [upd_ne ne] at nd; exact nd
  rw [upd_ne (ne_of_none e nd'), upd_ne hb, upd_ne (ne_of_none e nd'), upd_ne hb]
  exact e
/-- an instance of the exception class at C, with its fields -/
def ExcAt (H : Hp) (v : V) (C : Addr) (fs : List (Str × V)) : Prop := ∃ a d, v = .ref a ∧ H a = some (exo a C (some d)) ∧ H d = some (exd d fs)
/-- the readings that a caller sees -/
def tX1 (C : Addr) (f : Str) (te : TE) : TE := fun σ H Q => te σ H fun y H1 => ∀ v H2, Ext H1 H2 → ExcAt H2 v C [(f, y)] → Q v H2
def tX10 (C : Addr) (f : Str) : TE := fun σ H Q => ∀ v H2, Ext H H2 → ExcAt H2 v C [(f, .non)] → Q v H2
def tX2 (C : Addr) (f g : Str) (te tu : TE) : TE := fun σ H Q => te σ H fun y H1 => tu σ H1 fun z H2 => ∀ v H3, Ext H2 H3 → ExcAt H3 v C [(g, z), (f, y)] → Q v H3
/-- keywords the other way about -/
def tX2r (C : Addr) (f g : Str) (tu te : TE) : TE := fun σ H Q => tu σ H fun z H1 => te σ H1 fun y H2 => ∀ v H3, Ext H2 H3 → ExcAt H3 v C [(g, z), (f, y)] → Q v H3
def tX2f (C : Addr) (f g : Str) (te : TE) : TE := fun σ H Q => te σ H fun y H1 => ∀ v H2, Ext H1 H2 → ExcAt H2 v C [(g, .non), (f, y)] → Q v H2
def tX2g (C : Addr) (f g : Str) (tu : TE) : TE := fun σ H Q => tu σ H fun z H1 => ∀ v H2, Ext H1 H2 → ExcAt H2 v C [(g, z), (f, .non)] → Q v H2
def tX20 (C : Addr) (f g : Str) : TE := fun σ H Q => ∀ v H2, Ext H H2 → ExcAt H2 v C [(g, .non), (f, .non)] → Q v H2
/-- any weaker wish -/
def tM (te : TE) : TE := fun σ H Q => ∃ R : VK, te σ H R ∧ ∀ v H', R v H' → Q v H'
theorem PE.mono {X : Cx} {e : Expr} {te : TE} (h : PE X e te) : PE X e (tM te) := ⟨fun pins s σ H Q I ⟨R, hR, k⟩ =>
  wpAny_mono (h.run pins s σ H R I hR) (fun _ _ ⟨v, H', I', r, q⟩ => ⟨v, H', I', r, k _ _ q⟩) (fun _ _ x => x)⟩
/-- v.f -/
def tXF (C : Addr) (te : TE) (f : Str) : TE := fun σ H Q => te σ H fun x H1 => ∃ fs v, ExcAt H1 x C fs ∧ fs.lookup f = some v ∧ Q v H1
theorem pe_xf {X : Cx} {e : Expr} {te : TE} {f : Str} {pos : Pos} {C : Addr} (A : XAt X.K C f) (he : PE X e te) (hb : attributeBase e f X.env (eval e X.env) = eval e X.env := by rfl) : PE X (.Attribute e f pos) (tXF C te f) :=
  (pe_xat he.mono hb).weak fun σ H Q h => ⟨_, h, fun x H1 q => by
    obtain ⟨fs, v, ⟨a, d, ex, ea, ed⟩, hl, q⟩ := q
    exact ⟨a, C, d, fs, v, ex, ea, ed, A, hl, q⟩⟩
/-- what is known of such a class, and how it is made -/
structure XC1 (P : Program) (w : World) (K : PySem.W.Frag) (mg : Str → Option Value) (base : Heap) (x f : Str) (C : Addr) : Prop where
  T : OexC K C
  A : XAt K C f
  mgC : mg x = some (.ref C)
  fn : ∃ (fI : Addr) (fd : FuncData), PySem.W.findIn K (.ref C) "__init__" = some (some (.ref fI)) ∧ PySem.W.typeIn K (.ref fI) = some (.type "function") ∧ FnOk P w K mg base CX0 1 fI fd ["self", f] (spI1 K f) ∧
    (∃ g, KBn K fd ["self", f] 2 [] g (fun vs _ => vs)) ∧ (∃ g, KBn K fd ["self", f] 1 [f] g (fun vs zs => vs ++ zs)) ∧ (∃ g, KBn K fd ["self", f] 1 [] g (fun vs _ => vs ++ [.non]))
structure XC2 (P : Program) (w : World) (K : PySem.W.Frag) (mg : Str → Option Value) (base : Heap) (x f g : Str) (C : Addr) : Prop where
  T : OexC K C
  A : XAt K C f
  B : XAt K C g
  mgC : mg x = some (.ref C)
  fn : ∃ (fI : Addr) (fd : FuncData), PySem.W.findIn K (.ref C) "__init__" = some (some (.ref fI)) ∧ PySem.W.typeIn K (.ref fI) = some (.type "function") ∧ FnOk P w K mg base CX0 1 fI fd ["self", f, g] (spI2 K f g) ∧
    (∃ h, KBn K fd ["self", f, g] 3 [] h (fun vs _ => vs)) ∧ (∃ h, KBn K fd ["self", f, g] 2 [] h (fun vs _ => vs ++ [.non])) ∧ (∃ h, KBn K fd ["self", f, g] 1 [] h (fun vs _ => vs ++ [.non, .non])) ∧
    (∃ h, KBn K fd ["self", f, g] 1 [g, f] h (fun vs zs => vs ++ (zs.drop 1 ++ zs.take 1))) ∧ (∃ h, KBn K fd ["self", f, g] 2 [g] h (fun vs zs => vs ++ zs)) ∧ (∃ h, KBn K fd ["self", f, g] 1 [g] h (fun vs zs => vs ++ (V.non :: zs)))
section
variable {X : Cx} {x f g : Str} {C : Addr} {e e2 : Expr} {te tu : TE} {p pos p1 p2 : Pos}
theorem xle {n : Nat} (h : n ≤ 3) : n ≤ 1000 := by omega
/-- X(a) -/
theorem pe_1p (c : XC1 X.prog X.w X.K X.mg X.base x f C) (hr : Room 2 X.A) (he : PE X e te) (hg : Gl X x := by rfl) (hx : Passes CX0 X (fun _ _ _ => False) := by exact pass0) (hdb : (x == ("__debug__" : Str)) = false := by decide)
    (hs : starEach [e] X.env = (false, eval e X.env) :: starEach [] X.env := by rfl) : PE X (.Call (.Name x p) [e] [] pos) (tX1 C f te) := by
  obtain ⟨fI, fd, iC, tI, F, ⟨g', hb⟩, _⟩ := c.fn
  have hpl : ((backTo pos (starEach [e] X.env)).any (·.1) || (backToKw pos (keywordEach [] X.env)).any (·.1.isNone)) = false := by rw [hs]; rfl
  refine (pe_xmkN c.T iC tI F hr hg c.mgC hb hx (xle (by decide)) (pa_cons he.mono pa_nil hs) pk_nil rfl rfl hdb hs hpl).weak fun σ H Q h => ?_
  exact ⟨_, h, fun y H1 q => ⟨rfl, rfl, made1 c.T c.A.noN fun a d H' e n ea ed => q _ _ e ⟨a, d, rfl, ea, ed⟩⟩⟩
/-- X(f=a) -/
theorem pe_1k (c : XC1 X.prog X.w X.K X.mg X.base x f C) (hr : Room 2 X.A) (he : PE X e te) (hg : Gl X x := by rfl) (hx : Passes CX0 X (fun _ _ _ => False) := by exact pass0) (hdb : (x == ("__debug__" : Str)) = false := by decide) :
    PE X (.Call (.Name x p) [] [⟨some f, e, p1⟩] pos) (tX1 C f te) := by
  obtain ⟨fI, fd, iC, tI, F, _, ⟨g', hb⟩, _⟩ := c.fn
  refine (pe_xmk0 c.T iC tI F hr hg c.mgC hb hx (pk_cons he.mono pk_nil) rfl rfl hdb rfl).weak fun σ H Q h => ?_
  exact ⟨_, h, fun y H1 q => ⟨rfl, rfl, made1 c.T c.A.noN fun a d H' e n ea ed => q _ _ e ⟨a, d, rfl, ea, ed⟩⟩⟩
/-- X() -/
theorem pe_10 (c : XC1 X.prog X.w X.K X.mg X.base x f C) (hr : Room 2 X.A) (hg : Gl X x := by rfl) (hx : Passes CX0 X (fun _ _ _ => False) := by exact pass0) (hdb : (x == ("__debug__" : Str)) = false := by decide) :
    PE X (.Call (.Name x p) [] [] pos) (tX10 C f) := by
  obtain ⟨fI, fd, iC, tI, F, _, _, ⟨g', hb⟩⟩ := c.fn
  refine (pe_xmk0 c.T iC tI F hr hg c.mgC hb hx pk_nil rfl rfl hdb rfl).weak fun σ H Q h => ?_
  exact ⟨rfl, rfl, made1 c.T c.A.noN fun a d H' e n ea ed => h _ _ e ⟨a, d, rfl, ea, ed⟩⟩
/-- X(a, b) -/
theorem pe_2pp (c : XC2 X.prog X.w X.K X.mg X.base x f g C) (hr : Room 2 X.A) (he : PE X e te) (he2 : PE X e2 tu) (hg : Gl X x := by rfl) (hx : Passes CX0 X (fun _ _ _ => False) := by exact pass0) (hdb : (x == ("__debug__" : Str)) = false := by decide)
    (hs : starEach [e, e2] X.env = (false, eval e X.env) :: starEach [e2] X.env := by rfl) (hs2 : starEach [e2] X.env = (false, eval e2 X.env) :: starEach [] X.env := by rfl) : PE X (.Call (.Name x p) [e, e2] [] pos) (tX2 C f g te tu) := by
  obtain ⟨fI, fd, iC, tI, F, ⟨g', hb⟩, _⟩ := c.fn
  have hpl : ((backTo pos (starEach [e, e2] X.env)).any (·.1) || (backToKw pos (keywordEach [] X.env)).any (·.1.isNone)) = false := by rw [hs, hs2]; rfl
  refine (pe_xmkN c.T iC tI F hr hg c.mgC hb hx (xle (by decide)) (pa_cons he.mono (pa_cons he2.mono pa_nil hs2) hs) pk_nil rfl rfl hdb hs hpl).weak fun σ H Q h => ?_
  exact ⟨_, h, fun y H1 q => ⟨_, q, fun z H2 q => ⟨rfl, rfl, made2 c.T c.A.noN c.B.noN fun a d H' e n ea ed => q _ _ e ⟨a, d, rfl, ea, ed⟩⟩⟩⟩
/-- X(a) of two fields -/
theorem pe_2p (c : XC2 X.prog X.w X.K X.mg X.base x f g C) (hr : Room 2 X.A) (he : PE X e te) (hg : Gl X x := by rfl) (hx : Passes CX0 X (fun _ _ _ => False) := by exact pass0) (hdb : (x == ("__debug__" : Str)) = false := by decide)
    (hs : starEach [e] X.env = (false, eval e X.env) :: starEach [] X.env := by rfl) : PE X (.Call (.Name x p) [e] [] pos) (tX2f C f g te) := by
  obtain ⟨fI, fd, iC, tI, F, _, ⟨g', hb⟩, _⟩ := c.fn
  have hpl : ((backTo pos (starEach [e] X.env)).any (·.1) || (backToKw pos (keywordEach [] X.env)).any (·.1.isNone)) = false := by rw [hs]; rfl
  refine (pe_xmkN c.T iC tI F hr hg c.mgC hb hx (xle (by decide)) (pa_cons he.mono pa_nil hs) pk_nil rfl rfl hdb hs hpl).weak fun σ H Q h => ?_
  exact ⟨_, h, fun y H1 q => ⟨rfl, rfl, made2 c.T c.A.noN c.B.noN fun a d H' e n ea ed => q _ _ e ⟨a, d, rfl, ea, ed⟩⟩⟩
/-- X() of two fields -/
theorem pe_20 (c : XC2 X.prog X.w X.K X.mg X.base x f g C) (hr : Room 2 X.A) (hg : Gl X x := by rfl) (hx : Passes CX0 X (fun _ _ _ => False) := by exact pass0) (hdb : (x == ("__debug__" : Str)) = false := by decide) :
    PE X (.Call (.Name x p) [] [] pos) (tX20 C f g) := by
  obtain ⟨fI, fd, iC, tI, F, _, _, ⟨g', hb⟩, _⟩ := c.fn
  refine (pe_xmk0 c.T iC tI F hr hg c.mgC hb hx pk_nil rfl rfl hdb rfl).weak fun σ H Q h => ?_
  exact ⟨rfl, rfl, made2 c.T c.A.noN c.B.noN fun a d H' e n ea ed => h _ _ e ⟨a, d, rfl, ea, ed⟩⟩
/-- X(g=b, f=a) -/
theorem pe_2kr (c : XC2 X.prog X.w X.K X.mg X.base x f g C) (hr : Room 2 X.A) (he2 : PE X e2 tu) (he : PE X e te) (hg : Gl X x := by rfl) (hx : Passes CX0 X (fun _ _ _ => False) := by exact pass0) (hdb : (x == ("__debug__" : Str)) = false := by decide) :
    PE X (.Call (.Name x p) [] [⟨some g, e2, p1⟩, ⟨some f, e, p2⟩] pos) (tX2r C f g tu te) := by
  obtain ⟨fI, fd, iC, tI, F, _, _, _, ⟨g', hb⟩, _⟩ := c.fn
  refine (pe_xmk0 c.T iC tI F hr hg c.mgC hb hx (pk_cons he2.mono (pk_cons he.mono pk_nil)) rfl rfl hdb rfl).weak fun σ H Q h => ?_
  exact ⟨_, h, fun z H1 q => ⟨_, q, fun y H2 q => ⟨rfl, rfl, made2 c.T c.A.noN c.B.noN fun a d H' e n ea ed => q _ _ e ⟨a, d, rfl, ea, ed⟩⟩⟩⟩
/-- X(a, g=b) -/
theorem pe_2pk (c : XC2 X.prog X.w X.K X.mg X.base x f g C) (hr : Room 2 X.A) (he : PE X e te) (he2 : PE X e2 tu) (hg : Gl X x := by rfl) (hx : Passes CX0 X (fun _ _ _ => False) := by exact pass0) (hdb : (x == ("__debug__" : Str)) = false := by decide)
    (hs : starEach [e] X.env = (false, eval e X.env) :: starEach [] X.env := by rfl) : PE X (.Call (.Name x p) [e] [⟨some g, e2, p1⟩] pos) (tX2 C f g te tu) := by
  obtain ⟨fI, fd, iC, tI, F, _, _, _, _, ⟨g', hb⟩, _⟩ := c.fn
  have hpl : ((backTo pos (starEach [e] X.env)).any (·.1) || (backToKw pos (keywordEach [⟨some g, e2, p1⟩] X.env)).any (·.1.isNone)) = false := by rw [hs]; rfl
  refine (pe_xmkN c.T iC tI F hr hg c.mgC hb hx (xle (by decide)) (pa_cons he.mono pa_nil hs) (pk_cons he2.mono pk_nil) rfl rfl hdb hs hpl).weak fun σ H Q h => ?_
  exact ⟨_, h, fun y H1 q => ⟨_, q, fun z H2 q => ⟨rfl, rfl, made2 c.T c.A.noN c.B.noN fun a d H' e n ea ed => q _ _ e ⟨a, d, rfl, ea, ed⟩⟩⟩⟩
/-- X(g=b) -/
theorem pe_2kg (c : XC2 X.prog X.w X.K X.mg X.base x f g C) (hr : Room 2 X.A) (he2 : PE X e2 tu) (hg : Gl X x := by rfl) (hx : Passes CX0 X (fun _ _ _ => False) := by exact pass0) (hdb : (x == ("__debug__" : Str)) = false := by decide) :
    PE X (.Call (.Name x p) [] [⟨some g, e2, p1⟩] pos) (tX2g C f g tu) := by
  obtain ⟨fI, fd, iC, tI, F, _, _, _, _, _, ⟨g', hb⟩⟩ := c.fn
  refine (pe_xmk0 c.T iC tI F hr hg c.mgC hb hx (pk_cons he2.mono pk_nil) rfl rfl hdb rfl).weak fun σ H Q h => ?_
  exact ⟨_, h, fun z H1 q => ⟨rfl, rfl, made2 c.T c.A.noN c.B.noN fun a d H' e n ea ed => q _ _ e ⟨a, d, rfl, ea, ed⟩⟩⟩
end
/-! ### what they evaluate to -/
section
open Evl
variable {σ : L2.St} {H : Hp} {C : Addr} {f g : Str} {te tu ta tb : TE} {y z : V} {xs ys : List V}
/-- te gives an instance of C with fields fs -/
def EvE (te : TE) (σ : L2.St) (H : Hp) (C : Addr) (fs : List (Str × V)) : Prop := ∀ H1, Ex H H1 → ∀ Q : VK, (∀ v H2, Ex H1 H2 → ExcAt H2 v C fs → Q v H2) → te σ H1 Q
theorem ee_1 (h : Ev te σ H y) : EvE (tX1 C f te) σ H C [(f, y)] := fun H1 e _ q => h H1 e _ fun _ e2 _ _ e3 hx => q _ _ (e2.trans e3) hx
theorem ee_10 : EvE (tX10 C f) σ H C [(f, .non)] := fun _ _ _ q _ _ e3 hx => q _ _ e3 hx
theorem ee_2 (h : Ev te σ H y) (h2 : Ev tu σ H z) : EvE (tX2 C f g te tu) σ H C [(g, z), (f, y)] := fun H1 e _ q => h H1 e _ fun H2 e2 => h2 H2 (e.trans e2) _ fun _ e3 _ _ e4 hx => q _ _ ((e2.trans e3).trans e4) hx
theorem ee_2r (h2 : Ev tu σ H z) (h : Ev te σ H y) : EvE (tX2r C f g tu te) σ H C [(g, z), (f, y)] := fun H1 e _ q => h2 H1 e _ fun H2 e2 => h H2 (e.trans e2) _ fun _ e3 _ _ e4 hx => q _ _ ((e2.trans e3).trans e4) hx
theorem ee_2f (h : Ev te σ H y) : EvE (tX2f C f g te) σ H C [(g, .non), (f, y)] := fun H1 e _ q => h H1 e _ fun _ e2 _ _ e3 hx => q _ _ (e2.trans e3) hx
theorem ee_2g (h : Ev tu σ H z) : EvE (tX2g C f g tu) σ H C [(g, z), (f, .non)] := fun H1 e _ q => h H1 e _ fun _ e2 _ _ e3 hx => q _ _ (e2.trans e3) hx
theorem ee_20 : EvE (tX20 C f g) σ H C [(g, .non), (f, .non)] := fun _ _ _ q _ _ e3 hx => q _ _ e3 hx
theorem ev_xf {fs : List (Str × V)} (h : EvE te σ H C fs) (hl : fs.lookup f = some y) : Ev (tXF C te f) σ H y := fun H1 e _ q => h H1 e _ fun _ H2 e2 hx => ⟨fs, y, hx, hl, q H2 e2⟩
/-- xs + ys, both new; xs * k -/
theorem el_cat (ha : EvL ta σ H xs) (hb : EvL tb σ H ys) (hz : xs.length + ys.length ≤ 100000) : EvL (tOp rCat ta tb) σ H (xs ++ ys) := fun H1 e _ q =>
  ha H1 e _ fun p H2 n2 e2 h2 => hb H2 (e.trans e2) _ fun p' H3 n3 e3 h3 => ⟨p, p', xs, ys, rfl, rfl, e3 p _ h2, h3, sz_of hz, fun r hr => q r _ (fresh_back (e2.trans e3) hr) ((e2.trans e3).trans (Ex.new hr)) upd_same⟩
/-- a list that is known + a new one -/
theorem el_catK {l : Addr} (ha : Ev ta σ H (.ref l)) (hl : H l = some (.lst xs)) (hb : EvL tb σ H ys) (hz : xs.length + ys.length ≤ 100000) : EvL (tOp rCat ta tb) σ H (xs ++ ys) := fun H1 e _ q =>
  ha H1 e _ fun H2 e2 => hb H2 (e.trans e2) _ fun p' H3 n3 e3 h3 => ⟨l, p', xs, ys, rfl, rfl, e3 l _ (e2 l _ (e l _ hl)), h3, sz_of hz, fun r hr => q r _ (fresh_back (e2.trans e3) hr) ((e2.trans e3).trans (Ex.new hr)) upd_same⟩
theorem el_rep {k : Nat} (ha : EvL ta σ H xs) (hb : Ev tb σ H (.int k)) (hk : k ≤ 1000) (hz : xs.length * k ≤ 100000) : EvL (tOp rRep ta tb) σ H (List.replicate k xs).flatten := fun H1 e _ q =>
  ha H1 e _ fun p H2 n2 e2 h2 => hb H2 (e.trans e2) _ fun H3 e3 => ⟨p, k, xs, rfl, rfl, e3 p _ h2, by omega, by omega, by simpa using sz_of hz, fun r hr => q r _ (fresh_back (e2.trans e3) hr) ((e2.trans e3).trans (Ex.new hr)) (by rw [upd_same]; simp)⟩
end
end L2
set_option Elab.async false
set_option linter.all false
set_option maxRecDepth 100000
set_option maxHeartbeats 4000000
namespace Prs
open PySem PySem.Spec PyProof.Rows L2 Evl
def top (i : Nat) : Stmt := PySem.Challenge.pw_deepstands_k01_charts_read.main.body.getD i (.Pass ⟨0, 0, 0, 0⟩)
abbrev sRun : Stmt := top 21
abbrev sWord : Stmt := top 22
abbrev sKind : Stmt := top 23
abbrev sBlanks : Stmt := top 24
abbrev sPassed : Stmt := top 25
abbrev sWordsOf : Stmt := top 26
/-! ### the mirror of the words -/
def LET : Str := "abcdefghijklmnopqrstuvwxyz"
def FIG : Str := "0123456789"
def MRK : Str := "()+-<=,"
def KEYS : List Str := ["fact", "on", "one", "all", "leaf", "end", "back", "deep", "into", "out", "go", "after", "done", "if", "do", "to", "set", "raise", "say", "in", "not", "and", "or", "yes"]
def has (s : Str) (c : Nat) : Bool := decide (c ∈ s.cps.toList)
def signAt (r : Str) (i : Nat) : Nat := r.cps.toList.getD i 0
def runGo (r s : Str) (lim : Nat) : Nat → Nat → Nat
  | 0, e => e
  | n + 1, e => if e < r.length ∧ e < lim ∧ has s (signAt r e) = true then runGo r s lim n (e + 1) else e
def endOfRun (r : Str) (a : Nat) (s : Str) (m : Nat) : Nat := runGo r s (a + m) r.length a
def endOfWord (r : Str) (a : Nat) : Nat :=
  let c := signAt r a
  if has MRK c then a + 1
  else if decide (0 < a) && has (LET ++ FIG) (signAt r (a - 1)) then a
  else if c = 48 then a + 1
  else if has FIG c then endOfRun r a FIG 9
  else if has LET c then endOfRun r a (LET ++ FIG) 8
  else a
/-- what the names of the module hold -/
structure Gn (K : PySem.W.Frag) (mg : Str → Option Value) : Prop where
  len : mg "len" = none
  letters : ∃ t, mg "LETTERS" = some (.str LET t)
  figures : ∃ t, mg "FIGURES" = some (.str FIG t)
  marks : ∃ t, mg "MARKS" = some (.str MRK t)
  mostS : ∃ t, mg "MOST_SIGNS" = some (.int 8 t)
  mostF : ∃ t, mg "MOST_FIGURES" = some (.int 9 t)
  kName : ∃ t, mg "NAME" = some (.str "a name" t)
  kNumber : ∃ t, mg "NUMBER" = some (.str "a number" t)
  kNo : ∃ t, mg "NO_WORD" = some (.str "no word" t)
  kEnd : ∃ t, mg "ROW_END" = some (.str "the row's end" t)
theorem len_cps (r : Str) : r.cps.toList.length = r.length := rfl
theorem atI_sign {r : Str} {i : Nat} (h : i < r.length) : atI r.cps.toList (i : Int) = some (signAt r i) := by
  have hl : i < r.cps.toList.length := h
  refine atI_nat ?_
  unfold signAt
  rw [List.getD_eq_getElem?_getD, List.getElem?_eq_getElem hl]
  rfl
theorem rv_sign {r : Str} {i : Nat} {H : Hp} (hr : r.length ≤ 100000) (h : i < r.length) : RV rIxS (.str r) (.int (i : Int)) H (.str ⟨#[signAt r i]⟩) := rv_ixS hr (atI_sign h)
theorem rv_inS {c : Nat} {s : Str} {H : Hp} : RV rInS (.str ⟨#[c]⟩) (.str s) H (.bl (has s c)) := fun H1 _ _ q => ⟨c, s, rfl, rfl, q H1 (Ex.refl H1)⟩
section
variable {P : Program} {w : World} {K : PySem.W.Frag} {mg : Str → Option Value} {base : Heap}
theorem ev_lenS {σ : L2.St} {H : Hp} {te : TE} {s : Str} (h : Ev te σ H (.str s)) (hz : s.length ≤ 100000) : Ev (tCB (fun xs H Q => ∃ x n, xs = [x] ∧ LenV K x H n ∧ Q (.int n) H) (tCons te tNil)) σ H (.int (s.length : Nat)) := fun H1 e _ q => h H1 e _ fun H2 e2 => ⟨_, _, rfl, ⟨sz_of hz, rfl⟩, q H2 e2⟩
/-! ### end_of_run -/
def spRun : Sp := fun vs H Q _ => ∃ (r s : Str) (a m : Nat), vs = [.str r, .int (a : Int), .str s, .int (m : Int)] ∧ r.length ≤ 100000 ∧ a ≤ r.length ∧ RetV (.int (endOfRun r a s m : Nat)) H Q
theorem scRun : FnScope ["row", "at", "signs", "most", "end"] ["row", "at", "signs", "most"] (defScope sRun) := ⟨rfl, rfl, rfl, by decide +kernel, rfl, by decide +kernel, by decide +kernel⟩
theorem ok_run {f : Addr} {fd : FuncData} (F : Fun K "end_of_run" "end_of_run" sRun f fd) (G : Gn K mg) : FnOk P w K mg base CX0 1 f fd ["row", "at", "signs", "most"] spRun := by
  refine F.ok scRun (fun vs H Q E h => ?_) (fun cdv A outer s0 H vs Q E hr h => ?_)
  · obtain ⟨r, s, a, m, rfl, _⟩ := h
    rfl
  · obtain ⟨r, s, a, m, rfl, hr0, ha, q⟩ := h
    refine ⟨_, pss_cons (ps_set (i := 4) scRun.nd rfl (.inl rfl) (pv 1))
      (pss_cons (ps_while PassesOwn.never (PW.pt (pw_and (pt_cmpR op_lt (pv 4) (pe_callB call_len (by rfl) G.len PySem.boot_len (pa_cons (pv 0) pa_nil)) (nomark _)) (pw_and (pt_cmpR op_lt (pv 4) (pe_op op_add (pv 1) (pv 3)) (nomark _)) (pw_and1 (pt_cmpR op_inS (pe_ix ix_str (pv 0) (pv 4) (fun _ _ => rfl)) (pv 2) (by rfl))))))
        (pss_one (ps_aug (i := 4) scRun.nd rfl (.inl rfl) pe_int ip_add)))
      (pss_one (ps_ret (pv 4)))), ?_⟩
    refine q_asg (v := .int (a : Nat)) (ev_var rfl) fun H1 e1 => ?_
    refine q_while (fun k σ H' => ∃ e : Nat, e ≤ r.length ∧ Ex H1 H' ∧ σ = [some (.str r), some (.int (a : Nat)), some (.str s), some (.int (m : Nat)), some (.int (e : Nat))] ∧ r.length - e ≤ k ∧ runGo r s (a + m) k e = endOfRun r a s m) r.length ⟨a, ha, Ex.refl _, rfl, Nat.sub_le _ _, rfl⟩ ?_
    rintro k σ' H' ⟨e, he, x, rfl, hk, hg⟩
    refine ⟨decide ((e : Int) < (r.length : Nat)) && (decide ((e : Int) < ((a : Nat) : Int) + ((m : Nat) : Int)) && has s (signAt r e)), et_and (et_test (ev_op (ev_var rfl) (ev_lenS (ev_var rfl) hr0) rv_I0)) (fun h1 => et_and (et_test (ev_op (ev_var rfl) (ev_op (ev_var rfl) (ev_var rfl) rv_I0) rv_I0)) (fun _ => et_test (ev_op (ev_op (ev_var rfl) (ev_var rfl) (rv_sign hr0 (by have := of_decide_eq_true h1; omega))) (ev_var rfl) rv_inS))), fun hb H2 e2 => ?_, fun hb H2 e2 => ?_⟩
    · simp only [Bool.and_eq_true, decide_eq_true_eq] at hb
      obtain ⟨h1, h2, h3⟩ := hb
      have h1' : e < r.length := by omega
      have h2' : e < a + m := by omega
      cases k with
      | zero => omega
      | succ k =>
        refine ⟨fun σ2 H3 => ∃ e : Nat, e ≤ r.length ∧ Ex H1 H3 ∧ σ2 = [some (.str r), some (.int (a : Nat)), some (.str s), some (.int (m : Nat)), some (.int (e : Nat))] ∧ r.length - e ≤ k ∧ runGo r s (a + m) k e = endOfRun r a s m, fun σ2 H3 ⟨e', p1, p2, p3, p4, p5⟩ => ⟨k, Nat.lt_succ_self _, e', p1, p2, p3, p4, p5⟩, ?_⟩
        refine s_aug (f := fun i j => i + j) rfl ev_c fun H3 e3 => ⟨e + 1, h1', Ex.trans (Ex.trans x e2) e3, rfl, by omega, ?_⟩
        rw [← hg]
        show _ = if e < r.length ∧ e < a + m ∧ has s (signAt r e) = true then runGo r s (a + m) k (e + 1) else e
        rw [if_pos ⟨h1', h2', h3⟩]
    · have : runGo r s (a + m) k e = e := by
        cases k with
        | zero => rfl
        | succ k =>
          show (if e < r.length ∧ e < a + m ∧ has s (signAt r e) = true then runGo r s (a + m) k (e + 1) else e) = e
          refine if_neg fun ⟨z1, z2, z3⟩ => ?_
          have y1 : decide ((e : Int) < (r.length : Nat)) = true := decide_eq_true (by omega)
          have y2 : decide ((e : Int) < ((a : Nat) : Int) + ((m : Nat) : Int)) = true := decide_eq_true (by omega)
          rw [y1, y2, z3] at hb
          exact Bool.noConfusion hb
      rw [this] at hg
      subst hg
      exact s_ret (v := .int (endOfRun r a s m : Nat)) (D := { nx := _, rt := Q }) (ev_var rfl) fun H3 e3 => q.go (Ex.trans (Ex.trans (Ex.trans e1 x) e2) e3)
/-! ### end_of_word -/
def spWord : Sp := fun vs H Q _ => ∃ (r : Str) (a : Nat), vs = [.str r, .int (a : Int)] ∧ r.length ≤ 100000 ∧ a < r.length ∧ RetV (.int (endOfWord r a : Nat)) H Q
theorem scWord : FnScope ["row", "at", "sign"] ["row", "at"] (defScope sWord) := ⟨rfl, rfl, rfl, by decide +kernel, rfl, by decide +kernel, by decide +kernel⟩
theorem rv_catS {a b : Str} {H : Hp} (h : a.length + b.length ≤ 100000) : RV rAddS (.str a) (.str b) H (.str (a ++ b)) := fun H1 _ _ q => ⟨a, b, rfl, rfl, sz_of h, q H1 (Ex.refl H1)⟩
theorem sv_run {r s : Str} {a m : Nat} {H : Hp} (hr : r.length ≤ 100000) (ha : a ≤ r.length) : SpV spRun [.str r, .int (a : Int), .str s, .int (m : Int)] H (.int (endOfRun r a s m : Nat)) := fun H1 e Q q E => ⟨r, s, a, m, rfl, hr, ha, fun H2 e2 => q H2 e2⟩
theorem ok_word {f fR : Addr} {fd fdR : FuncData} (F : Fun K "end_of_word" "end_of_word" sWord f fd) (FR : Fun K "end_of_run" "end_of_run" sRun fR fdR) (bR : Binds K fdR ["row", "at", "signs", "most"] []) (mR : mg "end_of_run" = some (.ref fR)) (G : Gn K mg) :
    FnOk P w K mg base CX0 2 f fd ["row", "at"] spWord := by
  have GR : FnOk P w K mg base CX0 1 fR fdR ["row", "at", "signs", "most"] spRun := ok_run FR G
  obtain ⟨_, gL⟩ := G.letters
  obtain ⟨_, gF⟩ := G.figures
  obtain ⟨_, gM⟩ := G.marks
  obtain ⟨_, gS⟩ := G.mostS
  obtain ⟨_, gN⟩ := G.mostF
  refine F.ok scWord (fun vs H Q E h => ?_) (fun cdv A outer s0 H vs Q E hr h => ?_)
  · obtain ⟨r, a, rfl, _⟩ := h
    rfl
  · obtain ⟨r, a, rfl, hr0, ha, q⟩ := h
    refine ⟨_, pss_cons (ps_set (i := 2) scWord.nd rfl (.inl rfl) (pe_ix ix_str (pv 0) (pv 1) (fun _ _ => rfl)))
      (pss_cons (ps_if (pt_cmpR op_inS (pv 2) (pe_glob (v := .str MRK) rfl gM ⟨_, rfl⟩) (by rfl)) (pss_one (ps_ret (pe_op op_add (pv 1) pe_int))) pss_nil)
      (pss_cons (ps_if (PW.pt (pw_and (pt_cmpR op_gt (pv 1) pe_int (nomark _)) (pw_and1 (pt_cmpR op_inS (pe_ix ix_str (pv 0) (pe_op op_sub (pv 1) pe_int) (fun _ _ => rfl)) (pe_op op_add_str (pe_glob (v := .str LET) rfl gL ⟨_, rfl⟩) (pe_glob (v := .str FIG) rfl gF ⟨_, rfl⟩)) (by rfl))))) (pss_one (ps_ret (pv 1))) pss_nil)
      (pss_cons (ps_if (pt_cmpR op_eq (pv 2) pe_str (nomark _)) (pss_one (ps_ret (pe_op op_add (pv 1) pe_int))) pss_nil)
      (pss_cons (ps_if (pt_cmpR op_inS (pv 2) (pe_glob (v := .str FIG) rfl gF ⟨_, rfl⟩) (by rfl)) (pss_one (ps_ret (pe_call GR hr rfl mR FR.kp bR .nil pass0 (pa_cons (pv 0) (pa_cons (pv 1) (pa_cons (pe_glob (v := .str FIG) rfl gF ⟨_, rfl⟩) (pa_cons (pe_glob (v := .int 9) rfl gN ⟨_, rfl⟩) pa_nil))))))) pss_nil)
      (pss_cons (ps_if (pt_cmpR op_inS (pv 2) (pe_glob (v := .str LET) rfl gL ⟨_, rfl⟩) (by rfl)) (pss_one (ps_ret (pe_call GR hr rfl mR FR.kp bR .nil pass0 (pa_cons (pv 0) (pa_cons (pv 1) (pa_cons (pe_op op_add_str (pe_glob (v := .str LET) rfl gL ⟨_, rfl⟩) (pe_glob (v := .str FIG) rfl gF ⟨_, rfl⟩)) (pa_cons (pe_glob (v := .int 8) rfl gS ⟨_, rfl⟩) pa_nil))))))) pss_nil)
      (pss_one (ps_ret (pv 1)))))))), ?_⟩
    have hcat : LET.length + FIG.length ≤ 100000 := by decide +kernel
    refine q_asg (v := .str ⟨#[signAt r a]⟩) (ev_op (ev_var rfl) (ev_var rfl) (rv_sign hr0 ha)) fun H1 e1 => ?_
    unfold endOfWord at q
    refine q_when (b := has MRK (signAt r a)) (et_test (ev_op (ev_var rfl) ev_c rv_inS)) (fun hb H2 e2 => ?_) (fun hb H2 e2 => ?_)
    · simp only [hb, if_true] at q
      exact s_ret (v := .int ((a : Nat) + 1)) (D := { nx := _, rt := Q }) (ev_op (ev_var rfl) ev_c rv_I0) fun H3 e3 => q.go (Ex.trans (Ex.trans e1 e2) e3)
    simp only [hb, Bool.false_eq_true, if_false] at q
    refine q_when (b := decide ((0 : Int) < (a : Nat)) && has (LET ++ FIG) (signAt r (a - 1))) (et_and (et_test (ev_op (ev_var rfl) ev_c rv_I0)) fun h0 => et_test (ev_op (ev_op (ev_var rfl) (ev_is (ev_op (ev_var rfl) ev_c rv_I0) (w := .int ((a - 1 : Nat) : Int)) (congrArg V.int (by have := of_decide_eq_true h0; omega))) (rv_sign hr0 (by omega))) (ev_op ev_c ev_c (rv_catS hcat)) rv_inS)) (fun hc H3 e3 => ?_) (fun hc H3 e3 => ?_)
    · have hc' : (decide (0 < a) && has (LET ++ FIG) (signAt r (a - 1))) = true := by rw [← hc]; congr 1; exact decide_eq_decide.mpr (by omega)
      simp only [hc', if_true] at q
      exact s_ret (v := .int (a : Nat)) (D := { nx := _, rt := Q }) (ev_var rfl) fun H4 e4 => q.go (Ex.trans (Ex.trans (Ex.trans e1 e2) e3) e4)
    have hc' : (decide (0 < a) && has (LET ++ FIG) (signAt r (a - 1))) = false := by rw [← hc]; congr 1; exact decide_eq_decide.mpr (by omega)
    simp only [hc', Bool.false_eq_true, if_false] at q
    have E3 := Ex.trans (Ex.trans e1 e2) e3
    refine q_when (b := decide (V.str ⟨#[signAt r a]⟩ = V.str "0")) (et_test (ev_op (ev_var rfl) ev_c (rv_eq rfl))) (fun hb H4 e4 => ?_) (fun hb H4 e4 => ?_)
    · have h48 : signAt r a = 48 := by
        have z := of_decide_eq_true hb
        injection z with z
        have z2 : (⟨#[signAt r a]⟩ : Str).cps = ("0" : Str).cps := congrArg Str.cps z
        exact (by simpa using congrArg (fun x : Array Nat => x.getD 0 0) z2 : signAt r a = _)
      simp only [h48, if_true] at q
      exact s_ret (v := .int ((a : Nat) + 1)) (D := { nx := _, rt := Q }) (ev_op (ev_var rfl) ev_c rv_I0) fun H5 e5 => q.go (Ex.trans (Ex.trans E3 e4) e5)
    have h48 : ¬ signAt r a = 48 := fun z => by
      have z2 := of_decide_eq_false hb
      exact z2 (by rw [z]; rfl)
    simp only [h48, if_false] at q
    refine q_when (b := has FIG (signAt r a)) (et_test (ev_op (ev_var rfl) ev_c rv_inS)) (fun hd H5 e5 => ?_) (fun hd H5 e5 => ?_)
    · simp only [hd, if_true] at q
      exact s_ret (v := .int (endOfRun r a FIG 9 : Nat)) (D := { nx := _, rt := Q }) (ev_call (ea_cons (ev_var rfl) (ea_cons (ev_var rfl) (ea_cons ev_c (ea_cons ev_c ea_nil)))) (sv_run (m := 9) hr0 (by omega))) fun H6 e6 => q.go (Ex.trans (Ex.trans (Ex.trans E3 e4) e5) e6)
    simp only [hd, Bool.false_eq_true, if_false] at q
    refine q_when (b := has LET (signAt r a)) (et_test (ev_op (ev_var rfl) ev_c rv_inS)) (fun hd H6 e6 => ?_) (fun hd H6 e6 => ?_)
    · simp only [hd, if_true] at q
      exact s_ret (v := .int (endOfRun r a (LET ++ FIG) 8 : Nat)) (D := { nx := _, rt := Q }) (ev_call (ea_cons (ev_var rfl) (ea_cons (ev_var rfl) (ea_cons (ev_op ev_c ev_c (rv_catS hcat)) (ea_cons ev_c ea_nil)))) (sv_run (m := 8) hr0 (by omega))) fun H7 e7 => q.go (Ex.trans (Ex.trans (Ex.trans (Ex.trans E3 e4) e5) e6) e7)
    simp only [hd, Bool.false_eq_true, if_false] at q
    exact s_ret (v := .int (a : Nat)) (D := { nx := _, rt := Q }) (ev_var rfl) fun H7 e7 => q.go (Ex.trans (Ex.trans (Ex.trans (Ex.trans E3 e4) e5) e6) e7)
/-! ### kind_of, blanks_of, is_passed -/
def inMarks (w : Str) : Bool := !(Builtin.Str.occurrences MRK w 0 MRK.length 1).isEmpty
def kindOf (w : Str) : Str := if decide (V.str w = V.str "") then "no word" else if inV (.str w) (KEYS.map V.str) || inMarks w then w else if has FIG (signAt w 0) then "a number" else "a name"
def spKind : Sp := fun vs H Q _ => ∃ w : Str, vs = [.str w] ∧ w.length ≤ 100000 ∧ RetV (.str (kindOf w)) H Q
theorem scKind : FnScope ["word"] ["word"] (defScope sKind) := ⟨rfl, rfl, rfl, by decide +kernel, rfl, by decide +kernel, by decide +kernel⟩
/-- a tuple of the module's top -/
def KTup (K : PySem.W.Frag) (mg : Str → Option Value) (x : Str) (vs : List V) : Prop := ∃ a, mg x = some (.ref a) ∧ (∀ H, SqT K H a vs)
/-- a dict of the module's top, by its keys (texts) -/
def KSet (K : PySem.W.Frag) (w : World) (mg : Str → Option Value) (x : Str) (ks : List V) : Prop := ∃ a es n, mg x = some (.ref a) ∧ KDict K w a es n ∧ ∀ z : Str, ∃ r, PySem.W.nsIn K a z = some r ∧ r.isSome = inV (.str z) ks
theorem rv_inK {a : Addr} {ks : List V} (h : ∀ z : Str, ∃ r, PySem.W.nsIn K a z = some r ∧ r.isSome = inV (.str z) ks) {z : Str} {H : Hp} : RV (fun x y H Q => ∃ (z : Str) (r : Option Value), x = .str z ∧ y = .ref a ∧ PySem.W.nsIn K a z = some r ∧ Q (.bl r.isSome) H) (.str z) (.ref a) H (.bl (inV (.str z) ks)) := fun H1 _ Q q => by
  obtain ⟨r, h1, h2⟩ := h z
  exact ⟨z, r, rfl, rfl, h1, by rw [h2]; exact q H1 (Ex.refl H1)⟩
theorem rv_inStr {a b : Str} {H : Hp} : RV (fun x y H Q => ∃ i j, x = .str i ∧ y = .str j ∧ Q (.bl (!(Builtin.Str.occurrences j i 0 j.length 1).isEmpty)) H) (.str a) (.str b) H (.bl (!(Builtin.Str.occurrences b a 0 b.length 1).isEmpty)) := fun H1 _ _ q => ⟨a, b, rfl, rfl, q H1 (Ex.refl H1)⟩
theorem keys_flat : (KEYS.map V.str).all flatV = true := by decide +kernel
theorem ok_kind {f : Addr} {fd : FuncData} (F : Fun K "kind_of" "kind_of" sKind f fd) (G : Gn K mg) (GK : KSet K w mg "KEYWORDS" (KEYS.map V.str)) : FnOk P w K mg base CX0 1 f fd ["word"] spKind := by
  obtain ⟨_, gF⟩ := G.figures
  obtain ⟨_, gM⟩ := G.marks
  obtain ⟨_, g1⟩ := G.kName
  obtain ⟨_, g2⟩ := G.kNumber
  obtain ⟨_, g3⟩ := G.kNo
  obtain ⟨ak, ek, nk, gK, dK, hK⟩ := GK
  refine F.ok scKind (fun vs H Q E h => ?_) (fun cdv A outer s0 H vs Q E hr h => ?_)
  · obtain ⟨w, rfl, _⟩ := h
    rfl
  · obtain ⟨w, rfl, hw, q⟩ := h
    refine ⟨_, pss_cons (ps_if (pt_cmpR op_eq (pv 0) pe_str (nomark _)) (pss_one (ps_ret (pe_glob (v := .str "no word") rfl g3 ⟨_, rfl⟩))) pss_nil)
      (pss_cons (ps_if (PW.pt (pw_or (pt_cmpR (op_in_kd dK) (pv 0) (pe_glob (v := .ref ak) rfl gK rfl) (by rfl)) (pw_or1 (pt_cmpR op_in_str (pv 0) (pe_glob (v := .str MRK) rfl gM ⟨_, rfl⟩) (by rfl))))) (pss_one (ps_ret (pv 0))) pss_nil)
      (pss_one (ps_ret (pe_ifExp (pt_cmpR op_inS (pe_ix ix_str (pv 0) pe_int (fun _ _ => rfl)) (pe_glob (v := .str FIG) rfl gF ⟨_, rfl⟩) (by rfl)) (pe_glob (v := .str "a number") rfl g2 ⟨_, rfl⟩) (pe_glob (v := .str "a name") rfl g1 ⟨_, rfl⟩))))), ?_⟩
    unfold kindOf at q
    refine q_when (b := decide (V.str w = V.str "")) (et_test (ev_op (ev_var rfl) ev_c (rv_eq rfl))) (fun hb H1 e1 => ?_) (fun hb H1 e1 => ?_)
    · simp only [hb, if_true] at q
      exact s_ret (v := .str "no word") (D := { nx := _, rt := Q }) ev_c fun H2 e2 => q.go (Ex.trans e1 e2)
    simp only [hb, Bool.false_eq_true, if_false] at q
    refine q_when (b := inV (.str w) (KEYS.map V.str) || inMarks w) (et_or (et_test (ev_op (ev_var rfl) ev_c (rv_inK hK))) fun _ => et_test (ev_op (ev_var rfl) ev_c rv_inStr)) (fun hc H2 e2 => ?_) (fun hc H2 e2 => ?_)
    · simp only [hc, if_true] at q
      exact s_ret (v := .str w) (D := { nx := _, rt := Q }) (ev_var rfl) fun H3 e3 => q.go (Ex.trans (Ex.trans e1 e2) e3)
    simp only [hc, Bool.false_eq_true, if_false] at q
    have hl : 0 < w.length := by
      refine Nat.pos_of_ne_zero fun z => of_decide_eq_false hb ?_
      have : w = "" := by
        obtain ⟨⟨l⟩⟩ := w
        have : l = [] := List.eq_nil_of_length_eq_zero z
        subst this
        rfl
      rw [this]
    refine s_ret (v := .str (if has FIG (signAt w 0) then "a number" else "a name")) (ev_if (b := has FIG (signAt w 0)) (et_test (ev_op (ev_op (ev_var rfl) (ev_c (v := .int ((0 : Nat) : Int))) (rv_sign hw hl)) ev_c rv_inS)) (fun h => ev_is ev_c (by rw [h]; rfl)) (fun h => ev_is ev_c (by rw [h]; rfl))) fun H3 e3 => q.go (Ex.trans (Ex.trans e1 e2) e3)
def blanksOf (r : Str) : Int := (r.length : Int) - ((Txt.lstripChars r " ").length : Int)
def spBlanks : Sp := fun vs H Q _ => ∃ r : Str, vs = [.str r] ∧ r.length ≤ 100000 ∧ RetV (.int (blanksOf r)) H Q
theorem scBlanks : FnScope ["row"] ["row"] (defScope sBlanks) := ⟨rfl, rfl, rfl, by decide +kernel, rfl, by decide +kernel, by decide +kernel⟩
theorem ev_lstrip {σ : L2.St} {H : Hp} {te tf : TE} {a b : Str} (h : Ev te σ H (.str a)) (h2 : Ev tf σ H (.str b)) (hz : a.length ≤ 100000) : Ev (tM1 (fun x xs H Q => ∃ a b, x = .str a ∧ xs = [.str b] ∧ a.length ≤ sizeLine ∧ Q (.str (Txt.lstripChars a b)) H) te tf) σ H (.str (Txt.lstripChars a b)) := fun H1 e _ q => h H1 e _ fun H2 e2 => ⟨⟨a, rfl⟩, h2 H2 (Ex.trans e e2) _ fun H3 e3 => ⟨a, b, rfl, rfl, sz_of hz, q H3 (Ex.trans e2 e3)⟩⟩
theorem ev_rstrip {σ : L2.St} {H : Hp} {te tf : TE} {a b : Str} (h : Ev te σ H (.str a)) (h2 : Ev tf σ H (.str b)) (hz : a.length ≤ 100000) : Ev (tM1 (fun x xs H Q => ∃ a b, x = .str a ∧ xs = [.str b] ∧ a.length ≤ sizeLine ∧ Q (.str (Txt.rstripChars a b)) H) te tf) σ H (.str (Txt.rstripChars a b)) := fun H1 e _ q => h H1 e _ fun H2 e2 => ⟨⟨a, rfl⟩, h2 H2 (Ex.trans e e2) _ fun H3 e3 => ⟨a, b, rfl, rfl, sz_of hz, q H3 (Ex.trans e2 e3)⟩⟩
theorem ev_starts {σ : L2.St} {H : Hp} {te tf : TE} {a b : Str} (h : Ev te σ H (.str a)) (h2 : Ev tf σ H (.str b)) : Ev (tM1 (fun x xs H Q => ∃ a b, x = .str a ∧ xs = [.str b] ∧ Q (.bl (Txt.startswith a b)) H) te tf) σ H (.bl (Txt.startswith a b)) := fun H1 e _ q => h H1 e _ fun H2 e2 => ⟨⟨a, rfl⟩, h2 H2 (Ex.trans e e2) _ fun H3 e3 => ⟨a, b, rfl, rfl, q H3 (Ex.trans e2 e3)⟩⟩
theorem strip_le (goes : Nat → Bool) (l r : Bool) (x : Str) : (Txt.stripBy goes l r x).length ≤ x.length := by
  unfold Txt.stripBy
  split
  · exact Nat.le_refl _
  · exact PySem.le_strSub _ _ _
theorem lstrip_le (a b : Str) : (Txt.lstripChars a b).length ≤ a.length := strip_le _ _ _ _
theorem rstrip_le (a b : Str) : (Txt.rstripChars a b).length ≤ a.length := strip_le _ _ _ _
theorem ok_blanks {f : Addr} {fd : FuncData} (F : Fun K "blanks_of" "blanks_of" sBlanks f fd) (G : Gn K mg) : FnOk P w K mg base CX0 1 f fd ["row"] spBlanks := by
  refine F.ok scBlanks (fun vs H Q E h => ?_) (fun cdv A outer s0 H vs Q E hr h => ?_)
  · obtain ⟨w, rfl, _⟩ := h
    rfl
  · obtain ⟨r, rfl, hz, q⟩ := h
    refine ⟨_, pss_one (ps_ret (pe_op op_sub (pe_callB call_len (by rfl) G.len PySem.boot_len (pa_cons (pv 0) pa_nil)) (pe_callB call_len (by rfl) G.len PySem.boot_len (pa_cons (pe_m1 PySem.F.slot_str_lstrip PySem.F.type_str_lstrip mt_lstripChars (pv 0) pe_str) pa_nil)))), ?_⟩
    exact s_ret (v := .int (blanksOf r)) (D := { nx := _, rt := Q }) (ev_op (ev_lenS (ev_var rfl) hz) (ev_lenS (ev_lstrip (ev_var rfl) ev_c hz) (Nat.le_trans (lstrip_le _ _) hz)) rv_I0) fun H1 e1 => q.go e1
def isPassed (r : Str) : Bool := decide (V.str (Txt.lstripChars r " ") = V.str "") || Txt.startswith (Txt.lstripChars r " ") "--"
def spPassed : Sp := fun vs H Q _ => ∃ r : Str, vs = [.str r] ∧ r.length ≤ 100000 ∧ RetV (.bl (isPassed r)) H Q
theorem scPassed : FnScope ["row", "bare"] ["row"] (defScope sPassed) := ⟨rfl, rfl, rfl, by decide +kernel, rfl, by decide +kernel, by decide +kernel⟩
theorem ok_passed {f : Addr} {fd : FuncData} (F : Fun K "is_passed" "is_passed" sPassed f fd) : FnOk P w K mg base CX0 1 f fd ["row"] spPassed := by
  refine F.ok scPassed (fun vs H Q E h => ?_) (fun cdv A outer s0 H vs Q E hr h => ?_)
  · obtain ⟨w, rfl, _⟩ := h
    rfl
  · obtain ⟨r, rfl, hz, q⟩ := h
    refine ⟨_, pss_cons (ps_set (i := 1) scPassed.nd rfl (.inl rfl) (pe_m1 PySem.F.slot_str_lstrip PySem.F.type_str_lstrip mt_lstripChars (pv 0) pe_str)) (pss_one (ps_ret (pe_or (pe_cmpR op_eq (pv 1) pe_str (nomark _)) (pe_one (pe_m1 PySem.F.slot_str_startswith PySem.F.type_str_startswith mt_startswith (pv 1) pe_str))))), ?_⟩
    refine q_asg (v := .str (Txt.lstripChars r " ")) (ev_lstrip (ev_var rfl) ev_c hz) fun H1 e1 => ?_
    exact s_ret (v := .bl (isPassed r)) (D := { nx := _, rt := Q }) (ev_orV (ev_op (ev_var rfl) ev_c (rv_eq rfl)) fun _ => ev_starts (ev_var rfl) ev_c) fun H2 e2 => q.go (Ex.trans e1 e2)
end
end Prs
set_option Elab.async false
set_option linter.all false
set_option maxRecDepth 100000
set_option maxHeartbeats 4000000
namespace Prs
open PySem PySem.Spec PyProof.Rows L2 Evl
theorem runGo_le {r s : Str} {lim : Nat} : ∀ (n e : Nat), e ≤ r.length → e ≤ runGo r s lim n e ∧ runGo r s lim n e ≤ r.length
  | 0, e, h => ⟨Nat.le_refl _, h⟩
  | n + 1, e, h => by
    unfold runGo
    split
    · rename_i c
      have := runGo_le (r := r) (s := s) (lim := lim) n (e + 1) c.1
      exact ⟨by omega, this.2⟩
    · exact ⟨Nat.le_refl _, h⟩
theorem endOfWord_le {r : Str} {a : Nat} (h : a < r.length) : a ≤ endOfWord r a ∧ endOfWord r a ≤ r.length := by
  unfold endOfWord
  simp only
  split
  · omega
  split
  · omega
  split
  · omega
  split
  · exact runGo_le _ _ (by omega)
  split
  · exact runGo_le _ _ (by omega)
  · omega
theorem blanks_nn (r : Str) : 0 ≤ blanksOf r ∧ blanksOf r ≤ r.length := by
  have := lstrip_le r " "
  unfold blanksOf
  omega
theorem cut_from {r : Str} {e : Nat} (h : e ≤ r.length) : (cutS r (some (e : Int)) none).length = r.length - e := by
  show (((r.cps.toList.drop (HT.sIx r.length 0 (some (e : Int)))).take (HT.sIx r.length r.length none - HT.sIx r.length 0 (some (e : Int)))).toArray).size = r.length - e
  have h1 : HT.sIx r.length 0 (some (e : Int)) = e := by
    rw [HT.sIx_nat]
    exact Nat.min_eq_left h
  have h2 : HT.sIx r.length r.length none = r.length := rfl
  rw [h1, h2, List.size_toArray, List.length_take, List.length_drop, Array.length_toList]
  show min (r.length - e) (r.length - e) = _
  omega
structure Wd where
  kind : Str
  word : Str
  col : Nat
def cut (r : Str) (a e : Nat) : Str := cutS r (some (a : Int)) (some (e : Int))
def nextAt (r : Str) (e : Nat) : Nat := e + (blanksOf (cutS r (some (e : Int)) none)).toNat
def lastWd (r : Str) : Wd := ⟨"the row's end", "", (Txt.rstripChars r " ").length + 1⟩
def wordsGo (r : Str) : Nat → Nat → List Wd
  | 0, _ => []
  | n + 1, a => if a < r.length then ⟨kindOf (cut r a (endOfWord r a)), cut r a (endOfWord r a), a + 1⟩ :: (if endOfWord r a = a then [] else wordsGo r n (nextAt r (endOfWord r a))) else [lastWd r]
def wordsOf (r : Str) : List Wd := wordsGo r (r.length + 1) (blanksOf r).toNat
theorem nextAt_le {r : Str} {e : Nat} (h : e ≤ r.length) : e ≤ nextAt r e ∧ nextAt r e ≤ r.length := by
  have h1 := blanks_nn (cutS r (some (e : Int)) none)
  have h2 := cut_from h
  unfold nextAt
  omega
/-- the tuples at ts are the words ws -/
abbrev WordsAre (H : Hp) (ts : List Addr) (ws : List Wd) : Prop := Paired (fun t w => H t = some (.tup [.str w.kind, .str w.word, .int (w.col : Nat)])) ts ws
theorem WordsAre.mono {H H' : Hp} {ts : List Addr} {ws : List Wd} (e : Ex H H') (h : WordsAre H ts ws) : WordsAre H' ts ws := Paired.mapP h fun _ _ x => e _ _ x
theorem WordsAre.snoc {H : Hp} : ∀ {ts : List Addr} {ws : List Wd} {t : Addr} {w : Wd}, WordsAre H ts ws → H t = some (.tup [.str w.kind, .str w.word, .int (w.col : Nat)]) → WordsAre H (ts ++ [t]) (ws ++ [w])
  | _, _, _, _, .nil, h => .cons h .nil
  | _, _, _, _, .cons r s, h => .cons r (WordsAre.snoc s h)
section
variable {P : Program} {w : World} {K : PySem.W.Frag} {mg : Str → Option Value} {base : Heap}
def spWordsOf : Sp := fun vs H Q _ => ∃ r : Str, vs = [.str r] ∧ r.length ≤ 10000 ∧ ∀ l ts H', H l = none → Ex H H' → H' l = some (.lst (ts.map V.ref)) → WordsAre H' ts (wordsOf r) → Q (.ref l) H'
theorem scWordsOf : FnScope ["row", "words", "at", "end"] ["row"] (defScope sWordsOf) := ⟨rfl, rfl, rfl, by decide +kernel, rfl, by decide +kernel, by decide +kernel⟩
theorem ev_cut {σ : L2.St} {H : Hp} {te : TE} {tl th : TO} {z : Str} {lo hi : Option Int} (h : Ev te σ H (.str z)) (h1 : EvO tl σ H lo) (h2 : EvO th σ H hi) (hz : z.length ≤ 100000) : Ev (tSl rSlS te tl th) σ H (.str (cutS z lo hi)) := fun H1 e _ q =>
  h H1 e _ fun H2 e2 => h1 H2 (Ex.trans e e2) _ fun H3 e3 => h2 H3 (Ex.trans (Ex.trans e e2) e3) _ fun H4 e4 => ⟨z, rfl, sz_of hz, q H4 (Ex.trans (Ex.trans e2 e3) e4)⟩
theorem sv_kind {a : Str} {H : Hp} (h : a.length ≤ 100000) : SpV spKind [.str a] H (.str (kindOf a)) := fun H1 e Q q E => ⟨a, rfl, h, fun H2 e2 => q H2 e2⟩
theorem sv_blanks {a : Str} {H : Hp} (h : a.length ≤ 100000) : SpV spBlanks [.str a] H (.int (blanksOf a)) := fun H1 e Q q E => ⟨a, rfl, h, fun H2 e2 => q H2 e2⟩
theorem sv_word {r : Str} {a : Nat} {H : Hp} (h : r.length ≤ 100000) (ha : a < r.length) : SpV spWord [.str r, .int (a : Int)] H (.int (endOfWord r a : Nat)) := fun H1 e Q q E => ⟨r, a, rfl, h, ha, fun H2 e2 => q H2 e2⟩
theorem ok_wordsOf {f fW fK fB : Addr} {fd fdW fdK fdB : FuncData} (F : Fun K "words_of" "words_of" sWordsOf f fd) (GW : FnOk P w K mg base CX0 2 fW fdW ["row", "at"] spWord) (bW : Binds K fdW ["row", "at"] []) (kW : PySem.W.keepIn K (.ref fW) = true) (mW : mg "end_of_word" = some (.ref fW))
    (GK : FnOk P w K mg base CX0 1 fK fdK ["word"] spKind) (bK : Binds K fdK ["word"] []) (kK : PySem.W.keepIn K (.ref fK) = true) (mK : mg "kind_of" = some (.ref fK))
    (GB : FnOk P w K mg base CX0 1 fB fdB ["row"] spBlanks) (bB : Binds K fdB ["row"] []) (kB : PySem.W.keepIn K (.ref fB) = true) (mB : mg "blanks_of" = some (.ref fB)) (G : Gn K mg) :
    FnOk P w K mg base CX0 3 f fd ["row"] spWordsOf := by
  obtain ⟨_, g3⟩ := G.kEnd
  refine F.ok scWordsOf (fun vs H Q E h => ?_) (fun cdv A outer s0 H vs Q E hr h => ?_)
  · obtain ⟨w, rfl, _⟩ := h
    rfl
  · obtain ⟨r, rfl, hz0, q⟩ := h
    have hz : r.length ≤ 100000 := by omega
    have hr1 : Room 1 _ := hr.mono (by decide)
    refine ⟨_, pss_cons (ps_set (i := 1) scWordsOf.nd rfl (.inl rfl) (pe_lst pa_nil))
      (pss_cons (ps_set (i := 2) scWordsOf.nd rfl (.inl rfl) (pe_call GB hr1 rfl mB kB bB .nil pass0 (pa_cons (pv 0) pa_nil)))
      (pss_cons (ps_while PassesOwn.never (pt_cmpR op_lt (pv 2) (pe_callB call_len (by rfl) G.len PySem.boot_len (pa_cons (pv 0) pa_nil)) (nomark _))
        (pss_cons (ps_set (i := 3) scWordsOf.nd rfl (.inl rfl) (pe_call GW hr rfl mW kW bW .nil pass0 (pa_cons (pv 0) (pa_cons (pv 2) pa_nil))))
        (pss_cons (ps_expr (pe_bm PySem.F.plainAttrs_list PySem.F.slot_list_append PySem.F.type_list_append mt_append (pv 1) (pa_cons (pe_tup (pa_cons (pe_call GK hr1 rfl mK kK bK .nil pass0 (pa_cons (pe_slice sl_str (pv 0) (po_some (pv 2)) (po_some (pv 3))) pa_nil)) (pa_cons (pe_slice sl_str (pv 0) (po_some (pv 2)) (po_some (pv 3))) (pa_cons (pe_op op_add (pv 2) pe_int) pa_nil)))) pa_nil)))
        (pss_cons (ps_if (pt_cmpR op_eq (pv 3) (pv 2) (nomark _)) (pss_one (ps_ret (pv 1))) pss_nil)
        (pss_one (ps_set (i := 2) scWordsOf.nd rfl (.inl rfl) (pe_op op_add (pv 3) (pe_call GB hr1 rfl mB kB bB .nil pass0 (pa_cons (pe_slice sl_str (pv 0) (po_some (pv 3)) po_none) pa_nil)))))))))
      (pss_cons (ps_expr (pe_bm PySem.F.plainAttrs_list PySem.F.slot_list_append PySem.F.type_list_append mt_append (pv 1) (pa_cons (pe_tup (pa_cons (pe_glob (v := .str "the row's end") rfl g3 ⟨_, rfl⟩) (pa_cons pe_str (pa_cons (pe_op op_add (pe_callB call_len (by rfl) G.len PySem.boot_len (pa_cons (pe_m1 PySem.F.slot_str_rstrip PySem.F.type_str_rstrip mt_rstripChars (pv 0) pe_str) pa_nil)) pe_int) pa_nil)))) pa_nil)))
      (pss_one (ps_ret (pv 1)))))), ?_⟩
    have hb := blanks_nn r
    obtain ⟨b0, hb0⟩ : ∃ b0 : Nat, blanksOf r = (b0 : Int) := ⟨(blanksOf r).toNat, by omega⟩
    refine q_asgL (xs := []) (el_lst ea_nil (by show 0 ≤ 100000; decide)) fun l H1 nl e1 h1 => ?_
    refine q_asg (v := .int (b0 : Nat)) (ev_is (ev_call (ea_cons (ev_var rfl) ea_nil) (sv_blanks hz)) (congrArg V.int hb0)) fun H2 e2 => ?_
    have hw0 : wordsOf r = [] ++ wordsGo r (r.length + 1) b0 := by
      show wordsGo r (r.length + 1) (blanksOf r).toNat = _
      rw [hb0]
      rfl
    refine q_while (fun k σ H' => ∃ (a : Nat) (ts : List Addr) (ws : List Wd) (v3 : Option V), a ≤ r.length ∧ Ex H H' ∧ σ = [some (.str r), some (.ref l), some (.int (a : Nat)), v3] ∧ H' l = some (.lst (ts.map V.ref)) ∧ WordsAre H' ts ws ∧ ts.length ≤ a ∧ r.length - a < k ∧ wordsOf r = ws ++ wordsGo r k a) (r.length + 1)
      ⟨b0, [], [], none, by omega, Ex.trans e1 e2, rfl, e2 _ _ h1, .nil, Nat.zero_le _, by omega, hw0⟩ ?_
    rintro k σ' H' ⟨a, ts, ws, v3, ha, x, rfl, hl, hW, hts, hk, hw⟩
    refine ⟨decide ((a : Int) < (r.length : Nat)), et_test (ev_op (ev_var rfl) (ev_lenS (ev_var rfl) hz) rv_I0), fun hc H3 e3 => ?_, fun hc H3 e3 => ?_⟩
    · have hlt : a < r.length := by have := of_decide_eq_true hc; omega
      have hle := endOfWord_le hlt
      cases k with
      | zero => omega
      | succ k =>
        have hw' : wordsOf r = ws ++ (⟨kindOf (cut r a (endOfWord r a)), cut r a (endOfWord r a), a + 1⟩ :: (if endOfWord r a = a then [] else wordsGo r k (nextAt r (endOfWord r a)))) := by
          rw [hw]
          show ws ++ (if a < r.length then _ else _) = _
          rw [if_pos hlt]
        refine ⟨fun σ2 H4 => ∃ (a : Nat) (ts : List Addr) (ws : List Wd) (v3 : Option V), a ≤ r.length ∧ Ex H H4 ∧ σ2 = [some (.str r), some (.ref l), some (.int (a : Nat)), v3] ∧ H4 l = some (.lst (ts.map V.ref)) ∧ WordsAre H4 ts ws ∧ ts.length ≤ a ∧ r.length - a < k ∧ wordsOf r = ws ++ wordsGo r k a, fun σ2 H4 z => ⟨k, Nat.lt_succ_self _, z⟩, ?_⟩
        refine q_asg (v := .int (endOfWord r a : Nat)) (ev_call (ea_cons (ev_var rfl) (ea_cons (ev_var rfl) ea_nil)) (sv_word hz hlt)) fun H4 e4 => ?_
        have hl4 := e4 _ _ (e3 _ _ hl)
        have hcz : (cut r a (endOfWord r a)).length ≤ 100000 := Nat.le_trans (cutS_length _ _ _) hz
        refine q_appU (ys := [.str (kindOf (cut r a (endOfWord r a))), .str (cut r a (endOfWord r a)), .int ((a : Int) + 1)]) hl4 (ev_var rfl) (eu_tup (ea_cons (ev_call (ea_cons (ev_cut (ev_var rfl) (eo_some (ev_var rfl)) (eo_some (ev_var rfl)) hz) ea_nil) (sv_kind hcz)) (ea_cons (ev_cut (ev_var rfl) (eo_some (ev_var rfl)) (eo_some (ev_var rfl)) hz) (ea_cons (ev_op (ev_var rfl) ev_c rv_I0) ea_nil))) (by show 3 ≤ 100000; decide)) (by rw [List.length_map]; omega) fun t H5 nt e5 ht => ?_
        have el5 : l ≠ t := ne_of_none hl4 nt
        have E5 : Ex H (upd H5 l (.lst (ts.map V.ref ++ [.ref t]))) := Ex.mut (Ex.trans (Ex.trans (Ex.trans x e3) e4) e5) nl
        have ht' : (upd H5 l (.lst (ts.map V.ref ++ [.ref t]))) t = some (.tup [.str (kindOf (cut r a (endOfWord r a))), .str (cut r a (endOfWord r a)), .int (((a + 1 : Nat)) : Int)]) := by
          rw [upd_ne (Ne.symm el5)]
          exact ht
        have hW5 : WordsAre (upd H5 l (.lst (ts.map V.ref ++ [.ref t]))) (ts ++ [t]) (ws ++ [⟨kindOf (cut r a (endOfWord r a)), cut r a (endOfWord r a), a + 1⟩]) := by
          refine WordsAre.snoc ?_ ht'
          refine Paired.mapP hW fun b z hb => ?_
          have hb2 := e5 _ _ (e4 _ _ (e3 _ _ hb))
          have : b ≠ l := fun y => by
            rw [y, e5 _ _ hl4] at hb2
            cases hb2
          rw [upd_ne this]
          exact hb2
        have hl5 : (upd H5 l (.lst (ts.map V.ref ++ [.ref t]))) l = some (.lst ((ts ++ [t]).map V.ref)) := by
          rw [upd_same, List.map_append]
          rfl
        refine q_when (b := decide (V.int (endOfWord r a : Nat) = V.int (a : Nat))) (et_test (ev_op (ev_var rfl) (ev_var rfl) (rv_eq rfl))) (fun hd H6 e6 => ?_) (fun hd H6 e6 => ?_)
        · have he : endOfWord r a = a := by
            have := of_decide_eq_true hd
            injection this with z
            exact Int.ofNat.inj z
          rw [if_pos he] at hw'
          refine s_ret (v := .ref l) (D := { nx := _, rt := Q, bk := _, ct := _ }) (ev_var rfl) fun H7 e7 => ?_
          exact q l (ts ++ [t]) H7 nl (Ex.trans (Ex.trans E5 e6) e7) (e7 _ _ (e6 _ _ hl5)) (by rw [hw']; exact WordsAre.mono (Ex.trans e6 e7) hW5)
        · have he : ¬ endOfWord r a = a := fun z => of_decide_eq_false hd (by rw [z])
          rw [if_neg he] at hw'
          have hn := nextAt_le hle.2
          have hcf := cut_from hle.2
          refine s_asg (v := .int (nextAt r (endOfWord r a) : Nat)) (ev_is (ev_op (ev_var rfl) (ev_call (ea_cons (ev_cut (ev_var rfl) (eo_some (ev_var rfl)) eo_none hz) ea_nil) (sv_blanks (by omega))) rv_I0) (congrArg V.int ?_)) fun H7 e7 => ?_
          · have := blanks_nn (cutS r (some ((endOfWord r a : Nat) : Int)) none)
            unfold nextAt
            omega
          · exact ⟨nextAt r (endOfWord r a), ts ++ [t], ws ++ [⟨kindOf (cut r a (endOfWord r a)), cut r a (endOfWord r a), a + 1⟩], _, hn.2, Ex.trans (Ex.trans E5 e6) e7, rfl, e7 _ _ (e6 _ _ hl5), WordsAre.mono (Ex.trans e6 e7) hW5, by rw [List.length_append]; show ts.length + 1 ≤ _; omega, by omega, by rw [hw', List.append_assoc]; rfl⟩
    · have hge : ¬ a < r.length := fun z => of_decide_eq_false hc (by omega)
      cases k with
      | zero => omega
      | succ k =>
        have hw' : wordsOf r = ws ++ [lastWd r] := by
          rw [hw]
          show ws ++ (if a < r.length then _ else [lastWd r]) = _
          rw [if_neg hge]
        have hl3 := e3 _ _ hl
        refine q_appU (ys := [.str "the row's end", .str "", .int (((Txt.rstripChars r " ").length : Nat) + 1)]) hl3 (ev_var rfl) (eu_tup (ea_cons ev_c (ea_cons ev_c (ea_cons (ev_op (ev_lenS (ev_rstrip (ev_var rfl) ev_c hz) (Nat.le_trans (rstrip_le _ _) hz)) ev_c rv_I0) ea_nil))) (by show 3 ≤ 100000; decide)) (by rw [List.length_map]; omega) fun t H5 nt e5 ht => ?_
        have el5 : l ≠ t := ne_of_none hl3 nt
        have E5 : Ex H (upd H5 l (.lst (ts.map V.ref ++ [.ref t]))) := Ex.mut (Ex.trans (Ex.trans x e3) e5) nl
        have hW5 : WordsAre (upd H5 l (.lst (ts.map V.ref ++ [.ref t]))) (ts ++ [t]) (ws ++ [lastWd r]) := by
          refine WordsAre.snoc ?_ (by rw [upd_ne (Ne.symm el5)]; exact ht)
          refine Paired.mapP hW fun b z hb => ?_
          have hb2 := e5 _ _ (e3 _ _ hb)
          have : b ≠ l := fun y => by
            rw [y, e5 _ _ hl3] at hb2
            cases hb2
          rw [upd_ne this]
          exact hb2
        refine s_ret (v := .ref l) (D := { nx := _, rt := Q }) (ev_var rfl) fun H7 e7 => ?_
        exact q l (ts ++ [t]) H7 nl (Ex.trans E5 e7) (e7 _ _ (by rw [upd_same, List.map_append]; rfl)) (by rw [hw']; exact WordsAre.mono e7 hW5)
end
end Prs
set_option Elab.async false
set_option linter.all false
set_option maxRecDepth 100000
set_option maxHeartbeats 4000000
/-! *s of a text; s.isidentifier(); list(d) of a dict of the top -/
namespace L2
open PySem PySem.Spec PyProof.Rows Evl
/-- the signs of a text, each a text of its own -/
def signsV (z : Str) : List V := z.cps.toList.map fun c => V.str ⟨#[c]⟩
theorem signs_vals : ∀ {cs : List Nat} {us : List Value}, us.length = cs.length → (∀ (j : Nat) (v : Value), us[j]? = some v → ∃ c t, cs[j]? = some c ∧ v = .str ⟨#[c]⟩ t) → Vals (cs.map fun c => V.str ⟨#[c]⟩) us
  | [], [], _, _ => .nil
  | c :: cs, u :: us, hl, h => by
    obtain ⟨d, t, e1, e2⟩ := h 0 u rfl
    obtain rfl : c = d := Option.some.inj e1
    exact .cons ⟨t, e2⟩ (signs_vals (Nat.succ.inj hl) fun j v e => h (j + 1) v e)
section
variable {X : Cx} {pins : List (Addr × Obj)} {σ : L2.St} {H : Hp} {s : Shared}
theorem star_txt {z : Str} {t : Tok} {E : Value → Shared → Prop} {Q : List Value → Shared → Prop} (hc : X.calm = true) (I : Inv X pins σ H s) (hz : z.length ≤ 100000) (hQ : ∀ us s', Inv X pins σ H s' → Vals (signsV z) us → Q us s') : PySem.W.StarOf (model X.prog X.w) X.A E (.str z t) Q s := by
  unfold PySem.W.StarOf notIterableAtAll
  refine wpAny_bind (wpAny_specialOf (T := "str") (v := .str z t) rfl PySem.F.slot_str_iter.lookup (wpAny_pure ⟨rfl, ?_⟩))
  refine wpAny_collect_str (I.ok.hd hc) z t (fun s' acc k g d o it => ?_) (sz_of hz)
  obtain ⟨hp, gn, dr, tk, os⟩ := s
  obtain ⟨hp', gn', dr', tk', os'⟩ := s'
  obtain rfl : gn' = gn := g
  obtain rfl : dr' = dr := d
  obtain rfl : os' = os := o
  refine hQ _ _ (I.kept (t' := tk') k) (signs_vals (by rw [Array.length_toList]; exact it.1) fun j v e => ?_)
  obtain ⟨c, u, h1, h2⟩ := it.2 j v (by rw [← Array.getElem?_toList]; exact e)
  exact ⟨c, u, by rw [Array.getElem?_toList]; exact h1, h2⟩
end
section
variable {X : Cx} {e : Expr} {es : List Expr} {te : TE} {t : TA} {p : Pos}
def tStarT (te : TE) (t : TA) : TA := fun σ H Q => te σ H fun x H1 => ∃ z, x = V.str z ∧ z.length ≤ 100000 ∧ t σ H1 fun ys H2 => Q (signsV z ++ ys) H2
theorem pa_starT (hc : X.calm = true) (he : PE X e te) (hr : PA X es t) (hs : starEach (.Starred e p :: es) X.env = (true, eval e X.env) :: starEach es X.env := by rfl) : PA X (.Starred e p :: es) (tStarT te t) :=
  ⟨fun pos pins s σ H Q I h => PySem.W.items_star (thn (he.run pins s σ H _ I h) fun v s1 ⟨y, H1, I1, ry, z, ey, hz, q⟩ => by
    subst ey
    obtain ⟨u, rfl⟩ := ry
    exact star_txt hc I1 hz fun us s2 I2 rv => thn (hr.run pos pins s2 σ H1 _ I2 q) fun ws s3 ⟨vs, H3, I3, r3, q3⟩ => ⟨signsV z ++ vs, H3, I3, rv.append r3, q3⟩) hs⟩
theorem mt_isident : MtR X "str.isidentifier" (fun x xs H Q => ∃ a, x = .str a ∧ xs = [] ∧ True ∧ Q (.bl (Txt.isidentifier a)) H) :=
  mt0 (C := fun _ => True) (g := fun a => .bl (Txt.isidentifier a)) fun _ _ s _ _ h => PySem.SC.isidentifier (h _ s.toks rfl)
end
end L2
set_option Elab.async false
set_option linter.all false
set_option maxRecDepth 100000
set_option maxHeartbeats 4000000
/-! a dict of the top that stays: its keys listed -/
namespace L2
open PySem PySem.Spec PyProof.Rows Evl
/-- the dict at a stays, and its keys are these texts -/
structure TopKeys (K : PySem.W.Frag) (w : World) (a : Addr) (ks : List Str) : Prop where
  of : ∃ es n, KDict K w a es n ∧ es.toList.map He.keyOf = He.keysIn w.params ks
theorem topKeys_of {K : PySem.W.Frag} {w : World} {a : Addr} {ks : List Str} (h : He.dicW K a = some (He.keysIn w.params ks)) : TopKeys K w a ks := by
  obtain ⟨es, n, D⟩ := He.dicW_ok h
  refine ⟨es, n, D, ?_⟩
  unfold He.dicW at h
  rw [D.at_] at h
  dsimp only at h
  split at h
  · exact Option.some.inj h
  · cases h
theorem key_parts {P : Params} : ∀ {es : List DictEntry} {ks : List Str}, es.map He.keyOf = He.keysIn P ks → ∀ (i : Nat) (e : DictEntry), es[i]? = some e → ∃ k t, ks[i]? = some k ∧ e.key = .str k t ∧ e.hash = PyData.keyHash P k
  | [], _, _, i, e, he => by simp at he
  | e1 :: es, [], h, _, _, _ => by cases h
  | e1 :: es, k1 :: ks, h, i, e, he => by
    have h1 : He.keyOf e1 :: es.map He.keyOf = some (k1, PyData.keyHash P k1) :: He.keysIn P ks := h
    injection h1 with h2 h3
    cases i with
    | zero =>
      obtain rfl : e1 = e := Option.some.inj he
      unfold He.keyOf at h2
      split at h2
      · rename_i x t q
        obtain ⟨h5, h6⟩ := Prod.mk.inj (Option.some.inj h2)
        subst h5
        exact ⟨x, t, rfl, q, h6⟩
      · cases h2
    | succ i => exact key_parts h3 i e he
end L2
namespace L2
open PySem PySem.Spec PyProof.Rows Evl
theorem kdict_pairs {P : Program} {w : World} : ∀ {es : List DictEntry} {ks : List Str}, es.map He.keyOf = He.keysIn w.params ks → ∃ kvs : List (Str × Value), kvs.map (·.1) = ks ∧ Pairs (strKind P w) es kvs
  | [], [], _ => ⟨[], rfl, .nil⟩
  | [], _ :: _, h => by cases h
  | _ :: _, [], h => by cases h
  | e :: es, k :: ks, h => by
    obtain ⟨x, t, e1, e2, e3⟩ := key_parts h 0 e rfl
    obtain rfl : k = x := Option.some.inj e1
    have h1 : He.keyOf e :: es.map He.keyOf = some (k, PyData.keyHash w.params k) :: He.keysIn w.params ks := h
    injection h1 with _ h3
    obtain ⟨kvs, g1, g2⟩ := kdict_pairs (P := P) h3
    exact ⟨(k, e.val) :: kvs, by rw [List.map_cons, g1], .cons (by rw [e2]; exact PySem.strKind_is P w k t) rfl g2⟩
theorem keys_vals {P : Program} {w : World} {kvs : List (Str × Value)} : ∀ {ks : List Str} {us : List Value}, us.length = ks.length → (∀ (j : Nat) (v : Value), us[j]? = some v → ∃ k, ks[j]? = some k ∧ (strKind P w).is k v = true) → Vals (ks.map V.str) us
  | [], [], _, _ => .nil
  | k :: ks, u :: us, hl, h => by
    obtain ⟨d, e1, e2⟩ := h 0 u rfl
    obtain rfl : k = d := Option.some.inj e1
    exact .cons (Value.isStrOf_shape e2) (keys_vals (P := P) (w := w) (kvs := kvs) (Nat.succ.inj hl) fun j v e => h (j + 1) v e)
section
variable {X : Cx}
/-- list(d), d a dict of the top that stays -/
theorem call_listTop {a : Addr} {ks : List Str} (hc : X.calm = true) (T : TopKeys X.K X.w a ks) (nd : ks.Nodup) (hz : ks.length ≤ 100000) : CallR X (.type "list") (fun xs H Q => xs = [.ref a] ∧ ∀ p, H p = none → Q (.ref p) (upd H p (.lst (ks.map V.str)))) := by
  intro pins s σ H xs us Q I r q
  obtain ⟨rfl, q⟩ := q
  obtain ⟨es, n, D, hk⟩ := T.of
  obtain ⟨kvs, g1, g2⟩ := kdict_pairs (P := X.prog) hk
  rw [Vals.ref1 r]
  have hl : kvs.length = ks.length := by rw [← g1, List.length_map]
  have at_ : s.heap.DictAt (strKind X.prog X.w) a kvs n := by
    refine ⟨_, es, I.kIn _ _ D.at_, ⟨rfl, rfl, rfl⟩, rfl, fun e he => ?_, g2, by rw [g1]; exact nd⟩
    obtain ⟨x, t, e1, e2⟩ := D.lit.all e (Array.mem_toList_iff.mpr he)
    exact ⟨x, by rw [e1]; exact PySem.strKind_is X.prog X.w x t, e2⟩
  refine PySem.W.kdl_call (PySem.W.kdl_dict (knd := strKind X.prog X.w) (kvs := kvs) (ep := n) D.low) (I.ok.hd hc) at_ (by rw [hl]; exact sz_of hz) fun h' tk acc c' kp hD it => ?_
  have hv : Vals (ks.map V.str) acc.toList := keys_vals (P := X.prog) (w := X.w) (kvs := kvs) (by rw [Array.length_toList, it.1, hl]) fun j v e => by
    obtain ⟨k, x, e1, e2⟩ := it.2 j v (by rw [← Array.getElem?_toList]; exact e)
    refine ⟨k, ?_, e2⟩
    rw [← g1, List.getElem?_map, e1]
    rfl
  exact ⟨.ref s.heap.objs.size, upd H s.heap.objs.size (.lst (ks.map V.str)), I.laid (t' := tk) kp (Nat.le_refl _) ⟨by rw [List.length_map]; exact sz_of hz, acc.toList, c', hv, by rw [Array.toArray_toList]; exact hD⟩, rfl, q _ (I.hok.fresh (Nat.le_refl _))⟩
end
end L2
set_option Elab.async false
set_option linter.all false
set_option maxRecDepth 100000
set_option maxHeartbeats 4000000
/-! s.translate(d), d a dict of the top from signs to texts of two signs and more -/
namespace L2
open PySem PySem.Spec PyProof.Rows Evl
open Builtin Builtin.Str
def entI (e : DictEntry) : Option (Int × Int × Str) := match e.key, e.val with
  | .int i _, .str z _ => some (i, e.hash, z)
  | _, _ => none
def entsI (Ls : List (Nat × Str)) : List (Option (Int × Int × Str)) := Ls.map fun p => some ((p.1 : Int), hashInt p.1, p.2)
/-- the dict at a stays: it leads from these signs to these texts -/
def topTabB (K : PySem.W.Frag) (a : Addr) (Ls : List (Nat × Str)) : Bool := match K.lookup a with
  | some ⟨.type c, none, .dict es _, sl⟩ => decide (c = "dict") && (sl.isEmpty && (!(a == sysModules) && decide (es.toList.map entI = entsI Ls)))
  | _ => false
structure TopTab (K : PySem.W.Frag) (a : Addr) (Ls : List (Nat × Str)) : Prop where
  of : ∃ es n, K.lookup a = some ⟨.type "dict", none, .dict es n, #[]⟩ ∧ (a == sysModules) = false ∧ es.toList.map entI = entsI Ls
theorem topTab_of {K : PySem.W.Frag} {a : Addr} {Ls : List (Nat × Str)} (h : topTabB K a Ls = true) : TopTab K a Ls := by
  unfold topTabB at h
  split at h
  · rename_i c es n sl hl
    simp only [Bool.and_eq_true, decide_eq_true_eq, Bool.not_eq_true'] at h
    obtain ⟨rfl, h2, h3, h4⟩ := h
    have e : sl = #[] := Array.isEmpty_iff.mp h2
    subst e
    exact ⟨es, n, hl, h3, h4⟩
  · cases h
def tabAt (Ls : List (Nat × Str)) (c : Nat) : Option Str := (Ls.find? fun p => decide (p.1 = c)).map (·.2)
def trOne (Ls : List (Nat × Str)) (c : Nat) : Str := (tabAt Ls c).getD ⟨#[c]⟩
/-- a text with its signs put so -/
def trTxt (Ls : List (Nat × Str)) (z : Str) : Str := ⟨(z.cps.toList.flatMap fun c => (trOne Ls c).cps.toList).toArray⟩
theorem ent_find : ∀ {es : List DictEntry} {Ls : List (Nat × Str)}, es.map entI = entsI Ls → ∀ c : Nat, (∀ z, tabAt Ls c = some z → ∃ t, (es.find? fun e => Value.isInt (c : Int) e.key).map (·.val) = some (.str z t)) ∧ (tabAt Ls c = none → (es.find? fun e => Value.isInt (c : Int) e.key).map (·.val) = none)
  | [], [], _, c => ⟨fun z h => by simp [tabAt] at h, fun _ => rfl⟩
  | [], _ :: _, h, _ => by cases h
  | _ :: _, [], h, _ => by cases h
  | e :: es, p :: Ls, h, c => by
    have h1 : entI e :: es.map entI = some ((p.1 : Int), hashInt p.1, p.2) :: entsI Ls := h
    injection h1 with h2 h3
    have ih := ent_find h3 c
    unfold entI at h2
    split at h2
    · rename_i i t z u q1 q2
      obtain ⟨a1, a2⟩ := Prod.mk.inj (Option.some.inj h2)
      obtain ⟨_, a3⟩ := Prod.mk.inj a2
      subst a1 a3
      have ek : Value.isInt (c : Int) e.key = decide (p.1 = c) := by
        rw [q1]
        show ((p.1 : Int) == (c : Int)) = decide (p.1 = c)
        by_cases hh : p.1 = c
        · subst hh
          simp
        · rw [decide_eq_false hh]
          exact beq_eq_false_iff_ne.mpr fun z => hh (by omega)
      unfold tabAt
      rw [List.find?_cons, List.find?_cons, ek]
      cases hb : decide (p.1 = c) with
      | true =>
        refine ⟨fun z hz => ⟨u, ?_⟩, fun hz => by cases hz⟩
        obtain rfl := Option.some.inj hz
        show some e.val = _
        rw [q2]
      | false => exact ih
    · cases h2
section
variable {P : Program} {w : World} {A : Around} {E : Value → Shared → Prop} {s : Shared} {d : Addr} {Ls : List (Nat × Str)}
/-- what the table tells of a sign -/
theorem look_tab {f : Int → Option Value} {c : Nat} {Q : Mapped → Shared → Prop} (noH : A.handled = none) (low : (d == sysModules) = false) (mp : s.heap.MapOf (intKind P w) d f) (ht : ∀ z, tabAt Ls c = some z → ∃ t, f (c : Int) = some (.str z t)) (hn : tabAt Ls c = none → f (c : Int) = none)
    (q1 : ∀ z, tabAt Ls c = some z → ∀ k, Q (.text z) { s with toks := k }) (q2 : tabAt Ls c = none → ∀ g k, (∀ b o, s.heap.get? b = some o → g.get? b = some o) → Q .keep { s with heap := g, toks := k }) : wpAny (model P w) A (tableLookup (.ref d) c) Q E s := by
  unfold tableLookup
  refine wpAny_bind (wpAny_attempt (wpAny_bind (wpAny_mkInt ?_)))
  cases hc : tabAt Ls c with
  | some z =>
    obtain ⟨t, e⟩ := ht z hc
    refine wpAny_getItem_of (knd := intKind P w) (k := (c : Int)) (by simp [intKind, Value.isInt]) mp e ?_
    show wpAny _ _ (do let o ← asInt? (Value.str z t); _) _ _ _
    refine wpAny_bind (wpAny_of_eq (a := none) rfl ?_)
    show wpAny _ _ (do let o ← asStr? (Value.str z t); _) _ _ _
    refine wpAny_bind (wpAny_of_eq (a := some z) rfl ?_)
    exact wpAny_pure (q1 z hc _)
  | none =>
    refine wpAny_getItem_missing_of (knd := intKind P w) (k := (c : Int)) (by simp [intKind, Value.isInt]) low noH mp (hn hc) fun g x hx => ?_
    obtain ⟨ob, t, ho, hcl, _⟩ := hx.there
    show wpAny _ _ (do let yes ← isInstance (.ref x) (.type "LookupError"); _) _ _ _
    refine wpAny_bind (wpAny_isInstance (T := "KeyError") (b := true) ⟨ob, ho, hcl⟩ PySem.key_is_lookup ?_)
    show wpAny _ _ (if true = true then (do rule "str.translate.not-in-table"; pure Mapped.keep) else _) _ _ _
    rw [if_pos rfl]
    exact wpAny_bind (wpAny_rule (wpAny_pure (q2 hc g _ hx.keeps)))
end
end L2
set_option Elab.async false
set_option linter.all false
set_option maxRecDepth 100000
set_option maxHeartbeats 4000000
namespace L2
open PySem PySem.Spec PyProof.Rows Evl
open Builtin Builtin.Str
def cpsOf (ps : List Str) : List Nat := ps.flatMap fun p => p.cps.toList
theorem cps_fold : ∀ (ps : List Str) (acc : Array Nat), ps.foldl (fun u (p : Str) => u ++ p.cps) acc = acc ++ (cpsOf ps).toArray
  | [], acc => by
    show acc = acc ++ #[]
    rw [Array.append_empty]
  | p :: ps, acc => by
    rw [List.foldl_cons, cps_fold ps]
    apply Array.toList_inj.mp
    simp [cpsOf]
/-- where the walk over the signs stands -/
structure TrSt (Ls : List (Nat × Str)) (x : List Nat) (s : Shared) (rest : List Nat) (pieces : List Str) (total : Nat) (known : List (Nat × Option Nat)) (past : List Nat) (g : Heap) : Prop where
  cut : x = past ++ rest
  tot : total ≤ 100 * past.length
  got : cpsOf pieces.reverse = past.flatMap fun c => (trOne Ls c).cps.toList
  kn : ∀ c a, List.lookup c known = some a → a = some c ∧ tabAt Ls c = none
  kp : ∀ b o, s.heap.get? b = some o → g.get? b = some o
def TrIn (Ls : List (Nat × Str)) (x : List Nat) (s : Shared) (rest : List Nat) (st : List Str × Nat × Bool × List (Nat × Option Nat) × Bool) (s' : Shared) : Prop :=
  ∃ pieces total fast known past g k, st = (pieces, total, fast, known, false) ∧ s' = { s with heap := g, toks := k } ∧ TrSt Ls x s rest pieces total known past g
theorem TrSt.next {Ls : List (Nat × Str)} {x rest past : List Nat} {s : Shared} {c total m : Nat} {pieces : List Str} {known kn2 : List (Nat × Option Nat)} {g g2 : Heap} (h : TrSt Ls x s (c :: rest) pieces total known past g) {z : Str} (hz : trOne Ls c = z) (hm : m ≤ 100)
    (hk : ∀ c a, List.lookup c kn2 = some a → a = some c ∧ tabAt Ls c = none) (hg : ∀ b o, g.get? b = some o → g2.get? b = some o) : TrSt Ls x s rest (z :: pieces) (total + m) kn2 (past ++ [c]) g2 := by
  refine ⟨by rw [h.cut, List.append_assoc]; rfl, ?_, ?_, hk, fun b o e => hg b o (h.kp b o e)⟩
  · have := h.tot
    rw [List.length_append, List.length_singleton]
    omega
  · rw [List.reverse_cons, List.flatMap_append, ← h.got]
    simp [cpsOf, hz]
theorem known_new {Ls : List (Nat × Str)} {c : Nat} {known : List (Nat × Option Nat)} (h : ∀ c a, List.lookup c known = some a → a = some c ∧ tabAt Ls c = none) (hn : tabAt Ls c = none) : ∀ c' a, List.lookup c' ((c, some c) :: known) = some a → a = some c' ∧ tabAt Ls c' = none := fun c' a z => by
  rw [List.lookup_cons] at z
  by_cases e : c' = c
  · subst e
    rw [beq_self_eq_true] at z
    exact ⟨(Option.some.inj z).symm, hn⟩
  · rw [beq_eq_false_iff_ne.mpr e] at z
    exact h c' a z
theorem trOne_no {Ls : List (Nat × Str)} {c : Nat} (h : tabAt Ls c = none) : trOne Ls c = ⟨#[c]⟩ := by
  unfold trOne
  rw [h]
  rfl
theorem trOne_yes {Ls : List (Nat × Str)} {c : Nat} {z : Str} (h : tabAt Ls c = some z) : trOne Ls c = z := by
  unfold trOne
  rw [h]
  rfl
theorem tabAt_mem {Ls : List (Nat × Str)} {c : Nat} {z : Str} (h : tabAt Ls c = some z) : ∃ p ∈ Ls, p.2 = z := by
  unfold tabAt at h
  cases hf : Ls.find? fun p => decide (p.1 = c) with
  | none =>
    rw [hf] at h
    cases h
  | some p =>
    rw [hf] at h
    exact ⟨p, List.mem_of_find?_eq_some hf, Option.some.inj h⟩
def okTab (Ls : List (Nat × Str)) : Bool := Ls.all fun p => decide (2 ≤ p.2.length) && decide (p.2.length ≤ 100)
theorem okTab_at {Ls : List (Nat × Str)} (h : okTab Ls = true) {c : Nat} {z : Str} (hc : tabAt Ls c = some z) : 2 ≤ z.length ∧ z.length ≤ 100 := by
  obtain ⟨p, hp, rfl⟩ := tabAt_mem hc
  have := List.all_eq_true.mp h p hp
  simpa using this
theorem cps_len {Ls : List (Nat × Str)} (h : okTab Ls = true) : ∀ x : List Nat, (x.flatMap fun c => (trOne Ls c).cps.toList).length ≤ 100 * x.length
  | [] => by simp
  | c :: x => by
    have ih := cps_len h x
    have h1 : (trOne Ls c).cps.toList.length ≤ 100 := by
      cases hc : tabAt Ls c with
      | none => rw [trOne_no hc]; show 1 ≤ 100; decide
      | some z => rw [trOne_yes hc]; exact (okTab_at h hc).2
    simp only [List.flatMap_cons, List.length_append, List.length_cons]
    omega
theorem meets_trans {P : Program} {w : World} (z : Str) (t : Tok) (d : Addr) (Ls : List (Nat × Str)) (ok : okTab Ls = true) (low : (d == sysModules) = false) (hz : z.length ≤ 100000) : MeetsIn P w («str.translate» ⟨[.str z t, .ref d], []⟩) (fun A R s =>
    A.handled = none ∧ (∃ f, s.heap.MapOf (intKind P w) d f ∧ ∀ c : Nat, (∀ y, tabAt Ls c = some y → ∃ t, f (c : Int) = some (.str y t)) ∧ (tabAt Ls c = none → f (c : Int) = none)) ∧
      ∀ (v : Value) (g : Heap) (k : Nat), (∀ b o, s.heap.get? b = some o → g.get? b = some o) → (∃ u, v = .str (trTxt Ls z) u) → R (.ok (.ret v)) { s with heap := g, toks := k }) := by
  refine .of_wp fun A R s h => ?_
  obtain ⟨noH, ⟨f, mp, hf⟩, h⟩ := h
  have noH1 : A.in1.handled = none := noH
  show wpAny _ _ (if (z.length == 0) = true then (do rule "str.translate.empty"; ret (.str z t)) else (do
    let st ← forIn z.cps (([], 0, z.cps.all fun y => decide (y < 128), [], false) : List Str × Nat × Bool × List (Nat × Option Nat) × Bool) _
    _)) _ _ s
  by_cases h0 : (z.length == 0) = true
  · rw [if_pos h0]
    have e : trTxt Ls z = z := by
      have hl : z.cps.toList = [] := List.eq_nil_of_length_eq_zero (beq_iff_eq.mp h0)
      unfold trTxt
      rw [hl]
      obtain ⟨⟨l⟩⟩ := z
      cases hl
      rfl
    exact wpAny_bind (wpAny_rule (wpAny_pure ⟨_, rfl, h _ s.heap s.toks (fun _ _ e => e) ⟨t, by rw [e]⟩⟩))
  · rw [if_neg h0]
    generalize (z.cps.all fun y => decide (y < 128)) = fast0
    refine wpAny_bind (MeetsSeq2.wpAny_forIn_array _ (TrIn Ls z.cps.toList s) _ (fun c rest st s' hI => ?turn) (fun st s' hI => ?fin) z.cps ([], 0, fast0, [], false) ?h0)
    case h0 => exact ⟨[], 0, fast0, [], [], s.heap, s.toks, rfl, rfl, ⟨rfl, by simp, rfl, fun c a q => by simp at q, fun _ _ e => e⟩⟩
    case turn =>
      obtain ⟨pieces, total, fast, known, past, g, k, rfl, rfl, T⟩ := hI
      have hpl : past.length ≤ 100000 := by
        have q := congrArg List.length T.cut
        rw [List.length_append] at q
        have : z.cps.toList.length = z.length := rfl
        omega
      have ht := T.tot
      have mp' : ({ s with heap := g, toks := k } : Shared).heap.MapOf (intKind P w) d f := PySem.mapOf_keeps mp T.kp
      -- the slow road, from any heap that keeps what was there
      have slow : ∀ (g1 : Heap) (k1 : Nat), (∀ b o, g.get? b = some o → g1.get? b = some o) → ∀ F : Mapped → Sem (ForInStep (List Str × Nat × Bool × List (Nat × Option Nat) × Bool)),
          (∀ y, tabAt Ls c = some y → F (.text y) = pure (.yield (y :: pieces, total + y.length, false, known, false))) → (tabAt Ls c = none → F .keep = pure (.yield ((⟨#[c]⟩ : Str) :: pieces, total + 1, false, known, false))) →
          wpAny (model P w) A.in1 (tableLookup (.ref d) c >>= F) (fun r s' => match r with
            | .yield st => TrIn Ls z.cps.toList s rest st s'
            | .done st => False) (fun e s' => R (.error e) s') { s with heap := g1, toks := k1 } := fun g1 k1 kp1 F F1 F2 => by
        have mp1 : ({ s with heap := g1, toks := k1 } : Shared).heap.MapOf (intKind P w) d f := PySem.mapOf_keeps mp' kp1
        refine wpAny_bind (look_tab noH1 low mp1 (hf c).1 (hf c).2 (fun y hy k2 => ?_) (fun hn g2 k2 kp2 => ?_))
        · rw [F1 y hy]
          exact wpAny_pure ⟨_, _, _, _, _, g1, k2, rfl, rfl, T.next (trOne_yes hy) (okTab_at ok hy).2 T.kn kp1⟩
        · rw [F2 hn]
          exact wpAny_pure ⟨_, _, _, _, _, g2, k2, rfl, rfl, T.next (trOne_no hn) (by decide) T.kn fun b o e => kp2 b o (kp1 b o e)⟩
      show wpAny _ _ (if tooLong total = true then _ else (if fast = true then _ else _)) _ _ _
      rw [show tooLong total = false from PyProof.Rows.short24 (by omega), if_neg Bool.false_ne_true]
      cases fast with
      | false =>
        rw [if_neg Bool.false_ne_true]
        show wpAny _ _ (if false = true then _ else _) _ _ _
        rw [if_neg Bool.false_ne_true]
        refine wpAny_mono (slow g k (fun _ _ e => e) _ (fun y _ => rfl) (fun _ => rfl)) (fun r s' q => ?_) (fun _ _ q => q)
        cases r with
        | yield st => exact q
        | done st => exact q.elim
      | true =>
        rw [if_pos rfl]
        cases hl : List.lookup c known with
        | some a =>
          obtain ⟨rfl, hn⟩ := T.kn c a hl
          refine wpAny_bind (wpAny_pure ?_)
          exact wpAny_pure ⟨_, _, _, _, _, g, k, rfl, rfl, T.next (trOne_no hn) (by decide) T.kn fun _ _ e => e⟩
        | none =>
          refine wpAny_bind (look_tab noH1 low mp' (hf c).1 (hf c).2 (fun y hy k2 => ?_) (fun hn g2 k2 kp2 => ?_))
          · have hy2 := (okTab_at ok hy).1
            have e1 : (y.length == 1 && y.cps.all fun q => decide (q < 128)) = false := by
              rw [show (y.length == 1) = false from beq_eq_false_iff_ne.mpr (by omega)]
              rfl
            dsimp only
            rw [e1, if_neg Bool.false_ne_true]
            refine wpAny_bind (wpAny_pure ?_)
            dsimp only
            refine wpAny_bind (wpAny_rule ?_)
            show wpAny _ _ (if false = true then _ else _) _ _ _
            rw [if_neg Bool.false_ne_true]
            refine wpAny_mono (slow g k2 (fun _ _ e => e) _ (fun y _ => rfl) (fun _ => rfl)) (fun r s' q => ?_) (fun _ _ q => q)
            cases r with
            | yield st => exact q
            | done st => exact q.elim
          · refine wpAny_bind (wpAny_pure ?_)
            exact wpAny_pure ⟨_, _, _, _, _, g2, k2, rfl, rfl, T.next (trOne_no hn) (by decide) (known_new T.kn hn) kp2⟩
    case fin =>
      obtain ⟨pieces, total, fast, known, past, g, k, rfl, rfl, T⟩ := hI
      have hp : z.cps.toList = past := by rw [T.cut, List.append_nil]
      have ht := T.tot
      have hl : past.length ≤ 100000 := by rw [← hp]; exact hz
      show wpAny _ _ (if tooLong total = true then _ else retStr { cps := List.foldl (fun acc (p : Str) => acc ++ p.cps) #[] pieces.reverse }) _ _ _
      rw [show tooLong total = false from PyProof.Rows.short24 (by omega), if_neg Bool.false_ne_true, cps_fold, T.got, ← hp]
      have ev : (⟨#[] ++ (z.cps.toList.flatMap fun c => (trOne Ls c).cps.toList).toArray⟩ : Str) = trTxt Ls z := by
        rw [Array.empty_append]
        rfl
      rw [ev]
      refine wpAny_bind (wpAny_mkStr (wpAny_pure ⟨_, rfl, h _ g _ T.kp ⟨_, rfl⟩⟩) ?_)
      show ((z.cps.toList.flatMap fun c => (trOne Ls c).cps.toList).toArray).size ≤ sizeLine
      have := cps_len ok z.cps.toList
      rw [hp] at this
      rw [List.size_toArray, sizeLine_eq, hp]
      omega
end L2
set_option Elab.async false
set_option linter.all false
set_option maxRecDepth 100000
set_option maxHeartbeats 4000000
namespace L2
open PySem PySem.Spec PyProof.Rows Evl
open Builtin Builtin.Str
theorem ent_keys : ∀ {es : List DictEntry} {Ls : List (Nat × Str)}, es.map entI = entsI Ls → ∀ e ∈ es, ∃ c : Int, Value.isInt c e.key = true ∧ e.hash = hashInt c
  | [], _, _, e, he => by cases he
  | _ :: _, [], h, _, _ => by cases h
  | e :: es, p :: Ls, h, u, hu => by
    have h1 : entI e :: es.map entI = some ((p.1 : Int), hashInt p.1, p.2) :: entsI Ls := h
    injection h1 with h2 h3
    rcases List.mem_cons.mp hu with q | q
    · subst q
      unfold entI at h2
      split at h2
      · rename_i i t z v q1 q2
        obtain ⟨a1, a2⟩ := Prod.mk.inj (Option.some.inj h2)
        obtain ⟨a3, _⟩ := Prod.mk.inj a2
        refine ⟨p.1, ?_, a3⟩
        rw [q1, a1]
        show ((p.1 : Int) == p.1) = true
        exact beq_self_eq_true _
      · cases h2
    · exact ent_keys h3 u q
section
variable {X : Cx} {d : Addr} {Ls : List (Nat × Str)}
/-- z.translate(d) -/
theorem mt_transTop (hc : X.calm = true) (T : TopTab X.K d Ls) (ok : okTab Ls = true) : MtR X "str.translate" (fun x xs H Q => ∃ z : Str, x = .str z ∧ xs = [.ref d] ∧ z.length ≤ 100000 ∧ Q (.str (trTxt Ls z)) H) := by
  intro pins s σ H x xs v us Q I rx rs h
  obtain ⟨z, rfl, rfl, hz, h⟩ := h
  obtain ⟨t, rfl⟩ := rx
  obtain ⟨es, n, hl, low, he⟩ := T.of
  rw [Vals.ref1 rs]
  refine call_meetsIn F.slot_str_translate (typeIs_str _ _ _) F.entry_str_translate (F.args_str_translate_2 _ _) (meets_trans z t d Ls ok low hz) ⟨I.ok.hd hc, ⟨fun k => findBy (intKind X.prog X.w).is es k, ⟨_, es, n, I.kIn _ _ hl, ⟨rfl, rfl, rfl⟩, rfl, fun e hm => ?_, fun _ => rfl⟩, fun c => ?_⟩, ?_⟩
  · exact ent_keys he e (Array.mem_toList_iff.mpr hm)
  · obtain ⟨l⟩ := es
    have q := ent_find he c
    unfold findBy
    dsimp only
    rw [List.find?_toArray]
    exact q
  · intro v g k kp ⟨u, e⟩
    subst e
    exact ⟨.str _, H, I.kept (t' := k) kp, ⟨u, rfl⟩, h⟩
end
end L2
set_option Elab.async false
set_option linter.all false
set_option maxRecDepth 100000
set_option maxHeartbeats 4000000
/-! a field as one of several targets; a dict made over a list -/
namespace L2
open PySem PySem.Spec PyProof.Rows Evl
section
variable {X : Cx} {o : Expr} {f : Str} {pos : Pos} {ta : TE}
/-- o.f as a target -/
def gFld (K : PySem.W.Frag) (ta : TE) (f : Str) : TG := fun v σ H Q => ta σ H fun x H1 => ∃ a C dx fs, x = .ref a ∧ H1 a = some (.ins C dx fs) ∧ Cls K C ∧ NoAttr K C f ∧ fs.length < 1000 ∧ Q σ (upd H1 a (.ins C dx (putF f v fs)))
theorem pg_fld (ho : PE X o ta) : PG X (.Attribute o f pos) (gFld X.K ta f) := by
  refine ⟨fun pins s σ H v u Q I r h => ?_⟩
  rw [assign_Attribute]
  refine wpAny_bind (wpAny_holding (thn (ho.run pins s σ H _ I h) fun w s1 ⟨x, H1, I1, r1, a, C, dx, fs, ex, ea, c, n, l, q⟩ => ?_))
  subst ex
  obtain rfl : w = Value.ref a := r1
  refine wpAny_bind (wpAny_standAt (wpAny_bind (wpAny_holding (setattr_ok I1 ea c n l r fun s2 I2 => ?_))))
  exact wpAny_release ⟨σ, _, I2, q⟩
end
/-- a dict made over a list that stays -/
theorem dc_lst {K : PySem.W.Frag} {a : Addr} {xs : List V} {g : TG} {tt : TT} {tk tv : TE} {vs : List Nat} {σ : St} {H1 : Hp} {D : Addr} {Z : Hp → Prop} (B : Nat → Hp → Prop) (b0 : B 0 (upd H1 D (.dK []))) (bl : ∀ i H, i ≤ xs.length → B i H → SqL K H a xs)
    (bs : ∀ i x H, xs[i]? = some x → B i H → g x (wipe σ vs) H fun σ2 H2 => wipe σ2 vs = wipe σ vs ∧ tt σ2 H2 fun b H3 =>
      if b = true then tk σ2 H3 fun y H4 => tv σ2 H4 fun z H5 => ∃ kvs k, y = kV k ∧ H5 D = some (.dK kvs) ∧ kvs.length < sizeLine ∧ B (i + 1) (upd H5 D (.dK (putK kvs k z))) else B (i + 1) H3) (bz : ∀ H, B xs.length H → Z H) :
    ∃ W : Nat → Nat → Hp → Prop, (∃ m, W 0 m (upd H1 D (.dK []))) ∧ ∀ i m H, W i m H →
      ((Itl K a).stop i H ∧ Z H) ∨ ((Itl K a).go i H ∧ ∃ Nx : Hp → Prop, (∀ H', Nx H' → ∃ m', m' < m ∧ W (i + 1) m' H') ∧ ∀ x H', (Itl K a).yld i H x H' → g x (wipe σ vs) H' fun σ2 H2 => wipe σ2 vs = wipe σ vs ∧ tt σ2 H2 fun b H3 =>
        if b = true then tk σ2 H3 fun y H4 => tv σ2 H4 fun z H5 => ∃ kvs k, y = kV k ∧ H5 D = some (.dK kvs) ∧ kvs.length < sizeLine ∧ Nx (upd H5 D (.dK (putK kvs k z))) else Nx H3) := by
  refine ⟨fun i m H => m + i = xs.length ∧ B i H, ⟨xs.length, rfl, b0⟩, fun i m H h => ?_⟩
  obtain ⟨hm, hb⟩ := h
  have hl := bl i H (by omega) hb
  rcases Nat.lt_or_ge i xs.length with hlt | hge
  · exact .inr ⟨⟨xs, xs[i], hl, List.getElem?_eq_getElem hlt⟩, B (i + 1), fun H' b => ⟨m - 1, by omega, by omega, b⟩, fun x H' ⟨e, y⟩ => by
      subst e
      exact bs i x _ (y xs hl) hb⟩
  · obtain rfl : i = xs.length := by omega
    exact .inl ⟨⟨xs, hl, Nat.le_refl _⟩, bz H hb⟩
end L2
set_option Elab.async false
set_option linter.all false
set_option maxRecDepth 100000
set_option maxHeartbeats 4000000
namespace Prs
open PySem PySem.Spec PyProof.Rows L2 Evl
abbrev sIsName : Stmt := top 10
abbrev sWhole : Stmt := top 28
abbrev sKnownW : Stmt := top 27
abbrev sQuick : Stmt := top 29
/-! ### the mirror of the quick road -/
def isNameM (t : Str) : Bool := !(decide ((8 : Int) < ((t.length : Nat) : Int)) || inV (.str t) (KEYS.map V.str)) && (Txt.isascii t && (Txt.isidentifier t && (Txt.isalnum t && Txt.islower t)))
def isNumM (t : Str) : Bool := Txt.isdigit t && (decide (((t.length : Nat) : Int) ≤ 9) && (!decide (V.str ⟨#[signAt t 0]⟩ = V.str "0") || decide (V.str t = V.str "0")))
def wholeM (t : Str) : Option Str := if isNameM t then some "a name" else if isNumM t then some "a number" else none
def strV : Option Str → V
  | none => .non
  | some k => .str k
/-- what the top has for the quick road -/
structure Gq (K : PySem.W.Frag) (w : World) (mg : Str → Option Value) : Prop where
  isi : mg "isinstance" = none
  str : mg "str" = none
  list : mg "list" = none
  keys : ∃ a, mg "KEYWORDS" = some (.ref a) ∧ TopKeys K w a KEYS
section
variable {P : Program} {w : World} {K : PySem.W.Frag} {mg : Str → Option Value} {base : Heap}
def spIsName : Sp := fun vs H Q _ => ∃ t : Str, vs = [.str t] ∧ t.length ≤ 100000 ∧ RetV (.bl (isNameM t)) H Q
theorem scIsName : FnScope ["thing"] ["thing"] (defScope sIsName) := ⟨rfl, rfl, rfl, by decide +kernel, rfl, by decide +kernel, by decide +kernel⟩
theorem boot_strT : bootBuiltins "str" = some (.type "str") := by decide +kernel
theorem ev_isStr {σ : L2.St} {H : Hp} {te tf : TE} {z : Str} (h : Ev te σ H (.str z)) (h2 : Ev tf σ H (.ty "str")) : Ev (tCB (rIsi K) (tCons te (tCons tf tNil))) σ H (.bl true) := fun H1 e Q q => (ea_cons h (ea_cons h2 ea_nil) : EvA _ _ H [.str z, .ty "str"]) H1 e _ fun H2 e2 => ⟨.str z, .ty "str", .type "str", .type "str", true, rfl, .ty "str", .base (.str z), kit_ty (by decide +kernel), q H2 e2⟩
theorem ev_m0b {σ : L2.St} {H : Hp} {te : TE} {z : Str} {g : Str → Bool} (h : Ev te σ H (.str z)) : Ev (tM0 (fun x xs H Q => ∃ a, x = .str a ∧ xs = [] ∧ True ∧ Q (.bl (g a)) H) te) σ H (.bl (g z)) := fun H1 e Q q => h H1 e _ fun H2 e2 => ⟨⟨z, rfl⟩, z, rfl, rfl, trivial, q H2 e2⟩
theorem ok_isName {f : Addr} {fd : FuncData} (F : Fun K "is_name" "is_name" sIsName f fd) (G : Gn K mg) (Gz : Gq K w mg) (GK : KSet K w mg "KEYWORDS" (KEYS.map V.str)) : FnOk P w K mg base CX0 1 f fd ["thing"] spIsName := by
  obtain ⟨_, gS⟩ := G.mostS
  obtain ⟨ak, ek, nk, gK, dK, hK⟩ := GK
  refine F.ok scIsName (fun vs H Q E h => ?_) (fun cdv A outer s0 H vs Q E hr h => ?_)
  · obtain ⟨t, rfl, _⟩ := h
    rfl
  · obtain ⟨t, rfl, hz, q⟩ := h
    refine ⟨_, pss_cons (ps_if (PW.pt (pw_or (pt_not (pt_val (pe_callB call_isi (by rfl) Gz.isi PyProof.Rows.boot_isinstance (pa_cons (pv 0) (pa_cons (pe_bltn (v := .ty "str") (by rfl) Gz.str boot_strT rfl) pa_nil))))) (pw_or (pt_cmpR op_gt (pe_callB call_len (by rfl) G.len PySem.boot_len (pa_cons (pv 0) pa_nil)) (pe_glob (v := .int 8) rfl gS ⟨_, rfl⟩) (nomark _)) (pw_or1 (pt_cmpR (op_in_kd dK) (pv 0) (pe_glob (v := .ref ak) rfl gK rfl) (by rfl)))))) (pss_one (ps_ret pe_bl)) pss_nil)
      (pss_one (ps_ret (pe_and (pe_m0 PySem.F.slot_str_isascii PySem.F.type_str_isascii mt_isascii (pv 0)) (pe_and (pe_m0 PySem.F.slot_str_isidentifier PySem.F.type_str_isidentifier mt_isident (pv 0)) (pe_and (pe_m0 PySem.F.slot_str_isalnum PySem.F.type_str_isalnum mt_isalnum (pv 0)) (pe_one (pe_m0 PySem.F.slot_str_islower PySem.F.type_str_islower mt_islower (pv 0)))))))), ?_⟩
    refine q_when (b := false || (decide ((8 : Int) < ((t.length : Nat) : Int)) || inV (.str t) (KEYS.map V.str))) (et_or (et_is (et_not (et_B (ev_isStr (ev_var rfl) ev_c))) rfl) fun _ => et_or (et_test (ev_op (ev_lenS (ev_var rfl) hz) ev_c rv_I0)) fun _ => et_test (ev_op (ev_var rfl) ev_c (rv_inK hK))) (fun hb H1 e1 => ?_) (fun hb H1 e1 => ?_)
    · refine s_ret (v := .bl false) (D := { nx := _, rt := Q }) ev_c fun H2 e2 => ?_
      rw [Bool.false_or] at hb
      have : isNameM t = false := by unfold isNameM; rw [hb]; rfl
      rw [this] at q
      exact q.go (e1.trans e2)
    · rw [Bool.false_or] at hb
      refine s_ret (v := .bl (isNameM t)) (D := { nx := _, rt := Q }) (ev_is (ev_andV (ev_m0b (g := Txt.isascii) (ev_var rfl)) fun _ => ev_andV (ev_m0b (g := Txt.isidentifier) (ev_var rfl)) fun _ => ev_andV (ev_m0b (g := Txt.isalnum) (ev_var rfl)) fun _ => ev_m0b (g := Txt.islower) (ev_var rfl)) ?_) fun H2 e2 => q.go (e1.trans e2)
      unfold isNameM
      rw [hb]
      rfl
def spWhole : Sp := fun vs H Q _ => ∃ t : Str, vs = [.str t] ∧ t.length ≤ 100000 ∧ RetV (strV (wholeM t)) H Q
theorem scWhole : FnScope ["text"] ["text"] (defScope sWhole) := ⟨rfl, rfl, rfl, by decide +kernel, rfl, by decide +kernel, by decide +kernel⟩
theorem sv_isName {t : Str} {H : Hp} (h : t.length ≤ 100000) : SpV spIsName [.str t] H (.bl (isNameM t)) := fun H1 e Q q E => ⟨t, rfl, h, fun H2 e2 => q H2 e2⟩
theorem digit_pos {t : Str} (h : Txt.isdigit t = true) : 0 < t.length := by
  refine Nat.pos_of_ne_zero fun z => ?_
  have : t = "" := by
    obtain ⟨⟨l⟩⟩ := t
    have : l = [] := List.eq_nil_of_length_eq_zero z
    subst this
    rfl
  rw [this] at h
  exact absurd h (by decide +kernel)
theorem ok_whole {f fN : Addr} {fd fdN : FuncData} (F : Fun K "kind_of_whole" "kind_of_whole" sWhole f fd) (GN : FnOk P w K mg base CX0 1 fN fdN ["thing"] spIsName) (bN : Binds K fdN ["thing"] []) (kN : PySem.W.keepIn K (.ref fN) = true) (mN : mg "is_name" = some (.ref fN)) (G : Gn K mg) :
    FnOk P w K mg base CX0 2 f fd ["text"] spWhole := by
  obtain ⟨_, g1⟩ := G.kName
  obtain ⟨_, g2⟩ := G.kNumber
  obtain ⟨_, gF⟩ := G.mostF
  refine F.ok scWhole (fun vs H Q E h => ?_) (fun cdv A outer s0 H vs Q E hr h => ?_)
  · obtain ⟨t, rfl, _⟩ := h
    rfl
  · obtain ⟨t, rfl, hz, q⟩ := h
    refine ⟨_, pss_cons (ps_if (pt_val (pe_call GN hr rfl mN kN bN .nil pass0 (pa_cons (pv 0) pa_nil))) (pss_one (ps_ret (pe_glob (v := .str "a name") rfl g1 ⟨_, rfl⟩))) pss_nil)
      (pss_cons (ps_if (PW.pt (pw_and (pt_val (pe_m0 PySem.F.slot_str_isdigit PySem.F.type_str_isdigit mt_isdigit (pv 0))) (pw_and (pt_cmpR op_le (pe_callB call_len (by rfl) G.len PySem.boot_len (pa_cons (pv 0) pa_nil)) (pe_glob (v := .int 9) rfl gF ⟨_, rfl⟩) (nomark _)) (pw_and1 (PW.pt (pw_or (pt_cmpR op_ne (pe_ix ix_str (pv 0) pe_int (fun _ _ => rfl)) pe_str (nomark _)) (pw_or1 (pt_cmpR op_eq (pv 0) pe_str (nomark _))))))))) (pss_one (ps_ret (pe_glob (v := .str "a number") rfl g2 ⟨_, rfl⟩))) pss_nil)
      (pss_one (ps_ret pe_non))), ?_⟩
    unfold wholeM at q
    refine q_when (et_B (ev_call (ea_cons (ev_var rfl) ea_nil) (sv_isName hz))) (fun hb H1 e1 => ?_) (fun hb H1 e1 => ?_)
    · simp only [hb, if_true] at q
      exact s_ret (v := .str "a name") (D := { nx := _, rt := Q }) ev_c fun H2 e2 => q.go (e1.trans e2)
    simp only [hb, Bool.false_eq_true, if_false] at q
    refine q_when (b := isNumM t) (et_and (et_B (ev_m0b (g := Txt.isdigit) (ev_var rfl))) fun hd => et_and (et_test (ev_op (ev_lenS (ev_var rfl) hz) ev_c rv_I0)) fun _ => et_or (et_test (ev_op (ev_op (ev_var rfl) (ev_c (v := .int ((0 : Nat) : Int))) (rv_sign hz (digit_pos hd))) ev_c (rv_ne rfl))) fun _ => et_test (ev_op (ev_var rfl) ev_c (rv_eq rfl))) (fun hc H2 e2 => ?_) (fun hc H2 e2 => ?_)
    · simp only [hc, if_true] at q
      exact s_ret (v := .str "a number") (D := { nx := _, rt := Q }) ev_c fun H3 e3 => q.go ((e1.trans e2).trans e3)
    simp only [hc, Bool.false_eq_true, if_false] at q
    exact s_ret (v := .non) (D := { nx := _, rt := Q }) ev_c fun H3 e3 => q.go ((e1.trans e2).trans e3)
end
end Prs
set_option Elab.async false
set_option linter.all false
set_option maxRecDepth 100000
set_option maxHeartbeats 4000000
namespace Prs
open PySem PySem.Spec PyProof.Rows L2 Evl
def MRKS : List Str := ["(", ")", "+", "-", "<", "=", ","]
def OWN : List Str := KEYS ++ MRKS
def PART : List (Nat × Str) := [(40, " ( "), (41, " ) "), (43, " + "), (44, " , "), (45, " - "), (60, " < "), (61, " = ")]
def kindW (t : Str) : Option Str := if decide (t ∈ OWN) then some t else wholeM t
def kindsM : List Str → Option (List Str)
  | [] => some []
  | t :: ts => match kindW t with
    | none => none
    | some k => match kindsM ts with
      | none => none
      | some ks => some (k :: ks)
/-- the kinds and the texts, where they can be told so -/
def quickM (r : Str) : Option (List Str × List Str) := if !Txt.isascii r || !Txt.isprintable r then none else match kindsM (Txt.words (trTxt PART r)) with
  | none => none
  | some ks => some (ks ++ (["the row's end"] : List Str), Txt.words (trTxt PART r) ++ ([""] : List Str))
theorem kinds_snoc : ∀ {a : List Str} {ks : List Str} {t k : Str}, kindsM a = some ks → kindW t = some k → kindsM (a ++ [t]) = some (ks ++ [k])
  | [], ks, t, k, h, hk => by
    obtain rfl := Option.some.inj h
    show (match kindW t with | none => none | some k => match kindsM [] with | none => none | some ks => some (k :: ks)) = _
    rw [hk]
    rfl
  | u :: a, ks, t, k, h, hk => by
    have h1 : (match kindW u with | none => none | some k => match kindsM a with | none => none | some ks => some (k :: ks)) = some ks := h
    show (match kindW u with | none => none | some k => match kindsM (a ++ [t]) with | none => none | some ks => some (k :: ks)) = _
    cases hu : kindW u with
    | none => rw [hu] at h1; cases h1
    | some v =>
      rw [hu] at h1
      dsimp only at h1 ⊢
      cases ha : kindsM a with
      | none => rw [ha] at h1; cases h1
      | some zs =>
        rw [ha] at h1
        obtain rfl := Option.some.inj h1
        rw [kinds_snoc ha hk]
        rfl
theorem kinds_none : ∀ {a : List Str} {t : Str}, t ∈ a → kindW t = none → kindsM a = none
  | u :: a, t, h, hk => by
    show (match kindW u with | none => none | some k => match kindsM a with | none => none | some ks => some (k :: ks)) = _
    rcases List.mem_cons.mp h with q | q
    · subst q
      rw [hk]
    · rw [kinds_none q hk]
      cases kindW u <;> rfl
/-- the kinds that are known: right ones, those of the words that are their own kinds among them -/
structure KnOk (kvs : List (Key × V)) : Prop where
  snd : ∀ (t : Str) (v : V), valV kvs (.inr t) = some v → ∃ k, v = .str k ∧ kindW t = some k
  own : ∀ t : Str, t ∈ OWN → valV kvs (.inr t) = some (.str t)
theorem KnOk.put {kvs : List (Key × V)} (h : KnOk kvs) {t k : Str} (hn : valV kvs (.inr t) = none) (hk : kindW t = some k) : KnOk (putK kvs (.inr t) (.str k)) := by
  refine ⟨fun u v e => ?_, fun u hu => ?_⟩
  · rw [valV_put] at e
    split at e
    · rename_i z
      obtain rfl := Option.some.inj e
      obtain rfl : u = t := Sum.inr.inj z
      exact ⟨k, rfl, hk⟩
    · exact h.snd u v e
  · rw [valV_put, if_neg]
    · exact h.own u hu
    · intro z
      obtain rfl : u = t := Sum.inr.inj z
      rw [h.own u hu] at hn
      cases hn
theorem KnOk.new {kvs : List (Key × V)} (h : KnOk kvs) {t : Str} (hn : valV kvs (.inr t) = none) : kindW t = wholeM t := by
  unfold kindW
  rw [if_neg]
  intro z
  rw [h.own t (of_decide_eq_true z)] at hn
  cases hn
section
variable {P : Program} {w : World} {K : PySem.W.Frag} {mg : Str → Option Value} {base : Heap}
def spKnown : Sp := fun vs H Q _ => vs = [] ∧ ∀ d kvs H', H d = none → Ex H H' → H' d = some (.dK kvs) → KnOk kvs → kvs.length ≤ 31 → Q (.ref d) H'
theorem scKnown : FnScope ["word"] [] (defScope sKnownW) := ⟨rfl, rfl, rfl, by decide +kernel, rfl, by decide +kernel, by decide +kernel⟩
theorem own_eq : KEYS.map V.str ++ (signsV MRK ++ []) = OWN.map V.str := by decide +kernel
theorem own_kind {t : Str} (h : t ∈ OWN) : kindW t = some t := by
  unfold kindW
  rw [if_pos (decide_eq_true h)]
structure KnAt (H2 : Hp) (D : Addr) (i : Nat) (H : Hp) : Prop where
  ex : Ex H2 H
  at_ : ∃ kvs, H D = some (.dK kvs) ∧ kvs.length ≤ i ∧ (∀ (t : Str) (v : V), valV kvs (.inr t) = some v → v = .str t ∧ t ∈ OWN) ∧ ∀ t : Str, t ∈ OWN.take i → valV kvs (.inr t) = some (.str t)
theorem KnAt.put {H2 H : Hp} {D : Addr} {i : Nat} {t : Str} (h : KnAt H2 D i H) (n : H2 D = none) (ht : OWN[i]? = some t) : ∃ kvs, H D = some (.dK kvs) ∧ kvs.length < sizeLine ∧ KnAt H2 D (i + 1) (L2.upd H D (.dK (putK kvs (.inr t) (.str t)))) := by
  obtain ⟨kvs, h1, h2, h3, h4⟩ := h.at_
  have hi : i < OWN.length := (List.getElem?_eq_some_iff.mp ht).1
  have ho : OWN.length = 31 := by decide +kernel
  refine ⟨kvs, h1, sz_lt (by omega), Ex.mut h.ex n, _, upd_same, ?_, fun u v e => ?_, fun u hu => ?_⟩
  · have := length_putK kvs (.inr t) (.str t)
    omega
  · rw [valV_put] at e
    split at e
    · rename_i z
      obtain rfl := Option.some.inj e
      obtain rfl : u = t := Sum.inr.inj z
      exact ⟨rfl, List.mem_of_getElem? ht⟩
    · exact h3 u v e
  · rw [valV_put]
    by_cases z : (Sum.inr u : Key) = .inr t
    · rw [if_pos z]
      obtain rfl : u = t := Sum.inr.inj z
      rfl
    · rw [if_neg z]
      rw [List.take_add_one, ht] at hu
      rcases List.mem_append.mp hu with q | q
      · exact h4 u q
      · exact absurd (by rw [List.mem_singleton.mp q]) z
theorem ok_known {f : Addr} {fd : FuncData} (F : Fun K "known_words" "known_words" sKnownW f fd) (G : Gn K mg) (Gz : Gq K w mg) : FnOk P w K mg base CX0 1 f fd [] spKnown := by
  obtain ⟨_, gM⟩ := G.marks
  obtain ⟨aK, gK, TK⟩ := Gz.keys
  refine F.ok scKnown (fun vs H Q E h => ?_) (fun cdv A outer s0 H vs Q E hr h => ?_)
  · obtain ⟨rfl, _⟩ := h
    rfl
  · obtain ⟨rfl, q⟩ := h
    refine ⟨_, pss_one (ps_ret (pe_dc (tk := tVar 0) (tv := tVar 0) (own := [("word", 0)]) (g := gName 0) (tt := tYes) rfl scKnown.nd (pi_list (pe_lst (StX.pa_star (pe_callTy (call_listTop rfl TK (by decide +kernel) (by decide +kernel)) rfl Gz.list rfl (pa_cons (pe_glob (v := .ref aK) rfl gK rfl) pa_nil)) (pa_starT rfl (pe_glob (v := .str MRK) rfl gM ⟨_, rfl⟩) pa_nil)))) (blkOk_by (N := ["word"]) (sc := defScope sKnownW) (by decide +kernel)) (fun _ _ _ _ _ => pg_name (i := 0) scKnown.nd rfl (Or.inl rfl)) (fun _ _ _ _ _ => pts_nil) (fun _ _ _ _ _ => pv 0) (fun _ _ _ _ _ => pv 0))), ?_⟩
    refine ⟨rfl, fun p1 n1 => ⟨p1, KEYS.map V.str, rfl, .inr (sq_of upd_same), MRK, rfl, by decide, by rw [own_eq, List.length_map]; exact sz_of (by decide +kernel), fun p2 n2 => ?_⟩⟩
    rw [own_eq]
    have e1 := Ex.new (o := .lst (KEYS.map V.str)) n1
    have e2 := Ex.new (o := .lst (OWN.map V.str)) n2
    refine ⟨p2, rfl, ⟨_, sq_of upd_same⟩, fun D nD => ?_⟩
    have hD : H D = none := fresh_back (e1.trans e2) nD
    have h2 : (L2.upd (L2.upd H p1 (.lst (KEYS.map V.str))) p2 (.lst (OWN.map V.str))) p2 = some (.lst (OWN.map V.str)) := upd_same
    have e12 := e1.trans e2
    revert nD h2 e12
    generalize (L2.upd (L2.upd H p1 (.lst (KEYS.map V.str))) p2 (.lst (OWN.map V.str))) = H2
    intro nD h2 e12
    refine dc_lst (xs := OWN.map V.str) (fun i H' => KnAt H2 D i H') ⟨Ex.new nD, [], upd_same, Nat.le_refl _, (fun _ _ h => by cases h), (fun _ h => by cases h)⟩ (fun i H' _ z => sq_of (z.ex _ _ h2)) (fun i x H' hx z => ?_) (fun H' z => ?_)
    · rw [List.getElem?_map] at hx
      cases ht : OWN[i]? with
      | none => rw [ht] at hx; cases hx
      | some t =>
        rw [ht] at hx
        obtain rfl := Option.some.inj hx
        obtain ⟨kvs, k1, k2, k3⟩ := z.put nD ht
        refine ⟨rfl, ?_⟩
        unfold tYes
        dsimp only
        rw [if_pos rfl]
        exact ⟨.str t, rfl, .str t, rfl, kvs, .inr t, rfl, k1, k2, k3⟩
    · obtain ⟨kvs, h1, hl, h3, h4⟩ := z.at_
      rw [List.length_map] at hl h4
      exact q D kvs H' hD (e12.trans z.ex) h1 ⟨fun t v e => by
        obtain ⟨rfl, hm⟩ := h3 t v e
        exact ⟨t, rfl, own_kind hm⟩, fun t hm => h4 t (by rw [List.take_length]; exact hm)⟩ (Nat.le_trans hl (by decide +kernel))
end
end Prs
set_option Elab.async false
set_option linter.all false
set_option maxRecDepth 100000
set_option maxHeartbeats 4000000
namespace Prs
open PySem PySem.Spec PyProof.Rows L2 Evl
/-- all but the object at p stands -/
def Fr (p : Addr) (H H' : Hp) : Prop := ∀ b o, b ≠ p → H b = some o → H' b = some o
theorem Fr.refl (p : Addr) (H : Hp) : Fr p H H := fun _ _ _ h => h
theorem Fr.trans {p : Addr} {H H1 H2 : Hp} (a : Fr p H H1) (b : Fr p H1 H2) : Fr p H H2 := fun x o n h => b x o n (a x o n h)
theorem Fr.ex {p : Addr} {H H' : Hp} (e : Ex H H') : Fr p H H' := fun x o _ h => e x o h
theorem Fr.upd {p : Addr} {H H' : Hp} {o : HO} (e : Fr p H H') : Fr p H (upd H' p o) := fun x u n h => by
  rw [upd_ne n]
  exact e x u n h
theorem ne_old {H : Hp} {a b : Addr} {o : HO} (h : H a = some o) (n : H b = none) : b ≠ a := fun z => by
  rw [z, h] at n
  cases n
theorem fr_none {p a : Addr} {H H' : Hp} (f : Fr p H H') (n : a ≠ p) (h : H' a = none) : H a = none := by
  cases e : H a with
  | none => rfl
  | some o =>
    rw [f a o n e] at h
    cases h
theorem part_ok : okTab PART = true := by decide +kernel
theorem part_one (c : Nat) : (trOne PART c).cps.toList.length ≤ 3 := by
  cases h : tabAt PART c with
  | none => rw [trOne_no h]; show 1 ≤ 3; decide
  | some z =>
    rw [trOne_yes h]
    obtain ⟨p, hp, rfl⟩ := tabAt_mem h
    have : (PART.all fun p => decide (p.2.cps.toList.length ≤ 3)) = true := by decide +kernel
    exact of_decide_eq_true (List.all_eq_true.mp this p hp)
theorem part_cps : ∀ x : List Nat, (x.flatMap fun c => (trOne PART c).cps.toList).length ≤ 3 * x.length
  | [] => by simp
  | c :: x => by
    have ih := part_cps x
    have h1 := part_one c
    simp only [List.flatMap_cons, List.length_append, List.length_cons]
    omega
theorem part_len (r : Str) : (trTxt PART r).length ≤ 3 * r.length := by
  show ((r.cps.toList.flatMap fun c => (trOne PART c).cps.toList).toArray).size ≤ 3 * r.length
  rw [List.size_toArray]
  exact part_cps _
theorem words_many {r : Str} (h : r.length ≤ 10000) : (Txt.words (trTxt PART r)).length ≤ 15001 := by
  have h1 := part_len r
  have h2 := PyProof.Rows.fact_words (trTxt PART r)
  omega
theorem words_len {r t : Str} (h : r.length ≤ 10000) (ht : t ∈ Txt.words (trTxt PART r)) : t.length ≤ 100000 := by
  have h1 := part_len r
  have h2 := PyProof.Rows.word_short ht
  omega
section
variable {K : PySem.W.Frag} {σ : L2.St} {H : Hp} {te tf : TE}
theorem ev_trans {aP : Addr} {z : Str} (h : Ev te σ H (.str z)) (hz : z.length ≤ 100000) : Ev (tM1 (fun x xs H Q => ∃ y : Str, x = .str y ∧ xs = [.ref aP] ∧ y.length ≤ 100000 ∧ Q (.str (trTxt PART y)) H) te (tC (.ref aP))) σ H (.str (trTxt PART z)) := fun H1 e Q q => h H1 e _ fun H2 e2 => ⟨⟨z, rfl⟩, z, rfl, rfl, hz, q H2 e2⟩
theorem el_words {z : Str} (h : Ev te σ H (.str z)) (hz : z.length ≤ 99000) : EvL (tM0 (fun x xs H Q => ∃ a, x = .str a ∧ xs = [] ∧ a.length + 2 ≤ sizeLine ∧ rNewStrs (Txt.words a) H Q) te) σ H ((Txt.words z).map V.str) := fun H1 e Q q =>
  h H1 e _ fun H2 e2 => ⟨⟨z, rfl⟩, z, rfl, rfl, sz_of (by omega), fun p np => q p _ (fresh_back e2 np) (e2.trans (Ex.new np)) upd_same⟩
end
def QuickV (H H' : Hp) (v : V) : Option (List Str × List Str) → Prop
  | none => v = .non
  | some (ks, ts) => ∃ a kl tl, v = .ref a ∧ H' a = some (.tup [.ref kl, .ref tl]) ∧ H' kl = some (.lst (ks.map V.str)) ∧ H' tl = some (.lst (ts.map V.str)) ∧ H kl = none ∧ H tl = none
section
variable {P : Program} {w : World} {K : PySem.W.Frag} {mg : Str → Option Value} {base : Heap}
def spQuick : Sp := fun vs H Q _ => ∃ (r : Str) (kd : Addr) (kvs : List (Key × V)), vs = [.str r, .ref kd] ∧ r.length ≤ 10000 ∧ H kd = some (.dK kvs) ∧ KnOk kvs ∧ kvs.length ≤ 16000000 ∧
  ∀ v H' kvs', Fr kd H H' → H' kd = some (.dK kvs') → KnOk kvs' → kvs'.length ≤ kvs.length + 30000 → QuickV H H' v (quickM r) → Q v H'
theorem scQuick : FnScope ["row", "known", "texts", "kinds", "text", "kind"] ["row", "known"] (defScope sQuick) := ⟨rfl, rfl, rfl, by decide +kernel, rfl, by decide +kernel, by decide +kernel⟩
theorem sv_whole {t : Str} {H : Hp} (h : t.length ≤ 100000) : SpV spWhole [.str t] H (strV (wholeM t)) := fun H1 e Q q E => ⟨t, rfl, h, fun H2 e2 => q H2 e2⟩
theorem rv_none {x : V} {H : Hp} : RV (fun x y H Q => y = .non ∧ Q (.bl (decide (x = .non))) H) x .non H (.bl (decide (x = .non))) := fun H1 _ _ q => ⟨rfl, q H1 (Ex.refl H1)⟩
structure QkAt (H : Hp) (kd tl D : Addr) (n : Nat) (ts : List Str) (i : Nat) (H' : Hp) : Prop where
  fr : Fr kd H H'
  kn : ∃ kvs, H' kd = some (.dK kvs) ∧ KnOk kvs ∧ kvs.length ≤ n + i
  ks : ∃ ks, kindsM (ts.take i) = some ks ∧ H' D = some (.lst (ks.map V.str)) ∧ ks.length = i
  tx : H' tl = some (.lst (ts.map V.str))
theorem QkAt.ex {H H1 H2 : Hp} {kd tl D : Addr} {n i : Nat} {ts : List Str} (h : QkAt H kd tl D n ts i H1) (e : Ex H1 H2) : QkAt H kd tl D n ts i H2 := by
  obtain ⟨f, ⟨kvs, a, b, c⟩, ⟨ks, d, g, l⟩, t⟩ := h
  exact ⟨f.trans (Fr.ex e), ⟨kvs, e _ _ a, b, c⟩, ⟨ks, d, e _ _ g, l⟩, e _ _ t⟩
theorem ok_quick {f fW aP : Addr} {fd fdW : FuncData} (F : Fun K "quick_words" "quick_words" sQuick f fd) (GW : FnOk P w K mg base CX0 2 fW fdW ["text"] spWhole) (bW : Binds K fdW ["text"] []) (kW : PySem.W.keepIn K (.ref fW) = true) (mW : mg "kind_of_whole" = some (.ref fW)) (G : Gn K mg) (gP : mg "PARTED" = some (.ref aP)) (TP : TopTab K aP PART) :
    FnOk P w K mg base CX0 3 f fd ["row", "known"] spQuick := by
  obtain ⟨_, gE⟩ := G.kEnd
  refine F.ok scQuick (fun vs H Q E h => ?_) (fun cdv A outer s0 H vs Q E hr h => ?_)
  · obtain ⟨r, kd, kvs, rfl, _⟩ := h
    rfl
  · obtain ⟨r, kd, kvs, rfl, hz, hkd, ok, hn, q⟩ := h
    refine ⟨_, pss_cons (ps_if (PW.pt (pw_or (pt_not (pt_val (pe_m0 PySem.F.slot_str_isascii PySem.F.type_str_isascii mt_isascii (pv 0)))) (pw_or1 (pt_not (pt_val (pe_m0 PySem.F.slot_str_isprintable PySem.F.type_str_isprintable mt_isprintable (pv 0))))))) (pss_one (ps_ret pe_non)) pss_nil)
      (pss_cons (ps_set (i := 2) scQuick.nd rfl (.inl rfl) (pe_m0 PySem.F.slot_str_split PySem.F.type_str_split mt_words (pe_m1 PySem.F.slot_str_translate PySem.F.type_str_translate (mt_transTop rfl TP part_ok) (pv 0) (pe_glob (v := .ref aP) rfl gP rfl))))
      (pss_cons (ps_set (i := 3) scQuick.nd rfl (.inl rfl) (pe_lst pa_nil))
      (pss_cons (ps_for PassesOwn.never rfl (pi_list (pv 2)) (pg_name (i := 4) scQuick.nd rfl (.inl rfl))
        (pss_cons (ps_set (i := 5) scQuick.nd rfl (.inl rfl) (pe_dget1 (hu_of hr) (pv 1) (pv 4) ⟨rfl, by rfl, rfl, rfl⟩))
        (Evl.pss_cut (ps_if (pt_cmpR op_isN (pv 5) pe_non (nomark _))
          (pss_cons (ps_set (i := 5) scQuick.nd rfl (.inl rfl) (pe_call GW hr rfl mW kW bW .nil pass0 (pa_cons (pv 4) pa_nil)))
          (pss_cons (ps_if (pt_cmpR op_isN (pv 5) pe_non (nomark _)) (pss_one (ps_ret pe_non)) pss_nil)
          (pss_one (ps_dput (hu_of hr) (pv 1) (pv 4) (pv 5) rfl)))) pss_nil)
        (pss_one (ps_expr (pe_bm PySem.F.plainAttrs_list PySem.F.slot_list_append PySem.F.type_list_append mt_append (pv 3) (pa_cons (pv 5) pa_nil)))))))
      (pss_one (ps_ret (pe_tup (pa_cons (pe_lst (StX.pa_star (pv 3) (pa_cons (pe_glob (v := .str "the row's end") rfl gE ⟨_, rfl⟩) pa_nil))) (pa_cons (pe_lst (StX.pa_star (pv 2) (pa_cons pe_str pa_nil))) pa_nil)))))))), ?_⟩
    unfold quickM at q
    refine q_when (b := !Txt.isascii r || !Txt.isprintable r) (et_or (et_not (et_B (ev_m0b (g := Txt.isascii) (ev_var rfl)))) fun _ => et_not (et_B (ev_m0b (g := Txt.isprintable) (ev_var rfl)))) (fun hb H1 e1 => ?_) (fun hb H1 e1 => ?_)
    · simp only [hb, if_true] at q
      exact s_ret (v := .non) (D := { nx := _, rt := Q }) ev_c fun H2 e2 => q .non H2 kvs (Fr.ex (e1.trans e2)) (e2 _ _ (e1 _ _ hkd)) ok (by omega) rfl
    simp only [hb, Bool.false_eq_true, if_false] at q
    generalize hts : Txt.words (trTxt PART r) = ts at q
    have hmany : ts.length ≤ 15001 := by rw [← hts]; exact words_many hz
    have hlen : ∀ t ∈ ts, t.length ≤ 100000 := fun t ht => words_len hz (by rw [hts]; exact ht)
    have hz3 := part_len r
    refine q_asgL (xs := ts.map V.str) (by rw [← hts]; exact el_words (ev_trans (ev_var rfl) (by omega)) (by omega)) fun tl H2 ntl e2 htl => ?_
    refine q_asgL (xs := []) (el_lst ea_nil (by show 0 ≤ 100000; decide)) fun D H3 nD e3 hD => ?_
    have e13 := (e1.trans e2).trans e3
    have ntl0 : H tl = none := fresh_back e1 ntl
    have nD0 : H D = none := fresh_back (e1.trans e2) nD
    have tlk : tl ≠ kd := ne_old hkd ntl0
    have Dk : D ≠ kd := ne_old hkd nD0
    have Dtl : D ≠ tl := ne_old htl nD
    refine q_forLn (K := K) (a := tl) (xs := ts.map V.str) (ev_var rfl) (sq_of (e3 _ _ htl)) (fun i σ H' => QkAt H kd tl D kvs.length ts i H' ∧ ∃ v4 v5, σ = [some (.str r), some (.ref kd), some (.ref tl), some (.ref D), v4, v5]) (fun H4 e4 => ⟨⟨Fr.ex (e13.trans e4), ⟨kvs, e4 _ _ (e13 _ _ hkd), ok, Nat.le_refl _⟩, ⟨[], rfl, e4 _ _ hD, rfl⟩, e4 _ _ (e3 _ _ htl)⟩, none, none, rfl⟩) (fun i σ' H' _ z => sq_of z.1.tx) (fun i x σ' H' hx z => ?_) (fun σ' H' z => ?_)
    · obtain ⟨a, v4, v5, rfl⟩ := z
      rw [List.getElem?_map] at hx
      cases ht : ts[i]? with
      | none => rw [ht] at hx; cases hx
      | some t =>
        rw [ht] at hx
        obtain rfl := Option.some.inj hx
        have hi := (List.getElem?_eq_some_iff.mp ht).1
        have hm := List.mem_of_getElem? ht
        have hl := hlen t hm
        obtain ⟨kv1, k1, k2, k3⟩ := a.kn
        -- known.get(text)
        refine ⟨.ref kd, rfl, kd, rfl, .inl ⟨_, .inl k1⟩, .str t, rfl, _, DGet.k (k := Sum.inr t) k1, ?_⟩
        refine Evl.q_cut (M := fun σ2 H2 => ∃ k, kindW t = some k ∧ σ2 = [some (.str r), some (.ref kd), some (.ref tl), some (.ref D), some (.str t), some (.str k)] ∧ Fr kd H H2 ∧ (∃ kvs', H2 kd = some (.dK kvs') ∧ KnOk kvs' ∧ kvs'.length ≤ kvs.length + (i + 1)) ∧ (∃ ks, kindsM (ts.take i) = some ks ∧ H2 D = some (.lst (ks.map V.str)) ∧ ks.length = i) ∧ H2 tl = some (.lst (ts.map V.str))) ?_ ?_
        · cases hg : valV kv1 (.inr t) with
          | some v =>
            obtain ⟨k, rfl, hk⟩ := k2.snd t v hg
            show tIfS _ _ _ _ [some (.str r), some (.ref kd), some (.ref tl), some (.ref D), some (.str t), some (.str k)] H'
            refine s_when (b := decide (V.str k = .non)) (et_test (ev_op (ev_var rfl) ev_c rv_none)) (fun h => by cases h) fun _ H4 e4 => ?_
            have b := a.ex e4
            obtain ⟨kv2, l1, l2, l3⟩ := b.kn
            exact ⟨k, hk, rfl, b.fr, ⟨kv2, l1, l2, by omega⟩, b.ks, b.tx⟩
          | none =>
            have hw := k2.new hg
            show tIfS _ _ _ _ [some (.str r), some (.ref kd), some (.ref tl), some (.ref D), some (.str t), some .non] H'
            refine s_when (b := decide (V.non = V.non)) (et_test (ev_op (ev_var rfl) ev_c rv_none)) (fun _ H4 e4 => ?_) (fun h => by cases h)
            refine q_asg (v := strV (wholeM t)) (ev_call (ea_cons (ev_var rfl) ea_nil) (sv_whole hl)) fun H5 e5 => ?_
            have b := a.ex (e4.trans e5)
            cases hh : wholeM t with
            | none =>
              refine q_when (b := decide (V.non = V.non)) (et_test (ev_op (ev_var rfl) ev_c rv_none)) (fun _ H6 e6 => ?_) (fun h => by cases h)
              rw [kinds_none hm (by rw [hw, hh])] at q
              have c := b.ex e6
              refine s_ret (v := .non) ev_c fun H7 e7 => ?_
              have d := c.ex e7
              obtain ⟨kv2, l1, l2, l3⟩ := d.kn
              exact q .non H7 kv2 d.fr l1 l2 (by omega) rfl
            | some k =>
              refine q_when (b := decide (V.str k = .non)) (et_test (ev_op (ev_var rfl) ev_c rv_none)) (fun h => by cases h) fun _ H6 e6 => ?_
              have c := b.ex e6
              obtain ⟨kv2, l1, l2, l3⟩ := c.kn
              have g2 : valV kv2 (.inr t) = none := by
                have l0 := e6 _ _ (e5 _ _ (e4 _ _ k1))
                rw [l1] at l0
                injection l0 with l0
                injection l0 with l0
                subst l0
                exact hg
              obtain ⟨ks, m1, m2, m3⟩ := c.ks
              refine ⟨.str k, rfl, .ref kd, rfl, .str t, rfl, kd, _, rfl, DPut.k (k := Sum.inr t) l1 (by rw [sizeLine_eq]; omega), k, by rw [hw, hh], rfl, c.fr.upd, ⟨_, upd_same, l2.put g2 (by rw [hw, hh]), ?_⟩, ⟨ks, m1, by rw [upd_ne Dk]; exact m2, m3⟩, by rw [upd_ne tlk]; exact c.tx⟩
              have := length_putK kv2 (.inr t) (.str k)
              omega
        · rintro σ2 H2 ⟨k, hk, rfl, f2, ⟨kv2, l1, l2, l3⟩, ⟨ks, m1, m2, m3⟩, tx⟩
          refine ⟨.ref D, rfl, .inl ⟨rfl, _, sq_of m2⟩, .str k, rfl, D, _, _, rfl, rfl, m2, sz_lt (by rw [List.length_map]; omega), ⟨fun b o nb ho => ?_, ⟨kv2, by rw [upd_ne (Ne.symm Dk)]; exact l1, l2, l3⟩, ⟨ks ++ [k], ?_, by rw [upd_same, List.map_append]; rfl, by rw [List.length_append, m3]; rfl⟩, by rw [upd_ne (Ne.symm Dtl)]; exact tx⟩, _, _, rfl⟩
          · rw [upd_ne (fun z => by rw [z, nD0] at ho; cases ho)]
            exact f2 b o nb ho
          · rw [List.take_add_one, ht]
            exact kinds_snoc m1 hk
    · obtain ⟨a, v4, v5, rfl⟩ := z
      rw [List.length_map] at a
      obtain ⟨kv1, k1, k2, k3⟩ := a.kn
      obtain ⟨ks, m1, m2, m3⟩ := a.ks
      rw [List.take_length] at m1
      rw [m1] at q
      refine ⟨.ref D, rfl, D, _, rfl, .inr (sq_of m2), by rw [List.length_append, List.length_map]; exact sz_of (by simp; omega), fun kl nkl => ?_⟩
      have e5 := Ex.new (o := .lst (ks.map V.str ++ [V.str "the row's end"])) nkl
      refine ⟨.ref tl, rfl, tl, _, rfl, .inr (sq_of (e5 _ _ a.tx)), by rw [List.length_append, List.length_map]; exact sz_of (by simp; omega), fun tl2 ntl2 => ?_⟩
      have e6 := Ex.new (o := .lst (ts.map V.str ++ [V.str ""])) ntl2
      refine ⟨by show 2 ≤ sizeLine; exact sz_of (by decide), fun T nT => ?_⟩
      have e7 := Ex.new (o := .tup [.ref kl, .ref tl2]) nT
      have f5 := a.fr.trans (Fr.ex ((e5.trans e6).trans e7))
      have klk : kl ≠ kd := ne_old k1 nkl
      have tlk2 : tl2 ≠ kd := ne_old (e5 _ _ k1) ntl2
      refine q _ _ kv1 f5 (e7 _ _ (e6 _ _ (e5 _ _ k1))) k2 (by omega) ⟨T, kl, tl2, rfl, upd_same, ?_, ?_, fr_none a.fr klk nkl, fr_none (a.fr.trans (Fr.ex e5)) tlk2 ntl2⟩
      · rw [e7 _ _ (e6 _ _ upd_same), List.map_append]
        rfl
      · rw [e7 _ _ upd_same, List.map_append]
        rfl
end
end Prs
set_option Elab.async false
set_option linter.all false
set_option maxRecDepth 100000
set_option maxHeartbeats 4000000
namespace L2
open PySem PySem.Spec PyProof.Rows
/-- raise X(a, b): what the error's dict holds -/
theorem made2x {K : PySem.W.Frag} {C : Addr} {f g : Str} {y z : V} {H : Hp} {Q : XK} (T : OexC K C) (nf : PySem.W.findIn K (.ref C) f = some none) (ng : PySem.W.findIn K (.ref C) g = some none) {E : XK}
    (h : ∀ d H', (∀ b o, H b = some o → H' b = some o) → H' d = some (.xd [(g, z), (f, y)]) → Q (.ref C) (some d) H') (a : Addr) (na : H a = none) :
    spI2 K f g [.ref a, y, z] (upd H a (exo a C none)) (fun v H2 => v = .non ∧ ∃ (d : Addr) (fs : List (Str × V)), H2 a = some (exo a C (some d)) ∧ H2 d = some (exd d fs) ∧ H d = none ∧ Q (.ref C) (some d) (upd (del H2 a) d (.xd fs))) E := by
  refine ⟨a, C, y, z, rfl, upd_same, T, nf, ng, fun dx nd ne => ?_⟩
  have nd' : H dx = none := by rw [upd_ne ne] at nd; exact nd
  refine ⟨rfl, dx, _, by rw [upd_ne (Ne.symm ne), upd_same], upd_same, nd', h dx _ (fun b o e => ?_) upd_same⟩
  have hb : b ≠ a := ne_of_none e na
  rw [upd_ne (ne_of_none e nd'), del_ne hb, upd_ne (ne_of_none e nd'), upd_ne hb, upd_ne (ne_of_none e nd'), upd_ne hb]
  exact e
end L2
namespace Prs
open PySem PySem.Spec PyProof.Rows L2 Evl
abbrev sInit : Stmt := inClass (top 30) 0
abbrev sAhead : Stmt := inClass (top 30) 1
abbrev sTake : Stmt := inClass (top 30) 2
abbrev sTakeIf : Stmt := inClass (top 30) 3
/-- a row's number, the places of its words' kinds and texts, and the row -/
structure Nm where
  n : Int
  kl : Addr
  tl : Addr
  r : Str
/-- a place that is none of the words' -/
def Nm.off (num : Nm) (a : Addr) : Prop := a ≠ num.kl ∧ a ≠ num.tl
def wf (num : Nm) (i : Nat) : List (Str × V) := putF "at" (.int (i : Int)) (putF "texts" (.ref num.tl) (putF "kinds" (.ref num.kl) (putF "row" (.str num.r) (putF "number" (.int num.n) []))))
theorem wf_at {num : Nm} {i : Nat} : (wf num i).lookup ("at" : Str) = some (.int (i : Int)) := rfl
theorem wf_kinds {num : Nm} {i : Nat} : (wf num i).lookup ("kinds" : Str) = some (.ref num.kl) := rfl
theorem wf_texts {num : Nm} {i : Nat} : (wf num i).lookup ("texts" : Str) = some (.ref num.tl) := rfl
theorem wf_row {num : Nm} {i : Nat} : (wf num i).lookup ("row" : Str) = some (.str num.r) := rfl
theorem wf_number {num : Nm} {i : Nat} : (wf num i).lookup ("number" : Str) = some (.int num.n) := rfl
theorem wf_no {num : Nm} {i : Nat} {m : Str} (h1 : m ≠ "at") (h2 : m ≠ "texts" ∧ m ≠ "kinds") (h3 : m ≠ "number" ∧ m ≠ "row") : (wf num i).lookup m = none := by
  unfold wf
  rw [lookup_putF, if_neg h1, lookup_putF, if_neg h2.1, lookup_putF, if_neg h2.2, lookup_putF, if_neg h3.2, lookup_putF, if_neg h3.1]
  rfl
theorem wf_put {num : Nm} {i : Nat} {z : Int} {j : Nat} (h : z = (j : Int)) : putF "at" (.int z) (wf num i) = wf num j := by
  subst h
  rfl
theorem wf_len {num : Nm} {i : Nat} : (wf num i).length < 1000 := by
  show 5 < 1000
  decide
/-- the words of the row by its signs have these columns -/
structure ColsOk (r : Str) (ws : List Wd) : Prop where
  len : r.length ≤ 10000
  at_ : ∀ (i : Nat) (x : Wd), ws[i]? = some x → ∃ y : Wd, (wordsOf r)[i]? = some y ∧ y.col = x.col
/-- at p: the words ws of the row num, i of them taken -/
def WAt (W : Addr) (H : Hp) (p : Addr) (num : Nm) (ws : List Wd) (i : Nat) : Prop :=
  ∃ (dx : Addr) (_ : Unit), H p = some (.ins W dx (wf num i)) ∧ H num.kl = some (.lst (ws.map fun x => V.str x.kind)) ∧ (H num.tl = some (.lst (ws.map fun x => V.str x.word)) ∧ ColsOk num.r ws)
theorem WAt.ex {W : Addr} {H H' : Hp} {p : Addr} {num : Nm} {ws : List Wd} {i : Nat} (h : WAt W H p num ws i) (e : Ex H H') : WAt W H' p num ws i := by
  obtain ⟨dx, ts, a, b, c⟩ := h
  exact ⟨dx, ts, e _ _ a, e _ _ b, e _ _ c.1, c.2⟩
/-- what a reading may come to: the error's column, or a thing and how many words are taken -/
abbrev Res (α : Type) := Option (Sum Nat (α × Nat))
/-- what is known ahead of the asking -/
structure Cn (P : Program) (w : World) (K : PySem.W.Frag) (mg : Str → Option Value) (base : Heap) where
  W : Addr
  N : Addr
  cl : Cls K W
  na : NoAttr K W "at"
  nk : NoAttr K W "kinds"
  nt : NoAttr K W "texts"
  nr : NoAttr K W "row"
  nn : NoAttr K W "number"
  mgW : mg "Words" = some (.ref W)
  T : OexC K N
  fR : PySem.W.findIn K (.ref N) "row" = some none
  fC : PySem.W.findIn K (.ref N) "column" = some none
  mgN : mg "NoText" = some (.ref N)
  nI : Addr
  nfd : FuncData
  iC : PySem.W.findIn K (.ref N) "__init__" = some (some (.ref nI))
  tI : PySem.W.typeIn K (.ref nI) = some (.type "function")
  nF : FnOk P w K mg base CX0 1 nI nfd ["self", "row", "column"] (spI2 K "row" "column")
  nB : Binds K nfd ["self", "row", "column"] []
section
variable {P : Program} {w : World} {K : PySem.W.Frag} {mg : Str → Option Value} {base : Heap}
def Acc {α β : Type} (C : Cn P w K mg base) (p : Addr) (num : Nm) (ws : List Wd) (H : Hp) (Q : β → Hp → Prop) (E : XK) (R : Hp → β → α → Prop) : Res α → Prop
  | none => False
  | some (.inl c) => ∀ d H', Fr p H H' → H' d = some (.xd [("column", .int (c : Nat)), ("row", .int num.n)]) → E (.ref C.N) (some d) H'
  | some (.inr (a, j)) => ∀ v H', Fr p H H' → WAt C.W H' p num ws j → R H' v a → Q v H'
theorem Acc.fr {α β : Type} {C : Cn P w K mg base} {p : Addr} {num : Nm} {ws : List Wd} {H H1 : Hp} {Q : β → Hp → Prop} {E : XK} {R : Hp → β → α → Prop} {r : Res α} (h : Acc C p num ws H Q E R r) (f : Fr p H H1) : Acc C p num ws H1 Q E R r := by
  match r, h with
  | some (.inl c), h => exact fun d H' g z => h d H' (f.trans g) z
  | some (.inr (a, j)), h => exact fun v H' g x y => h v H' (f.trans g) x y
/-- one reading behind the other -/
def andThen {α β : Type} (x : Res α) (f : α → Nat → Res β) : Res β :=
  match x with
  | none => none
  | some (.inl c) => some (.inl c)
  | some (.inr (a, j)) => f a j
theorem Acc.bind {α β γ δ : Type} {C : Cn P w K mg base} {p : Addr} {num : Nm} {ws : List Wd} {H H1 : Hp} {Q : γ → Hp → Prop} {Q2 : δ → Hp → Prop} {E : XK} {R : Hp → γ → β → Prop} {R2 : Hp → δ → α → Prop} {x : Res α} {f : α → Nat → Res β}
    (h : Acc C p num ws H Q E R (andThen x f)) (fr : Fr p H H1) (k : ∀ a j, Acc C p num ws H Q E R (f a j) → ∀ v H2, Fr p H H2 → Fr p H1 H2 → WAt C.W H2 p num ws j → R2 H2 v a → Q2 v H2) : Acc C p num ws H1 Q2 E R2 x := by
  match x, h with
  | some (.inl c), h => exact fun d H' g z => h d H' (fr.trans g) z
  | some (.inr (a, j)), h => exact fun v H' g y z => k a j h v H' (fr.trans g) g y z
theorem Acc.ret {α β : Type} {C : Cn P w K mg base} {p : Addr} {num : Nm} {ws : List Wd} {H : Hp} {Q : β → Hp → Prop} {E : XK} {R : Hp → β → α → Prop} {a : α} {j : Nat} (h : Acc C p num ws H Q E R (some (.inr (a, j)))) {v : β} {H' : Hp} (f : Fr p H H') (x : WAt C.W H' p num ws j) (r : R H' v a) : Q v H' := h v H' f x r
theorem ev_fld {σ : L2.St} {H : Hp} {ta : TE} {a c dx : Addr} {fs : List (Str × V)} {f : Str} {v : V} (ha : Ev ta σ H (.ref a)) (hp : H a = some (.ins c dx fs)) (cl : Cls K c) (n : NoAttr K c f) (l : fs.lookup f = some v) : Ev (tFld K ta f) σ H v :=
  fun H1 e Q q => ha H1 e _ fun H2 e2 => ⟨a, c, dx, fs, v, rfl, e2 _ _ (e _ _ hp), cl, n, l, q H2 e2⟩
theorem words_get {H : Hp} : ∀ {ts : List Addr} {ws : List Wd} {i : Nat} {x : Wd}, WordsAre H ts ws → ws[i]? = some x → ∃ t, atI (ts.map V.ref) (i : Int) = some (.ref t) ∧ H t = some (.tup [.str x.kind, .str x.word, .int (x.col : Nat)]) := by
  intro ts ws i x h e
  have z : ∀ {ts : List Addr} {ws : List Wd} {i : Nat}, WordsAre H ts ws → ws[i]? = some x → ∃ t, ts[i]? = some t ∧ H t = some (.tup [.str x.kind, .str x.word, .int (x.col : Nat)]) := by
    intro ts ws i h
    induction h generalizing i with
    | nil => intro e; cases e
    | cons a r ih =>
      intro e
      cases i with
      | zero =>
        cases e
        exact ⟨_, rfl, a⟩
      | succ i => exact ih e
  obtain ⟨t, h1, h2⟩ := z h e
  exact ⟨t, atI_nat (by rw [List.getElem?_map, h1]; rfl), h2⟩
theorem rv_ixL {H : Hp} {p : Addr} {xs : List V} {i : Int} {v : V} (h : H p = some (.lst xs)) (ha : atI xs i = some v) : RV (rIxL K) (.ref p) (.int i) H v := fun H1 e _ q => ⟨p, xs, i, v, rfl, rfl, sq_of (e _ _ h), ha, q H1 (Ex.refl H1)⟩
theorem at_map {ws : List Wd} {i : Nat} {x : Wd} (h : ws[i]? = some x) (f : Wd → V) : atI (ws.map f) (i : Int) = some (f x) := atI_nat (by rw [List.getElem?_map, h]; rfl)
/-! ### ahead -/
def spAhead (C : Cn P w K mg base) : Sp := fun vs H Q _ => ∃ p num ws i x, vs = [.ref p] ∧ WAt C.W H p num ws i ∧ ws[i]? = some x ∧ RetV (.str x.kind) H Q
theorem scAhead : FnScope ["self"] ["self"] (defScope sAhead) := ⟨rfl, rfl, rfl, by decide +kernel, rfl, by decide +kernel, by decide +kernel⟩
theorem ok_ahead {f : Addr} {fd : FuncData} (C : Cn P w K mg base) (F : Fun K "ahead" "Words.ahead" sAhead f fd) : FnOk P w K mg base CX0 1 f fd ["self"] (spAhead C) := by
  refine F.ok scAhead (fun vs H Q E h => ?_) (fun cdv A outer s0 H vs Q E hr h => ?_)
  · obtain ⟨p, num, ws, i, x, rfl, _⟩ := h
    rfl
  · obtain ⟨p, num, ws, i, x, rfl, ⟨dx, _, hp, hl, _⟩, hx, q⟩ := h
    refine ⟨_, pss_one (ps_ret (pe_ix ix_list (pe_fld (pv 0) rfl) (pe_fld (pv 0) rfl) (fun _ _ => rfl))), ?_⟩
    exact s_ret (v := .str x.kind) (D := { nx := _, rt := Q }) (ev_op (ev_fld (ev_var rfl) hp C.cl C.nk wf_kinds) (ev_fld (ev_var rfl) hp C.cl C.na wf_at) (rv_ixL hl (at_map hx _))) fun H1 e1 => q.go e1
/-- one word more is taken -/
theorem wat_put {W p dx : Addr} {num : Nm} {ws : List Wd} {i : Nat} {H H2 : Hp} (hp : H p = some (.ins W dx (wf num i))) (hl : H num.kl = some (.lst (ws.map fun x => V.str x.kind))) (hW : H num.tl = some (.lst (ws.map fun x => V.str x.word)) ∧ ColsOk num.r ws) (e : Ex H H2) :
    WAt W (upd H2 p (.ins W dx (putF "at" (.int ((i : Int) + 1)) (wf num i)))) p num ws (i + 1) := by
  have ek : num.kl ≠ p := fun z => by
    rw [z, hp] at hl
    cases hl
  have et : num.tl ≠ p := fun z => by
    have h := hW.1
    rw [z, hp] at h
    cases h
  exact ⟨dx, (), by rw [upd_same, wf_put (z := (i : Int) + 1) (j := i + 1) rfl], by rw [upd_ne ek]; exact e _ _ hl, by rw [upd_ne et]; exact e _ _ hW.1, hW.2⟩
theorem ne_of_none' {H : Hp} {a b : Addr} {o : HO} (h : H a = some o) (n : H b = none) : b ≠ a := ne_old h n
theorem fresh_upd {H : Hp} {a b : Addr} {o o2 : HO} (h : H a = some o) (n : (upd H a o2) b = none) : H b = none := by
  have : b ≠ a := fun z => by
    rw [z, upd_same] at n
    cases n
  rw [upd_ne this] at n
  exact n
/-! ### take -/
def takeM (ws : List Wd) (ks : List Str) (i : Nat) : Res Str :=
  match ws[i]? with
  | none => none
  | some x => if inV (.str x.kind) (ks.map V.str) then some (.inr (x.word, i + 1)) else some (.inl x.col)
def RStr : Hp → V → Str → Prop := fun _ v a => v = .str a
def spTake0 (C : Cn P w K mg base) : Sp := fun vs H Q E => ∃ p num ws i q ks, vs = [.ref p, .ref q] ∧ H q = some (.tup (ks.map V.str)) ∧ WAt C.W H p num ws i ∧ Acc C p num ws H Q E RStr (takeM ws ks i)
theorem scTake : FnScope ["self", "kinds", "at"] ["self", "kinds"] (defScope sTake) := ⟨rfl, rfl, rfl, by decide +kernel, rfl, by decide +kernel, by decide +kernel⟩
theorem flat_strs (ks : List Str) : (ks.map V.str).all flatV = true := by
  induction ks with
  | nil => rfl
  | cons a r ih => exact ih
/-- where words_of stands -/
structure Wo (P : Program) (w : World) (K : PySem.W.Frag) (mg : Str → Option Value) (base : Heap) where
  f : Addr
  fd : FuncData
  G : FnOk P w K mg base CX0 3 f fd ["row"] spWordsOf
  b : Binds K fd ["row"] []
  k : PySem.W.keepIn K (.ref f) = true
  m : mg "words_of" = some (.ref f)
/-- the column of a word that is refused -/
theorem ev_colOf {σ : L2.St} {H : Hp} {C : Cn P w K mg base} {p dx : Addr} {num : Nm} {ws : List Wd} {i k : Nat} {x : Wd} (h0 : σ[0]? = some (some (.ref p))) (hi : σ[k]? = some (some (.int (i : Int)))) (hp : H p = some (.ins C.W dx (wf num i))) (co : ColsOk num.r ws) (hx : ws[i]? = some x) :
    Ev (tOp (rIxT K) (tOp (rIxL K) (tCall spWordsOf [] E0 (tCons (tFld K (tVar 0) "row") tNil)) (tVar k)) (tC (.int 2))) σ H (.int (x.col : Nat)) := fun H1 e Q q => by
  obtain ⟨y, hy, hc⟩ := co.at_ i x hx
  have ea : EvA (tCons (tFld K (tVar 0) "row") tNil) σ H [.str num.r] := ea_cons (ev_fld (ev_var h0) hp C.cl C.nr wf_row) ea_nil
  delta tOp tCall
  refine ea H1 e _ fun H2 e2 => ⟨num.r, rfl, co.len, fun l ts H3 nl e3 hl hW => ?_⟩
  obtain ⟨t, h1, h2⟩ := words_get hW hy
  refine ⟨.int (i : Int), hi, l, _, (i : Int), _, rfl, rfl, sq_of hl, h1, t, _, 2, _, rfl, rfl, st_of h2, rfl, ?_⟩
  rw [hc]
  exact q H3 (e2.trans e3)
theorem body_take (C : Cn P w K mg base) (O : Wo P w K mg base) {f : Addr} {cdv : Value} (A : Around) (outer : List Env) (s : Shared) (H : Hp) (vs : List V) (Q : VK) (E : XK) (hr : Room 3 (A.deeper (envOfC "Words.take" (defScope sTake) s.heap.objs.size f cdv))) (h : spTake0 C vs H Q E) :
    ∃ t, PSs (cxOf (L2.CX P w) P w K mg base ["self", "kinds", "at"] "Words.take" (defScope sTake) f cdv A outer s H E) (defBody sTake) t ∧ t { nx := fun _ H' => Q .non H', rt := Q } (start ["self", "kinds", "at"] vs) H := by
  obtain ⟨p, num, ws, i, q, ks, rfl, hq, ⟨dx, ts, hp, hl, hW⟩, ac⟩ := h
  have hr2 : Room 2 (A.deeper (envOfC "Words.take" (defScope sTake) s.heap.objs.size f cdv)) := hr.mono (by decide)
  have hp0 : p ≠ q := fun z => by
    rw [z, hq] at hp
    cases hp
  refine ⟨_, pss_cons (ps_set (i := 2) scTake.nd rfl (.inl rfl) (pe_fld (pv 0) rfl))
    (pss_cons (ps_if (pt_cmpR op_notIn_seq (pe_ix ix_list (pe_fld (pv 0) rfl) (pv 2) (fun _ _ => rfl)) (pv 1) (by rfl)) (pss_one (ps_raise rfl (takes_of rfl rfl rfl rfl) (pmk_oex (ds := []) (dvs := []) C.T C.iC C.tI C.nF hr2 C.nB .nil pass0 rfl C.mgN (pa_cons (pe_fld (pv 0) rfl) (pa_cons (pe_ix ix_tup (pe_ix ix_list (pe_call O.G hr rfl O.m O.k O.b .nil pass0 (pa_cons (pe_fld (pv 0) rfl) pa_nil)) (pv 2) (fun _ _ => rfl)) pe_int (fun _ _ => rfl)) pa_nil))))) pss_nil)
    (pss_cons (ps_fld (pv 0) (pe_op op_add (pv 2) pe_int) rfl) (pss_one (ps_ret (pe_ix ix_list (pe_fld (pv 0) rfl) (pv 2) (fun _ _ => rfl)))))), ?_⟩
  unfold takeM at ac
  cases hx : ws[i]? with
  | none =>
    rw [hx] at ac
    exact ac.elim
  | some x =>
    rw [hx] at ac
    refine q_asg (v := .int (i : Int)) (ev_fld (ev_var rfl) hp C.cl C.na wf_at) fun H1 e1 => ?_
    have hp1 := e1 _ _ hp
    have hl1 := e1 _ _ hl
    show tSeq (tIfS _ _ _) _ _ [some (.ref p), some (.ref q), some (.int (i : Int))] H1
    have eT : EvT (tTest (tOp (rIn K true) (tOp (rIxL K) (tFld K (tVar 0) "kinds") (tVar 2)) (tVar 1))) [some (.ref p), some (.ref q), some (.int (i : Int))] H1 (!inV (.str x.kind) (ks.map V.str)) := et_test (ev_op (ev_op (ev_fld (ev_var rfl) hp1 C.cl C.nk wf_kinds) (ev_var rfl) (rv_ixL hl1 (at_map hx _))) (ev_var rfl) (rv_niT (st_of (e1 _ _ hq)) rfl (flat_strs ks)))
    refine q_when eT (fun hb H2 e2 => ?_) (fun hb H2 e2 => ?_)
    · have hb' : inV (.str x.kind) (ks.map V.str) = false := by
        cases h : inV (.str x.kind) (ks.map V.str) with
        | false => rfl
        | true => rw [h] at hb; exact Bool.noConfusion hb
      simp only [hb', Bool.false_eq_true, if_false] at ac
      have hp2 := e2 _ _ hp1
      refine (ea_cons (ev_fld (ev_var rfl) hp2 C.cl C.nn wf_number) (ea_cons (ev_colOf (C := C) (k := 2) rfl rfl hp2 hW.2 hx) ea_nil) : EvA _ _ H2 [.int num.n, .int (x.col : Nat)]) H2 (Ex.refl H2) _ fun H3 e3 => ⟨by show 2 ≤ 1000; decide, ?_⟩
      exact made2x C.T C.fR C.fC fun d H' e z => ac d H' (Fr.ex fun b o y => e _ _ (e3 _ _ (e2 _ _ (e1 _ _ y)))) z
    · have hb' : inV (.str x.kind) (ks.map V.str) = true := by
        cases h : inV (.str x.kind) (ks.map V.str) with
        | true => rfl
        | false => rw [h] at hb; exact Bool.noConfusion hb
      simp only [hb', if_true] at ac
      have hp2 := e2 _ _ hp1
      have e12 := e1.trans e2
      refine ⟨.int (i : Int), rfl, i, 1, rfl, rfl, .ref p, rfl, p, C.W, dx, _, rfl, hp2, C.cl, C.na, wf_len, ?_⟩
      have hw3 := wat_put hp hl hW e12
      obtain ⟨dx3, _, g1, g2, g3, _⟩ := id hw3
      refine s_ret (v := .str x.word) (D := { nx := _, rt := Q }) (ev_op (ev_fld (ev_var rfl) g1 C.cl C.nt wf_texts) (ev_var rfl) (rv_ixL g3 (at_map hx _))) fun H3 e3 => ?_
      exact ac _ H3 (Fr.trans (Fr.upd (Fr.ex e12)) (Fr.ex e3)) (hw3.ex e3) rfl
/-- what the caller sees -/
def spTake (C : Cn P w K mg base) : Sp := fun vs H Q E => ∃ p num ws i ks, vs = .ref p :: ks.map V.str ∧ ks.length ≤ 100000 ∧ WAt C.W H p num ws i ∧ Acc C p num ws H Q E RStr (takeM ws ks i)
theorem ok_take {f : Addr} {fd : FuncData} (C : Cn P w K mg base) (O : Wo P w K mg base) (F : Fun K "take" "Words.take" sTake f fd) : FnR P w K mg base (L2.CX P w) 4 f (spTake C) := by
  obtain ⟨oc, od, kV, doc, pm, an, cdv, ct, osl, rfl, lk, hcd⟩ := F.ex
  refine (StX.fn_star (ps := ["self"]) (pv := "kinds") lk hcd scTake StX.cxUp (StX.bind_star1 (B := fun us => bindArgs (PySem.W.fnOf "take" "Words.take" (defArgs sTake) (defBody sTake) (defScope sTake) Value.none kV doc pm an cdv ct) ⟨us, []⟩) (fun _ => rfl) (fun _ _ _ => rfl)) fun A outer s H vs Q E hr h => body_take C O A outer s H vs Q E hr h).imp fun vs H Q E h => ?_
  obtain ⟨p, num, ws, i, ks, rfl, hz, hW, ac⟩ := h
  refine ⟨[.ref p], ks.map V.str, rfl, rfl, sz_of (by rw [List.length_map]; exact hz), fun q hq => ?_⟩
  have e : Ex H (upd H q (.tup (ks.map V.str))) := fun b o hb => by
    rw [upd_ne (ne_of_none hb hq)]
    exact hb
  exact ⟨p, num, ws, i, q, ks, rfl, upd_same, hW.ex e, ac.fr (Fr.ex e)⟩
/-! ### take_if -/
def takeIfM (ws : List Wd) (k : Str) (i : Nat) : Res Bool :=
  match ws[i]? with
  | none => none
  | some x => if decide (V.str x.kind = V.str k) then some (.inr (true, i + 1)) else some (.inr (false, i))
def RBl : Hp → V → Bool → Prop := fun _ v a => v = .bl a
def spTakeIf (C : Cn P w K mg base) : Sp := fun vs H Q E => ∃ p num ws i k, vs = [.ref p, .str k] ∧ WAt C.W H p num ws i ∧ Acc C p num ws H Q E RBl (takeIfM ws k i)
theorem scTakeIf : FnScope ["self", "kind"] ["self", "kind"] (defScope sTakeIf) := ⟨rfl, rfl, rfl, by decide +kernel, rfl, by decide +kernel, by decide +kernel⟩
theorem ok_takeIf {f : Addr} {fd : FuncData} (C : Cn P w K mg base) (F : Fun K "take_if" "Words.take_if" sTakeIf f fd) : FnOk P w K mg base CX0 2 f fd ["self", "kind"] (spTakeIf C) := by
  refine F.ok scTakeIf (fun vs H Q E h => ?_) (fun cdv A outer s0 H vs Q E hr h => ?_)
  · obtain ⟨p, num, ws, i, k, rfl, _⟩ := h
    rfl
  · obtain ⟨p, num, ws, i, k, rfl, ⟨dx, ts, hp, hl, hW⟩, ac⟩ := h
    refine ⟨_, pss_cons (ps_if (pt_cmpR op_ne (pe_ix ix_list (pe_fld (pv 0) rfl) (pe_fld (pv 0) rfl) (fun _ _ => rfl)) (pv 1) (nomark _)) (pss_one (ps_ret pe_bl)) pss_nil)
      (pss_cons (ps_fldaug (pv 0) pe_int in_add) (pss_one (ps_ret pe_bl))), ?_⟩
    unfold takeIfM at ac
    cases hx : ws[i]? with
    | none =>
      rw [hx] at ac
      exact ac.elim
    | some x =>
      rw [hx] at ac
      refine q_when (b := !decide (V.str x.kind = V.str k)) (et_test (ev_op (ev_op (ev_fld (ev_var rfl) hp C.cl C.nk wf_kinds) (ev_fld (ev_var rfl) hp C.cl C.na wf_at) (rv_ixL hl (at_map hx _))) (ev_var rfl) (rv_ne rfl))) (fun hb H2 e2 => ?_) (fun hb H2 e2 => ?_)
      · have hb' : decide (V.str x.kind = V.str k) = false := by
          cases h : decide (V.str x.kind = V.str k) with
          | false => rfl
          | true => rw [h] at hb; exact Bool.noConfusion hb
        simp only [hb', Bool.false_eq_true, if_false] at ac
        refine s_ret (v := .bl false) (D := { nx := _, rt := Q }) ev_c fun H3 e3 => ?_
        exact ac _ H3 (Fr.ex (Ex.trans e2 e3)) (WAt.ex ⟨dx, ts, hp, hl, hW⟩ (Ex.trans e2 e3)) rfl
      · have hb' : decide (V.str x.kind = V.str k) = true := by
          cases h : decide (V.str x.kind = V.str k) with
          | true => rfl
          | false => rw [h] at hb; exact Bool.noConfusion hb
        simp only [hb', if_true] at ac
        refine ⟨_, rfl, p, C.W, dx, _, _, rfl, e2 _ _ hp, C.cl, C.na, wf_at, _, _, rfl, rfl, dx, _, e2 _ _ hp, wf_len, ?_⟩
        change tRet (tC (.bl true)) { nx := fun _ H' => Q .non H', rt := Q } (start ["self", "kind"] [.ref p, .str k]) (upd H2 p (.ins C.W dx (putF "at" (.int ((i : Int) + 1)) (wf num i))))
        refine s_ret (v := .bl true) (D := { nx := _, rt := Q }) ev_c fun H3 e3 => ?_
        exact ac _ H3 (Fr.trans (Fr.upd (Fr.ex e2)) (Fr.ex e3)) ((wat_put hp hl hW e2).ex e3) rfl
end
end Prs
set_option Elab.async false
set_option linter.all false
set_option maxRecDepth 100000
set_option maxHeartbeats 4000000
namespace Prs
open PySem PySem.Spec PyProof.Rows L2 Evl
/-- where the quick road tells words, it tells those of the row's signs -/
def quickOk (r : Str) : Bool := match quickM r with
  | none => true
  | some (ks, ts) => decide (ks = (wordsOf r).map Wd.kind) && decide (ts = (wordsOf r).map Wd.word)
theorem wordsGo_len (r : Str) : ∀ (n a : Nat), (wordsGo r n a).length ≤ n
  | 0, _ => Nat.le_refl _
  | n + 1, a => by
    unfold wordsGo
    split
    · split
      · simp
      · have := wordsGo_len r n (nextAt r (endOfWord r a))
        simp only [List.length_cons]
        omega
    · simp
theorem given_all {n : Nat} {ws : List Wd} {f : Wd → V} (h : n = ws.length) : given n (fun _ => true) (fun i => (ws[i]?.map f).getD .non) = ws.map f := by
  unfold given
  rw [List.filter_eq_self.mpr (fun _ _ => rfl)]
  refine List.ext_getElem? fun i => ?_
  rw [List.getElem?_map, List.getElem?_map]
  by_cases hi : i < n
  · rw [List.getElem?_range hi]
    have hi2 : i < ws.length := by omega
    rw [List.getElem?_eq_getElem hi2]
    show some ((ws[i]?.map f).getD .non) = some (f ws[i])
    rw [List.getElem?_eq_getElem hi2]
    rfl
  · rw [List.getElem?_eq_none (by rw [List.length_range]; omega), List.getElem?_eq_none (by omega)]
    rfl
section
variable {K : PySem.W.Frag} {σ : L2.St} {H : Hp}
theorem el_part {ts : List Addr} {ws : List Wd} {a : Addr} {jj : Nat} {f : Wd → V} (h5 : σ[5]? = some (some (.ref a))) (h6 : σ.length = 7) (hl : H a = some (.lst (ts.map V.ref))) (hW : WordsAre H ts ws) (hz : ws.length ≤ 40000) (hw : ∀ x, wipe ((wipe σ [6]).set 6 (some x)) [6] = wipe σ [6]) (hs : wipe σ [6] = σ.set 6 none)
    (hf : ∀ x : Wd, ([V.str x.kind, .str x.word, .int (x.col : Nat)] : List V)[jj]? = some (f x)) : EvL (tLc (iList K (tVar 5)) (gName 6) tYes (tOp (rIxT K) (tVar 6) (tC (.int (jj : Nat)))) [6]) σ H (ws.map f) := by
  have hn : (ts.map V.ref).length = ws.length := by rw [List.length_map]; exact Paired.length hW
  have z := el_lcL (K := K) (σ := σ) (H := H) (j := 6) (vs := [6]) (te := tOp (rIxT K) (tVar 6) (tC (.int (jj : Nat)))) (t := tYes) (xs := ts.map V.ref) (fun _ => true) (fun i => (ws[i]?.map f).getD .non) (ev_var (i := 5) h5) (sq_of hl) (by omega) hw (fun m x H' _ _ => fun H1 _ Q q => q H1 (Ex.refl H1)) (fun m x H' e' hm _ => ?_)
  · rw [given_all hn] at z
    exact z
  · have hm' : m < ws.length := by
      have := (List.getElem?_eq_some_iff.mp hm).1
      omega
    have hx : ws[m]? = some ws[m] := List.getElem?_eq_getElem hm'
    obtain ⟨t, h1, h2⟩ := words_get hW hx
    have ht : x = .ref t := by
      have h3 : atI (ts.map V.ref) (m : Int) = some x := atI_nat hm
      rw [h1] at h3
      exact (Option.some.inj h3).symm
    subst ht
    have hv : ((wipe σ [6]).set 6 (some (V.ref t)))[6]? = some (some (V.ref t)) := by
      rw [hs, List.set_set]
      exact List.getElem?_set_self (by omega)
    rw [hx]
    exact fun H1 e1 Q q => ⟨.ref t, hv, t, _, (jj : Int), _, rfl, rfl, st_of (e1 _ _ (e' _ _ h2)), atI_nat (hf ws[m]), q H1 (Ex.refl H1)⟩
end
theorem ed_parts {K : PySem.W.Frag} {σ : L2.St} {H : Hp} {ts : List Addr} {ws : List Wd} {a : Addr} (h5 : σ[5]? = some (some (.ref a))) (h6 : σ.length = 7) (hl : H a = some (.lst (ts.map V.ref))) (hW : WordsAre H ts ws) (hz : ws.length ≤ 40000) (hw : ∀ x, wipe ((wipe σ [6]).set 6 (some x)) [6] = wipe σ [6]) (hs : wipe σ [6] = σ.set 6 none) {Q : VK}
    (q : ∀ T kl tl H2, Ex H H2 → H kl = none → H tl = none → H2 T = some (.tup [.ref kl, .ref tl]) → H2 kl = some (.lst (ws.map fun x => V.str x.kind)) → H2 tl = some (.lst (ws.map fun x => V.str x.word)) → Q (.ref T) H2) :
    tTup (tCons (tLc (iList K (tVar 5)) (gName 6) tYes (tOp (rIxT K) (tVar 6) (tC (.int ((0 : Nat) : Int)))) [6]) (tCons (tLc (iList K (tVar 5)) (gName 6) tYes (tOp (rIxT K) (tVar 6) (tC (.int ((1 : Nat) : Int)))) [6]) tNil)) σ H Q := by
  delta tTup tCons
  refine el_part (K := K) (jj := 0) (f := fun x => V.str x.kind) h5 h6 hl hW hz hw hs (fun _ => rfl) H (Ex.refl _) _ fun kl H1 nk e1 hk => ?_
  refine el_part (K := K) (jj := 1) (f := fun x => V.str x.word) h5 h6 (e1 _ _ hl) (WordsAre.mono e1 hW) hz hw hs (fun _ => rfl) H1 (Ex.refl _) _ fun tl H2 nt e2 ht => ?_
  exact ⟨by show 2 ≤ sizeLine; exact sz_of (by decide), fun T nT => q T kl tl _ ((e1.trans e2).trans (Ex.new nT)) nk (fresh_back e1 nt) upd_same (Ex.new nT _ _ (e2 _ _ hk)) (Ex.new nT _ _ ht)⟩
section
variable {P : Program} {w : World} {K : PySem.W.Frag} {mg : Str → Option Value} {base : Heap}
def Fr2d (p q : Addr) (H H' : Hp) : Prop := ∀ b o, b ≠ p → b ≠ q → H b = some o → H' b = some o
def spInit (C : Cn P w K mg base) : Sp := fun vs H Q _ => ∃ p num r dx kd kvs, vs = [.ref p, .int num, .str r, .ref kd] ∧ r.length ≤ 10000 ∧ quickOk r = true ∧ H p = some (.ins C.W dx []) ∧ H kd = some (.dK kvs) ∧ KnOk kvs ∧ kvs.length ≤ 16000000 ∧
  ∀ H' kl tl kvs', Fr2d p kd H H' → H' kd = some (.dK kvs') → KnOk kvs' → kvs'.length ≤ kvs.length + 30000 → H kl = none → H tl = none → WAt C.W H' p ⟨num, kl, tl, r⟩ (wordsOf r) 0 → Q .non H'
abbrev NI : List Str := ["self", "number", "row", "known", "found", "words", "word"]
theorem scInit : FnScope NI ["self", "number", "row", "known"] (defScope sInit) := ⟨rfl, rfl, rfl, by decide +kernel, rfl, by decide +kernel, by decide +kernel⟩
theorem ok_init {f fQ : Addr} {fd fdQ : FuncData} (C : Cn P w K mg base) (O : Wo P w K mg base) (F : Fun K "__init__" "Words.__init__" sInit f fd) (GQ : FnOk P w K mg base CX0 3 fQ fdQ ["row", "known"] spQuick) (bQ : Binds K fdQ ["row", "known"] []) (kQ : PySem.W.keepIn K (.ref fQ) = true) (mQ : mg "quick_words" = some (.ref fQ)) : FnOk P w K mg base CX0 4 f fd ["self", "number", "row", "known"] (spInit C) := by
  refine F.ok scInit (fun vs H Q E h => ?_) (fun cdv A outer s0 H vs Q E hr h => ?_)
  · obtain ⟨p, num, r, dx, kd, kvs, rfl, _⟩ := h
    rfl
  · obtain ⟨p, num, r, dx, kd, kvs, rfl, hz, hq, hp, hkd, kn, hn, q⟩ := h
    have hpk : p ≠ kd := fun z => by
      rw [z, hkd] at hp
      cases hp
    have hwl : (wordsOf r).length ≤ 10001 := Nat.le_trans (wordsGo_len _ _ _) (by omega)
    refine ⟨_, pss_cons (ps_fld (pv 0) (pv 1) rfl) (pss_cons (ps_fld (pv 0) (pv 2) rfl)
      (pss_cons (ps_set (i := 4) scInit.nd rfl (.inl rfl) (pe_call GQ hr rfl mQ kQ bQ .nil pass0 (pa_cons (pv 2) (pa_cons (pv 3) pa_nil))))
      (Evl.pss_cut (ps_if (pt_cmpR op_isN (pv 4) pe_non (nomark _))
        (pss_cons (ps_set (i := 5) scInit.nd rfl (.inl rfl) (pe_call O.G hr rfl O.m O.k O.b .nil pass0 (pa_cons (pv 2) pa_nil)))
        (pss_one (ps_set (i := 4) scInit.nd rfl (.inl rfl) (pe_tup (pa_cons (pe_lc (te := tOp (rIxT K) (tVar 6) (tC (.int ((0 : Nat) : Int)))) (own := [("word", 6)]) (g := gName 6) (tt := tYes) rfl scInit.nd (pi_list (pv 5)) (blkOk_by (N := NI) (sc := defScope sInit) (by decide +kernel)) (fun _ _ _ _ _ => pg_name (i := 6) scInit.nd rfl (Or.inl rfl)) (fun _ _ _ _ _ => pts_nil) (fun _ _ _ _ _ => pe_ix (r := rIxT K) ix_tup (pv 6) pe_int (fun _ _ => rfl)))
          (pa_cons (pe_lc (te := tOp (rIxT K) (tVar 6) (tC (.int ((1 : Nat) : Int)))) (own := [("word", 6)]) (g := gName 6) (tt := tYes) rfl scInit.nd (pi_list (pv 5)) (blkOk_by (N := NI) (sc := defScope sInit) (by decide +kernel)) (fun _ _ _ _ _ => pg_name (i := 6) scInit.nd rfl (Or.inl rfl)) (fun _ _ _ _ _ => pts_nil) (fun _ _ _ _ _ => pe_ix (r := rIxT K) ix_tup (pv 6) pe_int (fun _ _ => rfl))) pa_nil)))))) pss_nil)
      (pss_cons (ps_asg (pv 4) (pg_tup rfl (pgs_cons (pg_fld (pv 0)) (pgs_cons (pg_fld (pv 0)) pgs_nil))))
      (pss_one (ps_fld (pv 0) pe_int rfl)))))), ?_⟩
    refine ⟨_, rfl, _, rfl, p, C.W, dx, [], rfl, hp, C.cl, C.nn, by decide, ?_⟩
    have hp1 : (upd H p (.ins C.W dx (putF "number" (.int num) []))) p = some (.ins C.W dx (putF "number" (.int num) [])) := upd_same
    refine ⟨_, rfl, _, rfl, p, C.W, dx, _, rfl, hp1, C.cl, C.nr, by show 1 < 1000; decide, ?_⟩
    have hp2 : (upd (upd H p (.ins C.W dx (putF "number" (.int num) []))) p (.ins C.W dx (putF "row" (.str r) (putF "number" (.int num) [])))) p = some (.ins C.W dx (putF "row" (.str r) (putF "number" (.int num) []))) := upd_same
    have f2 : Fr p H (upd (upd H p (.ins C.W dx (putF "number" (.int num) []))) p (.ins C.W dx (putF "row" (.str r) (putF "number" (.int num) [])))) := Fr.upd (Fr.upd (Fr.refl _ _))
    revert hp2 f2
    generalize (upd (upd H p (.ins C.W dx (putF "number" (.int num) []))) p (.ins C.W dx (putF "row" (.str r) (putF "number" (.int num) [])))) = H2
    intro hp2 f2
    have hkd2 := f2 _ _ (Ne.symm hpk) hkd
    refine ⟨.str r, rfl, .ref kd, rfl, r, kd, kvs, rfl, hz, hkd2, kn, hn, fun v H3 kvs' f3 hkd3 kn3 hn3 qv => ?_⟩
    have hp3 := f3 _ _ hpk hp2
    have f03 : Fr2d p kd H H3 := fun b o n1 n2 hb => f3 b o n2 (f2 b o n1 hb)
    refine Evl.q_cut (M := fun σ' H' => ∃ a kl tl v5 v6, σ' = [some (.ref p), some (.int num), some (.str r), some (.ref kd), some (.ref a), v5, v6] ∧ Ex H3 H' ∧ H' a = some (.tup [.ref kl, .ref tl]) ∧ H' kl = some (.lst ((wordsOf r).map fun x => V.str x.kind)) ∧ H' tl = some (.lst ((wordsOf r).map fun x => V.str x.word)) ∧ H kl = none ∧ H tl = none) ?_ ?_
    · have bk : ∀ {b : Addr} {Hx : Hp}, Ex H3 Hx → Hx b = none → H b = none := fun {b Hx} e hb => by
        have h3 := fresh_back e hb
        exact fr_none f2 (ne_old hp3 h3) (fr_none f3 (ne_old hkd3 h3) h3)
      unfold quickOk at hq
      cases hm : quickM r with
      | some z =>
        obtain ⟨ks, ts⟩ := z
        rw [hm] at hq qv
        dsimp only at hq
        rw [Bool.and_eq_true] at hq
        have h1 := of_decide_eq_true hq.1
        have h2 := of_decide_eq_true hq.2
        obtain ⟨a, kl, tl, rfl, ha, hk, ht, nk, nt⟩ := qv
        refine s_when (b := decide (V.ref a = .non)) (et_test (ev_op (ev_var rfl) ev_c rv_none)) (fun h => by cases h) fun _ H4 e4 => ?_
        refine ⟨a, kl, tl, _, _, rfl, e4, e4 _ _ ha, ?_, ?_, fr_none f2 (ne_old hp2 nk) nk, fr_none f2 (ne_old hp2 nt) nt⟩
        · rw [e4 _ _ hk, h1, List.map_map]
          rfl
        · rw [e4 _ _ ht, h2, List.map_map]
          rfl
      | none =>
        rw [hm] at qv
        obtain rfl : v = .non := qv
        refine s_when (b := decide (V.non = V.non)) (et_test (ev_op (ev_var rfl) ev_c rv_none)) (fun _ H4 e4 => ?_) (fun h => by cases h)
        refine ⟨.str r, rfl, r, rfl, hz, fun l ts H5 nl e5 hl hW => ?_⟩
        delta gName tAsg
        dsimp only
        refine ed_parts (K := K) (σ := [some (.ref p), some (.int num), some (.str r), some (.ref kd), some .non, some (.ref l), none]) rfl rfl hl hW (by omega) (fun _ => rfl) rfl fun T kl tl H6 e6 nk nt hT hk ht => ?_
        have e35 := e4.trans e5
        exact ⟨T, kl, tl, _, _, rfl, e35.trans e6, hT, hk, ht, bk e35 nk, bk e35 nt⟩
    · rintro σ' H4 ⟨a, kl, tl, v5, v6, rfl, e4, ha, hk, ht, nk, nt⟩
      have hp4 := e4 _ _ hp3
      have kp : kl ≠ p := ne_old hp nk
      have tp : tl ≠ p := ne_old hp nt
      refine ⟨.ref a, rfl, a, _, rfl, st_of ha, rfl, .ref kl, [.ref tl], rfl, .ref p, rfl, p, C.W, dx, _, rfl, hp4, C.cl, C.nk, by show 2 < 1000; decide, ?_⟩
      refine ⟨.ref tl, [], rfl, .ref p, rfl, p, C.W, dx, _, rfl, upd_same, C.cl, C.nt, by show 3 < 1000; decide, rfl, ?_⟩
      refine ⟨.ref p, rfl, p, C.W, dx, _, rfl, upd_same, C.cl, C.na, by show 4 < 1000; decide, ?_⟩
      refine q _ kl tl kvs' (fun b o n1 n2 hb => ?_) ?_ kn3 hn3 nk nt ⟨dx, (), upd_same, ?_, ?_, hz, fun i x hx => ⟨x, hx, rfl⟩⟩
      · rw [upd_ne n1, upd_ne n1, upd_ne n1]
        exact e4 _ _ (f03 b o n1 n2 hb)
      · rw [upd_ne (Ne.symm hpk), upd_ne (Ne.symm hpk), upd_ne (Ne.symm hpk)]
        exact e4 _ _ hkd3
      · rw [upd_ne kp, upd_ne kp, upd_ne kp]
        exact hk
      · rw [upd_ne tp, upd_ne tp, upd_ne tp]
        exact ht
end
end Prs
set_option Elab.async false
set_option linter.all false
set_option maxRecDepth 100000
set_option maxHeartbeats 4000000
namespace Prs
open PySem PySem.Spec PyProof.Rows L2 Evl
theorem passAny {X : Cx} {E : XK} : Passes CX0 X E := fun _ _ _ _ _ _ _ h => h.elim
/-! ### data of tuples -/
mutual
def DT (H : Hp) : PyData → V → Prop
  | .int i, v => v = .int i
  | .str s, v => v = .str s
  | .none, v => v = .non
  | .bool b, v => v = .bl b
  | .tuple ds, v => ∃ (a : Addr) (vs : List V), v = .ref a ∧ H a = some (.tup vs) ∧ DTs H ds vs
  | _, _ => False
def DTs (H : Hp) : List PyData → List V → Prop
  | [], vs => vs = []
  | d :: ds, vs => ∃ (v : V) (r : List V), vs = v :: r ∧ DT H d v ∧ DTs H ds r
end
/-- tuples stand -/
def TF (H H' : Hp) : Prop := ∀ b xs, H b = some (.tup xs) → H' b = some (.tup xs)
theorem TF.ex {H H' : Hp} (e : Ex H H') : TF H H' := fun b xs h => e _ _ h
theorem TF.fr {p W dx : Addr} {fs : List (Str × V)} {H H' : Hp} (hp : H p = some (.ins W dx fs)) (f : Fr p H H') : TF H H' := fun b xs h => f b _ (fun z => by
  rw [z, hp] at h
  cases h) h
mutual
theorem DT.tf {H H' : Hp} (e : TF H H') : ∀ (d : PyData) (v : V), DT H d v → DT H' d v
  | .int i, v, h => by unfold DT at h ⊢; exact h
  | .str i, v, h => by unfold DT at h ⊢; exact h
  | .none, v, h => by unfold DT at h ⊢; exact h
  | .bool b, v, h => by unfold DT at h ⊢; exact h
  | .tuple ds, v, h => by
    unfold DT at h ⊢
    obtain ⟨a, vs, h1, h2, h3⟩ := h
    exact ⟨a, vs, h1, e _ _ h2, DTs.tf e ds vs h3⟩
  | .list ds, v, h => by unfold DT at h; exact h.elim
theorem DTs.tf {H H' : Hp} (e : TF H H') : ∀ (d : List PyData) (v : List V), DTs H d v → DTs H' d v
  | [], v, h => by unfold DTs at h ⊢; exact h
  | d :: ds, v, h => by
    unfold DTs at h ⊢
    obtain ⟨a, r, h1, h2, h3⟩ := h
    exact ⟨a, r, h1, DT.tf e d a h2, DTs.tf e ds r h3⟩
end
def RD : Hp → V → PyData → Prop := fun H v d => DT H d v
def RDs : Hp → List V → List PyData → Prop := fun H v d => DTs H d v
theorem DTs.len {H : Hp} : ∀ {ds : List PyData} {vs : List V}, DTs H ds vs → vs.length = ds.length
  | [], vs, h => by unfold DTs at h; rw [h]; rfl
  | d :: ds, vs, h => by
    unfold DTs at h
    obtain ⟨v, r, rfl, _, h3⟩ := h
    rw [List.length_cons, List.length_cons, DTs.len h3]
theorem dts_nil {H : Hp} : DTs H [] [] := by unfold DTs; rfl
theorem dts_cons {H : Hp} {d : PyData} {ds : List PyData} {v : V} {r : List V} (h1 : DT H d v) (h2 : DTs H ds r) : DTs H (d :: ds) (v :: r) := by unfold DTs; exact ⟨v, r, rfl, h1, h2⟩
theorem dt_tup {H : Hp} {ds : List PyData} {a : Addr} {vs : List V} (h : H a = some (.tup vs)) (h2 : DTs H ds vs) : DT H (.tuple ds) (.ref a) := by unfold DT; exact ⟨a, vs, rfl, h, h2⟩
theorem dt_str {H : Hp} {s : Str} : DT H (.str s) (.str s) := by unfold DT; rfl
theorem dt_int {H : Hp} {s : Int} : DT H (.int s) (.int s) := by unfold DT; rfl
section
variable {P : Program} {w : World} {K : PySem.W.Frag} {mg : Str → Option Value} {base : Heap} {C : Cn P w K mg base} {p : Addr} {num : Nm} {ws : List Wd} {E : XK} {σ : L2.St} {H H1 : Hp} {α α2 α3 β γ δ : Type}
/-- an expression that reads -/
def Py (C : Cn P w K mg base) (p : Addr) (num : Nm) (ws : List Wd) (E : XK) (t : L2.St → Hp → (β → Hp → Prop) → Prop) (σ : L2.St) (H : Hp) (R : Hp → β → α → Prop) (x : Res α) : Prop := ∀ Q : β → Hp → Prop, Acc C p num ws H Q E R x → t σ H Q
def mapR (g : α → α2) (x : Res α) : Res α2 := andThen x fun a j => some (.inr (g a, j))
theorem WAt.ins {i : Nat} (h : WAt C.W H p num ws i) : ∃ dx fs, H p = some (.ins C.W dx fs) := by
  obtain ⟨dx, ts, h1, _⟩ := h
  exact ⟨_, _, h1⟩
theorem WAt.tf {i : Nat} (h : WAt C.W H p num ws i) (f : Fr p H H1) : TF H H1 := by
  obtain ⟨dx, fs, z⟩ := h.ins
  exact TF.fr z f
theorem Acc.mono {Q Q2 : β → Hp → Prop} {R : Hp → β → α → Prop} {x : Res α} (h : Acc C p num ws H Q E R x) (k : ∀ v H', Q v H' → Q2 v H') : Acc C p num ws H Q2 E R x := by
  match x, h with
  | some (.inl c), h => exact h
  | some (.inr (a, j)), h => exact fun v H' f x r => k _ _ (h v H' f x r)
theorem py_map {t : L2.St → Hp → (β → Hp → Prop) → Prop} {R : Hp → β → α → Prop} {R2 : Hp → β → α2 → Prop} {x : Res α} {g : α → α2} (h : Py C p num ws E t σ H R x) (k : ∀ H v a, R H v a → R2 H v (g a)) : Py C p num ws E t σ H R2 (mapR g x) := fun Q ac => h Q (by
  match x, ac with
  | some (.inl c), ac => exact ac
  | some (.inr (a, j)), ac => exact fun v H' f x r => ac v H' f x (k _ _ _ r))
theorem py_is {t : L2.St → Hp → (β → Hp → Prop) → Prop} {R : Hp → β → α → Prop} {x y : Res α} (h : Py C p num ws E t σ H R x) (e : x = y) : Py C p num ws E t σ H R y := e ▸ h
/-- nothing is read -/
theorem py_ev {t : TE} {v : V} {i : Nat} {R : Hp → V → α → Prop} {a : α} (h : Ev t σ H v) (hW : WAt C.W H p num ws i) (k : ∀ H', Ex H H' → R H' v a) : Py C p num ws E t σ H R (some (.inr (a, i))) := fun Q ac => h H (Ex.refl H) _ fun H2 e2 => ac v H2 (Fr.ex e2) (hW.ex e2) (k H2 e2)
theorem py_nil {i : Nat} (hW : WAt C.W H p num ws i) : Py C p num ws E tNil σ H RDs (some (.inr ([], i))) := fun Q ac => ac [] H (Fr.refl p H) hW dts_nil
theorem py_last {t : TE} {x : Res PyData} (h : Py C p num ws E t σ H RD x) : Py C p num ws E (tCons t tNil) σ H RDs (mapR (fun d => [d]) x) := fun Q ac => h _ (by
  match x, ac with
  | some (.inl c), ac => exact ac
  | some (.inr (a, j)), ac => exact fun v H' f x r => ac [v] H' f x (dts_cons r dts_nil))
theorem py_cons {t : TE} {ta : TA} {v : V} {d : PyData} {x : Res (List PyData)} {i : Nat} (h : Ev t σ H v) (hW : WAt C.W H p num ws i) (hd : DT H d v) (k : ∀ H', Ex H H' → WAt C.W H' p num ws i → Py C p num ws E ta σ H' RDs x) : Py C p num ws E (tCons t ta) σ H RDs (mapR (fun ds => d :: ds) x) := fun Q ac =>
  h H (Ex.refl H) _ fun H2 e2 => k H2 e2 (hW.ex e2) _ (by
    match x, ac with
    | some (.inl c), ac => exact Acc.fr ac (Fr.ex e2)
    | some (.inr (a, j)), ac => exact fun v2 H' f x r => ac (v :: v2) H' ((Fr.ex e2).trans f) x (dts_cons (DT.tf ((hW.ex e2).tf f) _ _ (DT.tf (TF.ex e2) _ _ hd)) r))
theorem fr_new {q : Addr} {o : HO} (h : H q = none) : Ex H (upd H q o) := fun b u hb => by
  rw [upd_ne (ne_of_none hb h)]
  exact hb
theorem py_tup {ta : TA} {x : Res (List PyData)} (h : Py C p num ws E ta σ H RDs x) (hz : ∀ a j, x = some (.inr (a, j)) → a.length ≤ 100000) : Py C p num ws E (tTup ta) σ H RD (mapR PyData.tuple x) := fun Q ac => h _ (by
  match x, ac, hz with
  | some (.inl c), ac, _ => exact ac
  | some (.inr (a, j)), ac, hz => exact fun vs H' f x r => ⟨sz_of (by rw [DTs.len r]; exact hz a j rfl), fun q hq => ac (.ref q) _ (f.trans (Fr.ex (fr_new hq))) (x.ex (fr_new hq)) (dt_tup upd_same (DTs.tf (TF.ex (fr_new hq)) _ _ r))⟩)
theorem mapR_mapR {f : α → α2} {g : α2 → α3} {x : Res α} : mapR g (mapR f x) = mapR (fun a => g (f a)) x := by
  match x with
  | none => rfl
  | some (.inl c) => rfl
  | some (.inr (a, j)) => rfl
theorem mapR_len {f : α → List PyData} {x : Res α} {n : Nat} (h : ∀ a, (f a).length ≤ n) : ∀ a j, mapR f x = some (.inr (a, j)) → a.length ≤ n := fun a j e => by
  match x, e with
  | some (.inr (b, i)), e =>
    cases e
    exact h b
/-! ### the words' methods -/
theorem py_take {ta : TA} {ks : List Str} {i : Nat} (h0 : σ[0]? = some (some (.ref p))) (h : EvA ta σ H (ks.map V.str)) (hW : WAt C.W H p num ws i) (hz : ks.length ≤ 100000 := by decide) : Py C p num ws E (tMethR C.W "take" (spTake C) E (tVar 0) ta) σ H RStr (takeM ws ks i) := fun Q ac => by
  obtain ⟨dx, ts, hp, hl, hw⟩ := hW
  exact ⟨.ref p, h0, p, dx, _, rfl, hp, wf_no (by decide) (by decide) (by decide), h H (Ex.refl H) _ fun H2 e2 => ⟨p, num, ws, i, ks, rfl, hz, WAt.ex ⟨dx, ts, hp, hl, hw⟩ e2, ac.fr (Fr.ex e2)⟩⟩
theorem ev_ahead {i : Nat} {x : Wd} (h0 : σ[0]? = some (some (.ref p))) (hW : WAt C.W H p num ws i) (hx : ws[i]? = some x) : Ev (tMeth C.W "ahead" (spAhead C) [] E (tVar 0) tNil) σ H (.str x.kind) := fun H1 e Q q => by
  have hW1 := hW.ex e
  obtain ⟨dx, ts, hp, hl, hw⟩ := hW1
  exact ⟨.ref p, h0, p, dx, _, rfl, hp, wf_no (by decide) (by decide) (by decide), p, num, ws, i, x, rfl, ⟨dx, ts, hp, hl, hw⟩, hx, fun H3 e3 => q H3 e3⟩
theorem py_takeIf {t : TE} {k : Str} {i : Nat} (h0 : σ[0]? = some (some (.ref p))) (h : Ev t σ H (.str k)) (hW : WAt C.W H p num ws i) : Py C p num ws E (tMeth C.W "take_if" (spTakeIf C) [] E (tVar 0) (tCons t tNil)) σ H RBl (takeIfM ws k i) := fun Q ac => by
  obtain ⟨dx, ts, hp, hl, hw⟩ := hW
  exact ⟨.ref p, h0, p, dx, _, rfl, hp, wf_no (by decide) (by decide) (by decide), h H (Ex.refl H) _ fun H2 e2 => ⟨p, num, ws, i, k, rfl, WAt.ex ⟨dx, ts, hp, hl, hw⟩ e2, ac.fr (Fr.ex e2)⟩⟩
def REq : Hp → Bool → Bool → Prop := fun _ v a => v = a
theorem py_test {t : TE} {x : Res Bool} (h : Py C p num ws E t σ H RBl x) : Py C p num ws E (tTest t) σ H REq x := fun Q ac => h _ (by
  match x, ac with
  | some (.inl c), ac => exact ac
  | some (.inr (a, j)), ac => exact fun v H' f x r => ⟨a, r, ac a H' f x rfl⟩)
/-! ### defs of one parameter, of two -/
def spG (C : Cn P w K mg base) (R : Hp → V → α → Prop) (m : List Wd → Nat → Res α) : Sp := fun vs H Q E => ∃ p num ws i, vs = [.ref p] ∧ WAt C.W H p num ws i ∧ Acc C p num ws H Q E R (m ws i)
def spG2 (C : Cn P w K mg base) (R : Hp → V → α → Prop) (m : List Wd → PyData → Nat → Res α) : Sp := fun vs H Q E => ∃ p num ws i d v, vs = [.ref p, v] ∧ WAt C.W H p num ws i ∧ DT H d v ∧ Acc C p num ws H Q E R (m ws d i)
theorem py_call {R : Hp → V → α → Prop} {m : List Wd → Nat → Res α} {i : Nat} (h0 : σ[0]? = some (some (.ref p))) (hW : WAt C.W H p num ws i) : Py C p num ws E (tCall (spG C R m) [] E (tCons (tVar 0) tNil)) σ H R (m ws i) := fun Q ac => ⟨.ref p, h0, p, num, ws, i, rfl, hW, ac⟩
theorem py_call2 {R : Hp → V → α → Prop} {m : List Wd → PyData → Nat → Res α} {t : TE} {x : Res PyData} (h0 : σ[0]? = some (some (.ref p))) (h : Py C p num ws E t σ H RD x) : Py C p num ws E (tCall (spG2 C R m) [] E (tCons (tVar 0) (tCons t tNil))) σ H R (andThen x fun d j => m ws d j) := fun Q ac =>
  ⟨.ref p, h0, h _ (Acc.bind (R2 := RD) ac (Fr.refl p H) fun a j ac2 v H2 f1 f2 hW r => ⟨p, num, ws, j, a, v, rfl, hW, r, ac2.fr f1⟩)⟩
/-! ### statements -/
variable {D : Ends} {tz tu : TS} {Q : VK} {R : Hp → V → α → Prop}
theorem q_py {t : TE} {k : Nat} {x : Res α2} {R2 : Hp → V → α2 → Prop} {f : α2 → Nat → Res α} (h : Py C p num ws E t σ H1 R2 x) (ac : Acc C p num ws H Q E R (andThen x f)) (fr : Fr p H H1)
    (n : ∀ a j, Acc C p num ws H Q E R (f a j) → ∀ v H2, Fr p H H2 → Fr p H1 H2 → WAt C.W H2 p num ws j → R2 H2 v a → tz D (σ.set k (some v)) H2) : tSeq (tAsg t (gName k)) tz D σ H1 := h _ (Acc.bind ac fr n)
theorem q_pyDrop {t : TE} {x : Res α2} {R2 : Hp → V → α2 → Prop} {f : α2 → Nat → Res α} (h : Py C p num ws E t σ H1 R2 x) (ac : Acc C p num ws H Q E R (andThen x f)) (fr : Fr p H H1)
    (n : ∀ a j, Acc C p num ws H Q E R (f a j) → ∀ v H2, Fr p H H2 → Fr p H1 H2 → WAt C.W H2 p num ws j → R2 H2 v a → tz D σ H2) : tSeq (tDrop t) tz D σ H1 := h _ (Acc.bind ac fr n)
theorem q_pyIf {t : TT} {x : Res Bool} {f : Bool → Nat → Res α} (h : Py C p num ws E t σ H1 REq x) (ac : Acc C p num ws H Q E R (andThen x f)) (fr : Fr p H H1)
    (y : ∀ j, Acc C p num ws H Q E R (f true j) → ∀ H2, Fr p H H2 → Fr p H1 H2 → WAt C.W H2 p num ws j → tu { D with nx := tz D } σ H2)
    (n : ∀ j, Acc C p num ws H Q E R (f false j) → ∀ H2, Fr p H H2 → Fr p H1 H2 → WAt C.W H2 p num ws j → tz D σ H2) : tSeq (tIfS t tu tNext) tz D σ H1 := h _ (Acc.bind (R2 := REq) ac fr fun a j ac2 v H2 f1 f2 hW r => by
  cases r
  cases a with
  | true => exact y j ac2 H2 f1 f2 hW
  | false => exact n j ac2 H2 f1 f2 hW)
theorem s_pyRet {t : TE} {x : Res α} (h : Py C p num ws E t σ H1 R x) (ac : Acc C p num ws H Q E R x) (fr : Fr p H H1) (e : D.rt = Q) : tRet t D σ H1 := by
  show t σ H1 D.rt
  rw [e]
  exact h _ (ac.fr fr)
end
end Prs
set_option Elab.async false
set_option linter.all false
set_option maxRecDepth 100000
set_option maxHeartbeats 4000000
namespace Prs
open PySem PySem.Spec PyProof.Rows L2 Evl
abbrev sPart : Stmt := top 34
abbrev sRest : Stmt := top 35
abbrev sTerm : Stmt := top 36
abbrev sComp : Stmt := top 37
/-! ### the mirror of terms -/
abbrev Rd' (α : Type) := List Wd → Nat → Res α
def numM (w : Str) : Option Int := if w.length ≤ 640 then intText? w else none
def sumsOf (z : Str) : Option Str := if z = "+" then some "sum" else if z = "-" then some "less" else none
def compsOf (z : Str) : Option Str := if z = "<" then some "below" else if z = "=" then some "same" else none
def stuck {α : Type} : Res α := none
def told {α : Type} (a : α) (j : Nat) : Res α := some (.inr (a, j))
def restGo (pt : Rd' PyData) (ws : List Wd) : Nat → PyData → Nat → Res PyData
  | 0, _, _ => none
  | n + 1, d, i => match ws[i]? with
    | none => none
    | some x => if (sumsOf x.kind).isSome then andThen (takeM ws ["+", "-"] i) fun s j => match sumsOf s with
        | none => none
        | some t => andThen (mapR (fun e => PyData.tuple [.str t, d, e]) (pt ws j)) fun e j => restGo pt ws n e j
      else told d i
def restM (pt : Rd' PyData) (ws : List Wd) (d : PyData) (i : Nat) : Res PyData := restGo pt ws (ws.length + 1) d i
def termM (pt : Rd' PyData) (ws : List Wd) (i : Nat) : Res PyData := andThen (pt ws i) fun d j => restM pt ws d j
def partS (pt : Rd' PyData) (ws : List Wd) (i : Nat) : Res PyData :=
  match ws[i]? with
  | none => none
  | some x => andThen (takeM ws ["a number", "a name", "("] i) fun w j =>
    if decide (V.str x.kind = V.str "a number") then (match numM w with | none => none | some k => told (.tuple [.str "num", .int k]) j)
    else if decide (V.str x.kind = V.str "a name") then told (.tuple [.str "fact", .str w]) j
    else andThen (termM pt ws j) fun t j => andThen (takeM ws [")"] j) fun _ j => told t j
def partM : Nat → Rd' PyData
  | 0 => fun _ _ => none
  | n + 1 => partS (partM n)
def compM (pt : Rd' PyData) (ws : List Wd) (d : PyData) (i : Nat) : Res PyData :=
  andThen (takeM ws ["<", "="] i) fun s j => match compsOf s with
    | none => none
    | some t => mapR (fun e => PyData.tuple [.str t, d, e]) (termM pt ws j)
/-- a dict of the module, text to text -/
structure KD2 (K : PySem.W.Frag) (w : World) (a : Addr) (f : Str → Option Str) : Prop where
  d : ∃ es n, KDict K w a es n
  at_ : ∀ z, ∃ r, PySem.W.nsIn K a z = some r ∧ r.isSome = (f z).isSome ∧ ∀ y, f z = some y → ∃ t, r = some (.str y t)
/-- a def of the module's top -/
structure Df (K : PySem.W.Frag) (mg : Str → Option Value) (x : Str) (st : Stmt) (ps : List Str) where
  f : Addr
  fd : FuncData
  F : Fun K x x st f fd
  m : mg x = some (.ref f)
  b : Binds K fd ps []
/-- the words' methods, the names of the module -/
structure Tl {P : Program} {w : World} {K : PySem.W.Frag} {mg : Str → Option Value} {base : Heap} (C : Cn P w K mg base) where
  aT : Addr
  FT : FnR P w K mg base (L2.CX P w) 4 aT (spTake C)
  mT : Meth K C.W "take" aT
  aA : Addr
  fdA : FuncData
  GA : FnOk P w K mg base CX0 1 aA fdA ["self"] (spAhead C)
  bA : Binds K fdA ["self"] []
  mA : Meth K C.W "ahead" aA
  aI : Addr
  fdI : FuncData
  GI : FnOk P w K mg base CX0 2 aI fdI ["self", "kind"] (spTakeIf C)
  bI : Binds K fdI ["self", "kind"] []
  mI : Meth K C.W "take_if" aI
  gN : ∃ t, mg "NUMBER" = some (.str "a number" t)
  gA : ∃ t, mg "NAME" = some (.str "a name" t)
  gI : mg "int" = none
  aS : Addr
  gS : mg "SUMS" = some (.ref aS)
  dS : KD2 K w aS sumsOf
  aC : Addr
  gC : mg "COMPARED" = some (.ref aC)
  dC : KD2 K w aC compsOf
section
variable {P : Program} {w : World} {K : PySem.W.Frag} {mg : Str → Option Value} {base : Heap} {C : Cn P w K mg base}
theorem KD2.kdct {a : Addr} {f : Str → Option Str} (D : KD2 K w a f) {z y : Str} (h : f z = some y) : KDct K w a z (.str y) := by
  obtain ⟨es, n, D1⟩ := D.d
  obtain ⟨r, h1, _, h3⟩ := D.at_ z
  obtain ⟨t, rfl⟩ := h3 y h
  exact ⟨es, n, _, D1.at_, D1.lit, h1, ⟨t, rfl⟩⟩
theorem rv_ixD {a : Addr} {f : Str → Option Str} (D : KD2 K w a f) {z y : Str} {H : Hp} (h : f z = some y) : RV (rIxD K w) (.ref a) (.str z) H (.str y) := fun H1 _ _ q => ⟨a, z, .str y, rfl, rfl, D.kdct h, q H1 (Ex.refl H1)⟩
theorem rv_inD {a : Addr} {f : Str → Option Str} (D : KD2 K w a f) {z : Str} {H : Hp} : RV (fun x y H Q => ∃ (z : Str) (r : Option Value), x = .str z ∧ y = .ref a ∧ PySem.W.nsIn K a z = some r ∧ Q (.bl r.isSome) H) (.str z) (.ref a) H (.bl (f z).isSome) := fun H1 _ Q q => by
  obtain ⟨r, h1, h2, _⟩ := D.at_ z
  exact ⟨z, r, rfl, rfl, h1, by rw [h2]; exact q H1 (Ex.refl H1)⟩
theorem ev_int {σ : L2.St} {H : Hp} {t : TE} {a : Str} {n : Int} (h : Ev t σ H (.str a)) (hn : numM a = some n) : Ev (tCB (fun xs H Q => ∃ a n, xs = [.str a] ∧ PySem.intText? a = some n ∧ a.length ≤ 640 ∧ Q (.int n) H) (tCons t tNil)) σ H (.int n) := fun H1 e Q q => by
  unfold numM at hn
  split at hn
  · rename_i hl
    exact h H1 e _ fun H2 e2 => ⟨a, n, rfl, hn, hl, q H2 e2⟩
  · cases hn
/-! ### read_part -/
theorem scPart : FnScope ["words", "kind", "word", "term"] ["words"] (defScope sPart) := ⟨rfl, rfl, rfl, by decide +kernel, rfl, by decide +kernel, by decide +kernel⟩
theorem ok_part {pt : Rd' PyData} {L : Nat} (hL : 4 ≤ L) (T : Tl C) (D : Df K mg "read_part" sPart ["words"]) (DT' : Df K mg "read_term" sTerm ["words"]) (GT : FnOk P w K mg base (L2.CX P w) L DT'.f DT'.fd ["words"] (spG C RD (termM pt))) :
    FnOk P w K mg base (L2.CX P w) (L + 1) D.f D.fd ["words"] (spG C RD (partS pt)) := by
  obtain ⟨_, gN⟩ := T.gN
  obtain ⟨_, gA⟩ := T.gA
  refine D.F.okX scPart (fun vs H Q E h => ?_) (fun cdv A outer s0 H vs Q E hr h => ?_)
  · obtain ⟨p, num, ws, i, rfl, _⟩ := h
    rfl
  · obtain ⟨p, num, ws, i, rfl, hW, ac⟩ := h
    have hr4 : Room 4 (A.deeper (envOfC "read_part" (defScope sPart) s0.heap.objs.size D.f cdv)) := hr.mono hL
    have hr1 : Room 1 (A.deeper (envOfC "read_part" (defScope sPart) s0.heap.objs.size D.f cdv)) := hr.mono (by omega)
    refine ⟨_, pss_cons (ps_set (i := 1) scPart.nd rfl (.inl rfl) (pe_meth0 (pv 0) C.cl T.mA T.GA hr1 T.bA .nil (passAny (E := E))))
      (pss_cons (ps_set (i := 2) scPart.nd rfl (.inl rfl) (pe_methR (pv 0) C.cl T.mT T.FT hr4 (passes_call (takes_of rfl rfl rfl rfl) fun _ _ _ _ h => h) (pa_cons (pe_glob (v := .str "a number") rfl gN ⟨_, rfl⟩) (pa_cons (pe_glob (v := .str "a name") rfl gA ⟨_, rfl⟩) (pa_cons pe_str pa_nil)))))
      (pss_cons (ps_if (pt_cmpR op_eq (pv 1) (pe_glob (v := .str "a number") rfl gN ⟨_, rfl⟩) (nomark _)) (pss_one (ps_ret (pe_tup (pa_cons pe_str (pa_cons (pe_callTy call_int_str rfl T.gI rfl (pa_cons (pv 2) pa_nil)) pa_nil))))) pss_nil)
      (pss_cons (ps_if (pt_cmpR op_eq (pv 1) (pe_glob (v := .str "a name") rfl gA ⟨_, rfl⟩) (nomark _)) (pss_one (ps_ret (pe_tup (pa_cons pe_str (pa_cons (pv 2) pa_nil))))) pss_nil)
      (pss_cons (ps_set (i := 3) scPart.nd rfl (.inl rfl) (pe_call GT hr rfl DT'.m DT'.F.kp DT'.b .nil (passes_call (takes_of rfl rfl rfl rfl) fun _ _ _ _ h => h) (pa_cons (pv 0) pa_nil)))
      (pss_cons (ps_expr (pe_methR (pv 0) C.cl T.mT T.FT hr4 (passes_call (takes_of rfl rfl rfl rfl) fun _ _ _ _ h => h) (pa_cons pe_str pa_nil)))
      (pss_one (ps_ret (pv 3)))))))), ?_⟩
    unfold partS at ac
    cases hx : ws[i]? with
    | none =>
      rw [hx] at ac
      exact ac.elim
    | some x =>
      rw [hx] at ac
      refine q_asg (v := .str x.kind) (ev_ahead rfl hW hx) fun H1 e1 => ?_
      refine q_py (py_take (ks := ["a number", "a name", "("]) rfl (ea_cons ev_c (ea_cons ev_c (ea_cons ev_c ea_nil))) (hW.ex e1)) ac (Fr.ex e1) fun wd j ac v H2 f2 _ hW2 r => ?_
      subst r
      refine q_when (b := decide (V.str x.kind = V.str "a number")) (et_test (ev_op (ev_var rfl) ev_c (rv_eq rfl))) (fun hb H3 e3 => ?_) (fun hb H3 e3 => ?_)
      · simp only [hb, if_true] at ac
        cases hn : numM wd with
        | none =>
          rw [hn] at ac
          exact ac.elim
        | some k =>
          rw [hn] at ac
          refine s_pyRet (x := told (.tuple [.str "num", .int k]) j) (py_is (py_tup (py_cons (v := .str "num") (d := .str "num") ev_c (hW2.ex e3) dt_str fun H' e' hW' => py_cons (v := .int k) (d := .int k) (ev_int (ev_var rfl) hn) hW' dt_int fun H' e' hW' => py_nil hW') ?_) rfl) ac (f2.trans (Fr.ex e3)) rfl
          intro a j e
          cases e
          show 2 ≤ 100000
          decide
      simp only [hb, Bool.false_eq_true, if_false] at ac
      refine q_when (b := decide (V.str x.kind = V.str "a name")) (et_test (ev_op (ev_var rfl) ev_c (rv_eq rfl))) (fun hc H4 e4 => ?_) (fun hc H4 e4 => ?_)
      · simp only [hc, if_true] at ac
        refine s_pyRet (x := told (.tuple [.str "fact", .str wd]) j) (py_is (py_tup (py_cons (v := .str "fact") (d := .str "fact") ev_c ((hW2.ex e3).ex e4) dt_str fun H' e' hW' => py_cons (v := .str wd) (d := .str wd) (ev_var rfl) hW' dt_str fun H' e' hW' => py_nil hW') ?_) rfl) ac ((f2.trans (Fr.ex e3)).trans (Fr.ex e4)) rfl
        intro a j e
        cases e
        show 2 ≤ 100000
        decide
      simp only [hc, Bool.false_eq_true, if_false] at ac
      refine q_py (py_call (m := termM pt) rfl ((hW2.ex e3).ex e4)) ac ((f2.trans (Fr.ex e3)).trans (Fr.ex e4)) fun t j2 ac v H5 f5 _ hW5 r => ?_
      refine q_pyDrop (py_take (ks := [")"]) rfl (ea_cons ev_c ea_nil) hW5) ac f5 fun _ j3 ac v2 H6 f6 g6 hW6 _ => ?_
      exact s_ret (v := v) (D := { nx := _, rt := Q }) (ev_var rfl) fun H7 e7 => Acc.ret (R := RD) ac (f6.trans (Fr.ex e7)) (hW6.ex e7) (DT.tf (TF.ex e7) _ _ (DT.tf (hW5.tf g6) _ _ r))
/-! ### rest_of_term -/
theorem s_py {p : Addr} {num : Nm} {ws : List Wd} {E : XK} {σ : L2.St} {H H1 : Hp} {α α2 : Type} {D : Ends} {Q : VK} {R : Hp → V → α → Prop} {t : TE} {k : Nat} {x : Res α2} {R2 : Hp → V → α2 → Prop} {f : α2 → Nat → Res α} (h : Py C p num ws E t σ H1 R2 x) (ac : Acc C p num ws H Q E R (andThen x f)) (fr : Fr p H H1)
    (n : ∀ a j, Acc C p num ws H Q E R (f a j) → ∀ v H2, Fr p H H2 → Fr p H1 H2 → WAt C.W H2 p num ws j → R2 H2 v a → D.nx (σ.set k (some v)) H2) : tAsg t (gName k) D σ H1 := h _ (Acc.bind ac fr n)
theorem scRest : FnScope ["words", "term", "sign"] ["words", "term"] (defScope sRest) := ⟨rfl, rfl, rfl, by decide +kernel, rfl, by decide +kernel, by decide +kernel⟩
theorem tup3 {p : Addr} {num : Nm} {ws : List Wd} {E : XK} {σ : L2.St} {H : Hp} {t1 t2 t3 : TE} {a : Str} {d : PyData} {v : V} {i : Nat} {x : Res PyData} (h1 : Ev t1 σ H (.str a)) (h2 : ∀ H', Ex H H' → Ev t2 σ H' v) (hd : DT H d v) (hW : WAt C.W H p num ws i) (h3 : ∀ H', Ex H H' → WAt C.W H' p num ws i → Py C p num ws E t3 σ H' RD x) :
    Py C p num ws E (tTup (tCons t1 (tCons t2 (tCons t3 tNil)))) σ H RD (mapR (fun e => PyData.tuple [.str a, d, e]) x) := by
  refine py_is (py_tup (py_cons (d := .str a) h1 hW dt_str fun H1 e1 hW1 => py_cons (d := d) (h2 H1 e1) hW1 (DT.tf (TF.ex e1) _ _ hd) fun H2 e2 hW2 => py_last (h3 H2 (Ex.trans e1 e2) hW2)) ?_) ?_
  · rw [mapR_mapR, mapR_mapR]
    exact mapR_len fun _ => by
      show 3 ≤ 100000
      decide
  · rw [mapR_mapR, mapR_mapR, mapR_mapR]
theorem tup2 {p : Addr} {num : Nm} {ws : List Wd} {E : XK} {σ : L2.St} {H : Hp} {t1 t3 : TE} {a : Str} {i : Nat} {x : Res PyData} (h1 : Ev t1 σ H (.str a)) (hW : WAt C.W H p num ws i) (h3 : ∀ H', Ex H H' → WAt C.W H' p num ws i → Py C p num ws E t3 σ H' RD x) :
    Py C p num ws E (tTup (tCons t1 (tCons t3 tNil))) σ H RD (mapR (fun e => PyData.tuple [.str a, e]) x) := by
  refine py_is (py_tup (py_cons (d := .str a) h1 hW dt_str fun H1 e1 hW1 => py_last (h3 H1 e1 hW1)) ?_) ?_
  · rw [mapR_mapR]
    exact mapR_len fun _ => by
      show 2 ≤ 100000
      decide
  · rw [mapR_mapR, mapR_mapR]
theorem ok_rest {pt : Rd' PyData} {L : Nat} (hL : 4 ≤ L) (T : Tl C) (D : Df K mg "rest_of_term" sRest ["words", "term"]) (DP : Df K mg "read_part" sPart ["words"]) (GP : FnOk P w K mg base (L2.CX P w) L DP.f DP.fd ["words"] (spG C RD pt)) :
    FnOk P w K mg base (L2.CX P w) (L + 1) D.f D.fd ["words", "term"] (spG2 C RD (restM pt)) := by
  refine D.F.okX scRest (fun vs H Q E h => ?_) (fun cdv A outer s0 H vs Q E hr h => ?_)
  · obtain ⟨p, num, ws, i, d, v, rfl, _⟩ := h
    rfl
  · obtain ⟨p, num, ws, i, d, v, rfl, hW, hd, ac⟩ := h
    have hr4 : Room 4 (A.deeper (envOfC "rest_of_term" (defScope sRest) s0.heap.objs.size D.f cdv)) := hr.mono hL
    have hr1 : Room 1 (A.deeper (envOfC "rest_of_term" (defScope sRest) s0.heap.objs.size D.f cdv)) := hr.mono (by omega)
    obtain ⟨es, n, kd⟩ := T.dS.d
    refine ⟨_, pss_cons (ps_while (passes_of rfl) (pt_cmpR (op_in_kd kd) (pe_meth0 (pv 0) C.cl T.mA T.GA hr1 T.bA .nil (passAny (E := E))) (pe_glob (v := .ref T.aS) rfl T.gS rfl) (by rfl))
        (pss_cons (ps_set (i := 2) scRest.nd rfl (.inl rfl) (pe_methR (pv 0) C.cl T.mT T.FT hr4 (passes_call (takes_of rfl rfl rfl rfl) fun _ _ _ _ h => h) (pa_cons pe_str (pa_cons pe_str pa_nil))))
        (pss_one (ps_set (i := 1) scRest.nd rfl (.inl rfl) (pe_tup (pa_cons (pe_ix ix_kdict (pe_glob (v := .ref T.aS) rfl T.gS rfl) (pv 2) (fun _ _ => rfl)) (pa_cons (pv 1) (pa_cons (pe_call GP hr rfl DP.m DP.F.kp DP.b .nil (passes_call (takes_of rfl rfl rfl rfl) fun _ _ _ _ h => h) (pa_cons (pv 0) pa_nil)) pa_nil))))))))
      (pss_one (ps_ret (pv 1))), ?_⟩
    refine ⟨fun m σ' H' => ∃ d v i s3, Fr p H H' ∧ WAt C.W H' p num ws i ∧ DT H' d v ∧ σ' = [some (.ref p), some v, s3] ∧ Acc C p num ws H Q E RD (restGo pt ws m d i), ⟨ws.length + 1, d, v, i, none, Fr.refl p H, hW, hd, rfl, ac⟩, ?_⟩
    rintro m σ' H' ⟨d, v, i, s3, f1, hW, hd, rfl, ac⟩
    cases m with
    | zero => exact ac.elim
    | succ m =>
      unfold restGo at ac
      cases hx : ws[i]? with
      | none =>
        rw [hx] at ac
        exact ac.elim
      | some x =>
        rw [hx] at ac
        refine (et_test (ev_op (ev_ahead rfl hW hx) ev_c (rv_inD T.dS)) : EvT _ _ H' (sumsOf x.kind).isSome) H' (Ex.refl H') _ fun H1 e1 => ?_
        cases hb : (sumsOf x.kind).isSome with
        | true =>
          simp only [hb, if_true] at ac ⊢
          refine ⟨fun σ2 H2 => ∃ d v i s3, Fr p H H2 ∧ WAt C.W H2 p num ws i ∧ DT H2 d v ∧ σ2 = [some (.ref p), some v, s3] ∧ Acc C p num ws H Q E RD (restGo pt ws m d i), fun σ2 H2 z => ⟨m, Nat.lt_succ_self _, z⟩, ?_⟩
          refine q_py (py_take (ks := ["+", "-"]) rfl (ea_cons ev_c (ea_cons ev_c ea_nil)) (hW.ex e1)) ac (f1.trans (Fr.ex e1)) fun sg j ac v2 H2 f2 g2 hW2 r => ?_
          subst r
          cases hs : sumsOf sg with
          | none =>
            rw [hs] at ac
            exact ac.elim
          | some t =>
            rw [hs] at ac
            have hd2 : DT H2 d v := DT.tf ((hW.ex e1).tf g2) _ _ (DT.tf (TF.ex e1) _ _ hd)
            refine s_py (tup3 (ev_op ev_c (ev_var rfl) (rv_ixD T.dS hs)) (fun _ _ => ev_var rfl) hd2 hW2 fun H3 e3 hW3 => py_call rfl hW3) ac f2 fun e j2 ac v3 H3 f3 g3 hW3 r => ?_
            exact ⟨_, v3, j2, _, f3, hW3, r, rfl, ac⟩
        | false =>
          simp only [hb, Bool.false_eq_true, if_false] at ac ⊢
          exact s_ret (v := v) (D := { nx := _, rt := Q }) (ev_var rfl) fun H7 e7 => Acc.ret (R := RD) ac ((f1.trans (Fr.ex e1)).trans (Fr.ex e7)) ((hW.ex e1).ex e7) (DT.tf (TF.ex e7) _ _ (DT.tf (TF.ex e1) _ _ hd))
/-! ### read_term, rest_of_comparison -/
theorem scTerm : FnScope ["words"] ["words"] (defScope sTerm) := ⟨rfl, rfl, rfl, by decide +kernel, rfl, by decide +kernel, by decide +kernel⟩
theorem ok_term {pt : Rd' PyData} {L : Nat} (hL : 4 ≤ L) (D : Df K mg "read_term" sTerm ["words"]) (DR : Df K mg "rest_of_term" sRest ["words", "term"]) (DP : Df K mg "read_part" sPart ["words"]) (GP : FnOk P w K mg base (L2.CX P w) L DP.f DP.fd ["words"] (spG C RD pt))
    (GR : FnOk P w K mg base (L2.CX P w) (L + 1) DR.f DR.fd ["words", "term"] (spG2 C RD (restM pt))) : FnOk P w K mg base (L2.CX P w) (L + 2) D.f D.fd ["words"] (spG C RD (termM pt)) := by
  refine D.F.okX scTerm (fun vs H Q E h => ?_) (fun cdv A outer s0 H vs Q E hr h => ?_)
  · obtain ⟨p, num, ws, i, rfl, _⟩ := h
    rfl
  · obtain ⟨p, num, ws, i, rfl, hW, ac⟩ := h
    refine ⟨_, pss_one (ps_ret (pe_call GR hr rfl DR.m DR.F.kp DR.b .nil (passes_call (takes_of rfl rfl rfl rfl) fun _ _ _ _ h => h) (pa_cons (pv 0) (pa_cons (pe_call GP (hr.mono (by omega)) rfl DP.m DP.F.kp DP.b .nil (passes_call (takes_of rfl rfl rfl rfl) fun _ _ _ _ h => h) (pa_cons (pv 0) pa_nil)) pa_nil)))), ?_⟩
    exact s_pyRet (py_call2 (m := restM pt) rfl (py_call rfl hW)) ac (Fr.refl p H) rfl
theorem scComp : FnScope ["words", "term", "sign"] ["words", "term"] (defScope sComp) := ⟨rfl, rfl, rfl, by decide +kernel, rfl, by decide +kernel, by decide +kernel⟩
theorem ok_comp {pt : Rd' PyData} {L : Nat} (hL : 4 ≤ L) (T : Tl C) (D : Df K mg "rest_of_comparison" sComp ["words", "term"]) (DT' : Df K mg "read_term" sTerm ["words"]) (GT : FnOk P w K mg base (L2.CX P w) L DT'.f DT'.fd ["words"] (spG C RD (termM pt))) :
    FnOk P w K mg base (L2.CX P w) (L + 1) D.f D.fd ["words", "term"] (spG2 C RD (compM pt)) := by
  refine D.F.okX scComp (fun vs H Q E h => ?_) (fun cdv A outer s0 H vs Q E hr h => ?_)
  · obtain ⟨p, num, ws, i, d, v, rfl, _⟩ := h
    rfl
  · obtain ⟨p, num, ws, i, d, v, rfl, hW, hd, ac⟩ := h
    refine ⟨_, pss_cons (ps_set (i := 2) scComp.nd rfl (.inl rfl) (pe_methR (pv 0) C.cl T.mT T.FT (hr.mono hL) (passes_call (takes_of rfl rfl rfl rfl) fun _ _ _ _ h => h) (pa_cons pe_str (pa_cons pe_str pa_nil))))
      (pss_one (ps_ret (pe_tup (pa_cons (pe_ix ix_kdict (pe_glob (v := .ref T.aC) rfl T.gC rfl) (pv 2) (fun _ _ => rfl)) (pa_cons (pv 1) (pa_cons (pe_call GT hr rfl DT'.m DT'.F.kp DT'.b .nil (passes_call (takes_of rfl rfl rfl rfl) fun _ _ _ _ h => h) (pa_cons (pv 0) pa_nil)) pa_nil)))))), ?_⟩
    refine q_py (py_take (ks := ["<", "="]) rfl (ea_cons ev_c (ea_cons ev_c ea_nil)) hW) ac (Fr.refl p H) fun sg j ac v2 H2 f2 g2 hW2 r => ?_
    subst r
    cases hs : compsOf sg with
    | none =>
      rw [hs] at ac
      exact ac.elim
    | some t =>
      rw [hs] at ac
      exact s_pyRet (tup3 (ev_op ev_c (ev_var rfl) (rv_ixD T.dC hs)) (fun _ _ => ev_var rfl) (DT.tf (hW.tf g2) _ _ hd) hW2 fun H3 e3 hW3 => py_call (m := termM pt) rfl hW3) ac f2 rfl
end
end Prs
set_option Elab.async false
set_option linter.all false
set_option maxRecDepth 100000
set_option maxHeartbeats 4000000
namespace Prs
open PySem PySem.Spec PyProof.Rows L2 Evl
abbrev sEither : Stmt := top 38
abbrev sBracket : Stmt := top 39
abbrev sOne : Stmt := top 40
abbrev sBoth : Stmt := top 41
abbrev sRGuard : Stmt := top 42
abbrev sGuard : Stmt := top 43
abbrev BD := Bool × PyData
def RBD : Hp → V → BD → Prop := fun H v bd => ∃ a u, v = .ref a ∧ H a = some (.tup [.bl bd.1, u]) ∧ DT H bd.2 u
/-! ### the mirror of guards -/
def eitherM (pt : Rd' PyData) (br : Rd' BD) (ws : List Wd) (i : Nat) : Res BD :=
  match ws[i]? with
  | none => none
  | some x => if !decide (V.str x.kind = V.str "(") then mapR (fun d => (true, d)) (andThen (pt ws i) fun d j => restM pt ws d j)
    else andThen (br ws i) fun bd j => if bd.1 then mapR (fun d => (true, d)) (restM pt ws bd.2 j) else told bd j
def bothGo (one : Rd' PyData) (ws : List Wd) : Nat → PyData → Nat → Res PyData
  | 0, _, _ => none
  | n + 1, d, i => andThen (takeIfM ws "and" i) fun b j => if b then andThen (mapR (fun e => PyData.tuple [.str "both", d, e]) (one ws j)) fun e j => bothGo one ws n e j else told d j
def bothM (one : Rd' PyData) (ws : List Wd) (d : PyData) (i : Nat) : Res PyData := bothGo one ws (ws.length + 1) d i
def guardGo (one : Rd' PyData) (ws : List Wd) : Nat → PyData → Nat → Res PyData
  | 0, _, _ => none
  | n + 1, d, i => andThen (takeIfM ws "or" i) fun b j => if b then andThen (mapR (fun e => PyData.tuple [.str "either", d, e]) (andThen (one ws j) fun e j => bothM one ws e j)) fun e j => guardGo one ws n e j else told d j
def rguardM (one : Rd' PyData) (ws : List Wd) (d : PyData) (i : Nat) : Res PyData := andThen (bothM one ws d i) fun d j => guardGo one ws (ws.length + 1) d j
def guardM (one : Rd' PyData) (ws : List Wd) (i : Nat) : Res PyData := andThen (one ws i) fun d j => rguardM one ws d j
def notTerm : List Str := ["not", "yes", "in"]
def br5 (ws : List Wd) (bd : BD) (j : Nat) : Res BD := andThen (takeM ws [")"] j) fun _ j => told bd j
def br4 (one : Rd' PyData) (ws : List Wd) (bd : BD) (j : Nat) : Res BD := andThen (if !bd.1 then mapR (fun d => (false, d)) (rguardM one ws bd.2 j) else told bd j) (br5 ws)
def br3 (pt : Rd' PyData) (one : Rd' PyData) (ws : List Wd) (bd : BD) (j : Nat) : Res BD := andThen (if bd.1 then (match ws[j]? with
      | none => none
      | some y => if !decide (V.str y.kind = V.str ")") then mapR (fun d => (false, d)) (compM pt ws bd.2 j) else told bd j) else told bd j) (br4 one ws)
def bracketS (pt : Rd' PyData) (br : Rd' BD) (one : Rd' PyData) (ws : List Wd) (i : Nat) : Res BD :=
  andThen (takeM ws ["("] i) fun _ j => match ws[j]? with
  | none => none
  | some x => andThen (if !inV (.str x.kind) (notTerm.map V.str) then eitherM pt br ws j else mapR (fun d => (false, d)) (one ws j)) (br3 pt one ws)
def oneS (pt : Rd' PyData) (br : Rd' BD) (one : Rd' PyData) (ws : List Wd) (i : Nat) : Res PyData :=
  andThen (takeIfM ws "not" i) fun b j => if b then mapR (fun e => PyData.tuple [.str "not", e]) (one ws j) else
  andThen (takeIfM ws "yes" j) fun b j => if b then told (.tuple [.str "yes"]) j else
  andThen (takeIfM ws "in" j) fun b j => if b then mapR (fun e => PyData.tuple [.str "in", e]) (mapR PyData.str (takeM ws ["a name"] j)) else
  andThen (eitherM pt br ws j) fun bd j => if bd.1 then compM pt ws bd.2 j else told bd.2 j
def brOne : Nat → Rd' BD × Rd' PyData
  | 0 => (fun _ _ => none, fun _ _ => none)
  | n + 1 => (bracketS (partM n) (brOne n).1 (brOne n).2, oneS (partM n) (brOne n).1 (brOne n).2)
section
variable {P : Program} {w : World} {K : PySem.W.Frag} {mg : Str → Option Value} {base : Heap} {C : Cn P w K mg base}
section
variable {p : Addr} {num : Nm} {ws : List Wd} {E : XK} {σ : L2.St} {H H1 : Hp} {α α2 α3 β γ δ : Type} {D : Ends} {tz tu : TS} {Q : VK} {R : Hp → V → α → Prop}
theorem py_conv {t : L2.St → Hp → (β → Hp → Prop) → Prop} {R1 : Hp → β → α2 → Prop} {R2 : Hp → β → α3 → Prop} {x : Res α} {g : α → α2} {g2 : α → α3} (h : Py C p num ws E t σ H R1 (mapR g x)) (k : ∀ H v a, R1 H v (g a) → R2 H v (g2 a)) : Py C p num ws E t σ H R2 (mapR g2 x) := fun Q ac => h Q (by
  match x, ac with
  | some (.inl c), ac => exact ac
  | some (.inr (a, j)), ac => exact fun v H' f x r => ac v H' f x (k _ _ _ r))
theorem rbd_of {H : Hp} {v : V} {b : Bool} {d : PyData} (h : DT H (.tuple [.bool b, d]) v) : RBD H v (b, d) := by
  unfold DT at h
  obtain ⟨a, vs, rfl, h1, h2⟩ := h
  unfold DTs at h2
  obtain ⟨v1, r, rfl, h3, h4⟩ := h2
  unfold DTs at h4
  obtain ⟨v2, r, rfl, h5, h6⟩ := h4
  unfold DTs at h6
  subst h6
  unfold DT at h3
  subst h3
  exact ⟨a, v2, rfl, h1, h5⟩
theorem dt_bool {H : Hp} {s : Bool} : DT H (.bool s) (.bl s) := by unfold DT; rfl
/-- (b, a thing read) -/
theorem tupB {t1 t3 : TE} {b : Bool} {i : Nat} {x : Res PyData} (h1 : Ev t1 σ H (.bl b)) (hW : WAt C.W H p num ws i) (h3 : ∀ H', Ex H H' → WAt C.W H' p num ws i → Py C p num ws E t3 σ H' RD x) :
    Py C p num ws E (tTup (tCons t1 (tCons t3 tNil))) σ H RBD (mapR (fun e => (b, e)) x) := by
  refine py_conv (R1 := RD) (g := fun e => PyData.tuple [.bool b, e]) (py_is (py_tup (py_cons (d := .bool b) h1 hW dt_bool fun H1 e1 hW1 => py_last (h3 H1 e1 hW1)) ?_) ?_) fun H v a h => rbd_of h
  · rw [mapR_mapR]
    exact mapR_len fun _ => by
      show 2 ≤ 100000
      decide
  · rw [mapR_mapR, mapR_mapR]
theorem py_var {i k : Nat} {d : PyData} {v : V} (h0 : σ[k]? = some (some v)) (hW : WAt C.W H p num ws i) (hd : DT H d v) : Py C p num ws E (tVar k) σ H RD (told d i) := py_ev (ev_var h0) hW fun H' e => DT.tf (TF.ex e) _ _ hd
/-- a, b = what is read -/
theorem s_pyTup2 {t : TE} {k1 k2 : Nat} {x : Res BD} {f : BD → Nat → Res α} (h : Py C p num ws E t σ H1 RBD x) (ac : Acc C p num ws H Q E R (andThen x f)) (fr : Fr p H H1)
    (n : ∀ bd j, Acc C p num ws H Q E R (f bd j) → ∀ u H2, Fr p H H2 → Fr p H1 H2 → WAt C.W H2 p num ws j → DT H2 bd.2 u → D.nx ((σ.set k1 (some (.bl bd.1))).set k2 (some u)) H2) : tAsg t (gTup K 2 (gCons (gName k1) (gCons (gName k2) gNil))) D σ H1 := h _ (Acc.bind ac fr fun bd j ac2 v H2 f1 f2 hW r => by
  obtain ⟨a, u, rfl, h1, h2⟩ := r
  exact ⟨a, _, rfl, st_of h1, rfl, _, _, rfl, _, _, rfl, rfl, n bd j ac2 u H2 f1 f2 hW h2⟩)
theorem q_pyTup2 {t : TE} {k1 k2 : Nat} {x : Res BD} {f : BD → Nat → Res α} (h : Py C p num ws E t σ H1 RBD x) (ac : Acc C p num ws H Q E R (andThen x f)) (fr : Fr p H H1)
    (n : ∀ bd j, Acc C p num ws H Q E R (f bd j) → ∀ u H2, Fr p H H2 → Fr p H1 H2 → WAt C.W H2 p num ws j → DT H2 bd.2 u → tz D ((σ.set k1 (some (.bl bd.1))).set k2 (some u)) H2) : tSeq (tAsg t (gTup K 2 (gCons (gName k1) (gCons (gName k2) gNil)))) tz D σ H1 := s_pyTup2 (D := { D with nx := tz D }) h ac fr n
theorem andThen_map {g : α → α2} {x : Res α} {f : α2 → Nat → Res α3} : andThen (mapR g x) f = andThen x fun a j => f (g a) j := by
  match x with
  | none => rfl
  | some (.inl c) => rfl
  | some (.inr (a, j)) => rfl
/-- (b, thing) of two names -/
theorem s_retBD {k1 k2 : Nat} {i : Nat} {bd : BD} {u : V} (h1 : σ[k1]? = some (some (.bl bd.1))) (h2 : σ[k2]? = some (some u)) (hW : WAt C.W H1 p num ws i) (hd : DT H1 bd.2 u) (ac : Acc C p num ws H Q E RBD (told bd i)) (fr : Fr p H H1) (e : D.rt = Q) : tRet (tTup (tCons (tVar k1) (tCons (tVar k2) tNil))) D σ H1 :=
  s_pyRet (x := told bd i) (py_is (tupB (ev_var h1) hW fun H' e' hW' => py_var h2 hW' (DT.tf (TF.ex e') _ _ hd)) rfl) ac fr e
end
/-! ### read_either_kind -/
theorem scEither : FnScope ["words", "is_term", "thing"] ["words"] (defScope sEither) := ⟨rfl, rfl, rfl, by decide +kernel, rfl, by decide +kernel, by decide +kernel⟩
theorem ok_either {pt : Rd' PyData} {br : Rd' BD} {L : Nat} (hL : 4 ≤ L) (T : Tl C) (D : Df K mg "read_either_kind" sEither ["words"]) (DR : Df K mg "rest_of_term" sRest ["words", "term"]) (DP : Df K mg "read_part" sPart ["words"]) (DB : Df K mg "read_bracket" sBracket ["words"])
    (GP : FnOk P w K mg base (L2.CX P w) L DP.f DP.fd ["words"] (spG C RD pt)) (GR : FnOk P w K mg base (L2.CX P w) (L + 1) DR.f DR.fd ["words", "term"] (spG2 C RD (restM pt))) (GB : FnOk P w K mg base (L2.CX P w) L DB.f DB.fd ["words"] (spG C RBD br)) :
    FnOk P w K mg base (L2.CX P w) (L + 2) D.f D.fd ["words"] (spG C RBD (eitherM pt br)) := by
  refine D.F.okX scEither (fun vs H Q E h => ?_) (fun cdv A outer s0 H vs Q E hr h => ?_)
  · obtain ⟨p, num, ws, i, rfl, _⟩ := h
    rfl
  · obtain ⟨p, num, ws, i, rfl, hW, ac⟩ := h
    have hr0 : Room L (A.deeper (envOfC "read_either_kind" (defScope sEither) s0.heap.objs.size D.f cdv)) := hr.mono (by omega)
    refine ⟨_, pss_cons (ps_if (pt_cmpR op_ne (pe_meth0 (pv 0) C.cl T.mA T.GA (hr.mono (by omega)) T.bA .nil (passAny (E := E))) pe_str (nomark _))
        (pss_one (ps_ret (pe_tup (pa_cons pe_bl (pa_cons (pe_call GR hr rfl DR.m DR.F.kp DR.b .nil (passes_call (takes_of rfl rfl rfl rfl) fun _ _ _ _ h => h) (pa_cons (pv 0) (pa_cons (pe_call GP hr0 rfl DP.m DP.F.kp DP.b .nil (passes_call (takes_of rfl rfl rfl rfl) fun _ _ _ _ h => h) (pa_cons (pv 0) pa_nil)) pa_nil))) pa_nil))))) pss_nil)
      (pss_cons (ps_asg (pe_call GB hr0 rfl DB.m DB.F.kp DB.b .nil (passes_call (takes_of rfl rfl rfl rfl) fun _ _ _ _ h => h) (pa_cons (pv 0) pa_nil)) (pg_tup rfl (pgs_cons (pg_name (i := 1) scEither.nd rfl (.inl rfl)) (pgs_cons (pg_name (i := 2) scEither.nd rfl (.inl rfl)) pgs_nil))))
      (pss_cons (ps_if (pt_val (pv 1)) (pss_one (ps_set (i := 2) scEither.nd rfl (.inl rfl) (pe_call GR hr rfl DR.m DR.F.kp DR.b .nil (passes_call (takes_of rfl rfl rfl rfl) fun _ _ _ _ h => h) (pa_cons (pv 0) (pa_cons (pv 2) pa_nil))))) pss_nil)
      (pss_one (ps_ret (pe_tup (pa_cons (pv 1) (pa_cons (pv 2) pa_nil))))))), ?_⟩
    unfold eitherM at ac
    cases hx : ws[i]? with
    | none =>
      rw [hx] at ac
      exact ac.elim
    | some x =>
      rw [hx] at ac
      refine q_when (b := !decide (V.str x.kind = V.str "(")) (et_test (ev_op (ev_ahead rfl hW hx) ev_c (rv_ne rfl))) (fun hb H1 e1 => ?_) (fun hb H1 e1 => ?_)
      · simp only [hb, if_true] at ac
        exact s_pyRet (tupB ev_c (hW.ex e1) fun H2 e2 hW2 => py_call2 (m := restM pt) rfl (py_call rfl hW2)) ac (Fr.ex e1) rfl
      simp only [hb, Bool.false_eq_true, if_false] at ac
      refine q_pyTup2 (py_call (m := br) rfl (hW.ex e1)) ac (Fr.ex e1) fun bd j ac u H2 f2 _ hW2 hu => ?_
      obtain ⟨b, d⟩ := bd
      refine q_when (b := b) (et_B (ev_var rfl)) (fun hc H3 e3 => ?_) (fun hc H3 e3 => ?_)
      · subst hc
        simp only [if_true] at ac
        have ac2 : Acc C p num ws H Q E RBD (andThen (andThen (told d j) fun d j => restM pt ws d j) fun d j => told (true, d) j) := ac
        refine s_py (py_call2 (m := restM pt) rfl (py_var rfl (hW2.ex e3) (DT.tf (TF.ex e3) _ _ hu))) ac2 (f2.trans (Fr.ex e3)) fun d2 j2 ac v H4 f4 _ hW4 r => ?_
        exact s_retBD (bd := (true, d2)) (D := { nx := _, rt := Q }) rfl rfl hW4 r ac f4 rfl
      · subst hc
        simp only [Bool.false_eq_true, if_false] at ac
        exact s_retBD (bd := (false, d)) (D := { nx := _, rt := Q }) rfl rfl (hW2.ex e3) (DT.tf (TF.ex e3) _ _ hu) ac (f2.trans (Fr.ex e3)) rfl
/-! ### rest_of_both, rest_of_guard, read_guard -/
theorem scBoth : FnScope ["words", "guard"] ["words", "guard"] (defScope sBoth) := ⟨rfl, rfl, rfl, by decide +kernel, rfl, by decide +kernel, by decide +kernel⟩
theorem ok_both {one : Rd' PyData} {L : Nat} (hL : 4 ≤ L) (T : Tl C) (D : Df K mg "rest_of_both" sBoth ["words", "guard"]) (DO : Df K mg "read_one" sOne ["words"]) (GO : FnOk P w K mg base (L2.CX P w) L DO.f DO.fd ["words"] (spG C RD one)) :
    FnOk P w K mg base (L2.CX P w) (L + 1) D.f D.fd ["words", "guard"] (spG2 C RD (bothM one)) := by
  refine D.F.okX scBoth (fun vs H Q E h => ?_) (fun cdv A outer s0 H vs Q E hr h => ?_)
  · obtain ⟨p, num, ws, i, d, v, rfl, _⟩ := h
    rfl
  · obtain ⟨p, num, ws, i, d, v, rfl, hW, hd, ac⟩ := h
    refine ⟨_, pss_cons (ps_while (passes_of rfl) (pt_val (pe_meth (pv 0) C.cl T.mI T.GI (hr.mono (by omega)) T.bI .nil (passAny (E := E)) (pa_cons pe_str pa_nil)))
        (pss_one (ps_set (i := 1) scBoth.nd rfl (.inl rfl) (pe_tup (pa_cons pe_str (pa_cons (pv 1) (pa_cons (pe_call GO hr rfl DO.m DO.F.kp DO.b .nil (passes_call (takes_of rfl rfl rfl rfl) fun _ _ _ _ h => h) (pa_cons (pv 0) pa_nil)) pa_nil)))))))
      (pss_one (ps_ret (pv 1))), ?_⟩
    refine ⟨fun m σ' H' => ∃ d v i, Fr p H H' ∧ WAt C.W H' p num ws i ∧ DT H' d v ∧ σ' = [some (.ref p), some v] ∧ Acc C p num ws H Q E RD (bothGo one ws m d i), ⟨ws.length + 1, d, v, i, Fr.refl p H, hW, hd, rfl, ac⟩, ?_⟩
    rintro m σ' H' ⟨d, v, i, f1, hW, hd, rfl, ac⟩
    cases m with
    | zero => exact ac.elim
    | succ m =>
      unfold bothGo at ac
      refine (py_test (py_takeIf rfl ev_c hW) : Py C p num ws E _ _ H' REq (takeIfM ws "and" i)) _ (Acc.bind (R2 := REq) ac f1 fun b j ac _ H2 f2 g2 hW2 r => ?_)
      cases r
      have hd2 : DT H2 d v := DT.tf (hW.tf g2) _ _ hd
      cases b with
      | true =>
        simp only [if_true] at ac ⊢
        refine ⟨fun σ2 H2 => ∃ d v i, Fr p H H2 ∧ WAt C.W H2 p num ws i ∧ DT H2 d v ∧ σ2 = [some (.ref p), some v] ∧ Acc C p num ws H Q E RD (bothGo one ws m d i), fun σ2 H2 z => ⟨m, Nat.lt_succ_self _, z⟩, ?_⟩
        exact s_py (tup3 ev_c (fun _ _ => ev_var rfl) hd2 hW2 fun H3 e3 hW3 => py_call rfl hW3) ac f2 fun e j2 ac v3 H3 f3 g3 hW3 r => ⟨_, v3, j2, f3, hW3, r, rfl, ac⟩
      | false =>
        simp only [Bool.false_eq_true, if_false] at ac ⊢
        exact s_ret (v := v) (D := { nx := _, rt := Q }) (ev_var rfl) fun H7 e7 => Acc.ret (R := RD) ac (f2.trans (Fr.ex e7)) (hW2.ex e7) (DT.tf (TF.ex e7) _ _ hd2)
theorem scRGuard : FnScope ["words", "guard"] ["words", "guard"] (defScope sRGuard) := ⟨rfl, rfl, rfl, by decide +kernel, rfl, by decide +kernel, by decide +kernel⟩
theorem ok_rguard {one : Rd' PyData} {L : Nat} (hL : 4 ≤ L) (T : Tl C) (D : Df K mg "rest_of_guard" sRGuard ["words", "guard"]) (DB : Df K mg "rest_of_both" sBoth ["words", "guard"]) (DO : Df K mg "read_one" sOne ["words"]) (GO : FnOk P w K mg base (L2.CX P w) L DO.f DO.fd ["words"] (spG C RD one))
    (GB : FnOk P w K mg base (L2.CX P w) (L + 1) DB.f DB.fd ["words", "guard"] (spG2 C RD (bothM one))) : FnOk P w K mg base (L2.CX P w) (L + 2) D.f D.fd ["words", "guard"] (spG2 C RD (rguardM one)) := by
  refine D.F.okX scRGuard (fun vs H Q E h => ?_) (fun cdv A outer s0 H vs Q E hr h => ?_)
  · obtain ⟨p, num, ws, i, d, v, rfl, _⟩ := h
    rfl
  · obtain ⟨p, num, ws, i, d, v, rfl, hW, hd, ac⟩ := h
    have hr0 : Room L (A.deeper (envOfC "rest_of_guard" (defScope sRGuard) s0.heap.objs.size D.f cdv)) := hr.mono (by omega)
    refine ⟨_, pss_cons (ps_set (i := 1) scRGuard.nd rfl (.inl rfl) (pe_call GB hr rfl DB.m DB.F.kp DB.b .nil (passes_call (takes_of rfl rfl rfl rfl) fun _ _ _ _ h => h) (pa_cons (pv 0) (pa_cons (pv 1) pa_nil))))
      (pss_cons (ps_while (passes_of rfl) (pt_val (pe_meth (pv 0) C.cl T.mI T.GI (hr.mono (by omega)) T.bI .nil (passAny (E := E)) (pa_cons pe_str pa_nil)))
        (pss_one (ps_set (i := 1) scRGuard.nd rfl (.inl rfl) (pe_tup (pa_cons pe_str (pa_cons (pv 1) (pa_cons (pe_call GB hr rfl DB.m DB.F.kp DB.b .nil (passes_call (takes_of rfl rfl rfl rfl) fun _ _ _ _ h => h) (pa_cons (pv 0) (pa_cons (pe_call GO hr0 rfl DO.m DO.F.kp DO.b .nil (passes_call (takes_of rfl rfl rfl rfl) fun _ _ _ _ h => h) (pa_cons (pv 0) pa_nil)) pa_nil))) pa_nil)))))))
      (pss_one (ps_ret (pv 1)))), ?_⟩
    have ac0 : Acc C p num ws H Q E RD (andThen (andThen (told d i) fun d j => bothM one ws d j) fun d j => guardGo one ws (ws.length + 1) d j) := ac
    refine q_py (py_call2 (m := bothM one) rfl (py_var rfl hW hd)) ac0 (Fr.refl p H) fun d1 j1 ac1 v1 H1 f1 g1 hW1 hd1 => ?_
    refine ⟨fun m σ' H' => ∃ d v i, Fr p H H' ∧ WAt C.W H' p num ws i ∧ DT H' d v ∧ σ' = [some (.ref p), some v] ∧ Acc C p num ws H Q E RD (guardGo one ws m d i), ⟨ws.length + 1, d1, v1, j1, f1, hW1, hd1, rfl, ac1⟩, ?_⟩
    rintro m σ' H' ⟨d, v, i, f1, hW, hd, rfl, ac⟩
    cases m with
    | zero => exact ac.elim
    | succ m =>
      unfold guardGo at ac
      refine (py_test (py_takeIf rfl ev_c hW) : Py C p num ws E _ _ H' REq (takeIfM ws "or" i)) _ (Acc.bind (R2 := REq) ac f1 fun b j ac _ H2 f2 g2 hW2 r => ?_)
      cases r
      have hd2 : DT H2 d v := DT.tf (hW.tf g2) _ _ hd
      cases b with
      | true =>
        simp only [if_true] at ac ⊢
        refine ⟨fun σ2 H2 => ∃ d v i, Fr p H H2 ∧ WAt C.W H2 p num ws i ∧ DT H2 d v ∧ σ2 = [some (.ref p), some v] ∧ Acc C p num ws H Q E RD (guardGo one ws m d i), fun σ2 H2 z => ⟨m, Nat.lt_succ_self _, z⟩, ?_⟩
        exact s_py (tup3 ev_c (fun _ _ => ev_var rfl) hd2 hW2 fun H3 e3 hW3 => py_call2 (m := bothM one) rfl (py_call rfl hW3)) ac f2 fun e j2 ac v3 H3 f3 g3 hW3 r => ⟨_, v3, j2, f3, hW3, r, rfl, ac⟩
      | false =>
        simp only [Bool.false_eq_true, if_false] at ac ⊢
        exact s_ret (v := v) (D := { nx := _, rt := Q }) (ev_var rfl) fun H7 e7 => Acc.ret (R := RD) ac (f2.trans (Fr.ex e7)) (hW2.ex e7) (DT.tf (TF.ex e7) _ _ hd2)
theorem scGuard : FnScope ["words"] ["words"] (defScope sGuard) := ⟨rfl, rfl, rfl, by decide +kernel, rfl, by decide +kernel, by decide +kernel⟩
theorem ok_guard {one : Rd' PyData} {L : Nat} (D : Df K mg "read_guard" sGuard ["words"]) (DR : Df K mg "rest_of_guard" sRGuard ["words", "guard"]) (DO : Df K mg "read_one" sOne ["words"]) (GO : FnOk P w K mg base (L2.CX P w) L DO.f DO.fd ["words"] (spG C RD one))
    (GR : FnOk P w K mg base (L2.CX P w) (L + 2) DR.f DR.fd ["words", "guard"] (spG2 C RD (rguardM one))) : FnOk P w K mg base (L2.CX P w) (L + 3) D.f D.fd ["words"] (spG C RD (guardM one)) := by
  refine D.F.okX scGuard (fun vs H Q E h => ?_) (fun cdv A outer s0 H vs Q E hr h => ?_)
  · obtain ⟨p, num, ws, i, rfl, _⟩ := h
    rfl
  · obtain ⟨p, num, ws, i, rfl, hW, ac⟩ := h
    refine ⟨_, pss_one (ps_ret (pe_call GR hr rfl DR.m DR.F.kp DR.b .nil (passes_call (takes_of rfl rfl rfl rfl) fun _ _ _ _ h => h) (pa_cons (pv 0) (pa_cons (pe_call GO (hr.mono (by omega)) rfl DO.m DO.F.kp DO.b .nil (passes_call (takes_of rfl rfl rfl rfl) fun _ _ _ _ h => h) (pa_cons (pv 0) pa_nil)) pa_nil)))), ?_⟩
    exact s_pyRet (py_call2 (m := rguardM one) rfl (py_call rfl hW)) ac (Fr.refl p H) rfl
end
end Prs
set_option Elab.async false
set_option linter.all false
set_option maxRecDepth 100000
set_option maxHeartbeats 4000000
namespace Prs
open PySem PySem.Spec PyProof.Rows L2 Evl
section
variable {P : Program} {w : World} {K : PySem.W.Frag} {mg : Str → Option Value} {base : Heap} {C : Cn P w K mg base}
theorem py_ifB {p : Addr} {num : Nm} {ws : List Wd} {E : XK} {σ : L2.St} {H : Hp} {α : Type} {R : Hp → V → α → Prop} {t : TT} {ta tb : TE} {b : Bool} {x : Res α} (h : EvT t σ H b) (h1 : b = true → ∀ H', Ex H H' → Py C p num ws E ta σ H' R x) (h2 : b = false → ∀ H', Ex H H' → Py C p num ws E tb σ H' R x) :
    Py C p num ws E (tIf t ta tb) σ H R x := fun Q ac => h H (Ex.refl H) _ fun H2 e2 => by
  cases b with
  | true => exact h1 rfl H2 e2 Q (ac.fr (Fr.ex e2))
  | false => exact h2 rfl H2 e2 Q (ac.fr (Fr.ex e2))
/-! ### read_bracket -/
theorem scBracket : FnScope ["words", "is_term", "thing"] ["words"] (defScope sBracket) := ⟨rfl, rfl, rfl, by decide +kernel, rfl, by decide +kernel, by decide +kernel⟩
theorem ok_bracket {pt one : Rd' PyData} {br : Rd' BD} {L : Nat} (hL : 4 ≤ L) (T : Tl C) (D : Df K mg "read_bracket" sBracket ["words"]) (DE : Df K mg "read_either_kind" sEither ["words"]) (DO : Df K mg "read_one" sOne ["words"]) (DC : Df K mg "rest_of_comparison" sComp ["words", "term"]) (DG : Df K mg "rest_of_guard" sRGuard ["words", "guard"])
    (GE : FnOk P w K mg base (L2.CX P w) (L + 2) DE.f DE.fd ["words"] (spG C RBD (eitherM pt br))) (GO : FnOk P w K mg base (L2.CX P w) L DO.f DO.fd ["words"] (spG C RD one)) (GC : FnOk P w K mg base (L2.CX P w) (L + 3) DC.f DC.fd ["words", "term"] (spG2 C RD (compM pt)))
    (GG : FnOk P w K mg base (L2.CX P w) (L + 2) DG.f DG.fd ["words", "guard"] (spG2 C RD (rguardM one))) : FnOk P w K mg base (L2.CX P w) (L + 4) D.f D.fd ["words"] (spG C RBD (bracketS pt br one)) := by
  refine D.F.okX scBracket (fun vs H Q E h => ?_) (fun cdv A outer s0 H vs Q E hr h => ?_)
  · obtain ⟨p, num, ws, i, rfl, _⟩ := h
    rfl
  · obtain ⟨p, num, ws, i, rfl, hW, ac⟩ := h
    have hr0 : Room L (A.deeper (envOfC "read_bracket" (defScope sBracket) s0.heap.objs.size D.f cdv)) := hr.mono (by omega)
    have hr2 : Room (L + 2) (A.deeper (envOfC "read_bracket" (defScope sBracket) s0.heap.objs.size D.f cdv)) := hr.mono (by omega)
    have hr4 : Room 4 (A.deeper (envOfC "read_bracket" (defScope sBracket) s0.heap.objs.size D.f cdv)) := hr.mono (by omega)
    refine ⟨_, pss_cons (ps_expr (pe_methR (pv 0) C.cl T.mT T.FT hr4 (passes_call (takes_of rfl rfl rfl rfl) fun _ _ _ _ h => h) (pa_cons pe_str pa_nil)))
      (pss_cons (ps_set (i := 1) scBracket.nd rfl (.inl rfl) (pe_cmpR op_notIn_seq (pe_meth0 (pv 0) C.cl T.mA T.GA (hr.mono (by omega)) T.bA .nil (passAny (E := E))) (pe_tup (pa_cons pe_str (pa_cons pe_str (pa_cons pe_str pa_nil)))) (by rfl)))
      (Evl.pss_cut (ps_if (pt_val (pv 1)) (pss_one (ps_asg (pe_call GE hr2 rfl DE.m DE.F.kp DE.b .nil (passes_call (takes_of rfl rfl rfl rfl) fun _ _ _ _ h => h) (pa_cons (pv 0) pa_nil)) (pg_tup rfl (pgs_cons (pg_name (i := 1) scBracket.nd rfl (.inl rfl)) (pgs_cons (pg_name (i := 2) scBracket.nd rfl (.inl rfl)) pgs_nil)))))
          (pss_one (ps_set (i := 2) scBracket.nd rfl (.inl rfl) (pe_call GO hr0 rfl DO.m DO.F.kp DO.b .nil (passes_call (takes_of rfl rfl rfl rfl) fun _ _ _ _ h => h) (pa_cons (pv 0) pa_nil)))))
      (Evl.pss_cut (ps_if (PW.pt (pw_and (pt_val (pv 1)) (pw_and1 (pt_cmpR op_ne (pe_meth0 (pv 0) C.cl T.mA T.GA (hr.mono (by omega)) T.bA .nil (passAny (E := E))) pe_str (nomark _)))))
          (pss_cons (ps_set (i := 1) scBracket.nd rfl (.inl rfl) pe_bl) (pss_one (ps_set (i := 2) scBracket.nd rfl (.inl rfl) (pe_call GC hr rfl DC.m DC.F.kp DC.b .nil (passes_call (takes_of rfl rfl rfl rfl) fun _ _ _ _ h => h) (pa_cons (pv 0) (pa_cons (pv 2) pa_nil)))))) pss_nil)
      (Evl.pss_cut (ps_if (pt_not (pt_val (pv 1))) (pss_one (ps_set (i := 2) scBracket.nd rfl (.inl rfl) (pe_call GG hr2 rfl DG.m DG.F.kp DG.b .nil (passes_call (takes_of rfl rfl rfl rfl) fun _ _ _ _ h => h) (pa_cons (pv 0) (pa_cons (pv 2) pa_nil))))) pss_nil)
      (pss_cons (ps_expr (pe_methR (pv 0) C.cl T.mT T.FT hr4 (passes_call (takes_of rfl rfl rfl rfl) fun _ _ _ _ h => h) (pa_cons pe_str pa_nil)))
      (pss_one (ps_ret (pe_tup (pa_cons (pv 1) (pa_cons (pv 2) pa_nil)))))))))), ?_⟩
    unfold bracketS at ac
    refine q_pyDrop (py_take (ks := ["("]) rfl (ea_cons ev_c ea_nil) hW) ac (Fr.refl p H) fun _ j ac v1 H1 f1 g1 hW1 _ => ?_
    cases hx : ws[j]? with
    | none =>
      rw [hx] at ac
      exact ac.elim
    | some x =>
      rw [hx] at ac
      dsimp only at ac
      refine q_asg (v := .bl (!inV (.str x.kind) (notTerm.map V.str))) (ev_niU (ev_ahead rfl hW1 hx) (eu_tup (ea_cons ev_c (ea_cons ev_c (ea_cons ev_c ea_nil))) (by show 3 ≤ 100000; decide)) rfl rfl) fun H2 e2 => ?_
      have f2 := f1.trans (Fr.ex e2)
      have hW2 := hW1.ex e2
      refine Evl.q_cut (M := fun σ' H' => ∃ b d u j, Fr p H H' ∧ WAt C.W H' p num ws j ∧ DT H' d u ∧ σ' = [some (.ref p), some (.bl b), some u] ∧ Acc C p num ws H Q E RBD (br3 pt one ws (b, d) j)) ?_ ?_
      · refine s_if (b := !inV (.str x.kind) (notTerm.map V.str)) (et_B (ev_var rfl)) (fun hb H3 e3 => ?_) (fun hb H3 e3 => ?_)
        · simp only [hb, if_true] at ac
          exact s_pyTup2 (py_call (m := eitherM pt br) rfl (hW2.ex e3)) ac (f2.trans (Fr.ex e3)) fun bd j ac u H4 f4 _ hW4 hu => ⟨bd.1, bd.2, u, j, f4, hW4, hu, rfl, ac⟩
        · simp only [hb, Bool.false_eq_true, if_false] at ac
          rw [andThen_map] at ac
          exact s_py (py_call (m := one) (R := RD) rfl (hW2.ex e3)) ac (f2.trans (Fr.ex e3)) fun d j ac u H4 f4 _ hW4 hu => ⟨false, d, u, j, f4, hW4, hu, by rw [hb]; rfl, ac⟩
      rintro σ' H' ⟨b, d, u, j, f3, hW3, hd, rfl, ac⟩
      unfold br3 at ac
      refine Evl.q_cut (M := fun σ' H' => ∃ b d u j, Fr p H H' ∧ WAt C.W H' p num ws j ∧ DT H' d u ∧ σ' = [some (.ref p), some (.bl b), some u] ∧ Acc C p num ws H Q E RBD (br4 one ws (b, d) j)) ?_ ?_
      · cases b with
        | false =>
          simp only [Bool.false_eq_true, if_false] at ac
          refine s_when (b := false && false) (et_and (et_B (ev_var rfl)) fun h => Bool.noConfusion h) (fun hb _ _ => Bool.noConfusion hb) fun _ H4 e4 => ?_
          exact ⟨false, d, u, j, f3.trans (Fr.ex e4), hW3.ex e4, DT.tf (TF.ex e4) _ _ hd, rfl, ac⟩
        | true =>
          simp only [if_true] at ac
          cases hy : ws[j]? with
          | none =>
            rw [hy] at ac
            exact ac.elim
          | some y =>
            rw [hy] at ac
            dsimp only at ac
            refine s_when (b := true && !decide (V.str y.kind = V.str ")")) (et_and (et_B (ev_var rfl)) fun _ => et_test (ev_op (ev_ahead rfl hW3 hy) ev_c (rv_ne rfl))) (fun hb H4 e4 => ?_) (fun hb H4 e4 => ?_)
            · have hb' : (!decide (V.str y.kind = V.str ")")) = true := hb
              simp only [hb', if_true] at ac
              rw [andThen_map] at ac
              refine q_asg (v := .bl false) ev_c fun H5 e5 => ?_
              have e45 := Ex.trans e4 e5
              have ac2 : Acc C p num ws H Q E RBD (andThen (andThen (told d j) fun d j => compM pt ws d j) fun d j => br4 one ws (false, d) j) := ac
              exact s_py (py_call2 (m := compM pt) rfl (py_var rfl (hW3.ex e45) (DT.tf (TF.ex e45) _ _ hd))) ac2 (f3.trans (Fr.ex e45)) fun d j ac u H4 f4 _ hW4 hu => ⟨false, d, u, j, f4, hW4, hu, rfl, ac⟩
            · have hb' : (!decide (V.str y.kind = V.str ")")) = false := hb
              simp only [hb', Bool.false_eq_true, if_false] at ac
              exact ⟨true, d, u, j, f3.trans (Fr.ex e4), hW3.ex e4, DT.tf (TF.ex e4) _ _ hd, rfl, ac⟩
      rintro σ' H' ⟨b, d, u, j, f3, hW3, hd, rfl, ac⟩
      unfold br4 at ac
      refine Evl.q_cut (M := fun σ' H' => ∃ b d u j, Fr p H H' ∧ WAt C.W H' p num ws j ∧ DT H' d u ∧ σ' = [some (.ref p), some (.bl b), some u] ∧ Acc C p num ws H Q E RBD (br5 ws (b, d) j)) ?_ ?_
      · refine s_when (b := !b) (et_not (et_B (ev_var rfl))) (fun hb H4 e4 => ?_) (fun hb H4 e4 => ?_)
        · simp only [hb, if_true] at ac
          rw [andThen_map] at ac
          have hb' : b = false := by cases b with | true => exact Bool.noConfusion hb | false => rfl
          subst hb'
          have ac2 : Acc C p num ws H Q E RBD (andThen (andThen (told d j) fun d j => rguardM one ws d j) fun d j => br5 ws (false, d) j) := ac
          exact s_py (py_call2 (m := rguardM one) rfl (py_var rfl (hW3.ex e4) (DT.tf (TF.ex e4) _ _ hd))) ac2 (f3.trans (Fr.ex e4)) fun d j ac u H4 f4 _ hW4 hu => ⟨false, d, u, j, f4, hW4, hu, rfl, ac⟩
        · simp only [hb, Bool.false_eq_true, if_false] at ac
          exact ⟨b, d, u, j, f3.trans (Fr.ex e4), hW3.ex e4, DT.tf (TF.ex e4) _ _ hd, rfl, ac⟩
      rintro σ' H' ⟨b, d, u, j, f3, hW3, hd, rfl, ac⟩
      unfold br5 at ac
      refine q_pyDrop (py_take (ks := [")"]) rfl (ea_cons ev_c ea_nil) hW3) ac f3 fun _ j3 ac v2 H6 f6 g6 hW6 _ => ?_
      exact s_retBD (bd := (b, d)) (D := { nx := _, rt := Q }) rfl rfl hW6 (DT.tf (hW3.tf g6) _ _ hd) ac f6 rfl
/-! ### read_one -/
theorem scOne : FnScope ["words", "is_term", "thing"] ["words"] (defScope sOne) := ⟨rfl, rfl, rfl, by decide +kernel, rfl, by decide +kernel, by decide +kernel⟩
theorem ok_one {pt one : Rd' PyData} {br : Rd' BD} {L : Nat} (hL : 4 ≤ L) (T : Tl C) (D : Df K mg "read_one" sOne ["words"]) (DE : Df K mg "read_either_kind" sEither ["words"]) (DC : Df K mg "rest_of_comparison" sComp ["words", "term"])
    (GE : FnOk P w K mg base (L2.CX P w) (L + 2) DE.f DE.fd ["words"] (spG C RBD (eitherM pt br))) (GO : FnOk P w K mg base (L2.CX P w) L D.f D.fd ["words"] (spG C RD one)) (GC : FnOk P w K mg base (L2.CX P w) (L + 3) DC.f DC.fd ["words", "term"] (spG2 C RD (compM pt))) :
    FnOk P w K mg base (L2.CX P w) (L + 4) D.f D.fd ["words"] (spG C RD (oneS pt br one)) := by
  obtain ⟨_, gA⟩ := T.gA
  refine D.F.okX scOne (fun vs H Q E h => ?_) (fun cdv A outer s0 H vs Q E hr h => ?_)
  · obtain ⟨p, num, ws, i, rfl, _⟩ := h
    rfl
  · obtain ⟨p, num, ws, i, rfl, hW, ac⟩ := h
    have hr0 : Room L (A.deeper (envOfC "read_one" (defScope sOne) s0.heap.objs.size D.f cdv)) := hr.mono (by omega)
    have hr2 : Room (L + 2) (A.deeper (envOfC "read_one" (defScope sOne) s0.heap.objs.size D.f cdv)) := hr.mono (by omega)
    have hrI : Room 2 (A.deeper (envOfC "read_one" (defScope sOne) s0.heap.objs.size D.f cdv)) := hr.mono (by omega)
    refine ⟨_, pss_cons (ps_if (pt_val (pe_meth (pv 0) C.cl T.mI T.GI hrI T.bI .nil (passAny (E := E)) (pa_cons pe_str pa_nil))) (pss_one (ps_ret (pe_tup (pa_cons pe_str (pa_cons (pe_call GO hr0 rfl D.m D.F.kp D.b .nil (passes_call (takes_of rfl rfl rfl rfl) fun _ _ _ _ h => h) (pa_cons (pv 0) pa_nil)) pa_nil))))) pss_nil)
      (pss_cons (ps_if (pt_val (pe_meth (pv 0) C.cl T.mI T.GI hrI T.bI .nil (passAny (E := E)) (pa_cons pe_str pa_nil))) (pss_one (ps_ret (pe_tup (pa_cons pe_str pa_nil)))) pss_nil)
      (pss_cons (ps_if (pt_val (pe_meth (pv 0) C.cl T.mI T.GI hrI T.bI .nil (passAny (E := E)) (pa_cons pe_str pa_nil))) (pss_one (ps_ret (pe_tup (pa_cons pe_str (pa_cons (pe_methR (pv 0) C.cl T.mT T.FT (hr.mono (by omega)) (passes_call (takes_of rfl rfl rfl rfl) fun _ _ _ _ h => h) (pa_cons (pe_glob (v := .str "a name") rfl gA ⟨_, rfl⟩) pa_nil)) pa_nil))))) pss_nil)
      (pss_cons (ps_asg (pe_call GE hr2 rfl DE.m DE.F.kp DE.b .nil (passes_call (takes_of rfl rfl rfl rfl) fun _ _ _ _ h => h) (pa_cons (pv 0) pa_nil)) (pg_tup rfl (pgs_cons (pg_name (i := 1) scOne.nd rfl (.inl rfl)) (pgs_cons (pg_name (i := 2) scOne.nd rfl (.inl rfl)) pgs_nil))))
      (pss_one (ps_ret (pe_ifExp (pt_val (pv 1)) (pe_call GC hr rfl DC.m DC.F.kp DC.b .nil (passes_call (takes_of rfl rfl rfl rfl) fun _ _ _ _ h => h) (pa_cons (pv 0) (pa_cons (pv 2) pa_nil))) (pv 2))))))), ?_⟩
    unfold oneS at ac
    refine q_pyIf (py_test (py_takeIf rfl ev_c hW)) ac (Fr.refl p H) (fun j ac H1 f1 _ hW1 => ?_) (fun j ac H1 f1 _ hW1 => ?_)
    · simp only [if_true] at ac
      exact s_pyRet (tup2 ev_c hW1 fun H2 e2 hW2 => py_call rfl hW2) ac f1 rfl
    simp only [Bool.false_eq_true, if_false] at ac
    refine q_pyIf (py_test (py_takeIf rfl ev_c hW1)) ac f1 (fun j ac H2 f2 _ hW2 => ?_) (fun j ac H2 f2 _ hW2 => ?_)
    · simp only [if_true] at ac
      refine s_pyRet (x := told (.tuple [.str "yes"]) j) (py_is (py_tup (py_cons (d := .str "yes") ev_c hW2 dt_str fun H' e' hW' => py_nil hW') ?_) rfl) ac f2 rfl
      intro a j e
      cases e
      show 1 ≤ 100000
      decide
    simp only [Bool.false_eq_true, if_false] at ac
    refine q_pyIf (py_test (py_takeIf rfl ev_c hW2)) ac f2 (fun j ac H3 f3 _ hW3 => ?_) (fun j ac H3 f3 _ hW3 => ?_)
    · simp only [if_true] at ac
      refine s_pyRet (tup2 ev_c hW3 fun H4 e4 hW4 => py_map (py_take (ks := ["a name"]) rfl (ea_cons ev_c ea_nil) hW4) fun H v a r => ?_) ac f3 rfl
      cases r
      exact dt_str
    simp only [Bool.false_eq_true, if_false] at ac
    refine q_pyTup2 (py_call (m := eitherM pt br) rfl hW3) ac f3 fun bd j ac u H4 f4 _ hW4 hu => ?_
    obtain ⟨b, d⟩ := bd
    refine s_pyRet (py_ifB (b := b) (et_B (ev_var rfl)) (fun hb H5 e5 => ?_) (fun hb H5 e5 => ?_)) ac f4 rfl
    · subst hb
      exact py_call2 (m := compM pt) rfl (py_var rfl (hW4.ex e5) (DT.tf (TF.ex e5) _ _ hu))
    · subst hb
      exact py_var rfl (hW4.ex e5) (DT.tf (TF.ex e5) _ _ hu)
end
end Prs
set_option Elab.async false
set_option linter.all false
set_option maxRecDepth 100000
set_option maxHeartbeats 4000000
namespace Prs
open PySem PySem.Spec PyProof.Rows L2 Evl
abbrev sDeed : Stmt := top 44
abbrev sDeeds : Stmt := top 45
abbrev sGoals : Stmt := top 46
abbrev sWhen : Stmt := top 47
abbrev sMove : Stmt := top 48
abbrev sSigned : Stmt := top 49
abbrev sFact : Stmt := top 50
/-! ### the mirror -/
def deedM (tm : Rd' PyData) (ws : List Wd) (i : Nat) : Res PyData :=
  andThen (takeM ws ["set", "raise", "say"] i) fun wd j => andThen (takeM ws ["a name"] j) fun nm j =>
    if decide (V.str wd = V.str "raise") then told (.tuple [.str "raise", .str nm]) j else mapR (fun e => PyData.tuple [.str wd, .str nm, e]) (tm ws j)
def listGo (rd : Rd' PyData) (ws : List Wd) : Nat → List PyData → Nat → Res PyData
  | 0, _, _ => none
  | n + 1, ds, i => andThen (takeIfM ws "," i) fun b j => if b then andThen (rd ws j) fun d j => (if ds.length < 50000 then listGo rd ws n (ds ++ [d]) j else none) else told (.tuple ds) j
def listM (rd : Rd' PyData) (ws : List Wd) (i : Nat) : Res PyData := andThen (rd ws i) fun d j => listGo rd ws (ws.length + 1) [d] j
def nameM (ws : List Wd) (i : Nat) : Res PyData := mapR PyData.str (takeM ws ["a name"] i)
def intM (x : Res Str) : Res Int := andThen x fun w j => match numM w with
  | none => none
  | some k => told k j
def numbM (ws : List Wd) (i : Nat) : Res Int := intM (takeM ws ["a number"] i)
def whenM (ws : List Wd) (i : Nat) : Res PyData :=
  andThen (takeM ws ["on", "after", "done"] i) fun wd j => if decide (V.str wd = V.str "on") then mapR (fun e => PyData.tuple [.str "on", e]) (nameM ws j)
    else if decide (V.str wd = V.str "after") then mapR (fun e => PyData.tuple [.str "after", e]) (mapR PyData.int (numbM ws j)) else told (.tuple [.str "done"]) j
def optM (k : Str) (rd : Rd' PyData) (d0 : PyData) (ws : List Wd) (i : Nat) : Res PyData := andThen (takeIfM ws k i) fun b j => if b then rd ws j else told d0 j
def moveM (gd dd : Rd' PyData) (ws : List Wd) (i : Nat) : Res PyData :=
  andThen (whenM ws i) fun wn j => andThen (optM "if" gd (.tuple [.str "yes"]) ws j) fun g j => andThen (optM "do" dd (.tuple []) ws j) fun d j => andThen (optM "to" (listM nameM) (.tuple []) ws j) fun gl j => told (.tuple [wn, g, d, gl]) j
def signedM (ws : List Wd) (i : Nat) : Res PyData := andThen (takeIfM ws "-" i) fun b j => if b then mapR PyData.int (mapR (fun k => -k) (numbM ws j)) else mapR PyData.int (numbM ws j)
def factM (ws : List Wd) (i : Nat) : Res PyData :=
  andThen (takeM ws ["a name"] i) fun nm j => andThen (signedM ws j) fun lo j => andThen (signedM ws j) fun hi j => mapR (fun e => PyData.tuple [.str nm, lo, hi, e]) (signedM ws j)
section
variable {P : Program} {w : World} {K : PySem.W.Frag} {mg : Str → Option Value} {base : Heap} {C : Cn P w K mg base}
section
variable {p : Addr} {num : Nm} {ws : List Wd} {E : XK} {σ : L2.St} {H H1 : Hp} {α α2 α3 β γ δ : Type} {D : Ends} {tz tu : TS} {Q : VK} {R : Hp → V → α → Prop}
def RI : Hp → V → Int → Prop := fun _ v a => v = .int a
theorem py_name {ta : TA} {i : Nat} (h0 : σ[0]? = some (some (.ref p))) (h : EvA ta σ H [.str "a name"]) (hW : WAt C.W H p num ws i) : Py C p num ws E (tMethR C.W "take" (spTake C) E (tVar 0) ta) σ H RD (nameM ws i) := py_map (py_take (ks := ["a name"]) h0 h hW) fun H v a r => by
  cases r
  exact dt_str
theorem py_int {t : TE} {x : Res Str} (h : Py C p num ws E t σ H RStr x) : Py C p num ws E (tCB (fun xs H Q => ∃ a n, xs = [.str a] ∧ PySem.intText? a = some n ∧ a.length ≤ 640 ∧ Q (.int n) H) (tCons t tNil)) σ H RI (intM x) := fun Q ac => h _ (by
  match x, ac with
  | some (.inl c), ac => exact ac
  | some (.inr (a, j)), ac =>
    intro v H' f x r
    cases r
    have ac : Acc C p num ws H Q E RI (match numM a with | none => none | some k => told k j) := ac
    cases hn : numM a with
    | none =>
      rw [hn] at ac
      exact ac.elim
    | some k =>
      rw [hn] at ac
      unfold numM at hn
      split at hn
      · rename_i hl
        exact ⟨a, k, rfl, hn, hl, ac _ H' f x rfl⟩
      · cases hn)
theorem py_neg {t : TE} {x : Res Int} (h : Py C p num ws E t σ H RI x) : Py C p num ws E (tUn (rU fun i => .int (-i)) t) σ H RI (mapR (fun k => -k) x) := fun Q ac => h _ (by
  match x, ac with
  | some (.inl c), ac => exact ac
  | some (.inr (a, j)), ac => exact fun v H' f x r => ⟨a, r, ac _ H' f x rfl⟩)
theorem py_dint {t : TE} {x : Res Int} (h : Py C p num ws E t σ H RI x) : Py C p num ws E t σ H RD (mapR PyData.int x) := py_map h fun H v a r => by
  cases r
  exact dt_int
/-- if words.take_if(k): x = .. -/
theorem q_opt {t : TE} {tt : TT} {k : Str} {kk i : Nat} {rd : Rd' PyData} {d0 : PyData} {v0 : V} {f : PyData → Nat → Res α} (ht : Py C p num ws E tt σ H1 REq (takeIfM ws k i)) (h : ∀ H2 j, WAt C.W H2 p num ws j → Py C p num ws E t σ H2 RD (rd ws j)) (hd : DT H1 d0 v0) (hs : σ.set kk (some v0) = σ) (hW : WAt C.W H1 p num ws i)
    (ac : Acc C p num ws H Q E R (andThen (optM k rd d0 ws i) f)) (fr : Fr p H H1) (n : ∀ d j, Acc C p num ws H Q E R (f d j) → ∀ v H2, Fr p H H2 → Fr p H1 H2 → WAt C.W H2 p num ws j → DT H2 d v → tz D (σ.set kk (some v)) H2) :
    Evl.tCut (tIfS tt (tAsg t (gName kk)) tNext) tz D σ H1 := by
  refine Evl.q_cut (M := fun σ' H' => ∃ d v j, σ' = σ.set kk (some v) ∧ Fr p H H' ∧ Fr p H1 H' ∧ WAt C.W H' p num ws j ∧ DT H' d v ∧ Acc C p num ws H Q E R (f d j)) ?_ ?_
  · have e : andThen (optM k rd d0 ws i) f = andThen (takeIfM ws k i) fun b j => andThen (if b then rd ws j else told d0 j) f := by
      unfold optM
      match takeIfM ws k i with
      | none => rfl
      | some (.inl c) => rfl
      | some (.inr (a, j)) => rfl
    rw [e] at ac
    refine ht _ (Acc.bind (R2 := REq) ac fr fun b j ac _ H2 f2 g2 hW2 r => ?_)
    cases r
    cases b with
    | true =>
      simp only [if_true] at ac ⊢
      exact s_py (h H2 j hW2) ac f2 fun d j ac v H3 f3 g3 hW3 r => ⟨d, v, j, rfl, f3, g2.trans g3, hW3, r, ac⟩
    | false =>
      simp only [Bool.false_eq_true, if_false] at ac ⊢
      exact ⟨d0, v0, j, hs.symm, f2, g2, hW2, DT.tf (hW.tf g2) _ _ hd, ac⟩
  · rintro σ' H' ⟨d, v, j, rfl, f2, g2, hW2, hd2, ac⟩
    exact n d j ac v H' f2 g2 hW2 hd2
theorem dts_snoc {H : Hp} {d : PyData} {v : V} (h : DT H d v) : ∀ {ds : List PyData} {vs : List V}, DTs H ds vs → DTs H (ds ++ [d]) (vs ++ [v])
  | [], vs, h2 => by
    unfold DTs at h2
    subst h2
    exact dts_cons h dts_nil
  | e :: ds, vs, h2 => by
    unfold DTs at h2
    obtain ⟨v1, r, rfl, h3, h4⟩ := h2
    exact dts_cons h3 (dts_snoc h h4)
theorem WAt.upd {i : Nat} {l : Addr} {o : HO} (h : WAt C.W H p num ws i) (hp : l ≠ p) (hw : num.off l) (ht : ∀ xs, H l ≠ some (.tup xs)) : WAt C.W (upd H l o) p num ws i := by
  obtain ⟨dx, ts, a, b, c⟩ := h
  exact ⟨dx, ts, by rw [upd_ne (Ne.symm hp)]; exact a, by rw [upd_ne (Ne.symm hw.1)]; exact b, by rw [upd_ne (Ne.symm hw.2)]; exact c.1, c.2⟩
theorem WAt.fresh {i : Nat} {l : Addr} (h : WAt C.W H p num ws i) (hl : H l = none) : l ≠ p ∧ num.off l := by
  obtain ⟨dx, ts, a, b, c⟩ := h
  exact ⟨ne_old a hl, ne_old b hl, ne_old c.1 hl⟩
theorem Fr.mut {p l : Addr} {H H' : Hp} {o : HO} (f : Fr p H H') (hl : H l = none) : Fr p H (L2.upd H' l o) := fun b u n hb => by
  rw [upd_ne (ne_of_none hb hl)]
  exact f b u n hb
/-- xs = [..]; while words.take_if(","): xs.append(..); return tuple(xs) -/
theorem s_list {t : TE} {tt : TT} {rd : Rd' PyData} {i : Nat} {t1 : TE} (h1 : Py C p num ws E t1 [some (.ref p), none] H RD (rd ws i)) (ht : ∀ H2 j l, WAt C.W H2 p num ws j → Py C p num ws E tt [some (.ref p), some (.ref l)] H2 REq (takeIfM ws "," j)) (h : ∀ H2 j l, WAt C.W H2 p num ws j → Py C p num ws E t [some (.ref p), some (.ref l)] H2 RD (rd ws j))
    (ac : Acc C p num ws H Q E RD (listM rd ws i)) (e : D.rt = Q) :
    tSeq (tAsg (tLst (tCons t1 tNil)) (gName 1)) (tSeq (tWhile tt (tDrop (tBM K "list" rAppend (tVar 1) (tCons t tNil)))) (tRet (tCB (fun xs H Q => ∃ p ys, xs = [.ref p] ∧ ((SqL K H p ys ∧ ∀ l, H l = none → Q (.ref l) (upd H l (.tup ys))) ∨ (SqT K H p ys ∧ Q (.ref p) H))) (tCons (tVar 1) tNil)))) D [some (.ref p), none] H := by
  refine h1 _ (Acc.bind (R2 := RD) ac (Fr.refl p H) fun d j ac v H1 f1 _ hW1 hd => ⟨by show 1 ≤ sizeLine; exact sz_of (by decide), fun l hl => ?_⟩)
  have hl0 : H l = none := by
    cases h : H l with
    | none => rfl
    | some o =>
      by_cases z : l = p
      · exact absurd z (hW1.fresh hl).1
      · rw [f1 l o z h] at hl
        cases hl
  have e1 : Ex H1 (upd H1 l (.lst [v])) := fr_new hl
  have hlp := (hW1.fresh hl).1
  have hlw := (hW1.fresh hl).2
  refine ⟨fun m σ' H' => ∃ ds vs i, Fr p H H' ∧ WAt C.W H' p num ws i ∧ H' l = some (.lst vs) ∧ DTs H' ds vs ∧ σ' = [some (.ref p), some (.ref l)] ∧ Acc C p num ws H Q E RD (listGo rd ws m ds i), ⟨ws.length + 1, [d], [v], j, f1.trans (Fr.ex e1), hW1.ex e1, upd_same, dts_cons (DT.tf (TF.ex e1) _ _ hd) dts_nil, rfl, ac⟩, ?_⟩
  rintro m σ' H' ⟨ds, vs, i, f2, hW2, hl2, hds, rfl, ac⟩
  cases m with
  | zero => exact ac.elim
  | succ m =>
    unfold listGo at ac
    refine ht H' i l hW2 _ (Acc.bind (R2 := REq) ac f2 fun b j ac _ H3 f3 g3 hW3 r => ?_)
    cases r
    have hl3 := g3 l _ hlp hl2
    have hds3 := DTs.tf (hW2.tf g3) _ _ hds
    cases b with
    | true =>
      simp only [if_true] at ac ⊢
      refine ⟨fun σ2 H2 => ∃ ds vs i, Fr p H H2 ∧ WAt C.W H2 p num ws i ∧ H2 l = some (.lst vs) ∧ DTs H2 ds vs ∧ σ2 = [some (.ref p), some (.ref l)] ∧ Acc C p num ws H Q E RD (listGo rd ws m ds i), fun σ2 H2 z => ⟨m, Nat.lt_succ_self _, z⟩, ?_⟩
      refine ⟨.ref l, rfl, Or.inl ⟨rfl, vs, sq_of hl3⟩, h H3 j l hW3 _ (Acc.bind (R2 := RD) ac f3 fun d2 j2 ac v2 H4 f4 g4 hW4 hd2 => ?_)⟩
      by_cases hz : ds.length < 50000
      · rw [if_pos hz] at ac
        have hl4 := g4 l _ hlp hl3
        have hds4 := DTs.tf (hW3.tf g4) _ _ hds3
        have ht : ∀ xs, H4 l ≠ some (.tup xs) := fun xs z => by
          rw [hl4] at z
          cases z
        have tf : TF H4 (L2.upd H4 l (.lst (vs ++ [v2]))) := fun b xs hb => by
          have : b ≠ l := fun z => by
            rw [z] at hb
            exact ht _ hb
          rw [upd_ne this]
          exact hb
        exact ⟨l, vs, v2, rfl, rfl, hl4, sz_lt (by rw [DTs.len hds]; omega), ds ++ [d2], vs ++ [v2], j2, f4.mut hl0, hW4.upd hlp hlw ht, upd_same, DTs.tf tf _ _ (dts_snoc hd2 hds4), rfl, ac⟩
      · rw [if_neg hz] at ac
        exact ac.elim
    | false =>
      simp only [Bool.false_eq_true, if_false] at ac ⊢
      refine ⟨.ref l, rfl, l, vs, rfl, Or.inl ⟨sq_of hl3, fun q hq => ?_⟩⟩
      show D.rt _ _
      rw [e]
      exact ac _ _ (f3.trans (Fr.ex (fr_new hq))) (hW3.ex (fr_new hq)) (dt_tup upd_same (DTs.tf (TF.ex (fr_new hq)) _ _ hds3))
end
/-! ### read_deed -/
theorem scDeed : FnScope ["words", "word", "name"] ["words"] (defScope sDeed) := ⟨rfl, rfl, rfl, by decide +kernel, rfl, by decide +kernel, by decide +kernel⟩
theorem ok_deed {tm : Rd' PyData} {L : Nat} (hL : 4 ≤ L) (T : Tl C) (D : Df K mg "read_deed" sDeed ["words"]) (DT' : Df K mg "read_term" sTerm ["words"]) (GT : FnOk P w K mg base (L2.CX P w) L DT'.f DT'.fd ["words"] (spG C RD tm)) :
    FnOk P w K mg base (L2.CX P w) (L + 1) D.f D.fd ["words"] (spG C RD (deedM tm)) := by
  obtain ⟨_, gA⟩ := T.gA
  refine D.F.okX scDeed (fun vs H Q E h => ?_) (fun cdv A outer s0 H vs Q E hr h => ?_)
  · obtain ⟨p, num, ws, i, rfl, _⟩ := h
    rfl
  · obtain ⟨p, num, ws, i, rfl, hW, ac⟩ := h
    refine ⟨_, pss_cons (ps_set (i := 1) scDeed.nd rfl (.inl rfl) (pe_methR (pv 0) C.cl T.mT T.FT (hr.mono hL) (passes_call (takes_of rfl rfl rfl rfl) fun _ _ _ _ h => h) (pa_cons pe_str (pa_cons pe_str (pa_cons pe_str pa_nil)))))
      (pss_cons (ps_set (i := 2) scDeed.nd rfl (.inl rfl) (pe_methR (pv 0) C.cl T.mT T.FT (hr.mono hL) (passes_call (takes_of rfl rfl rfl rfl) fun _ _ _ _ h => h) (pa_cons (pe_glob (v := .str "a name") rfl gA ⟨_, rfl⟩) pa_nil)))
      (pss_cons (ps_if (pt_cmpR op_eq (pv 1) pe_str (nomark _)) (pss_one (ps_ret (pe_tup (pa_cons pe_str (pa_cons (pv 2) pa_nil))))) pss_nil)
      (pss_one (ps_ret (pe_tup (pa_cons (pv 1) (pa_cons (pv 2) (pa_cons (pe_call GT hr rfl DT'.m DT'.F.kp DT'.b .nil (passes_call (takes_of rfl rfl rfl rfl) fun _ _ _ _ h => h) (pa_cons (pv 0) pa_nil)) pa_nil)))))))), ?_⟩
    refine q_py (py_take (ks := ["set", "raise", "say"]) rfl (ea_cons ev_c (ea_cons ev_c (ea_cons ev_c ea_nil))) hW) ac (Fr.refl p H) fun wd j ac v H1 f1 _ hW1 r => ?_
    subst r
    refine q_py (py_take (ks := ["a name"]) rfl (ea_cons ev_c ea_nil) hW1) ac f1 fun nm j ac v H2 f2 _ hW2 r => ?_
    subst r
    refine q_when (b := decide (V.str wd = V.str "raise")) (et_test (ev_op (ev_var rfl) ev_c (rv_eq rfl))) (fun hb H3 e3 => ?_) (fun hb H3 e3 => ?_)
    · simp only [hb, if_true] at ac
      refine s_pyRet (x := told (.tuple [.str "raise", .str nm]) j) (py_is (py_tup (py_cons (v := .str "raise") (d := .str "raise") ev_c (hW2.ex e3) dt_str fun H' e' hW' => py_cons (v := .str nm) (d := .str nm) (ev_var rfl) hW' dt_str fun H' e' hW' => py_nil hW') ?_) rfl) ac (f2.trans (Fr.ex e3)) rfl
      intro a j e
      cases e
      show 2 ≤ 100000
      decide
    simp only [hb, Bool.false_eq_true, if_false] at ac
    exact s_pyRet (tup3 (ev_var rfl) (fun _ _ => ev_var rfl) dt_str (hW2.ex e3) fun H3 e3 hW3 => py_call (m := tm) rfl hW3) ac (f2.trans (Fr.ex e3)) rfl
/-! ### read_deeds, read_goals -/
theorem scDeeds : FnScope ["words", "deeds"] ["words"] (defScope sDeeds) := ⟨rfl, rfl, rfl, by decide +kernel, rfl, by decide +kernel, by decide +kernel⟩
theorem ok_deeds {dm : Rd' PyData} {L : Nat} (hL : 4 ≤ L) (T : Tl C) (D : Df K mg "read_deeds" sDeeds ["words"]) (DD : Df K mg "read_deed" sDeed ["words"]) (GD : FnOk P w K mg base (L2.CX P w) L DD.f DD.fd ["words"] (spG C RD dm)) (gT : mg "tuple" = none) :
    FnOk P w K mg base (L2.CX P w) (L + 1) D.f D.fd ["words"] (spG C RD (listM dm)) := by
  refine D.F.okX scDeeds (fun vs H Q E h => ?_) (fun cdv A outer s0 H vs Q E hr h => ?_)
  · obtain ⟨p, num, ws, i, rfl, _⟩ := h
    rfl
  · obtain ⟨p, num, ws, i, rfl, hW, ac⟩ := h
    refine ⟨_, pss_cons (ps_set (i := 1) scDeeds.nd rfl (.inl rfl) (pe_lst (pa_cons (pe_call GD hr rfl DD.m DD.F.kp DD.b .nil (passes_call (takes_of rfl rfl rfl rfl) fun _ _ _ _ h => h) (pa_cons (pv 0) pa_nil)) pa_nil)))
      (pss_cons (ps_while (passes_of rfl) (pt_val (pe_meth (pv 0) C.cl T.mI T.GI (hr.mono (by omega)) T.bI .nil (passAny (E := E)) (pa_cons pe_str pa_nil)))
        (pss_one (ps_expr (pe_bm PySem.F.plainAttrs_list PySem.F.slot_list_append PySem.F.type_list_append mt_append (pv 1) (pa_cons (pe_call GD hr rfl DD.m DD.F.kp DD.b .nil (passes_call (takes_of rfl rfl rfl rfl) fun _ _ _ _ h => h) (pa_cons (pv 0) pa_nil)) pa_nil)))))
      (pss_one (ps_ret (pe_callTy call_tuple_of rfl gT rfl (pa_cons (pv 1) pa_nil))))), ?_⟩
    exact s_list (py_call (m := dm) rfl hW) (fun H2 j l hW2 => py_test (py_takeIf rfl ev_c hW2)) (fun H2 j l hW2 => py_call (m := dm) rfl hW2) ac rfl
theorem scGoals : FnScope ["words", "goals"] ["words"] (defScope sGoals) := ⟨rfl, rfl, rfl, by decide +kernel, rfl, by decide +kernel, by decide +kernel⟩
theorem ok_goals (T : Tl C) (D : Df K mg "read_goals" sGoals ["words"]) (gT : mg "tuple" = none) : FnOk P w K mg base (L2.CX P w) 5 D.f D.fd ["words"] (spG C RD (listM nameM)) := by
  obtain ⟨_, gA⟩ := T.gA
  refine D.F.okX scGoals (fun vs H Q E h => ?_) (fun cdv A outer s0 H vs Q E hr h => ?_)
  · obtain ⟨p, num, ws, i, rfl, _⟩ := h
    rfl
  · obtain ⟨p, num, ws, i, rfl, hW, ac⟩ := h
    refine ⟨_, pss_cons (ps_set (i := 1) scGoals.nd rfl (.inl rfl) (pe_lst (pa_cons (pe_methR (pv 0) C.cl T.mT T.FT hr (passes_call (takes_of rfl rfl rfl rfl) fun _ _ _ _ h => h) (pa_cons (pe_glob (v := .str "a name") rfl gA ⟨_, rfl⟩) pa_nil)) pa_nil)))
      (pss_cons (ps_while (passes_of rfl) (pt_val (pe_meth (pv 0) C.cl T.mI T.GI (hr.mono (by omega)) T.bI .nil (passAny (E := E)) (pa_cons pe_str pa_nil)))
        (pss_one (ps_expr (pe_bm PySem.F.plainAttrs_list PySem.F.slot_list_append PySem.F.type_list_append mt_append (pv 1) (pa_cons (pe_methR (pv 0) C.cl T.mT T.FT hr (passes_call (takes_of rfl rfl rfl rfl) fun _ _ _ _ h => h) (pa_cons (pe_glob (v := .str "a name") rfl gA ⟨_, rfl⟩) pa_nil)) pa_nil)))))
      (pss_one (ps_ret (pe_callTy call_tuple_of rfl gT rfl (pa_cons (pv 1) pa_nil))))), ?_⟩
    exact s_list (py_name rfl (ea_cons ev_c ea_nil) hW) (fun H2 j l hW2 => py_test (py_takeIf rfl ev_c hW2)) (fun H2 j l hW2 => py_name rfl (ea_cons ev_c ea_nil) hW2) ac rfl
/-! ### read_when -/
theorem scWhen : FnScope ["words", "word"] ["words"] (defScope sWhen) := ⟨rfl, rfl, rfl, by decide +kernel, rfl, by decide +kernel, by decide +kernel⟩
theorem ok_when (T : Tl C) (D : Df K mg "read_when" sWhen ["words"]) : FnOk P w K mg base (L2.CX P w) 5 D.f D.fd ["words"] (spG C RD whenM) := by
  obtain ⟨_, gA⟩ := T.gA
  obtain ⟨_, gN⟩ := T.gN
  refine D.F.okX scWhen (fun vs H Q E h => ?_) (fun cdv A outer s0 H vs Q E hr h => ?_)
  · obtain ⟨p, num, ws, i, rfl, _⟩ := h
    rfl
  · obtain ⟨p, num, ws, i, rfl, hW, ac⟩ := h
    refine ⟨_, pss_cons (ps_set (i := 1) scWhen.nd rfl (.inl rfl) (pe_methR (pv 0) C.cl T.mT T.FT hr (passes_call (takes_of rfl rfl rfl rfl) fun _ _ _ _ h => h) (pa_cons pe_str (pa_cons pe_str (pa_cons pe_str pa_nil)))))
      (pss_cons (ps_if (pt_cmpR op_eq (pv 1) pe_str (nomark _)) (pss_one (ps_ret (pe_tup (pa_cons pe_str (pa_cons (pe_methR (pv 0) C.cl T.mT T.FT hr (passes_call (takes_of rfl rfl rfl rfl) fun _ _ _ _ h => h) (pa_cons (pe_glob (v := .str "a name") rfl gA ⟨_, rfl⟩) pa_nil)) pa_nil))))) pss_nil)
      (pss_cons (ps_if (pt_cmpR op_eq (pv 1) pe_str (nomark _)) (pss_one (ps_ret (pe_tup (pa_cons pe_str (pa_cons (pe_callTy call_int_str rfl T.gI rfl (pa_cons (pe_methR (pv 0) C.cl T.mT T.FT hr (passes_call (takes_of rfl rfl rfl rfl) fun _ _ _ _ h => h) (pa_cons (pe_glob (v := .str "a number") rfl gN ⟨_, rfl⟩) pa_nil)) pa_nil)) pa_nil))))) pss_nil)
      (pss_one (ps_ret (pe_tup (pa_cons pe_str pa_nil)))))), ?_⟩
    refine q_py (py_take (ks := ["on", "after", "done"]) rfl (ea_cons ev_c (ea_cons ev_c (ea_cons ev_c ea_nil))) hW) ac (Fr.refl p H) fun wd j ac v H1 f1 _ hW1 r => ?_
    subst r
    refine q_when (b := decide (V.str wd = V.str "on")) (et_test (ev_op (ev_var rfl) ev_c (rv_eq rfl))) (fun hb H2 e2 => ?_) (fun hb H2 e2 => ?_)
    · simp only [hb, if_true] at ac
      exact s_pyRet (tup2 ev_c (hW1.ex e2) fun H4 e4 hW4 => py_name rfl (ea_cons ev_c ea_nil) hW4) ac (f1.trans (Fr.ex e2)) rfl
    simp only [hb, Bool.false_eq_true, if_false] at ac
    have f2 := f1.trans (Fr.ex e2)
    have hW2 := hW1.ex e2
    refine q_when (b := decide (V.str wd = V.str "after")) (et_test (ev_op (ev_var rfl) ev_c (rv_eq rfl))) (fun hb H2 e2 => ?_) (fun hb H2 e2 => ?_)
    · simp only [hb, if_true] at ac
      exact s_pyRet (tup2 ev_c (hW2.ex e2) fun H4 e4 hW4 => py_dint (py_int (py_take (ks := ["a number"]) rfl (ea_cons ev_c ea_nil) hW4))) ac (f2.trans (Fr.ex e2)) rfl
    simp only [hb, Bool.false_eq_true, if_false] at ac
    refine s_pyRet (x := told (.tuple [.str "done"]) j) (py_is (py_tup (py_cons (d := .str "done") ev_c (hW2.ex e2) dt_str fun H' e' hW' => py_nil hW') ?_) rfl) ac (f2.trans (Fr.ex e2)) rfl
    intro a j e
    cases e
    show 1 ≤ 100000
    decide
/-! ### read_signed, read_fact -/
theorem scSigned : FnScope ["words"] ["words"] (defScope sSigned) := ⟨rfl, rfl, rfl, by decide +kernel, rfl, by decide +kernel, by decide +kernel⟩
theorem ok_signed (T : Tl C) (D : Df K mg "read_signed" sSigned ["words"]) : FnOk P w K mg base (L2.CX P w) 5 D.f D.fd ["words"] (spG C RD signedM) := by
  obtain ⟨_, gN⟩ := T.gN
  refine D.F.okX scSigned (fun vs H Q E h => ?_) (fun cdv A outer s0 H vs Q E hr h => ?_)
  · obtain ⟨p, num, ws, i, rfl, _⟩ := h
    rfl
  · obtain ⟨p, num, ws, i, rfl, hW, ac⟩ := h
    refine ⟨_, pss_cons (ps_if (pt_val (pe_meth (pv 0) C.cl T.mI T.GI (hr.mono (by decide)) T.bI .nil (passAny (E := E)) (pa_cons pe_str pa_nil))) (pss_one (ps_ret (pe_un un_neg (pe_callTy call_int_str rfl T.gI rfl (pa_cons (pe_methR (pv 0) C.cl T.mT T.FT hr (passes_call (takes_of rfl rfl rfl rfl) fun _ _ _ _ h => h) (pa_cons (pe_glob (v := .str "a number") rfl gN ⟨_, rfl⟩) pa_nil)) pa_nil))))) pss_nil)
      (pss_one (ps_ret (pe_callTy call_int_str rfl T.gI rfl (pa_cons (pe_methR (pv 0) C.cl T.mT T.FT hr (passes_call (takes_of rfl rfl rfl rfl) fun _ _ _ _ h => h) (pa_cons (pe_glob (v := .str "a number") rfl gN ⟨_, rfl⟩) pa_nil)) pa_nil)))), ?_⟩
    refine q_pyIf (py_test (py_takeIf rfl ev_c hW)) ac (Fr.refl p H) (fun j ac H1 f1 _ hW1 => ?_) (fun j ac H1 f1 _ hW1 => ?_)
    · simp only [if_true] at ac
      exact s_pyRet (py_dint (py_neg (py_int (py_take (ks := ["a number"]) rfl (ea_cons ev_c ea_nil) hW1)))) ac f1 rfl
    · simp only [Bool.false_eq_true, if_false] at ac
      exact s_pyRet (py_dint (py_int (py_take (ks := ["a number"]) rfl (ea_cons ev_c ea_nil) hW1))) ac f1 rfl
end
end Prs
set_option Elab.async false
set_option linter.all false
set_option maxRecDepth 100000
set_option maxHeartbeats 4000000
namespace Prs
open PySem PySem.Spec PyProof.Rows L2 Evl
section
variable {P : Program} {w : World} {K : PySem.W.Frag} {mg : Str → Option Value} {base : Heap} {C : Cn P w K mg base}
section
variable {p : Addr} {num : Nm} {ws : List Wd} {E : XK} {σ : L2.St} {H H1 : Hp}
/-- four names' things -/
theorem py_tup4 {t4 : TE} {k1 k2 k3 : Nat} {v1 v2 v3 : V} {d1 d2 d3 : PyData} {i : Nat} {x : Res PyData} (h1 : σ[k1]? = some (some v1)) (h2 : σ[k2]? = some (some v2)) (h3 : σ[k3]? = some (some v3)) (hW : WAt C.W H p num ws i) (e1 : DT H d1 v1) (e2 : DT H d2 v2) (e3 : DT H d3 v3)
    (h4 : ∀ H', Ex H H' → WAt C.W H' p num ws i → Py C p num ws E t4 σ H' RD x) : Py C p num ws E (tTup (tCons (tVar k1) (tCons (tVar k2) (tCons (tVar k3) (tCons t4 tNil))))) σ H RD (mapR (fun e => PyData.tuple [d1, d2, d3, e]) x) := by
  refine py_is (py_tup (py_cons (d := d1) (ev_var h1) hW e1 fun H1 f1 hW1 => py_cons (d := d2) (ev_var h2) hW1 (DT.tf (TF.ex f1) _ _ e2) fun H2 f2 hW2 => py_cons (d := d3) (ev_var h3) hW2 (DT.tf (TF.ex f2) _ _ (DT.tf (TF.ex f1) _ _ e3)) fun H3 f3 hW3 => py_last (h4 H3 (Ex.trans (Ex.trans f1 f2) f3) hW3)) ?_) ?_
  · rw [mapR_mapR, mapR_mapR, mapR_mapR]
    exact mapR_len fun _ => by
      show 4 ≤ 100000
      decide
  · rw [mapR_mapR, mapR_mapR, mapR_mapR, mapR_mapR]
end
/-! ### read_fact -/
theorem scFact : FnScope ["words", "name", "low", "high"] ["words"] (defScope sFact) := ⟨rfl, rfl, rfl, by decide +kernel, rfl, by decide +kernel, by decide +kernel⟩
theorem ok_fact (T : Tl C) (D : Df K mg "read_fact" sFact ["words"]) (DS : Df K mg "read_signed" sSigned ["words"]) (GS : FnOk P w K mg base (L2.CX P w) 5 DS.f DS.fd ["words"] (spG C RD signedM)) : FnOk P w K mg base (L2.CX P w) 6 D.f D.fd ["words"] (spG C RD factM) := by
  obtain ⟨_, gA⟩ := T.gA
  refine D.F.okX scFact (fun vs H Q E h => ?_) (fun cdv A outer s0 H vs Q E hr h => ?_)
  · obtain ⟨p, num, ws, i, rfl, _⟩ := h
    rfl
  · obtain ⟨p, num, ws, i, rfl, hW, ac⟩ := h
    refine ⟨_, pss_cons (ps_set (i := 1) scFact.nd rfl (.inl rfl) (pe_methR (pv 0) C.cl T.mT T.FT (hr.mono (by decide)) (passes_call (takes_of rfl rfl rfl rfl) fun _ _ _ _ h => h) (pa_cons (pe_glob (v := .str "a name") rfl gA ⟨_, rfl⟩) pa_nil)))
      (pss_cons (ps_set (i := 2) scFact.nd rfl (.inl rfl) (pe_call GS hr rfl DS.m DS.F.kp DS.b .nil (passes_call (takes_of rfl rfl rfl rfl) fun _ _ _ _ h => h) (pa_cons (pv 0) pa_nil)))
      (pss_cons (ps_set (i := 3) scFact.nd rfl (.inl rfl) (pe_call GS hr rfl DS.m DS.F.kp DS.b .nil (passes_call (takes_of rfl rfl rfl rfl) fun _ _ _ _ h => h) (pa_cons (pv 0) pa_nil)))
      (pss_one (ps_ret (pe_tup (pa_cons (pv 1) (pa_cons (pv 2) (pa_cons (pv 3) (pa_cons (pe_call GS hr rfl DS.m DS.F.kp DS.b .nil (passes_call (takes_of rfl rfl rfl rfl) fun _ _ _ _ h => h) (pa_cons (pv 0) pa_nil)) pa_nil))))))))), ?_⟩
    refine q_py (py_take (ks := ["a name"]) rfl (ea_cons ev_c ea_nil) hW) ac (Fr.refl p H) fun nm j ac v H1 f1 _ hW1 r => ?_
    subst r
    refine q_py (py_call (m := signedM) (R := RD) rfl hW1) ac f1 fun lo j ac v H2 f2 _ hW2 r2 => ?_
    refine q_py (py_call (m := signedM) (R := RD) rfl hW2) ac f2 fun hi j ac v3 H3 f3 g3 hW3 r3 => ?_
    exact s_pyRet (py_tup4 rfl rfl rfl hW3 dt_str (DT.tf (hW2.tf g3) _ _ r2) r3 fun H4 e4 hW4 => py_call (m := signedM) rfl hW4) ac f3 rfl
/-! ### read_move -/
theorem scMove : FnScope ["words", "when", "guard", "deeds", "goals"] ["words"] (defScope sMove) := ⟨rfl, rfl, rfl, by decide +kernel, rfl, by decide +kernel, by decide +kernel⟩
theorem ok_move {gd dd : Rd' PyData} {L : Nat} (hL : 5 ≤ L) (T : Tl C) (D : Df K mg "read_move" sMove ["words"]) (DW : Df K mg "read_when" sWhen ["words"]) (DG : Df K mg "read_guard" sGuard ["words"]) (DD : Df K mg "read_deeds" sDeeds ["words"]) (DO : Df K mg "read_goals" sGoals ["words"])
    (GW : FnOk P w K mg base (L2.CX P w) 5 DW.f DW.fd ["words"] (spG C RD whenM)) (GG : FnOk P w K mg base (L2.CX P w) L DG.f DG.fd ["words"] (spG C RD gd)) (GD : FnOk P w K mg base (L2.CX P w) L DD.f DD.fd ["words"] (spG C RD dd)) (GO : FnOk P w K mg base (L2.CX P w) 5 DO.f DO.fd ["words"] (spG C RD (listM nameM))) :
    FnOk P w K mg base (L2.CX P w) (L + 1) D.f D.fd ["words"] (spG C RD (moveM gd dd)) := by
  refine D.F.okX scMove (fun vs H Q E h => ?_) (fun cdv A outer s0 H vs Q E hr h => ?_)
  · obtain ⟨p, num, ws, i, rfl, _⟩ := h
    rfl
  · obtain ⟨p, num, ws, i, rfl, hW, ac⟩ := h
    have hr5 : Room 5 (A.deeper (envOfC "read_move" (defScope sMove) s0.heap.objs.size D.f cdv)) := hr.mono hL
    have hrI : Room 2 (A.deeper (envOfC "read_move" (defScope sMove) s0.heap.objs.size D.f cdv)) := hr.mono (by omega)
    refine ⟨_, pss_cons (ps_set (i := 1) scMove.nd rfl (.inl rfl) (pe_call GW hr5 rfl DW.m DW.F.kp DW.b .nil (passes_call (takes_of rfl rfl rfl rfl) fun _ _ _ _ h => h) (pa_cons (pv 0) pa_nil)))
      (pss_cons (ps_asg (pe_tup (pa_cons (pe_tup (pa_cons pe_str pa_nil)) (pa_cons (pe_tup pa_nil) (pa_cons (pe_tup pa_nil) pa_nil)))) (pg_tup rfl (pgs_cons (pg_name (i := 2) scMove.nd rfl (.inl rfl)) (pgs_cons (pg_name (i := 3) scMove.nd rfl (.inl rfl)) (pgs_cons (pg_name (i := 4) scMove.nd rfl (.inl rfl)) pgs_nil)))))
      (Evl.pss_cut (ps_if (pt_val (pe_meth (pv 0) C.cl T.mI T.GI hrI T.bI .nil (passAny (E := E)) (pa_cons pe_str pa_nil))) (pss_one (ps_set (i := 2) scMove.nd rfl (.inl rfl) (pe_call GG hr rfl DG.m DG.F.kp DG.b .nil (passes_call (takes_of rfl rfl rfl rfl) fun _ _ _ _ h => h) (pa_cons (pv 0) pa_nil)))) pss_nil)
      (Evl.pss_cut (ps_if (pt_val (pe_meth (pv 0) C.cl T.mI T.GI hrI T.bI .nil (passAny (E := E)) (pa_cons pe_str pa_nil))) (pss_one (ps_set (i := 3) scMove.nd rfl (.inl rfl) (pe_call GD hr rfl DD.m DD.F.kp DD.b .nil (passes_call (takes_of rfl rfl rfl rfl) fun _ _ _ _ h => h) (pa_cons (pv 0) pa_nil)))) pss_nil)
      (Evl.pss_cut (ps_if (pt_val (pe_meth (pv 0) C.cl T.mI T.GI hrI T.bI .nil (passAny (E := E)) (pa_cons pe_str pa_nil))) (pss_one (ps_set (i := 4) scMove.nd rfl (.inl rfl) (pe_call GO hr5 rfl DO.m DO.F.kp DO.b .nil (passes_call (takes_of rfl rfl rfl rfl) fun _ _ _ _ h => h) (pa_cons (pv 0) pa_nil)))) pss_nil)
      (pss_one (ps_ret (pe_tup (pa_cons (pv 1) (pa_cons (pv 2) (pa_cons (pv 3) (pa_cons (pv 4) pa_nil))))))))))), ?_⟩
    refine q_py (py_call (m := whenM) (R := RD) rfl hW) ac (Fr.refl p H) fun wn j ac v1 H1 f1 _ hW1 r1 => ?_
    refine ⟨by show 1 ≤ sizeLine; exact sz_of (by decide), fun a1 n1 => ⟨by show 0 ≤ sizeLine; exact sz_of (by decide), fun a2 n2 => ⟨by show 0 ≤ sizeLine; exact sz_of (by decide), fun a3 n3 => ⟨by show 3 ≤ sizeLine; exact sz_of (by decide), fun a4 n4 => ⟨a4, _, rfl, st_of upd_same, rfl, _, _, rfl, _, _, rfl, _, _, rfl, rfl, ?_⟩⟩⟩⟩⟩
    have x1 : Ex H1 (L2.upd H1 a1 (.tup [.str "yes"])) := fr_new n1
    have x2 : Ex _ (L2.upd (L2.upd H1 a1 (.tup [.str "yes"])) a2 (.tup [])) := fr_new n2
    have x3 : Ex _ (L2.upd (L2.upd (L2.upd H1 a1 (.tup [.str "yes"])) a2 (.tup [])) a3 (.tup [])) := fr_new n3
    have x4 : Ex _ (L2.upd (L2.upd (L2.upd (L2.upd H1 a1 (.tup [.str "yes"])) a2 (.tup [])) a3 (.tup [])) a4 (.tup [.ref a1, .ref a2, .ref a3])) := fr_new n4
    have d1 : DT (L2.upd (L2.upd (L2.upd (L2.upd H1 a1 (.tup [.str "yes"])) a2 (.tup [])) a3 (.tup [])) a4 (.tup [.ref a1, .ref a2, .ref a3])) (.tuple [.str "yes"]) (.ref a1) := DT.tf (TF.ex x4) _ _ (DT.tf (TF.ex x3) _ _ (DT.tf (TF.ex x2) _ _ (dt_tup upd_same (dts_cons dt_str dts_nil))))
    have d2 : DT (L2.upd (L2.upd (L2.upd (L2.upd H1 a1 (.tup [.str "yes"])) a2 (.tup [])) a3 (.tup [])) a4 (.tup [.ref a1, .ref a2, .ref a3])) (.tuple []) (.ref a2) := DT.tf (TF.ex x4) _ _ (DT.tf (TF.ex x3) _ _ (dt_tup upd_same dts_nil))
    have d3 : DT (L2.upd (L2.upd (L2.upd (L2.upd H1 a1 (.tup [.str "yes"])) a2 (.tup [])) a3 (.tup [])) a4 (.tup [.ref a1, .ref a2, .ref a3])) (.tuple []) (.ref a3) := DT.tf (TF.ex x4) _ _ (dt_tup upd_same dts_nil)
    have x13 := Ex.trans (Ex.trans (Ex.trans x1 x2) x3) x4
    have dw := DT.tf (TF.ex x13) _ _ r1
    have hW3 := hW1.ex x13
    have f3 := f1.trans (Fr.ex x13)
    refine q_opt (rd := gd) (d0 := .tuple [.str "yes"]) (v0 := .ref a1) (py_test (py_takeIf rfl ev_c hW3)) (fun H2 j hW2 => py_call rfl hW2) d1 rfl hW3 ac f3 fun g j ac vg H4 f4 g4 hW4 rg => ?_
    refine q_opt (rd := dd) (d0 := .tuple []) (v0 := .ref a2) (py_test (py_takeIf rfl ev_c hW4)) (fun H2 j hW2 => py_call rfl hW2) (DT.tf (hW3.tf g4) _ _ d2) rfl hW4 ac f4 fun de j ac vd H5 f5 g5 hW5 rd' => ?_
    have g45 := g4.trans g5
    refine q_opt (rd := listM nameM) (d0 := .tuple []) (v0 := .ref a3) (py_test (py_takeIf rfl ev_c hW5)) (fun H2 j hW2 => py_call rfl hW2) (DT.tf (hW3.tf g45) _ _ d3) rfl hW5 ac f5 fun gl j ac vl H6 f6 g6 hW6 rl => ?_
    have g46 := g45.trans g6
    exact s_pyRet (x := told (.tuple [wn, g, de, gl]) j) (py_is (py_tup4 rfl rfl rfl hW6 (DT.tf (hW3.tf g46) _ _ dw) (DT.tf (hW4.tf (g5.trans g6)) _ _ rg) (DT.tf (hW5.tf g6) _ _ rd') fun H7 e7 hW7 => py_var rfl hW7 (DT.tf (TF.ex e7) _ _ rl)) rfl) ac f6 rfl
/-! ### all defs of the grammar -/
structure Gd (K : PySem.W.Frag) (mg : Str → Option Value) where
  part : Df K mg "read_part" sPart ["words"]
  rest : Df K mg "rest_of_term" sRest ["words", "term"]
  term : Df K mg "read_term" sTerm ["words"]
  comp : Df K mg "rest_of_comparison" sComp ["words", "term"]
  either : Df K mg "read_either_kind" sEither ["words"]
  bracket : Df K mg "read_bracket" sBracket ["words"]
  one : Df K mg "read_one" sOne ["words"]
  both : Df K mg "rest_of_both" sBoth ["words", "guard"]
  rguard : Df K mg "rest_of_guard" sRGuard ["words", "guard"]
  guard : Df K mg "read_guard" sGuard ["words"]
  deed : Df K mg "read_deed" sDeed ["words"]
  deeds : Df K mg "read_deeds" sDeeds ["words"]
  goals : Df K mg "read_goals" sGoals ["words"]
  when : Df K mg "read_when" sWhen ["words"]
  move : Df K mg "read_move" sMove ["words"]
  signed : Df K mg "read_signed" sSigned ["words"]
  fact : Df K mg "read_fact" sFact ["words"]
  gT : mg "tuple" = none
theorem ok_none {α : Type} {R : Hp → V → α → Prop} {L : Nat} {f : Addr} {fd : FuncData} : FnOk P w K mg base (L2.CX P w) L f fd ["words"] (spG C R fun _ _ => none) := by
  refine ⟨fun vs H Q E h => ?_, fun A outer s H args us vs Q E _ _ _ _ h => ?_⟩
  · obtain ⟨p, num, ws, i, rfl, _⟩ := h
    rfl
  · obtain ⟨p, num, ws, i, rfl, _, ac⟩ := h
    exact ac.elim
theorem ok_levels (T : Tl C) (G : Gd K mg) : ∀ n : Nat, FnOk P w K mg base (L2.CX P w) (4 + 4 * n) G.part.f G.part.fd ["words"] (spG C RD (partM n)) ∧ FnOk P w K mg base (L2.CX P w) (4 + 4 * n) G.bracket.f G.bracket.fd ["words"] (spG C RBD (brOne n).1) ∧
    FnOk P w K mg base (L2.CX P w) (4 + 4 * n) G.one.f G.one.fd ["words"] (spG C RD (brOne n).2)
  | 0 => ⟨ok_none, ok_none, ok_none⟩
  | n + 1 => by
    obtain ⟨g1, g2, g3⟩ := ok_levels T G n
    have hL : 4 ≤ 4 + 4 * n := by omega
    have gr := ok_rest hL T G.rest G.part g1
    have gt := ok_term hL G.term G.rest G.part g1 gr
    have gc := ok_comp (by omega) T G.comp G.term gt
    have ge := ok_either hL T G.either G.rest G.part G.bracket g1 gr g2
    have gb := ok_both hL T G.both G.one g3
    have gg := ok_rguard hL T G.rguard G.both G.one g3 gb
    exact ⟨(ok_part (by omega) T G.part G.term gt).mono (by omega), (ok_bracket hL T G.bracket G.either G.one G.comp G.rguard ge g3 gc gg).mono (by omega), (ok_one hL T G.one G.either G.comp ge g3 gc).mono (by omega)⟩
/-- terms and guards of up to that many within one another -/
def mTerm (n : Nat) : Rd' PyData := termM (partM n)
def mGuard (n : Nat) : Rd' PyData := guardM (brOne n).2
def mDeeds (n : Nat) : Rd' PyData := listM (deedM (mTerm n))
def mMove (n : Nat) : Rd' PyData := moveM (mGuard n) (mDeeds n)
theorem ok_deedsN (T : Tl C) (G : Gd K mg) (n : Nat) : FnOk P w K mg base (L2.CX P w) (8 + 4 * n) G.deeds.f G.deeds.fd ["words"] (spG C RD (mDeeds n)) := by
  obtain ⟨g1, g2, g3⟩ := ok_levels T G n
  have hL : 4 ≤ 4 + 4 * n := by omega
  have gt := ok_term hL G.term G.rest G.part g1 (ok_rest hL T G.rest G.part g1)
  exact (ok_deeds (by omega) T G.deeds G.deed (ok_deed (by omega) T G.deed G.term gt) G.gT).mono (by omega)
theorem ok_moveN (T : Tl C) (G : Gd K mg) (n : Nat) : FnOk P w K mg base (L2.CX P w) (9 + 4 * n) G.move.f G.move.fd ["words"] (spG C RD (mMove n)) := by
  obtain ⟨g1, g2, g3⟩ := ok_levels T G n
  have hL : 4 ≤ 4 + 4 * n := by omega
  have gg := ok_guard G.guard G.rguard G.one g3 (ok_rguard hL T G.rguard G.both G.one g3 (ok_both hL T G.both G.one g3))
  exact (ok_move (L := 8 + 4 * n) (by omega) T G.move G.when G.guard G.deeds G.goals (ok_when T G.when) (gg.mono (by omega)) (ok_deedsN T G n) (ok_goals T G.goals G.gT)).mono (by omega)
end
end Prs
set_option Elab.async false
set_option linter.all false
set_option maxRecDepth 100000
set_option maxHeartbeats 4000000
namespace L2
open PySem PySem.Spec PyProof.Rows
/-! ### o.m(*y) -/
theorem starcall1_of {M : Model} {A : Around} {E : Value → Shared → Prop} {s : Shared} {env : Env} {o e1 : Expr} {m : Str} {p apos pos : Pos} {Q : Value → Shared → Prop} (hbase : attributeBase o m env (eval o env) = eval o env)
    (hst : starEach [.Starred e1 p] env = [(true, eval e1 env)])
    (h : wpAny M A (eval o env) (fun ov s₁ => wpAny M A (getAttr ov m true) (fun f s₂ => wpAny M A (callWith pos f [] (backTo pos [(true, eval e1 env)]) []) Q E s₂) E s₁) E s) :
    wpAny M A (eval (.Call (.Attribute o m apos) [.Starred e1 p] [] pos) env) Q E s := by
  have hke : backToKw pos (keywordEach [] env) = [] := rfl
  have hform : methodCallForm ([Expr.Starred e1 p].length + ([] : List Keyword).length) (backTo pos [(true, eval e1 env)]) [] = false := rfl
  have hpos : methodCallPos false o env apos pos = pure pos := rfl
  have hcal : ∀ ov, calleeOf false o env ov m = (getAttr ov m true >>= fun v => pure (v, [])) := fun _ => rfl
  rw [arm_eval_Call, hbase, hst, hke]
  refine wpAny_bind (wpAny_mono h (fun ov s₁ h₁ => ?_) fun _ _ x => x)
  refine wpAny_bind (wpAny_standAt ?_)
  unfold methodCall
  rw [hform, hpos, hcal]
  refine wpAny_bind (wpAny_holding (wpAny_bind (wpAny_mono h₁ (fun f s₂ h₂ => wpAny_pure ?_) fun _ _ x => x)))
  exact wpAny_bind (wpAny_pure h₂)
def tMethS1 (K : PySem.W.Frag) (C : Addr) (m : Str) (g : Addr) (sp : Sp) (E : XK) (ta t1 : TE) : TE := fun σ H Q => ta σ H fun x H1 => ∃ a dx fs, x = .ref a ∧ H1 a = some (.ins C dx fs) ∧ fs.lookup m = none ∧
  ∀ q, H1 q = none → t1 σ (upd H1 q (.met g a)) fun y1 H2 => ∃ b vs, y1 = .ref b ∧ (SqT K H2 b vs ∨ SqL K H2 b vs) ∧ H2 q = some (.met g a) ∧ sp (.ref a :: vs) H2 Q E
theorem pe_methS1 {X : Cx} {CX : CXT} {k : Nat} {C g : Addr} {m : Str} {sp : Sp} {E : XK} {o e1 : Expr} {ta t1 : TE} {p apos pos : Pos} (he : PE X o ta) (c : Cls X.K C) (b : BMeth X.K C m g) (F : FnR X.prog X.w X.K X.mg X.base CX k g sp) (hr : Room k X.A)
    (hx : Passes CX X E) (h1 : PE X e1 t1) (hbase : attributeBase o m X.env (eval o X.env) = eval o X.env := by rfl)
    (hst : starEach [.Starred e1 p] X.env = [(true, eval e1 X.env)] := by rfl) : PE X (.Call (.Attribute o m apos) [.Starred e1 p] [] pos) (tMethS1 X.K C m g sp E ta t1) := by
  refine ⟨fun pins s σ H Q I h => ?_⟩
  refine starcall1_of hbase hst (thn (he.run pins s σ H _ I h) fun u s1 ⟨x, H1, I1, rx, a, dx, fs, ex, ea, l, q⟩ => ?_)
  subst ex
  obtain rfl : u = Value.ref a := rx
  refine getbound_ok I1 ea c b l fun q1 s2 hq1 I2 => ?_
  refine PySem.W.ks_call (P := PySem.W.MethP X.K q1 g (.ref a)) rfl (PySem.W.keeps_M b.fi) (PySem.W.ks_lone (thn (h1.run pins s2 σ _ _ I2 (q q1 hq1)) fun v1 s3 ⟨y1, H2, I3, ry1, t, vs, ey, ht, hm, hsp⟩ => ?_))
  subst ey
  obtain rfl : v1 = Value.ref t := ry1
  refine StX.star_any I3 ht fun us s5 I5 rv => ?_
  exact ⟨met_P I5 hm, wpAny_call (PySem.W.method_call (met_P I5 hm).1 (run_fnR (us := Value.ref a :: us) (vs := V.ref a :: vs) F hr hx I5 (.cons rfl rv) hsp))⟩
/-! ### del xs[a:] -/
theorem keep_take {a : Nat} (f : Nat → Bool) : ∀ (its : List Value) (i : Nat), (∀ k, i ≤ k → k < i + its.length → f k = decide (a ≤ k)) → ((its.zipIdx i).filterMap fun x => if f x.2 = true then none else some x.1) = its.take (a - i)
  | [], i, _ => by simp
  | v :: its, i, h => by
    have h0 := h i (Nat.le_refl _) (by simp)
    have ih := keep_take f its (i + 1) fun k h1 h2 => h k (by omega) (by rw [List.length_cons]; omega)
    rw [List.zipIdx_cons, List.filterMap_cons]
    by_cases z : a ≤ i
    · have e : a - i = 0 := by omega
      have e2 : a - (i + 1) = 0 := by omega
      rw [e2] at ih
      simp only [h0, z, decide_true, if_true, e, List.take_zero]
      rw [ih, List.take_zero]
    · have e : a - i = (a - (i + 1)) + 1 := by omega
      simp only [h0, z, decide_false, Bool.false_eq_true, if_false, e, List.take_succ_cons]
      rw [ih]
section
variable {prog : Program} {w : World} {A : Around} {E : Value → Shared → Prop} {s : Shared}
theorem bounds_from {a n : Nat} (h : a ≤ n) : sliceBounds (some (a : Int)) none none n = ((a : Int), (n : Int), 1) := by
  simp only [sliceBounds, Option.getD_none]
  have h1 : ¬ ((a : Int) < 0) := by omega
  simp only [h1, if_false, show (1 : Int) > 0 by decide, if_true]
  congr 1
  omega
set_option maxRecDepth 100000 in
theorem delItem_slice {l sl : Addr} {its : List Value} {n : Nat} {vl : Value} {a : Nat} {Q : Unit → Shared → Prop}
    (e : s.heap.get? l = some { cls := .type "list", data := .seq its.toArray n })
    (hs : s.heap.IsSliceOf sl vl .none .none) (pl : IsPart vl (some (a : Int))) (ha : a ≤ its.length)
    (hsz : its.length ≤ sizeLine) (h : ∀ f : Array Value → Array Value, f its.toArray = (its.take a).toArray → Q () { s with heap := s.heap.update l (Obj.mapSeq f) }) :
    wpAny (model prog w) A (delItem (.ref l) (.ref sl)) Q E s := by
  have hl : s.heap.IsList l its.toArray := PySem.IsL.isList e
  obtain ⟨os, hos, hcs, hds⟩ := id hs
  have hTs : s.TypeIs (.ref sl) "slice" := ⟨os, hos, hcs⟩
  have hstep : ¬ ((rawPart none == rawInt 0) = true) := Bool.false_ne_true
  refine wpAny_delItem_slot hl.typeIs (by decide) PySem.F.slot_list_delitem ?_
  refine wpAny_call_entry PySem.F.slot_list_delitem hl.typeIs PySem.F.entry_list_delitem ?_ (PySem.F.args_list_delitem_2 _ _)
  show wpAny _ _ (Builtin.List.listSubscript? (.ref sl) >>= _) _ _ s
  refine wpAny_bind ?_
  unfold Builtin.List.listSubscript?
  refine wpAny_bind (wpAny_specialOf hTs slice_no_index ?_)
  simp only [Option.isNone_none, if_true]
  refine wpAny_pure ?_
  show wpAny _ _ (typeOf (.ref sl) >>= _) _ _ s
  refine wpAny_bind (wpAny_typeOf hTs ?_)
  first
    | rw [if_neg (by decide)]
    | refine PySem.W.KFB.if_not (by decide) ?_
  rw [listSliceParts_eq]
  refine wpAny_bind (wpAny_bind (wpAny_field hos hds (x := .none) rfl (wpAny_bind (wpAny_listPart .none ?_))))
  rw [if_neg hstep]
  refine wpAny_bind (wpAny_field hos hds (x := vl) rfl (wpAny_bind (wpAny_listPart pl ?_)))
  refine wpAny_bind (wpAny_field hos hds (x := .none) rfl (wpAny_bind (wpAny_listPart .none (wpAny_pure ?_))))
  unfold Builtin.List.listItems
  refine wpAny_bind (wpAny_bind (wpAny_seqItems e rfl (wpAny_pure ?_)))
  refine wpAny_bind (wpAny_of_eq ((sliceIndices_raw (some (a : Int)) none none its.toArray.size (by simp)).trans (congrArg (pure : Int × Int × Int → Sem (Int × Int × Int)) (bounds_from (by rw [List.size_toArray]; exact ha)))) ?_)
  refine wpAny_bind (wpAny_rule ?_)
  have fk : ∀ (g : Int → Int → Int → Nat → Bool), (∀ k, k < its.length → g (a : Int) (its.toArray.size : Nat) 1 k = decide (a ≤ k)) → (its.toArray.toList.zipIdx.filterMap fun x => if g (a : Int) (its.toArray.size : Nat) 1 x.2 = true then none else some x.1).toArray = (its.take a).toArray := fun g hf => by
    have := keep_take (a := a) (g (a : Int) (its.toArray.size : Nat) 1) its 0 fun k _ h2 => hf k (by omega)
    rw [Nat.sub_zero] at this
    show ((its.zipIdx 0).filterMap _).toArray = _
    rw [this]
  unfold Builtin.List.listUpdate
  dsimp only
  refine wpAny_bind (wpAny_updateSeq (hz := by rw [List.size_toArray]; exact hsz) (_hz' := ?sz) e rfl ?rest)
  case sz =>
    refine Nat.le_trans (Nat.le_of_eq (congrArg Array.size (fk _ fun k hk => ?_))) ?_
    · show (if (1 : Int) > 0 then (decide ((a : Int) ≤ (k : Int)) && decide ((k : Int) < (its.toArray.size : Nat)) && (((k : Int) - (a : Int)) % 1 == 0)) else _) = _
      rw [if_pos (by decide), Int.emod_one]
      have h1 : decide ((k : Int) < (its.toArray.size : Nat)) = true := decide_eq_true (by rw [List.size_toArray]; omega)
      rw [h1, Bool.and_true, beq_self_eq_true, Bool.and_true]
      exact decide_eq_decide.mpr (by omega)
    · rw [List.size_toArray, List.length_take]
      omega
  case rest =>
    refine wpAny_bind (wpAny_letGo ?_)
    refine wpAny_pure ⟨_, rfl, h _ (fk _ fun k hk => ?_)⟩
    show (if (1 : Int) > 0 then (decide ((a : Int) ≤ (k : Int)) && decide ((k : Int) < (its.toArray.size : Nat)) && (((k : Int) - (a : Int)) % 1 == 0)) else _) = _
    rw [if_pos (by decide), Int.emod_one]
    have h1 : decide ((k : Int) < (its.toArray.size : Nat)) = true := decide_eq_true (by rw [List.size_toArray]; omega)
    rw [h1, Bool.and_true, beq_self_eq_true, Bool.and_true]
    exact decide_eq_decide.mpr (by omega)
end
section
variable {X : Cx}
def tDelSl (to tl : TE) : TS := fun D σ H => to σ H fun x H1 => tl σ H1 fun y H2 => ∃ (l : Addr) (xs : List V) (a : Nat), x = .ref l ∧ y = .int (a : Int) ∧ H2 l = some (.lst xs) ∧ a ≤ xs.length ∧ D.nx σ (upd H2 l (.lst (xs.take a)))
theorem ps_delSl {o lo : Expr} {to tl : TE} {p2 tpos pos : Pos} (ho : PE X o to) (hl : PE X lo tl) : PS X (.Delete [.Subscript o (.Slice (some lo) none none p2) tpos] pos) (tDelSl to tl) := by
  refine ⟨fun pins s σ H D I h => ?_⟩
  refine wpAny_Delete (wpAny_deleteEach_cons (wpAny_delete_Subscript (thn (ho.run pins s σ H _ I h) fun u s1 ⟨x, H1, I1, rx, q1⟩ => ?_)))
  refine wpAny_Slice ?_
  rw [evalPart_some]
  refine thn (hl.run pins s1 σ H1 _ I1 q1) fun vl s2 ⟨y, H2, I2, ry, l, xs, a, ex, ey, hH, ha, q⟩ => ?_
  subst ex
  subst ey
  obtain rfl : u = Value.ref l := rx
  obtain ⟨t, rfl⟩ := (show ∃ t, vl = Value.int (a : Int) t from ry)
  rw [evalPart_none]
  refine wpAny_pure (wpAny_pure ?_)
  have I3 : Inv X pins σ H2 { s2 with heap := s2.heap.push { cls := .type "slice", data := .fields #[.int (a : Int) t, .none, .none] } } := I2.kept (t' := s2.toks) fun b ob q => Heap.get?_push_of_some _ q
  obtain ⟨z, its, n, r, hl2, e⟩ := I3.lstM hH
  refine delItem_slice e (Heap.IsSliceOf.new _ _ _ _) (.int _ _) (by omega) (by omega) fun f hf => wpAny_deleteEach_nil ⟨σ, _, I3.lset (its' := its.take a) (t' := s2.toks) hH e hf (r.take a) (by rw [List.length_take]; omega), q⟩
end
end L2
set_option Elab.async false
set_option linter.all false
set_option maxRecDepth 100000
set_option maxHeartbeats 4000000
namespace Prs
open PySem PySem.Spec PyProof.Rows L2 Evl
abbrev sDInit : Stmt := inClass (top 53) 0
abbrev sNext : Stmt := inClass (top 53) 1
abbrev sInner : Stmt := inClass (top 53) 2
def INNER : List Str := ["into", "out", "go"]
def SORTSs : List Str := ["one", "all", "leaf", "end", "back", "deep"]
def FULL : List Str := ["one", "all"]
def MARKER : List Str := ["back", "deep"]
/-- a stand as far as it was read -/
structure Rc where
  name : Str
  kind : Str
  num : Int
  into : PyData
  out : PyData
  moves : List PyData
  nums : List Int
  kids : List Nat
  passed : Nat
def dfl (r : Rc) (vi vo : V) (am an ad : Addr) : List (Str × V) :=
  putF "passed" (.int (r.passed : Int)) (putF "drafts" (.ref ad) (putF "move_numbers" (.ref an) (putF "moves" (.ref am) (putF "out" vo (putF "into" vi (putF "number" (.int r.num) (putF "kind" (.str r.kind) (putF "name" (.str r.name) []))))))))
def newRc (nm so : Str) (num : Int) : Rc := ⟨nm, so, num, .tuple [], .tuple [], [], [], [], 0⟩
structure Dc (K : PySem.W.Frag) (mg : Str → Option Value) where
  D : Addr
  cl : Cls K D
  nName : NoAttr K D "name"
  nKind : NoAttr K D "kind"
  nNum : NoAttr K D "number"
  nInto : NoAttr K D "into"
  nOut : NoAttr K D "out"
  nMoves : NoAttr K D "moves"
  nNums : NoAttr K D "move_numbers"
  nDrafts : NoAttr K D "drafts"
  nPassed : NoAttr K D "passed"
  m : mg "Draft" = some (.ref D)
  gS : KTup K mg "SORTS" (SORTSs.map V.str)
  gF : KTup K mg "FULL_SORTS" (FULL.map V.str)
  gM : KTup K mg "MARKER_SORTS" (MARKER.map V.str)
  gI : KTup K mg "INNER_WORDS" (INNER.map V.str)
section
variable {P : Program} {w : World} {K : PySem.W.Frag} {mg : Str → Option Value} {base : Heap} {C : Cn P w K mg base}
section
variable {σ : L2.St} {H : Hp} {p c dx : Addr} {fs : List (Str × V)} {f : Str} {D : Ends} {tz : TS}
theorem q_fldS {te : TE} {v : V} (h0 : σ[0]? = some (some (.ref p))) (h : Ev te σ H v) (hp : H p = some (.ins c dx fs)) (cl : Cls K c) (n : NoAttr K c f) (z : fs.length < 1000) (k : ∀ H1, Fr p H H1 → H1 p = some (.ins c dx (putF f v fs)) → tz D σ H1) : tSeq (sFld K (tVar 0) te f) tz D σ H :=
  h H (Ex.refl H) _ fun H1 e1 => ⟨.ref p, h0, p, c, dx, fs, rfl, e1 _ _ hp, cl, n, z, k _ (Fr.upd (Fr.ex e1)) upd_same⟩
theorem s_fldS {te : TE} {v : V} (h0 : σ[0]? = some (some (.ref p))) (h : Ev te σ H v) (hp : H p = some (.ins c dx fs)) (cl : Cls K c) (n : NoAttr K c f) (z : fs.length < 1000) (k : ∀ H1, Fr p H H1 → H1 p = some (.ins c dx (putF f v fs)) → D.nx σ H1) : sFld K (tVar 0) te f D σ H :=
  h H (Ex.refl H) _ fun H1 e1 => ⟨.ref p, h0, p, c, dx, fs, rfl, e1 _ _ hp, cl, n, z, k _ (Fr.upd (Fr.ex e1)) upd_same⟩
theorem q_fldT (h0 : σ[0]? = some (some (.ref p))) (hp : H p = some (.ins c dx fs)) (cl : Cls K c) (n : NoAttr K c f) (z : fs.length < 1000) (k : ∀ a H1, H a = none → a ≠ p → Fr p H H1 → H1 a = some (.tup []) → H1 p = some (.ins c dx (putF f (.ref a) fs)) → tz D σ H1) : tSeq (sFld K (tVar 0) (tTup tNil) f) tz D σ H :=
  ⟨by show 0 ≤ sizeLine; exact sz_of (by decide), fun a na => by
    have ea := ne_of_none' hp na
    refine ⟨.ref p, h0, p, c, dx, fs, rfl, fr_new na p _ hp, cl, n, z, k a _ na ea (Fr.upd (Fr.ex (fr_new na))) ?_ upd_same⟩
    rw [upd_ne ea, upd_same]⟩
theorem q_fldL (h0 : σ[0]? = some (some (.ref p))) (hp : H p = some (.ins c dx fs)) (cl : Cls K c) (n : NoAttr K c f) (z : fs.length < 1000) (k : ∀ a H1, H a = none → a ≠ p → Fr p H H1 → H1 a = some (.lst []) → H1 p = some (.ins c dx (putF f (.ref a) fs)) → tz D σ H1) : tSeq (sFld K (tVar 0) (tLst tNil) f) tz D σ H :=
  ⟨by show 0 ≤ sizeLine; exact sz_of (by decide), fun a na => by
    have ea := ne_of_none' hp na
    refine ⟨.ref p, h0, p, c, dx, fs, rfl, fr_new na p _ hp, cl, n, z, k a _ na ea (Fr.upd (Fr.ex (fr_new na))) ?_ upd_same⟩
    rw [upd_ne ea, upd_same]⟩
theorem putF_le {f : Str} {v : V} {fs : List (Str × V)} {n : Nat} (h : fs.length ≤ n) : (putF f v fs).length ≤ n + 1 := by
  have := length_putF f v fs
  omega
end
/-! ### Draft.__init__ -/
def spDInit (Dk : Dc K mg) : Sp := fun vs H Q _ => ∃ p nm so num dx, vs = [.ref p, .str nm, .str so, .int num] ∧ H p = some (.ins Dk.D dx []) ∧
  ∀ H' vi vo am an ad, Fr p H H' → H' p = some (.ins Dk.D dx (dfl (newRc nm so num) vi vo am an ad)) → DT H' (.tuple []) vi → DT H' (.tuple []) vo → H' am = some (.lst []) → H' an = some (.lst []) → H' ad = some (.lst []) →
    H am = none → H an = none → H ad = none → am ≠ p → an ≠ p → ad ≠ p → an ≠ am → ad ≠ am → ad ≠ an → Q .non H'
theorem scDInit : FnScope ["self", "name", "sort", "number"] ["self", "name", "sort", "number"] (defScope sDInit) := ⟨rfl, rfl, rfl, by decide +kernel, rfl, by decide +kernel, by decide +kernel⟩
theorem none_back {p a : Addr} {H H' : Hp} (f : Fr p H H') (n : a ≠ p) (h : H' a = none) : H a = none := by
  cases z : H a with
  | none => rfl
  | some o =>
    rw [f a o n z] at h
    cases h
theorem ok_dinit {f : Addr} {fd : FuncData} (Dk : Dc K mg) (F : Fun K "__init__" "Draft.__init__" sDInit f fd) : FnOk P w K mg base CX0 1 f fd ["self", "name", "sort", "number"] (spDInit Dk) := by
  refine F.ok scDInit (fun vs H Q E h => ?_) (fun cdv A outer s0 H vs Q E hr h => ?_)
  · obtain ⟨p, nm, so, num, dx, rfl, _⟩ := h
    rfl
  · obtain ⟨p, nm, so, num, dx, rfl, hp, q⟩ := h
    refine ⟨_, pss_cons (ps_fld (pv 0) (pv 1) rfl) (pss_cons (ps_fld (pv 0) (pv 2) rfl) (pss_cons (ps_fld (pv 0) (pv 3) rfl) (pss_cons (ps_fld (pv 0) (pe_tup pa_nil) rfl) (pss_cons (ps_fld (pv 0) (pe_tup pa_nil) rfl)
      (pss_cons (ps_fld (pv 0) (pe_lst pa_nil) rfl) (pss_cons (ps_fld (pv 0) (pe_lst pa_nil) rfl) (pss_cons (ps_fld (pv 0) (pe_lst pa_nil) rfl) (pss_one (ps_fld (pv 0) pe_int rfl))))))))), ?_⟩
    refine q_fldS rfl (ev_var rfl) hp Dk.cl Dk.nName (by decide) fun H1 f1 h1 => ?_
    refine q_fldS rfl (ev_var rfl) h1 Dk.cl Dk.nKind (by show 1 < 1000; decide) fun H2 f2 h2 => ?_
    refine q_fldS rfl (ev_var rfl) h2 Dk.cl Dk.nNum (by show 2 < 1000; decide) fun H3 f3 h3 => ?_
    refine q_fldT rfl h3 Dk.cl Dk.nInto (by show 3 < 1000; decide) fun ai H4 n4 e4 f4 t4 h4 => ?_
    refine q_fldT rfl h4 Dk.cl Dk.nOut (by show 4 < 1000; decide) fun ao H5 n5 e5 f5 t5 h5 => ?_
    refine q_fldL rfl h5 Dk.cl Dk.nMoves (by show 5 < 1000; decide) fun am H6 n6 e6 f6 t6 h6 => ?_
    refine q_fldL rfl h6 Dk.cl Dk.nNums (by show 6 < 1000; decide) fun an H7 n7 e7 f7 t7 h7 => ?_
    refine q_fldL rfl h7 Dk.cl Dk.nDrafts (by show 7 < 1000; decide) fun ad H8 n8 e8 f8 t8 h8 => ?_
    refine s_fldS rfl ev_c h8 Dk.cl Dk.nPassed (by show 8 < 1000; decide) fun H9 f9 h9 => ?_
    have g5 := f1.trans (f2.trans (f3.trans (f4.trans f5)))
    have g6 := g5.trans f6
    have g7 := g6.trans f7
    have x79 := f8.trans f9
    have x69 := f7.trans x79
    have x59 := f6.trans x69
    refine q H9 (.ref ai) (.ref ao) am an ad (g7.trans x79) h9 (dt_tup (x59 _ _ e4 (f5 _ _ e4 t4)) dts_nil) (dt_tup (x59 _ _ e5 t5) dts_nil) (x69 _ _ e6 t6) (x79 _ _ e7 t7) (f9 _ _ e8 t8)
      (none_back g5 e6 n6) (none_back g6 e7 n7) (none_back g7 e8 n8) e6 e7 e8 (ne_of_none' t6 n7) (ne_of_none' (f7 _ _ e6 t6) n8) (ne_of_none' t7 n8)
/-! ### the arena -/
def Dr (D : Addr) (H : Hp) (loc : Nat → Addr) (k : Nat) (r : Rc) : Prop := ∃ dx vi vo mvs, H (loc (4 * k)) = some (.ins D dx (dfl r vi vo (loc (4 * k + 1)) (loc (4 * k + 2)) (loc (4 * k + 3)))) ∧ DT H r.into vi ∧ DT H r.out vo ∧
  H (loc (4 * k + 1)) = some (.lst mvs) ∧ DTs H r.moves mvs ∧ H (loc (4 * k + 2)) = some (.lst (r.nums.map V.int)) ∧ H (loc (4 * k + 3)) = some (.lst (r.kids.map fun j => V.ref (loc (4 * j)))) ∧ r.passed ≤ 3
theorem Dr.fr {D : Addr} {H H' : Hp} {loc : Nat → Addr} {k : Nat} {r : Rc} (h : Dr D H loc k r) (e : ∀ j, j < 4 → ∀ o, H (loc (4 * k + j)) = some o → H' (loc (4 * k + j)) = some o) (t : TF H H') : Dr D H' loc k r := by
  obtain ⟨dx, vi, vo, mvs, h1, h2, h3, h4, h5, h6, h7, h8⟩ := h
  exact ⟨dx, vi, vo, mvs, e 0 (by decide) _ h1, DT.tf t _ _ h2, DT.tf t _ _ h3, e 1 (by decide) _ h4, DTs.tf t _ _ h5, e 2 (by decide) _ h6, e 3 (by decide) _ h7, h8⟩
structure Ar (D : Addr) (H0 H : Hp) (loc : Nat → Addr) (rs : List Rc) : Prop where
  inj : ∀ i j, i < 4 * rs.length → j < 4 * rs.length → loc i = loc j → i = j
  fresh : ∀ i, i < 4 * rs.length → H0 (loc i) = none
  at_ : ∀ (k : Nat) (r : Rc), rs[k]? = some r → Dr D H loc k r
  kid : ∀ (k : Nat) (r : Rc), rs[k]? = some r → ∀ j, j ∈ r.kids → j < rs.length
theorem Ar.fr {D : Addr} {H0 H H' : Hp} {loc : Nat → Addr} {rs : List Rc} (h : Ar D H0 H loc rs) (e : ∀ i, i < 4 * rs.length → ∀ o, H (loc i) = some o → H' (loc i) = some o) (t : TF H H') : Ar D H0 H' loc rs := by
  refine ⟨h.inj, h.fresh, fun k r hk => (h.at_ k r hk).fr (fun j hj => e _ ?_) t, h.kid⟩
  have := (List.getElem?_eq_some_iff.mp hk).1
  omega
theorem Ar.set {D : Addr} {H0 H H' : Hp} {loc : Nat → Addr} {rs : List Rc} {k : Nat} {r r' : Rc} (h : Ar D H0 H loc rs) (hk : rs[k]? = some r) (d : Dr D H' loc k r') (e : ∀ i, i < 4 * rs.length → i / 4 ≠ k → ∀ o, H (loc i) = some o → H' (loc i) = some o) (t : TF H H') (hkid : ∀ j, j ∈ r'.kids → j < rs.length) : Ar D H0 H' loc (rs.set k r') := by
  have hl : (rs.set k r').length = rs.length := List.length_set
  refine ⟨by rw [hl]; exact h.inj, by rw [hl]; exact h.fresh, fun k2 r2 h2 => ?_, fun k2 r2 h2 j hj => ?_⟩
  · by_cases z : k2 = k
    · subst z
      rw [List.getElem?_set_self (List.getElem?_eq_some_iff.mp hk).1] at h2
      cases h2
      exact d
    · rw [List.getElem?_set_ne (Ne.symm z)] at h2
      have := (List.getElem?_eq_some_iff.mp h2).1
      exact (h.at_ k2 r2 h2).fr (fun j hj => e _ (by omega) (by omega)) t
  · rw [hl]
    by_cases z : k2 = k
    · subst z
      rw [List.getElem?_set_self (List.getElem?_eq_some_iff.mp hk).1] at h2
      cases h2
      exact hkid j hj
    · rw [List.getElem?_set_ne (Ne.symm z)] at h2
      exact h.kid k2 r2 h2 j hj
end
end Prs
set_option Elab.async false
set_option linter.all false
set_option maxRecDepth 100000
set_option maxHeartbeats 4000000
namespace Prs
open PySem PySem.Spec PyProof.Rows L2 Evl
def nextWords (kind : Str) (passed : Nat) : List Str := INNER.drop passed ++ (if inV (.str kind) (FULL.map V.str) then SORTSs else [])
section
variable {P : Program} {w : World} {K : PySem.W.Frag} {mg : Str → Option Value} {base : Heap} {C : Cn P w K mg base}
theorem cat_any {H : Hp} {a b : Addr} {xs ys : List V} {Q : VK} (ha : SqT K H a xs) (hb : SqT K H b ys) (hz : xs.length + ys.length ≤ 100000) (k : ∀ c H', Ex H H' → SqT K H' c (xs ++ ys) → Q (.ref c) H') : rCatA K (.ref a) (.ref b) H Q := by
  refine ⟨a, b, xs, ys, rfl, rfl, ha, hb, sz_of hz, fun e => ?_, fun _ e => ?_, fun _ _ p hp => k p _ (fr_new hp) (st_of upd_same)⟩
  · subst e
    exact k b H (Ex.refl H) hb
  · subst e
    rw [List.append_nil] at k
    exact k a H (Ex.refl H) ha
theorem cut_any {H : Hp} {a : Addr} {n : Nat} {Q : VK} (ha : SqT K H a (INNER.map V.str)) (hn : n ≤ 3) (k : ∀ c H', Ex H H' → SqT K H' c ((INNER.drop n).map V.str) → Q (.ref c) H') : rSlA K (.ref a) (some (n : Int)) none H Q := by
  refine ⟨a, _, rfl, ha, fun e => ?_, fun e p hp => ?_⟩
  · match n, hn, e with
    | 0, _, _ => exact k a H (Ex.refl H) ha
    | 1, _, e => exact absurd e.1 (by decide)
    | 2, _, e => exact absurd e.1 (by decide)
    | 3, _, e => exact absurd e.1 (by decide)
  · have : cutV (INNER.map V.str) (some (n : Int)) none = (INNER.drop n).map V.str := by
      match n, hn with
      | 0, _ => rfl
      | 1, _ => rfl
      | 2, _ => rfl
      | 3, _ => rfl
    rw [this]
    exact k p _ (fr_new hp) (st_of upd_same)
/-! ### next_words -/
def spNext (Dk : Dc K mg) : Sp := fun vs H Q _ => ∃ a dx fs kind n, vs = [.ref a] ∧ H a = some (.ins Dk.D dx fs) ∧ fs.lookup ("kind" : Str) = some (.str kind) ∧ fs.lookup ("passed" : Str) = some (.int (n : Nat)) ∧ n ≤ 3 ∧
  ∀ c H', Ex H H' → SqT K H' c ((nextWords kind n).map V.str) → Q (.ref c) H'
theorem scNext : FnScope ["self", "stands"] ["self"] (defScope sNext) := ⟨rfl, rfl, rfl, by decide +kernel, rfl, by decide +kernel, by decide +kernel⟩
theorem ok_next {f : Addr} {fd : FuncData} (Dk : Dc K mg) (F : Fun K "next_words" "Draft.next_words" sNext f fd) : FnOk P w K mg base CX0 1 f fd ["self"] (spNext Dk) := by
  obtain ⟨aS, gS, hS⟩ := Dk.gS
  obtain ⟨aF, gF, hF⟩ := Dk.gF
  obtain ⟨aI, gI, hI⟩ := Dk.gI
  refine F.ok scNext (fun vs H Q E h => ?_) (fun cdv A outer s0 H vs Q E hr h => ?_)
  · obtain ⟨a, dx, fs, kind, n, rfl, _⟩ := h
    rfl
  · obtain ⟨a, dx, fs, kind, n, rfl, ha, l1, l2, hn, q⟩ := h
    refine ⟨_, Evl.pss_cut (ps_set (i := 1) scNext.nd rfl (.inl rfl) (pe_ifExp (pt_cmpR op_in_seq (pe_fld (pv 0) rfl) (pe_glob (v := .ref aF) rfl gF rfl) (by rfl)) (pe_glob (v := .ref aS) rfl gS rfl) (pe_tup pa_nil)))
      (pss_one (ps_ret (pe_op op_catA (pe_slice sl_tupA (pe_glob (v := .ref aI) rfl gI rfl) (po_some (pe_fld (pv 0) rfl)) po_none) (pv 1)))), ?_⟩
    refine Evl.q_cut (M := fun σ' H' => ∃ b, Ex H H' ∧ σ' = [some (.ref a), some (.ref b)] ∧ SqT K H' b ((if inV (.str kind) (FULL.map V.str) then SORTSs else []).map V.str)) ?_ ?_
    · refine (et_test (ev_op (ev_fld (ev_var rfl) ha Dk.cl Dk.nKind l1) ev_c (rv_isT (hF _) rfl (by decide +kernel))) : EvT _ _ H (inV (.str kind) (FULL.map V.str))) H (Ex.refl H) _ fun H1 e1 => ?_
      cases hb : inV (.str kind) (FULL.map V.str) with
      | true => exact ⟨aS, e1, rfl, hS _⟩
      | false => exact ⟨by show 0 ≤ sizeLine; exact sz_of (by decide), fun b nb => ⟨b, Ex.trans e1 (fr_new nb), rfl, st_of upd_same⟩⟩
    · rintro σ' H' ⟨b, e, rfl, hb⟩
      have eP : Ev (tFld K (fun σ H Q => ∃ v, σ[0]? = some (some v) ∧ Q v H) "passed") [some (.ref a), some (.ref b)] H' (.int (n : Nat)) := ev_fld (ev_var rfl) (e _ _ ha) Dk.cl Dk.nPassed l2
      unfold tRet tOp tSl tPart tC tNoPart tVar
      refine eP H' (Ex.refl H') _ fun H1 e1 => ⟨n, rfl, ?_⟩
      dsimp only
      refine cut_any (hI _) hn fun c H2 e2 hc => ⟨_, rfl, ?_⟩
      have e12 := Ex.trans e1 e2
      refine cat_any hc (ex_t e12 hb) ?_ fun c2 H3 e3 hc2 => q c2 H3 (Ex.trans e (Ex.trans e12 e3)) ?_
      · have h1 : ((INNER.drop n).map V.str).length ≤ 3 := by
          rw [List.length_map, List.length_drop]
          show 3 - n ≤ 3
          omega
        have h2 : ((if inV (.str kind) (FULL.map V.str) then SORTSs else []).map V.str).length ≤ 6 := by
          split
          · decide
          · decide
        omega
      · rw [← List.map_append] at hc2
        exact hc2
end
end Prs
set_option Elab.async false
set_option linter.all false
set_option maxRecDepth 100000
set_option maxHeartbeats 4000000
namespace Prs
open PySem PySem.Spec PyProof.Rows L2 Evl
def innerM (n : Nat) (rs : List Rc) (k : Nat) (num : Int) (ws : List Wd) (i : Nat) : Res (List Rc × Option Nat) :=
  match rs[k]? with
  | none => none
  | some r => andThen (takeM ws (nextWords r.kind r.passed) i) fun wd j =>
    if !inV (.str wd) (INNER.map V.str) then andThen (takeM ws ["a name"] j) fun nm j => (if r.kids.length < 50000 then told (rs.set k { r with passed := 3, kids := r.kids ++ [rs.length] } ++ [newRc nm wd num], some rs.length) j else none)
    else if decide (V.str wd = V.str "into") then andThen (mDeeds n ws j) fun d j => told (rs.set k { r with passed := 1, into := d }, none) j
    else if decide (V.str wd = V.str "out") then andThen (mDeeds n ws j) fun d j => told (rs.set k { r with passed := 2, out := d }, none) j
    else andThen (mMove n ws j) fun d j => (if r.moves.length < 50000 ∧ r.nums.length < 50000 then told (rs.set k { r with passed := 2, moves := r.moves ++ [d], nums := r.nums ++ [num] }, none) j else none)
section
variable {P : Program} {w : World} {K : PySem.W.Frag} {mg : Str → Option Value} {base : Heap} {C : Cn P w K mg base}
/-- the arena beside the words -/
structure Sw (Dk : Dc K mg) (C : Cn P w K mg base) (H0 H : Hp) (loc : Nat → Addr) (rs : List Rc) (p : Addr) (num : Nm) (ws : List Wd) (i : Nat) : Prop where
  ar : Ar Dk.D H0 H loc rs
  w : WAt C.W H p num ws i
  p0 : H0 p = none
  sep : ∀ i, i < 4 * rs.length → loc i ≠ p ∧ num.off (loc i)
def FrA (loc : Nat → Addr) (m : Nat) (p : Addr) (H H' : Hp) : Prop := ∀ b o, b ≠ p → (∀ i, i < 4 * m → b ≠ loc i) → H b = some o → H' b = some o
theorem FrA.refl {loc : Nat → Addr} {m : Nat} {p : Addr} {H : Hp} : FrA loc m p H H := fun _ _ _ _ h => h
theorem FrA.fr {loc : Nat → Addr} {m : Nat} {p : Addr} {H H1 H2 : Hp} (a : FrA loc m p H H1) (f : Fr p H1 H2) : FrA loc m p H H2 := fun b o n1 n2 h => f b o n1 (a b o n1 n2 h)
/-- all but the words and one draft stands -/
def Kp (loc : Nat → Addr) (k : Nat) (p : Addr) (H H' : Hp) : Prop := ∀ b o, b ≠ p → (∀ j, j < 4 → b ≠ loc (4 * k + j)) → H b = some o → H' b = some o
theorem Kp.fr {loc : Nat → Addr} {k : Nat} {p : Addr} {H H1 H2 : Hp} (a : Kp loc k p H H1) (f : Fr p H1 H2) : Kp loc k p H H2 := fun b o n1 n2 h => f b o n1 (a b o n1 n2 h)
theorem Kp.of {loc : Nat → Addr} {k : Nat} {p : Addr} {H H1 : Hp} (f : Fr p H H1) : Kp loc k p H H1 := fun b o n1 n2 h => f b o n1 h
theorem Kp.upd {loc : Nat → Addr} {k : Nat} {p : Addr} {H H1 : Hp} (a : Kp loc k p H H1) {j : Nat} (hj : j < 4) {o : HO} : Kp loc k p H (L2.upd H1 (loc (4 * k + j)) o) := fun b u n1 n2 h => by
  rw [upd_ne (n2 j hj)]
  exact a b u n1 n2 h
theorem Kp.fra {loc : Nat → Addr} {k m : Nat} {p : Addr} {H H1 : Hp} (a : Kp loc k p H H1) (hk : k < m) : FrA loc m p H H1 := fun b o n1 n2 h => a b o n1 (fun j hj => n2 _ (by omega)) h
section
variable {Dk : Dc K mg} {H0 H H1 H' : Hp} {loc : Nat → Addr} {rs : List Rc} {p : Addr} {num : Nm} {ws : List Wd} {i j k : Nat} {r r' : Rc}
theorem Dr.slots (d : Dr Dk.D H loc k r) : ∀ j, j < 4 → (∃ dx fs, H (loc (4 * k + j)) = some (.ins Dk.D dx fs)) ∨ ∃ xs, H (loc (4 * k + j)) = some (.lst xs) := by
  obtain ⟨dx, vi, vo, mvs, h1, h2, h3, h4, h5, h6, h7, h8⟩ := d
  intro j hj
  match j, hj with
  | 0, _ => exact .inl ⟨_, _, h1⟩
  | 1, _ => exact .inr ⟨_, h4⟩
  | 2, _ => exact .inr ⟨_, h6⟩
  | 3, _ => exact .inr ⟨_, h7⟩
theorem Sw.tf (s : Sw Dk C H0 H loc rs p num ws i) (hk : rs[k]? = some r) (a : Kp loc k p H H') : TF H H' := fun b xs h => by
  refine a b _ (fun z => ?_) (fun j hj z => ?_) h
  · obtain ⟨dx, fs, e⟩ := s.w.ins
    rw [z, e] at h
    cases h
  · rcases (s.ar.at_ k r hk).slots j hj with ⟨dx, fs, e⟩ | ⟨ys, e⟩
    · rw [z, e] at h
      cases h
    · rw [z, e] at h
      cases h
theorem Sw.step (s : Sw Dk C H0 H loc rs p num ws i) (hk : rs[k]? = some r) (a : Kp loc k p H H') (d : Dr Dk.D H' loc k r') (hw : WAt C.W H' p num ws j) (hkid : ∀ j, j ∈ r'.kids → j < rs.length) : Sw Dk C H0 H' loc (rs.set k r') p num ws j := by
  have hkl := (List.getElem?_eq_some_iff.mp hk).1
  refine ⟨s.ar.set hk d (fun i hi hn o ho => a _ o (s.sep i hi).1 (fun j hj z => hn ?_) ho) (s.tf hk a) hkid, hw, s.p0, by rw [List.length_set]; exact s.sep⟩
  have := s.ar.inj _ _ hi (by omega) z
  omega
/-- what a draft's reading comes to -/
def AccI (Dk : Dc K mg) (C : Cn P w K mg base) (p : Addr) (num : Nm) (ws : List Wd) (H0 H : Hp) (loc : Nat → Addr) (rs : List Rc) (Q : VK) (E : XK) : Res (List Rc × Option Nat) → Prop
  | none => False
  | some (.inl c) => ∀ d H', FrA loc rs.length p H H' → H' d = some (.xd [("column", .int (c : Nat)), ("row", .int num.n)]) → E (.ref C.N) (some d) H'
  | some (.inr ((rs', ok), j)) => ∀ v H' loc', FrA loc rs.length p H H' → Sw Dk C H0 H' loc' rs' p num ws j → (∀ i, i < 4 * rs.length → loc' i = loc i) → (∀ i, ¬ i < 4 * rs.length → i < 4 * rs'.length → H (loc' i) = none) → v = (match ok with
    | none => V.non
    | some m => V.ref (loc' (4 * m))) → Q v H'
theorem AccI.bind {α δ : Type} {Q : VK} {E : XK} {Q2 : δ → Hp → Prop} {R2 : Hp → δ → α → Prop} {x : Res α} {f : α → Nat → Res (List Rc × Option Nat)}
    (h : AccI Dk C p num ws H0 H loc rs Q E (andThen x f)) (fr : FrA loc rs.length p H H1) (k : ∀ a j, AccI Dk C p num ws H0 H loc rs Q E (f a j) → ∀ v H2, Fr p H1 H2 → WAt C.W H2 p num ws j → R2 H2 v a → Q2 v H2) : Acc C p num ws H1 Q2 E R2 x := by
  match x, h with
  | some (.inl c), h => exact fun d H' g z => h d H' (fr.fr g) z
  | some (.inr (a, j)), h => exact fun v H' g y z => k a j h v H' g y z
theorem py_takeV {σ : L2.St} {E : XK} {kk : Nat} {ta : TA} {ks : List Str} (h0 : σ[kk]? = some (some (.ref p))) (h : EvA ta σ H (ks.map V.str)) (hW : WAt C.W H p num ws i) (hz : ks.length ≤ 100000 := by decide) : Py C p num ws E (tMethR C.W "take" (spTake C) E (tVar kk) ta) σ H RStr (takeM ws ks i) := fun Q ac => by
  obtain ⟨dx, ts, hp, hl, hw⟩ := hW
  exact ⟨.ref p, h0, p, dx, _, rfl, hp, wf_no (by decide) (by decide) (by decide), h H (Ex.refl H) _ fun H2 e2 => ⟨p, num, ws, i, ks, rfl, hz, WAt.ex ⟨dx, ts, hp, hl, hw⟩ e2, ac.fr (Fr.ex e2)⟩⟩
theorem py_takeS {σ : L2.St} {E : XK} {kk k2 : Nat} {ks : List Str} {g c : Addr} (h0 : σ[kk]? = some (some (.ref p))) (h2 : σ[k2]? = some (some (.ref c))) (h : SqT K H c (ks.map V.str)) (hW : WAt C.W H p num ws i) (hz : ks.length ≤ 100000) : Py C p num ws E (tMethS1 K C.W "take" g (spTake C) E (tVar kk) (tVar k2)) σ H RStr (takeM ws ks i) := fun Q ac => by
  obtain ⟨dx, ts, hp, hl, hw⟩ := hW
  refine ⟨.ref p, h0, p, dx, _, rfl, hp, wf_no (by decide) (by decide) (by decide), fun q hq => ⟨.ref c, h2, c, _, rfl, .inl (ex_t (fr_new hq) h), upd_same, p, num, ws, i, ks, rfl, hz, WAt.ex ⟨dx, ts, hp, hl, hw⟩ (fr_new hq), ac.fr (Fr.ex (fr_new hq))⟩⟩
theorem py_callV {σ : L2.St} {E : XK} {α : Type} {kk : Nat} {R : Hp → V → α → Prop} {m : List Wd → Nat → Res α} (h0 : σ[kk]? = some (some (.ref p))) (hW : WAt C.W H p num ws i) : Py C p num ws E (tCall (spG C R m) [] E (tCons (tVar kk) tNil)) σ H R (m ws i) := fun Q ac => ⟨.ref p, h0, p, num, ws, i, rfl, hW, ac⟩
end
end
end Prs
set_option Elab.async false
set_option linter.all false
set_option maxRecDepth 100000
set_option maxHeartbeats 4000000
namespace Prs
open PySem PySem.Spec PyProof.Rows L2 Evl
section
variable {P : Program} {w : World} {K : PySem.W.Frag} {mg : Str → Option Value} {base : Heap} {C : Cn P w K mg base}
section
variable {Dk : Dc K mg} {H0 H H1 H2 H' : Hp} {loc : Nat → Addr} {rs : List Rc} {p : Addr} {num : Nm} {ws : List Wd} {i j k : Nat} {r r' : Rc}
theorem WAt.other {a : Addr} (h : WAt C.W H p num ws i) (f : Fr a H H') (ap : a ≠ p) (aw : num.off a) (ht : ∀ xs, H a ≠ some (.tup xs)) : WAt C.W H' p num ws i := by
  obtain ⟨dx, ts, a1, b, c⟩ := h
  exact ⟨dx, ts, f _ _ (Ne.symm ap) a1, f _ _ (Ne.symm aw.1) b, f _ _ (Ne.symm aw.2) c.1, c.2⟩
theorem Kp.at0 (a : Kp loc k p H H1) (f : Fr (loc (4 * k)) H1 H2) : Kp loc k p H H2 := fun b o n1 n2 h => f b o (n2 0 (by decide)) (a b o n1 n2 h)
theorem Kp.at1 {s : Nat} (hs : s < 4) (a : Kp loc k p H H1) (f : Fr (loc (4 * k + s)) H1 H2) : Kp loc k p H H2 := fun b o n1 n2 h => f b o (n2 s hs) (a b o n1 n2 h)
/-- the four places of a draft are apart, and apart from the words -/
theorem Sw.apart (s : Sw Dk C H0 H loc rs p num ws i) (hk : rs[k]? = some r) : (∀ a b, a < 4 → b < 4 → a ≠ b → loc (4 * k + a) ≠ loc (4 * k + b)) ∧ ∀ a, a < 4 → loc (4 * k + a) ≠ p ∧ num.off (loc (4 * k + a)) := by
  have hkl := (List.getElem?_eq_some_iff.mp hk).1
  refine ⟨fun a b ha hb n z => n ?_, fun a ha => s.sep _ (by omega)⟩
  have := s.ar.inj _ _ (by omega) (by omega) z
  omega
theorem no_tup_ins {a c dx : Addr} {fs : List (Str × V)} (h : H a = some (.ins c dx fs)) : ∀ xs, H a ≠ some (.tup xs) := fun xs z => by
  rw [h] at z
  cases z
theorem no_tup_lst {a : Addr} {ys : List V} (h : H a = some (.lst ys)) : ∀ xs, H a ≠ some (.tup xs) := fun xs z => by
  rw [h] at z
  cases z
theorem fr_upd {a : Addr} {o : HO} : Fr a H (L2.upd H a o) := fun b u n hb => by
  rw [upd_ne n]
  exact hb
end
/-! ### read_inner: into, out, go -/
theorem scInner : FnScope ["self", "words", "allowed", "word"] ["self", "words"] (defScope sInner) := ⟨rfl, rfl, rfl, by decide +kernel, rfl, by decide +kernel, by decide +kernel⟩
section
variable {Dk : Dc K mg} {H0 H H1 : Hp} {loc : Nat → Addr} {rs : List Rc} {p : Addr} {num : Nm} {ws : List Wd} {i j k : Nat} {r : Rc} {Q : VK} {E : XK} {D : Ends} {tz : TS} {v2 v3 : V}
/-- self.passed = n; self.into = read_deeds(words) -/
theorem br_into {n : Nat} (s : Sw Dk C H0 H loc rs p num ws i) (hk : rs[k]? = some r) (f : Fr p H H1) (hW : WAt C.W H1 p num ws j) (ac : AccI Dk C p num ws H0 H loc rs Q E (andThen (mDeeds n ws j) fun d j => told (rs.set k { r with passed := 1, into := d }, none) j))
    (fin : ∀ H5, Q .non H5 → tz D [some (.ref (loc (4 * k))), some (.ref p), some v2, some v3] H5) :
    tSeq (sFld K (tVar 0) (tC (.int 1)) "passed") (tSeq (sFld K (tVar 0) (tCall (spG C RD (mDeeds n)) [] E (tCons (tVar 1) tNil)) "into") tz) D [some (.ref (loc (4 * k))), some (.ref p), some v2, some v3] H1 := by
  obtain ⟨ap, aw⟩ := s.apart hk
  have hkl := (List.getElem?_eq_some_iff.mp hk).1
  have d1 : Dr Dk.D H1 loc k r := (s.ar.at_ k r hk).fr (fun j hj o ho => f _ _ (aw j hj).1 ho) (s.w.tf f)
  obtain ⟨dx, vi, vo, mvs, h1, d2, d3, h4, d5, h6, h7, h8⟩ := d1
  have a0p : loc (4 * k) ≠ p := (aw 0 (by decide)).1
  have a0w : num.off (loc (4 * k)) := (aw 0 (by decide)).2
  refine q_fldS rfl ev_c h1 Dk.cl Dk.nPassed (by show 9 < 1000; decide) fun H2 f2 h2 => ?_
  have hW2 := hW.other f2 a0p a0w (no_tup_ins h1)
  have kp2 : Kp loc k p H H2 := (Kp.of f).at0 f2
  refine (py_callV (m := mDeeds n) (R := RD) (E := E) rfl hW2) _ (AccI.bind ac (kp2.fra hkl) fun d j ac v H3 f3 hW3 hd => ?_)
  have h3 := f3 _ _ a0p h2
  refine ⟨.ref (loc (4 * k)), rfl, loc (4 * k), Dk.D, dx, _, rfl, h3, Dk.cl, Dk.nInto, by show 9 < 1000; decide, fin _ ?_⟩
  have f4 : Fr (loc (4 * k)) H3 (L2.upd H3 (loc (4 * k)) (.ins Dk.D dx (putF "into" v (putF "passed" (.int 1) (dfl r vi vo (loc (4 * k + 1)) (loc (4 * k + 2)) (loc (4 * k + 3))))))) := fr_upd
  have kp4 := (kp2.fr f3).at0 f4
  have tf4 := TF.fr h3 f4
  have tf2 : TF H1 H2 := TF.fr h1 f2
  have tf3 := hW2.tf f3
  have all : TF H1 _ := fun b xs h => tf4 b xs (tf3 b xs (tf2 b xs h))
  have go : ∀ s', s' < 4 → s' ≠ 0 → ∀ o, H1 (loc (4 * k + s')) = some o → (L2.upd H3 (loc (4 * k)) (.ins Dk.D dx (putF "into" v (putF "passed" (.int 1) (dfl r vi vo (loc (4 * k + 1)) (loc (4 * k + 2)) (loc (4 * k + 3))))))) (loc (4 * k + s')) = some o := fun s' hs hn o ho =>
    f4 _ _ (ap s' 0 hs (by decide) hn) (f3 _ _ (aw s' hs).1 (f2 _ _ (ap s' 0 hs (by decide) hn) ho))
  refine ac .non _ loc (kp4.fra hkl) (s.step hk kp4 ⟨dx, v, vo, mvs, by rw [upd_same]; rfl, DT.tf tf4 _ _ hd, DT.tf all _ _ d3, go 1 (by decide) (by decide) _ h4, DTs.tf all _ _ d5, go 2 (by decide) (by decide) _ h6, go 3 (by decide) (by decide) _ h7, by show 1 ≤ 3; decide⟩ (hW3.other f4 a0p a0w (no_tup_ins h3)) (fun j hj => s.ar.kid k r hk j hj)) (fun _ _ => rfl) (fun i h1 h2 => absurd (by rw [List.length_set] at h2; exact h2) h1) rfl
theorem br_out {n : Nat} (s : Sw Dk C H0 H loc rs p num ws i) (hk : rs[k]? = some r) (f : Fr p H H1) (hW : WAt C.W H1 p num ws j) (ac : AccI Dk C p num ws H0 H loc rs Q E (andThen (mDeeds n ws j) fun d j => told (rs.set k { r with passed := 2, out := d }, none) j))
    (fin : ∀ H5, Q .non H5 → tz D [some (.ref (loc (4 * k))), some (.ref p), some v2, some v3] H5) :
    tSeq (sFld K (tVar 0) (tC (.int 2)) "passed") (tSeq (sFld K (tVar 0) (tCall (spG C RD (mDeeds n)) [] E (tCons (tVar 1) tNil)) "out") tz) D [some (.ref (loc (4 * k))), some (.ref p), some v2, some v3] H1 := by
  obtain ⟨ap, aw⟩ := s.apart hk
  have hkl := (List.getElem?_eq_some_iff.mp hk).1
  have d1 : Dr Dk.D H1 loc k r := (s.ar.at_ k r hk).fr (fun j hj o ho => f _ _ (aw j hj).1 ho) (s.w.tf f)
  obtain ⟨dx, vi, vo, mvs, h1, d2, d3, h4, d5, h6, h7, h8⟩ := d1
  have a0p : loc (4 * k) ≠ p := (aw 0 (by decide)).1
  have a0w : num.off (loc (4 * k)) := (aw 0 (by decide)).2
  refine q_fldS rfl ev_c h1 Dk.cl Dk.nPassed (by show 9 < 1000; decide) fun H2 f2 h2 => ?_
  have hW2 := hW.other f2 a0p a0w (no_tup_ins h1)
  have kp2 : Kp loc k p H H2 := (Kp.of f).at0 f2
  refine (py_callV (m := mDeeds n) (R := RD) (E := E) rfl hW2) _ (AccI.bind ac (kp2.fra hkl) fun d j ac v H3 f3 hW3 hd => ?_)
  have h3 := f3 _ _ a0p h2
  refine ⟨.ref (loc (4 * k)), rfl, loc (4 * k), Dk.D, dx, _, rfl, h3, Dk.cl, Dk.nOut, by show 9 < 1000; decide, fin _ ?_⟩
  have f4 : Fr (loc (4 * k)) H3 (L2.upd H3 (loc (4 * k)) (.ins Dk.D dx (putF "out" v (putF "passed" (.int 2) (dfl r vi vo (loc (4 * k + 1)) (loc (4 * k + 2)) (loc (4 * k + 3))))))) := fr_upd
  have kp4 := (kp2.fr f3).at0 f4
  have tf4 := TF.fr h3 f4
  have tf2 : TF H1 H2 := TF.fr h1 f2
  have tf3 := hW2.tf f3
  have all : TF H1 _ := fun b xs h => tf4 b xs (tf3 b xs (tf2 b xs h))
  have go : ∀ s', s' < 4 → s' ≠ 0 → ∀ o, H1 (loc (4 * k + s')) = some o → (L2.upd H3 (loc (4 * k)) (.ins Dk.D dx (putF "out" v (putF "passed" (.int 2) (dfl r vi vo (loc (4 * k + 1)) (loc (4 * k + 2)) (loc (4 * k + 3))))))) (loc (4 * k + s')) = some o := fun s' hs hn o ho =>
    f4 _ _ (ap s' 0 hs (by decide) hn) (f3 _ _ (aw s' hs).1 (f2 _ _ (ap s' 0 hs (by decide) hn) ho))
  refine ac .non _ loc (kp4.fra hkl) (s.step hk kp4 ⟨dx, vi, v, mvs, by rw [upd_same]; rfl, DT.tf all _ _ d2, DT.tf tf4 _ _ hd, go 1 (by decide) (by decide) _ h4, DTs.tf all _ _ d5, go 2 (by decide) (by decide) _ h6, go 3 (by decide) (by decide) _ h7, by show 2 ≤ 3; decide⟩ (hW3.other f4 a0p a0w (no_tup_ins h3)) (fun j hj => s.ar.kid k r hk j hj)) (fun _ _ => rfl) (fun i h1 h2 => absurd (by rw [List.length_set] at h2; exact h2) h1) rfl
theorem lk_moves {r : Rc} {vi vo : V} {am an ad : Addr} {n : Nat} : (putF "passed" (.int (n : Int)) (dfl r vi vo am an ad)).lookup ("moves" : Str) = some (.ref am) := rfl
theorem lk_nums {r : Rc} {vi vo : V} {am an ad : Addr} {n : Nat} : (putF "passed" (.int (n : Int)) (dfl r vi vo am an ad)).lookup ("move_numbers" : Str) = some (.ref an) := rfl
theorem lk_drafts {r : Rc} {vi vo : V} {am an ad : Addr} {n : Nat} : (putF "passed" (.int (n : Int)) (dfl r vi vo am an ad)).lookup ("drafts" : Str) = some (.ref ad) := rfl
theorem br_go {n : Nat} (s : Sw Dk C H0 H loc rs p num ws i) (hk : rs[k]? = some r) (f : Fr p H H1) (hW : WAt C.W H1 p num ws j)
    (ac : AccI Dk C p num ws H0 H loc rs Q E (andThen (mMove n ws j) fun d j => (if r.moves.length < 50000 ∧ r.nums.length < 50000 then told (rs.set k { r with passed := 2, moves := r.moves ++ [d], nums := r.nums ++ [num.n] }, none) j else none)))
    (fin : ∀ H5, Q .non H5 → tz D [some (.ref (loc (4 * k))), some (.ref p), some v2, some v3] H5) :
    tSeq (sFld K (tVar 0) (tC (.int 2)) "passed") (tSeq (tDrop (tBM K "list" rAppend (tFld K (tVar 0) "moves") (tCons (tCall (spG C RD (mMove n)) [] E (tCons (tVar 1) tNil)) tNil))) (tSeq (tDrop (tBM K "list" rAppend (tFld K (tVar 0) "move_numbers") (tCons (tFld K (tVar 1) "number") tNil))) tz)) D [some (.ref (loc (4 * k))), some (.ref p), some v2, some v3] H1 := by
  obtain ⟨ap, aw⟩ := s.apart hk
  have hkl := (List.getElem?_eq_some_iff.mp hk).1
  have d1 : Dr Dk.D H1 loc k r := (s.ar.at_ k r hk).fr (fun j hj o ho => f _ _ (aw j hj).1 ho) (s.w.tf f)
  obtain ⟨dx, vi, vo, mvs, h1, d2, d3, h4, d5, h6, h7, h8⟩ := d1
  have a0p : loc (4 * k) ≠ p := (aw 0 (by decide)).1
  have a0w : num.off (loc (4 * k)) := (aw 0 (by decide)).2
  refine q_fldS rfl (v := .int ((2 : Nat) : Int)) ev_c h1 Dk.cl Dk.nPassed (by show 9 < 1000; decide) fun H2 f2 h2 => ?_
  have hW2 := hW.other f2 a0p a0w (no_tup_ins h1)
  have kp2 : Kp loc k p H H2 := (Kp.of f).at0 f2
  have m2 := f2 _ _ (ap 1 0 (by decide) (by decide) (by decide)) h4
  refine ⟨.ref (loc (4 * k)), rfl, loc (4 * k), Dk.D, dx, _, _, rfl, h2, Dk.cl, Dk.nMoves, lk_moves, Or.inl ⟨rfl, mvs, sq_of m2⟩, ?_⟩
  refine (py_callV (m := mMove n) (R := RD) (E := E) rfl hW2) _ (AccI.bind ac (kp2.fra hkl) fun d j ac v H3 f3 hW3 hd => ?_)
  split at ac
  case isFalse => exact ac.elim
  case isTrue hz =>
    have m3 := f3 _ _ (aw 1 (by decide)).1 m2
    have h3 := f3 _ _ a0p h2
    refine ⟨loc (4 * k + 1), mvs, v, rfl, rfl, m3, sz_lt (by rw [DTs.len d5]; omega), ?_⟩
    have f4 : Fr (loc (4 * k + 1)) H3 (L2.upd H3 (loc (4 * k + 1)) (.lst (mvs ++ [v]))) := fr_upd
    have m4 : (L2.upd H3 (loc (4 * k + 1)) (.lst (mvs ++ [v]))) (loc (4 * k + 1)) = some (.lst (mvs ++ [v])) := upd_same
    revert f4 m4
    generalize L2.upd H3 (loc (4 * k + 1)) (.lst (mvs ++ [v])) = H4
    intro f4 m4
    have kp4 := (kp2.fr f3).at1 (by decide : 1 < 4) f4
    have hW4 := hW3.other f4 (aw 1 (by decide)).1 (aw 1 (by decide)).2 (no_tup_lst m3)
    have h4' := f4 _ _ (ap 0 1 (by decide) (by decide) (by decide)) h3
    have n4 : H4 (loc (4 * k + 2)) = some (.lst (r.nums.map V.int)) := f4 _ _ (ap 2 1 (by decide) (by decide) (by decide)) (f3 _ _ (aw 2 (by decide)).1 (f2 _ _ (ap 2 0 (by decide) (by decide) (by decide)) h6))
    have k4 : H4 (loc (4 * k + 3)) = some (.lst (r.kids.map fun j => V.ref (loc (4 * j)))) := f4 _ _ (ap 3 1 (by decide) (by decide) (by decide)) (f3 _ _ (aw 3 (by decide)).1 (f2 _ _ (ap 3 0 (by decide) (by decide) (by decide)) h7))
    obtain ⟨dw, ts, hp4, hl4, hts4⟩ := id hW4
    refine ⟨.ref (loc (4 * k)), rfl, loc (4 * k), Dk.D, dx, _, _, rfl, h4', Dk.cl, Dk.nNums, lk_nums, Or.inl ⟨rfl, _, sq_of n4⟩, ?_⟩
    refine ⟨.ref p, rfl, p, C.W, dw, _, _, rfl, hp4, C.cl, C.nn, wf_number, ?_⟩
    refine ⟨loc (4 * k + 2), _, .int num.n, rfl, rfl, n4, sz_lt (by rw [List.length_map]; omega), fin _ ?_⟩
    have f5 : Fr (loc (4 * k + 2)) H4 (L2.upd H4 (loc (4 * k + 2)) (.lst (r.nums.map V.int ++ [.int num.n]))) := fr_upd
    have m5 : (L2.upd H4 (loc (4 * k + 2)) (.lst (r.nums.map V.int ++ [.int num.n]))) (loc (4 * k + 2)) = some (.lst (r.nums.map V.int ++ [.int num.n])) := upd_same
    revert f5 m5
    generalize L2.upd H4 (loc (4 * k + 2)) (.lst (r.nums.map V.int ++ [.int num.n])) = H5
    intro f5 m5
    have kp5 := kp4.at1 (by decide : 2 < 4) f5
    have nt4 : TF H3 H4 := fun b xs hb => f4 b _ (fun z => no_tup_lst m3 xs (by rw [← z]; exact hb)) hb
    have nt5 : TF H4 H5 := fun b xs hb => f5 b _ (fun z => no_tup_lst n4 xs (by rw [← z]; exact hb)) hb
    have t35 : TF H3 H5 := fun b xs h => nt5 b xs (nt4 b xs h)
    have all : TF H1 H5 := fun b xs h => t35 b xs (hW2.tf f3 b xs (TF.fr h1 f2 b xs h))
    refine ac .non _ loc (kp5.fra hkl) (s.step hk kp5 ⟨dx, vi, vo, mvs ++ [v], f5 _ _ (ap 0 2 (by decide) (by decide) (by decide)) h4', DT.tf all _ _ d2, DT.tf all _ _ d3, f5 _ _ (ap 1 2 (by decide) (by decide) (by decide)) m4, dts_snoc (DT.tf t35 _ _ hd) (DTs.tf all _ _ d5), by rw [m5, List.map_append]; rfl, f5 _ _ (ap 3 2 (by decide) (by decide) (by decide)) k4, by show 2 ≤ 3; decide⟩ (hW4.other f5 (aw 2 (by decide)).1 (aw 2 (by decide)).2 (no_tup_lst n4)) (fun j hj => s.ar.kid k r hk j hj)) (fun _ _ => rfl) (fun i h1 h2 => absurd (by rw [List.length_set] at h2; exact h2) h1) rfl
end
end
end Prs
set_option Elab.async false
set_option linter.all false
set_option maxRecDepth 100000
set_option maxHeartbeats 4000000
namespace Prs
open PySem PySem.Spec PyProof.Rows L2 Evl
section
variable {P : Program} {w : World} {K : PySem.W.Frag} {mg : Str → Option Value} {base : Heap} {C : Cn P w K mg base}
/-- the places of an arena with a draft more -/
def loc2 (loc : Nat → Addr) (m : Nat) (x am an ad : Addr) : Nat → Addr := fun i => if i < 4 * m then loc i else if i = 4 * m then x else if i = 4 * m + 1 then am else if i = 4 * m + 2 then an else ad
section
variable {loc : Nat → Addr} {m : Nat} {x am an ad : Addr}
theorem loc2_old {i : Nat} (h : i < 4 * m) : loc2 loc m x am an ad i = loc i := by
  unfold loc2
  rw [if_pos h]
theorem loc2_0 : loc2 loc m x am an ad (4 * m) = x := by
  unfold loc2
  rw [if_neg (by omega), if_pos rfl]
theorem loc2_1 : loc2 loc m x am an ad (4 * m + 1) = am := by
  unfold loc2
  rw [if_neg (by omega), if_neg (by omega), if_pos rfl]
theorem loc2_2 : loc2 loc m x am an ad (4 * m + 2) = an := by
  unfold loc2
  rw [if_neg (by omega), if_neg (by omega), if_neg (by omega), if_pos rfl]
theorem loc2_3 : loc2 loc m x am an ad (4 * m + 3) = ad := by
  unfold loc2
  rw [if_neg (by omega), if_neg (by omega), if_neg (by omega), if_neg (by omega)]
theorem loc2_new {i : Nat} (h : ¬ i < 4 * m) (h2 : i < 4 * (m + 1)) : (i = 4 * m ∧ loc2 loc m x am an ad i = x) ∨ (i = 4 * m + 1 ∧ loc2 loc m x am an ad i = am) ∨ (i = 4 * m + 2 ∧ loc2 loc m x am an ad i = an) ∨ (i = 4 * m + 3 ∧ loc2 loc m x am an ad i = ad) := by
  have : i = 4 * m ∨ i = 4 * m + 1 ∨ i = 4 * m + 2 ∨ i = 4 * m + 3 := by omega
  rcases this with rfl | rfl | rfl | rfl
  · exact .inl ⟨rfl, loc2_0⟩
  · exact .inr (.inl ⟨rfl, loc2_1⟩)
  · exact .inr (.inr (.inl ⟨rfl, loc2_2⟩))
  · exact .inr (.inr (.inr ⟨rfl, loc2_3⟩))
end
theorem Ex.none {H0 H : Hp} {a : Addr} (e : Ex H0 H) (h : H a = none) : H0 a = none := by
  cases z : H0 a with
  | none => rfl
  | some o =>
    rw [e a o z] at h
    cases h
section
variable {Dk : Dc K mg} {H0 H H1 H' : Hp} {loc : Nat → Addr} {rs : List Rc} {p : Addr} {num : Nm} {ws : List Wd} {i j k : Nat} {r : Rc} {Q : VK} {E : XK} {D : Ends} {tz : TS} {v2 v3 : V}
/-- a draft more -/
theorem Ar.push {x am an ad dx : Addr} {vi vo : V} {nm so : Str} {nn : Int} (s : Ar Dk.D H0 H loc rs) (e0 : Ex H0 H) (e : Ex H H') (nx : H x = none) (na : H am = none) (nb : H an = none) (nc : H ad = none) (d1 : am ≠ x) (d2 : an ≠ x) (d3 : ad ≠ x) (d4 : an ≠ am) (d5 : ad ≠ am) (d6 : ad ≠ an)
    (hx : H' x = some (.ins Dk.D dx (dfl (newRc nm so nn) vi vo am an ad))) (hi : DT H' (.tuple []) vi) (ho : DT H' (.tuple []) vo) (ha : H' am = some (.lst [])) (hb : H' an = some (.lst [])) (hc : H' ad = some (.lst [])) :
    Ar Dk.D H0 H' (loc2 loc rs.length x am an ad) (rs ++ [newRc nm so nn]) := by
  have old : ∀ i, i < 4 * rs.length → ∃ o, H (loc i) = some o := fun i hi => by
    have hk : i / 4 < rs.length := by omega
    have := (s.at_ (i / 4) rs[i / 4] (List.getElem?_eq_getElem hk)).slots (i % 4) (by omega)
    have e4 : 4 * (i / 4) + i % 4 = i := by omega
    rw [e4] at this
    rcases this with ⟨_, _, z⟩ | ⟨_, z⟩
    · exact ⟨_, z⟩
    · exact ⟨_, z⟩
  have far : ∀ i, i < 4 * rs.length → ∀ b, H b = none → loc i ≠ b := fun i hi b hb z => by
    obtain ⟨o, ho⟩ := old i hi
    rw [z, hb] at ho
    cases ho
  have hl : (rs ++ [newRc nm so nn]).length = rs.length + 1 := by simp
  refine ⟨?_, ?_, ?_, ?_⟩
  · rw [hl]
    intro a b ha' hb' z
    by_cases h1 : a < 4 * rs.length
    · rw [loc2_old h1] at z
      by_cases h2 : b < 4 * rs.length
      · rw [loc2_old h2] at z
        exact s.inj a b h1 h2 z
      · rcases loc2_new (loc := loc) (x := x) (am := am) (an := an) (ad := ad) h2 hb' with ⟨_, y⟩ | ⟨_, y⟩ | ⟨_, y⟩ | ⟨_, y⟩
        · rw [y] at z; exact absurd z (far a h1 x nx)
        · rw [y] at z; exact absurd z (far a h1 am na)
        · rw [y] at z; exact absurd z (far a h1 an nb)
        · rw [y] at z; exact absurd z (far a h1 ad nc)
    · rcases loc2_new (loc := loc) (x := x) (am := am) (an := an) (ad := ad) h1 ha' with ⟨e1, y1⟩ | ⟨e1, y1⟩ | ⟨e1, y1⟩ | ⟨e1, y1⟩ <;> rw [y1] at z <;>
      (by_cases h2 : b < 4 * rs.length
       · rw [loc2_old h2] at z
         first
         | exact absurd z.symm (far b h2 x nx)
         | exact absurd z.symm (far b h2 am na)
         | exact absurd z.symm (far b h2 an nb)
         | exact absurd z.symm (far b h2 ad nc)
       · rcases loc2_new (loc := loc) (x := x) (am := am) (an := an) (ad := ad) h2 hb' with ⟨e2, y⟩ | ⟨e2, y⟩ | ⟨e2, y⟩ | ⟨e2, y⟩ <;> rw [y] at z <;> first
         | exact e1.trans e2.symm
         | exact absurd z d1
         | exact absurd z d2
         | exact absurd z d3
         | exact absurd z d4
         | exact absurd z d5
         | exact absurd z d6
         | exact absurd z.symm d1
         | exact absurd z.symm d2
         | exact absurd z.symm d3
         | exact absurd z.symm d4
         | exact absurd z.symm d5
         | exact absurd z.symm d6)
  · rw [hl]
    intro a ha'
    by_cases h1 : a < 4 * rs.length
    · rw [loc2_old h1]
      exact s.fresh a h1
    · rcases loc2_new (loc := loc) (x := x) (am := am) (an := an) (ad := ad) h1 ha' with ⟨_, y⟩ | ⟨_, y⟩ | ⟨_, y⟩ | ⟨_, y⟩ <;> rw [y]
      · exact Ex.none e0 nx
      · exact Ex.none e0 na
      · exact Ex.none e0 nb
      · exact Ex.none e0 nc
  · intro k2 r2 h2
    by_cases z : k2 < rs.length
    · rw [List.getElem?_append_left z] at h2
      obtain ⟨dx2, vi2, vo2, mvs, g1, g2, g3, g4, g5, g6, g7, g8⟩ := s.at_ k2 r2 h2
      have t := TF.ex e
      have ek : (r2.kids.map fun j => V.ref (loc2 loc rs.length x am an ad (4 * j))) = r2.kids.map fun j => V.ref (loc (4 * j)) := List.map_congr_left fun j hj => by
        rw [loc2_old (by have := s.kid k2 r2 h2 j hj; omega)]
      refine ⟨dx2, vi2, vo2, mvs, ?_, DT.tf t _ _ g2, DT.tf t _ _ g3, ?_, DTs.tf t _ _ g5, ?_, ?_, g8⟩
      · rw [loc2_old (by omega), loc2_old (by omega), loc2_old (by omega), loc2_old (by omega)]
        exact e _ _ g1
      · rw [loc2_old (by omega)]
        exact e _ _ g4
      · rw [loc2_old (by omega)]
        exact e _ _ g6
      · rw [loc2_old (by omega), ek]
        exact e _ _ g7
    · have hk2 := (List.getElem?_eq_some_iff.mp h2).1
      rw [hl] at hk2
      have ek2 : k2 = rs.length := by omega
      subst ek2
      rw [List.getElem?_append_right (Nat.le_refl _), Nat.sub_self] at h2
      cases h2
      refine ⟨dx, vi, vo, [], ?_, hi, ho, ?_, dts_nil, ?_, ?_, Nat.zero_le _⟩
      · rw [loc2_0, loc2_1, loc2_2, loc2_3]
        exact hx
      · rw [loc2_1]
        exact ha
      · rw [loc2_2]
        exact hb
      · rw [loc2_3]
        exact hc
  · intro k2 r2 h2 j2 hj2
    rw [hl]
    by_cases z : k2 < rs.length
    · rw [List.getElem?_append_left z] at h2
      have := s.kid k2 r2 h2 j2 hj2
      omega
    · have hk2 := (List.getElem?_eq_some_iff.mp h2).1
      rw [hl] at hk2
      have ek2 : k2 = rs.length := by omega
      subst ek2
      rw [List.getElem?_append_right (Nat.le_refl _), Nat.sub_self] at h2
      cases h2
      cases hj2
end
end
end Prs
set_option Elab.async false
set_option linter.all false
set_option maxRecDepth 100000
set_option maxHeartbeats 4000000
namespace Prs
open PySem PySem.Spec PyProof.Rows L2 Evl
section
variable {P : Program} {w : World} {K : PySem.W.Frag} {mg : Str → Option Value} {base : Heap} {C : Cn P w K mg base}
section
variable {Dk : Dc K mg} {H0 H H1 H' : Hp} {loc : Nat → Addr} {rs : List Rc} {p : Addr} {num : Nm} {ws : List Wd} {i j k : Nat} {r : Rc} {Q : VK} {E : XK} {D : Ends} {tz : TS} {v2 v3 : V}
theorem Sw.ex0 (s : Sw Dk C H0 H loc rs p num ws i) (e0 : Ex H0 H) (f : FrA loc rs.length p H H') : Ex H0 H' := fun b o h => f b o (fun z => by
  rw [z, s.p0] at h
  cases h) (fun i hi z => by
  rw [z, s.ar.fresh i hi] at h
  cases h) (e0 b o h)
theorem q_pyI {α2 : Type} {σ : L2.St} {t : TE} {kk : Nat} {x : Res α2} {R2 : Hp → V → α2 → Prop} {f : α2 → Nat → Res (List Rc × Option Nat)} (h : Py C p num ws E t σ H1 R2 x) (ac : AccI Dk C p num ws H0 H loc rs Q E (andThen x f)) (fr : FrA loc rs.length p H H1)
    (n : ∀ a j, AccI Dk C p num ws H0 H loc rs Q E (f a j) → ∀ v H2, Fr p H1 H2 → WAt C.W H2 p num ws j → R2 H2 v a → tz D (σ.set kk (some v)) H2) : tSeq (tAsg t (gName kk)) tz D σ H1 := h _ (AccI.bind ac fr n)
/-- self.passed = len(INNER_WORDS); self.drafts.append(Draft(words.take(NAME), word, words.number)); return self.drafts[-1] -/
theorem br_new {wd : Str} {aI : Addr} (hI : ∀ H, SqT K H aI (INNER.map V.str)) (e0 : Ex H0 H) (s : Sw Dk C H0 H loc rs p num ws i) (hk : rs[k]? = some r) (f : Fr p H H1) (hW : WAt C.W H1 p num ws j)
    (ac : AccI Dk C p num ws H0 H loc rs Q E (andThen (takeM ws ["a name"] j) fun nm j => (if r.kids.length < 50000 then told (rs.set k { r with passed := 3, kids := r.kids ++ [rs.length] } ++ [newRc nm wd num.n], some rs.length) j else none)))
    (hD : D.rt = Q) :
    tSeq (sFld K (tVar 0) (tCB (fun xs H Q => ∃ x n, xs = [x] ∧ LenV K x H n ∧ Q (.int n) H) (tCons (tC (.ref aI)) tNil)) "passed")
      (tSeq (tDrop (tBM K "list" rAppend (tFld K (tVar 0) "drafts") (tCons (tMake Dk.D (spDInit Dk) [] E0 (tCons (tMethR C.W "take" (spTake C) E (tVar 1) (tCons (tC (.str "a name")) tNil)) (tCons (tVar 3) (tCons (tFld K (tVar 1) "number") tNil)))) tNil)))
        (tRet (tOp (rIxL K) (tFld K (tVar 0) "drafts") (tUn (rU fun i => .int (-i)) (tC (.int 1)))))) D [some (.ref (loc (4 * k))), some (.ref p), some v2, some (.str wd)] H1 := by
  obtain ⟨ap, aw⟩ := s.apart hk
  have hkl := (List.getElem?_eq_some_iff.mp hk).1
  have d1 : Dr Dk.D H1 loc k r := (s.ar.at_ k r hk).fr (fun j hj o ho => f _ _ (aw j hj).1 ho) (s.w.tf f)
  obtain ⟨dx, vi, vo, mvs, h1, d2, d3, h4, d5, h6, h7, h8⟩ := d1
  have a0p : loc (4 * k) ≠ p := (aw 0 (by decide)).1
  have a0w : num.off (loc (4 * k)) := (aw 0 (by decide)).2
  have eL : Ev (tCB (fun xs H Q => ∃ x n, xs = [x] ∧ LenV K x H n ∧ Q (.int n) H) (tCons (tC (.ref aI)) tNil)) [some (.ref (loc (4 * k))), some (.ref p), some v2, some (.str wd)] H1 (.int ((3 : Nat) : Int)) := fun H2 e Q q => ⟨_, 3, rfl, .inr ⟨_, hI H2, rfl⟩, q H2 (Ex.refl H2)⟩
  refine q_fldS rfl eL h1 Dk.cl Dk.nPassed (by show 9 < 1000; decide) fun H2 f2 h2 => ?_
  have hW2 := hW.other f2 a0p a0w (no_tup_ins h1)
  have kp2 : Kp loc k p H H2 := (Kp.of f).at0 f2
  have k2 : H2 (loc (4 * k + 3)) = some (.lst (r.kids.map fun j => V.ref (loc (4 * j)))) := f2 _ _ (ap 3 0 (by decide) (by decide) (by decide)) h7
  refine ⟨.ref (loc (4 * k)), rfl, loc (4 * k), Dk.D, dx, _, _, rfl, h2, Dk.cl, Dk.nDrafts, lk_drafts, Or.inl ⟨rfl, _, sq_of k2⟩, ?_⟩
  refine (py_takeV (ks := ["a name"]) (E := E) rfl (ea_cons ev_c ea_nil) hW2) _ (AccI.bind ac (kp2.fra hkl) fun nm j ac v H3 f3 hW3 hv => ?_)
  subst hv
  split at ac
  case isFalse => exact ac.elim
  case isTrue hz =>
    have h3 := f3 _ _ a0p h2
    have k3 := f3 _ _ (aw 3 (by decide)).1 k2
    have t13 : TF H1 H3 := fun b xs h => hW2.tf f3 b xs (TF.fr h1 f2 b xs h)
    have kp3 := kp2.fr f3
    have s3 : Sw Dk C H0 H3 loc (rs.set k { r with passed := 3 }) p num ws j := s.step hk kp3 ⟨dx, vi, vo, mvs, h3, DT.tf t13 _ _ d2, DT.tf t13 _ _ d3, f3 _ _ (aw 1 (by decide)).1 (f2 _ _ (ap 1 0 (by decide) (by decide) (by decide)) h4), DTs.tf t13 _ _ d5, f3 _ _ (aw 2 (by decide)).1 (f2 _ _ (ap 2 0 (by decide) (by decide) (by decide)) h6), k3, Nat.le_refl _⟩ hW3 (fun j hj => s.ar.kid k r hk j hj)
    have e03 := s.ex0 e0 (kp3.fra hkl)
    obtain ⟨dw, ts, hp3, hl3, hts3⟩ := id hW3
    refine ⟨.str wd, rfl, .ref p, rfl, p, C.W, dw, _, _, rfl, hp3, C.cl, C.nn, wf_number, fun x dx2 nx nd ned => ?_⟩
    refine ⟨x, nm, wd, num.n, dx2, rfl, upd_same, fun H4 vi2 vo2 am an ad f4 h4' hi ho ham han had nam nan nad d1' d2' d3' d4' d5' d6' => ?_⟩
    have e34 : Ex H3 H4 := fun b o hb => f4 b o (ne_of_none hb nx) (by
      rw [upd_ne (ne_of_none hb nx), upd_ne (ne_of_none hb nd)]
      exact hb)
    have nn : ∀ b, b ≠ x → (L2.upd (L2.upd H3 dx2 (.own x)) x (.ins Dk.D dx2 [])) b = none → H3 b = none := fun b hb h => by
      rw [upd_ne hb] at h
      have hbd : b ≠ dx2 := fun z => by
        rw [z, upd_same] at h
        cases h
      rw [upd_ne hbd] at h
      exact h
    have na := nn am d1' nam
    have nb := nn an d2' nan
    have nc := nn ad d3' nad
    have hl : (rs.set k { r with passed := 3 }).length = rs.length := List.length_set
    have ar4 := s3.ar.push e03 e34 nx na nb nc d1' d2' d3' d4' d5' d6' h4' hi ho ham han had
    rw [hl] at ar4
    have k4 := e34 _ _ k3
    refine ⟨rfl, loc (4 * k + 3), _, .ref x, rfl, rfl, k4, sz_lt (by rw [List.length_map]; omega), ?_⟩
    have f5 : Fr (loc (4 * k + 3)) H4 (L2.upd H4 (loc (4 * k + 3)) (.lst (r.kids.map (fun j => V.ref (loc (4 * j))) ++ [.ref x]))) := fr_upd
    have k5 : (L2.upd H4 (loc (4 * k + 3)) (.lst (r.kids.map (fun j => V.ref (loc (4 * j))) ++ [.ref x]))) (loc (4 * k + 3)) = some (.lst (r.kids.map (fun j => V.ref (loc (4 * j))) ++ [.ref x])) := upd_same
    revert f5 k5
    generalize L2.upd H4 (loc (4 * k + 3)) (.lst (r.kids.map (fun j => V.ref (loc (4 * j))) ++ [.ref x])) = H5
    intro f5 k5
    have o4 := e34 _ _ h3
    have o5 := f5 _ _ (ap 0 3 (by decide) (by decide) (by decide)) o4
    have hW4 := hW3.ex e34
    have hW5 := hW4.other f5 (aw 3 (by decide)).1 (aw 3 (by decide)).2 (no_tup_lst k4)
    have s4 : Sw Dk C H0 H4 (loc2 loc rs.length x am an ad) (rs.set k { r with passed := 3 } ++ [newRc nm wd num.n]) p num ws j := by
      refine ⟨ar4, hW4, s.p0, fun i hi => ?_⟩
      rw [List.length_append, hl] at hi
      have hi : i < 4 * (rs.length + 1) := hi
      by_cases z : i < 4 * rs.length
      · rw [loc2_old z]
        exact s.sep i z
      · have fx := hW3.fresh nx
        have fa := hW3.fresh na
        have fb := hW3.fresh nb
        have fc := hW3.fresh nc
        rcases loc2_new (loc := loc) (x := x) (am := am) (an := an) (ad := ad) z hi with ⟨_, y⟩ | ⟨_, y⟩ | ⟨_, y⟩ | ⟨_, y⟩ <;> rw [y] <;> assumption
    have hk1 : (rs.set k { r with passed := 3 } ++ [newRc nm wd num.n])[k]? = some { r with passed := 3 } := by
      rw [List.getElem?_append_left (by rw [hl]; exact hkl), List.getElem?_set_self hkl]
    have eq : ∀ s, s < 4 → loc2 loc rs.length x am an ad (4 * k + s) = loc (4 * k + s) := fun s hs => loc2_old (by omega)
    have kp5 : Kp (loc2 loc rs.length x am an ad) k p H4 H5 := fun b o n1 n2 h => f5 b o (fun z => n2 3 (by decide) (by rw [eq 3 (by decide)]; exact z)) h
    have t45 : TF H4 H5 := fun b xs hb => f5 b _ (fun z => no_tup_lst k4 xs (by rw [← z]; exact hb)) hb
    have t15 : TF H1 H5 := fun b xs h => t45 b xs (TF.ex e34 b xs (t13 b xs h))
    have dr5 : Dr Dk.D H5 (loc2 loc rs.length x am an ad) k { r with passed := 3, kids := r.kids ++ [rs.length] } := by
      refine ⟨dx, vi, vo, mvs, ?_, DT.tf t15 _ _ d2, DT.tf t15 _ _ d3, ?_, DTs.tf t15 _ _ d5, ?_, ?_, Nat.le_refl _⟩
      · rw [eq 1 (by decide), eq 2 (by decide), eq 3 (by decide), show loc2 loc rs.length x am an ad (4 * k) = loc (4 * k) from eq 0 (by decide)]
        exact o5
      · rw [eq 1 (by decide)]
        exact f5 _ _ (ap 1 3 (by decide) (by decide) (by decide)) (e34 _ _ (f3 _ _ (aw 1 (by decide)).1 (f2 _ _ (ap 1 0 (by decide) (by decide) (by decide)) h4)))
      · rw [eq 2 (by decide)]
        exact f5 _ _ (ap 2 3 (by decide) (by decide) (by decide)) (e34 _ _ (f3 _ _ (aw 2 (by decide)).1 (f2 _ _ (ap 2 0 (by decide) (by decide) (by decide)) h6)))
      · rw [eq 3 (by decide), k5, List.map_append]
        have ek : (r.kids.map fun j => V.ref (loc2 loc rs.length x am an ad (4 * j))) = r.kids.map fun j => V.ref (loc (4 * j)) := List.map_congr_left fun j hj => by
          rw [loc2_old (by have := s.ar.kid k r hk j hj; omega)]
        show _ = some (HO.lst ((r.kids.map fun j => V.ref (loc2 loc rs.length x am an ad (4 * j))) ++ [V.ref (loc2 loc rs.length x am an ad (4 * rs.length))]))
        rw [ek, loc2_0]
    have s5 := s4.step hk1 kp5 dr5 hW5 (fun j hj => by
      rw [List.length_append, hl]
      rcases List.mem_append.mp hj with q | q
      · have := s.ar.kid k r hk j q
        show j < rs.length + 1
        omega
      · rw [List.mem_singleton] at q
        show j < rs.length + 1
        omega)
    have er : (rs.set k { r with passed := 3 } ++ [newRc nm wd num.n]).set k { r with passed := 3, kids := r.kids ++ [rs.length] } = rs.set k { r with passed := 3, kids := r.kids ++ [rs.length] } ++ [newRc nm wd num.n] := by
      rw [List.set_append_left _ _ (by rw [hl]; exact hkl), List.set_set]
    rw [er] at s5
    have fra5 : FrA loc rs.length p H H5 := fun b o n1 n2 h => f5 b o (n2 _ (by omega)) (e34 b o (kp3.fra hkl b o n1 n2 h))
    refine ⟨.ref (loc (4 * k)), rfl, loc (4 * k), Dk.D, dx, _, _, rfl, o5, Dk.cl, Dk.nDrafts, lk_drafts, 1, rfl, loc (4 * k + 3), _, -1, .ref x, rfl, rfl, sq_of k5, atI_last _ _, ?_⟩
    show D.rt _ _
    rw [hD]
    have far : ∀ b, H3 b = none → H b = none := fun b hb => by
      cases z : H b with
      | none => rfl
      | some o =>
        by_cases zp : b = p
        · rw [zp, hp3] at hb
          cases hb
        · by_cases zl : ∃ i, i < 4 * rs.length ∧ b = loc i
          · obtain ⟨i, hi, rfl⟩ := zl
            have hk' : i / 4 < (rs.set k { r with passed := 3 }).length := by rw [hl]; omega
            have := (s3.ar.at_ (i / 4) _ (List.getElem?_eq_getElem hk')).slots (i % 4) (by omega)
            rw [show 4 * (i / 4) + i % 4 = i by omega] at this
            rcases this with ⟨_, _, y⟩ | ⟨_, y⟩ <;> (rw [hb] at y; cases y)
          · have := kp3.fra hkl b o zp (fun i hi y => zl ⟨i, hi, y⟩) z
            rw [hb] at this
            cases this
    exact ac (.ref x) H5 _ fra5 s5 (fun i hi => loc2_old hi) (fun i h1 h2 => by
      rw [List.length_append, List.length_set] at h2
      rcases loc2_new (loc := loc) (x := x) (am := am) (an := an) (ad := ad) h1 h2 with ⟨_, y⟩ | ⟨_, y⟩ | ⟨_, y⟩ | ⟨_, y⟩ <;> rw [y]
      · exact far _ nx
      · exact far _ na
      · exact far _ nb
      · exact far _ nc) (by show V.ref x = V.ref (loc2 loc rs.length x am an ad (4 * rs.length)); rw [loc2_0])
end
/-! ### read_inner -/
def spInner (Dk : Dc K mg) (C : Cn P w K mg base) (n : Nat) : Sp := fun vs H Q E => ∃ H0 loc rs k p num ws i, vs = [.ref (loc (4 * k)), .ref p] ∧ Ex H0 H ∧ Sw Dk C H0 H loc rs p num ws i ∧ AccI Dk C p num ws H0 H loc rs Q E (innerM n rs k num.n ws i)
/-- what read_inner calls -/
structure Ic (Dk : Dc K mg) (C : Cn P w K mg base) (T : Tl C) where
  aN : Addr
  fdN : FuncData
  GN : FnOk P w K mg base CX0 1 aN fdN ["self"] (spNext Dk)
  bN : Binds K fdN ["self"] []
  mN : Meth K Dk.D "next_words" aN
  bT : BMeth K C.W "take" T.aT
  aD : Addr
  fdD : FuncData
  GD : FnOk P w K mg base CX0 1 aD fdD ["self", "name", "sort", "number"] (spDInit Dk)
  bD : Binds K fdD ["self", "name", "sort", "number"] []
  mkD : Mk K Dk.D aD
theorem ok_inner {f : Addr} {fd : FuncData} (Dk : Dc K mg) (G : Gn K mg) (T : Tl C) (I : Ic Dk C T) (Gr : Gd K mg) (n : Nat) (F : Fun K "read_inner" "Draft.read_inner" sInner f fd) : FnOk P w K mg base (L2.CX P w) ((9 + 4 * n) + 1) f fd ["self", "words"] (spInner Dk C n) := by
  obtain ⟨aI, gI, hI⟩ := Dk.gI
  obtain ⟨_, gA⟩ := T.gA
  have GM := ok_moveN T Gr n
  have GDs := ok_deedsN T Gr n
  refine F.okX scInner (fun vs H Q E h => ?_) (fun cdv A outer s0 H vs Q E hr h => ?_)
  · obtain ⟨H0, loc, rs, k, p, num, ws, i, rfl, _⟩ := h
    rfl
  · obtain ⟨H0, loc, rs, k, p, num, ws, i, rfl, e0, s, ac⟩ := h
    have hr1 : Room 1 (A.deeper (envOfC "Draft.read_inner" (defScope sInner) s0.heap.objs.size f cdv)) := hr.mono (by omega)
    have hr2 : Room 2 (A.deeper (envOfC "Draft.read_inner" (defScope sInner) s0.heap.objs.size f cdv)) := hr.mono (by omega)
    have hr4 : Room 4 (A.deeper (envOfC "Draft.read_inner" (defScope sInner) s0.heap.objs.size f cdv)) := hr.mono (by omega)
    have hr8 : Room (8 + 4 * n) (A.deeper (envOfC "Draft.read_inner" (defScope sInner) s0.heap.objs.size f cdv)) := hr.mono (by omega)
    refine ⟨_, Evl.pss_cut (ps_set (i := 2) scInner.nd rfl (.inl rfl) (pe_meth0 (pv 0) Dk.cl I.mN I.GN hr1 I.bN .nil (passAny (E := E))))
      (pss_cons (ps_set (i := 3) scInner.nd rfl (.inl rfl) (pe_methS1 (pv 1) C.cl I.bT T.FT hr4 (passes_call (takes_of rfl rfl rfl rfl) fun _ _ _ _ h => h) (pv 2)))
      (pss_cons (ps_if (pt_cmpR op_notIn_seq (pv 3) (pe_glob (v := .ref aI) rfl gI rfl) (by rfl))
          (pss_cons (ps_fld (pv 0) (pe_callB call_len (by rfl) G.len PySem.boot_len (pa_cons (pe_glob (v := .ref aI) rfl gI rfl) pa_nil)) rfl)
          (pss_cons (ps_expr (pe_bm PySem.F.plainAttrs_list PySem.F.slot_list_append PySem.F.type_list_append mt_append (pe_fld (pv 0) rfl) (pa_cons (pe_make I.mkD I.GD hr2 rfl Dk.m I.bD .nil pass0 (pa_cons (pe_methR (pv 1) C.cl T.mT T.FT hr4 (passes_call (takes_of rfl rfl rfl rfl) fun _ _ _ _ h => h) (pa_cons (pe_glob (v := .str "a name") rfl gA ⟨_, rfl⟩) pa_nil)) (pa_cons (pv 3) (pa_cons (pe_fld (pv 1) rfl) pa_nil)))) pa_nil)))
          (pss_one (ps_ret (pe_ix ix_list (pe_fld (pv 0) rfl) (pe_un un_neg pe_int) (fun _ _ => rfl)))))) pss_nil)
      (pss_cons (ps_if (pt_cmpR op_eq (pv 3) pe_str (nomark _))
          (pss_cons (ps_fld (pv 0) pe_int rfl) (pss_one (ps_fld (pv 0) (pe_call GDs hr8 rfl Gr.deeds.m Gr.deeds.F.kp Gr.deeds.b .nil (passes_call (takes_of rfl rfl rfl rfl) fun _ _ _ _ h => h) (pa_cons (pv 1) pa_nil)) rfl)))
          (pss_one (ps_if (pt_cmpR op_eq (pv 3) pe_str (nomark _))
            (pss_cons (ps_fld (pv 0) pe_int rfl) (pss_one (ps_fld (pv 0) (pe_call GDs hr8 rfl Gr.deeds.m Gr.deeds.F.kp Gr.deeds.b .nil (passes_call (takes_of rfl rfl rfl rfl) fun _ _ _ _ h => h) (pa_cons (pv 1) pa_nil)) rfl)))
            (pss_cons (ps_fld (pv 0) pe_int rfl) (pss_cons (ps_expr (pe_bm PySem.F.plainAttrs_list PySem.F.slot_list_append PySem.F.type_list_append mt_append (pe_fld (pv 0) rfl) (pa_cons (pe_call GM hr rfl Gr.move.m Gr.move.F.kp Gr.move.b .nil (passes_call (takes_of rfl rfl rfl rfl) fun _ _ _ _ h => h) (pa_cons (pv 1) pa_nil)) pa_nil)))
              (pss_one (ps_expr (pe_bm PySem.F.plainAttrs_list PySem.F.slot_list_append PySem.F.type_list_append mt_append (pe_fld (pv 0) rfl) (pa_cons (pe_fld (pv 1) rfl) pa_nil)))))))))
      (pss_one (ps_ret pe_non))))), ?_⟩
    unfold innerM at ac
    cases hk : rs[k]? with
    | none =>
      rw [hk] at ac
      exact ac.elim
    | some r =>
      rw [hk] at ac
      dsimp only at ac
      obtain ⟨dx, vi, vo, mvs, h1, _, _, _, _, _, _, h8⟩ := s.ar.at_ k r hk
      refine Evl.q_cut (M := fun σ' H' => ∃ c, Ex H H' ∧ σ' = [some (.ref (loc (4 * k))), some (.ref p), some (.ref c), none] ∧ SqT K H' c ((nextWords r.kind r.passed).map V.str)) ?_ ?_
      · exact ⟨.ref (loc (4 * k)), rfl, loc (4 * k), dx, _, rfl, h1, rfl, loc (4 * k), dx, _, r.kind, r.passed, rfl, h1, rfl, rfl, h8, fun c H' e hc => ⟨c, e, rfl, hc⟩⟩
      rintro σ' H1 ⟨c, e1, rfl, hc⟩
      have hz : (nextWords r.kind r.passed).length ≤ 100000 := by
        have h1 : (INNER.drop r.passed).length ≤ 3 := by
          rw [List.length_drop]
          show 3 - r.passed ≤ 3
          omega
        have h2 : (if inV (.str r.kind) (FULL.map V.str) then SORTSs else []).length ≤ 6 := by
          split
          · decide
          · decide
        unfold nextWords
        rw [List.length_append]
        omega
      refine q_pyI (py_takeS (E := E) (g := T.aT) rfl rfl hc (s.w.ex e1) hz) ac (FrA.refl.fr (Fr.ex e1)) fun wd j ac v H2 f2 hW2 hv => ?_
      subst hv
      have f02 : Fr p H H2 := (Fr.ex e1).trans f2
      refine q_when (b := !inV (.str wd) (INNER.map V.str)) (et_test (ev_op (ev_var rfl) ev_c (rv_niT (hI _) rfl (flat_strs INNER)))) (fun hb H3 e3 => ?_) (fun hb H3 e3 => ?_)
      · simp only [hb, if_true] at ac
        exact br_new (D := { nx := _, rt := Q }) hI e0 s hk (f02.trans (Fr.ex e3)) (hW2.ex e3) ac rfl
      simp only [hb, Bool.false_eq_true, if_false] at ac
      have f03 := f02.trans (Fr.ex e3)
      have hW3 := hW2.ex e3
      refine q_if (b := decide (V.str wd = V.str "into")) (et_test (ev_op (ev_var rfl) ev_c (rv_eq rfl))) (fun hc H4 e4 => ?_) (fun hc H4 e4 => ?_)
      · simp only [hc, if_true] at ac
        exact br_into (D := { nx := fun _ H' => Q .non H', rt := Q }) (tz := tRet (tC .non)) s hk (f03.trans (Fr.ex e4)) (hW3.ex e4) ac (fun H5 q => q)
      simp only [hc, Bool.false_eq_true, if_false] at ac
      have f04 := f03.trans (Fr.ex e4)
      have hW4 := hW3.ex e4
      refine s_if (b := decide (V.str wd = V.str "out")) (et_test (ev_op (ev_var rfl) ev_c (rv_eq rfl))) (fun hd H5 e5 => ?_) (fun hd H5 e5 => ?_)
      · simp only [hd, if_true] at ac
        exact br_out (D := { nx := fun _ H' => Q .non H', rt := Q }) (tz := tRet (tC .non)) s hk (f04.trans (Fr.ex e5)) (hW4.ex e5) ac (fun H5 q => q)
      simp only [hd, Bool.false_eq_true, if_false] at ac
      exact br_go (D := { nx := fun _ H' => Q .non H', rt := Q }) (tz := tRet (tC .non)) s hk (f04.trans (Fr.ex e5)) (hW4.ex e5) ac (fun H5 q => q)
end
end Prs
set_option Elab.async false
set_option linter.all false
set_option maxRecDepth 100000
set_option maxHeartbeats 4000000
namespace Prs
open PySem PySem.Spec PyProof.Rows L2 Evl
abbrev sFin : Stmt := inClass (top 53) 3
def finAll (f : Nat → Option PyData) : List Nat → Option (List PyData)
  | [] => some []
  | k :: ks => match f k with
    | none => none
    | some d => match finAll f ks with
      | none => none
      | some ds => some (d :: ds)
def finM : Nat → List Rc → Nat → Option PyData
  | 0, _, _ => none
  | n + 1, rs, k => match rs[k]? with
    | none => none
    | some r => if r.kids.length < 40000 then (match finAll (finM n rs) r.kids with
      | none => none
      | some ds => some (.tuple [.str r.name, .str r.kind, .tuple ds, r.into, r.out, .tuple r.moves])) else none
section
variable {P : Program} {w : World} {K : PySem.W.Frag} {mg : Str → Option Value} {base : Heap}
def spFin (Dk : Dc K mg) (n : Nat) : Sp := fun vs H Q _ => ∃ H0 loc rs k d, vs = [.ref (loc (4 * k))] ∧ Ar Dk.D H0 H loc rs ∧ finM n rs k = some d ∧ ∀ v H', Ex H H' → DT H' d v → Q v H'
theorem scFin : FnScope ["self", "stands", "draft"] ["self"] (defScope sFin) := ⟨rfl, rfl, rfl, by decide +kernel, rfl, by decide +kernel, by decide +kernel⟩
theorem Ar.ex {D : Addr} {H0 H H' : Hp} {loc : Nat → Addr} {rs : List Rc} (h : Ar D H0 H loc rs) (e : Ex H H') : Ar D H0 H' loc rs := h.fr (fun i hi o ho => e _ _ ho) (TF.ex e)
theorem lf_name {r : Rc} {vi vo : V} {am an ad : Addr} : (dfl r vi vo am an ad).lookup ("name" : Str) = some (.str r.name) := rfl
theorem lf_kind {r : Rc} {vi vo : V} {am an ad : Addr} : (dfl r vi vo am an ad).lookup ("kind" : Str) = some (.str r.kind) := rfl
theorem lf_into {r : Rc} {vi vo : V} {am an ad : Addr} : (dfl r vi vo am an ad).lookup ("into" : Str) = some vi := rfl
theorem lf_out {r : Rc} {vi vo : V} {am an ad : Addr} : (dfl r vi vo am an ad).lookup ("out" : Str) = some vo := rfl
theorem lf_moves {r : Rc} {vi vo : V} {am an ad : Addr} : (dfl r vi vo am an ad).lookup ("moves" : Str) = some (.ref am) := rfl
theorem lf_drafts {r : Rc} {vi vo : V} {am an ad : Addr} : (dfl r vi vo am an ad).lookup ("drafts" : Str) = some (.ref ad) := rfl
/-- data made, whatever it stands at -/
def EvD (te : TE) (σ : L2.St) (H : Hp) (d : PyData) : Prop := ∀ H1, Ex H H1 → ∀ Q : VK, (∀ v H2, Ex H1 H2 → DT H2 d v → Q v H2) → te σ H1 Q
def EvDs (ta : TA) (σ : L2.St) (H : Hp) (ds : List PyData) : Prop := ∀ H1, Ex H H1 → ∀ Q : List V → Hp → Prop, (∀ vs H2, Ex H1 H2 → DTs H2 ds vs → Q vs H2) → ta σ H1 Q
section
variable {te : TE} {ta : TA} {σ : L2.St} {H : Hp} {d : PyData} {ds : List PyData} {v : V}
theorem evd_of (h : Ev te σ H v) (hd : DT H d v) : EvD te σ H d := fun H1 e Q q => h H1 e _ fun H2 e2 => q v H2 e2 (DT.tf (TF.ex (Ex.trans e e2)) _ _ hd)
theorem evds_nil : EvDs tNil σ H [] := fun H1 e Q q => q [] H1 (Ex.refl H1) dts_nil
theorem evds_cons (h : EvD te σ H d) (h2 : EvDs ta σ H ds) : EvDs (tCons te ta) σ H (d :: ds) := fun H1 e Q q => h H1 e _ fun v H2 e2 hv => h2 H2 (Ex.trans e e2) _ fun vs H3 e3 hvs => q (v :: vs) H3 (Ex.trans e2 e3) (dts_cons (DT.tf (TF.ex e3) _ _ hv) hvs)
theorem evd_tup (h : EvDs ta σ H ds) (hz : ds.length ≤ 100000) : EvD (tTup ta) σ H (.tuple ds) := fun H1 e Q q => h H1 e _ fun vs H2 e2 hvs => ⟨sz_of (by rw [DTs.len hvs]; exact hz), fun p hp => q (.ref p) _ (Ex.trans e2 (fr_new hp)) (dt_tup upd_same (DTs.tf (TF.ex (fr_new hp)) _ _ hvs))⟩
theorem evd_tupOf {l : Addr} {xs : List V} (h : Ev te σ H (.ref l)) (hl : H l = some (.lst xs)) (hd : DTs H ds xs) : EvD (tCB (fun xs H Q => ∃ p ys, xs = [.ref p] ∧ ((SqL K H p ys ∧ ∀ l, H l = none → Q (.ref l) (L2.upd H l (.tup ys))) ∨ (SqT K H p ys ∧ Q (.ref p) H))) (tCons te tNil)) σ H (.tuple ds) := fun H1 e Q q =>
  h H1 e _ fun H2 e2 => ⟨l, xs, rfl, .inl ⟨sq_of (e2 _ _ (e _ _ hl)), fun p hp => q (.ref p) _ (Ex.trans e2 (fr_new hp)) (dt_tup upd_same (DTs.tf (TF.ex (fr_new hp)) _ _ (DTs.tf (TF.ex (Ex.trans e e2)) _ _ hd)))⟩⟩
end
theorem TF.fr' {l : Addr} {xs ys : List V} {H : Hp} (h : H l = some (.lst xs)) : TF H (L2.upd H l (.lst ys)) := fun b zs hb => by
  have : b ≠ l := fun z => by
    rw [z, h] at hb
    cases hb
  rw [upd_ne this]
  exact hb
theorem ok_fin {f : Addr} {fd : FuncData} (Dk : Dc K mg) (F : Fun K "finished" "Draft.finished" sFin f fd) (bF : Binds K fd ["self"] []) (mF : Meth K Dk.D "finished" f) (gT : mg "tuple" = none) : ∀ n, FnOk P w K mg base CX0 n f fd ["self"] (spFin Dk n)
  | 0 => by
    refine ⟨fun vs H Q E h => ?_, fun A outer s H args us vs Q E _ _ _ _ h => ?_⟩
    · obtain ⟨H0, loc, rs, k, d, rfl, _⟩ := h
      rfl
    · obtain ⟨H0, loc, rs, k, d, rfl, _, h, _⟩ := h
      cases h
  | n + 1 => by
    have GF := ok_fin Dk F bF mF gT n
    refine F.ok scFin (fun vs H Q E h => ?_) (fun cdv A outer s0 H vs Q E hr h => ?_)
    · obtain ⟨H0, loc, rs, k, d, rfl, _⟩ := h
      rfl
    · obtain ⟨H0, loc, rs, k, d, rfl, ar, hf, q⟩ := h
      refine ⟨_, Evl.pss_cut (ps_set (i := 1) scFin.nd rfl (.inl rfl) (pe_callTy call_tuple_of rfl gT rfl (pa_cons (pe_lc (te := tMeth Dk.D "finished" (spFin Dk n) [] E0 (tVar 2) tNil) (own := [("draft", 2)]) (g := gName 2) (tt := tYes) rfl scFin.nd (pi_list (pe_fld (pv 0) rfl)) (blkOk_by (N := ["self", "stands", "draft"]) (sc := defScope sFin) (by decide +kernel))
          (fun _ _ _ _ _ => pg_name (i := 2) scFin.nd rfl (Or.inl rfl)) (fun _ _ _ _ _ => pts_nil) (fun _ _ _ _ _ => pe_meth0 (pv 2) Dk.cl mF GF hr bF .nil pass0)) pa_nil)))
        (pss_one (ps_ret (pe_tup (pa_cons (pe_fld (pv 0) rfl) (pa_cons (pe_fld (pv 0) rfl) (pa_cons (pv 1) (pa_cons (pe_fld (pv 0) rfl) (pa_cons (pe_fld (pv 0) rfl) (pa_cons (pe_callTy call_tuple_of rfl gT rfl (pa_cons (pe_fld (pv 0) rfl) pa_nil)) pa_nil))))))))), ?_⟩
      unfold finM at hf
      cases hk : rs[k]? with
      | none =>
        rw [hk] at hf
        cases hf
      | some r =>
        rw [hk] at hf
        dsimp only at hf
        split at hf
        case isFalse => cases hf
        case isTrue hz =>
        cases ha : finAll (finM n rs) r.kids with
        | none =>
          rw [ha] at hf
          cases hf
        | some ds =>
          rw [ha] at hf
          cases hf
          obtain ⟨dx, vi, vo, mvs, h1, d2, d3, h4, d5, h6, h7, h8⟩ := ar.at_ k r hk
          refine Evl.q_cut (M := fun σ' H' => ∃ v, Ex H H' ∧ σ' = [some (.ref (loc (4 * k))), some v, none] ∧ DT H' (.tuple ds) v) ?_ ?_
          · refine ⟨.ref (loc (4 * k)), rfl, loc (4 * k), Dk.D, dx, _, _, rfl, h1, Dk.cl, Dk.nDrafts, lf_drafts, loc (4 * k + 3), rfl, ⟨_, sq_of h7⟩, fun Dl hD => ?_⟩
            refine lc_list (K := K) (xs := r.kids.map fun j => V.ref (loc (4 * j))) (fun i H' => ∃ acc ds1 ds2, Ex H H' ∧ H' Dl = some (.lst acc) ∧ acc.length = i ∧ ds = ds1 ++ ds2 ∧ finAll (finM n rs) (r.kids.drop i) = some ds2 ∧ DTs H' ds1 acc)
              ⟨[], [], ds, Ex.new hD, upd_same, rfl, rfl, ha, dts_nil⟩ (fun i H' _ p => sq_of (by obtain ⟨_, _, _, e, _⟩ := p; exact e _ _ h7)) (fun i x H' hi p => ?_) (fun H' p => ?_)
            · obtain ⟨acc, ds1, ds2, e, hl, hn, hds, hfi, hd1⟩ := p
              rw [List.getElem?_map] at hi
              cases hki : r.kids[i]? with
              | none =>
                rw [hki] at hi
                cases hi
              | some kk =>
                rw [hki] at hi
                cases hi
                have hil := (List.getElem?_eq_some_iff.mp hki).1
                have hdrop : r.kids.drop i = kk :: r.kids.drop (i + 1) := by
                  rw [List.drop_eq_getElem_cons hil]
                  congr 1
                  exact (List.getElem?_eq_some_iff.mp hki).2
                rw [hdrop] at hfi
                unfold finAll at hfi
                cases hd : finM n rs kk with
                | none =>
                  rw [hd] at hfi
                  cases hfi
                | some d =>
                  rw [hd] at hfi
                  cases hr' : finAll (finM n rs) (r.kids.drop (i + 1)) with
                  | none =>
                    rw [hr'] at hfi
                    cases hfi
                  | some ds3 =>
                    rw [hr'] at hfi
                    cases hfi
                    refine ⟨rfl, ?_⟩
                    have hkk := ar.kid k r hk kk (List.mem_of_getElem? hki)
                    have arH := ar.ex e
                    obtain ⟨dx2, vi2, vo2, mv2, g1, _⟩ := arH.at_ kk rs[kk] (List.getElem?_eq_getElem hkk)
                    refine ⟨.ref (loc (4 * kk)), rfl, loc (4 * kk), dx2, _, rfl, g1, rfl, H0, loc, rs, kk, d, rfl, arH, hd, fun v H3 e3 hv => ?_⟩
                    have hl3 := e3 _ _ hl
                    refine ⟨acc, hl3, sz_lt (by omega), acc ++ [v], ds1 ++ [d], ds3, Ex.mut (Ex.trans e e3) hD, upd_same, by rw [List.length_append, hn]; rfl, by rw [hds, List.append_assoc]; rfl, rfl, ?_⟩
                    have t3 : TF H3 (L2.upd H3 Dl (.lst (acc ++ [v]))) := TF.fr' hl3
                    exact DTs.tf t3 _ _ (dts_snoc hv (DTs.tf (TF.ex e3) _ _ hd1))
            · obtain ⟨acc, ds1, ds2, e, hl, hn, hds, hfi, hd1⟩ := p
              rw [List.length_map, List.drop_length] at hfi
              cases hfi
              rw [List.append_nil] at hds
              subst hds
              refine ⟨Dl, acc, rfl, .inl ⟨sq_of hl, fun l hn => ⟨.ref l, Ex.trans e (fr_new hn), rfl, dt_tup upd_same (DTs.tf (TF.ex (fr_new hn)) _ _ hd1)⟩⟩⟩
          rintro σ' H1 ⟨v, e1, rfl, hv⟩
          have t1 := TF.ex e1
          have g1 := e1 _ _ h1
          have x : EvD (tTup (tCons (tFld K (tVar 0) "name") (tCons (tFld K (tVar 0) "kind") (tCons (tVar 1) (tCons (tFld K (tVar 0) "into") (tCons (tFld K (tVar 0) "out") (tCons (tCB (fun xs H Q => ∃ p ys, xs = [.ref p] ∧ ((SqL K H p ys ∧ ∀ l, H l = none → Q (.ref l) (L2.upd H l (.tup ys))) ∨ (SqT K H p ys ∧ Q (.ref p) H))) (tCons (tFld K (tVar 0) "moves") tNil)) tNil)))))))
              [some (.ref (loc (4 * k))), some v, none] H1 (.tuple [.str r.name, .str r.kind, .tuple ds, r.into, r.out, .tuple r.moves]) :=
            evd_tup (evds_cons (evd_of (ev_fld (ev_var rfl) g1 Dk.cl Dk.nName lf_name) dt_str) (evds_cons (evd_of (ev_fld (ev_var rfl) g1 Dk.cl Dk.nKind lf_kind) dt_str) (evds_cons (evd_of (ev_var rfl) hv) (evds_cons (evd_of (ev_fld (ev_var rfl) g1 Dk.cl Dk.nInto lf_into) (DT.tf t1 _ _ d2)) (evds_cons (evd_of (ev_fld (ev_var rfl) g1 Dk.cl Dk.nOut lf_out) (DT.tf t1 _ _ d3))
              (evds_cons (evd_tupOf (ev_fld (ev_var rfl) g1 Dk.cl Dk.nMoves lf_moves) (e1 _ _ h4) (DTs.tf t1 _ _ d5)) evds_nil)))))) (by show 6 ≤ 100000; decide)
          exact x H1 (Ex.refl H1) _ fun v H2 e2 hv => q v H2 (Ex.trans e1 e2) hv
end
end Prs
set_option Elab.async false
set_option linter.all false
set_option maxRecDepth 100000
set_option maxHeartbeats 4000000
namespace Prs
open PySem PySem.Spec PyProof.Rows L2 Evl
abbrev sSInit : Stmt := inClass (top 54) 0
abbrev sChart : Stmt := inClass (top 54) 3
abbrev sHead : Stmt := inClass (top 54) 2
/-- a text as far as it was read -/
structure Sh where
  facts : List PyData
  haps : List PyData
  root : Option Nat
  opened : List Nat
  rs : List Rc
def rootV (loc : Nat → Addr) : Option Nat → V
  | none => .non
  | some j => .ref (loc (4 * j))
def sfl (rv : V) (fl hl ol kl : Addr) : List (Str × V) := putF "known" (.ref kl) (putF "opened" (.ref ol) (putF "root" rv (putF "happenings" (.ref hl) (putF "facts" (.ref fl) []))))
structure Sc (K : PySem.W.Frag) (mg : Str → Option Value) where
  S : Addr
  cl : Cls K S
  nFacts : NoAttr K S "facts"
  nHaps : NoAttr K S "happenings"
  nRoot : NoAttr K S "root"
  nOpened : NoAttr K S "opened"
  nKnown : NoAttr K S "known"
  m : mg "Sheet" = some (.ref S)
  /-- so many kinds of words are known at most -/
  kb : Nat
def Sc.at {K : PySem.W.Frag} {mg : Str → Option Value} (Sk : Sc K mg) (k : Nat) : Sc K mg := { Sk with kb := k }
section
variable {P : Program} {w : World} {K : PySem.W.Frag} {mg : Str → Option Value} {base : Heap} {C : Cn P w K mg base}
/-! ### Sheet.__init__ -/
def spSInit (Sk : Sc K mg) : Sp := fun vs H Q _ => ∃ p dx, vs = [.ref p] ∧ H p = some (.ins Sk.S dx []) ∧
  ∀ H' fl hl ol kl kvs, Fr p H H' → H' p = some (.ins Sk.S dx (sfl .non fl hl ol kl)) → H' fl = some (.lst []) → H' hl = some (.lst []) → H' ol = some (.lst []) → H' kl = some (.dK kvs) → KnOk kvs → kvs.length ≤ 31 → H fl = none → H hl = none → H ol = none → H kl = none → fl ≠ p → hl ≠ p → ol ≠ p → hl ≠ fl → ol ≠ fl → ol ≠ hl → kl ≠ p → kl ≠ fl → kl ≠ hl → kl ≠ ol → Q .non H'
theorem scSInit : FnScope ["self"] ["self"] (defScope sSInit) := ⟨rfl, rfl, rfl, by decide +kernel, rfl, by decide +kernel, by decide +kernel⟩
theorem ok_sinit {f fK : Addr} {fd fdK : FuncData} (Sk : Sc K mg) (F : Fun K "__init__" "Sheet.__init__" sSInit f fd) (GK : FnOk P w K mg base CX0 1 fK fdK [] spKnown) (bK : Binds K fdK [] []) (kK : PySem.W.keepIn K (.ref fK) = true) (mK : mg "known_words" = some (.ref fK)) : FnOk P w K mg base CX0 2 f fd ["self"] (spSInit Sk) := by
  refine F.ok scSInit (fun vs H Q E h => ?_) (fun cdv A outer s0 H vs Q E hr h => ?_)
  · obtain ⟨p, dx, rfl, _⟩ := h
    rfl
  · obtain ⟨p, dx, rfl, hp, q⟩ := h
    refine ⟨_, pss_cons (ps_fld (pv 0) (pe_lst pa_nil) rfl) (pss_cons (ps_fld (pv 0) (pe_lst pa_nil) rfl) (pss_cons (ps_fld (pv 0) pe_non rfl) (pss_cons (ps_fld (pv 0) (pe_lst pa_nil) rfl) (pss_one (ps_fld (pv 0) (pe_call0 GK hr rfl mK kK bK .nil pass0) rfl))))), ?_⟩
    refine q_fldL rfl hp Sk.cl Sk.nFacts (by decide) fun fl H1 n1 e1 f1 t1 h1 => ?_
    refine q_fldL rfl h1 Sk.cl Sk.nHaps (by show 1 < 1000; decide) fun hl H2 n2 e2 f2 t2 h2 => ?_
    refine q_fldS rfl ev_c h2 Sk.cl Sk.nRoot (by show 2 < 1000; decide) fun H3 f3 h3 => ?_
    refine q_fldL rfl h3 Sk.cl Sk.nOpened (by show 3 < 1000; decide) fun ol H4 n4 e4 f4 t4 h4 => ?_
    refine ⟨rfl, fun kl kvs H5 nk e5 hk ok hn => ?_⟩
    have h5 := e5 _ _ h4
    have kp := ne_old h4 nk
    refine ⟨.ref p, rfl, p, Sk.S, dx, _, rfl, h5, Sk.cl, Sk.nKnown, by show 4 < 1000; decide, ?_⟩
    have f5 : Fr p H4 (L2.upd H5 p (.ins Sk.S dx (putF "known" (.ref kl) (putF "opened" (.ref ol) (putF "root" .non (putF "happenings" (.ref hl) (putF "facts" (.ref fl) []))))))) := Fr.upd (Fr.ex e5)
    have f45 := f4.trans f5
    have f35 := f3.trans f45
    have f25 := f2.trans f35
    refine q _ fl hl ol kl kvs (f1.trans f25) upd_same (f25 _ _ e1 t1) (f35 _ _ e2 t2) (f5 _ _ e4 t4) (by rw [upd_ne kp]; exact hk) ok hn n1 (none_back f1 e2 n2) (none_back (f1.trans (f2.trans f3)) e4 n4) (fr_none (f1.trans (f2.trans (f3.trans f4))) kp nk) e1 e2 e4 (ne_old t1 n2) (ne_old (f3 _ _ e1 (f2 _ _ e1 t1)) n4) (ne_old (f3 _ _ e2 t2) n4) kp (ne_old (f4 _ _ e1 (f3 _ _ e1 (f2 _ _ e1 t1))) nk) (ne_old (f4 _ _ e2 (f3 _ _ e2 t2)) nk) (ne_old t4 nk)
/-! ### the sheet's places: itself, facts, happenings, opened -/
def Sr (S : Addr) (H : Hp) (loc sl : Nat → Addr) (st : Sh) : Prop := ∃ dx fvs hvs, H (sl 0) = some (.ins S dx (sfl (rootV loc st.root) (sl 1) (sl 2) (sl 3) (sl 4))) ∧ H (sl 1) = some (.lst fvs) ∧ DTs H st.facts fvs ∧ H (sl 2) = some (.lst hvs) ∧ DTs H st.haps hvs ∧
  H (sl 3) = some (.lst (st.opened.map fun j => V.ref (loc (4 * j))))
structure Shs (Sk : Sc K mg) (Dk : Dc K mg) (H0 H : Hp) (loc sl : Nat → Addr) (st : Sh) : Prop where
  ar : Ar Dk.D H0 H loc st.rs
  at_ : Sr Sk.S H loc sl st
  inj : ∀ a b, a < 5 → b < 5 → sl a = sl b → a = b
  fresh : ∀ a, a < 5 → H0 (sl a) = none
  apart : ∀ a i, a < 5 → i < 4 * st.rs.length → sl a ≠ loc i
  op : ∀ j, j ∈ st.opened → j < st.rs.length
  rt : ∀ j, st.root = some j → j < st.rs.length
  kn : ∃ kvs, H (sl 4) = some (.dK kvs) ∧ KnOk kvs ∧ kvs.length ≤ Sk.kb
theorem Shs.cell {Sk : Sc K mg} {Dk : Dc K mg} {H0 H : Hp} {loc sl : Nat → Addr} {st : Sh} (s : Shs Sk Dk H0 H loc sl st) : ∀ a, a < 5 → ∃ o, H (sl a) = some o := fun a ha => by
  obtain ⟨dx, fvs, hvs, h0, h1, d1, h2, d2, h3⟩ := s.at_
  obtain ⟨kvs, h4, _⟩ := s.kn
  match a, ha with
  | 0, _ => exact ⟨_, h0⟩
  | 1, _ => exact ⟨_, h1⟩
  | 2, _ => exact ⟨_, h2⟩
  | 3, _ => exact ⟨_, h3⟩
  | 4, _ => exact ⟨_, h4⟩
/-! ### chart -/
def chartM (n : Nat) (st : Sh) : Option PyData := match st.root with
  | none => none
  | some k => match finM n st.rs k with
    | none => none
    | some d => some (.tuple [.tuple st.facts, .tuple st.haps, d])
def spChart (Sk : Sc K mg) (Dk : Dc K mg) (n : Nat) : Sp := fun vs H Q _ => ∃ kb H0 loc sl st d, vs = [.ref (sl 0)] ∧ Shs (Sk.at kb) Dk H0 H loc sl st ∧ chartM n st = some d ∧ ∀ v H', Ex H H' → DT H' d v → Q v H'
theorem scChart : FnScope ["self"] ["self"] (defScope sChart) := ⟨rfl, rfl, rfl, by decide +kernel, rfl, by decide +kernel, by decide +kernel⟩
theorem ls_known {rv : V} {fl hl ol kl : Addr} : (sfl rv fl hl ol kl).lookup ("known" : Str) = some (.ref kl) := rfl
theorem ls_facts {rv : V} {fl hl ol kl : Addr} : (sfl rv fl hl ol kl).lookup ("facts" : Str) = some (.ref fl) := rfl
theorem ls_haps {rv : V} {fl hl ol kl : Addr} : (sfl rv fl hl ol kl).lookup ("happenings" : Str) = some (.ref hl) := rfl
theorem ls_root {rv : V} {fl hl ol kl : Addr} : (sfl rv fl hl ol kl).lookup ("root" : Str) = some rv := rfl
theorem ls_opened {rv : V} {fl hl ol kl : Addr} : (sfl rv fl hl ol kl).lookup ("opened" : Str) = some (.ref ol) := rfl
theorem ok_chart {f fF : Addr} {fd fdF : FuncData} {n : Nat} (Sk : Sc K mg) (Dk : Dc K mg) (F : Fun K "chart" "Sheet.chart" sChart f fd) (GF : FnOk P w K mg base CX0 n fF fdF ["self"] (spFin Dk n)) (bF : Binds K fdF ["self"] []) (mF : Meth K Dk.D "finished" fF) (gT : mg "tuple" = none) : FnOk P w K mg base CX0 (n + 1) f fd ["self"] (spChart Sk Dk n) := by
  refine F.ok scChart (fun vs H Q E h => ?_) (fun cdv A outer s0 H vs Q E hr h => ?_)
  · obtain ⟨kb, H0, loc, sl, st, d, rfl, _⟩ := h
    rfl
  · obtain ⟨kb, H0, loc, sl, st, d, rfl, s, hc, q⟩ := h
    refine ⟨_, pss_one (ps_ret (pe_tup (pa_cons (pe_callTy call_tuple_of rfl gT rfl (pa_cons (pe_fld (pv 0) rfl) pa_nil)) (pa_cons (pe_callTy call_tuple_of rfl gT rfl (pa_cons (pe_fld (pv 0) rfl) pa_nil)) (pa_cons (pe_meth0 (pe_fld (pv 0) rfl) Dk.cl mF GF hr bF .nil pass0) pa_nil))))), ?_⟩
    unfold chartM at hc
    cases hr' : st.root with
    | none =>
      rw [hr'] at hc
      cases hc
    | some k =>
      rw [hr'] at hc
      dsimp only at hc
      cases hf : finM n st.rs k with
      | none =>
        rw [hf] at hc
        cases hc
      | some t =>
        rw [hf] at hc
        cases hc
        obtain ⟨dx, fvs, hvs, h0, h1, d1, h2, d2, h3⟩ := s.at_
        have hkl := s.rt k hr'
        obtain ⟨dx2, vi, vo, mvs, g1, _⟩ := s.ar.at_ k st.rs[k] (List.getElem?_eq_getElem hkl)
        have eF : EvD (tMeth Dk.D "finished" (spFin Dk n) [] E0 (tFld K (tVar 0) "root") tNil) [some (.ref (sl 0))] H t := fun H1 e Q q => by
          have x : Ev (tFld K (tVar 0) "root") [some (.ref (sl 0))] H (.ref (loc (4 * k))) := ev_fld (ev_var rfl) h0 Sk.cl Sk.nRoot (by rw [ls_root, hr']; rfl)
          exact x H1 e _ fun H2 e2 => ⟨loc (4 * k), dx2, _, rfl, e2 _ _ (e _ _ g1), rfl, H0, loc, st.rs, k, t, rfl, s.ar.ex (Ex.trans e e2), hf, fun v H3 e3 hv => q v H3 (Ex.trans e2 e3) hv⟩
        have x : EvD _ [some (.ref (sl 0))] H (.tuple [.tuple st.facts, .tuple st.haps, t]) :=
          evd_tup (evds_cons (evd_tupOf (K := K) (ev_fld (ev_var (i := 0) rfl) h0 Sk.cl Sk.nFacts ls_facts) h1 d1) (evds_cons (evd_tupOf (K := K) (ev_fld (ev_var (i := 0) rfl) h0 Sk.cl Sk.nHaps ls_haps) h2 d2) (evds_cons eF evds_nil))) (by show 3 ≤ 100000; decide)
        exact x H (Ex.refl H) _ q
end
end Prs
set_option Elab.async false
set_option linter.all false
set_option maxRecDepth 100000
set_option maxHeartbeats 4000000
namespace Prs
open PySem PySem.Spec PyProof.Rows L2 Evl
def headWords (st : Sh) : List Str := (if st.haps.isEmpty then (["fact", "on"] : List Str) else ["on"]) ++ SORTSs
def headM (st : Sh) (num : Int) (ws : List Wd) (i : Nat) : Res (Sh × Option Nat) := andThen (takeM ws (headWords st) i) fun wd j =>
  if decide (V.str wd = V.str "fact") then andThen (factM ws j) fun d j => (if st.facts.length < 50000 then told ({ st with facts := st.facts ++ [d] }, none) j else none)
  else if decide (V.str wd = V.str "on") then andThen (nameM ws j) fun d j => (if st.haps.length < 50000 then told ({ st with haps := st.haps ++ [d] }, none) j else none)
  else andThen (takeM ws ["a name"] j) fun nm j => told ({ st with rs := st.rs ++ [newRc nm wd num] }, some st.rs.length) j
section
variable {P : Program} {w : World} {K : PySem.W.Frag} {mg : Str → Option Value} {base : Heap} {C : Cn P w K mg base}
/-- the sheet beside the words of a row -/
structure ShW (Sk : Sc K mg) (Dk : Dc K mg) (C : Cn P w K mg base) (H0 H : Hp) (loc sl : Nat → Addr) (st : Sh) (p : Addr) (num : Nm) (ws : List Wd) (i : Nat) : Prop where
  sh : Shs Sk Dk H0 H loc sl st
  w : WAt C.W H p num ws i
  p0 : H0 p = none
  sepA : ∀ i, i < 4 * st.rs.length → loc i ≠ p ∧ num.off (loc i)
  sepS : ∀ a, a < 5 → sl a ≠ p ∧ num.off (sl a)
section
variable {Sk : Sc K mg} {Dk : Dc K mg} {H0 H H1 H2 H' : Hp} {loc sl : Nat → Addr} {st : Sh} {p : Addr} {num : Nm} {ws : List Wd} {i j k : Nat} {Q : VK} {E : XK} {D : Ends} {tz : TS} {v2 v3 : V}
theorem Sr.fr {S : Addr} (s : Sr S H loc sl st) (e : ∀ a, a < 4 → ∀ o, H (sl a) = some o → H' (sl a) = some o) (t : TF H H') : Sr S H' loc sl st := by
  obtain ⟨dx, fvs, hvs, h0, h1, d1, h2, d2, h3⟩ := s
  exact ⟨dx, fvs, hvs, e 0 (by decide) _ h0, e 1 (by decide) _ h1, DTs.tf t _ _ d1, e 2 (by decide) _ h2, DTs.tf t _ _ d2, e 3 (by decide) _ h3⟩
theorem ShW.fr (s : ShW Sk Dk C H0 H loc sl st p num ws i) (f : Fr p H H') (hw : WAt C.W H' p num ws j) : ShW Sk Dk C H0 H' loc sl st p num ws j := by
  have t := s.w.tf f
  exact ⟨⟨s.sh.ar.fr (fun i hi o ho => f _ _ (s.sepA i hi).1 ho) t, s.sh.at_.fr (fun a ha o ho => f _ _ (s.sepS a (by omega)).1 ho) t, s.sh.inj, s.sh.fresh, s.sh.apart, s.sh.op, s.sh.rt, s.sh.kn.imp fun kvs h => ⟨f _ _ (s.sepS 4 (by decide)).1 h.1, h.2⟩⟩, hw, s.p0, s.sepA, s.sepS⟩
theorem ex0_fr (e0 : Ex H0 H) (p0 : H0 p = none) (f : Fr p H H') : Ex H0 H' := fun b o h => f b o (fun z => by
  rw [z, p0] at h
  cases h) (e0 b o h)
theorem ex0_at (e0 : Ex H0 H) {a : Addr} (p0 : H0 a = none) (f : Fr a H H') : Ex H0 H' := ex0_fr e0 p0 f
def AccH (Sk : Sc K mg) (Dk : Dc K mg) (C : Cn P w K mg base) (p : Addr) (num : Nm) (ws : List Wd) (H0 : Hp) (sl : Nat → Addr) (Q : VK) (E : XK) : Res (Sh × Option Nat) → Prop
  | none => False
  | some (.inl c) => ∀ d H', Ex H0 H' → H' d = some (.xd [("column", .int (c : Nat)), ("row", .int num.n)]) → E (.ref C.N) (some d) H'
  | some (.inr ((st', ok), j)) => ∀ v H' loc', Ex H0 H' → ShW Sk Dk C H0 H' loc' sl st' p num ws j → v = rootV loc' ok → Q v H'
theorem AccH.bind {α δ : Type} {Q2 : δ → Hp → Prop} {R2 : Hp → δ → α → Prop} {x : Res α} {f : α → Nat → Res (Sh × Option Nat)} (h : AccH Sk Dk C p num ws H0 sl Q E (andThen x f)) (e0 : Ex H0 H1) (p0 : H0 p = none)
    (k : ∀ a j, AccH Sk Dk C p num ws H0 sl Q E (f a j) → ∀ v H2, Fr p H1 H2 → WAt C.W H2 p num ws j → R2 H2 v a → Q2 v H2) : Acc C p num ws H1 Q2 E R2 x := by
  match x, h with
  | some (.inl c), h => exact fun d H' g z => h d H' (ex0_fr e0 p0 g) z
  | some (.inr (a, j)), h => exact fun v H' g y z => k a j h v H' g y z
theorem q_pyH {α2 : Type} {σ : L2.St} {t : TE} {kk : Nat} {x : Res α2} {R2 : Hp → V → α2 → Prop} {f : α2 → Nat → Res (Sh × Option Nat)} (h : Py C p num ws E t σ H1 R2 x) (ac : AccH Sk Dk C p num ws H0 sl Q E (andThen x f)) (e0 : Ex H0 H1) (p0 : H0 p = none)
    (n : ∀ a j, AccH Sk Dk C p num ws H0 sl Q E (f a j) → ∀ v H2, Fr p H1 H2 → WAt C.W H2 p num ws j → R2 H2 v a → tz D (σ.set kk (some v)) H2) : tSeq (tAsg t (gName kk)) tz D σ H1 := h _ (AccH.bind ac e0 p0 n)
/-- a change of one of the sheet's own places -/
theorem ShW.own {st' : Sh} {a : Nat} (s : ShW Sk Dk C H0 H loc sl st p num ws i) (ha : a < 4) (f : Fr (sl a) H H') (nt : ∀ xs, H (sl a) ≠ some (.tup xs)) (d : Sr Sk.S H' loc sl st') (hrs : st'.rs = st.rs) (hop : ∀ j, j ∈ st'.opened → j < st.rs.length) (hrt : ∀ j, st'.root = some j → j < st.rs.length) : ShW Sk Dk C H0 H' loc sl st' p num ws i := by
  have t : TF H H' := fun b xs hb => f b _ (fun z => nt xs (by rw [← z]; exact hb)) hb
  have hl : st'.rs.length = st.rs.length := by rw [hrs]
  refine ⟨⟨by rw [hrs]; exact s.sh.ar.fr (fun i hi o ho => f _ _ (Ne.symm (s.sh.apart a i (by omega) hi)) ho) t, d, s.sh.inj, s.sh.fresh, by rw [hl]; exact s.sh.apart, by rw [hl]; exact hop, by rw [hl]; exact hrt, s.sh.kn.imp fun kvs h => ⟨f _ _ (fun z => by have := s.sh.inj 4 a (by decide) (by omega) z; omega) h.1, h.2⟩⟩, s.w.other f (s.sepS a (by omega)).1 (s.sepS a (by omega)).2 nt, s.p0, by rw [hl]; exact s.sepA, s.sepS⟩
end
theorem py_nameV {p : Addr} {num : Nm} {ws : List Wd} {E : XK} {σ : L2.St} {H : Hp} {kk : Nat} {ta : TA} {i : Nat} (h0 : σ[kk]? = some (some (.ref p))) (h : EvA ta σ H [.str "a name"]) (hW : WAt C.W H p num ws i) : Py C p num ws E (tMethR C.W "take" (spTake C) E (tVar kk) ta) σ H RD (nameM ws i) := py_map (py_takeV (ks := ["a name"]) h0 h hW) fun H v a r => by
  cases r
  exact dt_str
/-! ### read_head -/
def spHead (Sk : Sc K mg) (Dk : Dc K mg) (C : Cn P w K mg base) : Sp := fun vs H Q E => ∃ H0 loc sl st p num ws i, vs = [.ref (sl 0), .ref p] ∧ Ex H0 H ∧ ShW Sk Dk C H0 H loc sl st p num ws i ∧ AccH Sk Dk C p num ws H0 sl Q E (headM st num.n ws i)
theorem scHead : FnScope ["self", "words", "allowed", "word"] ["self", "words"] (defScope sHead) := ⟨rfl, rfl, rfl, by decide +kernel, rfl, by decide +kernel, by decide +kernel⟩
theorem ok_head {f : Addr} {fd : FuncData} (Sk : Sc K mg) (Dk : Dc K mg) (T : Tl C) (I : Ic Dk C T) (DF : Df K mg "read_fact" sFact ["words"]) (GF : FnOk P w K mg base (L2.CX P w) 6 DF.f DF.fd ["words"] (spG C RD factM)) (F : Fun K "read_head" "Sheet.read_head" sHead f fd) : FnOk P w K mg base (L2.CX P w) 7 f fd ["self", "words"] (spHead Sk Dk C) := by
  obtain ⟨aS, gS, hS⟩ := Dk.gS
  obtain ⟨_, gA⟩ := T.gA
  refine F.okX scHead (fun vs H Q E h => ?_) (fun cdv A outer s0 H vs Q E hr h => ?_)
  · obtain ⟨H0, loc, sl, st, p, num, ws, i, rfl, _⟩ := h
    rfl
  · obtain ⟨H0, loc, sl, st, p, num, ws, i, rfl, e0, s, ac⟩ := h
    have hr4 : Room 4 (A.deeper (envOfC "Sheet.read_head" (defScope sHead) s0.heap.objs.size f cdv)) := hr.mono (by decide)
    have hr2 : Room 2 (A.deeper (envOfC "Sheet.read_head" (defScope sHead) s0.heap.objs.size f cdv)) := hr.mono (by decide)
    refine ⟨_, Evl.pss_cut (ps_set (i := 2) scHead.nd rfl (.inl rfl) (pe_ifExp (pt_truth (pe_fld (pv 0) rfl) (fun _ => rfl)) (pe_tup (pa_cons pe_str (StX.pa_star (pe_glob (v := .ref aS) rfl gS rfl) pa_nil))) (pe_tup (pa_cons pe_str (pa_cons pe_str (StX.pa_star (pe_glob (v := .ref aS) rfl gS rfl) pa_nil))))))
      (pss_cons (ps_set (i := 3) scHead.nd rfl (.inl rfl) (pe_methS1 (pv 1) C.cl I.bT T.FT hr4 (passes_call (takes_of rfl rfl rfl rfl) fun _ _ _ _ h => h) (pv 2)))
      (pss_cons (ps_if (pt_cmpR op_eq (pv 3) pe_str (nomark _))
          (pss_one (ps_expr (pe_bm PySem.F.plainAttrs_list PySem.F.slot_list_append PySem.F.type_list_append mt_append (pe_fld (pv 0) rfl) (pa_cons (pe_call GF hr rfl DF.m DF.F.kp DF.b .nil (passes_call (takes_of rfl rfl rfl rfl) fun _ _ _ _ h => h) (pa_cons (pv 1) pa_nil)) pa_nil))))
          (pss_one (ps_if (pt_cmpR op_eq (pv 3) pe_str (nomark _))
            (pss_one (ps_expr (pe_bm PySem.F.plainAttrs_list PySem.F.slot_list_append PySem.F.type_list_append mt_append (pe_fld (pv 0) rfl) (pa_cons (pe_methR (pv 1) C.cl T.mT T.FT hr4 (passes_call (takes_of rfl rfl rfl rfl) fun _ _ _ _ h => h) (pa_cons (pe_glob (v := .str "a name") rfl gA ⟨_, rfl⟩) pa_nil)) pa_nil))))
            (pss_one (ps_ret (pe_make I.mkD I.GD hr2 rfl Dk.m I.bD .nil pass0 (pa_cons (pe_methR (pv 1) C.cl T.mT T.FT hr4 (passes_call (takes_of rfl rfl rfl rfl) fun _ _ _ _ h => h) (pa_cons (pe_glob (v := .str "a name") rfl gA ⟨_, rfl⟩) pa_nil)) (pa_cons (pv 3) (pa_cons (pe_fld (pv 1) rfl) pa_nil)))))))))
      (pss_one (ps_ret pe_non)))), ?_⟩
    unfold headM at ac
    obtain ⟨dx, fvs, hvs, h0, h1, d1, h2, d2, h3⟩ := s.sh.at_
    refine Evl.q_cut (M := fun σ' H' => ∃ c, Ex H H' ∧ σ' = [some (.ref (sl 0)), some (.ref p), some (.ref c), none] ∧ H' c = some (.tup ((headWords st).map V.str))) ?_ ?_
    · have eT : Ev (tFld K (tVar 0) "happenings") [some (.ref (sl 0)), some (.ref p), none, none] H (.ref (sl 2)) := ev_fld (ev_var rfl) h0 Sk.cl Sk.nHaps ls_haps
      unfold tAsg tIf
      refine eT H (Ex.refl H) _ fun H1 e1 => ⟨!hvs.isEmpty, .inl ⟨_, sq_of (e1 _ _ h2), rfl⟩, ?_⟩
      have eh : hvs.isEmpty = st.haps.isEmpty := by
        have := DTs.len d2
        cases hvs <;> cases hh : st.haps <;> simp_all
      rw [eh]
      cases hb : st.haps.isEmpty with
      | true =>
        refine ⟨aS, _, rfl, .inl (hS _), by show 8 ≤ sizeLine; exact sz_of (by decide), fun c hc => ⟨c, Ex.trans e1 (fr_new hc), rfl, ?_⟩⟩
        rw [upd_same]
        unfold headWords
        rw [hb]
        rfl
      | false =>
        refine ⟨aS, _, rfl, .inl (hS _), by show 7 ≤ sizeLine; exact sz_of (by decide), fun c hc => ⟨c, Ex.trans e1 (fr_new hc), rfl, ?_⟩⟩
        rw [upd_same]
        unfold headWords
        rw [hb]
        rfl
    rintro σ' H1 ⟨c, e1, rfl, hc⟩
    have hz : (headWords st).length ≤ 100000 := by
      unfold headWords
      split
      · decide
      · decide
    have s1 := s.fr (Fr.ex e1) (s.w.ex e1)
    have e01 := Ex.trans e0 e1
    refine q_pyH (py_takeS (E := E) (g := T.aT) rfl rfl (st_of hc) s1.w hz) ac e01 s.p0 fun wd j ac v H2 f2 hW2 hv => ?_
    subst hv
    have s2 := s1.fr f2 hW2
    have e02 := ex0_fr e01 s.p0 f2
    refine q_if (b := decide (V.str wd = V.str "fact")) (et_test (ev_op (ev_var rfl) ev_c (rv_eq rfl))) (fun hb H3 e3 => ?_) (fun hb H3 e3 => ?_)
    · simp only [hb, if_true] at ac
      have s3 := s2.fr (Fr.ex e3) (hW2.ex e3)
      have e03 := Ex.trans e02 e3
      obtain ⟨dx, fvs, hvs, h0, h1, d1, h2, d2, h3⟩ := s3.sh.at_
      refine ⟨.ref (sl 0), rfl, sl 0, Sk.S, dx, _, _, rfl, h0, Sk.cl, Sk.nFacts, ls_facts, Or.inl ⟨rfl, _, sq_of h1⟩, ?_⟩
      refine (py_callV (m := factM) (R := RD) (E := E) rfl s3.w) _ (AccH.bind ac e03 s.p0 fun d j ac v H4 f4 hW4 hd => ?_)
      have s4 := s3.fr f4 hW4
      have e04 := ex0_fr e03 s.p0 f4
      split at ac
      case isFalse => exact ac.elim
      case isTrue hz =>
        obtain ⟨dx, fvs', hvs, h0, h1', d1, h2, d2, h3⟩ := s4.sh.at_
        have h1'' := h1'
        rw [f4 _ _ (s.sepS 1 (by decide)).1 h1] at h1'
        cases h1'
        refine ⟨sl 1, _, v, rfl, rfl, h1'', sz_lt (by rw [DTs.len d1]; omega), ?_⟩
        have f5 : Fr (sl 1) H4 (L2.upd H4 (sl 1) (.lst (fvs ++ [v]))) := fr_upd
        have t5 : TF H4 (L2.upd H4 (sl 1) (.lst (fvs ++ [v]))) := TF.fr' h1''
        have ne : ∀ a, a < 5 → a ≠ 1 → sl a ≠ sl 1 := fun a ha n z => n (s.sh.inj a 1 ha (by decide) z)
        refine ac .non _ loc (ex0_at e04 (s.sh.fresh 1 (by decide)) f5) (s4.own (a := 1) (by decide) f5 (no_tup_lst h1'') ⟨dx, fvs ++ [v], hvs, f5 _ _ (ne 0 (by decide) (by decide)) h0, upd_same, dts_snoc (DT.tf t5 _ _ hd) (DTs.tf t5 _ _ d1), f5 _ _ (ne 2 (by decide) (by decide)) h2, DTs.tf t5 _ _ d2, f5 _ _ (ne 3 (by decide) (by decide)) h3⟩ rfl s4.sh.op s4.sh.rt) rfl
    simp only [hb, Bool.false_eq_true, if_false] at ac
    have s3 := s2.fr (Fr.ex e3) (hW2.ex e3)
    have e03 := Ex.trans e02 e3
    refine s_if (b := decide (V.str wd = V.str "on")) (et_test (ev_op (ev_var rfl) ev_c (rv_eq rfl))) (fun hb H4 e4 => ?_) (fun hb H4 e4 => ?_)
    · simp only [hb, if_true] at ac
      have s4 := s3.fr (Fr.ex e4) (s3.w.ex e4)
      have e04 := Ex.trans e03 e4
      obtain ⟨dx, fvs, hvs, h0, h1, d1, h2, d2, h3⟩ := s4.sh.at_
      refine ⟨.ref (sl 0), rfl, sl 0, Sk.S, dx, _, _, rfl, h0, Sk.cl, Sk.nHaps, ls_haps, Or.inl ⟨rfl, _, sq_of h2⟩, ?_⟩
      refine (py_nameV (E := E) rfl (ea_cons ev_c ea_nil) s4.w) _ (AccH.bind ac e04 s.p0 fun d j ac v H5 f5 hW5 hd => ?_)
      have s5 := s4.fr f5 hW5
      have e05 := ex0_fr e04 s.p0 f5
      split at ac
      case isFalse => exact ac.elim
      case isTrue hz =>
        obtain ⟨dx, fvs, hvs', h0, h1, d1, h2', d2, h3⟩ := s5.sh.at_
        have h2'' := h2'
        rw [f5 _ _ (s.sepS 2 (by decide)).1 h2] at h2'
        cases h2'
        refine ⟨sl 2, _, v, rfl, rfl, h2'', sz_lt (by rw [DTs.len d2]; omega), ?_⟩
        have f6 : Fr (sl 2) H5 (L2.upd H5 (sl 2) (.lst (hvs ++ [v]))) := fr_upd
        have t6 : TF H5 (L2.upd H5 (sl 2) (.lst (hvs ++ [v]))) := TF.fr' h2''
        have ne : ∀ a, a < 5 → a ≠ 2 → sl a ≠ sl 2 := fun a ha n z => n (s.sh.inj a 2 ha (by decide) z)
        refine ac .non _ loc (ex0_at e05 (s.sh.fresh 2 (by decide)) f6) (s5.own (a := 2) (by decide) f6 (no_tup_lst h2'') ⟨dx, fvs, hvs ++ [v], f6 _ _ (ne 0 (by decide) (by decide)) h0, f6 _ _ (ne 1 (by decide) (by decide)) h1, DTs.tf t6 _ _ d1, upd_same, dts_snoc (DT.tf t6 _ _ hd) (DTs.tf t6 _ _ d2), f6 _ _ (ne 3 (by decide) (by decide)) h3⟩ rfl s5.sh.op s5.sh.rt) rfl
    · simp only [hb, Bool.false_eq_true, if_false] at ac
      have s4 := s3.fr (Fr.ex e4) (s3.w.ex e4)
      have e04 := Ex.trans e03 e4
      refine (py_takeV (ks := ["a name"]) (E := E) rfl (ea_cons ev_c ea_nil) s4.w) _ (AccH.bind ac e04 s.p0 fun nm j ac v H5 f5 hW5 hd => ?_)
      subst hd
      have s5 := s4.fr f5 hW5
      have e05 := ex0_fr e04 s.p0 f5
      obtain ⟨dw, ts, hp5, hl5, hts5⟩ := id hW5
      refine ⟨.str wd, rfl, .ref p, rfl, p, C.W, dw, _, _, rfl, hp5, C.cl, C.nn, wf_number, fun x dx2 nx nd ned => ?_⟩
      refine ⟨x, nm, wd, num.n, dx2, rfl, upd_same, fun H6 vi2 vo2 am an ad f6 h6' hi ho ham han had nam nan nad d1' d2' d3' d4' d5' d6' => ?_⟩
      have e56 : Ex H5 H6 := fun b o hb => f6 b o (ne_of_none hb nx) (by
        rw [upd_ne (ne_of_none hb nx), upd_ne (ne_of_none hb nd)]
        exact hb)
      have nn : ∀ b, b ≠ x → (L2.upd (L2.upd H5 dx2 (.own x)) x (.ins Dk.D dx2 [])) b = none → H5 b = none := fun b hb h => by
        rw [upd_ne hb] at h
        have hbd : b ≠ dx2 := fun z => by
          rw [z, upd_same] at h
          cases h
        rw [upd_ne hbd] at h
        exact h
      have na := nn am d1' nam
      have nb := nn an d2' nan
      have nc := nn ad d3' nad
      have ar6 := s5.sh.ar.push e05 e56 nx na nb nc d1' d2' d3' d4' d5' d6' h6' hi ho ham han had
      have s6 := s5.fr (Fr.ex e56) (hW5.ex e56)
      have hl : (st.rs ++ [newRc nm wd num.n]).length = st.rs.length + 1 := by simp
      obtain ⟨dx, fvs, hvs, h0, h1, d1, h2, d2, h3⟩ := s5.sh.at_
      have cell := s5.sh.cell
      have far : ∀ a, a < 5 → ∀ b, H5 b = none → sl a ≠ b := fun a ha b hb z => by
        obtain ⟨o, ho⟩ := cell a ha
        rw [z, hb] at ho
        cases ho
      have er : rootV (loc2 loc st.rs.length x am an ad) st.root = rootV loc st.root := by
        cases hr' : st.root with
        | none => rfl
        | some k =>
          show V.ref _ = V.ref _
          rw [loc2_old (by have := s.sh.rt k hr'; omega)]
      have eo : (st.opened.map fun j => V.ref (loc2 loc st.rs.length x am an ad (4 * j))) = st.opened.map fun j => V.ref (loc (4 * j)) := List.map_congr_left fun j hj => by
        rw [loc2_old (by have := s.sh.op j hj; omega)]
      have t := TF.ex e56
      refine ⟨rfl, ?_⟩
      refine ac (.ref x) H6 (loc2 loc st.rs.length x am an ad) (Ex.trans e05 e56) ⟨⟨ar6, ⟨dx, fvs, hvs, ?_, e56 _ _ h1, DTs.tf t _ _ d1, e56 _ _ h2, DTs.tf t _ _ d2, ?_⟩, s.sh.inj, s.sh.fresh, ?_, ?_, ?_, s5.sh.kn.imp fun kvs h => ⟨e56 _ _ h.1, h.2⟩⟩, hW5.ex e56, s.p0, ?_, s.sepS⟩ ?_
      · show H6 (sl 0) = some (.ins Sk.S dx (sfl (rootV (loc2 loc st.rs.length x am an ad) st.root) (sl 1) (sl 2) (sl 3) (sl 4)))
        rw [er]
        exact e56 _ _ h0
      · show H6 (sl 3) = some (.lst (st.opened.map fun j => V.ref (loc2 loc st.rs.length x am an ad (4 * j))))
        rw [eo]
        exact e56 _ _ h3
      · intro a i ha hi
        have hi : i < 4 * (st.rs.length + 1) := by rw [← hl]; exact hi
        by_cases z : i < 4 * st.rs.length
        · rw [loc2_old z]
          exact s.sh.apart a i ha z
        · rcases loc2_new (loc := loc) (x := x) (am := am) (an := an) (ad := ad) z hi with ⟨_, y⟩ | ⟨_, y⟩ | ⟨_, y⟩ | ⟨_, y⟩ <;> rw [y]
          · exact far a ha _ nx
          · exact far a ha _ na
          · exact far a ha _ nb
          · exact far a ha _ nc
      · intro j hj
        show j < (st.rs ++ [newRc nm wd num.n]).length
        rw [hl]
        have := s.sh.op j hj
        omega
      · intro j hj
        show j < (st.rs ++ [newRc nm wd num.n]).length
        rw [hl]
        have := s.sh.rt j hj
        omega
      · intro i hi
        have hi : i < 4 * (st.rs.length + 1) := by rw [← hl]; exact hi
        by_cases z : i < 4 * st.rs.length
        · rw [loc2_old z]
          exact s.sepA i z
        · have fx := hW5.fresh nx
          have fa := hW5.fresh na
          have fb := hW5.fresh nb
          have fc := hW5.fresh nc
          rcases loc2_new (loc := loc) (x := x) (am := am) (an := an) (ad := ad) z hi with ⟨_, y⟩ | ⟨_, y⟩ | ⟨_, y⟩ | ⟨_, y⟩ <;> rw [y] <;> assumption
      · show V.ref x = V.ref (loc2 loc st.rs.length x am an ad (4 * st.rs.length))
        rw [loc2_0]
end
end Prs
set_option Elab.async false
set_option linter.all false
set_option maxRecDepth 100000
set_option maxHeartbeats 4000000
namespace Prs
open PySem PySem.Spec PyProof.Rows L2 Evl
abbrev sRow : Stmt := inClass (top 54) 1
abbrev ResS := Option (Sum Nat Sh)
def finRow (st : Sh) : Option Nat → Option Sh
  | none => some st
  | some m => match st.rs[m]? with
    | none => none
    | some r => if !inV (.str r.kind) (MARKER.map V.str) then (if st.opened.length < 50000 then some { st with opened := st.opened ++ [m] } else none) else some st
def endRow (ws : List Wd) (st : Sh) (ok : Option Nat) (j : Nat) : ResS := match takeM ws ["the row's end"] j with
  | none => none
  | some (.inl c) => some (.inl c)
  | some (.inr _) => match finRow st ok with
    | none => none
    | some st => some (.inr st)
def okIn (n : Nat) : Option Nat → Bool
  | none => true
  | some m => decide (m < n)
def rowHead (ws : List Wd) : Res (Sh × Option Nat) → ResS
  | none => none
  | some (.inl c) => some (.inl c)
  | some (.inr ((st, ok), j)) => if okIn st.rs.length ok then endRow ws { st with root := ok } ok j else none
def rowInner (st : Sh) (ws : List Wd) : Res (List Rc × Option Nat) → ResS
  | none => none
  | some (.inl c) => some (.inl c)
  | some (.inr ((rs', ok), j)) => if st.rs.length ≤ rs'.length ∧ okIn rs'.length ok = true then endRow ws { st with rs := rs' } ok j else none
def rowM0 (n : Nat) (st : Sh) (num : Int) (row : Str) : ResS :=
  match st.root with
  | none => if !decide (V.int (blanksOf row) = V.int 0) then some (.inl 1) else rowHead (wordsOf row) (headM st num (wordsOf row) 0)
  | some _ => if !decide (V.int (blanksOf row % 2) = V.int 0) || !(decide (1 ≤ blanksOf row / 2) && decide (blanksOf row / 2 ≤ (st.opened.length : Nat))) then some (.inl 1)
    else match (st.opened.take (blanksOf row / 2).toNat).getLast? with
      | none => none
      | some k => rowInner { st with opened := st.opened.take (blanksOf row / 2).toNat } (wordsOf row) (innerM n st.rs k num (wordsOf row) 0)
def rowM (n : Nat) (st : Sh) (num : Int) (row : Str) : ResS := if quickOk row = true then rowM0 n st num row else none
section
variable {P : Program} {w : World} {K : PySem.W.Frag} {mg : Str → Option Value} {base : Heap} {C : Cn P w K mg base}
section
variable {Sk : Sc K mg} {Dk : Dc K mg} {H0 H H1 H2 H' : Hp} {loc sl : Nat → Addr} {st : Sh} {p : Addr} {num : Nm} {ws : List Wd} {i j k : Nat} {Q : VK} {E : XK} {D : Ends} {tz : TS} {v2 v3 : V}
def AccR (Sk : Sc K mg) (Dk : Dc K mg) (C : Cn P w K mg base) (num : Int) (H0 : Hp) (sl : Nat → Addr) (Q : VK) (E : XK) : ResS → Prop
  | none => False
  | some (.inl c) => ∀ d H', Ex H0 H' → H' d = some (.xd [("column", .int (c : Nat)), ("row", .int num)]) → E (.ref C.N) (some d) H'
  | some (.inr st') => ∀ H' loc', Ex H0 H' → Shs Sk Dk H0 H' loc' sl st' → Q .non H'
theorem Shs.ex (s : Shs Sk Dk H0 H loc sl st) (e : Ex H H') : Shs Sk Dk H0 H' loc sl st := ⟨s.ar.ex e, s.at_.fr (fun a _ o ho => e _ _ ho) (TF.ex e), s.inj, s.fresh, s.apart, s.op, s.rt, s.kn.imp fun kvs h => ⟨e _ _ h.1, h.2⟩⟩
/-- the row's words made -/
theorem shw_new {num : Nm} {m : Nat} {kvs : List (Key × V)} (s : Shs Sk Dk H0 H loc sl st) (e0 : Ex H0 H) (np : H p = none) (nk : H num.kl = none) (nt : H num.tl = none) (f : Fr (sl 4) H H') (hk : H' (sl 4) = some (.dK kvs)) (ok : KnOk kvs) (hn : kvs.length ≤ m) (hW : WAt C.W H' p num ws 0) : ShW (Sk.at m) Dk C H0 H' loc sl st p num ws 0 := by
  obtain ⟨kv0, hk0, _⟩ := s.kn
  have far : ∀ a, a < 5 → ∀ b, H b = none → sl a ≠ b := fun a ha b hb z => by
    obtain ⟨o, ho⟩ := s.cell a ha
    rw [z, hb] at ho
    cases ho
  have old : ∀ i, i < 4 * st.rs.length → ∀ b, H b = none → loc i ≠ b := fun i hi b hb z => by
    have hk : i / 4 < st.rs.length := by omega
    have := (s.ar.at_ (i / 4) _ (List.getElem?_eq_getElem hk)).slots (i % 4) (by omega)
    rw [show 4 * (i / 4) + i % 4 = i by omega, z] at this
    rcases this with ⟨_, _, y⟩ | ⟨_, y⟩ <;> (rw [hb] at y; cases y)
  have t : TF H H' := fun b xs hb => f b _ (fun z => by
    rw [z, hk0] at hb
    cases hb) hb
  have ne4 : ∀ a, a < 4 → sl a ≠ sl 4 := fun a ha z => by
    have := s.inj a 4 (by omega) (by decide) z
    omega
  exact ⟨⟨s.ar.fr (fun i hi o ho => f _ _ (Ne.symm (s.apart 4 i (by decide) hi)) ho) t, s.at_.fr (fun a ha o ho => f _ _ (ne4 a ha) ho) t, s.inj, s.fresh, s.apart, s.op, s.rt, ⟨kvs, hk, ok, hn⟩⟩, hW, Ex.none e0 np, fun i hi => ⟨old i hi _ np, old i hi _ nk, old i hi _ nt⟩, fun a ha => ⟨far a ha _ np, far a ha _ nk, far a ha _ nt⟩⟩
theorem rv_notN {x : V} {H : Hp} : RV (fun x y H Q => y = .non ∧ Q (.bl (!decide (x = .non))) H) x .non H (.bl (!decide (x = .non))) := fun H1 _ _ q => ⟨rfl, q H1 (Ex.refl H1)⟩
/-- the words' end, and whether the draft is opened -/
def tEnd (C : Cn P w K mg base) (E : XK) (aM : Addr) : TS := tSeq (tDrop (tMethR C.W "take" (spTake C) E (tVar 3) (tCons (tC (.str "the row's end")) tNil)))
  (tIfS (tAnd (tTest (tOp (fun x y H Q => y = .non ∧ Q (.bl (!decide (x = .non))) H) (tVar 5) (tC .non))) (tTest (tOp (rIn K true) (tFld K (tVar 5) "kind") (tC (.ref aM))))) (tDrop (tBM K "list" rAppend (tFld K (tVar 0) "opened") (tCons (tVar 5) tNil))) tNext)
theorem end_row {aM : Addr} {ok : Option Nat} {x1 x2 x4 : V} {x6 : Option V} (hM : ∀ H, SqT K H aM (MARKER.map V.str)) (s : ShW Sk Dk C H0 H loc sl st p num ws j) (e0 : Ex H0 H) (ac : AccR Sk Dk C num.n H0 sl Q E (endRow ws st ok j)) (hq : ∀ σ' H', Q .non H' → D.nx σ' H') :
    tEnd C E aM D [some (.ref (sl 0)), some x1, some x2, some (.ref p), some x4, some (rootV loc ok), x6] H := by
  unfold endRow at ac
  refine (py_takeV (ks := ["the row's end"]) (E := E) rfl (ea_cons ev_c ea_nil) s.w) _ ?_
  cases ht : takeM ws ["the row's end"] j with
  | none =>
    rw [ht] at ac
    exact ac.elim
  | some z =>
    rw [ht] at ac
    match z, ac with
    | .inl c, ac => exact fun d H' f hd => ac d H' (ex0_fr e0 s.p0 f) hd
    | .inr (a, j2), ac =>
      intro v H1 f1 hW1 _
      dsimp only at ac
      have s1 := s.fr f1 hW1
      have e01 := ex0_fr e0 s.p0 f1
      dsimp only
      cases ok with
      | none =>
        have et : EvT (tAnd (tTest (tOp (fun x y H Q => y = .non ∧ Q (.bl (!decide (x = .non))) H) (tVar 5) (tC .non))) (tTest (tOp (rIn K true) (tFld K (tVar 5) "kind") (tC (.ref aM))))) [some (.ref (sl 0)), some x1, some x2, some (.ref p), some x4, some .non, x6] H1 (false && false) :=
          et_and (et_test (ev_op (ev_var rfl) ev_c rv_notN)) (fun h => Bool.noConfusion h)
        refine s_when et (fun h => Bool.noConfusion h) fun _ H2 e2 => hq _ _ ?_
        exact ac H2 loc (Ex.trans e01 e2) (s1.sh.ex e2)
      | some m =>
        unfold finRow at ac
        dsimp only at ac
        cases hm : st.rs[m]? with
        | none =>
          rw [hm] at ac
          exact ac.elim
        | some r =>
          rw [hm] at ac
          dsimp only at ac
          obtain ⟨dx, vi, vo, mvs, g1, _⟩ := s1.sh.ar.at_ m r hm
          have ek : Ev (tFld K (tVar 5) "kind") [some (.ref (sl 0)), some x1, some x2, some (.ref p), some x4, some (.ref (loc (4 * m))), x6] H1 (.str r.kind) := ev_fld (ev_var rfl) g1 Dk.cl Dk.nKind lf_kind
          have et : EvT (tAnd (tTest (tOp (fun x y H Q => y = .non ∧ Q (.bl (!decide (x = .non))) H) (tVar 5) (tC .non))) (tTest (tOp (rIn K true) (tFld K (tVar 5) "kind") (tC (.ref aM))))) [some (.ref (sl 0)), some x1, some x2, some (.ref p), some x4, some (.ref (loc (4 * m))), x6] H1 (true && !inV (.str r.kind) (MARKER.map V.str)) :=
            et_and (a := true) (et_test (ev_op (ev_var rfl) ev_c rv_notN)) (fun _ => et_test (ev_op ek ev_c (rv_niT (hM _) rfl (flat_strs MARKER))))
          refine s_when et (fun hb H2 e2 => ?_) (fun hb H2 e2 => ?_)
          · have hb' : (!inV (.str r.kind) (MARKER.map V.str)) = true := hb
            simp only [hb', if_true] at ac
            by_cases hz : st.opened.length < 50000
            · rw [if_pos hz] at ac
              have s2 := s1.fr (Fr.ex e2) (s1.w.ex e2)
              have e02 := Ex.trans e01 e2
              obtain ⟨dx, fvs, hvs, h0, h1, d1, h2, d2, h3⟩ := s2.sh.at_
              refine ⟨.ref (sl 0), rfl, sl 0, Sk.S, dx, _, _, rfl, h0, Sk.cl, Sk.nOpened, ls_opened, Or.inl ⟨rfl, _, sq_of h3⟩, .ref (loc (4 * m)), rfl, sl 3, _, _, rfl, rfl, h3, sz_lt (by rw [List.length_map]; omega), hq _ _ ?_⟩
              have f3 : Fr (sl 3) H2 (L2.upd H2 (sl 3) (.lst (st.opened.map (fun j => V.ref (loc (4 * j))) ++ [.ref (loc (4 * m))]))) := fr_upd
              have t3 := TF.fr' (ys := st.opened.map (fun j => V.ref (loc (4 * j))) ++ [.ref (loc (4 * m))]) h3
              have ne : ∀ a, a < 5 → a ≠ 3 → sl a ≠ sl 3 := fun a ha n z => n (s.sh.inj a 3 ha (by decide) z)
              have hml := (List.getElem?_eq_some_iff.mp hm).1
              have s3 := s2.own (st' := { st with opened := st.opened ++ [m] }) (a := 3) (by decide) f3 (no_tup_lst h3) ⟨dx, fvs, hvs, f3 _ _ (ne 0 (by decide) (by decide)) h0, f3 _ _ (ne 1 (by decide) (by decide)) h1, DTs.tf t3 _ _ d1, f3 _ _ (ne 2 (by decide) (by decide)) h2, DTs.tf t3 _ _ d2, by rw [upd_same, List.map_append]; rfl⟩ rfl (fun j hj => by
                rcases List.mem_append.mp hj with q | q
                · exact s.sh.op j q
                · rw [List.mem_singleton] at q
                  omega) s2.sh.rt
              exact ac _ loc (ex0_at e02 (s.sh.fresh 3 (by decide)) f3) s3.sh
            · rw [if_neg hz] at ac
              exact ac.elim
          · have hb' : (!inV (.str r.kind) (MARKER.map V.str)) = false := hb
            simp only [hb', Bool.false_eq_true, if_false] at ac
            exact hq _ _ (ac H2 loc (Ex.trans e01 e2) (s1.sh.ex e2))
end
end
end Prs
set_option Elab.async false
set_option linter.all false
set_option maxRecDepth 100000
set_option maxHeartbeats 4000000
namespace Prs
open PySem PySem.Spec PyProof.Rows L2 Evl
section
variable {P : Program} {w : World} {K : PySem.W.Frag} {mg : Str → Option Value} {base : Heap} {C : Cn P w K mg base}
def spRow (Sk : Sc K mg) (Dk : Dc K mg) (C : Cn P w K mg base) (n : Nat) : Sp := fun vs H Q E => ∃ kb H0 loc sl st num row, vs = [.ref (sl 0), .int num, .str row] ∧ row.length ≤ 10000 ∧ kb ≤ 16000000 ∧ Ex H0 H ∧ Shs (Sk.at kb) Dk H0 H loc sl st ∧ AccR (Sk.at (kb + 30000)) Dk C num H0 sl Q E (rowM n st num row)
theorem scRow : FnScope ["self", "number", "row", "words", "blanks", "draft", "depth"] ["self", "number", "row"] (defScope sRow) := ⟨rfl, rfl, rfl, by decide +kernel, rfl, by decide +kernel, by decide +kernel⟩
/-- what read_row calls -/
structure Rw (Sk : Sc K mg) (Dk : Dc K mg) (C : Cn P w K mg base) (n : Nat) where
  aW : Addr
  fdW : FuncData
  GW : FnOk P w K mg base CX0 4 aW fdW ["self", "number", "row", "known"] (spInit C)
  bW : Binds K fdW ["self", "number", "row", "known"] []
  mkW : Mk K C.W aW
  aB : Addr
  fdB : FuncData
  GB : FnOk P w K mg base CX0 1 aB fdB ["row"] spBlanks
  bB : Binds K fdB ["row"] []
  kB : PySem.W.keepIn K (.ref aB) = true
  mB : mg "blanks_of" = some (.ref aB)
  aH : Addr
  fdH : FuncData
  GH : ∀ kb, FnOk P w K mg base (L2.CX P w) 7 aH fdH ["self", "words"] (spHead (Sk.at kb) Dk C)
  bH : Binds K fdH ["self", "words"] []
  mH : Meth K Sk.S "read_head" aH
  aI : Addr
  fdI : FuncData
  GI : FnOk P w K mg base (L2.CX P w) ((9 + 4 * n) + 1) aI fdI ["self", "words"] (spInner Dk C n)
  bI : Binds K fdI ["self", "words"] []
  mI : Meth K Dk.D "read_inner" aI
section
variable {Sk : Sc K mg} {Dk : Dc K mg} {H0 H H1 H2 H' : Hp} {loc sl : Nat → Addr} {st : Sh} {p : Addr} {num : Nm} {ws : List Wd} {i j k : Nat} {Q : VK} {E : XK} {D : Ends} {tz : TS} {v2 v3 : V}
theorem acc_head {Q2 : VK} {x : Res (Sh × Option Nat)} (ac : AccR Sk Dk C num.n H0 sl Q E (rowHead ws x)) (k : ∀ v H' loc' st' ok j, Ex H0 H' → ShW Sk Dk C H0 H' loc' sl st' p num ws j → v = rootV loc' ok → okIn st'.rs.length ok = true → AccR Sk Dk C num.n H0 sl Q E (endRow ws { st' with root := ok } ok j) → Q2 v H') :
    AccH Sk Dk C p num ws H0 sl Q2 E x := by
  match x, ac with
  | some (.inl c), ac => exact ac
  | some (.inr ((st', ok), j)), ac =>
    intro v H' loc' e s hv
    unfold rowHead at ac
    dsimp only at ac
    cases ho : okIn st'.rs.length ok with
    | true =>
      rw [ho] at ac
      exact k v H' loc' st' ok j e s hv ho ac
    | false =>
      rw [ho] at ac
      exact ac.elim
theorem acc_inner {Q2 : VK} {x : Res (List Rc × Option Nat)} (e0 : Ex H0 H) (s : ShW Sk Dk C H0 H loc sl st p num ws i) (ac : AccR Sk Dk C num.n H0 sl Q E (rowInner st ws x))
    (k : ∀ v H' loc' rs' ok j, Ex H0 H' → ShW Sk Dk C H0 H' loc' sl { st with rs := rs' } p num ws j → v = rootV loc' ok → AccR Sk Dk C num.n H0 sl Q E (endRow ws { st with rs := rs' } ok j) → Q2 v H') : AccI Dk C p num ws H0 H loc st.rs Q2 E x := by
  have sw : Sw Dk C H0 H loc st.rs p num ws i := ⟨s.sh.ar, s.w, s.p0, s.sepA⟩
  match x, ac with
  | some (.inl c), ac => exact fun d H' f hd => ac d H' (sw.ex0 e0 f) hd
  | some (.inr ((rs', ok), j)), ac =>
    intro v H' loc' f s' old new hv
    unfold rowInner at ac
    dsimp only at ac
    split at ac
    case isFalse => exact ac.elim
    case isTrue hz =>
      obtain ⟨dx, fvs, hvs, h0, h1, d1, h2, d2, h3⟩ := s.sh.at_
      have cell := s.sh.cell
      have keep : ∀ a, a < 5 → ∀ o, H (sl a) = some o → H' (sl a) = some o := fun a ha o ho => f _ o (s.sepS a ha).1 (fun i hi => s.sh.apart a i ha hi) ho
      have t : TF H H' := fun b xs hb => f b _ (fun z => by
        obtain ⟨dx, fs, y⟩ := s.w.ins
        rw [z, y] at hb
        cases hb) (fun i hi z => by
        have hk : i / 4 < st.rs.length := by omega
        have := (s.sh.ar.at_ (i / 4) _ (List.getElem?_eq_getElem hk)).slots (i % 4) (by omega)
        rw [show 4 * (i / 4) + i % 4 = i by omega, ← z] at this
        rcases this with ⟨_, _, y⟩ | ⟨_, y⟩ <;> (rw [hb] at y; cases y)) hb
      have er : rootV loc' st.root = rootV loc st.root := by
        cases hr' : st.root with
        | none => rfl
        | some k =>
          show V.ref _ = V.ref _
          rw [old _ (by have := s.sh.rt k hr'; omega)]
      have eo : (st.opened.map fun j => V.ref (loc' (4 * j))) = st.opened.map fun j => V.ref (loc (4 * j)) := List.map_congr_left fun j hj => by
        rw [old _ (by have := s.sh.op j hj; omega)]
      refine k v H' loc' rs' ok j (sw.ex0 e0 f) ⟨⟨s'.ar, ⟨dx, fvs, hvs, ?_, keep 1 (by decide) _ h1, DTs.tf t _ _ d1, keep 2 (by decide) _ h2, DTs.tf t _ _ d2, ?_⟩, s.sh.inj, s.sh.fresh, ?_, ?_, ?_, s.sh.kn.imp fun kvs h => ⟨keep 4 (by decide) _ h.1, h.2⟩⟩, s'.w, s.p0, s'.sep, s.sepS⟩ hv ac
      · show H' (sl 0) = some (.ins Sk.S dx (sfl (rootV loc' st.root) (sl 1) (sl 2) (sl 3) (sl 4)))
        rw [er]
        exact keep 0 (by decide) _ h0
      · show H' (sl 3) = some (.lst (st.opened.map fun j => V.ref (loc' (4 * j))))
        rw [eo]
        exact keep 3 (by decide) _ h3
      · intro a i ha hi z
        by_cases hi2 : i < 4 * st.rs.length
        · rw [old i hi2] at z
          exact s.sh.apart a i ha hi2 z
        · obtain ⟨o, ho⟩ := cell a ha
          rw [z, new i hi2 hi] at ho
          cases ho
      · exact fun j hj => Nat.lt_of_lt_of_le (s.sh.op j hj) hz.1
      · exact fun j hj => Nat.lt_of_lt_of_le (s.sh.rt j hj) hz.1
end
end
end Prs
set_option Elab.async false
set_option linter.all false
set_option maxRecDepth 100000
set_option maxHeartbeats 4000000
namespace Prs
open PySem PySem.Spec PyProof.Rows L2 Evl
section
variable {P : Program} {w : World} {K : PySem.W.Frag} {mg : Str → Option Value} {base : Heap} {C : Cn P w K mg base}
theorem fresh_upd0 {H : Hp} {a c : Addr} {o : HO} (h : (L2.upd H a o) c = none) : H c = none := by
  have : c ≠ a := fun z => by
    rw [z, upd_same] at h
    cases h
  rw [upd_ne this] at h
  exact h
theorem fresh_upd2 {H : Hp} {a b c : Addr} {o1 o2 : HO} (na : H a = none) (nb : H b = none) (h : (L2.upd (L2.upd H b o1) a o2) c = none) : H c = none := fresh_upd0 (fresh_upd0 h)
theorem ev_chain {σ : L2.St} {H : Hp} {r r' : R2} {ta tb tc : TE} {x y z : V} {a b : Bool} (h1 : Ev ta σ H x) (h2 : Ev tb σ H y) (h3 : RV r x y H (.bl a)) (h4 : Ev tc σ H z) (h5 : RV r' y z H (.bl b)) : Ev (tChain r r' ta tb tc) σ H (.bl (a && b)) := fun H1 e Q q =>
  h1 H1 e _ fun H2 e2 => h2 H2 (Ex.trans e e2) _ fun H3 e3 => h3 H3 (Ex.trans (Ex.trans e e2) e3) _ fun H4 e4 => ⟨a, rfl, by
    have e14 := Ex.trans (Ex.trans e2 e3) e4
    cases a with
    | true => exact h4 H4 (Ex.trans e e14) _ fun H5 e5 => h5 H5 (Ex.trans e (Ex.trans e14 e5)) _ fun H6 e6 => q H6 (Ex.trans (Ex.trans e14 e5) e6)
    | false => exact q H4 e14⟩
theorem rv_isN {x : V} {H : Hp} : RV (fun x y H Q => y = .non ∧ Q (.bl (decide (x = .non))) H) x .non H (.bl (decide (x = .non))) := fun H1 _ _ q => ⟨rfl, q H1 (Ex.refl H1)⟩
/-- raise NoText(number, 1) -/
theorem raise_1 {H0 H : Hp} {sl : Nat → Addr} {Sk : Sc K mg} {Dk : Dc K mg} {Q : VK} {E : XK} {n : Int} {σ : L2.St} (h1 : σ[1]? = some (some (.int n))) (e0 : Ex H0 H) (ac : AccR Sk Dk C n H0 sl Q E (some (.inl 1))) :
    tMkO C.N (spI2 K "row" "column") [] (tCons (tVar 1) (tCons (tC (.int 1)) tNil)) σ H (fun cls d H' => E cls d H') :=
  ⟨.int n, h1, by show 2 ≤ 1000; decide, made2x C.T C.fR C.fC fun d H' e z => ac d H' (Ex.trans e0 e) z⟩
theorem ok_row {f : Addr} {fd : FuncData} {n : Nat} (Sk : Sc K mg) (Dk : Dc K mg) (G : Gn K mg) (T : Tl C) (R : Rw Sk Dk C n) (F : Fun K "read_row" "Sheet.read_row" sRow f fd) : FnOk P w K mg base (L2.CX P w) ((10 + 4 * n) + 1) f fd ["self", "number", "row"] (spRow Sk Dk C n) := by
  obtain ⟨aM, gM, hM⟩ := Dk.gM
  obtain ⟨_, gE⟩ := G.kEnd
  refine F.okX scRow (fun vs H Q E h => ?_) (fun cdv A outer s0 H vs Q E hr h => ?_)
  · obtain ⟨kb, H0, loc, sl, st, num, row, rfl, _⟩ := h
    rfl
  · obtain ⟨kb, H0, loc, sl, st, num, row, rfl, hz, hkb, e0, s, ac⟩ := h
    have hq : quickOk row = true := by
      cases hh : quickOk row with
      | true => rfl
      | false =>
        unfold rowM at ac
        rw [hh] at ac
        exact ac.elim
    have hrow : rowM n st num row = rowM0 n st num row := if_pos hq
    rw [hrow] at ac
    have hr5 : Room 5 (A.deeper (envOfC "Sheet.read_row" (defScope sRow) s0.heap.objs.size f cdv)) := hr.mono (by omega)
    have hr1 : Room 1 (A.deeper (envOfC "Sheet.read_row" (defScope sRow) s0.heap.objs.size f cdv)) := hr.mono (by omega)
    have hr2 : Room 2 (A.deeper (envOfC "Sheet.read_row" (defScope sRow) s0.heap.objs.size f cdv)) := hr.mono (by omega)
    have hr4 : Room 4 (A.deeper (envOfC "Sheet.read_row" (defScope sRow) s0.heap.objs.size f cdv)) := hr.mono (by omega)
    have hr7 : Room 7 (A.deeper (envOfC "Sheet.read_row" (defScope sRow) s0.heap.objs.size f cdv)) := hr.mono (by omega)
    have hrI : Room ((9 + 4 * n) + 1) (A.deeper (envOfC "Sheet.read_row" (defScope sRow) s0.heap.objs.size f cdv)) := hr.mono (by omega)
    refine ⟨_, pss_cons (ps_set (i := 3) scRow.nd rfl (.inl rfl) (pe_make R.mkW R.GW hr5 rfl C.mgW R.bW .nil pass0 (pa_cons (pv 1) (pa_cons (pv 2) (pa_cons (pe_fld (pv 0) rfl) pa_nil)))))
      (pss_cons (ps_set (i := 4) scRow.nd rfl (.inl rfl) (pe_call R.GB hr1 rfl R.mB R.kB R.bB .nil pass0 (pa_cons (pv 2) pa_nil)))
      (Evl.pss_cut (ps_if (pt_cmpR op_isN (pe_fld (pv 0) rfl) pe_non (nomark _))
        (pss_cons (ps_if (pt_cmpR op_ne (pv 4) pe_int (nomark _)) (pss_one (ps_raise rfl (takes_of rfl rfl rfl rfl) (pmk_oex (ds := []) (dvs := []) C.T C.iC C.tI C.nF hr2 C.nB .nil pass0 rfl C.mgN (pa_cons (pv 1) (pa_cons pe_int pa_nil))))) pss_nil)
        (pss_cons (ps_fld (pv 0) (pe_meth (pv 0) Sk.cl R.mH (R.GH (kb + 30000)) hr7 R.bH .nil (passes_call (takes_of rfl rfl rfl rfl) fun _ _ _ _ h => h) (pa_cons (pv 3) pa_nil)) rfl)
        (pss_one (ps_set (i := 5) scRow.nd rfl (.inl rfl) (pe_fld (pv 0) rfl)))))
        (pss_cons (ps_set (i := 6) scRow.nd rfl (.inl rfl) (pe_op op_fdiv (pv 4) pe_int))
        (pss_cons (ps_if (PW.pt (pw_or (pt_cmpR op_ne (pe_op op_mod (pv 4) pe_int) pe_int (nomark _)) (pw_or1 (pt_not (pt_chain op_le op_le pe_int (pv 6) (pe_callB call_len (by rfl) G.len PySem.boot_len (pa_cons (pe_fld (pv 0) rfl) pa_nil))))))) (pss_one (ps_raise rfl (takes_of rfl rfl rfl rfl) (pmk_oex (ds := []) (dvs := []) C.T C.iC C.tI C.nF hr2 C.nB .nil pass0 rfl C.mgN (pa_cons (pv 1) (pa_cons pe_int pa_nil))))) pss_nil)
        (pss_cons (ps_delSl (pe_fld (pv 0) rfl) (pv 6))
        (pss_one (ps_set (i := 5) scRow.nd rfl (.inl rfl) (pe_meth (pe_ix ix_list (pe_fld (pv 0) rfl) (pe_un un_neg pe_int) (fun _ _ => rfl)) Dk.cl R.mI R.GI hrI R.bI .nil (passes_call (takes_of rfl rfl rfl rfl) fun _ _ _ _ h => h) (pa_cons (pv 3) pa_nil))))))))
      (pss_cons (ps_expr (pe_methR (pv 3) C.cl T.mT T.FT hr4 (passes_call (takes_of rfl rfl rfl rfl) fun _ _ _ _ h => h) (pa_cons (pe_glob (v := .str "the row's end") rfl gE ⟨_, rfl⟩) pa_nil)))
      (pss_one (ps_if (PW.pt (pw_and (pt_cmpR op_notN (pv 5) pe_non (nomark _)) (pw_and1 (pt_cmpR op_notIn_seq (pe_fld (pv 5) rfl) (pe_glob (v := .ref aM) rfl gM rfl) (by rfl))))) (pss_one (ps_expr (pe_bm PySem.F.plainAttrs_list PySem.F.slot_list_append PySem.F.type_list_append mt_append (pe_fld (pv 0) rfl) (pa_cons (pv 5) pa_nil)))) pss_nil))))), ?_⟩
    obtain ⟨dxk, _, _, h00, _⟩ := id s.at_
    obtain ⟨kvs, hk0, ok0, hn0⟩ := id s.kn
    have hn0' : kvs.length ≤ kb := hn0
    refine ⟨.int num, rfl, .str row, rfl, .ref (sl 0), rfl, sl 0, Sk.S, dxk, _, .ref (sl 4), rfl, h00, Sk.cl, Sk.nKnown, ls_known, fun p dx np nd ned => ⟨p, num, row, dx, sl 4, kvs, rfl, hz, hq, upd_same, ?_, ok0, by omega, fun H1 kl tl kvs' f1 hk1 ok1 hn1 nk1 nt1 hW1 => ⟨rfl, ?_⟩⟩⟩
    · rw [upd_ne (ne_of_none hk0 np), upd_ne (ne_of_none hk0 nd)]
      exact hk0
    have f01 : Fr (sl 4) H H1 := fun b o n4 hb => f1 b o (ne_of_none hb np) n4 (by
      rw [upd_ne (ne_of_none hb np), upd_ne (ne_of_none hb nd)]
      exact hb)
    have nk : H kl = none := fresh_upd2 np nd nk1
    have nt : H tl = none := fresh_upd2 np nd nt1
    have s1 : ShW (Sk.at (kb + 30000)) Dk C H0 H1 loc sl st p ⟨num, kl, tl, row⟩ (wordsOf row) 0 := shw_new (Sk := Sk.at kb) (num := ⟨num, kl, tl, row⟩) (m := kb + 30000) s e0 np nk nt f01 hk1 ok1 (by omega) hW1
    have e01 : Ex H0 H1 := ex0_at e0 (s.fresh 4 (by decide)) f01
    have hb := blanks_nn row
    refine q_asg (v := .int (blanksOf row)) (ev_call (ea_cons (ev_var rfl) ea_nil) (sv_blanks (by omega))) fun H2 e2 => ?_
    have s2 := s1.fr (Fr.ex e2) (s1.w.ex e2)
    have e02 := Ex.trans e01 e2
    refine Evl.q_cut (M := fun σ' H' => ∃ st' loc' ok j x6, σ' = [some (.ref (sl 0)), some (.int num), some (.str row), some (.ref p), some (.int (blanksOf row)), some (rootV loc' ok), x6] ∧ Ex H0 H' ∧ ShW (Sk.at (kb + 30000)) Dk C H0 H' loc' sl st' p ⟨num, kl, tl, row⟩ (wordsOf row) j ∧ AccR (Sk.at (kb + 30000)) Dk C num H0 sl Q E (endRow (wordsOf row) st' ok j)) ?_ ?_
    · obtain ⟨dxs, fvs, hvs, h0, h1, d1, h2, d2, h3⟩ := s2.sh.at_
      unfold rowM0 at ac
      cases hroot : st.root with
      | none =>
        rw [hroot] at ac
        dsimp only at ac
        have eR : EvT (tTest (tOp (fun x y H Q => y = .non ∧ Q (.bl (decide (x = .non))) H) (tFld K (tVar 0) "root") (tC .non))) [some (.ref (sl 0)), some (.int num), some (.str row), some (.ref p), some (.int (blanksOf row)), none, none] H2 true :=
          et_is (et_test (ev_op (x := .non) (ev_fld (ev_var rfl) h0 Sk.cl Sk.nRoot (by rw [ls_root, hroot]; rfl)) ev_c rv_isN)) (by simp)
        refine s_if eR (fun _ H3 e3 => ?_) (fun h => Bool.noConfusion h)
        have s3 := s2.fr (Fr.ex e3) (s2.w.ex e3)
        have e03 := Ex.trans e02 e3
        refine q_when (b := !decide (V.int (blanksOf row) = V.int 0)) (et_test (ev_op (ev_var rfl) ev_c (rv_ne rfl))) (fun hc H4 e4 => ?_) (fun hc H4 e4 => ?_)
        · simp only [hc, if_true] at ac
          exact raise_1 rfl (Ex.trans e03 e4) ac
        simp only [hc, Bool.false_eq_true, if_false] at ac
        have s4 := s3.fr (Fr.ex e4) (s3.w.ex e4)
        have e04 := Ex.trans e03 e4
        obtain ⟨dxs4, fvs4, hvs4, h04, _⟩ := s4.sh.at_
        refine ⟨.ref (sl 0), rfl, sl 0, dxs4, _, rfl, h04, rfl, .ref p, rfl, H0, loc, sl, st, p, ⟨num, kl, tl, row⟩, wordsOf row, 0, rfl, e04, s4, acc_head ac fun v H5 loc' st' ok j e05 s5 hv hok ac => ?_⟩
        obtain ⟨dx5, fvs5, hvs5, g0, g1, k1, g2, k2, g3⟩ := s5.sh.at_
        refine ⟨.ref (sl 0), rfl, sl 0, Sk.S, dx5, _, rfl, g0, Sk.cl, Sk.nRoot, by show 5 < 1000; decide, ?_⟩
        have f6 : Fr (sl 0) H5 (L2.upd H5 (sl 0) (.ins Sk.S dx5 (putF "root" v (sfl (rootV loc' st'.root) (sl 1) (sl 2) (sl 3) (sl 4))))) := fr_upd
        have t6 : TF H5 (L2.upd H5 (sl 0) (.ins Sk.S dx5 (putF "root" v (sfl (rootV loc' st'.root) (sl 1) (sl 2) (sl 3) (sl 4))))) := TF.fr g0 f6
        have ne : ∀ a, a < 5 → a ≠ 0 → sl a ≠ sl 0 := fun a ha n z => n (s.inj a 0 ha (by decide) z)
        have ov : H5 (sl 0) = _ := g0
        have v6 : (L2.upd H5 (sl 0) (.ins Sk.S dx5 (putF "root" v (sfl (rootV loc' st'.root) (sl 1) (sl 2) (sl 3) (sl 4))))) (sl 0) = some (.ins Sk.S dx5 (sfl (rootV loc' ok) (sl 1) (sl 2) (sl 3) (sl 4))) := by
          rw [upd_same, hv]
          rfl
        revert f6 t6 v6
        generalize L2.upd H5 (sl 0) (.ins Sk.S dx5 (putF "root" v (sfl (rootV loc' st'.root) (sl 1) (sl 2) (sl 3) (sl 4)))) = H6
        intro f6 t6 v6
        have s6 : ShW (Sk.at (kb + 30000)) Dk C H0 H6 loc' sl { st' with root := ok } p ⟨num, kl, tl, row⟩ (wordsOf row) j := s5.own (a := 0) (by decide) f6 (no_tup_ins g0) ⟨dx5, fvs5, hvs5, v6, f6 _ _ (ne 1 (by decide) (by decide)) g1, DTs.tf t6 _ _ k1, f6 _ _ (ne 2 (by decide) (by decide)) g2, DTs.tf t6 _ _ k2, f6 _ _ (ne 3 (by decide) (by decide)) g3⟩ rfl s5.sh.op (fun j hj => by
          have hj : ok = some j := hj
          rw [hj] at hok
          exact of_decide_eq_true hok)
        have e06 := ex0_at e05 (s.fresh 0 (by decide)) f6
        refine s_asg (v := rootV loc' ok) (ev_fld (ev_var rfl) v6 Sk.cl Sk.nRoot ls_root) fun H7 e7 => ?_
        exact ⟨{ st' with root := ok }, loc', ok, j, _, rfl, Ex.trans e06 e7, s6.fr (Fr.ex e7) (s6.w.ex e7), ac⟩
      | some k0 =>
        rw [hroot] at ac
        dsimp only at ac
        have eR : EvT (tTest (tOp (fun x y H Q => y = .non ∧ Q (.bl (decide (x = .non))) H) (tFld K (tVar 0) "root") (tC .non))) [some (.ref (sl 0)), some (.int num), some (.str row), some (.ref p), some (.int (blanksOf row)), none, none] H2 false :=
          et_is (et_test (ev_op (x := .ref (loc (4 * k0))) (ev_fld (ev_var rfl) h0 Sk.cl Sk.nRoot (by rw [ls_root, hroot]; rfl)) ev_c rv_isN)) (by simp)
        refine s_if eR (fun h => Bool.noConfusion h) (fun _ H3 e3 => ?_)
        have s3 := s2.fr (Fr.ex e3) (s2.w.ex e3)
        have e03 := Ex.trans e02 e3
        refine q_asg (v := .int (blanksOf row / 2)) (ev_op (ev_var rfl) ev_c (rv_I ⟨by decide, by decide⟩)) fun H4 e4 => ?_
        have s4 := s3.fr (Fr.ex e4) (s3.w.ex e4)
        have e04 := Ex.trans e03 e4
        obtain ⟨dx4, fvs4, hvs4, g0, g1, k1, g2, k2, g3⟩ := s4.sh.at_
        have eL : Ev (tCB (fun xs H Q => ∃ x n, xs = [x] ∧ LenV K x H n ∧ Q (.int n) H) (tCons (tFld K (tVar 0) "opened") tNil)) [some (.ref (sl 0)), some (.int num), some (.str row), some (.ref p), some (.int (blanksOf row)), none, some (.int (blanksOf row / 2))] H4 (.int ((st.opened.length : Nat) : Int)) := fun H5 e Q q =>
          (ev_fld (ev_var rfl) g0 Sk.cl Sk.nOpened ls_opened : Ev (tFld K (tVar 0) "opened") _ H4 (.ref (sl 3))) H5 e _ fun H6 e6 => ⟨_, st.opened.length, rfl, .inl ⟨_, sq_of (e6 _ _ (e _ _ g3)), by rw [List.length_map]⟩, q H6 e6⟩
        refine q_when (b := !decide (V.int (blanksOf row % 2) = V.int 0) || !(decide (1 ≤ blanksOf row / 2) && decide (blanksOf row / 2 ≤ (st.opened.length : Nat)))) (et_or (et_test (ev_op (ev_op (ev_var rfl) ev_c (rv_I (by decide))) ev_c (rv_ne rfl))) (fun _ => et_not (et_test (ev_chain ev_c (ev_var rfl) rv_I0 eL rv_I0)))) (fun hc H5 e5 => ?_) (fun hc H5 e5 => ?_)
        · rw [if_pos hc] at ac
          exact raise_1 rfl (Ex.trans e04 e5) ac
        rw [if_neg (by rw [hc]; exact Bool.noConfusion)] at ac
        simp only [Bool.or_eq_false_iff, Bool.not_eq_false', Bool.and_eq_true, decide_eq_true_eq] at hc
        obtain ⟨_, hd1, hd2⟩ := hc
        obtain ⟨d, hd⟩ : ∃ d : Nat, blanksOf row / 2 = (d : Int) := ⟨(blanksOf row / 2).toNat, by omega⟩
        have hdt : (blanksOf row / 2).toNat = d := by omega
        rw [hdt] at ac
        have s5 := s4.fr (Fr.ex e5) (s4.w.ex e5)
        have e05 := Ex.trans e04 e5
        have q0 := e5 _ _ g0
        have q3 := e5 _ _ g3
        cases hgl : (st.opened.take d).getLast? with
        | none =>
          rw [hgl] at ac
          exact ac.elim
        | some k =>
          rw [hgl] at ac
          dsimp only at ac
          refine ⟨.ref (sl 0), rfl, sl 0, Sk.S, dx4, _, _, rfl, q0, Sk.cl, Sk.nOpened, ls_opened, .int (blanksOf row / 2), rfl, sl 3, _, d, rfl, by rw [hd], q3, by rw [List.length_map]; omega, ?_⟩
          have f6 : Fr (sl 3) H5 (L2.upd H5 (sl 3) (.lst ((st.opened.map fun j => V.ref (loc (4 * j))).take d))) := fr_upd
          have t6 := TF.fr' (ys := (st.opened.map fun j => V.ref (loc (4 * j))).take d) q3
          have v6 : (L2.upd H5 (sl 3) (.lst ((st.opened.map fun j => V.ref (loc (4 * j))).take d))) (sl 3) = some (.lst ((st.opened.take d).map fun j => V.ref (loc (4 * j)))) := by rw [upd_same, List.map_take]
          revert f6 t6 v6
          generalize L2.upd H5 (sl 3) (.lst ((st.opened.map fun j => V.ref (loc (4 * j))).take d)) = H6
          intro f6 t6 v6
          have ne : ∀ a, a < 5 → a ≠ 3 → sl a ≠ sl 3 := fun a ha n z => n (s.inj a 3 ha (by decide) z)
          have q6 := f6 _ _ (ne 0 (by decide) (by decide)) q0
          have s6 : ShW (Sk.at (kb + 30000)) Dk C H0 H6 loc sl { st with opened := st.opened.take d } p ⟨num, kl, tl, row⟩ (wordsOf row) 0 := s5.own (a := 3) (by decide) f6 (no_tup_lst q3) ⟨dx4, fvs4, hvs4, q6, f6 _ _ (ne 1 (by decide) (by decide)) (e5 _ _ g1), DTs.tf t6 _ _ (DTs.tf (TF.ex e5) _ _ k1), f6 _ _ (ne 2 (by decide) (by decide)) (e5 _ _ g2), DTs.tf t6 _ _ (DTs.tf (TF.ex e5) _ _ k2), v6⟩ rfl (fun j hj => s.op j (List.mem_of_mem_take hj)) s5.sh.rt
          have e06 := ex0_at e05 (s.fresh 3 (by decide)) f6
          obtain ⟨ini, hini⟩ := List.getLast?_eq_some_iff.mp hgl
          have hk : k ∈ st.opened := List.mem_of_mem_take (by rw [hini]; simp)
          have hkl := s.op k hk
          obtain ⟨dx7, vi7, vo7, mv7, r0, _⟩ := s6.sh.ar.at_ k st.rs[k] (List.getElem?_eq_getElem hkl)
          refine ⟨.ref (sl 0), rfl, sl 0, Sk.S, dx4, _, _, rfl, q6, Sk.cl, Sk.nOpened, ls_opened, 1, rfl, sl 3, _, -1, .ref (loc (4 * k)), rfl, rfl, sq_of v6, by rw [hini, List.map_append]; exact atI_last _ _, ?_⟩
          refine ⟨loc (4 * k), dx7, _, rfl, r0, rfl, .ref p, rfl, H0, loc, st.rs, k, p, ⟨num, kl, tl, row⟩, wordsOf row, 0, rfl, e06, ⟨s6.sh.ar, s6.w, s6.p0, s6.sepA⟩, acc_inner (st := { st with opened := st.opened.take d }) e06 s6 (by rw [← hroot] at ac; exact ac) fun v H7 loc' rs' ok j e07 s7 hv ac => ?_⟩
          subst hv
          exact ⟨_, loc', ok, j, _, rfl, e07, s7, ac⟩
    · rintro σ' H3 ⟨st', loc', ok, j, x6, rfl, e03, s3, ac⟩
      exact end_row (num := ⟨num, kl, tl, row⟩) hM s3 e03 ac (D := { nx := fun _ H' => Q .non H', rt := Q }) (fun σ' H' q => q)
end
end Prs
set_option Elab.async false
set_option linter.all false
set_option maxRecDepth 100000
set_option maxHeartbeats 4000000
namespace Prs
open PySem PySem.Spec PyProof.Rows L2 Evl
abbrev sSheet : Stmt := top 55
abbrev ResT (α : Type) := Option (Sum (Nat × Nat) α)
def sheetGo (n : Nat) : List Str → Nat → Sh → ResT Sh
  | [], _, st => some (.inr st)
  | r :: rs, i, st => if !isPassed r then (match rowM n st ((i : Int) + 1) r with
    | none => none
    | some (.inl c) => some (.inl (i + 1, c))
    | some (.inr st) => sheetGo n rs (i + 1) st) else sheetGo n rs (i + 1) st
def emptySh : Sh := ⟨[], [], none, [], []⟩
def endSheet (len : Nat) : ResT Sh → ResT Sh
  | none => none
  | some (.inl e) => some (.inl e)
  | some (.inr st) => match st.root with
    | none => some (.inl (len + 1, 1))
    | some _ => some (.inr st)
def sheetM (n : Nat) (rows : List Str) : ResT Sh := endSheet rows.length (sheetGo n rows 0 emptySh)
def goOn (n i : Nat) (rs : List Str) : ResS → ResT Sh
  | none => none
  | some (.inl c) => some (.inl (i + 1, c))
  | some (.inr st) => sheetGo n rs (i + 1) st
theorem sheetGo_cons {n i : Nat} {r : Str} {rs : List Str} {st : Sh} : sheetGo n (r :: rs) i st = if !isPassed r then goOn n i rs (rowM n st ((i : Int) + 1) r) else sheetGo n rs (i + 1) st := by
  conv => lhs; unfold sheetGo
  rfl
section
variable {P : Program} {w : World} {K : PySem.W.Frag} {mg : Str → Option Value} {base : Heap} {C : Cn P w K mg base}
def AccT (Sk : Sc K mg) (Dk : Dc K mg) (C : Cn P w K mg base) (H0 : Hp) (Q : (Nat → Addr) → (Nat → Addr) → Sh → Hp → Prop) (E : XK) : ResT Sh → Prop
  | none => False
  | some (.inl (r, c)) => ∀ d H', Ex H0 H' → H' d = some (.xd [("column", .int (c : Nat)), ("row", .int (r : Nat))]) → E (.ref C.N) (some d) H'
  | some (.inr st) => ∀ kb H' loc sl, Ex H0 H' → Shs (Sk.at kb) Dk H0 H' loc sl st → Q loc sl st H'
def spSheet (Sk : Sc K mg) (Dk : Dc K mg) (C : Cn P w K mg base) (n : Nat) : Sp := fun vs H Q E => ∃ tl rows, vs = [.ref tl] ∧ H tl = some (.lst (rows.map V.str)) ∧ rows.length ≤ 500 ∧ (∀ r, r ∈ rows → r.length ≤ 10000) ∧ AccT Sk Dk C H (fun loc sl st H' => Q (.ref (sl 0)) H') E (sheetM n rows)
theorem scSheet : FnScope ["text", "sheet", "at", "row"] ["text"] (defScope sSheet) := ⟨rfl, rfl, rfl, by decide +kernel, rfl, by decide +kernel, by decide +kernel⟩
/-- what read_sheet calls -/
structure St' (Sk : Sc K mg) (Dk : Dc K mg) (C : Cn P w K mg base) (n : Nat) where
  aS : Addr
  fdS : FuncData
  GS : FnOk P w K mg base CX0 2 aS fdS ["self"] (spSInit Sk)
  bS : Binds K fdS ["self"] []
  mkS : Mk K Sk.S aS
  aP : Addr
  fdP : FuncData
  GP : FnOk P w K mg base CX0 1 aP fdP ["row"] spPassed
  bP : Binds K fdP ["row"] []
  kP : PySem.W.keepIn K (.ref aP) = true
  mP : mg "is_passed" = some (.ref aP)
  aR : Addr
  fdR : FuncData
  GR : FnOk P w K mg base (L2.CX P w) ((10 + 4 * n) + 1) aR fdR ["self", "number", "row"] (spRow Sk Dk C n)
  bR : Binds K fdR ["self", "number", "row"] []
  mR : Meth K Sk.S "read_row" aR
  gE : mg "enumerate" = none
def slOf (a b c d e : Addr) : Nat → Addr
  | 0 => a
  | 1 => b
  | 2 => c
  | 3 => d
  | _ => e
/-- more kinds may be known -/
theorem Shs.more {Sk : Sc K mg} {Dk : Dc K mg} {H0 H : Hp} {loc sl : Nat → Addr} {st : Sh} {a b : Nat} (s : Shs (Sk.at a) Dk H0 H loc sl st) (h : a ≤ b) : Shs (Sk.at b) Dk H0 H loc sl st := ⟨s.ar, s.at_, s.inj, s.fresh, s.apart, s.op, s.rt, s.kn.imp fun kvs k => ⟨k.1, k.2.1, Nat.le_trans k.2.2 h⟩⟩
theorem sv_passed {a : Str} {H : Hp} (h : a.length ≤ 100000) : SpV spPassed [.str a] H (.bl (isPassed a)) := fun H1 e Q q E => ⟨a, rfl, h, fun H2 e2 => q H2 e2⟩
theorem acc_row {kb : Nat} {Sk : Sc K mg} {Dk : Dc K mg} {H0 : Hp} {sl : Nat → Addr} {E : XK} {Qf : (Nat → Addr) → (Nat → Addr) → Sh → Hp → Prop} {Q2 : VK} {n i len : Nat} {rs : List Str} {x : ResS} (ac : AccT Sk Dk C H0 Qf E (endSheet len (goOn n i rs x)))
    (k : ∀ H' loc st', Ex H0 H' → Shs (Sk.at kb) Dk H0 H' loc sl st' → AccT Sk Dk C H0 Qf E (endSheet len (sheetGo n rs (i + 1) st')) → Q2 .non H') : AccR (Sk.at kb) Dk C ((i : Int) + 1) H0 sl Q2 E x := by
  match x, ac with
  | some (.inl c), ac => exact fun d H' e hd => ac d H' e hd
  | some (.inr st'), ac => exact fun H' loc e s => k H' loc st' e s ac
theorem ok_sheet {f : Addr} {fd : FuncData} {n : Nat} (Sk : Sc K mg) (Dk : Dc K mg) (G : Gn K mg) (R : St' Sk Dk C n) (F : Fun K "read_sheet" "read_sheet" sSheet f fd) : FnOk P w K mg base (L2.CX P w) (((10 + 4 * n) + 1) + 1) f fd ["text"] (spSheet Sk Dk C n) := by
  refine F.okX scSheet (fun vs H Q E h => ?_) (fun cdv A outer s0 H vs Q E hr h => ?_)
  · obtain ⟨tl, rows, rfl, _⟩ := h
    rfl
  · obtain ⟨tl, rows, rfl, htl, hmany, hlen, ac⟩ := h
    have hr1 : Room 1 (A.deeper (envOfC "read_sheet" (defScope sSheet) s0.heap.objs.size f cdv)) := hr.mono (by omega)
    have hr2 : Room 2 (A.deeper (envOfC "read_sheet" (defScope sSheet) s0.heap.objs.size f cdv)) := hr.mono (by omega)
    have hr3 : Room 3 (A.deeper (envOfC "read_sheet" (defScope sSheet) s0.heap.objs.size f cdv)) := hr.mono (by omega)
    refine ⟨_, pss_cons (ps_set (i := 1) scSheet.nd rfl (.inl rfl) (pe_make0 R.mkS R.GS hr3 rfl Sk.m R.bS .nil pass0))
      (pss_cons (ps_for (passes_of rfl) rfl (pi_enum rfl R.gE (pa_cons (pv 0) pa_nil)) (pg_tup rfl (pgs_cons (pg_name (i := 2) scSheet.nd rfl (.inl rfl)) (pgs_cons (pg_name (i := 3) scSheet.nd rfl (.inl rfl)) pgs_nil)))
        (pss_one (ps_if (pt_not (pt_val (pe_call R.GP hr1 rfl R.mP R.kP R.bP .nil pass0 (pa_cons (pv 3) pa_nil)))) (pss_one (ps_expr (pe_meth (pv 1) Sk.cl R.mR R.GR hr R.bR .nil (passes_call (takes_of rfl rfl rfl rfl) fun _ _ _ _ h => h) (pa_cons (pe_op op_add (pv 2) pe_int) (pa_cons (pv 3) pa_nil))))) pss_nil)))
      (pss_cons (ps_if (pt_cmpR op_isN (pe_fld (pv 1) rfl) pe_non (nomark _)) (pss_one (ps_raise rfl (takes_of rfl rfl rfl rfl) (pmk_oex (ds := []) (dvs := []) C.T C.iC C.tI C.nF hr2 C.nB .nil pass0 rfl C.mgN (pa_cons (pe_op op_add (pe_callB call_len (by rfl) G.len PySem.boot_len (pa_cons (pv 0) pa_nil)) pe_int) (pa_cons pe_int pa_nil))))) pss_nil)
      (pss_one (ps_ret (pv 1))))), ?_⟩
    refine fun s dx np nd ned => ⟨s, dx, rfl, upd_same, fun H1 fl hl ol kl kvs f1 h0 h1 h2 h3 h4 ok4 hn4 n1 n2 n3 n4 a1 a2 a3 a4 a5 a6 a7 a8 a9 a10 => ⟨rfl, ?_⟩⟩
    have e1 : Ex H H1 := fun b o hb => f1 b o (ne_of_none hb np) (by
      rw [upd_ne (ne_of_none hb np), upd_ne (ne_of_none hb nd)]
      exact hb)
    have m1 : H fl = none := fresh_upd2 np nd n1
    have m2 : H hl = none := fresh_upd2 np nd n2
    have m3 : H ol = none := fresh_upd2 np nd n3
    have m4 : H kl = none := fresh_upd2 np nd n4
    have sh1 : Shs (Sk.at 31) Dk H H1 (fun _ => 0) (slOf s fl hl ol kl) emptySh := by
      refine ⟨⟨fun i j hi => absurd hi (by show ¬ i < 4 * 0; omega), fun i hi => absurd hi (by show ¬ i < 4 * 0; omega), fun k r hk => (by cases hk), fun k r hk => (by cases hk)⟩, ⟨dx, [], [], h0, h1, dts_nil, h2, dts_nil, h3⟩, ?_, ?_, fun a i _ hi => absurd hi (by show ¬ i < 4 * 0; omega), fun j hj => (by cases hj), fun j hj => (by cases hj), ⟨kvs, h4, ok4, hn4⟩⟩
      · intro a b ha hb z
        rcases (by omega : a = 0 ∨ a = 1 ∨ a = 2 ∨ a = 3 ∨ a = 4) with rfl | rfl | rfl | rfl | rfl <;>
          rcases (by omega : b = 0 ∨ b = 1 ∨ b = 2 ∨ b = 3 ∨ b = 4) with rfl | rfl | rfl | rfl | rfl <;>
          first
            | rfl
            | exact absurd z a1 | exact absurd z a2 | exact absurd z a3 | exact absurd z a4 | exact absurd z a5 | exact absurd z a6 | exact absurd z a7 | exact absurd z a8 | exact absurd z a9 | exact absurd z a10
            | exact absurd z.symm a1 | exact absurd z.symm a2 | exact absurd z.symm a3 | exact absurd z.symm a4 | exact absurd z.symm a5 | exact absurd z.symm a6 | exact absurd z.symm a7 | exact absurd z.symm a8 | exact absurd z.symm a9 | exact absurd z.symm a10
      · intro a ha
        rcases (by omega : a = 0 ∨ a = 1 ∨ a = 2 ∨ a = 3 ∨ a = 4) with rfl | rfl | rfl | rfl | rfl
        · exact np
        · exact m1
        · exact m2
        · exact m3
        · exact m4
    generalize hsl : slOf s fl hl ol kl = sl at sh1
    have hs0 : s = sl 0 := by rw [← hsl]; rfl
    subst hs0
    refine ⟨.ref tl, rfl, tl, _, rfl, sq_of (e1 _ _ htl), fun i m σ' H' => m = rows.length - i ∧ i ≤ rows.length ∧ ∃ st loc x y, σ' = [some (.ref tl), some (.ref (sl 0)), x, y] ∧ Ex H H' ∧ Shs (Sk.at (31 + 30000 * i)) Dk H H' loc sl st ∧ AccT Sk Dk C H (fun loc sl st H' => Q (.ref (sl 0)) H') E (endSheet rows.length (sheetGo n (rows.drop i) i st)),
      ⟨_, rfl, Nat.zero_le _, emptySh, _, none, none, rfl, e1, sh1, ac⟩, ?_⟩
    rintro i m σ' H' ⟨rfl, hi, st, loc, x, y, rfl, e, sh, ac⟩
    have hq : SqL K H' tl (rows.map V.str) := sq_of (e _ _ htl)
    by_cases hlt : i < rows.length
    · refine .inr ⟨⟨_, .str rows[i], hq, by rw [List.getElem?_map, List.getElem?_eq_getElem hlt]; rfl⟩, fun σ2 H2 => ∃ st loc x y, σ2 = [some (.ref tl), some (.ref (sl 0)), x, y] ∧ Ex H H2 ∧ Shs (Sk.at (31 + 30000 * (i + 1))) Dk H H2 loc sl st ∧ AccT Sk Dk C H (fun loc sl st H' => Q (.ref (sl 0)) H') E (endSheet rows.length (sheetGo n (rows.drop (i + 1)) (i + 1) st)),
        fun σ2 H2 z => ⟨rows.length - (i + 1), by omega, rfl, hlt, z⟩, ?_⟩
      rintro v H2 ⟨T, z, rfl, nT, rfl, hz⟩
      have hzz := hz _ hq
      rw [List.getElem?_map, List.getElem?_eq_getElem hlt] at hzz
      cases hzz
      refine ⟨T, _, rfl, st_of upd_same, rfl, _, _, rfl, _, _, rfl, rfl, ?_⟩
      have e2 : Ex H' (L2.upd H' T (.tup [.int (i : Nat), .str rows[i]])) := fr_new nT
      have hdrop : rows.drop i = rows[i] :: rows.drop (i + 1) := List.drop_eq_getElem_cons hlt
      rw [hdrop, sheetGo_cons] at ac
      have hlr := hlen rows[i] (List.getElem_mem hlt)
      refine s_when (b := !isPassed rows[i]) (et_not (et_B (ev_call (ea_cons (ev_var rfl) ea_nil) (sv_passed (by omega))))) (fun hb H3 e3 => ?_) (fun hb H3 e3 => ?_)
      · rw [if_pos hb] at ac
        have sh3 := sh.ex (Ex.trans e2 e3)
        obtain ⟨dx3, _, _, h03, _⟩ := sh3.at_
        exact ⟨.ref (sl 0), rfl, sl 0, dx3, _, rfl, h03, rfl, .int (i : Nat), rfl, i, 1, rfl, rfl, .str rows[i], rfl, 31 + 30000 * i, H, loc, sl, st, (i : Int) + 1, rows[i], rfl, hlr, by omega, Ex.trans e (Ex.trans e2 e3), sh3, acc_row (kb := 31 + 30000 * i + 30000) ac fun H4 loc' st' e4 sh4 ac => ⟨st', loc', _, _, rfl, e4, by rw [show 31 + 30000 * (i + 1) = 31 + 30000 * i + 30000 by omega]; exact sh4, ac⟩⟩
      · rw [if_neg (by rw [hb]; exact Bool.noConfusion)] at ac
        exact ⟨st, loc, _, _, rfl, Ex.trans e (Ex.trans e2 e3), (sh.ex (Ex.trans e2 e3)).more (by omega), ac⟩
    · refine .inl ⟨⟨_, hq, by rw [List.length_map]; omega⟩, ?_⟩
      have hdrop : rows.drop i = [] := List.drop_eq_nil_of_le (by omega)
      rw [hdrop] at ac
      unfold sheetGo endSheet at ac
      dsimp only at ac
      obtain ⟨dx3, _, _, h03, _⟩ := sh.at_
      have eR : EvT (tTest (tOp (fun x y H Q => y = .non ∧ Q (.bl (decide (x = .non))) H) (tFld K (tVar 1) "root") (tC .non))) [some (.ref tl), some (.ref (sl 0)), x, y] H' (decide (rootV loc st.root = .non)) :=
        et_test (ev_op (ev_fld (ev_var rfl) h03 Sk.cl Sk.nRoot ls_root) ev_c rv_isN)
      dsimp only
      refine q_when eR (fun hb H3 e3 => ?_) (fun hb H3 e3 => ?_)
      · cases hr' : st.root with
        | none =>
          rw [hr'] at ac
          have eLn : Ev (tCB (fun xs H Q => ∃ x n, xs = [x] ∧ LenV K x H n ∧ Q (.int n) H) (tCons (tVar 0) tNil)) [some (.ref tl), some (.ref (sl 0)), x, y] H3 (.int ((rows.length : Nat) : Int)) := fun H5 e5 Q q => ⟨.ref tl, rfl, _, rows.length, rfl, .inl ⟨_, sq_of (e5 _ _ (e3 _ _ (e _ _ htl))), by rw [List.length_map]⟩, q H5 (Ex.refl H5)⟩
          have eA : EvA (tCons (tOp (rI0 fun i j => .int (i + j)) (tCB (fun xs H Q => ∃ x n, xs = [x] ∧ LenV K x H n ∧ Q (.int n) H) (tCons (tVar 0) tNil)) (tC (.int 1))) (tCons (tC (.int 1)) tNil)) [some (.ref tl), some (.ref (sl 0)), x, y] H3 [.int ((rows.length : Nat) + 1), .int 1] := ea_cons (ev_op eLn ev_c rv_I0) (ea_cons ev_c ea_nil)
          exact eA H3 (Ex.refl H3) _ fun H4 e4 => ⟨by show 2 ≤ 1000; decide, made2x C.T C.fR C.fC fun d H5 e5 z => ac d H5 (Ex.trans e (Ex.trans e3 (Ex.trans e4 e5))) z⟩
        | some k =>
          rw [hr'] at hb
          exact absurd (of_decide_eq_true hb) (fun z => by cases z)
      · cases hr' : st.root with
        | none =>
          rw [hr'] at hb
          exact absurd rfl (of_decide_eq_false hb)
        | some k =>
          rw [hr'] at ac
          exact s_ret (v := .ref (sl 0)) (D := { nx := _, rt := Q }) (ev_var rfl) fun H4 e4 => ac _ H4 loc sl (Ex.trans e (Ex.trans e3 e4)) (sh.ex (Ex.trans e3 e4))
end
end Prs
set_option Elab.async false
set_option linter.all false
set_option maxRecDepth 100000
set_option maxHeartbeats 4000000
namespace Prs
open PySem PySem.Spec PyProof.Rows L2 Evl
def toldT (m : Nat) : ResT Sh → ResT PyData
  | none => none
  | some (.inl e) => some (.inl e)
  | some (.inr st) => match chartM m st with
    | none => none
    | some d => some (.inr d)
/-- read_chart: n the terms and guards within one another, m the stands within one another, at the most -/
def readM (n m : Nat) (rows : List Str) : ResT PyData := toldT m (sheetM n rows)
section
variable {P : Program} {w : World} {K : PySem.W.Frag} {mg : Str → Option Value} {base : Heap} {C : Cn P w K mg base}
def AccC (C : Cn P w K mg base) (H0 : Hp) (Q : VK) (E : XK) : ResT PyData → Prop
  | none => False
  | some (.inl (r, c)) => ∀ d H', Ex H0 H' → H' d = some (.xd [("column", .int (c : Nat)), ("row", .int (r : Nat))]) → E (.ref C.N) (some d) H'
  | some (.inr d) => ∀ v H', Ex H0 H' → DT H' d v → Q v H'
def spRead (C : Cn P w K mg base) (n m : Nat) : Sp := fun vs H Q E => ∃ tl rows, vs = [.ref tl] ∧ H tl = some (.lst (rows.map V.str)) ∧ rows.length ≤ 500 ∧ (∀ r, r ∈ rows → r.length ≤ 10000) ∧ AccC C H Q E (readM n m rows)
theorem acc_chart {Sk : Sc K mg} {Dk : Dc K mg} {H : Hp} {Q : VK} {E : XK} {m : Nat} {x : ResT Sh} {Qf : (Nat → Addr) → (Nat → Addr) → Sh → Hp → Prop} (ac : AccC C H Q E (toldT m x)) (k : ∀ kb H' loc sl st d, Ex H H' → Shs (Sk.at kb) Dk H H' loc sl st → chartM m st = some d → (∀ v H', Ex H H' → DT H' d v → Q v H') → Qf loc sl st H') : AccT Sk Dk C H Qf E x := by
  match x, ac with
  | some (.inl (r, c)), ac => exact ac
  | some (.inr st), ac =>
    intro kb H' loc sl e s
    unfold toldT at ac
    dsimp only at ac
    cases hc : chartM m st with
    | none =>
      rw [hc] at ac
      exact ac.elim
    | some d =>
      rw [hc] at ac
      exact k kb H' loc sl st d e s hc ac
end
end Prs
set_option Elab.async false
set_option linter.all false
set_option maxRecDepth 100000
set_option maxHeartbeats 4000000
namespace Prs
open PySem PySem.Spec PyProof.Rows L2 Evl
abbrev sRead : Stmt := top 57
section
variable {P : Program} {w : World} {K : PySem.W.Frag} {mg : Str → Option Value} {base : Heap} {C : Cn P w K mg base}
theorem scRead : FnScope ["text"] ["text"] (defScope sRead) := ⟨rfl, rfl, rfl, by decide +kernel, rfl, by decide +kernel, by decide +kernel⟩
theorem ok_read {f fC : Addr} {fd fdC : FuncData} {n m k : Nat} (Sk : Sc K mg) (Dk : Dc K mg) (DS : Df K mg "read_sheet" sSheet ["text"]) (GS : FnOk P w K mg base (L2.CX P w) k DS.f DS.fd ["text"] (spSheet Sk Dk C n)) (GC : FnOk P w K mg base CX0 k fC fdC ["self"] (spChart Sk Dk m)) (bC : Binds K fdC ["self"] []) (mC : Meth K Sk.S "chart" fC)
    (F : Fun K "read_chart" "read_chart" sRead f fd) : FnOk P w K mg base (L2.CX P w) (k + 1) f fd ["text"] (spRead C n m) := by
  refine F.okX scRead (fun vs H Q E h => ?_) (fun cdv A outer s0 H vs Q E hr h => ?_)
  · obtain ⟨tl, rows, rfl, _⟩ := h
    rfl
  · obtain ⟨tl, rows, rfl, htl, hmany, hlen, ac⟩ := h
    refine ⟨_, pss_one (ps_ret (pe_meth0 (pe_call GS hr rfl DS.m DS.F.kp DS.b .nil (passes_call (takes_of rfl rfl rfl rfl) fun _ _ _ _ h => h) (pa_cons (pv 0) pa_nil)) Sk.cl mC GC hr bC .nil (passAny (E := E)))), ?_⟩
    refine ⟨.ref tl, rfl, tl, rows, rfl, htl, hmany, hlen, acc_chart ac fun kb H' loc sl st d e s hc q => ?_⟩
    obtain ⟨dx, _, _, h0, _⟩ := s.at_
    exact ⟨sl 0, dx, _, rfl, h0, rfl, kb, H, loc, sl, st, d, rfl, s, hc, fun v H2 e2 hv => q v H2 (Ex.trans e e2) hv⟩
end
end Prs
set_option Elab.async false
set_option linter.all false
set_option maxRecDepth 100000
set_option maxHeartbeats 4000000
/-! f(k = v, ..), nothing by its place -/
namespace L2
open PySem PySem.Spec PyProof.Rows
section
variable {X : Cx} {CX : CXT} {k : Nat} {f : Addr} {fd : FuncData} {ps ks : List Str} {sp : Sp} {E : XK} {x : Str} {p pos : Pos} {kws : List Keyword} {tk : TA} {g : List Value → List Value → List Value} {gV : List V → List V → List V}
theorem pe_onlyK (G : FnOk X.prog X.w X.K X.mg X.base CX k f fd ps sp) (room : Room k X.A) (gl : Gl X x) (at_ : X.mg x = some (.ref f)) (kp : PySem.W.keepIn X.K (.ref f) = true) (B : KBn X.K fd ps 0 ks g gV) (out : Passes CX X E)
    (T : PK X kws tk) (e1 : (backToKw pos (keywordEach kws X.env)).all (·.1.isSome) = true := by rfl) (e2 : (backToKw pos (keywordEach kws X.env)).filterMap (·.1) = ks := by rfl)
    (e3 : (x == ("__debug__" : Str)) = false := by decide) (e4 : ((backTo pos (starEach [] X.env)).any (·.1) || (backToKw pos (keywordEach kws X.env)).any (·.1.isNone)) = false := by rfl) :
    PE X (.Call (.Name x p) [] kws pos) (tCallN 0 ks.length sp gV E tNil tk) :=
  ⟨fun pins s σ H Q I h => wpAny_Call_Name_kw (ld_glob I gl at_ (PySem.W.callWith_KW0 (h₀ := X.base) I.ok.mod.kin kp e1 (thn (T.run pos pins s σ H _ I h) fun ws s2 ⟨zs, H2, I2, rz, n1, n2, q⟩ => ⟨I2.kIn, by
    rw [e2]
    exact run_fnN (us := []) (vs := []) G room B out I2 .nil rz n1 n2 q⟩) e4) e3)⟩
/-- a def of one parameter, called by its name alone -/
theorem Fun.byName {K : PySem.W.Frag} {x q a : Str} {st : Stmt} {f : Addr} {fd : FuncData} (F : Fun K x q st f fd)
    (h : ∀ (kV doc pm : Value) (an : Option Addr) (cdv ct : Value) (u : Value), bindArgs (PySem.W.fnOf x q (defArgs st) (defBody st) (defScope st) .none kV doc pm an cdv ct) ⟨[], [(a, u)]⟩ = pure [(a, u)]) : KBn K fd [a] 0 [a] (fun us ws => us ++ ws) (fun vs zs => vs ++ zs) := by
  obtain ⟨oc, od, kV, doc, pm, an, cdv, ct, osl, rfl, lk, hcd⟩ := F.ex
  refine ⟨fun s us ws _ l1 l2 => ?_, fun r z => r.append z⟩
  match us, ws, l1, l2 with
  | [], [u], _, _ => exact .of_eq (h kV doc pm an cdv ct u)
end
end L2
set_option Elab.async false
set_option linter.all false
set_option maxRecDepth 100000
set_option maxHeartbeats 8000000
namespace Prs
open PySem PySem.Spec PyProof.Rows L2 Evl
/-! ### what the top has made, asked at once: an exception's class -/
def oexB (K : PySem.W.Frag) (C : Addr) : Bool := match K.lookup C with
  | some ⟨.type "type", _, .cls cd, sl⟩ => (match cd.mro, sl.toList with
    | .ref C' :: bm, [_, _, _, _, some (.builtin n), _] => C' == C && n == "ValueError.__new__" && !cd.hasDel && cd.hasDict && PySem.HandSPX.refsVE bm
    | _, _ => false)
  | _ => false
theorem oex_cls {K : PySem.W.Frag} {C : Addr} (h : oexB K C = true) : ∃ nm q N bs bm sn sub ab col dd k0 k1 k2 k3 k5, K.lookup C = some (excClassObj nm q C N bs bm true sn sub ab col dd k0 k1 k2 k3 k5 "ValueError.__new__") ∧ PySem.HandSPX.refsVE bm = true := by
  unfold oexB at h
  split at h
  · rename_i dd cd sl ho
    split at h
    · rename_i C' bm k0 k1 k2 k3 n k5 hm hs
      simp only [Bool.and_eq_true, beq_iff_eq, Bool.not_eq_true'] at h
      obtain ⟨⟨⟨⟨rfl, rfl⟩, hdel⟩, hdi⟩, hr⟩ := h
      obtain ⟨nm, bs, mro, ns, qn, hd, sn, sub, ab, col, del⟩ := cd
      dsimp only at hm hdel hdi
      subst hm hdel hdi
      obtain ⟨l⟩ := sl
      simp only at hs
      subst hs
      exact ⟨nm, qn, ns, bs, bm, sn, sub, ab, col, dd, k0, k1, k2, k3, k5, ho, hr⟩
    · cases h
  · cases h
def excB (K : PySem.W.Frag) (C : Addr) : Bool := PySem.W.findIn K (.ref C) "__getattribute__" == some (some (.builtin "BaseException.__getattribute__")) && PySem.W.findIn K (.ref C) "__getattr__" == some none &&
  PySem.W.subIn K (.ref C) (.type "BaseException") == some true && PySem.W.hasDictIn K C
def fldB (K : PySem.W.Frag) (C : Addr) (fs : List Str) : Bool := oexB K C && PySem.W.findIn K (.ref C) "__setattr__" == some (some (.builtin "object.__setattr__")) && PySem.W.typeIn K (.ref C) == some (.type "type") && PySem.W.keepIn K (.ref C) && fs.all fun f => PySem.W.findIn K (.ref C) f == some none
theorem oexC_of {K : PySem.W.Frag} {C : Addr} {fs : List Str} (h : fldB K C fs = true) (e : excB K C = true) : OexC K C := by
  unfold fldB at h
  unfold excB at e
  simp only [Bool.and_eq_true, beq_iff_eq] at h e
  obtain ⟨⟨⟨⟨h1, h2⟩, h3⟩, h4⟩, _⟩ := h
  exact ⟨oex_cls h1, h2, e.1.2, h3, h4⟩
theorem xAt_of {K : PySem.W.Frag} {C : Addr} {fs : List Str} (h : fldB K C fs = true) (e : excB K C = true) {f : Str} (hf : f ∈ fs) : XAt K C f := by
  unfold fldB at h
  unfold excB at e
  simp only [Bool.and_eq_true, beq_iff_eq] at h e
  have := List.all_eq_true.mp h.2 f hf
  exact ⟨e.1.1.1, e.1.1.2, e.1.2, e.2, beq_iff_eq.mp this⟩
theorem no_of {K : PySem.W.Frag} {C : Addr} {fs : List Str} (h : fldB K C fs = true) {f : Str} (hf : f ∈ fs) : PySem.W.findIn K (.ref C) f = some none := by
  unfold fldB at h
  simp only [Bool.and_eq_true, beq_iff_eq] at h
  exact beq_iff_eq.mp (List.all_eq_true.mp h.2 f hf)
/-! ### a method that is taken as a value, a class's def -/
def bmB (K : PySem.W.Frag) (x m : Str) : Bool := He.eqO (PySem.W.specialIn K (.ref (He.ma K (He.ga K x) m)) "__get__") (some (some (.builtin "function.__get__"))) && (decide (PySem.W.takesIn K (.ref (He.ma K (He.ga K x) m)) = some false) && PySem.W.fnIn K (He.ma K (He.ga K x) m))
theorem bm_of {K : PySem.W.Frag} {x m : Str} (h : bmB K x m = true) (M : Meth K (He.ga K x) m (He.ma K (He.ga K x) m)) (cp : PySem.W.copiedNames.contains m = false) : BMeth K (He.ga K x) m (He.ma K (He.ga K x) m) := by
  obtain ⟨h1, h2⟩ := He.ba h
  obtain ⟨h3, h4⟩ := He.ba h2
  exact ⟨M, He.eqO_ok h1, of_decide_eq_true h3, cp, h4⟩
theorem fun_of {K : PySem.W.Frag} {x qual : Str} {st : Stmt} {f : Addr} {fd : FuncData} (F : FunD K x qual (defArgs st) (defBody st) (defScope st) [] [] f fd) : Fun K x qual st f fd := by
  obtain ⟨oc, od, dV, kV, doc, pm, an, cdv, ct, osl, rfl, lk, hcd, hD, hK⟩ := F.ex
  rcases hD with ⟨_, rfl⟩ | ⟨h, _⟩
  · exact ⟨⟨oc, od, kV, doc, pm, an, cdv, ct, osl, rfl, lk, hcd⟩, F.kp⟩
  · exact absurd rfl h
/-! ### a dict of the top, all its keys -/
theorem isStr_lit {x z : Str} {t : PySem.Tok} : (Value.str x t).isStr z = decide (x = z) := by
  show (x == z) = decide (x = z)
  by_cases h : x = z
  · subst h
    simp
  · simp [h]
theorem find_keys {P : Params} {z : Str} : ∀ {es : List DictEntry} {ks : List Str}, es.map He.keyOf = He.keysIn P ks → (es.find? (·.key.isStr z)).isSome = decide (z ∈ ks) ∧ es.any (·.refKey) = false
  | [], [], _ => ⟨rfl, rfl⟩
  | [], _ :: _, h => by cases h
  | _ :: _, [], h => by cases h
  | e :: es, k :: ks, h => by
    have h1 : He.keyOf e :: es.map He.keyOf = some (k, PyData.keyHash P k) :: He.keysIn P ks := h
    injection h1 with h2 h3
    obtain ⟨i1, i2⟩ := find_keys (z := z) h3
    unfold He.keyOf at h2
    split at h2
    · rename_i x t q
      have h4 := Option.some.inj h2
      obtain ⟨h5, _⟩ := Prod.mk.inj h4
      subst h5
      constructor
      · rw [List.find?_cons]
        cases hb : e.key.isStr z with
        | true =>
          rw [q, isStr_lit] at hb
          have := of_decide_eq_true hb
          subst this
          simp
        | false =>
          rw [q, isStr_lit] at hb
          have hne := of_decide_eq_false hb
          show (es.find? (·.key.isStr z)).isSome = _
          rw [i1]
          simp only [List.mem_cons]
          have : ¬ z = x := fun y => hne y.symm
          simp [this]
      · rw [List.any_cons, i2, Bool.or_false]
        unfold DictEntry.refKey
        rw [q]
    · cases h2
theorem ns_all {K : PySem.W.Frag} {P : Params} {a : Addr} {ks : List Str} (h : He.dicW K a = some (He.keysIn P ks)) (z : Str) : ∃ r, PySem.W.nsIn K a z = some r ∧ r.isSome = decide (z ∈ ks) := by
  unfold He.dicW at h
  split at h
  · rename_i c es n sl hl
    split at h
    · obtain ⟨i1, i2⟩ := find_keys (z := z) (Option.some.inj h)
      unfold PySem.W.nsIn
      rw [hl]
      dsimp only
      cases hf : es.toList.find? (·.key.isStr z) with
      | some e =>
        rw [hf] at i1
        exact ⟨some e.val, rfl, i1⟩
      | none =>
        rw [hf] at i1
        rw [i2]
        exact ⟨none, rfl, i1⟩
    · cases h
  · cases h
theorem inV_strs {z : Str} : ∀ {ks : List Str}, inV (.str z) (ks.map V.str) = decide (z ∈ ks)
  | [] => by simp [inV]
  | k :: ks => by
    have := inV_strs (z := z) (ks := ks)
    unfold inV at this ⊢
    simp only [List.map_cons, List.any_cons, List.mem_cons]
    rw [this]
    by_cases h : z = k
    · subst h
      simp [eqV]
    · have h' : ¬ k = z := fun y => h y.symm
      simp [eqV, h, h']

/-! ### the defs -/
def d_is_name : He.DefD := ⟨("is_name", none), "is_name", "is_name", defArgs sIsName, defBody sIsName, defScope sIsName, [], []⟩
def d_end_of_run : He.DefD := ⟨("end_of_run", none), "end_of_run", "end_of_run", defArgs sRun, defBody sRun, defScope sRun, [], []⟩
def d_end_of_word : He.DefD := ⟨("end_of_word", none), "end_of_word", "end_of_word", defArgs sWord, defBody sWord, defScope sWord, [], []⟩
def d_kind_of : He.DefD := ⟨("kind_of", none), "kind_of", "kind_of", defArgs sKind, defBody sKind, defScope sKind, [], []⟩
def d_blanks_of : He.DefD := ⟨("blanks_of", none), "blanks_of", "blanks_of", defArgs sBlanks, defBody sBlanks, defScope sBlanks, [], []⟩
def d_is_passed : He.DefD := ⟨("is_passed", none), "is_passed", "is_passed", defArgs sPassed, defBody sPassed, defScope sPassed, [], []⟩
def d_words_of : He.DefD := ⟨("words_of", none), "words_of", "words_of", defArgs sWordsOf, defBody sWordsOf, defScope sWordsOf, [], []⟩
def d_known_words : He.DefD := ⟨("known_words", none), "known_words", "known_words", defArgs sKnownW, defBody sKnownW, defScope sKnownW, [], []⟩
def d_kind_of_whole : He.DefD := ⟨("kind_of_whole", none), "kind_of_whole", "kind_of_whole", defArgs sWhole, defBody sWhole, defScope sWhole, [], []⟩
def d_quick_words : He.DefD := ⟨("quick_words", none), "quick_words", "quick_words", defArgs sQuick, defBody sQuick, defScope sQuick, [], []⟩
def d_read_part : He.DefD := ⟨("read_part", none), "read_part", "read_part", defArgs sPart, defBody sPart, defScope sPart, [], []⟩
def d_rest_of_term : He.DefD := ⟨("rest_of_term", none), "rest_of_term", "rest_of_term", defArgs sRest, defBody sRest, defScope sRest, [], []⟩
def d_read_term : He.DefD := ⟨("read_term", none), "read_term", "read_term", defArgs sTerm, defBody sTerm, defScope sTerm, [], []⟩
def d_rest_of_comparison : He.DefD := ⟨("rest_of_comparison", none), "rest_of_comparison", "rest_of_comparison", defArgs sComp, defBody sComp, defScope sComp, [], []⟩
def d_read_either_kind : He.DefD := ⟨("read_either_kind", none), "read_either_kind", "read_either_kind", defArgs sEither, defBody sEither, defScope sEither, [], []⟩
def d_read_bracket : He.DefD := ⟨("read_bracket", none), "read_bracket", "read_bracket", defArgs sBracket, defBody sBracket, defScope sBracket, [], []⟩
def d_read_one : He.DefD := ⟨("read_one", none), "read_one", "read_one", defArgs sOne, defBody sOne, defScope sOne, [], []⟩
def d_rest_of_both : He.DefD := ⟨("rest_of_both", none), "rest_of_both", "rest_of_both", defArgs sBoth, defBody sBoth, defScope sBoth, [], []⟩
def d_rest_of_guard : He.DefD := ⟨("rest_of_guard", none), "rest_of_guard", "rest_of_guard", defArgs sRGuard, defBody sRGuard, defScope sRGuard, [], []⟩
def d_read_guard : He.DefD := ⟨("read_guard", none), "read_guard", "read_guard", defArgs sGuard, defBody sGuard, defScope sGuard, [], []⟩
def d_read_deed : He.DefD := ⟨("read_deed", none), "read_deed", "read_deed", defArgs sDeed, defBody sDeed, defScope sDeed, [], []⟩
def d_read_deeds : He.DefD := ⟨("read_deeds", none), "read_deeds", "read_deeds", defArgs sDeeds, defBody sDeeds, defScope sDeeds, [], []⟩
def d_read_goals : He.DefD := ⟨("read_goals", none), "read_goals", "read_goals", defArgs sGoals, defBody sGoals, defScope sGoals, [], []⟩
def d_read_when : He.DefD := ⟨("read_when", none), "read_when", "read_when", defArgs sWhen, defBody sWhen, defScope sWhen, [], []⟩
def d_read_move : He.DefD := ⟨("read_move", none), "read_move", "read_move", defArgs sMove, defBody sMove, defScope sMove, [], []⟩
def d_read_signed : He.DefD := ⟨("read_signed", none), "read_signed", "read_signed", defArgs sSigned, defBody sSigned, defScope sSigned, [], []⟩
def d_read_fact : He.DefD := ⟨("read_fact", none), "read_fact", "read_fact", defArgs sFact, defBody sFact, defScope sFact, [], []⟩
def d_read_sheet : He.DefD := ⟨("read_sheet", none), "read_sheet", "read_sheet", defArgs sSheet, defBody sSheet, defScope sSheet, [], []⟩
def d_read_chart : He.DefD := ⟨("read_chart", none), "read_chart", "read_chart", defArgs sRead, defBody sRead, defScope sRead, [], []⟩
def d_Words___init__ : He.DefD := ⟨("Words", some "__init__"), "__init__", "Words.__init__", defArgs sInit, defBody sInit, defScope sInit, [], []⟩
def d_Words_ahead : He.DefD := ⟨("Words", some "ahead"), "ahead", "Words.ahead", defArgs sAhead, defBody sAhead, defScope sAhead, [], []⟩
def d_Words_take : He.DefD := ⟨("Words", some "take"), "take", "Words.take", defArgs sTake, defBody sTake, defScope sTake, [], []⟩
def d_Words_take_if : He.DefD := ⟨("Words", some "take_if"), "take_if", "Words.take_if", defArgs sTakeIf, defBody sTakeIf, defScope sTakeIf, [], []⟩
def d_Draft___init__ : He.DefD := ⟨("Draft", some "__init__"), "__init__", "Draft.__init__", defArgs sDInit, defBody sDInit, defScope sDInit, [], []⟩
def d_Draft_next_words : He.DefD := ⟨("Draft", some "next_words"), "next_words", "Draft.next_words", defArgs sNext, defBody sNext, defScope sNext, [], []⟩
def d_Draft_read_inner : He.DefD := ⟨("Draft", some "read_inner"), "read_inner", "Draft.read_inner", defArgs sInner, defBody sInner, defScope sInner, [], []⟩
def d_Draft_finished : He.DefD := ⟨("Draft", some "finished"), "finished", "Draft.finished", defArgs sFin, defBody sFin, defScope sFin, [], []⟩
def d_Sheet___init__ : He.DefD := ⟨("Sheet", some "__init__"), "__init__", "Sheet.__init__", defArgs sSInit, defBody sSInit, defScope sSInit, [], []⟩
def d_Sheet_chart : He.DefD := ⟨("Sheet", some "chart"), "chart", "Sheet.chart", defArgs sChart, defBody sChart, defScope sChart, [], []⟩
def d_Sheet_read_head : He.DefD := ⟨("Sheet", some "read_head"), "read_head", "Sheet.read_head", defArgs sHead, defBody sHead, defScope sHead, [], []⟩
def d_Sheet_read_row : He.DefD := ⟨("Sheet", some "read_row"), "read_row", "Sheet.read_row", defArgs sRow, defBody sRow, defScope sRow, [], []⟩
abbrev sNT : Stmt := inClass (top 13) 0
def d_NT : He.DefD := ⟨("NoText", some "__init__"), "__init__", "NoText.__init__", defArgs sNT, defBody sNT, defScope sNT, [.non, .non], []⟩
theorem scNT : FnScope ["self", "row", "column"] ["self", "row", "column"] (defScope sNT) := ⟨rfl, rfl, rfl, by decide +kernel, rfl, by decide +kernel, by decide +kernel⟩
theorem okNT {P : Program} {w : World} {K : PySem.W.Frag} {mg : Str → Option Value} {base : Heap} {f : Addr} {fd : FuncData} (F : FunD K "__init__" "NoText.__init__" (defArgs sNT) (defBody sNT) (defScope sNT) [.non, .non] [] f fd) : FnOk P w K mg base CX0 1 f fd ["self", "row", "column"] (spI2 K "row" "column") := by
  refine F.ok scNT (fun vs H Q E h => ?_) (fun cdv A outer s H vs Q E hr h => ⟨_, ?_, read_i2 rfl h⟩)
  · obtain ⟨_, _, _, _, rfl, _⟩ := h
    rfl
  · exact pss_cons (ps_ost (pv 0) (pv 1)) (pss_one (ps_ost (pv 0) (pv 2)))
theorem bNT {K : PySem.W.Frag} {f : Addr} {fd : FuncData} (F : FunD K "__init__" "NoText.__init__" (defArgs sNT) (defBody sNT) (defScope sNT) [.non, .non] [] f fd) : Binds K fd ["self", "row", "column"] [] := by
  obtain ⟨ds, h, hb⟩ := FunD.binds1 (ps := ["self", "row", "column"]) F 3 2 (by intro h; cases h) rfl (fun _ _ _ _ _ _ _ us its l1 l2 => match us, its, l1, l2 with | [_, _, _], [_, _], _, _ => ⟨_, rfl, rfl⟩)
  have : ds = [] := by
    cases ds with
    | nil => rfl
    | cons x r => nomatch h
  subst this
  exact hb
def faR : List He.Fa := [.free "len", .str "LETTERS" "abcdefghijklmnopqrstuvwxyz", .str "FIGURES" "0123456789", .str "MARKS" "()+-<=,", .int "MOST_SIGNS" 8, .int "MOST_FIGURES" 9, .str "NAME" "a name", .str "NUMBER" "a number", .str "NO_WORD" "no word", .str "ROW_END" "the row's end", .cls "Words", .noat "Words" "at", .noat "Words" "kinds", .noat "Words" "texts", .noat "Words" "row", .noat "Words" "number", .glo "Words", .glo "NoText", .meth "NoText" "__init__", .glo "KEYWORDS", .glo "end_of_run", .glo "end_of_word", .glo "kind_of", .glo "blanks_of", .glo "words_of", .free "isinstance", .free "str", .free "list", .glo "is_name", .glo "kind_of_whole", .glo "PARTED", .glo "quick_words", .meth "Words" "take", .meth "Words" "ahead", .meth "Words" "take_if", .free "int", .glo "SUMS", .glo "COMPARED", .glo "read_part", .glo "rest_of_term", .glo "read_term", .glo "rest_of_comparison", .glo "read_either_kind", .glo "read_bracket", .glo "read_one", .glo "rest_of_both", .glo "rest_of_guard", .glo "read_guard", .glo "read_deed", .glo "read_deeds", .glo "read_goals", .glo "read_when", .glo "read_move", .glo "read_signed", .glo "read_fact", .free "tuple", .cls "Draft", .noat "Draft" "name", .noat "Draft" "kind", .noat "Draft" "number", .noat "Draft" "into", .noat "Draft" "out", .noat "Draft" "moves", .noat "Draft" "move_numbers", .noat "Draft" "drafts", .noat "Draft" "passed", .glo "Draft", .glo "SORTS", .glo "FULL_SORTS", .glo "MARKER_SORTS", .glo "INNER_WORDS", .cls "Sheet", .noat "Sheet" "facts", .noat "Sheet" "happenings", .noat "Sheet" "root", .noat "Sheet" "opened", .noat "Sheet" "known", .glo "Sheet", .meth "Draft" "next_words", .mkr "Draft", .mkr "Words", .meth "Sheet" "read_head", .meth "Draft" "read_inner", .glo "known_words", .mkr "Sheet", .glo "is_passed", .meth "Sheet" "read_row", .free "enumerate", .meth "Draft" "finished", .glo "read_sheet", .meth "Sheet" "chart", .exm "NoText" "NoText" true, .glo "read_chart"]
def fnR : List He.DefD := [d_is_name, d_end_of_run, d_end_of_word, d_kind_of, d_blanks_of, d_is_passed, d_words_of, d_known_words, d_kind_of_whole, d_quick_words, d_read_part, d_rest_of_term, d_read_term, d_rest_of_comparison, d_read_either_kind, d_read_bracket, d_read_one, d_rest_of_both, d_rest_of_guard, d_read_guard, d_read_deed, d_read_deeds, d_read_goals, d_read_when, d_read_move, d_read_signed, d_read_fact, d_read_sheet, d_read_chart, d_Words___init__, d_Words_ahead, d_Words_take, d_Words_take_if, d_Draft___init__, d_Draft_next_words, d_Draft_read_inner, d_Draft_finished, d_Sheet___init__, d_Sheet_chart, d_Sheet_read_head, d_Sheet_read_row, d_NT]
def tsR : List He.Tab := [(fun K => He.ga K "KEYWORDS", KEYS), (fun K => He.ga K "SUMS", ["+", "-"]), (fun K => He.ga K "COMPARED", ["<", "="])]
def csR : List (PySem.W.Frag → Bool) := [fun K => He.tupB K "SORTS" (SORTSs.map He.Dv.str), fun K => He.tupB K "FULL_SORTS" (FULL.map He.Dv.str), fun K => He.tupB K "MARKER_SORTS" (MARKER.map He.Dv.str), fun K => He.tupB K "INNER_WORDS" (INNER.map He.Dv.str), fun K => bmB K "Words" "take", fun K => fldB K (He.ga K "NoText") ["row", "column"], fun K => excB K (He.ga K "NoText"), fun K => He.valsB K (He.ga K "SUMS") [("+", .str "sum"), ("-", .str "less")], fun K => He.valsB K (He.ga K "COMPARED") [("<", .str "below"), ("=", .str "same")], fun K => decide (PySem.W.typeIn K (.ref (He.ma K (He.ga K "NoText") "__init__")) = some (.type "function")), fun K => topTabB K (He.ga K "PARTED") PART]
theorem cs_of {K : PySem.W.Frag} (cc : (csR.all fun f => f K) = true) (i : Nat) {f : PySem.W.Frag → Bool} (h : csR[i]? = some f) : f K = true := List.all_eq_true.mp cc f (List.mem_of_getElem? h)
theorem tab_of {w : World} {K : PySem.W.Frag} (c : He.SaysT faR fnR tsR w K) (i : Nat) {t : He.Tab} (h : tsR[i]? = some t) : He.dicW K (t.1 K) = some (He.keysIn w.params t.2) := by
  have e : tsR.map (fun t => He.dicW K (t.1 K)) = tsR.map fun t => some (He.keysIn w.params t.2) := congrArg (fun z : He.AlT => z.2) c
  have e2 : (tsR.map fun t => He.dicW K (t.1 K))[i]? = (tsR.map fun t => some (He.keysIn w.params t.2))[i]? := by rw [e]
  rw [List.getElem?_map, List.getElem?_map, h] at e2
  exact Option.some.inj e2
section
variable {P : Program} {w : World} {K : PySem.W.Frag} {mg : Str → Option Value} {base h : Heap}
theorem ktup_of (X : K.In h) (G : h.Ns mainGlobals mg) {x : Str} {l : List Str} (c : (He.Fa.glo x).ok K = true) (t : He.tupB K x (l.map He.Dv.str) = true) : KTup K mg x (l.map V.str) := by
  refine ⟨_, He.glo_ok X G c, fun H => ?_⟩
  have := He.tupB_ok t H
  rw [List.map_map] at this
  exact this
theorem kset_of (X : K.In h) (G : h.Ns mainGlobals mg) {x : Str} {l : List Str} (c : (He.Fa.glo x).ok K = true) (d : He.dicW K (He.ga K x) = some (He.keysIn w.params l)) : KSet K w mg x (l.map V.str) := by
  obtain ⟨es, n, D⟩ := He.dicW_ok d
  refine ⟨_, es, n, He.glo_ok X G c, D, fun z => ?_⟩
  rw [inV_strs]
  exact ns_all d z
theorem strV_of {K : PySem.W.Frag} {a : Addr} {z y : Str} {kvs : List (Str × He.Dv)} (v : He.valsB K a kvs = true) (hm : (z, He.Dv.str y) ∈ kvs) {r : Option Value} (hr : PySem.W.nsIn K a z = some r) : ∃ t, r = some (.str y t) := by
  obtain ⟨u, h1, h2⟩ := He.valsB_ok v hm
  rw [hr] at h1
  obtain rfl := Option.some.inj h1
  obtain ⟨t, rfl⟩ : ∃ t, u = .str y t := h2
  exact ⟨t, rfl⟩
theorem kdS_of {a : Addr} (d : He.dicW K a = some (He.keysIn w.params ["+", "-"])) (v : He.valsB K a [("+", .str "sum"), ("-", .str "less")] = true) : KD2 K w a sumsOf := by
  refine ⟨He.dicW_ok d, fun z => ?_⟩
  obtain ⟨r, h1, h2⟩ := ns_all d z
  refine ⟨r, h1, ?_, fun y hy => ?_⟩
  · rw [h2]
    unfold sumsOf
    by_cases a1 : z = "+"
    · subst a1
      rfl
    · by_cases a2 : z = "-"
      · subst a2
        rfl
      · simp [a1, a2]
  · unfold sumsOf at hy
    split at hy
    · rename_i e
      subst e
      obtain rfl := Option.some.inj hy
      exact strV_of v (by simp) h1
    · split at hy
      · rename_i e
        subst e
        obtain rfl := Option.some.inj hy
        exact strV_of v (by simp) h1
      · cases hy
theorem kdC_of {a : Addr} (d : He.dicW K a = some (He.keysIn w.params ["<", "="])) (v : He.valsB K a [("<", .str "below"), ("=", .str "same")] = true) : KD2 K w a compsOf := by
  refine ⟨He.dicW_ok d, fun z => ?_⟩
  obtain ⟨r, h1, h2⟩ := ns_all d z
  refine ⟨r, h1, ?_, fun y hy => ?_⟩
  · rw [h2]
    unfold compsOf
    by_cases a1 : z = "<"
    · subst a1
      rfl
    · by_cases a2 : z = "="
      · subst a2
        rfl
      · simp [a1, a2]
  · unfold compsOf at hy
    split at hy
    · rename_i e
      subst e
      obtain rfl := Option.some.inj hy
      exact strV_of v (by simp) h1
    · split at hy
      · rename_i e
        subst e
        obtain rfl := Option.some.inj hy
        exact strV_of v (by simp) h1
      · cases hy
end
set_option maxHeartbeats 0 in
/-- read_chart, by what the top has made -/
theorem reader {P : Program} {w : World} {K : PySem.W.Frag} {mg : Str → Option Value} {base h : Heap} (n m : Nat) (hm : m ≤ 11 + 4 * n) (X : K.In h) (G : h.Ns mainGlobals mg) (c : He.SaysT faR fnR tsR w K) (cc : (csR.all fun f => f K) = true) :
    ∃ (C : Cn P w K mg base) (_ : Gn K mg), PySem.W.exmOne K (.ref C.N) (.ref C.N) = some true ∧ XAt K C.N "row" ∧ XAt K C.N "column" ∧ ∃ fdR, FnOk P w K mg base (L2.CX P w) ((((10 + 4 * n) + 1) + 1) + 1) (He.ga K "read_chart") fdR ["text"] (spRead C n m) ∧ Binds K fdR ["text"] [] ∧ PySem.W.keepIn K (.ref (He.ga K "read_chart")) = true ∧ mg "read_chart" = some (.ref (He.ga K "read_chart")) ∧ KBn K fdR ["text"] 0 ["text"] (fun us ws => us ++ ws) (fun vs zs => vs ++ zs) := by
  obtain ⟨fd_is_name, FD_is_name⟩ := c.d.def_ 0 (d := d_is_name) rfl
  have F_is_name := fun_of (st := sIsName) FD_is_name
  have B_is_name := F_is_name.binds (ps := ["thing"]) fun _ _ _ _ _ _ us hl => match us, hl with | [_], _ => rfl
  obtain ⟨fd_end_of_run, FD_end_of_run⟩ := c.d.def_ 1 (d := d_end_of_run) rfl
  have F_end_of_run := fun_of (st := sRun) FD_end_of_run
  have B_end_of_run := F_end_of_run.binds (ps := ["row", "at", "signs", "most"]) fun _ _ _ _ _ _ us hl => match us, hl with | [_, _, _, _], _ => rfl
  obtain ⟨fd_end_of_word, FD_end_of_word⟩ := c.d.def_ 2 (d := d_end_of_word) rfl
  have F_end_of_word := fun_of (st := sWord) FD_end_of_word
  have B_end_of_word := F_end_of_word.binds (ps := ["row", "at"]) fun _ _ _ _ _ _ us hl => match us, hl with | [_, _], _ => rfl
  obtain ⟨fd_kind_of, FD_kind_of⟩ := c.d.def_ 3 (d := d_kind_of) rfl
  have F_kind_of := fun_of (st := sKind) FD_kind_of
  have B_kind_of := F_kind_of.binds (ps := ["word"]) fun _ _ _ _ _ _ us hl => match us, hl with | [_], _ => rfl
  obtain ⟨fd_blanks_of, FD_blanks_of⟩ := c.d.def_ 4 (d := d_blanks_of) rfl
  have F_blanks_of := fun_of (st := sBlanks) FD_blanks_of
  have B_blanks_of := F_blanks_of.binds (ps := ["row"]) fun _ _ _ _ _ _ us hl => match us, hl with | [_], _ => rfl
  obtain ⟨fd_is_passed, FD_is_passed⟩ := c.d.def_ 5 (d := d_is_passed) rfl
  have F_is_passed := fun_of (st := sPassed) FD_is_passed
  have B_is_passed := F_is_passed.binds (ps := ["row"]) fun _ _ _ _ _ _ us hl => match us, hl with | [_], _ => rfl
  obtain ⟨fd_words_of, FD_words_of⟩ := c.d.def_ 6 (d := d_words_of) rfl
  have F_words_of := fun_of (st := sWordsOf) FD_words_of
  have B_words_of := F_words_of.binds (ps := ["row"]) fun _ _ _ _ _ _ us hl => match us, hl with | [_], _ => rfl
  obtain ⟨fd_known_words, FD_known_words⟩ := c.d.def_ 7 (d := d_known_words) rfl
  have F_known_words := fun_of (st := sKnownW) FD_known_words
  have B_known_words := F_known_words.binds (ps := []) fun _ _ _ _ _ _ us hl => match us, hl with | [], _ => rfl
  obtain ⟨fd_kind_of_whole, FD_kind_of_whole⟩ := c.d.def_ 8 (d := d_kind_of_whole) rfl
  have F_kind_of_whole := fun_of (st := sWhole) FD_kind_of_whole
  have B_kind_of_whole := F_kind_of_whole.binds (ps := ["text"]) fun _ _ _ _ _ _ us hl => match us, hl with | [_], _ => rfl
  obtain ⟨fd_quick_words, FD_quick_words⟩ := c.d.def_ 9 (d := d_quick_words) rfl
  have F_quick_words := fun_of (st := sQuick) FD_quick_words
  have B_quick_words := F_quick_words.binds (ps := ["row", "known"]) fun _ _ _ _ _ _ us hl => match us, hl with | [_, _], _ => rfl
  obtain ⟨fd_read_part, FD_read_part⟩ := c.d.def_ 10 (d := d_read_part) rfl
  have F_read_part := fun_of (st := sPart) FD_read_part
  have B_read_part := F_read_part.binds (ps := ["words"]) fun _ _ _ _ _ _ us hl => match us, hl with | [_], _ => rfl
  obtain ⟨fd_rest_of_term, FD_rest_of_term⟩ := c.d.def_ 11 (d := d_rest_of_term) rfl
  have F_rest_of_term := fun_of (st := sRest) FD_rest_of_term
  have B_rest_of_term := F_rest_of_term.binds (ps := ["words", "term"]) fun _ _ _ _ _ _ us hl => match us, hl with | [_, _], _ => rfl
  obtain ⟨fd_read_term, FD_read_term⟩ := c.d.def_ 12 (d := d_read_term) rfl
  have F_read_term := fun_of (st := sTerm) FD_read_term
  have B_read_term := F_read_term.binds (ps := ["words"]) fun _ _ _ _ _ _ us hl => match us, hl with | [_], _ => rfl
  obtain ⟨fd_rest_of_comparison, FD_rest_of_comparison⟩ := c.d.def_ 13 (d := d_rest_of_comparison) rfl
  have F_rest_of_comparison := fun_of (st := sComp) FD_rest_of_comparison
  have B_rest_of_comparison := F_rest_of_comparison.binds (ps := ["words", "term"]) fun _ _ _ _ _ _ us hl => match us, hl with | [_, _], _ => rfl
  obtain ⟨fd_read_either_kind, FD_read_either_kind⟩ := c.d.def_ 14 (d := d_read_either_kind) rfl
  have F_read_either_kind := fun_of (st := sEither) FD_read_either_kind
  have B_read_either_kind := F_read_either_kind.binds (ps := ["words"]) fun _ _ _ _ _ _ us hl => match us, hl with | [_], _ => rfl
  obtain ⟨fd_read_bracket, FD_read_bracket⟩ := c.d.def_ 15 (d := d_read_bracket) rfl
  have F_read_bracket := fun_of (st := sBracket) FD_read_bracket
  have B_read_bracket := F_read_bracket.binds (ps := ["words"]) fun _ _ _ _ _ _ us hl => match us, hl with | [_], _ => rfl
  obtain ⟨fd_read_one, FD_read_one⟩ := c.d.def_ 16 (d := d_read_one) rfl
  have F_read_one := fun_of (st := sOne) FD_read_one
  have B_read_one := F_read_one.binds (ps := ["words"]) fun _ _ _ _ _ _ us hl => match us, hl with | [_], _ => rfl
  obtain ⟨fd_rest_of_both, FD_rest_of_both⟩ := c.d.def_ 17 (d := d_rest_of_both) rfl
  have F_rest_of_both := fun_of (st := sBoth) FD_rest_of_both
  have B_rest_of_both := F_rest_of_both.binds (ps := ["words", "guard"]) fun _ _ _ _ _ _ us hl => match us, hl with | [_, _], _ => rfl
  obtain ⟨fd_rest_of_guard, FD_rest_of_guard⟩ := c.d.def_ 18 (d := d_rest_of_guard) rfl
  have F_rest_of_guard := fun_of (st := sRGuard) FD_rest_of_guard
  have B_rest_of_guard := F_rest_of_guard.binds (ps := ["words", "guard"]) fun _ _ _ _ _ _ us hl => match us, hl with | [_, _], _ => rfl
  obtain ⟨fd_read_guard, FD_read_guard⟩ := c.d.def_ 19 (d := d_read_guard) rfl
  have F_read_guard := fun_of (st := sGuard) FD_read_guard
  have B_read_guard := F_read_guard.binds (ps := ["words"]) fun _ _ _ _ _ _ us hl => match us, hl with | [_], _ => rfl
  obtain ⟨fd_read_deed, FD_read_deed⟩ := c.d.def_ 20 (d := d_read_deed) rfl
  have F_read_deed := fun_of (st := sDeed) FD_read_deed
  have B_read_deed := F_read_deed.binds (ps := ["words"]) fun _ _ _ _ _ _ us hl => match us, hl with | [_], _ => rfl
  obtain ⟨fd_read_deeds, FD_read_deeds⟩ := c.d.def_ 21 (d := d_read_deeds) rfl
  have F_read_deeds := fun_of (st := sDeeds) FD_read_deeds
  have B_read_deeds := F_read_deeds.binds (ps := ["words"]) fun _ _ _ _ _ _ us hl => match us, hl with | [_], _ => rfl
  obtain ⟨fd_read_goals, FD_read_goals⟩ := c.d.def_ 22 (d := d_read_goals) rfl
  have F_read_goals := fun_of (st := sGoals) FD_read_goals
  have B_read_goals := F_read_goals.binds (ps := ["words"]) fun _ _ _ _ _ _ us hl => match us, hl with | [_], _ => rfl
  obtain ⟨fd_read_when, FD_read_when⟩ := c.d.def_ 23 (d := d_read_when) rfl
  have F_read_when := fun_of (st := sWhen) FD_read_when
  have B_read_when := F_read_when.binds (ps := ["words"]) fun _ _ _ _ _ _ us hl => match us, hl with | [_], _ => rfl
  obtain ⟨fd_read_move, FD_read_move⟩ := c.d.def_ 24 (d := d_read_move) rfl
  have F_read_move := fun_of (st := sMove) FD_read_move
  have B_read_move := F_read_move.binds (ps := ["words"]) fun _ _ _ _ _ _ us hl => match us, hl with | [_], _ => rfl
  obtain ⟨fd_read_signed, FD_read_signed⟩ := c.d.def_ 25 (d := d_read_signed) rfl
  have F_read_signed := fun_of (st := sSigned) FD_read_signed
  have B_read_signed := F_read_signed.binds (ps := ["words"]) fun _ _ _ _ _ _ us hl => match us, hl with | [_], _ => rfl
  obtain ⟨fd_read_fact, FD_read_fact⟩ := c.d.def_ 26 (d := d_read_fact) rfl
  have F_read_fact := fun_of (st := sFact) FD_read_fact
  have B_read_fact := F_read_fact.binds (ps := ["words"]) fun _ _ _ _ _ _ us hl => match us, hl with | [_], _ => rfl
  obtain ⟨fd_read_sheet, FD_read_sheet⟩ := c.d.def_ 27 (d := d_read_sheet) rfl
  have F_read_sheet := fun_of (st := sSheet) FD_read_sheet
  have B_read_sheet := F_read_sheet.binds (ps := ["text"]) fun _ _ _ _ _ _ us hl => match us, hl with | [_], _ => rfl
  obtain ⟨fd_read_chart, FD_read_chart⟩ := c.d.def_ 28 (d := d_read_chart) rfl
  have F_read_chart := fun_of (st := sRead) FD_read_chart
  have B_read_chart := F_read_chart.binds (ps := ["text"]) fun _ _ _ _ _ _ us hl => match us, hl with | [_], _ => rfl
  obtain ⟨fd_Words___init__, FD_Words___init__⟩ := c.d.def_ 29 (d := d_Words___init__) rfl
  have F_Words___init__ := fun_of (st := sInit) FD_Words___init__
  have B_Words___init__ := F_Words___init__.binds (ps := ["self", "number", "row", "known"]) fun _ _ _ _ _ _ us hl => match us, hl with | [_, _, _, _], _ => rfl
  obtain ⟨fd_Words_ahead, FD_Words_ahead⟩ := c.d.def_ 30 (d := d_Words_ahead) rfl
  have F_Words_ahead := fun_of (st := sAhead) FD_Words_ahead
  have B_Words_ahead := F_Words_ahead.binds (ps := ["self"]) fun _ _ _ _ _ _ us hl => match us, hl with | [_], _ => rfl
  obtain ⟨fd_Words_take, FD_Words_take⟩ := c.d.def_ 31 (d := d_Words_take) rfl
  have F_Words_take := fun_of (st := sTake) FD_Words_take
  obtain ⟨fd_Words_take_if, FD_Words_take_if⟩ := c.d.def_ 32 (d := d_Words_take_if) rfl
  have F_Words_take_if := fun_of (st := sTakeIf) FD_Words_take_if
  have B_Words_take_if := F_Words_take_if.binds (ps := ["self", "kind"]) fun _ _ _ _ _ _ us hl => match us, hl with | [_, _], _ => rfl
  obtain ⟨fd_Draft___init__, FD_Draft___init__⟩ := c.d.def_ 33 (d := d_Draft___init__) rfl
  have F_Draft___init__ := fun_of (st := sDInit) FD_Draft___init__
  have B_Draft___init__ := F_Draft___init__.binds (ps := ["self", "name", "sort", "number"]) fun _ _ _ _ _ _ us hl => match us, hl with | [_, _, _, _], _ => rfl
  obtain ⟨fd_Draft_next_words, FD_Draft_next_words⟩ := c.d.def_ 34 (d := d_Draft_next_words) rfl
  have F_Draft_next_words := fun_of (st := sNext) FD_Draft_next_words
  have B_Draft_next_words := F_Draft_next_words.binds (ps := ["self"]) fun _ _ _ _ _ _ us hl => match us, hl with | [_], _ => rfl
  obtain ⟨fd_Draft_read_inner, FD_Draft_read_inner⟩ := c.d.def_ 35 (d := d_Draft_read_inner) rfl
  have F_Draft_read_inner := fun_of (st := sInner) FD_Draft_read_inner
  have B_Draft_read_inner := F_Draft_read_inner.binds (ps := ["self", "words"]) fun _ _ _ _ _ _ us hl => match us, hl with | [_, _], _ => rfl
  obtain ⟨fd_Draft_finished, FD_Draft_finished⟩ := c.d.def_ 36 (d := d_Draft_finished) rfl
  have F_Draft_finished := fun_of (st := sFin) FD_Draft_finished
  have B_Draft_finished := F_Draft_finished.binds (ps := ["self"]) fun _ _ _ _ _ _ us hl => match us, hl with | [_], _ => rfl
  obtain ⟨fd_Sheet___init__, FD_Sheet___init__⟩ := c.d.def_ 37 (d := d_Sheet___init__) rfl
  have F_Sheet___init__ := fun_of (st := sSInit) FD_Sheet___init__
  have B_Sheet___init__ := F_Sheet___init__.binds (ps := ["self"]) fun _ _ _ _ _ _ us hl => match us, hl with | [_], _ => rfl
  obtain ⟨fd_Sheet_chart, FD_Sheet_chart⟩ := c.d.def_ 38 (d := d_Sheet_chart) rfl
  have F_Sheet_chart := fun_of (st := sChart) FD_Sheet_chart
  have B_Sheet_chart := F_Sheet_chart.binds (ps := ["self"]) fun _ _ _ _ _ _ us hl => match us, hl with | [_], _ => rfl
  obtain ⟨fd_Sheet_read_head, FD_Sheet_read_head⟩ := c.d.def_ 39 (d := d_Sheet_read_head) rfl
  have F_Sheet_read_head := fun_of (st := sHead) FD_Sheet_read_head
  have B_Sheet_read_head := F_Sheet_read_head.binds (ps := ["self", "words"]) fun _ _ _ _ _ _ us hl => match us, hl with | [_, _], _ => rfl
  obtain ⟨fd_Sheet_read_row, FD_Sheet_read_row⟩ := c.d.def_ 40 (d := d_Sheet_read_row) rfl
  have F_Sheet_read_row := fun_of (st := sRow) FD_Sheet_read_row
  have B_Sheet_read_row := F_Sheet_read_row.binds (ps := ["self", "number", "row"]) fun _ _ _ _ _ _ us hl => match us, hl with | [_, _, _], _ => rfl
  obtain ⟨fd_NT, FD_NT⟩ := c.d.def_ 41 (d := d_NT) rfl
  have Gm : Gn K mg := ⟨(He.free_ok X G (c.d.fact 0 (f := .free "len") rfl)), (He.str_ok X G (c.d.fact 1 (f := .str "LETTERS" "abcdefghijklmnopqrstuvwxyz") rfl)), (He.str_ok X G (c.d.fact 2 (f := .str "FIGURES" "0123456789") rfl)), (He.str_ok X G (c.d.fact 3 (f := .str "MARKS" "()+-<=,") rfl)), (He.int_ok X G (c.d.fact 4 (f := .int "MOST_SIGNS" 8) rfl)), (He.int_ok X G (c.d.fact 5 (f := .int "MOST_FIGURES" 9) rfl)), (He.str_ok X G (c.d.fact 6 (f := .str "NAME" "a name") rfl)), (He.str_ok X G (c.d.fact 7 (f := .str "NUMBER" "a number") rfl)), (He.str_ok X G (c.d.fact 8 (f := .str "NO_WORD" "no word") rfl)), (He.str_ok X G (c.d.fact 9 (f := .str "ROW_END" "the row's end") rfl))⟩
  have c5 := (show fldB K (He.ga K "NoText") ["row", "column"] = true from cs_of cc 5 rfl)
  have c6 := (show excB K (He.ga K "NoText") = true from cs_of cc 6 rfl)
  let C : Cn P w K mg base := { W := He.ga K "Words", N := He.ga K "NoText", cl := (He.cls_ok (c.d.fact 10 (f := .cls "Words") rfl)), na := (He.noat_ok (c.d.fact 11 (f := .noat "Words" "at") rfl)), nk := (He.noat_ok (c.d.fact 12 (f := .noat "Words" "kinds") rfl)), nt := (He.noat_ok (c.d.fact 13 (f := .noat "Words" "texts") rfl)), nr := (He.noat_ok (c.d.fact 14 (f := .noat "Words" "row") rfl)), nn := (He.noat_ok (c.d.fact 15 (f := .noat "Words" "number") rfl)), mgW := (He.glo_ok X G (c.d.fact 16 (f := .glo "Words") rfl)), T := oexC_of c5 c6, fR := no_of c5 (by decide), fC := no_of c5 (by decide), mgN := (He.glo_ok X G (c.d.fact 17 (f := .glo "NoText") rfl)), nI := He.ma K (He.ga K "NoText") "__init__", nfd := fd_NT, iC := (He.meth_ok (c.d.fact 18 (f := .meth "NoText" "__init__") rfl)).at_, tI := of_decide_eq_true (cs_of (f := fun K => decide (PySem.W.typeIn K (.ref (He.ma K (He.ga K "NoText") "__init__")) = some (.type "function"))) cc 9 rfl), nF := okNT FD_NT, nB := bNT FD_NT }
  have GBl := ok_blanks (P := P) (w := w) (base := base) F_blanks_of Gm
  have GK := ok_kind (P := P) (w := w) (base := base) F_kind_of Gm (kset_of X G (c.d.fact 19 (f := .glo "KEYWORDS") rfl) (tab_of c 0 rfl))
  have GWd := ok_word (P := P) (w := w) (base := base) F_end_of_word F_end_of_run B_end_of_run (He.glo_ok X G (c.d.fact 20 (f := .glo "end_of_run") rfl)) Gm
  have GWs := ok_wordsOf (P := P) (w := w) (base := base) F_words_of GWd B_end_of_word F_end_of_word.kp (He.glo_ok X G (c.d.fact 21 (f := .glo "end_of_word") rfl)) GK B_kind_of F_kind_of.kp (He.glo_ok X G (c.d.fact 22 (f := .glo "kind_of") rfl)) GBl B_blanks_of F_blanks_of.kp (He.glo_ok X G (c.d.fact 23 (f := .glo "blanks_of") rfl)) Gm
  let O : Wo P w K mg base := ⟨_, fd_words_of, GWs, B_words_of, F_words_of.kp, (He.glo_ok X G (c.d.fact 24 (f := .glo "words_of") rfl))⟩
  have Gz : Gq K w mg := ⟨(He.free_ok X G (c.d.fact 25 (f := .free "isinstance") rfl)), (He.free_ok X G (c.d.fact 26 (f := .free "str") rfl)), (He.free_ok X G (c.d.fact 27 (f := .free "list") rfl)), _, (He.glo_ok X G (c.d.fact 19 (f := .glo "KEYWORDS") rfl)), topKeys_of (tab_of c 0 rfl)⟩
  have GIsN := ok_isName (P := P) (base := base) F_is_name Gm Gz (kset_of X G (c.d.fact 19 (f := .glo "KEYWORDS") rfl) (tab_of c 0 rfl))
  have GWhole := ok_whole (P := P) (w := w) (base := base) F_kind_of_whole GIsN B_is_name F_is_name.kp (He.glo_ok X G (c.d.fact 28 (f := .glo "is_name") rfl)) Gm
  have GKnown := ok_known (P := P) (w := w) (base := base) F_known_words Gm Gz
  have GQuick := ok_quick (P := P) (w := w) (base := base) F_quick_words GWhole B_kind_of_whole F_kind_of_whole.kp (He.glo_ok X G (c.d.fact 29 (f := .glo "kind_of_whole") rfl)) Gm (He.glo_ok X G (c.d.fact 30 (f := .glo "PARTED") rfl)) (topTab_of (cs_of (f := fun K => topTabB K (He.ga K "PARTED") PART) cc 10 rfl))
  have GInit := ok_init C O F_Words___init__ GQuick B_quick_words F_quick_words.kp (He.glo_ok X G (c.d.fact 31 (f := .glo "quick_words") rfl))
  have GAhead := ok_ahead C F_Words_ahead
  let T : Tl C := { aT := _, FT := ok_take C O F_Words_take, mT := (He.meth_ok (c.d.fact 32 (f := .meth "Words" "take") rfl)), aA := _, fdA := fd_Words_ahead, GA := GAhead, bA := B_Words_ahead, mA := (He.meth_ok (c.d.fact 33 (f := .meth "Words" "ahead") rfl)), aI := _, fdI := fd_Words_take_if, GI := ok_takeIf C F_Words_take_if, bI := B_Words_take_if, mI := (He.meth_ok (c.d.fact 34 (f := .meth "Words" "take_if") rfl)), gN := (He.str_ok X G (c.d.fact 7 (f := .str "NUMBER" "a number") rfl)), gA := (He.str_ok X G (c.d.fact 6 (f := .str "NAME" "a name") rfl)), gI := (He.free_ok X G (c.d.fact 35 (f := .free "int") rfl)), aS := He.ga K "SUMS", gS := (He.glo_ok X G (c.d.fact 36 (f := .glo "SUMS") rfl)), dS := kdS_of (tab_of c 1 rfl) (cs_of (f := fun K => He.valsB K (He.ga K "SUMS") [("+", .str "sum"), ("-", .str "less")]) cc 7 rfl), aC := He.ga K "COMPARED", gC := (He.glo_ok X G (c.d.fact 37 (f := .glo "COMPARED") rfl)), dC := kdC_of (tab_of c 2 rfl) (cs_of (f := fun K => He.valsB K (He.ga K "COMPARED") [("<", .str "below"), ("=", .str "same")]) cc 8 rfl) }
  let Gr : Gd K mg := ⟨⟨He.ga K "read_part", fd_read_part, F_read_part, (He.glo_ok X G (c.d.fact 38 (f := .glo "read_part") rfl)), B_read_part⟩, ⟨He.ga K "rest_of_term", fd_rest_of_term, F_rest_of_term, (He.glo_ok X G (c.d.fact 39 (f := .glo "rest_of_term") rfl)), B_rest_of_term⟩, ⟨He.ga K "read_term", fd_read_term, F_read_term, (He.glo_ok X G (c.d.fact 40 (f := .glo "read_term") rfl)), B_read_term⟩, ⟨He.ga K "rest_of_comparison", fd_rest_of_comparison, F_rest_of_comparison, (He.glo_ok X G (c.d.fact 41 (f := .glo "rest_of_comparison") rfl)), B_rest_of_comparison⟩, ⟨He.ga K "read_either_kind", fd_read_either_kind, F_read_either_kind, (He.glo_ok X G (c.d.fact 42 (f := .glo "read_either_kind") rfl)), B_read_either_kind⟩, ⟨He.ga K "read_bracket", fd_read_bracket, F_read_bracket, (He.glo_ok X G (c.d.fact 43 (f := .glo "read_bracket") rfl)), B_read_bracket⟩, ⟨He.ga K "read_one", fd_read_one, F_read_one, (He.glo_ok X G (c.d.fact 44 (f := .glo "read_one") rfl)), B_read_one⟩, ⟨He.ga K "rest_of_both", fd_rest_of_both, F_rest_of_both, (He.glo_ok X G (c.d.fact 45 (f := .glo "rest_of_both") rfl)), B_rest_of_both⟩, ⟨He.ga K "rest_of_guard", fd_rest_of_guard, F_rest_of_guard, (He.glo_ok X G (c.d.fact 46 (f := .glo "rest_of_guard") rfl)), B_rest_of_guard⟩, ⟨He.ga K "read_guard", fd_read_guard, F_read_guard, (He.glo_ok X G (c.d.fact 47 (f := .glo "read_guard") rfl)), B_read_guard⟩, ⟨He.ga K "read_deed", fd_read_deed, F_read_deed, (He.glo_ok X G (c.d.fact 48 (f := .glo "read_deed") rfl)), B_read_deed⟩, ⟨He.ga K "read_deeds", fd_read_deeds, F_read_deeds, (He.glo_ok X G (c.d.fact 49 (f := .glo "read_deeds") rfl)), B_read_deeds⟩, ⟨He.ga K "read_goals", fd_read_goals, F_read_goals, (He.glo_ok X G (c.d.fact 50 (f := .glo "read_goals") rfl)), B_read_goals⟩, ⟨He.ga K "read_when", fd_read_when, F_read_when, (He.glo_ok X G (c.d.fact 51 (f := .glo "read_when") rfl)), B_read_when⟩, ⟨He.ga K "read_move", fd_read_move, F_read_move, (He.glo_ok X G (c.d.fact 52 (f := .glo "read_move") rfl)), B_read_move⟩, ⟨He.ga K "read_signed", fd_read_signed, F_read_signed, (He.glo_ok X G (c.d.fact 53 (f := .glo "read_signed") rfl)), B_read_signed⟩, ⟨He.ga K "read_fact", fd_read_fact, F_read_fact, (He.glo_ok X G (c.d.fact 54 (f := .glo "read_fact") rfl)), B_read_fact⟩, (He.free_ok X G (c.d.fact 55 (f := .free "tuple") rfl))⟩
  let Dk : Dc K mg := ⟨He.ga K "Draft", (He.cls_ok (c.d.fact 56 (f := .cls "Draft") rfl)), (He.noat_ok (c.d.fact 57 (f := .noat "Draft" "name") rfl)), (He.noat_ok (c.d.fact 58 (f := .noat "Draft" "kind") rfl)), (He.noat_ok (c.d.fact 59 (f := .noat "Draft" "number") rfl)), (He.noat_ok (c.d.fact 60 (f := .noat "Draft" "into") rfl)), (He.noat_ok (c.d.fact 61 (f := .noat "Draft" "out") rfl)), (He.noat_ok (c.d.fact 62 (f := .noat "Draft" "moves") rfl)), (He.noat_ok (c.d.fact 63 (f := .noat "Draft" "move_numbers") rfl)), (He.noat_ok (c.d.fact 64 (f := .noat "Draft" "drafts") rfl)), (He.noat_ok (c.d.fact 65 (f := .noat "Draft" "passed") rfl)), (He.glo_ok X G (c.d.fact 66 (f := .glo "Draft") rfl)), ktup_of X G (c.d.fact 67 (f := .glo "SORTS") rfl) (cs_of (f := fun K => He.tupB K "SORTS" (SORTSs.map He.Dv.str)) cc 0 rfl), ktup_of X G (c.d.fact 68 (f := .glo "FULL_SORTS") rfl) (cs_of (f := fun K => He.tupB K "FULL_SORTS" (FULL.map He.Dv.str)) cc 1 rfl), ktup_of X G (c.d.fact 69 (f := .glo "MARKER_SORTS") rfl) (cs_of (f := fun K => He.tupB K "MARKER_SORTS" (MARKER.map He.Dv.str)) cc 2 rfl), ktup_of X G (c.d.fact 70 (f := .glo "INNER_WORDS") rfl) (cs_of (f := fun K => He.tupB K "INNER_WORDS" (INNER.map He.Dv.str)) cc 3 rfl)⟩
  let Sk : Sc K mg := ⟨He.ga K "Sheet", (He.cls_ok (c.d.fact 71 (f := .cls "Sheet") rfl)), (He.noat_ok (c.d.fact 72 (f := .noat "Sheet" "facts") rfl)), (He.noat_ok (c.d.fact 73 (f := .noat "Sheet" "happenings") rfl)), (He.noat_ok (c.d.fact 74 (f := .noat "Sheet" "root") rfl)), (He.noat_ok (c.d.fact 75 (f := .noat "Sheet" "opened") rfl)), (He.noat_ok (c.d.fact 76 (f := .noat "Sheet" "known") rfl)), (He.glo_ok X G (c.d.fact 77 (f := .glo "Sheet") rfl)), 0⟩
  have bT : BMeth K C.W "take" T.aT := bm_of (cs_of (f := fun K => bmB K "Words" "take") cc 4 rfl) (He.meth_ok (c.d.fact 32 (f := .meth "Words" "take") rfl)) (by decide)
  let I : Ic Dk C T := ⟨_, fd_Draft_next_words, ok_next Dk F_Draft_next_words, B_Draft_next_words, (He.meth_ok (c.d.fact 78 (f := .meth "Draft" "next_words") rfl)), bT, _, fd_Draft___init__, ok_dinit Dk F_Draft___init__, B_Draft___init__, (He.mkr_ok (c.d.fact 79 (f := .mkr "Draft") rfl))⟩
  have GFact := ok_fact T Gr.fact Gr.signed (ok_signed T Gr.signed)
  have GHead := fun kb => ok_head (Sk.at kb) Dk T I Gr.fact GFact F_Sheet_read_head
  have GInner := ok_inner Dk Gm T I Gr n F_Draft_read_inner
  let R : Rw Sk Dk C n := ⟨_, fd_Words___init__, GInit, B_Words___init__, (He.mkr_ok (c.d.fact 80 (f := .mkr "Words") rfl)), _, fd_blanks_of, GBl, B_blanks_of, F_blanks_of.kp, (He.glo_ok X G (c.d.fact 23 (f := .glo "blanks_of") rfl)), _, fd_Sheet_read_head, GHead, B_Sheet_read_head, (He.meth_ok (c.d.fact 81 (f := .meth "Sheet" "read_head") rfl)), _, fd_Draft_read_inner, GInner, B_Draft_read_inner, (He.meth_ok (c.d.fact 82 (f := .meth "Draft" "read_inner") rfl))⟩
  have GRow := ok_row Sk Dk Gm T R F_Sheet_read_row
  let S : St' Sk Dk C n := ⟨_, fd_Sheet___init__, ok_sinit Sk F_Sheet___init__ GKnown B_known_words F_known_words.kp (He.glo_ok X G (c.d.fact 83 (f := .glo "known_words") rfl)), B_Sheet___init__, (He.mkr_ok (c.d.fact 84 (f := .mkr "Sheet") rfl)), _, fd_is_passed, ok_passed F_is_passed, B_is_passed, F_is_passed.kp, (He.glo_ok X G (c.d.fact 85 (f := .glo "is_passed") rfl)), _, fd_Sheet_read_row, GRow, B_Sheet_read_row, (He.meth_ok (c.d.fact 86 (f := .meth "Sheet" "read_row") rfl)), (He.free_ok X G (c.d.fact 87 (f := .free "enumerate") rfl))⟩
  have GSheet := ok_sheet Sk Dk Gm S F_read_sheet
  have GFin := ok_fin (P := P) (w := w) (base := base) Dk F_Draft_finished B_Draft_finished (He.meth_ok (c.d.fact 88 (f := .meth "Draft" "finished") rfl)) (He.free_ok X G (c.d.fact 55 (f := .free "tuple") rfl)) m
  have GChart := (ok_chart Sk Dk F_Sheet_chart GFin B_Draft_finished (He.meth_ok (c.d.fact 88 (f := .meth "Draft" "finished") rfl)) (He.free_ok X G (c.d.fact 55 (f := .free "tuple") rfl))).mono (show m + 1 ≤ ((10 + 4 * n) + 1) + 1 by omega)
  have GRead := ok_read Sk Dk ⟨He.ga K "read_sheet", fd_read_sheet, F_read_sheet, (He.glo_ok X G (c.d.fact 89 (f := .glo "read_sheet") rfl)), B_read_sheet⟩ GSheet GChart B_Sheet_chart (He.meth_ok (c.d.fact 90 (f := .meth "Sheet" "chart") rfl)) F_read_chart
  exact ⟨C, Gm, He.exm_ok (c.d.fact 91 (f := .exm "NoText" "NoText" true) rfl), xAt_of c5 c6 (by decide), xAt_of c5 c6 (by decide), fd_read_chart, GRead, B_read_chart, F_read_chart.kp, (He.glo_ok X G (c.d.fact 92 (f := .glo "read_chart") rfl)), F_read_chart.byName fun _ _ _ _ _ _ _ => rfl⟩
end Prs
set_option Elab.async false
set_option linter.all false
set_option maxRecDepth 100000
set_option maxHeartbeats 4000000
namespace Prs
open PySem PySem.Spec PyProof.Rows L2 Evl
/-! ### words in a row, by kind and text -/
abbrev Tok := Str × Str
def kw (s : Str) : Tok := (s, s)
def nm (s : Str) : Tok := ("a name", s)
def nu (s : Str) : Tok := ("a number", s)
/-- from i on stand these -/
def Has (ws : List Wd) (i : Nat) (ts : List Tok) : Prop := ∀ k t, ts[k]? = some t → ∃ c, ws[i + k]? = some ⟨t.1, t.2, c⟩
/-- at j stands a word of none of these kinds -/
def Nx (ws : List Wd) (j : Nat) (bad : List Str) : Prop := ∃ x, ws[j]? = some x ∧ ∀ b ∈ bad, x.kind ≠ b
theorem Nx.mono {ws : List Wd} {j : Nat} {a b : List Str} (h : Nx ws j a) (s : ∀ x ∈ b, x ∈ a) : Nx ws j b := by
  obtain ⟨x, h1, h2⟩ := h
  exact ⟨x, h1, fun y hy => h2 y (s y hy)⟩
theorem Has.left {ws : List Wd} {i : Nat} {a b : List Tok} (h : Has ws i (a ++ b)) : Has ws i a := fun k t e => h k t (by
  have hk : k < a.length := by
    rcases Nat.lt_or_ge k a.length with q | q
    · exact q
    · rw [List.getElem?_eq_none q] at e
      cases e
  rw [List.getElem?_append_left hk]
  exact e)
theorem Has.right {ws : List Wd} {i : Nat} {a b : List Tok} (h : Has ws i (a ++ b)) : Has ws (i + a.length) b := fun k t e => by
  have := h (a.length + k) t (by
    rw [List.getElem?_append_right (Nat.le_add_right _ _), Nat.add_sub_cancel_left]
    exact e)
  rw [Nat.add_assoc]
  exact this
theorem Has.head {ws : List Wd} {i : Nat} {t : Tok} {b : List Tok} (h : Has ws i (t :: b)) : ∃ c, ws[i]? = some ⟨t.1, t.2, c⟩ := h 0 t rfl
theorem Has.tail {ws : List Wd} {i : Nat} {t : Tok} {b : List Tok} (h : Has ws i (t :: b)) : Has ws (i + 1) b := Has.right (a := [t]) h
theorem Has.nx {ws : List Wd} {i : Nat} {t : Tok} {b : List Tok} {bad : List Str} (h : Has ws i (t :: b)) (hb : ∀ x ∈ bad, t.1 ≠ x) : Nx ws i bad := by
  obtain ⟨c, hc⟩ := h.head
  exact ⟨_, hc, hb⟩
theorem take_ok {ws : List Wd} {i : Nat} {t : Tok} {b : List Tok} {ks : List Str} (h : Has ws i (t :: b)) (hk : inV (.str t.1) (ks.map V.str) = true) : takeM ws ks i = told t.2 (i + 1) := by
  obtain ⟨c, hc⟩ := h.head
  unfold takeM
  rw [hc]
  dsimp only
  rw [hk]
  rfl
theorem takeIf_yes {ws : List Wd} {i : Nat} {s w : Str} {b : List Tok} (h : Has ws i ((s, w) :: b)) : takeIfM ws s i = told true (i + 1) := by
  obtain ⟨c, hc⟩ := h.head
  unfold takeIfM
  rw [hc]
  dsimp only
  rw [decide_eq_true rfl]
  rfl
theorem takeIf_no {ws : List Wd} {i : Nat} {s : Str} {bad : List Str} (h : Nx ws i bad) (hs : s ∈ bad) : takeIfM ws s i = told false i := by
  obtain ⟨x, hx, hn⟩ := h
  unfold takeIfM
  rw [hx]
  dsimp only
  have : ¬ V.str x.kind = V.str s := fun z => hn s hs (V.str.inj z)
  rw [decide_eq_false this]
  rfl
theorem at_told {α β : Type} {a : α} {j : Nat} {f : α → Nat → Res β} : andThen (told a j) f = f a j := rfl
theorem mapR_told {α α2 : Type} {g : α → α2} {a : α} {j : Nat} : mapR g (told a j) = told (g a) j := rfl
/-! ### terms -/
/-- the words ts are the term t (b: a part of one), brackets at most k within one another -/
inductive TW : Bool → Nat → PyData → List Tok → Prop
  | num {b : Bool} {k : Nat} {s : Str} {n : Int} : numM s = some n → TW b (k + 1) (.tuple [.str "num", .int n]) [nu s]
  | fact {b : Bool} {k : Nat} {x : Str} : TW b (k + 1) (.tuple [.str "fact", .str x]) [nm x]
  | br {b : Bool} {k : Nat} {t : PyData} {ts : List Tok} : TW false k t ts → TW b (k + 1) t (kw "(" :: (ts ++ [kw ")"]))
  | sum {k : Nat} {a c : PyData} {ta tc : List Tok} {o w : Str} : TW false k a ta → TW true k c tc → sumsOf o = some w → TW false k (.tuple [.str w, a, c]) (ta ++ kw o :: tc)
theorem TW.up {b : Bool} {k : Nat} {t : PyData} {ts : List Tok} (h : TW b k t ts) : TW b (k + 1) t ts := by
  induction h with
  | num h => exact .num h
  | fact => exact .fact
  | br _ ih => exact .br ih
  | sum _ _ e i1 i2 => exact .sum i1 i2 e
theorem TW.to {b : Bool} {k : Nat} {t : PyData} {ts : List Tok} (h : TW b k t ts) : ∀ n, k ≤ n → TW b n t ts := fun n hn => by
  obtain ⟨m, rfl⟩ := Nat.le.dest hn
  induction m with
  | zero => exact h
  | succ m ih => exact (ih (Nat.le_add_right _ _)).up
theorem TW.whole {k : Nat} {t : PyData} {ts : List Tok} (h : TW true k t ts) : TW false k t ts := by
  cases h with
  | num h => exact .num h
  | fact => exact .fact
  | br h => exact .br h
theorem TW.pos {b : Bool} {k : Nat} {t : PyData} {ts : List Tok} (h : TW b k t ts) : 0 < ts.length := by
  cases h <;> simp only [List.length_cons, List.length_append, List.length_nil] <;> omega
/-- what rest_of_term goes through -/
inductive TSt (pt : Rd' PyData) (ws : List Wd) : Nat → PyData → Nat → PyData → Nat → Prop
  | z {d : PyData} {i : Nat} : TSt pt ws 0 d i d i
  | s {m : Nat} {d d2 e : PyData} {i i2 j c : Nat} {o w : Str} : TSt pt ws m d i d2 i2 → ws[i2]? = some ⟨o, o, c⟩ → sumsOf o = some w → pt ws (i2 + 1) = told e j → TSt pt ws (m + 1) d i (.tuple [.str w, d2, e]) j
theorem sums_in {o w : Str} (h : sumsOf o = some w) : inV (.str o) ((["+", "-"] : List Str).map V.str) = true := by
  unfold sumsOf at h
  split at h
  · rename_i e
    subst e
    decide +kernel
  · split at h
    · rename_i e
      subst e
      decide +kernel
    · cases h
theorem TSt.go {pt : Rd' PyData} {ws : List Wd} {m i j : Nat} {d e : PyData} (h : TSt pt ws m d i e j) : ∀ f, restGo pt ws (f + m) d i = restGo pt ws f e j := by
  induction h with
  | z => exact fun f => rfl
  | @s m d d2 e i i2 j c o w hs hc ho hp ih =>
    intro f
    have e1 : f + (m + 1) = (f + 1) + m := by omega
    rw [e1, ih (f + 1)]
    conv => lhs; unfold restGo
    rw [hc]
    dsimp only
    rw [ho]
    have e2 : takeM ws ["+", "-"] i2 = told o (i2 + 1) := by
      unfold takeM
      rw [hc]
      dsimp only
      rw [sums_in ho]
      rfl
    rw [e2]
    simp only [Option.isSome_some, if_true, at_told, ho, hp, mapR_told]
theorem rest_end {pt : Rd' PyData} {ws : List Wd} {f j : Nat} {d : PyData} (h : Nx ws j ["+", "-"]) : restGo pt ws (f + 1) d j = told d j := by
  obtain ⟨x, hx, hn⟩ := h
  unfold restGo
  rw [hx]
  dsimp only
  have h1 := hn "+" (by simp)
  have h2 := hn "-" (by simp)
  have : sumsOf x.kind = none := by
    unfold sumsOf
    rw [if_neg h1, if_neg h2]
  rw [this]
  rfl
theorem rest_ok {pt : Rd' PyData} {ws : List Wd} {m i j : Nat} {d e : PyData} (h : TSt pt ws m d i e j) (hm : m ≤ ws.length) (n : Nx ws j ["+", "-"]) : restM pt ws d i = told e j := by
  unfold restM
  have e1 : ws.length + 1 = (ws.length - m + 1) + m := by omega
  rw [e1, h.go, rest_end n]
theorem has_len {ws : List Wd} {i : Nat} {ts : List Tok} (h : Has ws i ts) (p : 0 < ts.length) : i + ts.length ≤ ws.length := by
  obtain ⟨c, hc⟩ := h (ts.length - 1) ts[ts.length - 1] (List.getElem?_eq_getElem (by omega))
  have : i + (ts.length - 1) < ws.length := by
    rcases Nat.lt_or_ge (i + (ts.length - 1)) ws.length with q | q
    · exact q
    · rw [List.getElem?_eq_none q] at hc
      cases hc
  omega
theorem tw_parse {b : Bool} {k : Nat} {t : PyData} {ts : List Tok} (h : TW b k t ts) : ∀ n, k ≤ n → ∀ ws i, Has ws i ts → ∃ d j m, partM n ws i = told d j ∧ TSt (partM n) ws m d j t (i + ts.length) ∧ m ≤ ts.length ∧ (b = true → partM n ws i = told t (i + ts.length)) := by
  induction h with
  | @num b k s x hs =>
    intro n hn ws i hh
    obtain ⟨n, rfl⟩ : ∃ q, n = q + 1 := ⟨n - 1, by omega⟩
    have e : partM (n + 1) ws i = told (.tuple [.str "num", .int x]) (i + 1) := by
      obtain ⟨c, hc⟩ := hh.head
      show partS (partM n) ws i = _
      unfold partS
      rw [hc]
      dsimp only
      rw [take_ok hh (by show inV (.str "a number") _ = true; decide +kernel)]
      simp only [at_told]
      have : decide (V.str (nu s).1 = V.str "a number") = true := decide_eq_true rfl
      rw [this]
      simp only [if_true]
      have hs' : numM (nu s).2 = some x := hs
      rw [hs']
    exact ⟨_, _, 0, e, .z, Nat.zero_le _, fun _ => e⟩
  | @fact b k x =>
    intro n hn ws i hh
    obtain ⟨n, rfl⟩ : ∃ q, n = q + 1 := ⟨n - 1, by omega⟩
    have e : partM (n + 1) ws i = told (.tuple [.str "fact", .str x]) (i + 1) := by
      obtain ⟨c, hc⟩ := hh.head
      show partS (partM n) ws i = _
      unfold partS
      rw [hc]
      dsimp only
      rw [take_ok hh (by show inV (.str "a name") _ = true; decide +kernel)]
      simp only [at_told]
      have h1 : decide (V.str (nm x).1 = V.str "a number") = false := by
        show decide (V.str "a name" = V.str "a number") = false
        decide +kernel
      have h2 : decide (V.str (nm x).1 = V.str "a name") = true := decide_eq_true rfl
      rw [h1, h2]
      rfl
    exact ⟨_, _, 0, e, .z, Nat.zero_le _, fun _ => e⟩
  | @br b k t ts ht ih =>
    intro n hn ws i hh
    obtain ⟨n, rfl⟩ : ∃ q, n = q + 1 := ⟨n - 1, by omega⟩
    have h2 := hh.tail
    have h3 := h2.left
    have h4 := h2.right
    obtain ⟨d, j, m, e1, e2, e3, _⟩ := ih n (by omega) ws (i + 1) h3
    have e : partM (n + 1) ws i = told t (i + (kw "(" :: (ts ++ [kw ")"])).length) := by
      obtain ⟨c, hc⟩ := hh.head
      show partS (partM n) ws i = _
      unfold partS
      rw [hc]
      dsimp only
      rw [take_ok hh (by decide +kernel)]
      simp only [at_told]
      have h5 : decide (V.str (kw "(").1 = V.str "a number") = false := by decide +kernel
      have h6 : decide (V.str (kw "(").1 = V.str "a name") = false := by decide +kernel
      rw [h5, h6]
      simp only [Bool.false_eq_true, if_false]
      have hl := has_len h3 ht.pos
      have : termM (partM n) ws (i + 1) = told t (i + 1 + ts.length) := by
        unfold termM
        rw [e1, at_told]
        exact rest_ok e2 (by omega) (h4.nx (by decide +kernel))
      rw [this, at_told, take_ok h4 (by decide +kernel), at_told]
      simp only [List.length_cons, List.length_append, List.length_nil]
      congr 1
      omega
    exact ⟨_, _, 0, e, .z, Nat.zero_le _, fun _ => e⟩
  | @sum k a c ta tc o w ha hc ho ia ic =>
    intro n hn ws i hh
    have h1 := hh.left
    have h2 := hh.right
    obtain ⟨d, j, m, e1, e2, e3, _⟩ := ia n hn ws i h1
    obtain ⟨cc, hcc⟩ := h2.head
    obtain ⟨_, _, _, _, _, _, e4⟩ := ic n hn ws (i + ta.length + 1) h2.tail
    have e5 := e4 rfl
    refine ⟨d, j, m + 1, e1, ?_, ?_, fun z => nomatch z⟩
    · have := TSt.s e2 hcc ho e5
      have e6 : i + ta.length + 1 + tc.length = i + (ta ++ kw o :: tc).length := by
        simp only [List.length_append, List.length_cons]
        omega
      rw [e6] at this
      exact this
    · simp only [List.length_append, List.length_cons]
      omega
/-- a whole term, with what goes on with none of + and - behind it -/
theorem term_ok {k : Nat} {t : PyData} {ts : List Tok} (h : TW false k t ts) {n : Nat} (hn : k ≤ n) {ws : List Wd} {i : Nat} (hh : Has ws i ts) (nx : Nx ws (i + ts.length) ["+", "-"]) : termM (partM n) ws i = told t (i + ts.length) := by
  obtain ⟨d, j, m, e1, e2, e3, _⟩ := tw_parse h n hn ws i hh
  have hl := has_len hh h.pos
  unfold termM
  rw [e1, at_told]
  exact rest_ok e2 (by omega) nx
end Prs
set_option Elab.async false
set_option linter.all false
set_option maxRecDepth 100000
set_option maxHeartbeats 4000000
namespace Prs
open PySem PySem.Spec PyProof.Rows L2 Evl
/-! ### guards -/
/-- the words ts are the guard g; l: 0 one of them, 1 with ands, 2 with ors -/
inductive GW : Nat → Nat → PyData → List Tok → Prop
  | yes {l k : Nat} : GW l (k + 1) (.tuple [.str "yes"]) [kw "yes"]
  | inn {l k : Nat} {x : Str} : GW l (k + 1) (.tuple [.str "in", .str x]) [kw "in", nm x]
  | neg {l k : Nat} {g : PyData} {tg : List Tok} : GW 0 k g tg → GW l (k + 1) (.tuple [.str "not", g]) (kw "not" :: tg)
  | cmp {l k : Nat} {t u : PyData} {tt tu : List Tok} {o w : Str} : TW false k t tt → TW false k u tu → compsOf o = some w → GW l (k + 1) (.tuple [.str w, t, u]) (tt ++ kw o :: tu)
  | br {l k : Nat} {g : PyData} {tg : List Tok} : GW 2 k g tg → GW l (k + 2) g (kw "(" :: (tg ++ [kw ")"]))
  | both {l k : Nat} {a c : PyData} {ta tc : List Tok} : GW 1 k a ta → GW 0 k c tc → GW (l + 1) k (.tuple [.str "both", a, c]) (ta ++ kw "and" :: tc)
  | either {k : Nat} {a c : PyData} {ta tc : List Tok} : GW 2 k a ta → GW 0 k c tc → GW 2 k (.tuple [.str "either", a, c]) (ta ++ kw "or" :: tc)
theorem GW.up {l k : Nat} {g : PyData} {tg : List Tok} (h : GW l k g tg) : GW l (k + 1) g tg := by
  induction h with
  | yes => exact .yes
  | inn => exact .inn
  | neg _ ih => exact .neg ih
  | cmp a b e => exact .cmp a.up b.up e
  | br _ ih => exact .br ih
  | both _ _ i1 i2 => exact .both i1 i2
  | either _ _ i1 i2 => exact .either i1 i2
theorem GW.to {l k : Nat} {g : PyData} {tg : List Tok} (h : GW l k g tg) : ∀ n, k ≤ n → GW l n g tg := fun n hn => by
  obtain ⟨m, rfl⟩ := Nat.le.dest hn
  induction m with
  | zero => exact h
  | succ m ih => exact (ih (Nat.le_add_right _ _)).up
theorem GW.pos {l k : Nat} {g : PyData} {tg : List Tok} (h : GW l k g tg) : 0 < tg.length := by
  cases h <;> simp only [List.length_cons, List.length_append, List.length_nil] <;> omega
inductive BSt (one : Rd' PyData) (ws : List Wd) : Nat → PyData → Nat → PyData → Nat → Prop
  | z {d : PyData} {i : Nat} : BSt one ws 0 d i d i
  | s {m : Nat} {d d2 e : PyData} {i i2 j : Nat} : BSt one ws m d i d2 i2 → takeIfM ws "and" i2 = told true (i2 + 1) → one ws (i2 + 1) = told e j → BSt one ws (m + 1) d i (.tuple [.str "both", d2, e]) j
inductive GSt (one : Rd' PyData) (ws : List Wd) : Nat → PyData → Nat → PyData → Nat → Prop
  | z {d : PyData} {i : Nat} : GSt one ws 0 d i d i
  | s {m : Nat} {d d2 e : PyData} {i i2 j : Nat} : GSt one ws m d i d2 i2 → takeIfM ws "or" i2 = told true (i2 + 1) → one ws (i2 + 1) = told e j → takeIfM ws "and" j = told false j → GSt one ws (m + 1) d i (.tuple [.str "either", d2, e]) j
theorem BSt.go {one : Rd' PyData} {ws : List Wd} {m i j : Nat} {d e : PyData} (h : BSt one ws m d i e j) : ∀ f, bothGo one ws (f + m) d i = bothGo one ws f e j := by
  induction h with
  | z => exact fun f => rfl
  | s hs ht ho ih =>
    intro f
    rename_i m _ _ _ _ _ _
    have e1 : f + (m + 1) = (f + 1) + m := by omega
    rw [e1, ih (f + 1)]
    conv => lhs; unfold bothGo
    rw [ht, at_told]
    simp only [if_true, ho, mapR_told, at_told]
theorem both_end {one : Rd' PyData} {ws : List Wd} {f j : Nat} {d : PyData} (h : takeIfM ws "and" j = told false j) : bothGo one ws (f + 1) d j = told d j := by
  unfold bothGo
  rw [h, at_told]
  rfl
theorem both_ok {one : Rd' PyData} {ws : List Wd} {m i j : Nat} {d e : PyData} (h : BSt one ws m d i e j) (hm : m ≤ ws.length) (n : takeIfM ws "and" j = told false j) : bothM one ws d i = told e j := by
  unfold bothM
  have e1 : ws.length + 1 = (ws.length - m + 1) + m := by omega
  rw [e1, h.go, both_end n]
theorem GSt.go {one : Rd' PyData} {ws : List Wd} {m i j : Nat} {d e : PyData} (h : GSt one ws m d i e j) : ∀ f, guardGo one ws (f + m) d i = guardGo one ws f e j := by
  induction h with
  | z => exact fun f => rfl
  | s hs ht ho ha ih =>
    intro f
    rename_i m _ _ e _ _ j
    have e1 : f + (m + 1) = (f + 1) + m := by omega
    rw [e1, ih (f + 1)]
    conv => lhs; unfold guardGo
    rw [ht, at_told]
    have : bothM one ws e j = told e j := both_ok .z (Nat.zero_le _) ha
    simp only [if_true, ho, at_told, this, mapR_told]
theorem guard_end {one : Rd' PyData} {ws : List Wd} {f j : Nat} {d : PyData} (h : takeIfM ws "or" j = told false j) : guardGo one ws (f + 1) d j = told d j := by
  unfold guardGo
  rw [h, at_told]
  rfl
theorem rguard_ok {one : Rd' PyData} {ws : List Wd} {m m2 i i2 j : Nat} {d d2 e : PyData} (h : BSt one ws m d i d2 i2) (n1 : takeIfM ws "and" i2 = told false i2) (h2 : GSt one ws m2 d2 i2 e j) (hm : m ≤ ws.length) (hm2 : m2 ≤ ws.length) (n : takeIfM ws "or" j = told false j) : rguardM one ws d i = told e j := by
  unfold rguardM
  rw [both_ok h hm n1, at_told]
  have e1 : ws.length + 1 = (ws.length - m2 + 1) + m2 := by omega
  rw [e1, h2.go, guard_end n]
abbrev eiN (n : Nat) : Rd' BD := eitherM (partM n) (brOne n).1
theorem one_eq (n : Nat) (ws : List Wd) (i : Nat) : (brOne (n + 1)).2 ws i = oneS (partM n) (brOne n).1 (brOne n).2 ws i := rfl
theorem br_eq (n : Nat) (ws : List Wd) (i : Nat) : (brOne (n + 1)).1 ws i = bracketS (partM n) (brOne n).1 (brOne n).2 ws i := rfl
abbrev BadOne : List Str := ["+", "-"]
def badOf (l : Nat) : List Str := if l ≤ 1 then ["+", "-"] else ["+", "-", "and"]
abbrev BadG : List Str := ["+", "-", "and", "or"]
/-- how the first of the words is read where a bracket stands ahead -/
inductive Fst (k : Nat) (g : PyData) (tg : List Tok) : Prop
  | word : (∃ t r, tg = t :: r ∧ inV (.str t.1) (notTerm.map V.str) = true) → Fst k g tg
  | cmp : (∃ t r, tg = t :: r ∧ inV (.str t.1) (notTerm.map V.str) = false) → (∀ n, k ≤ n → ∀ ws i, Has ws i tg → Nx ws (i + tg.length) BadOne → ∃ t j, eiN n ws i = told (true, t) j ∧ Nx ws j [")"] ∧ compM (partM n) ws t j = told g (i + tg.length)) → Fst k g tg
  | brk : (∃ t r, tg = t :: r ∧ inV (.str t.1) (notTerm.map V.str) = false) → (∀ n, k ≤ n → ∀ ws i, Has ws i tg → eiN n ws i = told (false, g) (i + tg.length)) → Fst k g tg
structure One (k : Nat) (g : PyData) (tg : List Tok) : Prop where
  one : ∀ n, k ≤ n → ∀ ws i, Has ws i tg → Nx ws (i + tg.length) BadOne → (brOne n).2 ws i = told g (i + tg.length)
  fst : Fst k g tg
  pos : 0 < tg.length
structure Whole (l k : Nat) (g : PyData) (tg : List Tok) (g0 : PyData) (t0 tr : List Tok) : Prop where
  eq : tg = t0 ++ tr
  one : One k g0 t0
  hd : tr = [] ∨ ∃ r, tr = kw "and" :: r ∨ tr = kw "or" :: r
  go : ∀ n, k ≤ n → ∀ ws i, Has ws i tg → Nx ws (i + tg.length) (badOf l) → ∃ m d1 j1 m2, BSt (brOne n).2 ws m g0 (i + t0.length) d1 j1 ∧ GSt (brOne n).2 ws m2 d1 j1 g (i + tg.length) ∧ m ≤ tg.length ∧ m2 ≤ tg.length ∧ (l ≤ 1 → m2 = 0) ∧ (m2 ≠ 0 → takeIfM ws "and" j1 = told false j1)
  zero : l = 0 → g0 = g ∧ tr = []
theorem Whole.ofOne {l k : Nat} {g : PyData} {tg : List Tok} (o : One k g tg) : Whole l k g tg g tg [] := by
  refine ⟨(List.append_nil _).symm, o, .inl rfl, fun n _ ws i _ _ => ⟨0, g, i + tg.length, 0, .z, .z, Nat.zero_le _, Nat.zero_le _, fun _ => rfl, fun z => absurd rfl z⟩, fun _ => ⟨rfl, rfl⟩⟩
theorem nx_of_tail {ws : List Wd} {i : Nat} {tr : List Tok} {bad : List Str} (h : Has ws i tr) (n : Nx ws (i + tr.length) bad) (hd : tr = [] ∨ ∃ r, tr = kw "and" :: r ∨ tr = kw "or" :: r) (h1 : ∀ x ∈ bad, ("and" : Str) ≠ x) (h2 : ∀ x ∈ bad, ("or" : Str) ≠ x) : Nx ws i bad := by
  rcases hd with rfl | ⟨r, rfl | rfl⟩
  · exact n
  · exact h.nx h1
  · exact h.nx h2
theorem Whole.first {l k : Nat} {g g0 : PyData} {tg t0 tr : List Tok} (h : Whole l k g tg g0 t0 tr) {n : Nat} (hn : k ≤ n) {ws : List Wd} {i : Nat} (hh : Has ws i tg) (nx : Nx ws (i + tg.length) BadOne) : Nx ws (i + t0.length) BadOne := by
  have e := h.eq
  subst e
  refine nx_of_tail hh.right ?_ h.hd (by decide +kernel) (by decide +kernel)
  rw [List.length_append, ← Nat.add_assoc] at nx
  exact nx
/-- the whole of a guard that was begun -/
theorem Whole.rest {l k : Nat} {g g0 : PyData} {tg t0 tr : List Tok} (h : Whole l k g tg g0 t0 tr) {n : Nat} (hn : k ≤ n) {ws : List Wd} {i : Nat} (hh : Has ws i tg) (nx : Nx ws (i + tg.length) BadG) : rguardM (brOne n).2 ws g0 (i + t0.length) = told g (i + tg.length) := by
  obtain ⟨m, d1, j1, m2, h1, h2, b1, b2, h3, h4⟩ := h.go n hn ws i hh (nx.mono (by unfold badOf; split <;> decide +kernel))
  have hp : 0 < tg.length := by
    have := h.one.pos
    rw [h.eq, List.length_append]
    omega
  have hl := has_len hh hp
  have n1 : takeIfM ws "and" j1 = told false j1 := by
    by_cases z : m2 = 0
    · subst z
      cases h2
      exact takeIf_no nx (by decide +kernel)
    · exact h4 z
  exact rguard_ok h1 n1 h2 (by omega) (by omega) (takeIf_no nx (by decide +kernel))
end Prs
set_option Elab.async false
set_option linter.all false
set_option maxRecDepth 100000
set_option maxHeartbeats 4000000
namespace Prs
open PySem PySem.Spec PyProof.Rows L2 Evl
theorem tw_head {b : Bool} {k : Nat} {t : PyData} {ts : List Tok} (h : TW b k t ts) : ∃ t0 r, ts = t0 :: r ∧ (t0.1 = "a number" ∨ t0.1 = "a name" ∨ t0.1 = "(") := by
  induction h with
  | num h => exact ⟨_, _, rfl, .inl rfl⟩
  | fact => exact ⟨_, _, rfl, .inr (.inl rfl)⟩
  | br _ _ => exact ⟨_, _, rfl, .inr (.inr rfl)⟩
  | sum _ _ _ i1 _ =>
    obtain ⟨t0, r, rfl, h⟩ := i1
    exact ⟨t0, _, rfl, h⟩
theorem notTerm_no {k : Str} (h : k = "a number" ∨ k = "a name" ∨ k = "(") : inV (.str k) (notTerm.map V.str) = false := by
  rcases h with rfl | rfl | rfl <;> decide +kernel
theorem decS (a b : Str) : decide (V.str a = V.str b) = decide (a = b) := by
  by_cases h : a = b
  · subst h
    simp
  · simp [h]
/-- a term where a bracket may begin both, once its first part is read -/
theorem ei_of {n m : Nat} {ws : List Wd} {i j e : Nat} {t0 : Tok} {d t : PyData} {c : Nat} (hc : ws[i]? = some ⟨t0.1, t0.2, c⟩) (hp : t0.1 ≠ "(" → partM n ws i = told d j) (hb : t0.1 = "(" → (brOne n).1 ws i = told (true, d) j) (st : TSt (partM n) ws m d j t e) (hm : m ≤ ws.length) (nx : Nx ws e BadOne) : eiN n ws i = told (true, t) e := by
  show eitherM (partM n) (brOne n).1 ws i = _
  unfold eitherM
  rw [hc]
  dsimp only
  rw [decS]
  by_cases h : t0.1 = "("
  · rw [decide_eq_true h]
    simp only [Bool.not_true, Bool.false_eq_true, if_false]
    rw [hb h, at_told]
    simp only [if_true]
    rw [rest_ok st hm nx, mapR_told]
  · rw [decide_eq_false h]
    simp only [Bool.not_false, if_true]
    rw [hp h, at_told, rest_ok st hm nx, mapR_told]
theorem br_term {n : Nat} {ws : List Wd} {i : Nat} {t : PyData} {ts : List Tok} (hh : Has ws i (kw "(" :: (ts ++ [kw ")"]))) (hd : ∃ t0 r, ts = t0 :: r ∧ (t0.1 = "a number" ∨ t0.1 = "a name" ∨ t0.1 = "(")) (he : eiN n ws (i + 1) = told (true, t) (i + 1 + ts.length)) : (brOne (n + 1)).1 ws i = told (true, t) (i + (kw "(" :: (ts ++ [kw ")"])).length) := by
  rw [br_eq]
  unfold bracketS
  rw [take_ok hh (by decide +kernel), at_told]
  obtain ⟨t0, r, rfl, hk⟩ := hd
  have h2 := hh.tail
  obtain ⟨c, hc⟩ := h2.head
  have h4 := h2.right
  obtain ⟨c4, hc4⟩ := h4.head
  rw [hc]
  dsimp only
  rw [notTerm_no hk]
  simp only [Bool.not_false, if_true]
  have he' : eitherM (partM n) (brOne n).1 ws (i + 1) = told (true, t) (i + 1 + (t0 :: r).length) := he
  rw [he', at_told]
  unfold br3
  rw [hc4]
  dsimp only
  have : decide (V.str (kw ")").1 = V.str ")") = true := decide_eq_true rfl
  rw [this]
  simp only [if_true, Bool.not_true, Bool.false_eq_true, if_false, at_told]
  unfold br4
  simp only [Bool.not_true, Bool.false_eq_true, if_false, at_told]
  unfold br5
  rw [take_ok h4 (by decide +kernel), at_told]
  congr 1
  simp only [List.length_cons, List.length_append, List.length_nil]
  omega
theorem tw_either {b : Bool} {k : Nat} {t : PyData} {ts : List Tok} (h : TW b k t ts) : ∀ n, k ≤ n → ∀ ws i, Has ws i ts → ∃ d j m, (∀ t0 r, ts = t0 :: r → t0.1 ≠ "(" → partM n ws i = told d j) ∧ (∀ t0 r, ts = t0 :: r → t0.1 = "(" → (brOne n).1 ws i = told (true, d) j) ∧ TSt (partM n) ws m d j t (i + ts.length) ∧ m ≤ ts.length := by
  induction h with
  | @num b k s x hs =>
    intro n hn ws i hh
    obtain ⟨d, j, m, e1, e2, e3, e4⟩ := tw_parse (.num (b := true) (k := k) hs) n hn ws i hh
    refine ⟨d, j, m, fun _ _ _ _ => e1, fun t0 r e z => ?_, e2, e3⟩
    cases e
    exact absurd (show ("a number" : Str) = "(" from z) (by decide +kernel)
  | @fact b k x =>
    intro n hn ws i hh
    obtain ⟨d, j, m, e1, e2, e3, e4⟩ := tw_parse (.fact (b := true) (k := k)) n hn ws i hh
    refine ⟨d, j, m, fun _ _ _ _ => e1, fun t0 r e z => ?_, e2, e3⟩
    cases e
    exact absurd (show ("a name" : Str) = "(" from z) (by decide +kernel)
  | @br b k t ts ht ih =>
    intro n hn ws i hh
    obtain ⟨n, rfl⟩ : ∃ q, n = q + 1 := ⟨n - 1, by omega⟩
    refine ⟨t, i + (kw "(" :: (ts ++ [kw ")"])).length, 0, fun t0 r e z => ?_, fun t0 r _ _ => ?_, .z, Nat.zero_le _⟩
    · cases e
      exact absurd rfl z
    · have h2 := hh.tail
      have h3 := h2.left
      have h4 := h2.right
      obtain ⟨d, j, m, e1, e2, e3, e4⟩ := ih n (by omega) ws (i + 1) h3
      obtain ⟨t0, r, rfl, hk⟩ := tw_head ht
      obtain ⟨c, hc⟩ := h3.head
      have hl := has_len h3 ht.pos
      exact br_term hh ⟨t0, r, rfl, hk⟩ (ei_of hc (e1 t0 r rfl) (e2 t0 r rfl) e3 (by omega) (h4.nx (by decide +kernel)))
  | @sum k a c ta tc o w ha hc ho ia ic =>
    intro n hn ws i hh
    have h1 := hh.left
    have h2 := hh.right
    obtain ⟨d, j, m, e1, e2, e3, e4⟩ := ia n hn ws i h1
    obtain ⟨cc, hcc⟩ := h2.head
    obtain ⟨_, _, _, _, _, _, e5⟩ := tw_parse hc n hn ws (i + ta.length + 1) h2.tail
    obtain ⟨t0, r, rfl, hk⟩ := tw_head ha
    refine ⟨d, j, m + 1, fun t1 r1 e z => ?_, fun t1 r1 e z => ?_, ?_, ?_⟩
    · cases e
      exact e1 _ _ rfl z
    · cases e
      exact e2 _ _ rfl z
    · have := TSt.s e3 hcc ho (e5 rfl)
      have e6 : i + (t0 :: r).length + 1 + tc.length = i + ((t0 :: r) ++ kw o :: tc).length := by
        simp only [List.length_append, List.length_cons]
        omega
      rw [e6] at this
      exact this
    · simp only [List.length_append, List.length_cons] at e4 ⊢
      omega
theorem ei_term {k : Nat} {t : PyData} {ts : List Tok} (h : TW false k t ts) {n : Nat} (hn : k ≤ n) {ws : List Wd} {i : Nat} (hh : Has ws i ts) (nx : Nx ws (i + ts.length) BadOne) : eiN n ws i = told (true, t) (i + ts.length) := by
  obtain ⟨d, j, m, e1, e2, e3, e4⟩ := tw_either h n hn ws i hh
  obtain ⟨t0, r, rfl, hk⟩ := tw_head h
  obtain ⟨c, hc⟩ := hh.head
  have hl := has_len hh h.pos
  exact ei_of hc (e1 t0 r rfl) (e2 t0 r rfl) e3 (by omega) nx
theorem comps_in {o w : Str} (h : compsOf o = some w) : inV (.str o) ((["<", "="] : List Str).map V.str) = true ∧ (∀ x ∈ BadOne, o ≠ x) ∧ (∀ x ∈ ([")"] : List Str), o ≠ x) := by
  unfold compsOf at h
  split at h
  · rename_i e
    subst e
    decide +kernel
  · split at h
    · rename_i e
      subst e
      decide +kernel
    · cases h
theorem comp_ok {k : Nat} {t u : PyData} {tu : List Tok} {o w : Str} (h : TW false k u tu) (ho : compsOf o = some w) {n : Nat} (hn : k ≤ n) {ws : List Wd} {i : Nat} (hh : Has ws i (kw o :: tu)) (nx : Nx ws (i + 1 + tu.length) BadOne) : compM (partM n) ws t i = told (.tuple [.str w, t, u]) (i + 1 + tu.length) := by
  unfold compM
  rw [take_ok hh (comps_in ho).1, at_told]
  have : compsOf (kw o).2 = some w := ho
  rw [this]
  dsimp only
  rw [term_ok h hn hh.tail nx, mapR_told]
/-- the guard's words that decide by themselves -/
theorem nots {ws : List Wd} {i : Nat} {t : Tok} {r : List Tok} (hh : Has ws i (t :: r)) (h : ∀ x ∈ notTerm, t.1 ≠ x) : takeIfM ws "not" i = told false i ∧ takeIfM ws "yes" i = told false i ∧ takeIfM ws "in" i = told false i := by
  have n := hh.nx h
  exact ⟨takeIf_no n (by decide +kernel), takeIf_no n (by decide +kernel), takeIf_no n (by decide +kernel)⟩
theorem nots_of {k : Str} (h : k = "a number" ∨ k = "a name" ∨ k = "(") : ∀ x ∈ notTerm, k ≠ x := by
  rcases h with rfl | rfl | rfl <;> decide +kernel
end Prs
set_option Elab.async false
set_option linter.all false
set_option maxRecDepth 100000
set_option maxHeartbeats 4000000
namespace Prs
open PySem PySem.Spec PyProof.Rows L2 Evl
theorem one_ei {n : Nat} {ws : List Wd} {i : Nat} {t : Tok} {r : List Tok} (hh : Has ws i (t :: r)) (h : ∀ x ∈ notTerm, t.1 ≠ x) : (brOne (n + 1)).2 ws i = andThen (eiN n ws i) fun bd j => if bd.1 then compM (partM n) ws bd.2 j else told bd.2 j := by
  obtain ⟨h1, h2, h3⟩ := nots hh h
  rw [one_eq]
  unfold oneS
  rw [h1, at_told]
  simp only [Bool.false_eq_true, if_false]
  rw [h2, at_told]
  simp only [Bool.false_eq_true, if_false]
  rw [h3, at_told]
  simp only [Bool.false_eq_true, if_false]
theorem o_yes {k : Nat} : One (k + 1) (.tuple [.str "yes"]) [kw "yes"] := by
  refine ⟨fun n hn ws i hh nx => ?_, .word ⟨_, _, rfl, by decide +kernel⟩, by decide⟩
  obtain ⟨n, rfl⟩ : ∃ q, n = q + 1 := ⟨n - 1, by omega⟩
  rw [one_eq]
  unfold oneS
  have h1 : takeIfM ws "not" i = told false i := takeIf_no (hh.nx (bad := ["not"]) (by decide +kernel)) (by decide +kernel)
  have h2 : takeIfM ws "yes" i = told true (i + 1) := takeIf_yes hh
  rw [h1, at_told]
  simp only [Bool.false_eq_true, if_false]
  rw [h2, at_told]
  rfl
theorem o_in {k : Nat} {x : Str} : One (k + 1) (.tuple [.str "in", .str x]) [kw "in", nm x] := by
  refine ⟨fun n hn ws i hh nx => ?_, .word ⟨_, _, rfl, by decide +kernel⟩, by show 0 < 2; decide⟩
  obtain ⟨n, rfl⟩ : ∃ q, n = q + 1 := ⟨n - 1, by omega⟩
  rw [one_eq]
  unfold oneS
  have h1 : takeIfM ws "not" i = told false i := takeIf_no (hh.nx (bad := ["not"]) (by decide +kernel)) (by decide +kernel)
  have h2 : takeIfM ws "yes" i = told false i := takeIf_no (hh.nx (bad := ["yes"]) (by decide +kernel)) (by decide +kernel)
  have h3 : takeIfM ws "in" i = told true (i + 1) := takeIf_yes hh
  have h4 : takeM ws ["a name"] (i + 1) = told x (i + 1 + 1) := take_ok hh.tail (by show inV (.str "a name") _ = true; decide +kernel)
  rw [h1, at_told]
  simp only [Bool.false_eq_true, if_false]
  rw [h2, at_told]
  simp only [Bool.false_eq_true, if_false]
  rw [h3, at_told]
  simp only [if_true]
  rw [h4]
  rfl
theorem o_not {k : Nat} {g : PyData} {tg : List Tok} (o : One k g tg) : One (k + 1) (.tuple [.str "not", g]) (kw "not" :: tg) := by
  refine ⟨fun n hn ws i hh nx => ?_, .word ⟨_, _, rfl, by show inV (.str "not") _ = true; decide +kernel⟩, by simp⟩
  obtain ⟨n, rfl⟩ : ∃ q, n = q + 1 := ⟨n - 1, by omega⟩
  have e : i + (kw "not" :: tg).length = i + 1 + tg.length := by
    simp only [List.length_cons]
    omega
  rw [e] at nx ⊢
  rw [one_eq]
  unfold oneS
  have h1 : takeIfM ws "not" i = told true (i + 1) := takeIf_yes hh
  rw [h1, at_told]
  simp only [if_true]
  rw [o.one n (by omega) ws (i + 1) hh.tail nx, mapR_told]
theorem o_cmp {k : Nat} {t u : PyData} {tt tu : List Tok} {o w : Str} (a : TW false k t tt) (b : TW false k u tu) (ho : compsOf o = some w) : One (k + 1) (.tuple [.str w, t, u]) (tt ++ kw o :: tu) := by
  have e : ∀ i : Nat, i + (tt ++ kw o :: tu).length = i + tt.length + 1 + tu.length := fun i => by
    simp only [List.length_append, List.length_cons]
    omega
  obtain ⟨t0, r, rfl, hk⟩ := tw_head a
  have ei : ∀ n, k ≤ n → ∀ ws i, Has ws i ((t0 :: r) ++ kw o :: tu) → eiN n ws i = told (true, t) (i + (t0 :: r).length) := fun n hn ws i hh => ei_term a hn hh.left (hh.right.nx (comps_in ho).2.1)
  refine ⟨fun n hn ws i hh nx => ?_, .cmp ⟨t0, _, rfl, notTerm_no hk⟩ (fun n hn ws i hh nx => ⟨t, i + (t0 :: r).length, ei n (by omega) ws i hh, hh.right.nx (comps_in ho).2.2, ?_⟩), by simp⟩
  · obtain ⟨n, rfl⟩ : ∃ q, n = q + 1 := ⟨n - 1, by omega⟩
    rw [e] at nx ⊢
    rw [one_ei (r := r ++ kw o :: tu) hh (nots_of hk), ei n (by omega) ws i hh, at_told]
    simp only [if_true]
    exact comp_ok b ho (by omega) hh.right nx
  · rw [e] at nx ⊢
    exact comp_ok b ho (by omega) hh.right nx
/-- a guard in brackets, as it is read where a bracket may begin both -/
theorem br_guard {l k : Nat} {g g0 : PyData} {tg t0 tr : List Tok} (W : Whole l k g tg g0 t0 tr) : ∀ n, k + 1 ≤ n → ∀ ws i, Has ws i (kw "(" :: (tg ++ [kw ")"])) → (brOne n).1 ws i = told (false, g) (i + (kw "(" :: (tg ++ [kw ")"])).length) := by
  intro n hn ws i hh
  obtain ⟨n, rfl⟩ : ∃ q, n = q + 1 := ⟨n - 1, by omega⟩
  have hkn : k ≤ n := by omega
  have h2 := hh.tail
  have h3 := h2.left
  have h4 := h2.right
  have nx : Nx ws (i + 1 + tg.length) BadG := h4.nx (by decide +kernel)
  have hr := W.rest hkn h3 nx
  have nx0 := W.first hkn h3 (nx.mono (by decide +kernel))
  have eq := W.eq
  subst eq
  have h30 := h3.left
  have fin : andThen (told ((false, g0) : BD) (i + 1 + t0.length)) (br3 (partM n) (brOne n).2 ws) = told (false, g) (i + (kw "(" :: ((t0 ++ tr) ++ [kw ")"])).length) := by
    rw [at_told]
    unfold br3
    simp only [Bool.false_eq_true, if_false, at_told]
    unfold br4
    simp only [Bool.not_false, if_true]
    rw [hr, mapR_told, at_told]
    unfold br5
    rw [take_ok h4 (by decide +kernel), at_told]
    congr 1
    simp only [List.length_cons, List.length_append, List.length_nil]
    omega
  have hp : 0 < t0.length := W.one.pos
  rw [br_eq]
  unfold bracketS
  rw [take_ok hh (by decide +kernel), at_told]
  cases W.one.fst with
  | word h =>
    obtain ⟨t, r, rfl, hi⟩ := h
    obtain ⟨c, hc⟩ := h3.head
    rw [hc]
    dsimp only
    rw [hi]
    simp only [Bool.not_true, Bool.false_eq_true, if_false]
    rw [W.one.one n hkn ws (i + 1) h30 nx0, mapR_told]
    exact fin
  | cmp h hc' =>
    obtain ⟨t, r, rfl, hi⟩ := h
    obtain ⟨c, hc⟩ := h3.head
    rw [hc]
    dsimp only
    rw [hi]
    simp only [Bool.not_false, if_true]
    obtain ⟨u, j, e1, ⟨x, hx, hn⟩, e2⟩ := hc' n hkn ws (i + 1) h30 nx0
    have e1' : eitherM (partM n) (brOne n).1 ws (i + 1) = told (true, u) j := e1
    rw [e1', at_told]
    have hx2 : x.kind ≠ ")" := hn ")" (by decide +kernel)
    rw [← fin, at_told]
    unfold br3
    simp only [if_true, Bool.false_eq_true, if_false]
    rw [hx]
    dsimp only
    rw [decS, decide_eq_false hx2]
    simp only [Bool.not_false, if_true]
    rw [e2, mapR_told]
  | brk h hb =>
    obtain ⟨t, r, rfl, hi⟩ := h
    obtain ⟨c, hc⟩ := h3.head
    rw [hc]
    dsimp only
    rw [hi]
    simp only [Bool.not_false, if_true]
    have e1' : eitherM (partM n) (brOne n).1 ws (i + 1) = told (false, g0) (i + 1 + (t :: r).length) := hb n hkn ws (i + 1) h30
    rw [e1']
    exact fin
theorem o_br {l k : Nat} {g g0 : PyData} {tg t0 tr : List Tok} (W : Whole l k g tg g0 t0 tr) : One (k + 2) g (kw "(" :: (tg ++ [kw ")"])) := by
  have ei : ∀ n, k + 1 ≤ n → ∀ ws i, Has ws i (kw "(" :: (tg ++ [kw ")"])) → eiN n ws i = told (false, g) (i + (kw "(" :: (tg ++ [kw ")"])).length) := fun n hn ws i hh => by
    obtain ⟨c, hc⟩ := hh.head
    show eitherM (partM n) (brOne n).1 ws i = _
    unfold eitherM
    rw [hc]
    dsimp only
    have : decide (V.str (kw "(").1 = V.str "(") = true := decide_eq_true rfl
    rw [this]
    simp only [Bool.not_true, Bool.false_eq_true, if_false]
    rw [br_guard W n hn ws i hh, at_told]
    rfl
  refine ⟨fun n hn ws i hh nx => ?_, .brk ⟨_, _, rfl, by show inV (.str "(") _ = false; decide +kernel⟩ (fun n hn ws i hh => ei n (by omega) ws i hh), by simp⟩
  obtain ⟨n, rfl⟩ : ∃ q, n = q + 1 := ⟨n - 1, by omega⟩
  rw [one_ei hh (nots_of (.inr (.inr rfl))), ei n (by omega) ws i hh, at_told]
  rfl
theorem gw_whole {l k : Nat} {g : PyData} {tg : List Tok} (h : GW l k g tg) : ∃ g0 t0 tr, Whole l k g tg g0 t0 tr := by
  induction h with
  | yes => exact ⟨_, _, _, .ofOne o_yes⟩
  | inn => exact ⟨_, _, _, .ofOne o_in⟩
  | neg _ ih =>
    obtain ⟨g0, t0, tr, W⟩ := ih
    obtain ⟨rfl, rfl⟩ := W.zero rfl
    have e := W.eq
    rw [List.append_nil] at e
    subst e
    exact ⟨_, _, _, .ofOne (o_not W.one)⟩
  | cmp a b ho => exact ⟨_, _, _, .ofOne (o_cmp a b ho)⟩
  | br _ ih =>
    obtain ⟨g0, t0, tr, W⟩ := ih
    exact ⟨_, _, _, .ofOne (o_br W)⟩
  | @both l k a c ta tc _ _ ia ic =>
    obtain ⟨a0, t0, tr, W⟩ := ia
    obtain ⟨c0, u0, ur, U⟩ := ic
    obtain ⟨rfl, rfl⟩ := U.zero rfl
    have eU := U.eq
    rw [List.append_nil] at eU
    subst eU
    refine ⟨a0, t0, tr ++ kw "and" :: tc, by rw [W.eq, List.append_assoc], W.one, ?_, fun n hn ws i hh nx => ?_, fun z => nomatch z⟩
    · rcases W.hd with rfl | ⟨r, rfl | rfl⟩
      · exact .inr ⟨_, .inl rfl⟩
      · exact .inr ⟨_, .inl rfl⟩
      · exact .inr ⟨_, .inr rfl⟩
    · have h1 := hh.left
      have h2 := hh.right
      obtain ⟨m, d1, j1, m2, s1, s2, b1, b2, z2, _⟩ := W.go n hn ws i h1 (h2.nx (by show ∀ x ∈ badOf 1, _; decide +kernel))
      obtain rfl := z2 (Nat.le_refl _)
      cases s2
      have e6 : i + ta.length + 1 + tc.length = i + (ta ++ kw "and" :: tc).length := by
        simp only [List.length_append, List.length_cons]
        omega
      have nx' : Nx ws (i + ta.length + 1 + tc.length) BadOne := by
        rw [e6]
        exact nx.mono (by unfold badOf; split <;> decide +kernel)
      have o := U.one.one n hn ws (i + ta.length + 1) h2.tail nx'
      rw [e6] at o
      refine ⟨m + 1, _, _, 0, BSt.s s1 (takeIf_yes h2) o, .z, ?_, Nat.zero_le _, fun _ => rfl, fun z => absurd rfl z⟩
      simp only [List.length_append, List.length_cons]
      omega
  | @either k a c ta tc _ _ ia ic =>
    obtain ⟨a0, t0, tr, W⟩ := ia
    obtain ⟨c0, u0, ur, U⟩ := ic
    obtain ⟨rfl, rfl⟩ := U.zero rfl
    have eU := U.eq
    rw [List.append_nil] at eU
    subst eU
    refine ⟨a0, t0, tr ++ kw "or" :: tc, by rw [W.eq, List.append_assoc], W.one, ?_, fun n hn ws i hh nx => ?_, fun z => nomatch z⟩
    · rcases W.hd with rfl | ⟨r, rfl | rfl⟩
      · exact .inr ⟨_, .inr rfl⟩
      · exact .inr ⟨_, .inl rfl⟩
      · exact .inr ⟨_, .inr rfl⟩
    · have h1 := hh.left
      have h2 := hh.right
      obtain ⟨m, d1, j1, m2, s1, s2, b1, b2, _, z3⟩ := W.go n hn ws i h1 (h2.nx (by show ∀ x ∈ badOf 2, _; decide +kernel))
      have e6 : i + ta.length + 1 + tc.length = i + (ta ++ kw "or" :: tc).length := by
        simp only [List.length_append, List.length_cons]
        omega
      have nx' : Nx ws (i + ta.length + 1 + tc.length) (badOf 2) := by
        rw [e6]
        exact nx
      have o := U.one.one n hn ws (i + ta.length + 1) h2.tail (nx'.mono (by decide +kernel))
      have na : takeIfM ws "and" (i + ta.length + 1 + tc.length) = told false (i + ta.length + 1 + tc.length) := takeIf_no nx' (by decide +kernel)
      rw [e6] at o na
      refine ⟨m, d1, j1, m2 + 1, s1, GSt.s s2 (takeIf_yes h2) o na, ?_, ?_, fun z => absurd z (by decide), fun _ => ?_⟩
      · simp only [List.length_append, List.length_cons]
        omega
      · simp only [List.length_append, List.length_cons]
        omega
      · by_cases z : m2 = 0
        · subst z
          cases s2
          exact takeIf_no (h2.nx (bad := ["and"]) (by decide +kernel)) (by decide +kernel)
        · exact z3 z
/-- a whole guard -/
theorem guard_ok {l k : Nat} {g : PyData} {tg : List Tok} (h : GW l k g tg) {n : Nat} (hn : k ≤ n) {ws : List Wd} {i : Nat} (hh : Has ws i tg) (nx : Nx ws (i + tg.length) BadG) : mGuard n ws i = told g (i + tg.length) := by
  obtain ⟨g0, t0, tr, W⟩ := gw_whole h
  have h0 := W.first hn hh (nx.mono (by decide +kernel))
  have hr := W.rest hn hh nx
  have e := W.eq
  subst e
  show guardM (brOne n).2 ws i = _
  unfold guardM
  rw [W.one.one n hn ws i hh.left h0, at_told]
  exact hr
end Prs
set_option Elab.async false
set_option linter.all false
set_option maxRecDepth 100000
set_option maxHeartbeats 4000000
namespace Prs
open PySem PySem.Spec PyProof.Rows L2 Evl
/-! ### lists with commas -/
/-- what reads one of them -/
structure Rdr (rd : Rd' PyData) (R : PyData → List Tok → Prop) (bad : List Str) : Prop where
  ok : ∀ d t, R d t → ∀ ws i, Has ws i t → Nx ws (i + t.length) bad → rd ws i = told d (i + t.length)
  pos : ∀ d t, R d t → 0 < t.length
  com : ∀ x ∈ bad, ("," : Str) ≠ x
inductive LW (R : PyData → List Tok → Prop) : List PyData → List Tok → Prop
  | one {d : PyData} {t : List Tok} : R d t → LW R [d] t
  | snoc {ds : List PyData} {d : PyData} {t u : List Tok} : LW R ds t → R d u → LW R (ds ++ [d]) (t ++ kw "," :: u)
theorem LW.pos {R : PyData → List Tok → Prop} {ds : List PyData} {t : List Tok} (h : LW R ds t) (hp : ∀ d t, R d t → 0 < t.length) : 0 < t.length ∧ 0 < ds.length ∧ ds.length ≤ t.length := by
  induction h with
  | one h =>
    have := hp _ _ h
    exact ⟨this, by simp, by simp only [List.length_cons, List.length_nil]; omega⟩
  | snoc _ h ih =>
    have := hp _ _ h
    refine ⟨?_, ?_, ?_⟩ <;> simp only [List.length_append, List.length_cons, List.length_nil] <;> omega
theorem LW.go {rd : Rd' PyData} {R : PyData → List Tok → Prop} {bad : List Str} (q : Rdr rd R bad) {ds : List PyData} {t : List Tok} (h : LW R ds t) : ds.length ≤ 40000 → ∀ ws i, Has ws i t → Nx ws (i + t.length) bad → ∃ d0 j0 m, rd ws i = told d0 j0 ∧ (∀ f, listGo rd ws (f + m) [d0] j0 = listGo rd ws f ds (i + t.length)) ∧ m ≤ t.length := by
  induction h with
  | @one d t h =>
    intro _ ws i hh nx
    exact ⟨d, _, 0, q.ok _ _ h ws i hh nx, fun f => rfl, Nat.zero_le _⟩
  | @snoc ds d t u hs hd ih =>
    intro hl ws i hh nx
    have h1 := hh.left
    have h2 := hh.right
    rw [List.length_append] at hl
    obtain ⟨d0, j0, m, e1, e2, e3⟩ := ih (by omega) ws i h1 (h2.nx q.com)
    have e6 : i + t.length + 1 + u.length = i + (t ++ kw "," :: u).length := by
      simp only [List.length_append, List.length_cons]
      omega
    have nx' : Nx ws (i + t.length + 1 + u.length) bad := by
      rw [e6]
      exact nx
    have o := q.ok _ _ hd ws (i + t.length + 1) h2.tail nx'
    rw [e6] at o
    refine ⟨d0, j0, m + 1, e1, fun f => ?_, ?_⟩
    · have : f + (m + 1) = (f + 1) + m := by omega
      rw [this, e2 (f + 1)]
      conv => lhs; unfold listGo
      have hy : takeIfM ws "," (i + t.length) = told true (i + t.length + 1) := takeIf_yes h2
      rw [hy, at_told]
      simp only [if_true]
      rw [o, at_told, if_pos (by omega)]
    · simp only [List.length_append, List.length_cons]
      omega
theorem list_ok {rd : Rd' PyData} {R : PyData → List Tok → Prop} {bad : List Str} (q : Rdr rd R bad) {ds : List PyData} {t : List Tok} (h : LW R ds t) (hl : ds.length ≤ 40000) {ws : List Wd} {i : Nat} (hh : Has ws i t) (nx : Nx ws (i + t.length) ("," :: bad)) : listM rd ws i = told (.tuple ds) (i + t.length) := by
  obtain ⟨d0, j0, m, e1, e2, e3⟩ := h.go q hl ws i hh (nx.mono fun x hx => List.mem_cons_of_mem _ hx)
  have hl := has_len hh (h.pos q.pos).1
  unfold listM
  rw [e1, at_told]
  have : ws.length + 1 = (ws.length - m + 1) + m := by omega
  rw [this, e2]
  unfold listGo
  rw [takeIf_no nx List.mem_cons_self, at_told]
  rfl
/-! ### deeds, goals, whens -/
inductive DeW (k : Nat) : PyData → List Tok → Prop
  | put {w x : Str} {t : PyData} {tt : List Tok} : w = "set" ∨ w = "say" → TW false k t tt → DeW k (.tuple [.str w, .str x, t]) (kw w :: nm x :: tt)
  | call {x : Str} : DeW k (.tuple [.str "raise", .str x]) [kw "raise", nm x]
theorem name_in : inV (.str ("a name" : Str)) ((["a name"] : List Str).map V.str) = true := by decide +kernel
theorem deed_rdr {k n : Nat} (hn : k ≤ n) : Rdr (deedM (mTerm n)) (DeW k) BadOne := by
  refine ⟨fun d t h ws i hh nx => ?_, fun d t h => ?_, by decide +kernel⟩
  · cases h with
    | @put w x t tt hw ht =>
      have e : i + (kw w :: nm x :: tt).length = i + 1 + 1 + tt.length := by
        simp only [List.length_cons]
        omega
      rw [e] at nx ⊢
      unfold deedM
      have h1 : takeM ws ["set", "raise", "say"] i = told w (i + 1) := take_ok hh (by rcases hw with rfl | rfl <;> decide +kernel)
      have h2 : takeM ws ["a name"] (i + 1) = told x (i + 1 + 1) := take_ok hh.tail name_in
      rw [h1, at_told, h2, at_told]
      have h3 : decide (V.str w = V.str "raise") = false := by rcases hw with rfl | rfl <;> decide +kernel
      rw [h3]
      simp only [Bool.false_eq_true, if_false]
      have h4 : mTerm n ws (i + 1 + 1) = told t (i + 1 + 1 + tt.length) := term_ok ht hn hh.tail.tail nx
      rw [h4, mapR_told]
    | @call x =>
      unfold deedM
      have h1 : takeM ws ["set", "raise", "say"] i = told ("raise" : Str) (i + 1) := take_ok hh (by decide +kernel)
      have h2 : takeM ws ["a name"] (i + 1) = told x (i + 1 + 1) := take_ok hh.tail name_in
      rw [h1, at_told, h2, at_told]
      have h3 : decide (V.str "raise" = V.str "raise") = true := decide_eq_true rfl
      rw [h3]
      rfl
  · cases h <;> simp
theorem deeds_ok {k n : Nat} (hn : k ≤ n) {ds : List PyData} {t : List Tok} (h : LW (DeW k) ds t) (hl : ds.length ≤ 40000) {ws : List Wd} {i : Nat} (hh : Has ws i t) (nx : Nx ws (i + t.length) ("," :: BadOne)) : mDeeds n ws i = told (.tuple ds) (i + t.length) := list_ok (deed_rdr hn) h hl hh nx
inductive NaW : PyData → List Tok → Prop
  | mk {x : Str} : NaW (.str x) [nm x]
theorem name_rdr : Rdr nameM NaW [] := by
  refine ⟨fun d t h ws i hh nx => ?_, fun d t h => ?_, by decide +kernel⟩
  · cases h with
    | @mk x =>
      unfold nameM
      have h2 : takeM ws ["a name"] i = told x (i + 1) := take_ok hh name_in
      rw [h2]
      rfl
  · cases h
    simp
theorem numb_ok {ws : List Wd} {i : Nat} {s : Str} {n : Int} {b : List Tok} (hh : Has ws i (nu s :: b)) (hs : numM s = some n) : numbM ws i = told n (i + 1) := by
  unfold numbM intM
  have h2 : takeM ws ["a number"] i = told s (i + 1) := take_ok hh (by show inV (.str "a number") _ = true; decide +kernel)
  rw [h2, at_told, hs]
inductive WhW : PyData → List Tok → Prop
  | on {x : Str} : WhW (.tuple [.str "on", .str x]) [kw "on", nm x]
  | after {s : Str} {n : Int} : numM s = some n → WhW (.tuple [.str "after", .int n]) [kw "after", nu s]
  | done : WhW (.tuple [.str "done"]) [kw "done"]
theorem when_ok {d : PyData} {t : List Tok} (h : WhW d t) {ws : List Wd} {i : Nat} (hh : Has ws i t) : whenM ws i = told d (i + t.length) := by
  unfold whenM
  cases h with
  | @on x =>
    have h1 : takeM ws ["on", "after", "done"] i = told ("on" : Str) (i + 1) := take_ok hh (by decide +kernel)
    have h2 : takeM ws ["a name"] (i + 1) = told x (i + 1 + 1) := take_ok hh.tail name_in
    rw [h1, at_told]
    have h3 : decide (V.str "on" = V.str "on") = true := decide_eq_true rfl
    rw [h3]
    simp only [if_true]
    unfold nameM
    rw [h2]
    rfl
  | @after s n hs =>
    have h1 : takeM ws ["on", "after", "done"] i = told ("after" : Str) (i + 1) := take_ok hh (by decide +kernel)
    rw [h1, at_told]
    have h3 : decide (V.str "after" = V.str "on") = false := by decide +kernel
    have h4 : decide (V.str "after" = V.str "after") = true := decide_eq_true rfl
    rw [h3, h4]
    simp only [Bool.false_eq_true, if_false, if_true]
    rw [numb_ok hh.tail hs]
    rfl
  | done =>
    have h1 : takeM ws ["on", "after", "done"] i = told ("done" : Str) (i + 1) := take_ok hh (by decide +kernel)
    rw [h1, at_told]
    have h3 : decide (V.str "done" = V.str "on") = false := by decide +kernel
    have h4 : decide (V.str "done" = V.str "after") = false := by decide +kernel
    rw [h3, h4]
    rfl
/-- a part that may be lacking: its word, then it -/
inductive OpW (w : Str) (d0 : PyData) (R : PyData → List Tok → Prop) : PyData → List Tok → Prop
  | no : OpW w d0 R d0 []
  | yes {d : PyData} {t : List Tok} : R d t → OpW w d0 R d (kw w :: t)
theorem opt_ok {w : Str} {d0 d : PyData} {R : PyData → List Tok → Prop} {rd : Rd' PyData} {t : List Tok} {bad : List Str} (h : OpW w d0 R d t) {ws : List Wd} {i : Nat} (hh : Has ws i t) (nx : Nx ws (i + t.length) (w :: bad)) (k : ∀ d t i, R d t → Has ws i t → Nx ws (i + t.length) bad → rd ws i = told d (i + t.length)) : optM w rd d0 ws i = told d (i + t.length) := by
  unfold optM
  cases h with
  | no =>
    have hz : takeIfM ws w i = told false i := takeIf_no nx List.mem_cons_self
    rw [hz, at_told]
    rfl
  | @yes _ t hr =>
    have e : i + (kw w :: t).length = i + 1 + t.length := by
      simp only [List.length_cons]
      omega
    rw [e] at nx ⊢
    have hy : takeIfM ws w i = told true (i + 1) := takeIf_yes hh
    rw [hy, at_told]
    simp only [if_true]
    exact k _ _ _ hr hh.tail (nx.mono fun x hx => List.mem_cons_of_mem _ hx)
def TupLW (R : PyData → List Tok → Prop) : PyData → List Tok → Prop := fun d t => ∃ ds, d = .tuple ds ∧ ds.length ≤ 40000 ∧ LW R ds t
/-- the words of a move, behind its go -/
inductive MvW (k : Nat) : PyData → List Tok → Prop
  | mk {wn g ds gl : PyData} {t1 t2 t3 t4 : List Tok} : WhW wn t1 → OpW "if" (.tuple [.str "yes"]) (GW 2 k) g t2 → OpW "do" (.tuple []) (TupLW (DeW k)) ds t3 → OpW "to" (.tuple []) (TupLW NaW) gl t4 → MvW k (.tuple [wn, g, ds, gl]) (t1 ++ (t2 ++ (t3 ++ t4)))
theorem nx_op {w : Str} {d0 d : PyData} {R : PyData → List Tok → Prop} {t : List Tok} {bad : List Str} (h : OpW w d0 R d t) {ws : List Wd} {i : Nat} {r : List Tok} (hh : Has ws i (t ++ r)) (hb : ∀ x ∈ bad, w ≠ x) (n : t = [] → Nx ws i bad) : Nx ws i bad := by
  cases h with
  | no => exact n rfl
  | yes hr => exact hh.nx hb
abbrev RowEnd (ws : List Wd) (j : Nat) : Prop := ∃ c, ws[j]? = some ⟨"the row's end", "", c⟩
theorem RowEnd.nx {ws : List Wd} {j : Nat} {bad : List Str} (h : RowEnd ws j) (hb : ∀ x ∈ bad, ("the row's end" : Str) ≠ x) : Nx ws j bad := by
  obtain ⟨c, hc⟩ := h
  exact ⟨_, hc, hb⟩
theorem move_ok {k n : Nat} (hn : k ≤ n) {d : PyData} {t : List Tok} (h : MvW k d t) {ws : List Wd} {i : Nat} (hh : Has ws i t) (re : RowEnd ws (i + t.length)) : mMove n ws i = told d (i + t.length) := by
  cases h with
  | @mk wn g ds gl t1 t2 t3 t4 h1 h2 h3 h4 =>
    have a1 := hh.left
    have b1 := hh.right
    have a2 := b1.left
    have b2 := b1.right
    have a3 := b2.left
    have a4 := b2.right
    have e : i + (t1 ++ (t2 ++ (t3 ++ t4))).length = i + t1.length + t2.length + t3.length + t4.length := by
      simp only [List.length_append]
      omega
    rw [e] at re ⊢
    have n4 : ∀ bad : List Str, (∀ x ∈ bad, ("to" : Str) ≠ x) → (∀ x ∈ bad, ("the row's end" : Str) ≠ x) → Nx ws (i + t1.length + t2.length + t3.length) bad := fun bad p q => by
      have z : Has ws (i + t1.length + t2.length + t3.length) (t4 ++ []) := by
        rw [List.append_nil]
        exact a4
      exact nx_op h4 z p fun y => by
        subst y
        exact re.nx q
    have n3 : ∀ bad : List Str, (∀ x ∈ bad, ("do" : Str) ≠ x) → (∀ x ∈ bad, ("to" : Str) ≠ x) → (∀ x ∈ bad, ("the row's end" : Str) ≠ x) → Nx ws (i + t1.length + t2.length) bad := fun bad o p q => nx_op h3 b2 o fun y => by
      subst y
      exact n4 bad p q
    show moveM (mGuard n) (mDeeds n) ws i = _
    unfold moveM
    rw [when_ok h1 a1, at_told]
    rw [opt_ok h2 a2 (bad := BadG) (n3 _ (by decide +kernel) (by decide +kernel) (by decide +kernel)) fun d t i hr hh nx => guard_ok hr hn hh nx, at_told]
    rw [opt_ok h3 a3 (bad := "," :: BadOne) (n4 _ (by decide +kernel) (by decide +kernel)) fun d t i hr hh nx => by
      obtain ⟨l, rfl, hl, hw⟩ := hr
      exact deeds_ok hn hw hl hh nx, at_told]
    rw [opt_ok h4 a4 (bad := [","]) (re.nx (by decide +kernel)) fun d t i hr hh nx => by
      obtain ⟨l, rfl, hl, hw⟩ := hr
      exact list_ok name_rdr hw hl hh nx, at_told]
/-! ### facts -/
inductive SgW : PyData → List Tok → Prop
  | pos {s : Str} {n : Int} : numM s = some n → SgW (.int n) [nu s]
  | neg {s : Str} {n : Int} : numM s = some n → SgW (.int (-n)) [kw "-", nu s]
theorem signed_ok {d : PyData} {t r : List Tok} (h : SgW d t) {ws : List Wd} {i : Nat} (hh : Has ws i (t ++ r)) : signedM ws i = told d (i + t.length) := by
  unfold signedM
  cases h with
  | pos hs =>
    have hy : takeIfM ws "-" i = told false i := takeIf_no (hh.nx (bad := ["-"]) (by show ∀ x ∈ (["-"] : List Str), ("a number" : Str) ≠ x; decide +kernel)) (by decide +kernel)
    rw [hy, at_told]
    simp only [Bool.false_eq_true, if_false]
    rw [numb_ok hh hs]
    rfl
  | neg hs =>
    have hy : takeIfM ws "-" i = told true (i + 1) := takeIf_yes hh
    rw [hy, at_told]
    simp only [if_true]
    rw [numb_ok hh.tail hs]
    rfl
inductive FaW : PyData → List Tok → Prop
  | mk {x : Str} {lo hi fi : PyData} {t1 t2 t3 : List Tok} : SgW lo t1 → SgW hi t2 → SgW fi t3 → FaW (.tuple [.str x, lo, hi, fi]) (nm x :: (t1 ++ (t2 ++ t3)))
theorem fact_ok {d : PyData} {t : List Tok} (h : FaW d t) {ws : List Wd} {i : Nat} (hh : Has ws i t) : factM ws i = told d (i + t.length) := by
  cases h with
  | @mk x lo hi fi t1 t2 t3 h1 h2 h3 =>
    have b0 := hh.tail
    have b1 := b0.right
    have b2 := b1.right
    have b2' : Has ws (i + 1 + t1.length + t2.length) (t3 ++ []) := by
      rw [List.append_nil]
      exact b2
    have e : i + (nm x :: (t1 ++ (t2 ++ t3))).length = i + 1 + t1.length + t2.length + t3.length := by
      simp only [List.length_cons, List.length_append]
      omega
    rw [e]
    unfold factM
    have h0 : takeM ws ["a name"] i = told x (i + 1) := take_ok hh name_in
    rw [h0, at_told, signed_ok h1 b0, at_told, signed_ok h2 b1, at_told, signed_ok h3 b2', mapR_told]
end Prs
set_option Elab.async false
set_option linter.all false
set_option maxRecDepth 100000
set_option maxHeartbeats 4000000
namespace Prs
open PySem PySem.Spec PyProof.Rows L2 Evl
/-! ### rows and what they make of a sheet -/
structure RowIs (row : Str) (D : Nat) (ts : List Tok) : Prop where
  bl : blanksOf row = ((2 * D : Nat) : Int)
  has : Has (wordsOf row) 0 ts
  fin : RowEnd (wordsOf row) ts.length
  qk : quickOk row = true
theorem rowM_is {n : Nat} {st : Sh} {num : Int} {row : Str} {D : Nat} {ts : List Tok} (h : RowIs row D ts) : rowM n st num row = rowM0 n st num row := if_pos h.qk
/-- a row's number, its depth, its words -/
abbrev RS := Int × Nat × List Tok
/-- the rows of a text from the one behind the i-th on -/
inductive TextOf : Nat → List Str → List RS → Prop
  | nil {i : Nat} : TextOf i [] []
  | skip {i : Nat} {r : Str} {rs : List Str} {sp : List RS} : isPassed r = true → TextOf (i + 1) rs sp → TextOf i (r :: rs) sp
  | row {i : Nat} {r : Str} {rs : List Str} {D : Nat} {ts : List Tok} {sp : List RS} : isPassed r = false → RowIs r D ts → TextOf (i + 1) rs sp → TextOf i (r :: rs) (((i : Int) + 1, D, ts) :: sp)
theorem TextOf.split {i : Nat} : ∀ {a b : List RS} {rows : List Str}, TextOf i rows (a ++ b) → ∃ r1 r2, rows = r1 ++ r2 ∧ TextOf i r1 a ∧ TextOf (i + r1.length) r2 b := by
  intro a b rows h
  generalize hc : a ++ b = c at h
  induction h generalizing a with
  | nil =>
    obtain ⟨rfl, rfl⟩ := List.append_eq_nil_iff.mp hc
    exact ⟨[], [], rfl, .nil, .nil⟩
  | @skip i r rs sp hp ht ih =>
    obtain ⟨r1, r2, e, h1, h2⟩ := ih hc
    refine ⟨r :: r1, r2, by rw [e]; rfl, .skip hp h1, ?_⟩
    have : i + (r :: r1).length = i + 1 + r1.length := by
      simp only [List.length_cons]
      omega
    rw [this]
    exact h2
  | @row i r rs D ts sp hp hr ht ih =>
    cases a with
    | nil =>
      have hc' : b = ((i : Int) + 1, D, ts) :: sp := hc
      subst hc'
      exact ⟨[], r :: rs, rfl, .nil, .row hp hr ht⟩
    | cons x a =>
      injection hc with e1 e2
      subst e1
      obtain ⟨r1, r2, e, h1, h2⟩ := ih e2
      refine ⟨r :: r1, r2, by rw [e]; rfl, .row hp hr h1, ?_⟩
      have : i + (r :: r1).length = i + 1 + r1.length := by
        simp only [List.length_cons]
        omega
      rw [this]
      exact h2
/-- going through these rows from st on ends as Q tells -/
def Runs (n : Nat) (sp : List RS) (st : Sh) (Q : Sh → Prop) : Prop := ∀ rows i, TextOf i rows sp → ∃ st', Q st' ∧ ∀ rest, sheetGo n (rows ++ rest) i st = sheetGo n rest (i + rows.length) st'
theorem Runs.nil {n : Nat} {st : Sh} {Q : Sh → Prop} (q : Q st) : Runs n [] st Q := fun rows i h => by
  generalize hc : ([] : List RS) = c at h
  induction h with
  | nil => exact ⟨st, q, fun rest => rfl⟩
  | @skip i r rs sp hp ht ih =>
    subst hc
    obtain ⟨st', q', e⟩ := ih rfl
    refine ⟨st', q', fun rest => ?_⟩
    show sheetGo n (r :: (rs ++ rest)) i st = _
    rw [sheetGo_cons, hp]
    simp only [Bool.not_true, Bool.false_eq_true, if_false]
    rw [e rest]
    congr 1
    simp only [List.length_cons]
    omega
  | row _ _ _ _ => cases hc
theorem Runs.app {n : Nat} {a b : List RS} {st : Sh} {Q R : Sh → Prop} (h : Runs n a st Q) (k : ∀ st', Q st' → Runs n b st' R) : Runs n (a ++ b) st R := fun rows i ht => by
  obtain ⟨r1, r2, rfl, h1, h2⟩ := ht.split
  obtain ⟨st1, q1, e1⟩ := h r1 i h1
  obtain ⟨st2, q2, e2⟩ := k st1 q1 r2 _ h2
  refine ⟨st2, q2, fun rest => ?_⟩
  rw [List.append_assoc, e1, e2, List.length_append, Nat.add_assoc]
theorem Runs.mono {n : Nat} {a : List RS} {st : Sh} {Q R : Sh → Prop} (h : Runs n a st Q) (k : ∀ st', Q st' → R st') : Runs n a st R := fun rows i ht => by
  obtain ⟨st1, q1, e1⟩ := h rows i ht
  exact ⟨st1, k _ q1, e1⟩
/-- one row -/
theorem Runs.one {n : Nat} {num : Int} {D : Nat} {ts : List Tok} {st : Sh} {Q : Sh → Prop} (h : ∀ row, RowIs row D ts → ∃ st', Q st' ∧ rowM n st num row = some (.inr st')) : Runs n [(num, D, ts)] st Q := fun rows i ht => by
  generalize hc : ([(num, D, ts)] : List RS) = c at ht
  induction ht with
  | nil => cases hc
  | @skip i r rs sp hp ht ih =>
    subst hc
    obtain ⟨st', q', e⟩ := ih rfl
    refine ⟨st', q', fun rest => ?_⟩
    show sheetGo n (r :: (rs ++ rest)) i st = _
    rw [sheetGo_cons, hp]
    simp only [Bool.not_true, Bool.false_eq_true, if_false]
    rw [e rest]
    congr 1
    simp only [List.length_cons]
    omega
  | @row i r rs D' ts' sp hp hr ht ih =>
    cases hc
    obtain ⟨st1, q1, e1⟩ := h r hr
    obtain ⟨st2, q2, e2⟩ := Runs.nil (n := n) (Q := fun s => s = st1) rfl rs (i + 1) ht
    subst q2
    refine ⟨_, q1, fun rest => ?_⟩
    show sheetGo n (r :: (rs ++ rest)) i st = _
    rw [sheetGo_cons, hp]
    simp only [Bool.not_false, if_true]
    rw [e1]
    unfold goOn
    dsimp only
    rw [e2 rest]
    congr 1
    simp only [List.length_cons]
    omega
theorem end_ok {ws : List Wd} {j : Nat} {st st' : Sh} {ok : Option Nat} (re : RowEnd ws j) (hf : finRow st ok = some st') : endRow ws st ok j = some (.inr st') := by
  obtain ⟨c, hc⟩ := re
  unfold endRow
  have : takeM ws ["the row's end"] j = told ("" : Str) (j + 1) := by
    unfold takeM
    rw [hc]
    dsimp only
    have z : inV (.str ("the row's end" : Str)) ((["the row's end"] : List Str).map V.str) = true := by decide +kernel
    rw [z]
    rfl
  rw [this]
  unfold told
  dsimp only
  rw [hf]
theorem bl0 {row : Str} {ts : List Tok} (h : RowIs row 0 ts) : decide (V.int (blanksOf row) = V.int 0) = true := by
  rw [h.bl]
  rfl
/-- a row of a fact -/
theorem run_fact {n : Nat} {num : Int} {st : Sh} {d : PyData} {tf : List Tok} (hr : st.root = none) (hh : st.haps = []) (hl : st.facts.length < 50000) (hw : FaW d tf) : Runs n [(num, 0, kw "fact" :: tf)] st fun s => s = { st with facts := st.facts ++ [d] } := Runs.one fun row h => by
  refine ⟨_, rfl, ?_⟩
  rw [rowM_is h]
  unfold rowM0
  rw [hr]
  dsimp only
  rw [bl0 h]
  simp only [Bool.not_true, Bool.false_eq_true, if_false]
  have h1 : takeM (wordsOf row) (headWords st) 0 = told ("fact" : Str) (0 + 1) := take_ok h.has (by
    unfold headWords
    rw [hh]
    decide +kernel)
  have h2 : factM (wordsOf row) (0 + 1) = told d (0 + 1 + tf.length) := fact_ok hw h.has.tail
  have h3 : headM st num (wordsOf row) 0 = told ({ st with facts := st.facts ++ [d] }, none) (0 + 1 + tf.length) := by
    unfold headM
    rw [h1, at_told]
    have h4 : decide (V.str ("fact" : Str) = V.str "fact") = true := decide_eq_true rfl
    rw [h4]
    simp only [if_true]
    rw [h2, at_told, if_pos hl]
  rw [h3]
  unfold told rowHead okIn
  simp only [if_true]
  refine end_ok ?_ ?_
  · have := h.fin
    simp only [List.length_cons] at this
    have e : 0 + 1 + tf.length = tf.length + 1 := by omega
    rw [e]
    exact this
  · obtain ⟨a, b, c, d', e⟩ := st
    dsimp only at hr
    subst hr
    rfl
theorem run_on {n : Nat} {num : Int} {st : Sh} {x : Str} (hr : st.root = none) (hl : st.haps.length < 50000) : Runs n [(num, 0, [kw "on", nm x])] st fun s => s = { st with haps := st.haps ++ [.str x] } := Runs.one fun row h => by
  refine ⟨_, rfl, ?_⟩
  rw [rowM_is h]
  unfold rowM0
  rw [hr]
  dsimp only
  rw [bl0 h]
  simp only [Bool.not_true, Bool.false_eq_true, if_false]
  have h1 : takeM (wordsOf row) (headWords st) 0 = told ("on" : Str) (0 + 1) := take_ok h.has (by
    unfold headWords
    split <;> decide +kernel)
  have h2 : takeM (wordsOf row) ["a name"] (0 + 1) = told x (0 + 1 + 1) := take_ok h.has.tail name_in
  have h3 : headM st num (wordsOf row) 0 = told ({ st with haps := st.haps ++ [.str x] }, none) (0 + 1 + 1) := by
    unfold headM
    rw [h1, at_told]
    have h4 : decide (V.str ("on" : Str) = V.str "fact") = false := by decide +kernel
    have h5 : decide (V.str ("on" : Str) = V.str "on") = true := decide_eq_true rfl
    rw [h4, h5]
    simp only [Bool.false_eq_true, if_false, if_true]
    unfold nameM
    rw [h2, mapR_told, at_told, if_pos hl]
  rw [h3]
  unfold told rowHead okIn
  simp only [if_true]
  refine end_ok h.fin ?_
  obtain ⟨a, b, c, d', e⟩ := st
  dsimp only at hr
  subst hr
  rfl
theorem sort_in {s : Str} (h : s ∈ SORTSs) : inV (.str s) (SORTSs.map V.str) = true ∧ inV (.str s) (INNER.map V.str) = false ∧ decide (V.str s = V.str "fact") = false ∧ decide (V.str s = V.str "on") = false := by
  simp only [SORTSs, List.mem_cons, List.not_mem_nil, or_false] at h
  rcases h with rfl | rfl | rfl | rfl | rfl | rfl <;> decide +kernel
theorem inV_app {x : V} {a b : List V} (h : inV x b = true) : inV x (a ++ b) = true := by
  unfold inV at h ⊢
  rw [List.any_append, h, Bool.or_true]
theorem run_root {n : Nat} {num : Int} {st : Sh} {x s : Str} (hr : st.root = none) (ho : st.opened = []) (hrs : st.rs = []) (hs : s ∈ SORTSs) (hm : inV (.str s) (MARKER.map V.str) = false) : Runs n [(num, 0, [kw s, nm x])] st fun t => t = { st with root := some 0, opened := [0], rs := [newRc x s num] } := Runs.one fun row h => by
  refine ⟨_, rfl, ?_⟩
  obtain ⟨i1, i2, i3, i4⟩ := sort_in hs
  rw [rowM_is h]
  unfold rowM0
  rw [hr]
  dsimp only
  rw [bl0 h]
  simp only [Bool.not_true, Bool.false_eq_true, if_false]
  have h1 : takeM (wordsOf row) (headWords st) 0 = told s (0 + 1) := take_ok h.has (by
    unfold headWords
    rw [List.map_append]
    exact inV_app i1)
  have h2 : takeM (wordsOf row) ["a name"] (0 + 1) = told x (0 + 1 + 1) := take_ok h.has.tail name_in
  have h3 : headM st num (wordsOf row) 0 = told ({ st with rs := st.rs ++ [newRc x s num] }, some st.rs.length) (0 + 1 + 1) := by
    unfold headM
    rw [h1, at_told, i3, i4]
    simp only [Bool.false_eq_true, if_false]
    rw [h2, at_told]
  rw [h3]
  unfold told rowHead
  obtain ⟨a, b, c, d', e⟩ := st
  dsimp only at hr ho hrs
  subst hr ho hrs
  dsimp only
  have : okIn ([] ++ [newRc x s num]).length (some ([] : List Rc).length) = true := by
    show decide (0 < 1) = true
    decide
  rw [if_pos this]
  refine end_ok h.fin ?_
  unfold finRow
  dsimp only [List.nil_append, List.length_nil, List.getElem?_cons_zero]
  have : inV (.str (newRc x s num).kind) (MARKER.map V.str) = false := hm
  rw [this]
  rfl
end Prs
set_option Elab.async false
set_option linter.all false
set_option maxRecDepth 100000
set_option maxHeartbeats 4000000
namespace Prs
open PySem PySem.Spec PyProof.Rows L2 Evl
/-- the stand at k is the one that rows of depth D stand in -/
structure Op (st : Sh) (D k : Nat) (r : Rc) : Prop where
  root : st.root ≠ none
  dep : 1 ≤ D
  len : D ≤ st.opened.length
  last : (st.opened.take D).getLast? = some k
  at_ : st.rs[k]? = some r
theorem Op.lt {st : Sh} {D k : Nat} {r : Rc} (o : Op st D k r) : k < st.rs.length := by
  rcases Nat.lt_or_ge k st.rs.length with q | q
  · exact q
  · have := o.at_
    rw [List.getElem?_eq_none q] at this
    cases this
theorem row_inner {n : Nat} {num : Int} {st : Sh} {D k : Nat} {r : Rc} {row : Str} {ts : List Tok} (o : Op st D k r) (h : RowIs row D ts) : rowM n st num row = rowInner { st with opened := st.opened.take D } (wordsOf row) (innerM n st.rs k num (wordsOf row) 0) := by
  rw [rowM_is h]
  unfold rowM0
  obtain ⟨q, hq⟩ : ∃ q, st.root = some q := by
    cases e : st.root with
    | none => exact absurd e o.root
    | some q => exact ⟨q, rfl⟩
  rw [hq]
  dsimp only
  have e1 : blanksOf row % 2 = 0 := by
    rw [h.bl]
    omega
  have e2 : blanksOf row / 2 = (D : Int) := by
    rw [h.bl]
    omega
  rw [e1, e2]
  have e3 : decide (V.int 0 = V.int 0) = true := decide_eq_true rfl
  have e4 : decide ((1 : Int) ≤ (D : Int)) = true := decide_eq_true (by have := o.dep; omega)
  have e5 : decide ((D : Int) ≤ ((st.opened.length : Nat) : Int)) = true := decide_eq_true (by have := o.len; omega)
  rw [e3, e4, e5]
  simp only [Bool.not_true, Bool.and_self, Bool.or_false, Bool.false_eq_true, if_false, Int.toNat_natCast]
  rw [o.last]
/-- a row straight in a stand that begins none -/
theorem run_prop {n : Nat} {num : Int} {st : Sh} {D k : Nat} {r r' : Rc} {ts : List Tok} (o : Op st D k r) (h : ∀ row, RowIs row D ts → innerM n st.rs k num (wordsOf row) 0 = told (st.rs.set k r', none) ts.length) : Runs n [(num, D, ts)] st fun t => t = { st with opened := st.opened.take D, rs := st.rs.set k r' } := Runs.one fun row hr => by
  refine ⟨_, rfl, ?_⟩
  rw [row_inner o hr, h row hr]
  unfold told rowInner
  have : st.rs.length ≤ (st.rs.set k r').length ∧ okIn (st.rs.set k r').length none = true := ⟨by rw [List.length_set]; exact Nat.le_refl _, rfl⟩
  dsimp only
  rw [if_pos this]
  exact end_ok hr.fin rfl
theorem next_in {r : Rc} {w : Str} (h : w ∈ INNER.drop r.passed) : inV (.str w) ((nextWords r.kind r.passed).map V.str) = true := by
  unfold nextWords
  rw [List.map_append]
  unfold inV
  rw [List.any_append, Bool.or_eq_true]
  refine .inl (List.any_eq_true.mpr ⟨.str w, List.mem_map_of_mem h, ?_⟩)
  simp [eqV]
theorem inner_in {w : Str} (h : w ∈ INNER) : inV (.str w) (INNER.map V.str) = true := by
  simp only [INNER, List.mem_cons, List.not_mem_nil, or_false] at h
  rcases h with rfl | rfl | rfl <;> decide +kernel
theorem rend_bad {ws : List Wd} {j : Nat} (h : RowEnd ws j) : Nx ws j ("," :: BadOne) := h.nx (by decide +kernel)
theorem run_into {n k0 : Nat} (hn : k0 ≤ n) {num : Int} {st : Sh} {D k : Nat} {r : Rc} {ds : List PyData} {t : List Tok} (o : Op st D k r) (hp : r.passed = 0) (hl : ds.length ≤ 40000) (hw : LW (DeW k0) ds t) : Runs n [(num, D, kw "into" :: t)] st fun s => s = { st with opened := st.opened.take D, rs := st.rs.set k { r with passed := 1, into := .tuple ds } } := run_prop o fun row hr => by
  unfold innerM
  rw [o.at_]
  dsimp only
  have h1 : takeM (wordsOf row) (nextWords r.kind r.passed) 0 = told ("into" : Str) (0 + 1) := take_ok hr.has (next_in (by rw [hp]; decide +kernel))
  rw [h1, at_told]
  have i1 : inV (.str ("into" : Str)) (INNER.map V.str) = true := by decide +kernel
  have i2 : decide (V.str ("into" : Str) = V.str "into") = true := decide_eq_true rfl
  rw [i1, i2]
  simp only [Bool.not_true, Bool.false_eq_true, if_false, if_true]
  have e : 0 + 1 + t.length = (kw "into" :: t).length := by
    simp only [List.length_cons]
    omega
  have f : RowEnd (wordsOf row) (0 + 1 + t.length) := by
    rw [e]
    exact hr.fin
  rw [deeds_ok hn hw hl hr.has.tail (rend_bad f), at_told, e]
theorem run_out {n k0 : Nat} (hn : k0 ≤ n) {num : Int} {st : Sh} {D k : Nat} {r : Rc} {ds : List PyData} {t : List Tok} (o : Op st D k r) (hp : r.passed ≤ 1) (hl : ds.length ≤ 40000) (hw : LW (DeW k0) ds t) : Runs n [(num, D, kw "out" :: t)] st fun s => s = { st with opened := st.opened.take D, rs := st.rs.set k { r with passed := 2, out := .tuple ds } } := run_prop o fun row hr => by
  unfold innerM
  rw [o.at_]
  dsimp only
  have h1 : takeM (wordsOf row) (nextWords r.kind r.passed) 0 = told ("out" : Str) (0 + 1) := take_ok hr.has (next_in (by
    rcases (by omega : r.passed = 0 ∨ r.passed = 1) with e | e <;> rw [e] <;> decide +kernel))
  rw [h1, at_told]
  have i1 : inV (.str ("out" : Str)) (INNER.map V.str) = true := by decide +kernel
  have i2 : decide (V.str ("out" : Str) = V.str "into") = false := by decide +kernel
  have i3 : decide (V.str ("out" : Str) = V.str "out") = true := decide_eq_true rfl
  rw [i1, i2, i3]
  simp only [Bool.not_true, Bool.false_eq_true, if_false, if_true]
  have e : 0 + 1 + t.length = (kw "out" :: t).length := by
    simp only [List.length_cons]
    omega
  have f : RowEnd (wordsOf row) (0 + 1 + t.length) := by
    rw [e]
    exact hr.fin
  rw [deeds_ok hn hw hl hr.has.tail (rend_bad f), at_told, e]
theorem run_move {n k0 : Nat} (hn : k0 ≤ n) {num : Int} {st : Sh} {D k : Nat} {r : Rc} {d : PyData} {t : List Tok} (o : Op st D k r) (hp : r.passed ≤ 2) (hl : r.moves.length < 50000) (hl2 : r.nums.length < 50000) (hw : MvW k0 d t) : Runs n [(num, D, kw "go" :: t)] st fun s => s = { st with opened := st.opened.take D, rs := st.rs.set k { r with passed := 2, moves := r.moves ++ [d], nums := r.nums ++ [num] } } := run_prop o fun row hr => by
  unfold innerM
  rw [o.at_]
  dsimp only
  have h1 : takeM (wordsOf row) (nextWords r.kind r.passed) 0 = told ("go" : Str) (0 + 1) := take_ok hr.has (next_in (by
    rcases (by omega : r.passed = 0 ∨ r.passed = 1 ∨ r.passed = 2) with e | e | e <;> rw [e] <;> decide +kernel))
  rw [h1, at_told]
  have i1 : inV (.str ("go" : Str)) (INNER.map V.str) = true := by decide +kernel
  have i2 : decide (V.str ("go" : Str) = V.str "into") = false := by decide +kernel
  have i3 : decide (V.str ("go" : Str) = V.str "out") = false := by decide +kernel
  rw [i1, i2, i3]
  simp only [Bool.not_true, Bool.false_eq_true, if_false]
  have e : 0 + 1 + t.length = (kw "go" :: t).length := by
    simp only [List.length_cons]
    omega
  have f : RowEnd (wordsOf row) (0 + 1 + t.length) := by
    rw [e]
    exact hr.fin
  rw [move_ok hn hw hr.has.tail f, at_told, e, if_pos ⟨hl, hl2⟩]
/-- a stand's own row, in another stand -/
theorem run_stand {n : Nat} {num : Int} {st : Sh} {D k : Nat} {r : Rc} {x s : Str} (o : Op st D k r) (hf : inV (.str r.kind) (FULL.map V.str) = true) (hs : s ∈ SORTSs) (hl : r.kids.length < 50000) (hD : D < 50000) :
    Runs n [(num, D, [kw s, nm x])] st fun t => t = { st with opened := if inV (.str s) (MARKER.map V.str) then st.opened.take D else st.opened.take D ++ [st.rs.length], rs := st.rs.set k { r with passed := 3, kids := r.kids ++ [st.rs.length] } ++ [newRc x s num] } := Runs.one fun row hr => by
  refine ⟨_, rfl, ?_⟩
  obtain ⟨i1, i2, _, _⟩ := sort_in hs
  rw [row_inner o hr]
  have h1 : takeM (wordsOf row) (nextWords r.kind r.passed) 0 = told s (0 + 1) := take_ok hr.has (by
    unfold nextWords
    rw [hf, List.map_append]
    exact inV_app i1)
  have h2 : takeM (wordsOf row) ["a name"] (0 + 1) = told x (0 + 1 + 1) := take_ok hr.has.tail name_in
  have h3 : innerM n st.rs k num (wordsOf row) 0 = told (st.rs.set k { r with passed := 3, kids := r.kids ++ [st.rs.length] } ++ [newRc x s num], some st.rs.length) (0 + 1 + 1) := by
    unfold innerM
    rw [o.at_]
    dsimp only
    rw [h1, at_told, i2]
    simp only [Bool.not_false, if_true]
    rw [h2, at_told, if_pos hl]
  rw [h3]
  unfold told rowInner
  dsimp only
  have hlen : (st.rs.set k { r with passed := 3, kids := r.kids ++ [st.rs.length] } ++ [newRc x s num]).length = st.rs.length + 1 := by
    rw [List.length_append, List.length_set]
    rfl
  have : st.rs.length ≤ (st.rs.set k { r with passed := 3, kids := r.kids ++ [st.rs.length] } ++ [newRc x s num]).length ∧ okIn (st.rs.set k { r with passed := 3, kids := r.kids ++ [st.rs.length] } ++ [newRc x s num]).length (some st.rs.length) = true := by
    rw [hlen]
    exact ⟨by omega, decide_eq_true (by omega)⟩
  rw [if_pos this]
  refine end_ok hr.fin ?_
  unfold finRow
  dsimp only
  have g : (st.rs.set k { r with passed := 3, kids := r.kids ++ [st.rs.length] } ++ [newRc x s num])[st.rs.length]? = some (newRc x s num) := by
    rw [List.getElem?_append_right (by rw [List.length_set]; exact Nat.le_refl _), List.length_set, Nat.sub_self]
    rfl
  rw [g]
  dsimp only
  have kd : (newRc x s num).kind = s := rfl
  rw [kd]
  cases hm : inV (.str s) (MARKER.map V.str) with
  | true => rfl
  | false =>
    simp only [Bool.not_false, if_true]
    have : (st.opened.take D).length < 50000 := by
      rw [List.length_take]
      omega
    rw [if_pos this]
    rfl
end Prs
set_option Elab.async false
set_option linter.all false
set_option maxRecDepth 100000
set_option maxHeartbeats 4000000
namespace Prs
open PySem PySem.Spec PyProof.Rows L2 Evl
/-! ### trees of drafts -/
/-- a stand's name, its row's number, those of its moves -/
abbrev Pl := Str × Int × List Int
/-- the drafts from a on up to e are a stand (true), stands beside one another (false), with all in them -/
inductive BK (rs : List Rc) : Bool → Nat → List Nat → Nat → Nat → List PyData → List Pl → Prop
  | stand {N a e : Nat} {r : Rc} {ds : List PyData} {pls : List Pl} : rs[a]? = some r → BK rs false N r.kids (a + 1) e ds pls → r.kids.length < 40000 → BK rs true (N + 1) [a] a e [.tuple [.str r.name, .str r.kind, .tuple ds, r.into, r.out, .tuple r.moves]] ((r.name, r.num, r.nums) :: pls)
  | nil {N a : Nat} : BK rs false N [] a a [] []
  | snoc {N a b e : Nat} {ms : List Nat} {ds : List PyData} {d : PyData} {pls pl : List Pl} : BK rs false N ms a b ds pls → BK rs true N [b] b e [d] pl → BK rs false N (ms ++ [b]) a e (ds ++ [d]) (pls ++ pl)
theorem BK.le {rs : List Rc} {b : Bool} {N a e : Nat} {ms : List Nat} {ds : List PyData} {pls : List Pl} (h : BK rs b N ms a e ds pls) : a ≤ e ∧ (b = true → a < e) := by
  induction h with
  | stand _ _ _ ih => exact ⟨by have := ih.1; omega, fun _ => by have := ih.1; omega⟩
  | nil => exact ⟨Nat.le_refl _, fun z => nomatch z⟩
  | snoc _ _ i1 i2 => exact ⟨Nat.le_trans i1.1 i2.1, fun z => nomatch z⟩
theorem BK.agree {rs rs' : List Rc} {b : Bool} {N a e : Nat} {ms : List Nat} {ds : List PyData} {pls : List Pl} (h : BK rs b N ms a e ds pls) : (∀ i, a ≤ i → i < e → rs'[i]? = rs[i]?) → BK rs' b N ms a e ds pls := by
  induction h with
  | stand hr hk hl ih =>
    intro ag
    have := hk.le.1
    exact .stand (by rw [ag _ (Nat.le_refl _) (by omega)]; exact hr) (ih fun i h1 h2 => ag i (by omega) h2) hl
  | nil => exact fun _ => .nil
  | snoc h1 h2 i1 i2 =>
    intro ag
    have l1 := h1.le.1
    have l2 := h2.le.1
    exact .snoc (i1 fun i p q => ag i p (by omega)) (i2 fun i p q => ag i (by omega) q)
theorem finAll_snoc {f : Nat → Option PyData} {b : Nat} {d : PyData} (hb : f b = some d) : ∀ {ms : List Nat} {ds : List PyData}, finAll f ms = some ds → finAll f (ms ++ [b]) = some (ds ++ [d])
  | [], ds, h => by
    unfold finAll at h
    cases h
    show finAll f [b] = some [d]
    unfold finAll
    rw [hb]
    rfl
  | m :: ms, ds, h => by
    unfold finAll at h
    cases e : f m with
    | none =>
      rw [e] at h
      cases h
    | some x =>
      rw [e] at h
      dsimp only at h
      cases e2 : finAll f ms with
      | none =>
        rw [e2] at h
        cases h
      | some xs =>
        rw [e2] at h
        cases h
        have := finAll_snoc hb e2
        show finAll f (m :: (ms ++ [b])) = _
        unfold finAll
        rw [e]
        dsimp only
        rw [this]
        rfl
theorem BK.fin {rs : List Rc} {b : Bool} {N a e : Nat} {ms : List Nat} {ds : List PyData} {pls : List Pl} (h : BK rs b N ms a e ds pls) : finAll (finM N rs) ms = some ds := by
  induction h with
  | @stand N a e r ds pls hr hk hl ih =>
    have : finM (N + 1) rs a = some (.tuple [.str r.name, .str r.kind, .tuple ds, r.into, r.out, .tuple r.moves]) := by
      unfold finM
      rw [hr]
      dsimp only
      rw [if_pos hl, ih]
    unfold finAll
    rw [this]
    rfl
  | nil => rfl
  | @snoc N a b e ms ds d pls pl h1 h2 i1 i2 =>
    have : finM N rs b = some d := by
      unfold finAll at i2
      cases q : finM N rs b with
      | none =>
        rw [q] at i2
        cases i2
      | some x =>
        rw [q] at i2
        have z : some [x] = some [d] := i2
        cases z
        rfl
    exact finAll_snoc this i1
theorem BK.one {rs : List Rc} {N a e : Nat} {d : PyData} {pls : List Pl} (h : BK rs true N [a] a e [d] pls) : finM N rs a = some d := by
  have i2 := h.fin
  unfold finAll at i2
  cases q : finM N rs a with
  | none =>
    rw [q] at i2
    cases i2
  | some x =>
    rw [q] at i2
    have z : some [x] = some [d] := i2
    cases z
    rfl
/-! ### the rows of stands -/
inductive PropRow (k0 : Nat) (w : Str) (D : Nat) : PyData → List RS → Prop
  | no : PropRow k0 w D (.tuple []) []
  | yes {num : Int} {ds : List PyData} {t : List Tok} : ds.length ≤ 40000 → LW (DeW k0) ds t → PropRow k0 w D (.tuple ds) [(num, D, kw w :: t)]
inductive MvRows (k0 D : Nat) : List PyData → List Int → List RS → Prop
  | nil : MvRows k0 D [] [] []
  | snoc {num : Int} {ds : List PyData} {nums : List Int} {d : PyData} {rows : List RS} {t : List Tok} : MvRows k0 D ds nums rows → MvW k0 d t → MvRows k0 D (ds ++ [d]) (nums ++ [num]) (rows ++ [(num, D, kw "go" :: t)])
abbrev isFull (s : Str) : Prop := inV (.str s) (FULL.map V.str) = true
abbrev isMark (s : Str) : Prop := inV (.str s) (MARKER.map V.str) = true
/-- the rows of a stand (true), of stands beside one another (false), at depth D -/
inductive SKW (k0 : Nat) : Bool → Nat → Nat → List PyData → List Pl → List RS → Prop
  | stand {N D : Nat} {x s : Str} {num : Int} {into out : PyData} {moves kids : List PyData} {nums : List Int} {ri ro rm rk : List RS} {pls : List Pl} : s ∈ SORTSs → (kids ≠ [] → isFull s) → (isMark s → ri ++ (ro ++ (rm ++ rk)) = []) →
      PropRow k0 "into" (D + 1) into ri → PropRow k0 "out" (D + 1) out ro → MvRows k0 (D + 1) moves nums rm → SKW k0 false N (D + 1) kids pls rk → kids.length ≤ 30000 → moves.length ≤ 30000 → D ≤ 1000 →
      SKW k0 true (N + 1) D [.tuple [.str x, .str s, .tuple kids, into, out, .tuple moves]] ((x, num, nums) :: pls) ((num, D, [kw s, nm x]) :: (ri ++ (ro ++ (rm ++ rk))))
  | nil {N D : Nat} : SKW k0 false N D [] [] []
  | snoc {N D : Nat} {ds : List PyData} {d : PyData} {pls pl : List Pl} {rows r : List RS} : SKW k0 false N D ds pls rows → SKW k0 true N D [d] pl r → SKW k0 false N D (ds ++ [d]) (pls ++ pl) (rows ++ r)
theorem MvRows.lens {k0 D : Nat} {ds : List PyData} {nums : List Int} {rows : List RS} (h : MvRows k0 D ds nums rows) : nums.length = ds.length := by
  induction h with
  | nil => rfl
  | snoc _ _ ih => rw [List.length_append, List.length_append, ih]; rfl
theorem MvRows.none {k0 D : Nat} {ds : List PyData} {nums : List Int} (h : MvRows k0 D ds nums []) : ds = [] ∧ nums = [] := by
  generalize e : ([] : List RS) = rows at h
  cases h with
  | nil => exact ⟨rfl, rfl⟩
  | snoc _ _ =>
    rename_i rows' t _ _
    have := congrArg List.length e
    rw [List.length_append] at this
    simp at this
theorem SKW.none {k0 N D : Nat} {ds : List PyData} {pls : List Pl} (h : SKW k0 false N D ds pls []) : ds = [] ∧ pls = [] := by
  generalize e : ([] : List RS) = rows at h
  cases h with
  | nil => exact ⟨rfl, rfl⟩
  | snoc _ h2 =>
    have := (List.append_eq_nil_iff.mp e.symm).2
    subst this
    cases h2
theorem PropRow.none {k0 D : Nat} {w : Str} {d : PyData} (h : PropRow k0 w D d []) : d = .tuple [] := by
  cases h
  rfl
structure KRes (b : Bool) (N : Nat) (st : Sh) (D k : Nat) (r : Rc) (ds : List PyData) (pls : List Pl) (st' : Sh) : Prop where
  root : st'.root = st.root
  facts : st'.facts = st.facts
  haps : st'.haps = st.haps
  op : st'.opened.take D = st.opened.take D
  len : D ≤ st'.opened.length
  grow : st.rs.length ≤ st'.rs.length
  same : ∀ i, i < st.rs.length → i ≠ k → st'.rs[i]? = st.rs[i]?
  tree : ∃ ms p, st'.rs[k]? = some { r with passed := p, kids := r.kids ++ ms } ∧ BK st'.rs b N ms st.rs.length st'.rs.length ds pls
/-- a stand's state while its own rows are read -/
def inSt (st : Sh) (D k : Nat) (r1 r' : Rc) : Sh := { st with opened := st.opened.take D ++ [st.rs.length], rs := st.rs.set k r1 ++ [r'] }
theorem inSt_rs {st : Sh} {D k : Nat} {r1 r' : Rc} : (inSt st D k r1 r').rs.length = st.rs.length + 1 := by
  show (st.rs.set k r1 ++ [r']).length = _
  rw [List.length_append, List.length_set]
  rfl
theorem inSt_at {st : Sh} {D k : Nat} {r1 r' : Rc} : (inSt st D k r1 r').rs[st.rs.length]? = some r' := by
  show (st.rs.set k r1 ++ [r'])[st.rs.length]? = _
  rw [List.getElem?_append_right (by rw [List.length_set]; exact Nat.le_refl _), List.length_set, Nat.sub_self]
  rfl
theorem inSt_lt {st : Sh} {D k : Nat} {r1 r' : Rc} {i : Nat} (h : i < st.rs.length) : (inSt st D k r1 r').rs[i]? = (st.rs.set k r1)[i]? := by
  show (st.rs.set k r1 ++ [r'])[i]? = _
  rw [List.getElem?_append_left (by rw [List.length_set]; exact h)]
structure Pre (st : Sh) (D : Nat) : Prop where
  root : st.root ≠ none
  len : D ≤ st.opened.length
theorem Op.pre {st : Sh} {D k : Nat} {r : Rc} (o : Op st D k r) : Pre st D := ⟨o.root, o.len⟩
theorem inSt_op {st : Sh} {D k : Nat} {r1 r' : Rc} (o : Pre st D) : Op (inSt st D k r1 r') (D + 1) st.rs.length r' := by
  have hl : (st.opened.take D ++ [st.rs.length]).length = D + 1 := by
    rw [List.length_append, List.length_take]
    have := o.len
    show min D _ + 1 = _
    omega
  refine ⟨o.root, by omega, ?_, ?_, inSt_at⟩
  · show D + 1 ≤ (st.opened.take D ++ [st.rs.length]).length
    omega
  · show ((st.opened.take D ++ [st.rs.length]).take (D + 1)).getLast? = _
    rw [List.take_of_length_le (by omega), List.getLast?_append]
    rfl
theorem inSt_set {st : Sh} {D k : Nat} {r1 r' r2 : Rc} (o : Pre st D) : { inSt st D k r1 r' with opened := (inSt st D k r1 r').opened.take (D + 1), rs := (inSt st D k r1 r').rs.set st.rs.length r2 } = inSt st D k r1 r2 := by
  have hl : (st.opened.take D ++ [st.rs.length]).length = D + 1 := by
    rw [List.length_append, List.length_take]
    have := o.len
    show min D _ + 1 = _
    omega
  have e : (st.rs.set k r1 ++ [r']).set st.rs.length r2 = st.rs.set k r1 ++ [r2] := by
    have : st.rs.length = (st.rs.set k r1).length := by rw [List.length_set]
    conv => lhs; arg 2; rw [this]
    rw [List.set_append_right _ _ (Nat.le_refl _), Nat.sub_self]
    rfl
  unfold inSt
  dsimp only
  rw [List.take_of_length_le (by omega), e]
end Prs
set_option Elab.async false
set_option linter.all false
set_option maxRecDepth 100000
set_option maxHeartbeats 4000000
namespace Prs
open PySem PySem.Spec PyProof.Rows L2 Evl
theorem take_inSt {st : Sh} {D k : Nat} {r1 r' : Rc} {st' : Sh} (o : Pre st D) (h : st'.opened.take (D + 1) = (inSt st D k r1 r').opened.take (D + 1)) (hl : D + 1 ≤ st'.opened.length) : st'.opened.take D = st.opened.take D := by
  have h1 := congrArg (List.take D) h
  rw [List.take_take, Nat.min_eq_left (by omega), List.take_take, Nat.min_eq_left (by omega)] at h1
  rw [h1]
  show (st.opened.take D ++ [st.rs.length]).take D = _
  have : (st.opened.take D).length = D := by
    rw [List.length_take]
    have := o.len
    omega
  rw [List.take_append_of_le_length (by omega), List.take_take, Nat.min_self]
/-- the moves of a stand -/
theorem run_moves {n k0 : Nat} (hn : k0 ≤ n) {D : Nat} {ds : List PyData} {nums : List Int} {rows : List RS} (h : MvRows k0 (D + 1) ds nums rows) : ds.length ≤ 30000 → ∀ (st : Sh) (k : Nat) (r1 r' : Rc), Pre st D → r'.passed ≤ 2 → r'.moves = [] → r'.nums = [] →
    Runs n rows (inSt st D k r1 r') fun s => ∃ p, p ≤ 2 ∧ s = inSt st D k r1 { r' with passed := p, moves := ds, nums := nums } := by
  induction h with
  | nil =>
    intro _ st k r1 r' o hp hm hnu
    refine Runs.nil ⟨r'.passed, hp, ?_⟩
    obtain ⟨a, b, c, d, e, f, g, h, i⟩ := r'
    dsimp only at hm hnu
    subst hm hnu
    rfl
  | @snoc num ds nums d rows t hs hw ih =>
    intro hl st k r1 r' o hp hm hnu
    rw [List.length_append] at hl
    refine Runs.app (ih (by omega) st k r1 r' o hp hm hnu) fun st' q => ?_
    obtain ⟨p, hp2, rfl⟩ := q
    have e := hs.lens
    refine (run_move hn (inSt_op o) (r := { r' with passed := p, moves := ds, nums := nums }) hp2 (by show ds.length < 50000; omega) (by show nums.length < 50000; omega) hw).mono fun s hs => ?_
    subst hs
    exact ⟨2, Nat.le_refl _, inSt_set o⟩
theorem fin_len {f : Nat → Option PyData} : ∀ {ms : List Nat} {ds : List PyData}, finAll f ms = some ds → ms.length = ds.length := by
  intro ms
  induction ms with
  | nil =>
    intro ds h
    cases h
    rfl
  | cons m ms ih =>
    intro ds h
    unfold finAll at h
    split at h
    · cases h
    · split at h
      · cases h
      · rename_i q
        cases h
        rw [List.length_cons, List.length_cons, ih q]
/-- the rows within a stand that is no marker -/
structure BRes (N : Nat) (st : Sh) (D k : Nat) (r1 r' : Rc) (d : PyData) (pls : List Pl) (t : Sh) : Prop where
  root : t.root = st.root
  facts : t.facts = st.facts
  haps : t.haps = st.haps
  op : t.opened.take (D + 1) = (inSt st D k r1 r').opened.take (D + 1)
  len : D + 1 ≤ t.opened.length
  grow : st.rs.length + 1 ≤ t.rs.length
  same : ∀ i, i < st.rs.length → t.rs[i]? = (st.rs.set k r1)[i]?
  tree : BK t.rs true N [st.rs.length] st.rs.length t.rs.length [d] pls
theorem body_run {n k0 : Nat} (hn : k0 ≤ n) {N D : Nat} {x s : Str} {num : Int} {into out : PyData} {moves kids : List PyData} {nums : List Int} {ri ro rm rk : List RS} {pls : List Pl} (hfull : kids ≠ [] → isFull s) (hi : PropRow k0 "into" (D + 1) into ri) (ho : PropRow k0 "out" (D + 1) out ro) (hm : MvRows k0 (D + 1) moves nums rm) (hkl : kids.length ≤ 30000) (hml : moves.length ≤ 30000)
    (ih : ∀ (st : Sh) (k : Nat) (r : Rc), Op st (D + 1) k r → (kids ≠ [] → isFull r.kind) → r.kids.length + kids.length ≤ 35000 → Runs n rk st (KRes false N st (D + 1) k r kids pls)) (st : Sh) (k : Nat) (r1 : Rc) (o : Pre st D) :
    Runs n (ri ++ (ro ++ (rm ++ rk))) (inSt st D k r1 (newRc x s num)) (BRes (N + 1) st D k r1 (newRc x s num) (.tuple [.str x, .str s, .tuple kids, into, out, .tuple moves]) ((x, num, nums) :: pls)) := by
  have s1 : Runs n ri (inSt st D k r1 (newRc x s num)) fun t => ∃ p, p ≤ 1 ∧ t = inSt st D k r1 { newRc x s num with passed := p, into := into } := by
    cases hi with
    | no => exact Runs.nil ⟨0, by omega, rfl⟩
    | yes h1 h2 => exact (run_into hn (inSt_op o) rfl h1 h2).mono fun t ht => ⟨1, Nat.le_refl _, by rw [ht]; exact inSt_set o⟩
  refine Runs.app s1 fun st2 q2 => ?_
  obtain ⟨p2, hp2, rfl⟩ := q2
  have s2 : Runs n ro (inSt st D k r1 { newRc x s num with passed := p2, into := into }) fun t => ∃ p, p ≤ 2 ∧ t = inSt st D k r1 { newRc x s num with passed := p, into := into, out := out } := by
    cases ho with
    | no => exact Runs.nil ⟨p2, by omega, rfl⟩
    | yes h1 h2 => exact (run_out hn (inSt_op o) (r := { newRc x s num with passed := p2, into := into }) hp2 h1 h2).mono fun t ht => ⟨2, Nat.le_refl _, by rw [ht]; exact inSt_set o⟩
  refine Runs.app s2 fun st3 q3 => ?_
  obtain ⟨p3, hp3, rfl⟩ := q3
  refine Runs.app (run_moves hn hm hml st k r1 _ o hp3 rfl rfl) fun st4 q4 => ?_
  obtain ⟨p4, hp4, rfl⟩ := q4
  generalize hrf : ({ newRc x s num with passed := p4, into := into, out := out, moves := moves, nums := nums } : Rc) = rf
  have kf : rf.kids = [] := by rw [← hrf]; rfl
  refine (ih (inSt st D k r1 rf) st.rs.length rf (inSt_op o) (fun h => by rw [← hrf]; exact hfull h) (by rw [kf]; show 0 + kids.length ≤ 35000; omega)).mono fun st5 q5 => ?_
  obtain ⟨ms, p5, e5, b5⟩ := q5.tree
  have hil := inSt_rs (st := st) (D := D) (k := k) (r1 := r1) (r' := rf)
  have g5 := q5.grow
  rw [hil] at g5 b5
  refine ⟨q5.root, q5.facts, q5.haps, q5.op, q5.len, g5, fun i hi => ?_, ?_⟩
  · rw [q5.same i (by rw [hil]; omega) (by omega), inSt_lt hi]
  · rw [kf, List.nil_append] at e5
    have hms := fin_len b5.fin
    have := BK.stand (N := N) (pls := pls) (ds := kids) e5 b5 (by show ms.length < 40000; omega)
    rw [← hrf] at this
    exact this
theorem skw_run {n k0 : Nat} (hn : k0 ≤ n) {b : Bool} {N D : Nat} {ds : List PyData} {pls : List Pl} {rows : List RS} (h : SKW k0 b N D ds pls rows) : ∀ (st : Sh) (k : Nat) (r : Rc), Op st D k r → (ds ≠ [] → isFull r.kind) → r.kids.length + ds.length ≤ 35000 → Runs n rows st (KRes b N st D k r ds pls) := by
  induction h with
  | @nil N D =>
    intro st k r o _ _
    refine Runs.nil ⟨rfl, rfl, rfl, rfl, o.len, Nat.le_refl _, fun _ _ _ => rfl, [], r.passed, ?_, .nil⟩
    rw [List.append_nil]
    exact o.at_
  | @snoc N D ds d pls pl rows r' h1 h2 i1 i2 =>
    intro st k r o hf hl
    rw [List.length_append, List.length_singleton] at hl
    have hf' := hf (by simp)
    refine Runs.app (i1 st k r o (fun _ => hf') (by omega)) fun st1 q1 => ?_
    obtain ⟨ms, p, e1, b1⟩ := q1.tree
    have hlen : ms.length = ds.length := fin_len b1.fin
    have o1 : Op st1 D k { r with passed := p, kids := r.kids ++ ms } := ⟨by rw [q1.root]; exact o.root, o.dep, q1.len, by rw [q1.op]; exact o.last, e1⟩
    refine (i2 st1 k _ o1 (fun _ => hf') (by show (r.kids ++ ms).length + [d].length ≤ 35000; rw [List.length_append, List.length_singleton]; omega)).mono fun st2 q2 => ?_
    obtain ⟨ms2, p2, e2, b2⟩ := q2.tree
    have lt := o.lt
    have g1 := q1.grow
    have g2 := q2.grow
    have hb : ms2 = [st1.rs.length] := by
      cases b2
      rfl
    subst hb
    refine ⟨q2.root.trans q1.root, q2.facts.trans q1.facts, q2.haps.trans q1.haps, q2.op.trans q1.op, q2.len, by omega, fun i hi hk => ?_, ms ++ [st1.rs.length], p2, ?_, ?_⟩
    · rw [q2.same i (by omega) hk, q1.same i hi hk]
    · rw [e2]
      show some { r with passed := p2, kids := (r.kids ++ ms) ++ [st1.rs.length] } = _
      rw [List.append_assoc]
    · exact .snoc (b1.agree fun i h1 h2 => q2.same i h2 (by omega)) b2
  | @stand N D x s num into out moves kids nums ri ro rm rk pls hs hfull hmark hi ho hm hk hkl hml hD ih =>
    intro st k r o hf hl
    have hf' := hf (by simp)
    rw [List.length_singleton] at hl
    have lt := o.lt
    show Runs n ([(num, D, [kw s, nm x])] ++ (ri ++ (ro ++ (rm ++ rk)))) st _
    refine Runs.app (run_stand o hf' hs (by omega) (by omega)) fun st1 q1 => ?_
    by_cases hmk : isMark s
    · -- a marker
      have hz := hmark hmk
      obtain ⟨z1, hz2⟩ := List.append_eq_nil_iff.mp hz
      obtain ⟨z2, hz3⟩ := List.append_eq_nil_iff.mp hz2
      obtain ⟨z3, z4⟩ := List.append_eq_nil_iff.mp hz3
      subst z1 z2 z3 z4
      obtain ⟨rfl, rfl⟩ := hm.none
      obtain ⟨rfl, rfl⟩ := hk.none
      obtain rfl := hi.none
      obtain rfl := ho.none
      refine Runs.nil ?_
      subst q1
      have hmk' : inV (.str s) (MARKER.map V.str) = true := hmk
      have hrl : (st.rs.set k { r with passed := 3, kids := r.kids ++ [st.rs.length] } ++ [newRc x s num]).length = st.rs.length + 1 := by
        rw [List.length_append, List.length_set]
        rfl
      refine ⟨rfl, rfl, rfl, ?_, ?_, ?_, fun i hi hk => ?_, [st.rs.length], 3, ?_, ?_⟩
      · dsimp only
        rw [hmk']
        simp only [if_true]
        rw [List.take_take, Nat.min_self]
      · dsimp only
        rw [hmk']
        simp only [if_true]
        rw [List.length_take]
        have := o.len
        omega
      · dsimp only
        omega
      · dsimp only
        rw [List.getElem?_append_left (by rw [List.length_set]; exact hi), List.getElem?_set_ne (Ne.symm hk)]
      · dsimp only
        rw [List.getElem?_append_left (by rw [List.length_set]; exact lt), List.getElem?_set_self lt]
      · dsimp only
        rw [hrl]
        have g : (st.rs.set k { r with passed := 3, kids := r.kids ++ [st.rs.length] } ++ [newRc x s num])[st.rs.length]? = some (newRc x s num) := by
          rw [List.getElem?_append_right (by rw [List.length_set]; exact Nat.le_refl _), List.length_set, Nat.sub_self]
          rfl
        exact BK.stand g .nil (by show ([] : List Nat).length < 40000; decide)
    · have hmk' : inV (.str s) (MARKER.map V.str) = false := by
        cases e : inV (.str s) (MARKER.map V.str) with
        | true => exact absurd e hmk
        | false => rfl
      have q1' : st1 = inSt st D k { r with passed := 3, kids := r.kids ++ [st.rs.length] } (newRc x s num) := by
        rw [q1]
        unfold inSt
        rw [hmk']
        rfl
      clear q1
      subst q1'
      refine (body_run hn hfull hi ho hm hkl hml ih st k { r with passed := 3, kids := r.kids ++ [st.rs.length] } o.pre).mono fun t q => ?_
      have l5 := q.len
      have g5 := q.grow
      refine ⟨q.root, q.facts, q.haps, take_inSt o.pre q.op l5, by omega, by omega, fun i hi hk => ?_, [st.rs.length], 3, ?_, q.tree⟩
      · rw [q.same i hi, List.getElem?_set_ne (Ne.symm hk)]
      · rw [q.same k lt, List.getElem?_set_self lt]
/-! ### a whole chart -/
inductive HeadW : List PyData → List PyData → List RS → Prop
  | nil : HeadW [] [] []
  | fact {num : Int} {fs : List PyData} {rows : List RS} {d : PyData} {t : List Tok} : HeadW fs [] rows → FaW d t → HeadW (fs ++ [d]) [] (rows ++ [(num, 0, kw "fact" :: t)])
  | on {num : Int} {fs hs : List PyData} {rows : List RS} {x : Str} : HeadW fs hs rows → HeadW fs (hs ++ [.str x]) (rows ++ [(num, 0, [kw "on", nm x])])
theorem head_run {n : Nat} {fs hs : List PyData} {rows : List RS} (h : HeadW fs hs rows) : fs.length ≤ 30000 → hs.length ≤ 30000 → Runs n rows emptySh fun s => s = { emptySh with facts := fs, haps := hs } := by
  induction h with
  | nil => exact fun _ _ => Runs.nil rfl
  | @fact num fs rows d t _ hw ih =>
    intro h1 h2
    rw [List.length_append, List.length_singleton] at h1
    refine Runs.app (ih (by omega) h2) fun st q => ?_
    subst q
    exact (run_fact rfl rfl (show fs.length < 50000 by omega) hw).mono fun s hs => hs
  | @on num fs hs rows x _ ih =>
    intro h1 h2
    rw [List.length_append, List.length_singleton] at h2
    refine Runs.app (ih h1 (by omega)) fun st q => ?_
    subst q
    exact (run_on rfl (show hs.length < 50000 by omega)).mono fun s hs => hs
/-- the rows of a chart: its root is no marker -/
inductive ChW (k0 N : Nat) : PyData → List Pl → List RS → Prop
  | mk {fs hs : List PyData} {h rest : List RS} {d : PyData} {pls : List Pl} {num : Int} {x s : Str} : HeadW fs hs h → fs.length ≤ 30000 → hs.length ≤ 30000 → SKW k0 true N 0 [d] pls ((num, 0, [kw s, nm x]) :: rest) → ¬ isMark s → ChW k0 N (.tuple [.tuple fs, .tuple hs, d]) pls (h ++ ((num, 0, [kw s, nm x]) :: rest))
theorem chw_run {n k0 N : Nat} (hn : k0 ≤ n) {c : PyData} {pls : List Pl} {rows : List RS} (h : ChW k0 N c pls rows) : Runs n rows emptySh fun t => ∃ d, c = .tuple [.tuple t.facts, .tuple t.haps, d] ∧ t.root = some 0 ∧ BK t.rs true N [0] 0 t.rs.length [d] pls := by
  cases h with
  | @mk fs hs h rest d pls num x s hh hf hhs hk hm =>
    refine Runs.app (head_run hh hf hhs) fun st q => ?_
    subst q
    cases hk with
    | @stand N _ _ _ _ into out moves kids nums ri ro rm rk pls hs' hfull hmark hi ho hmv hkids hkl hml hD =>
      have hmk' : inV (.str s) (MARKER.map V.str) = false := by
        cases e : inV (.str s) (MARKER.map V.str) with
        | true => exact absurd e hm
        | false => rfl
      show Runs n ([(num, 0, [kw s, nm x])] ++ (ri ++ (ro ++ (rm ++ rk)))) _ _
      refine Runs.app (run_root rfl rfl rfl hs' hmk') fun st1 q1 => ?_
      have q2 : st1 = inSt ({ emptySh with facts := fs, haps := hs, root := some 0 } : Sh) 0 0 (newRc x s num) (newRc x s num) := q1
      subst q2
      refine (body_run hn hfull hi ho hmv hkl hml (fun st k r o h1 h2 => skw_run hn hkids st k r o h1 h2) _ 0 (newRc x s num) ⟨by simp, Nat.zero_le _⟩).mono fun t q => ?_
      refine ⟨_, ?_, q.root, q.tree⟩
      rw [q.facts, q.haps]
/-- a text of these rows is read to the chart -/
theorem read_ok {n k0 N : Nat} (hn : k0 ≤ n) {c : PyData} {pls : List Pl} {sp : List RS} (h : ChW k0 N c pls sp) {rows : List Str} (ht : TextOf 0 rows sp) : readM n N rows = some (.inr c) := by
  obtain ⟨st, ⟨d, hc, hr, hb⟩, e⟩ := chw_run hn h rows 0 ht
  have e1 := e []
  rw [List.append_nil] at e1
  have e2 : sheetGo n rows 0 emptySh = some (.inr st) := by
    rw [e1]
    rfl
  unfold readM sheetM
  rw [e2]
  unfold endSheet
  dsimp only
  rw [hr]
  unfold toldT
  dsimp only
  unfold chartM
  rw [hr]
  dsimp only
  rw [hb.one]
  rw [hc]
end Prs
set_option Elab.async false
set_option linter.all false
set_option maxRecDepth 100000
set_option maxHeartbeats 4000000
namespace Prs
open PySem PySem.Spec PyProof.Rows L2 Evl
/-! ### the signs of a row -/
abbrev L (s : Str) : List Nat := s.cps.toList
theorem L_app (a b : Str) : L (a ++ b) = L a ++ L b := by
  show (a ++ b).cps.toList = _
  rw [PySem.Str.cps_append, Array.toList_append]
theorem L_inj {a b : Str} (h : L a = L b) : a = b := by
  obtain ⟨⟨a⟩⟩ := a
  obtain ⟨⟨b⟩⟩ := b
  have : a = b := h
  rw [this]
theorem L_len (a : Str) : (L a).length = a.length := rfl
theorem strip_list (r : Str) : L (Txt.lstripChars r " ") = (L r).drop ((L r).takeWhile fun c => (" " : Str).cps.contains c).length := by
  unfold Txt.lstripChars
  rw [stripBy_eq]
  show (r.cps.extract _ _).toList = _
  rw [Array.toList_extract]
  have h1 : PySem.stripLo ((" " : Str).cps.contains) true r = ((L r).takeWhile fun c => (" " : Str).cps.contains c).length := rfl
  have h2 : PySem.stripHi ((" " : Str).cps.contains) false r (PySem.stripLo ((" " : Str).cps.contains) true r) = r.length := rfl
  rw [h2, h1]
  have h3 := PyProof.Rows.takeWhile_len_le ((" " : Str).cps.contains) (L r)
  rw [List.extract_eq_drop_take]
  exact List.take_of_length_le (by rw [List.length_drop]; exact Nat.le_of_eq rfl)
theorem blank_iff (c : Nat) : (" " : Str).cps.contains c = decide (c = 32) := by
  show (#[32] : Array Nat).contains c = _
  simp [Array.contains, BEq.comm]
  by_cases h : c = 32
  · subst h
    rfl
  · simp [h]
theorem take_blanks (g : Nat) (t : List Nat) (h : t = [] ∨ ∃ c u, t = c :: u ∧ c ≠ 32) : ((List.replicate g 32 ++ t).takeWhile fun c => (" " : Str).cps.contains c).length = g := by
  induction g with
  | zero =>
    rw [List.replicate_zero, List.nil_append]
    rcases h with rfl | ⟨c, u, rfl, hc⟩
    · rfl
    · rw [List.takeWhile_cons, blank_iff, decide_eq_false hc]
      rfl
  | succ g ih =>
    rw [List.replicate_succ, List.cons_append, List.takeWhile_cons, blank_iff, decide_eq_true rfl]
    simp only [if_true, List.length_cons]
    rw [ih]
theorem strip_of {s : Str} {g : Nat} {t : List Nat} (hs : L s = List.replicate g 32 ++ t) (h : t = [] ∨ ∃ c u, t = c :: u ∧ c ≠ 32) : L (Txt.lstripChars s " ") = t ∧ blanksOf s = (g : Int) := by
  have e : L (Txt.lstripChars s " ") = t := by
    rw [strip_list, hs, take_blanks g t h, List.drop_append_of_le_length (by simp), List.drop_of_length_le (by simp)]
    rfl
  refine ⟨e, ?_⟩
  unfold blanksOf
  have h1 : (Txt.lstripChars s " ").length = t.length := by rw [← L_len, e]
  have h2 : s.length = g + t.length := by rw [← L_len, hs, List.length_append, List.length_replicate]
  rw [h1, h2]
  omega
theorem sign_at {r : Str} {pre l : List Nat} (h : L r = pre ++ l) (i : Nat) : signAt r (pre.length + i) = l.getD i 0 := by
  show (L r).getD (pre.length + i) 0 = _
  rw [h, List.getD_eq_getElem?_getD, List.getD_eq_getElem?_getD, List.getElem?_append_right (Nat.le_add_right _ _), Nat.add_sub_cancel_left]
theorem cut_list {r : Str} {a e : Nat} (h1 : a ≤ e) (h2 : e ≤ r.length) : L (cut r a e) = ((L r).drop a).take (e - a) := by
  show (((r.cps.toList.drop (HT.sIx r.length 0 (some (a : Int)))).take (HT.sIx r.length r.length (some (e : Int)) - HT.sIx r.length 0 (some (a : Int)))).toArray).toList = _
  have e1 : HT.sIx r.length 0 (some (a : Int)) = a := by
    rw [HT.sIx_nat]
    exact Nat.min_eq_left (by omega)
  have e2 : HT.sIx r.length r.length (some (e : Int)) = e := by
    rw [HT.sIx_nat]
    exact Nat.min_eq_left h2
  rw [e1, e2]
theorem cutfrom_list {r : Str} {e : Nat} (h : e ≤ r.length) : L (cutS r (some (e : Int)) none) = (L r).drop e := by
  show (((r.cps.toList.drop (HT.sIx r.length 0 (some (e : Int)))).take (HT.sIx r.length r.length none - HT.sIx r.length 0 (some (e : Int)))).toArray).toList = _
  have h1 : HT.sIx r.length 0 (some (e : Int)) = e := by
    rw [HT.sIx_nat]
    exact Nat.min_eq_left h
  have h2 : HT.sIx r.length r.length none = r.length := rfl
  rw [h1, h2]
  exact List.take_of_length_le (by rw [List.length_drop]; exact Nat.le_of_eq rfl)
theorem run_to {r s : Str} {lim : Nat} : ∀ (m n e : Nat), (∀ i, i < m → e + i < r.length ∧ has s (signAt r (e + i)) = true) → e + m ≤ lim → (e + m = r.length ∨ has s (signAt r (e + m)) = false ∨ e + m = lim) → m ≤ n → runGo r s lim n e = e + m
  | 0, 0, e, _, _, _, _ => rfl
  | 0, n + 1, e, _, h2, h3, _ => by
    unfold runGo
    have : ¬ (e < r.length ∧ e < lim ∧ has s (signAt r e) = true) := by
      rintro ⟨a, b, c⟩
      rcases h3 with h | h | h
      · omega
      · rw [Nat.add_zero, c] at h
        cases h
      · omega
    rw [if_neg this]
    rfl
  | m + 1, 0, e, _, _, _, h4 => by omega
  | m + 1, n + 1, e, h1, h2, h3, h4 => by
    unfold runGo
    have h0 := h1 0 (by omega)
    rw [Nat.add_zero] at h0
    rw [if_pos ⟨h0.1, by omega, h0.2⟩]
    have := run_to (r := r) (s := s) (lim := lim) m n (e + 1) (fun i hi => by
      have := h1 (i + 1) (by omega)
      rw [show e + 1 + i = e + (i + 1) by omega]
      exact this) (by omega) (by
      rw [show e + 1 + m = e + (m + 1) by omega]
      exact h3) (by omega)
    rw [this]
    omega
/-! ### words that stand as they should -/
abbrev LF : Str := LET ++ FIG
def isSg (w : Str) : Bool := decide (w.length = 1) && (L w).all fun c => has MRK c
def numLike (w : Str) : Bool := decide (w = "0") || (match L w with
  | [] => false
  | c :: _ => decide (c ≠ 48) && ((L w).all (fun c => has FIG c) && decide (w.length ≤ 9)))
def namLike (w : Str) : Bool := match L w with
  | [] => false
  | c :: _ => has LET c && ((L w).all (fun c => has LF c) && decide (w.length ≤ 8))
def goodW (w : Str) : Bool := isSg w || (numLike w || namLike w)
theorem inS_of_let {c : Nat} (h : has LET c = true) : has LF c = true := by
  unfold has at h ⊢
  have h1 := of_decide_eq_true h
  refine decide_eq_true ?_
  show c ∈ L (LET ++ FIG)
  rw [L_app]
  exact List.mem_append_left _ h1
theorem inS_of_fig {c : Nat} (h : has FIG c = true) : has LF c = true := by
  unfold has at h ⊢
  have h1 := of_decide_eq_true h
  refine decide_eq_true ?_
  show c ∈ L (LET ++ FIG)
  rw [L_app]
  exact List.mem_append_right _ h1
def clsB (s : Str) (f : Nat → Bool) : Bool := (L s).all f
theorem cls_ok {s : Str} {f : Nat → Bool} (h : clsB s f = true) {c : Nat} (hc : has s c = true) : f c = true := List.all_eq_true.mp h c (of_decide_eq_true hc)
theorem lf_not_mark {c : Nat} (h : has LF c = true) : has MRK c = false := by
  have := cls_ok (s := LF) (f := fun c => !has MRK c) (by decide +kernel) h
  simpa using this
theorem let_not_fig {c : Nat} (h : has LET c = true) : has FIG c = false := by
  have := cls_ok (s := LET) (f := fun c => !has FIG c) (by decide +kernel) h
  simpa using this
theorem let_not_0 {c : Nat} (h : has LET c = true) : c ≠ 48 := by
  have := cls_ok (s := LET) (f := fun c => decide (c ≠ 48)) (by decide +kernel) h
  exact of_decide_eq_true this
theorem mark_not_lf {c : Nat} (h : has MRK c = true) : has LF c = false := by
  have := cls_ok (s := MRK) (f := fun c => !has LF c) (by decide +kernel) h
  simpa using this
/-- what stands behind a word so that it ends there -/
def Bd (w : Str) (rest : List Nat) : Prop := isSg w = true ∨ rest = [] ∨ ∃ c t, rest = c :: t ∧ has LF c = false
theorem word_end {r w : Str} {pre rest : List Nat} (h : L r = pre ++ (L w ++ rest)) (hg : goodW w = true) (hp : isSg w = true ∨ pre = [] ∨ ∃ q c, pre = q ++ [c] ∧ has LF c = false) (bd : Bd w rest) : 0 < w.length ∧ endOfWord r pre.length = pre.length + w.length := by
  have hlen : r.length = pre.length + (w.length + rest.length) := by
    rw [← L_len, h, List.length_append, List.length_append]
    rfl
  have hat : ∀ i, i < w.length → signAt r (pre.length + i) = (L w).getD i 0 := fun i hi => by
    rw [sign_at h i, List.getD_eq_getElem?_getD, List.getD_eq_getElem?_getD, List.getElem?_append_left (show i < (L w).length from hi)]
  have hmem : ∀ i, i < w.length → (L w).getD i 0 ∈ L w := fun i hi => by
    have hi' : i < (L w).length := hi
    rw [List.getD_eq_getElem?_getD, List.getElem?_eq_getElem hi']
    exact List.getElem_mem hi'
  have hend : pre.length + w.length = r.length ∨ isSg w = true ∨ has LF (signAt r (pre.length + w.length)) = false := by
    rcases bd with b | b | ⟨c, t, rfl, b⟩
    · exact .inr (.inl b)
    · subst b
      left
      rw [hlen]
      simp
    · right
      right
      have hq : (L w ++ c :: t)[w.length]? = (c :: t)[(L w).length - (L w).length]? := List.getElem?_append_right (Nat.le_of_eq rfl)
      rw [sign_at h w.length, List.getD_eq_getElem?_getD, hq]
      show has LF (((c :: t)[(L w).length - (L w).length]?).getD 0) = false
      rw [Nat.sub_self]
      exact b
  unfold goodW at hg
  cases hs : isSg w with
  | true =>
    unfold isSg at hs
    rw [Bool.and_eq_true] at hs
    have h1 := of_decide_eq_true hs.1
    have h2 := List.all_eq_true.mp hs.2 _ (hmem 0 (by omega))
    have h0 := hat 0 (by omega)
    rw [Nat.add_zero] at h0
    refine ⟨by omega, ?_⟩
    unfold endOfWord
    simp only
    rw [h0, h2]
    simp only [if_true]
    omega
  | false =>
    rw [hs, Bool.false_or, Bool.or_eq_true] at hg
    have hp' : (decide (0 < pre.length) && has LF (signAt r (pre.length - 1))) = false := by
      rcases hp with b | rfl | ⟨q, c, rfl, b⟩
      · rw [hs] at b
        cases b
      · rfl
      · have : signAt r ((q ++ [c]).length - 1) = c := by
          show (L r).getD _ 0 = _
          rw [h, List.length_append, List.length_singleton, Nat.add_sub_cancel, List.getD_eq_getElem?_getD, List.append_assoc, List.getElem?_append_right (Nat.le_refl _), Nat.sub_self]
          rfl
        rw [this, b, Bool.and_false]
    have hend' : ∀ s : Str, (∀ c, has s c = true → has LF c = true) → pre.length + w.length = r.length ∨ has s (signAt r (pre.length + w.length)) = false := fun s hs' => by
      rcases hend with b | b | b
      · exact .inl b
      · rw [hs] at b
        cases b
      · right
        cases z : has s (signAt r (pre.length + w.length)) with
        | false => rfl
        | true =>
          rw [hs' _ z] at b
          cases b
    rcases hg with hn | hn
    · -- a number
      unfold numLike at hn
      rw [Bool.or_eq_true] at hn
      rcases hn with z | z
      · have := of_decide_eq_true z
        subst this
        refine ⟨by decide, ?_⟩
        have h0 := hat 0 (by decide)
        rw [Nat.add_zero] at h0
        have h1 : (L ("0" : Str)).getD 0 0 = 48 := by decide +kernel
        rw [h1] at h0
        unfold endOfWord
        simp only
        rw [h0]
        have e1 : has MRK 48 = false := by decide +kernel
        rw [e1]
        simp only [Bool.false_eq_true, if_false]
        have hp2 : (decide (0 < pre.length) && has (LET ++ FIG) (signAt r (pre.length - 1))) = false := hp'
        rw [hp2]
        simp only [Bool.false_eq_true, if_false, if_true]
        rfl
      · split at z
        · cases z
        · rename_i c t hw
          simp only [Bool.and_eq_true, decide_eq_true_eq] at z
          obtain ⟨z1, z2, z3⟩ := z
          have wl : w.length = t.length + 1 := by rw [← L_len, hw]; rfl
          have hall : ∀ i, i < w.length → has FIG ((L w).getD i 0) = true := fun i hi => List.all_eq_true.mp z2 _ (hmem i hi)
          have h0 := hat 0 (by omega)
          rw [Nat.add_zero] at h0
          have hc : (L w).getD 0 0 = c := by rw [hw]; rfl
          have hc0 := hall 0 (by omega)
          rw [hc] at h0 hc0
          refine ⟨by omega, ?_⟩
          unfold endOfWord
          simp only
          rw [h0, lf_not_mark (inS_of_fig hc0)]
          simp only [Bool.false_eq_true, if_false]
          have hp2 : (decide (0 < pre.length) && has (LET ++ FIG) (signAt r (pre.length - 1))) = false := hp'
          rw [hp2]
          simp only [Bool.false_eq_true, if_false]
          rw [if_neg z1, hc0]
          simp only [if_true]
          unfold endOfRun
          exact run_to w.length r.length pre.length (fun i hi => ⟨by omega, by rw [hat i hi]; exact hall i hi⟩) (by omega) (by
            rcases hend' FIG (fun c h => inS_of_fig h) with b | b
            · exact .inl b
            · exact .inr (.inl b)) (by omega)
    · unfold namLike at hn
      split at hn
      · cases hn
      · rename_i c t hw
        simp only [Bool.and_eq_true, decide_eq_true_eq] at hn
        obtain ⟨z1, z2, z3⟩ := hn
        have wl : w.length = t.length + 1 := by rw [← L_len, hw]; rfl
        have hall : ∀ i, i < w.length → has LF ((L w).getD i 0) = true := fun i hi => List.all_eq_true.mp z2 _ (hmem i hi)
        have h0 := hat 0 (by omega)
        rw [Nat.add_zero] at h0
        have hc : (L w).getD 0 0 = c := by rw [hw]; rfl
        rw [hc] at h0
        refine ⟨by omega, ?_⟩
        unfold endOfWord
        simp only
        rw [h0, lf_not_mark (inS_of_let z1)]
        simp only [Bool.false_eq_true, if_false]
        have hp2 : (decide (0 < pre.length) && has (LET ++ FIG) (signAt r (pre.length - 1))) = false := hp'
        rw [hp2]
        simp only [Bool.false_eq_true, if_false]
        rw [if_neg (let_not_0 z1), let_not_fig z1, z1]
        simp only [Bool.false_eq_true, if_false, if_true]
        unfold endOfRun
        exact run_to w.length r.length pre.length (fun i hi => ⟨by omega, by rw [hat i hi]; exact hall i hi⟩) (by omega) (by
          rcases hend' LF (fun c h => h) with b | b
          · exact .inl b
          · exact .inr (.inl b)) (by omega)
end Prs
set_option Elab.async false
set_option linter.all false
set_option maxRecDepth 100000
set_option maxHeartbeats 4000000
namespace Prs
open PySem PySem.Spec PyProof.Rows L2 Evl
open TL (wstep wfin words_tl wfold_word)
/-- the signs l from a word's begin on are these words, blanks between; p: a letter or a figure stands straight ahead -/
inductive RowT : Bool → List Nat → List Str → Prop
  | last {p : Bool} {w : Str} {k : Nat} : goodW w = true → (p = true → isSg w = true) → RowT p (L w ++ List.replicate k 32) [w]
  | more {p : Bool} {w : Str} {g : Nat} {l : List Nat} {ws : List Str} : goodW w = true → (p = true → isSg w = true) → RowT (decide (g = 0) && !isSg w) l ws → RowT p (L w ++ (List.replicate g 32 ++ l)) (w :: ws)
def tk (w : Str) : Tok := (kindOf w, w)
theorem good_head {w : Str} (h : goodW w = true) : ∃ c t, L w = c :: t ∧ c ≠ 32 ∧ (isSg w = true → has LF c = false) ∧ (isSg w = true ∨ has LF c = true) := by
  have m : ∀ {c : Nat}, has MRK c = true → c ≠ 32 ∧ has LF c = false := fun {c} hc => ⟨of_decide_eq_true (cls_ok (s := MRK) (f := fun c => decide (c ≠ 32)) (by decide +kernel) hc), mark_not_lf hc⟩
  have f : ∀ {c : Nat}, has LF c = true → c ≠ 32 := fun {c} hc => of_decide_eq_true (cls_ok (s := LF) (f := fun c => decide (c ≠ 32)) (by decide +kernel) hc)
  unfold goodW at h
  cases hs : isSg w with
  | true =>
    have hs' := hs
    unfold isSg at hs
    rw [Bool.and_eq_true] at hs
    have h1 : (L w).length = 1 := of_decide_eq_true hs.1
    match hw : L w, h1 with
    | [c], _ =>
      have h2 := List.all_eq_true.mp hs.2 c (by rw [hw]; simp)
      obtain ⟨a, b⟩ := m h2
      exact ⟨c, [], rfl, a, fun _ => b, .inl rfl⟩
  | false =>
    rw [hs, Bool.false_or, Bool.or_eq_true] at h
    have key : ∃ c t, L w = c :: t ∧ has LF c = true := by
      rcases h with h | h
      · unfold numLike at h
        rw [Bool.or_eq_true] at h
        rcases h with z | z
        · have := of_decide_eq_true z
          subst this
          exact ⟨48, [], by decide +kernel, by decide +kernel⟩
        · split at z
          · cases z
          · rename_i c t hw
            simp only [Bool.and_eq_true] at z
            exact ⟨c, t, hw, inS_of_fig (List.all_eq_true.mp z.2.1 c (by rw [hw]; simp))⟩
      · unfold namLike at h
        split at h
        · cases h
        · rename_i c t hw
          simp only [Bool.and_eq_true] at h
          exact ⟨c, t, hw, inS_of_let h.1⟩
    obtain ⟨c, t, h1, h2⟩ := key
    exact ⟨c, t, h1, f h2, (fun z => Bool.noConfusion z), .inr h2⟩
theorem rowt_head {p : Bool} {l : List Nat} {ws : List Str} (h : RowT p l ws) : ∃ c t, l = c :: t ∧ c ≠ 32 ∧ (p = true → has LF c = false) := by
  cases h with
  | last hg hp =>
    obtain ⟨c, t, h1, h2, h3, _⟩ := good_head hg
    exact ⟨c, _, by rw [h1]; rfl, h2, fun q => h3 (hp q)⟩
  | more hg hp _ =>
    obtain ⟨c, t, h1, h2, h3, _⟩ := good_head hg
    exact ⟨c, _, by rw [h1]; rfl, h2, fun q => h3 (hp q)⟩
theorem has_cons {x : Wd} {xs : List Wd} {t : Tok} {ts : List Tok} (h : x.kind = t.1 ∧ x.word = t.2) (hs : Has xs 0 ts) : Has (x :: xs) 0 (t :: ts) := fun k u e => by
  cases k with
  | zero =>
    simp only [List.getElem?_cons_zero, Option.some.injEq] at e
    subst e
    obtain ⟨a, b, c⟩ := x
    obtain ⟨h1, h2⟩ := h
    dsimp only at h1 h2
    subst h1 h2
    exact ⟨c, rfl⟩
  | succ k =>
    rw [List.getElem?_cons_succ] at e
    obtain ⟨c, hc⟩ := hs k u e
    refine ⟨c, ?_⟩
    rw [Nat.zero_add] at hc ⊢
    exact hc
theorem sg_last {w : Str} (h : isSg w = true) : ∃ q c, L w = q ++ [c] ∧ has LF c = false := by
  unfold isSg at h
  rw [Bool.and_eq_true] at h
  have h1 : (L w).length = 1 := of_decide_eq_true h.1
  match hw : L w, h1 with
  | [c], _ => exact ⟨[], c, rfl, mark_not_lf (List.all_eq_true.mp h.2 c (by rw [hw]; simp))⟩
theorem words_go {p : Bool} {l : List Nat} {ws : List Str} (h : RowT p l ws) : ∀ (r : Str) (pre : List Nat) (fuel : Nat), L r = pre ++ l → (p = false → pre = [] ∨ ∃ q c, pre = q ++ [c] ∧ has LF c = false) → l.length < fuel → Has (wordsGo r fuel pre.length) 0 (ws.map tk) ∧ RowEnd (wordsGo r fuel pre.length) ws.length ∧ (wordsGo r fuel pre.length).length = ws.length + 1 := by
  induction h with
  | @last p w k hg hp =>
    intro r pre fuel hr hf hl
    obtain ⟨fuel, rfl⟩ : ∃ q, fuel = q + 1 := ⟨fuel - 1, by omega⟩
    have hpp : isSg w = true ∨ pre = [] ∨ ∃ q c, pre = q ++ [c] ∧ has LF c = false := by
      cases p with
      | true => exact .inl (hp rfl)
      | false => exact .inr (hf rfl)
    have bd : Bd w (List.replicate k 32) := by
      cases k with
      | zero => exact .inr (.inl rfl)
      | succ k => exact .inr (.inr ⟨32, List.replicate k 32, rfl, by decide +kernel⟩)
    obtain ⟨w0, we⟩ := word_end hr hg hpp bd
    have rl : r.length = pre.length + (w.length + k) := by
      rw [← L_len, hr, List.length_append, List.length_append, List.length_replicate]
      rfl
    have hcut : cut r pre.length (pre.length + w.length) = w := L_inj (by
      rw [cut_list (by omega) (by omega), hr, List.drop_left, Nat.add_sub_cancel_left]
      exact List.take_left)
    have hnext : nextAt r (pre.length + w.length) = r.length := by
      unfold nextAt
      have hs : L (cutS r (some ((pre.length + w.length : Nat) : Int)) none) = List.replicate k 32 ++ [] := by
        rw [cutfrom_list (by omega), hr, List.append_nil]
        have : pre.length + w.length = (pre ++ L w).length := by rw [List.length_append]; rfl
        rw [this, ← List.append_assoc, List.drop_left]
      rw [(strip_of hs (.inl rfl)).2]
      omega
    have hw : wordsGo r (fuel + 1) pre.length = [⟨kindOf w, w, pre.length + 1⟩, lastWd r] := by
      obtain ⟨f2, rfl⟩ : ∃ q, fuel = q + 1 := ⟨fuel - 1, by
        rw [List.length_append] at hl
        have : 0 < (L w).length := w0
        omega⟩
      conv => lhs; unfold wordsGo
      rw [if_pos (by omega), we, hcut, if_neg (by omega), hnext]
      unfold wordsGo
      rw [if_neg (by omega)]
    rw [hw]
    exact ⟨has_cons ⟨rfl, rfl⟩ (fun k t e => by simp at e), ⟨_, rfl⟩, rfl⟩
  | @more p w g l ws hg hp hrest ih =>
    intro r pre fuel hr hf hl
    obtain ⟨fuel, rfl⟩ : ∃ q, fuel = q + 1 := ⟨fuel - 1, by omega⟩
    have hpp : isSg w = true ∨ pre = [] ∨ ∃ q c, pre = q ++ [c] ∧ has LF c = false := by
      cases p with
      | true => exact .inl (hp rfl)
      | false => exact .inr (hf rfl)
    obtain ⟨c, t, hl1, hc32, hcp⟩ := rowt_head hrest
    have bd : Bd w (List.replicate g 32 ++ l) := by
      cases g with
      | zero =>
        cases hs : isSg w with
        | true => exact .inl hs
        | false =>
          refine .inr (.inr ⟨c, t, by rw [hl1]; rfl, hcp ?_⟩)
          rw [hs]
          rfl
      | succ g => exact .inr (.inr ⟨32, List.replicate g 32 ++ l, rfl, by decide +kernel⟩)
    obtain ⟨w0, we⟩ := word_end hr hg hpp bd
    have rl : r.length = pre.length + (w.length + (g + l.length)) := by
      rw [← L_len, hr, List.length_append, List.length_append, List.length_append, List.length_replicate]
      rfl
    have hcut : cut r pre.length (pre.length + w.length) = w := L_inj (by
      rw [cut_list (by omega) (by omega), hr, List.drop_left, Nat.add_sub_cancel_left]
      exact List.take_left)
    have hnext : nextAt r (pre.length + w.length) = (pre ++ (L w ++ List.replicate g 32)).length := by
      unfold nextAt
      have hs : L (cutS r (some ((pre.length + w.length : Nat) : Int)) none) = List.replicate g 32 ++ l := by
        rw [cutfrom_list (by omega), hr]
        have : pre.length + w.length = (pre ++ L w).length := by rw [List.length_append]; rfl
        rw [this, ← List.append_assoc, List.drop_left]
      rw [(strip_of hs (.inr ⟨c, t, hl1, hc32⟩)).2]
      simp only [List.length_append, List.length_replicate, Int.toNat_natCast]
      show pre.length + w.length + g = pre.length + (w.length + g)
      omega
    have hlw : (L w).length = w.length := rfl
    have hlen2 : l.length < fuel := by
      rw [List.length_append, List.length_append, List.length_replicate, hlw] at hl
      omega
    have hw : wordsGo r (fuel + 1) pre.length = ⟨kindOf w, w, pre.length + 1⟩ :: wordsGo r fuel (pre ++ (L w ++ List.replicate g 32)).length := by
      have cpos : 0 < l.length := by rw [hl1]; simp
      conv => lhs; unfold wordsGo
      rw [if_pos (by omega), we, hcut, if_neg (by omega), hnext]
    have := ih r (pre ++ (L w ++ List.replicate g 32)) fuel (by
      rw [hr]
      simp only [List.append_assoc]) (fun hz => by
      right
      cases g with
      | zero =>
        have hs : isSg w = true := by
          cases hs : isSg w with
          | true => rfl
          | false =>
            rw [hs] at hz
            cases hz
        obtain ⟨q, d, hq, hd⟩ := sg_last hs
        exact ⟨pre ++ q, d, by rw [hq]; simp, hd⟩
      | succ g =>
        refine ⟨pre ++ (L w ++ List.replicate g 32), 32, ?_, by decide +kernel⟩
        rw [List.replicate_succ']
        simp only [List.append_assoc]) hlen2
    rw [hw]
    refine ⟨has_cons ⟨rfl, rfl⟩ this.1, ?_, by rw [List.length_cons, List.length_cons, this.2.2]⟩
    obtain ⟨cc, hcc⟩ := this.2.1
    exact ⟨cc, by rw [List.length_cons, List.getElem?_cons_succ]; exact hcc⟩
/-! ### the quick road -/
theorem tab_lf {c : Nat} (h : has LF c = true) : tabAt PART c = none ∧ Unicode.isSpace c = false := by
  have := cls_ok (s := LF) (f := fun c => (tabAt PART c).isNone && !Unicode.isSpace c) (by decide +kernel) h
  simpa using this
theorem tab_mk {c : Nat} (h : has MRK c = true) : (trOne PART c).cps.toList = [32, c, 32] ∧ Unicode.isSpace c = false := by
  have := cls_ok (s := MRK) (f := fun c => decide ((trOne PART c).cps.toList = [32, c, 32]) && !Unicode.isSpace c) (by decide +kernel) h
  simpa using this
theorem tab_32 : (trOne PART 32).cps.toList = [32] := by decide +kernel
theorem sp_32 : Unicode.isSpace 32 = true := by decide +kernel
abbrev tr1 (c : Nat) : List Nat := (trOne PART c).cps.toList
theorem tr_sp : ∀ k : Nat, (List.replicate k 32).flatMap tr1 = List.replicate k 32
  | 0 => rfl
  | k + 1 => by
    rw [List.replicate_succ, List.flatMap_cons, tr_sp k]
    show tr1 32 ++ _ = _
    rw [show tr1 32 = [32] from tab_32]
    rfl
theorem tr_lf : ∀ {x : List Nat}, (∀ c ∈ x, has LF c = true) → x.flatMap tr1 = x
  | [], _ => rfl
  | c :: x, h => by
    rw [List.flatMap_cons, tr_lf fun d hd => h d (List.mem_cons_of_mem _ hd)]
    show tr1 c ++ x = _
    rw [show tr1 c = [c] from by
      show (trOne PART c).cps.toList = _
      rw [trOne_no (tab_lf (h c List.mem_cons_self)).1]]
    rfl
def flush (acc : List (List Nat)) (u : List Nat) : List (List Nat) := if u = [] then acc else acc ++ [u]
theorem step_sp (acc : List (List Nat)) (u : List Nat) : wstep (acc, u) 32 = (flush acc u, []) := by
  unfold wstep flush
  rw [if_pos sp_32]
  by_cases h : u = []
  · rw [if_pos h, if_pos h, h]
  · rw [if_neg h, if_neg h]
theorem fold_sp : ∀ (k : Nat) (acc : List (List Nat)) (u : List Nat), (List.replicate (k + 1) 32).foldl wstep (acc, u) = (flush acc u, [])
  | 0, acc, u => step_sp acc u
  | k + 1, acc, u => by
    rw [List.replicate_succ, List.foldl_cons, step_sp, fold_sp k]
    rfl
theorem good_lf {w : Str} (h : goodW w = true) (hs : isSg w = false) : (∀ c ∈ L w, has LF c = true) ∧ L w ≠ [] := by
  obtain ⟨c, t, e, _⟩ := good_head h
  refine ⟨fun d hd => ?_, by rw [e]; simp⟩
  unfold goodW at h
  rw [hs, Bool.false_or, Bool.or_eq_true] at h
  rcases h with h | h
  · unfold numLike at h
    rw [Bool.or_eq_true] at h
    rcases h with h | h
    · have z := of_decide_eq_true h
      rw [z] at hd
      have : ((L "0").all fun c => has LF c) = true := by decide +kernel
      exact List.all_eq_true.mp this d hd
    · split at h
      · cases h
      · simp only [Bool.and_eq_true] at h
        exact inS_of_fig (List.all_eq_true.mp h.2.1 d hd)
  · unfold namLike at h
    split at h
    · cases h
    · simp only [Bool.and_eq_true] at h
      exact List.all_eq_true.mp h.2.1 d hd
theorem sg_one {w : Str} (h : isSg w = true) : ∃ c, L w = [c] ∧ has MRK c = true := by
  unfold isSg at h
  rw [Bool.and_eq_true] at h
  have h1 : (L w).length = 1 := of_decide_eq_true h.1
  match hw : L w, h1 with
  | [c], _ => exact ⟨c, rfl, List.all_eq_true.mp h.2 c (by rw [hw]; simp)⟩
/-- a good word read -/
theorem fold_word {w : Str} (h : goodW w = true) (acc : List (List Nat)) (u : List Nat) : (isSg w = true → ((L w).flatMap tr1).foldl wstep (acc, u) = (flush acc u ++ [L w], [])) ∧ (isSg w = false → u = [] → ((L w).flatMap tr1).foldl wstep (acc, u) = (acc, L w)) := by
  refine ⟨fun hs => ?_, fun hs hu => ?_⟩
  · obtain ⟨c, e, hc⟩ := sg_one hs
    obtain ⟨h1, h2⟩ := tab_mk hc
    rw [e]
    show ((tr1 c ++ []).foldl wstep (acc, u)) = _
    rw [List.append_nil, show tr1 c = [32, c, 32] from h1]
    show wstep (wstep (wstep (acc, u) 32) c) 32 = _
    rw [step_sp acc u]
    have e2 : wstep (flush acc u, []) c = (flush acc u, [c]) := by
      unfold wstep
      rw [if_neg (by rw [h2]; exact Bool.false_ne_true)]
      rfl
    rw [e2, step_sp]
    unfold flush
    rw [if_neg (by simp : ¬ ([c] : List Nat) = [])]
  · subst hu
    obtain ⟨h1, _⟩ := good_lf h hs
    rw [tr_lf h1, wfold_word _ _ _ fun c hc => (tab_lf (h1 c hc)).2]
    rfl
theorem fold_row {p : Bool} {l : List Nat} {ws : List Str} (h : RowT p l ws) : ∀ (acc : List (List Nat)) (u : List Nat), (p = false → u = []) → wfin ((l.flatMap tr1).foldl wstep (acc, u)) = flush acc u ++ ws.map L := by
  induction h with
  | @last p w k hg hp =>
    intro acc u hu
    rw [List.flatMap_append, List.foldl_append, tr_sp]
    cases hs : isSg w with
    | true =>
      rw [(fold_word hg acc u).1 hs]
      cases k with
      | zero => rfl
      | succ k =>
        rw [fold_sp]
        rfl
    | false =>
      have hpf : p = false := by
        cases p with
        | false => rfl
        | true =>
          have := hp rfl
          rw [hs] at this
          cases this
      obtain rfl := hu hpf
      rw [(fold_word hg acc []).2 hs rfl]
      have hne := (good_lf hg hs).2
      cases k with
      | zero =>
        show wfin (acc, L w) = _
        unfold wfin
        rw [if_neg hne]
        rfl
      | succ k =>
        rw [fold_sp]
        unfold wfin flush
        rw [if_pos rfl, if_neg hne, if_pos rfl]
        rfl
  | @more p w g l ws hg hp hrest ih =>
    intro acc u hu
    rw [List.flatMap_append, List.flatMap_append, List.foldl_append, List.foldl_append, tr_sp]
    cases hs : isSg w with
    | true =>
      rw [(fold_word hg acc u).1 hs]
      have e : (List.replicate g 32).foldl wstep (flush acc u ++ [L w], []) = (flush acc u ++ [L w], []) := by
        cases g with
        | zero => rfl
        | succ g => rw [fold_sp]; rfl
      rw [e, ih _ _ fun _ => rfl]
      show flush acc u ++ [L w] ++ _ = _
      rw [List.append_assoc]
      rfl
    | false =>
      have hpf : p = false := by
        cases p with
        | false => rfl
        | true =>
          have := hp rfl
          rw [hs] at this
          cases this
      obtain rfl := hu hpf
      rw [(fold_word hg acc []).2 hs rfl]
      have hne := (good_lf hg hs).2
      have fl : flush acc (L w) = acc ++ [L w] := if_neg hne
      cases g with
      | zero =>
        show wfin ((l.flatMap tr1).foldl wstep (acc, L w)) = _
        rw [ih acc (L w) (fun z => by rw [hs] at z; simp at z), fl, List.append_assoc]
        rfl
      | succ g =>
        rw [fold_sp, fl, ih _ _ fun _ => rfl]
        show acc ++ [L w] ++ _ = _
        rw [List.append_assoc]
        rfl
theorem L_all : ∀ {a b : List Str}, a.map L = b.map L → a = b
  | [], [], _ => rfl
  | [], _ :: _, h => by cases h
  | _ :: _, [], h => by cases h
  | x :: a, y :: b, h => by
    rw [List.map_cons, List.map_cons] at h
    injection h with h1 h2
    rw [L_inj h1, L_all h2]
theorem words_row {row : Str} {n : Nat} {l : List Nat} {ws : List Str} (hr : L row = List.replicate n 32 ++ l) (h : RowT false l ws) : Txt.words (trTxt PART row) = ws := by
  refine L_all ?_
  have e1 : (Txt.words (trTxt PART row)).map L = wfin ((L (trTxt PART row)).foldl wstep ([], [])) := words_tl _
  have e2 : L (trTxt PART row) = (L row).flatMap tr1 := by
    show ((L row).flatMap tr1).toArray.toList = _
    rfl
  rw [e1, e2, hr, List.flatMap_append, List.foldl_append, tr_sp]
  have e3 : (List.replicate n 32).foldl wstep (([] : List (List Nat)), ([] : List Nat)) = ([], []) := by
    cases n with
    | zero => rfl
    | succ n => rw [fold_sp]; rfl
  rw [e3, fold_row h _ _ fun _ => rfl]
  rfl
theorem kindsM_len : ∀ {a ks : List Str}, kindsM a = some ks → ks.length = a.length ∧ ∀ (i : Nat) (t : Str), a[i]? = some t → ∃ k, ks[i]? = some k ∧ kindW t = some k
  | [], ks, h => by
    obtain rfl := Option.some.inj h
    exact ⟨rfl, fun i t e => by simp at e⟩
  | u :: a, ks, h => by
    have h1 : (match kindW u with | none => none | some k => match kindsM a with | none => none | some ks => some (k :: ks)) = some ks := h
    cases hu : kindW u with
    | none => rw [hu] at h1; cases h1
    | some v =>
      rw [hu] at h1
      dsimp only at h1
      cases ha : kindsM a with
      | none => rw [ha] at h1; cases h1
      | some zs =>
        rw [ha] at h1
        obtain rfl := Option.some.inj h1
        obtain ⟨g1, g2⟩ := kindsM_len ha
        refine ⟨by rw [List.length_cons, List.length_cons, g1], fun i t e => ?_⟩
        cases i with
        | zero =>
          obtain rfl := Option.some.inj e
          exact ⟨v, rfl, hu⟩
        | succ i => exact g2 i t e
theorem marks_head {w : Str} {c : Nat} {t : List Nat} (h : inMarks w = true) (e : L w = c :: t) : has MRK c = true := by
  obtain ⟨i, _, h2⟩ := (PySem.StrLaws.found_iff MRK w).mp h
  unfold Builtin.Str.subAt at h2
  have y1 := eq_of_beq h2
  have y2 := congrArg Array.toList y1
  rw [Array.toList_extract] at y2
  have y3 : w.cps.toList = c :: t := e
  rw [y3, List.extract_eq_drop_take] at y2
  refine decide_eq_true ?_
  have : c ∈ List.take (i + w.length - i) (List.drop i MRK.cps.toList) := by rw [y2]; exact List.mem_cons_self
  exact List.mem_of_mem_drop (List.mem_of_mem_take this)
theorem own_kindOf {w : Str} (h : w ∈ OWN) : kindOf w = w := by
  have ok : (OWN.all fun s => decide (kindOf s = s)) = true := by decide +kernel
  exact of_decide_eq_true (List.all_eq_true.mp ok w h)
theorem mrk_own {w : Str} (h : isSg w = true) : w ∈ OWN := by
  obtain ⟨c, e, hc⟩ := sg_one h
  have ok := cls_ok (s := MRK) (f := fun c => decide ((⟨#[c]⟩ : Str) ∈ OWN)) (by decide +kernel) hc
  have hw : w = ⟨#[c]⟩ := L_inj e
  rw [hw]
  exact of_decide_eq_true ok
theorem inV_memW {z : Str} : ∀ {ks : List Str}, inV (.str z) (ks.map V.str) = decide (z ∈ ks)
  | [] => by simp [inV]
  | k :: ks => by
    have := inV_memW (z := z) (ks := ks)
    unfold inV at this ⊢
    simp only [List.map_cons, List.any_cons, List.mem_cons]
    rw [this]
    by_cases h : z = k
    · subst h
      simp [eqV]
    · have h' : ¬ k = z := fun y => h y.symm
      simp [eqV, h, h']
theorem kind_good {w k : Str} (g : goodW w = true) (h : kindW w = some k) : k = kindOf w := by
  unfold kindW at h
  by_cases ho : w ∈ OWN
  · rw [if_pos (decide_eq_true ho)] at h
    obtain rfl := Option.some.inj h
    exact (own_kindOf ho).symm
  rw [if_neg (by simpa using ho)] at h
  have hs : isSg w = false := by
    cases hs : isSg w with
    | false => rfl
    | true => exact absurd (mrk_own hs) ho
  have g0 := g
  obtain ⟨c, t, e, _⟩ := good_head g
  have hlf := (good_lf g hs).1 c (by rw [e]; exact List.mem_cons_self)
  have hm : inMarks w = false := by
    cases hm : inMarks w with
    | false => rfl
    | true =>
      have := marks_head hm e
      rw [lf_not_mark hlf] at this
      cases this
  have hk : inV (.str w) (KEYS.map V.str) = false := by
    rw [inV_memW]
    exact decide_eq_false fun z => ho (List.mem_append_left _ z)
  have hne : V.str w ≠ V.str "" := fun z => by
    have := V.str.inj z
    rw [this] at e
    cases e
  have hsign : signAt w 0 = c := by
    show (L w).getD 0 0 = c
    rw [e]
    rfl
  have kk : kindOf w = if has FIG c then ("a number" : Str) else ("a name" : Str) := by
    unfold kindOf
    rw [if_neg (by simpa using hne), hk, hm, if_neg (by decide), hsign]
  rw [kk]
  unfold goodW at g0
  rw [hs, Bool.false_or, Bool.or_eq_true] at g0
  have fig_or : has FIG c = true ∨ has LET c = true := by
    rcases g0 with q | q
    · unfold numLike at q
      rw [Bool.or_eq_true] at q
      rcases q with q | q
      · have := of_decide_eq_true q
        subst this
        have : (48 : Nat) :: [] = c :: t := e
        injection this with a _
        subst a
        exact .inl (by decide +kernel)
      · rw [e] at q
        simp only [Bool.and_eq_true] at q
        exact .inl (List.all_eq_true.mp q.2.1 c List.mem_cons_self)
    · unfold namLike at q
      rw [e] at q
      simp only [Bool.and_eq_true] at q
      exact .inr q.1
  unfold wholeM at h
  rcases fig_or with hf | hl
  · have : isNameM w = false := by
      unfold isNameM
      have : Txt.isidentifier w = false := by
        have st := cls_ok (s := FIG) (f := fun c => !Unicode.isNameStart c) (by decide +kernel) hf
        show (match L w with | [] => false | c :: rest => Unicode.isNameStart c && rest.all Unicode.isNameContinue) = false
        rw [e]
        show (Unicode.isNameStart c && _) = false
        rw [show Unicode.isNameStart c = false by simpa using st]
        rfl
      rw [this]
      simp
    rw [this, if_neg (by decide)] at h
    rw [if_pos hf]
    split at h
    · exact (Option.some.inj h).symm
    · cases h
  · have : isNumM w = false := by
      unfold isNumM
      have : Txt.isdigit w = false := by
        have st := cls_ok (s := LET) (f := fun c => !Unicode.isDigit c) (by decide +kernel) hl
        unfold Txt.isdigit
        rw [Bool.and_eq_false_iff]
        right
        rw [← Array.all_toList]
        show (L w).all Unicode.isDigit = false
        rw [e, List.all_cons, show Unicode.isDigit c = false by simpa using st]
        rfl
      rw [this]
      simp
    rw [this] at h
    rw [let_not_fig hl, if_neg (by decide)]
    split at h
    · exact (Option.some.inj h).symm
    · cases h
theorem rowt_good {p : Bool} {l : List Nat} {ws : List Str} (h : RowT p l ws) : ∀ w ∈ ws, goodW w = true := by
  induction h with
  | last hg _ => exact fun w hw => by rw [List.mem_singleton.mp hw]; exact hg
  | more hg _ _ ih =>
    intro w hw
    rcases List.mem_cons.mp hw with q | q
    · rw [q]; exact hg
    · exact ih w q
theorem row_quick {row : Str} {n : Nat} {l : List Nat} {ws : List Str} (hr : L row = List.replicate n 32 ++ l) (h : RowT false l ws) (hh : Has (wordsOf row) 0 (ws.map tk)) (re : RowEnd (wordsOf row) ws.length) (hl : (wordsOf row).length = ws.length + 1) : quickOk row = true := by
  unfold quickOk quickM
  rw [words_row hr h]
  cases hc : (!Txt.isascii row || !Txt.isprintable row) with
  | true => rfl
  | false =>
    rw [if_neg (by decide)]
    cases hk : kindsM ws with
    | none => rfl
    | some ks =>
      obtain ⟨k1, k2⟩ := kindsM_len hk
      obtain ⟨ce, hce⟩ := re
      have hg := rowt_good h
      show (decide (ks ++ (["the row's end"] : List Str) = (wordsOf row).map Wd.kind) && decide (ws ++ ([""] : List Str) = (wordsOf row).map Wd.word)) = true
      have at_ : ∀ (i : Nat) (t : Str), ws[i]? = some t → ∃ c, (wordsOf row)[i]? = some ⟨kindOf t, t, c⟩ := fun i t e => by
        obtain ⟨c, hx⟩ := hh i (tk t) (by rw [List.getElem?_map, e]; rfl)
        rw [Nat.zero_add] at hx
        exact ⟨c, hx⟩
      rw [Bool.and_eq_true]
      refine ⟨decide_eq_true (List.ext_getElem? fun i => ?_), decide_eq_true (List.ext_getElem? fun i => ?_)⟩
      · rw [List.getElem?_map]
        by_cases h1 : i < ws.length
        · obtain ⟨k, e1, e2⟩ := k2 i ws[i] (List.getElem?_eq_getElem h1)
          obtain ⟨c, e3⟩ := at_ i ws[i] (List.getElem?_eq_getElem h1)
          rw [List.getElem?_append_left (by omega), e1, e3, kind_good (hg _ (List.getElem_mem h1)) e2]
          rfl
        · by_cases h2 : i = ws.length
          · subst h2
            rw [hce, List.getElem?_append_right (by omega), k1, Nat.sub_self]
            rfl
          · rw [List.getElem?_eq_none (by rw [List.length_append, k1, List.length_singleton]; omega), List.getElem?_eq_none (l := wordsOf row) (by omega)]
            rfl
      · rw [List.getElem?_map]
        by_cases h1 : i < ws.length
        · obtain ⟨c, e3⟩ := at_ i ws[i] (List.getElem?_eq_getElem h1)
          rw [List.getElem?_append_left (by omega), e3, List.getElem?_eq_getElem h1]
          rfl
        · by_cases h2 : i = ws.length
          · subst h2
            rw [hce, List.getElem?_append_right (by omega), Nat.sub_self]
            rfl
          · rw [List.getElem?_eq_none (by rw [List.length_append, List.length_singleton]; omega), List.getElem?_eq_none (l := wordsOf row) (by omega)]
            rfl
theorem row_is {row : Str} {D : Nat} {l : List Nat} {ws : List Str} (hr : L row = List.replicate (2 * D) 32 ++ l) (h : RowT false l ws) : RowIs row D (ws.map tk) := by
  obtain ⟨c, t, h1, h2, _⟩ := rowt_head h
  have hb := (strip_of hr (.inr ⟨c, t, h1, h2⟩)).2
  have := words_go h row (List.replicate (2 * D) 32) (row.length + 1) hr (fun _ => by
    cases D with
    | zero => exact .inl rfl
    | succ D =>
      right
      refine ⟨List.replicate (2 * D + 1) 32, 32, ?_, by decide +kernel⟩
      rw [show 2 * (D + 1) = 2 * D + 1 + 1 by omega, List.replicate_succ']) (by
    have : (L row).length = row.length := rfl
    rw [hr, List.length_append] at this
    omega)
  rw [List.length_replicate] at this
  have e : wordsOf row = wordsGo row (row.length + 1) (2 * D) := by
    unfold wordsOf
    rw [hb]
    rfl
  refine ⟨hb, by rw [e]; exact this.1, ?_, ?_⟩
  · rw [e, List.length_map]
    exact this.2.1
  · exact row_quick hr h (by rw [e]; exact this.1) (by rw [e]; exact this.2.1) (by rw [e]; exact this.2.2)
theorem row_not {row : Str} {g : Nat} {l : List Nat} {p : Bool} {ws : List Str} (hr : L row = List.replicate g 32 ++ l) (h : RowT p l ws) (h0 : ∀ c t, l = c :: t → c ≠ 45) : isPassed row = false := by
  obtain ⟨c, t, h1, h2, _⟩ := rowt_head h
  have hs := (strip_of hr (.inr ⟨c, t, h1, h2⟩)).1
  have hc := h0 c t h1
  rw [h1] at hs
  unfold isPassed
  have e1 : decide (V.str (Txt.lstripChars row " ") = V.str "") = false := by
    refine decide_eq_false fun z => ?_
    have := V.str.inj z
    rw [this] at hs
    cases hs
  have e2 : Txt.startswith (Txt.lstripChars row " ") "--" = false := by
    unfold Txt.startswith Builtin.Str.subAt
    cases z : (decide (0 + ("--" : Str).length ≤ (Txt.lstripChars row " ").length)) with
    | false => rfl
    | true =>
      rw [Bool.true_and]
      refine Bool.eq_false_iff.mpr fun y => ?_
      have y1 := eq_of_beq y
      have y2 := congrArg Array.toList y1
      rw [Array.toList_extract] at y2
      have y3 : (Txt.lstripChars row " ").cps.toList = c :: t := hs
      rw [y3] at y2
      have y4 : ("--" : Str).cps.toList = [45, 45] := by decide +kernel
      rw [y4] at y2
      have y5 := congrArg List.head? y2
      rw [List.extract_eq_drop_take] at y5
      have y6 : ((c :: t).drop 0).take (0 + ("--" : Str).length - 0) = c :: (t.take 1) := rfl
      rw [y6] at y5
      have : c = 45 := Option.some.inj y5
      exact hc this
  rw [e1, e2]
  rfl
end Prs
set_option Elab.async false
set_option linter.all false
set_option maxRecDepth 100000
set_option maxHeartbeats 4000000
namespace Prs
open PySem PySem.Spec PyProof.Rows L2 Evl
abbrev lMixed : Stmt := top 59
abbrev lPurse : Stmt := top 60
abbrev lTake : Stmt := top 61
abbrev lAt : Stmt := top 62
abbrev lPick : Stmt := top 63
theorem op_powB {X : Cx} : OpR X (binaryOp .Pow) (rI (fun i j => 0 ≤ j ∧ (Builtin.Int.intBits i : Int) * j ≤ 2 ^ 27) fun i j => .int (i ^ j.toNat)) := opI fun _ _ _ _ _ _ _ hc q => pow_int hc.1 hc.2 q
theorem lg_lt {x : Int} {n : Nat} (hn : 0 < n) (h : 0 ≤ x) (h2 : x < 2 ^ n) : x.natAbs.log2 < n := by
  obtain ⟨m, rfl⟩ := Int.eq_ofNat_of_zero_le h
  by_cases z : m = 0
  · subst z
    exact hn
  · have hm : m < 2 ^ n := by
      have : ((m : Nat) : Int) < ((2 ^ n : Nat) : Int) := by
        rw [Int.natCast_pow]
        exact h2
      exact Int.ofNat_lt.mp this
    exact (Nat.log2_lt z).mpr hm
section
variable {P : Program} {w : World} {K : PySem.W.Frag} {mg : Str → Option Value} {base : Heap}
theorem rv_ixL' {H : Hp} {a : Addr} {xs : List V} {i : Int} {v : V} (h : SqL K H a xs) (ha : atI xs i = some v) : RV (rIxL K) (.ref a) (.int i) H v := fun H1 e _ q => ⟨a, xs, i, v, rfl, rfl, ex_l e h, ha, q H1 (Ex.refl H1)⟩
/-! ### _law_at -/
def spAt (K : PySem.W.Frag) : Sp := fun vs H Q _ => ∃ (a : Addr) (ns : List Int) (k : Int), vs = [.ref a, .int k] ∧ SqL K H a (ns.map V.int) ∧ 0 ≤ k ∧ k < 1000 ∧ ∀ n : Int, RetV (.int n) H Q
theorem scAt : FnScope ["_law_script", "_law_k"] ["_law_script", "_law_k"] (defScope lAt) := ⟨rfl, rfl, rfl, by decide +kernel, rfl, by decide +kernel, by decide +kernel⟩
theorem ok_at {f : Addr} {fd : FuncData} (F : Fun K "_law_at" "_law_at" lAt f fd) (G : Gn K mg) : FnOk P w K mg base CX0 1 f fd ["_law_script", "_law_k"] (spAt K) := by
  refine F.ok scAt (fun vs H Q E h => ?_) (fun cdv A outer s H vs Q E hr h => ?_)
  · obtain ⟨a, ns, k, rfl, _⟩ := h
    rfl
  · obtain ⟨a, ns, k, rfl, hS, h0, h9, q⟩ := h
    refine ⟨_, pss_cons (ps_if (pt_cmpR op_lt (pv 1) (pe_callB call_len_seq (by rfl) G.len PySem.boot_len (pa_cons (pv 0) pa_nil)) (nomark _)) (pss_one (ps_ret (pe_ix ix_list (pv 0) (pv 1) (fun _ _ => rfl)))) pss_nil) (pss_one (ps_ret (pe_op op_add (pe_op op_mul pe_int (pv 1)) pe_int))), ?_⟩
    refine q_when (b := decide (k < (ns.map V.int).length)) (et_test (ev_op (ev_var rfl) (ev_len (ev_var rfl) hS) rv_I0)) (fun hb H1 e1 => ?_) (fun _ H1 e1 => ?_)
    · have hlt : k < (ns.map V.int).length := of_decide_eq_true hb
      rw [List.length_map] at hlt
      obtain ⟨j, rfl⟩ : ∃ j : Nat, k = (j : Int) := ⟨k.toNat, by omega⟩
      have hj : j < ns.length := by omega
      refine s_ret (v := .int ns[j]) (ev_op (ev_var rfl) (ev_var rfl) (rv_ixL' (ex_l e1 hS) (atI_nat (by rw [List.getElem?_map, List.getElem?_eq_getElem hj]; rfl)))) fun H2 e2 => (q _).go (e1.trans e2)
    · exact s_ret (v := .int (3 * k + 1)) (ev_op (ev_op ev_c (ev_var rfl) (rv_I (.inl (by decide)))) ev_c rv_I0) fun H2 e2 => (q _).go (e1.trans e2)
/-! ### _law_mixed -/
def spMixed : Sp := fun vs H Q _ => ∃ (c k : Int), vs = [.int c, .int k] ∧ 0 ≤ k ∧ k < 1099511627776 ∧ ∀ r : Int, 0 ≤ r → r < 2 ^ 200 → RetV (.int r) H Q
theorem scMixed : FnScope ["_law_cell", "_law_k", "_law_number"] ["_law_cell", "_law_k"] (defScope lMixed) := ⟨rfl, rfl, rfl, by decide +kernel, rfl, by decide +kernel, by decide +kernel⟩
theorem ok_mixed {f : Addr} {fd : FuncData} (F : Fun K "_law_mixed" "_law_mixed" lMixed f fd) : FnOk P w K mg base CX0 1 f fd ["_law_cell", "_law_k"] spMixed := by
  refine F.ok scMixed (fun vs H Q E h => ?_) (fun cdv A outer s H vs Q E hr h => ?_)
  · obtain ⟨c, k, rfl, _⟩ := h
    rfl
  · obtain ⟨c, k, rfl, k0, k1, q⟩ := h
    refine ⟨_, pss_cons (ps_set (i := 2) scMixed.nd rfl (.inl rfl) (pe_op op_add (pe_op op_add (pe_op op_mul (pe_op op_add (pe_op op_mod (pv 0) (pe_op op_add (pe_op op_pow pe_int pe_int) pe_int)) (pe_op op_mul pe_int (pv 1))) pe_int) (pe_op op_mul pe_int (pv 1))) pe_int))
      (pss_cons (ps_set (i := 2) scMixed.nd rfl (.inl rfl) (pe_op op_mod (pe_op op_mulW (pv 2) (pv 2)) (pe_op op_add (pe_op op_pow pe_int pe_int) pe_int)))
      (pss_one (ps_ret (pe_op op_mod (pe_op op_mulW (pe_op op_add (pv 2) pe_int) (pe_op op_add (pv 2) pe_int)) (pe_op op_add (pe_op op_pow pe_int pe_int) pe_int))))), ?_⟩
    have hk : -(2 ^ 64) < k ∧ k < 2 ^ 64 := by omega
    generalize hm : (10 : Int) ^ (18 : Int).toNat + 9 = m
    have hmv : m = 1000000000000000009 := by rw [← hm]; decide
    generalize hM : (10 : Int) ^ (60 : Int).toNat + 7 = M
    have hM0 : 0 < M := by rw [← hM]; decide
    have hM1 : M < 2 ^ 200 := by rw [← hM]; decide
    have c0 : 0 ≤ c % m := Int.emod_nonneg _ (by omega)
    have c1 : c % m < m := Int.emod_lt_of_pos _ (by omega)
    refine q_asg (v := .int ((c % m + 7 * k) * 739108512309184756019283746561 + 7919 * k + 1)) (ev_op (ev_op (ev_op (ev_op (ev_op (ev_var rfl) (ev_is (ev_op (ev_op ev_c ev_c (rv_I (by unfold CPow; decide))) ev_c rv_I0) (congrArg V.int hm)) (rv_I (C := fun _ j => 0 < j) (by omega))) (ev_op ev_c (ev_var rfl) (rv_I (.inl (by decide)))) rv_I0) ev_c (rv_I (.inl (by omega)))) (ev_op ev_c (ev_var rfl) (rv_I (.inl (by decide)))) rv_I0) ev_c rv_I0) fun H1 e1 => ?_
    generalize hx : (c % m + 7 * k) * 739108512309184756019283746561 + 7919 * k + 1 = x
    have x0 : 0 ≤ x := by omega
    have x1 : x < 2 ^ 200 := by omega
    have lx := lg_lt (n := 200) (by decide) x0 x1
    refine q_asg (v := .int (x * x % M)) (ev_op (ev_op (ev_var rfl) (ev_var rfl) (rv_I (by unfold CMulW; omega))) (ev_is (ev_op (ev_op ev_c ev_c (rv_I (by unfold CPow; decide))) ev_c rv_I0) (congrArg V.int hM)) (rv_I (C := fun _ j => 0 < j) hM0)) fun H2 e2 => ?_
    generalize hy : x * x % M = y
    have y0 : 0 ≤ y := by rw [← hy]; exact Int.emod_nonneg _ (by omega)
    have y1 : y < 2 ^ 200 := by rw [← hy]; exact Int.lt_trans (Int.emod_lt_of_pos _ hM0) hM1
    have l1 := lg_lt (x := y + 40503) (n := 201) (by decide) (by omega) (by omega)
    have l2 := lg_lt (x := y + 57) (n := 201) (by decide) (by omega) (by omega)
    refine s_ret (v := .int ((y + 40503) * (y + 57) % M)) (ev_op (ev_op (ev_op (ev_var rfl) ev_c rv_I0) (ev_op (ev_var rfl) ev_c rv_I0) (rv_I (by unfold CMulW; omega))) (ev_is (ev_op (ev_op ev_c ev_c (rv_I (by unfold CPow; decide))) ev_c rv_I0) (congrArg V.int hM)) (rv_I (C := fun _ j => 0 < j) hM0)) fun H3 e3 => (q _ (Int.emod_nonneg _ (by omega)) (Int.lt_trans (Int.emod_lt_of_pos _ hM0) hM1)).go ((e1.trans e2).trans e3)
end
end Prs
set_option Elab.async false
set_option linter.all false
set_option maxRecDepth 100000
set_option maxHeartbeats 4000000
namespace Prs
open PySem PySem.Spec PyProof.Rows L2 Evl
section
variable {P : Program} {w : World} {K : PySem.W.Frag} {mg : Str → Option Value} {base : Heap}
/-! ### _law_purse -/
def PurseAt (H : Hp) (p : Addr) (y : Int) : Prop := ∃ x z : Int, H p = some (.lst [.int x, .int y, .int z])
def spPurse : Sp := fun vs H Q _ => ∃ (c k : Int), vs = [.int c, .int k] ∧ 0 ≤ k ∧ k < 1000 ∧ ∀ p H', H p = none → Ex H H' → PurseAt H' p 0 → Q (.ref p) H'
theorem scPurse : FnScope ["_law_cell", "_law_k"] ["_law_cell", "_law_k"] (defScope lPurse) := ⟨rfl, rfl, rfl, by decide +kernel, rfl, by decide +kernel, by decide +kernel⟩
theorem ok_purse {f : Addr} {fd : FuncData} (F : Fun K "_law_purse" "_law_purse" lPurse f fd) (D : Df K mg "_law_mixed" lMixed ["_law_cell", "_law_k"]) : FnOk P w K mg base CX0 2 f fd ["_law_cell", "_law_k"] spPurse := by
  have GM : FnOk P w K mg base CX0 1 D.f D.fd ["_law_cell", "_law_k"] spMixed := ok_mixed D.F
  refine F.ok scPurse (fun vs H Q E h => ?_) (fun cdv A outer s H vs Q E hr h => ?_)
  · obtain ⟨c, k, rfl, _⟩ := h
    rfl
  · obtain ⟨c, k, rfl, k0, k1, q⟩ := h
    refine ⟨_, pss_cons (ps_if (pt_cmpR op_ge (pv 0) (pe_op op_pow pe_int pe_int) (nomark _)) (pss_one (ps_ret (pe_lst (pa_cons (pe_op op_mod (pe_op op_sub (pv 0) (pe_op op_pow pe_int pe_int)) (pe_op op_powB (pe_op op_pow pe_int pe_int) pe_int)) (pa_cons pe_int (pa_cons (pv 1) pa_nil)))))) pss_nil)
      (pss_one (ps_ret (pe_lst (pa_cons (pe_call GM hr rfl D.m D.F.kp D.b .nil pass0 (pa_cons (pv 0) (pa_cons (pv 1) pa_nil))) (pa_cons pe_int (pa_cons (pe_op op_add (pe_op op_mod (pv 0) (pe_op op_add (pe_op op_pow pe_int pe_int) pe_int)) (pv 1)) pa_nil)))))), ?_⟩
    generalize hm : ((10 : Int) ^ (60 : Int).toNat) ^ (10 : Int).toNat = m
    have m0 : 0 < m := by rw [← hm]; decide +kernel
    generalize hn : (10 : Int) ^ (18 : Int).toNat + 9 = n
    have n0 : 0 < n := by rw [← hn]; decide
    refine q_when (b := decide (c ≥ 10 ^ (18 : Int).toNat)) (et_test (ev_op (ev_var rfl) (ev_op ev_c ev_c (rv_I (by unfold CPow; decide))) rv_I0)) (fun hb H1 e1 => ?_) (fun hb H1 e1 => ?_)
    · refine s_retL (xs := [.int ((c - 10 ^ (18 : Int).toNat) % m), .int 0, .int k]) (el_lst (ea_cons (ev_op (ev_op (ev_var rfl) (ev_op ev_c ev_c (rv_I (by unfold CPow; decide))) rv_I0) (ev_is (ev_op (ev_op ev_c ev_c (rv_I (by unfold CPow; decide))) ev_c (rv_I (by decide +kernel))) (congrArg V.int hm)) (rv_I (C := fun _ j => 0 < j) m0)) (ea_cons ev_c (ea_cons (ev_var rfl) ea_nil))) (by show 3 ≤ 100000; decide)) fun p H2 np e2 hp => ?_
      exact q p H2 (fresh_back e1 np) (e1.trans e2) ⟨_, _, hp⟩
    · refine ⟨_, rfl, _, rfl, c, k, rfl, k0, by omega, fun r r0 r1 H2 e2 => ?_⟩
      have eR : EvA (tCons (tC (.int 0)) (tCons (tOp (rI0 fun i j => .int (i + j)) (tOp (rI (fun _ j => 0 < j) fun i j => .int (i % j)) (tVar 0) (tOp (rI0 fun i j => .int (i + j)) (tOp (rI CPow fun i j => .int (i ^ j.toNat)) (tC (.int 10)) (tC (.int 18))) (tC (.int 9)))) (tVar 1)) tNil)) [some (.int c), some (.int k)] H2 [.int 0, .int (c % n + k)] :=
        ea_cons ev_c (ea_cons (ev_op (ev_op (ev_var rfl) (ev_is (ev_op (ev_op ev_c ev_c (rv_I (by unfold CPow; decide))) ev_c rv_I0) (congrArg V.int hn)) (rv_I (C := fun _ j => 0 < j) n0)) (ev_var rfl) rv_I0) ea_nil)
      refine eR H2 (Ex.refl H2) _ fun H3 e3 => ⟨by show 3 ≤ sizeLine; exact sz_of (by decide), fun p np => ?_⟩
      have e13 := (e1.trans e2).trans e3
      exact q p _ (fresh_back e13 np) (e13.trans (fr_new np)) ⟨_, _, upd_same⟩
/-! ### _law_take -/
def spLTake : Sp := fun vs H Q _ => ∃ (p : Addr) (m y : Int), vs = [.ref p, .int m] ∧ 1 ≤ m ∧ m ≤ 1000 ∧ PurseAt H p y ∧ 0 ≤ y ∧ y < 68719476736 ∧ ∀ (d y' : Int) (H' : Hp), 0 ≤ d → d < m → y ≤ y' → y' ≤ y + 1 → Fr p H H' → PurseAt H' p y' → Q (.int d) H'
theorem scLTake : FnScope ["_law_purse_here", "_law_far", "_law_got"] ["_law_purse_here", "_law_far"] (defScope lTake) := ⟨rfl, rfl, rfl, by decide +kernel, rfl, by decide +kernel, by decide +kernel⟩
theorem ok_ltake {f : Addr} {fd : FuncData} (F : Fun K "_law_take" "_law_take" lTake f fd) (D : Df K mg "_law_mixed" lMixed ["_law_cell", "_law_k"]) : FnOk P w K mg base CX0 2 f fd ["_law_purse_here", "_law_far"] spLTake := by
  have GM : FnOk P w K mg base CX0 1 D.f D.fd ["_law_cell", "_law_k"] spMixed := ok_mixed D.F
  refine F.ok scLTake (fun vs H Q E h => ?_) (fun cdv A outer s H vs Q E hr h => ?_)
  · obtain ⟨p, m, y, rfl, _⟩ := h
    rfl
  · obtain ⟨p, m, y, rfl, m0, m1, ⟨x, z, hp⟩, y0, y1, q⟩ := h
    refine ⟨_, Evl.pss_cut (ps_if (pt_cmpR op_lt (pe_ix ix_list (pv 0) pe_int (fun _ _ => rfl)) (pv 1) (nomark _))
        (pss_cons (ps_asg (pe_op op_add (pe_ix ix_list (pv 0) pe_int (fun _ _ => rfl)) pe_int) (pg_sub (pv 0) pe_int set_list))
        (pss_one (ps_asg (pe_op op_add (pe_ix ix_list (pv 0) pe_int (fun _ _ => rfl)) (pe_op op_mul (pv 1) (pe_call GM hr rfl D.m D.F.kp D.b .nil pass0 (pa_cons (pe_ix ix_list (pv 0) pe_int (fun _ _ => rfl)) (pa_cons (pe_op op_add (pe_op op_mul pe_int (pe_ix ix_list (pv 0) pe_int (fun _ _ => rfl))) pe_int) pa_nil))))) (pg_sub (pv 0) pe_int set_list)))) pss_nil)
      (pss_cons (ps_set (i := 2) scLTake.nd rfl (.inl rfl) (pe_op op_mod (pe_ix ix_list (pv 0) pe_int (fun _ _ => rfl)) (pv 1)))
      (pss_cons (ps_asg (pe_op op_fdiv (pe_ix ix_list (pv 0) pe_int (fun _ _ => rfl)) (pv 1)) (pg_sub (pv 0) pe_int set_list))
      (pss_one (ps_ret (pv 2))))), ?_⟩
    have i0 : ∀ {H' : Hp} {a b c : V}, H' p = some (.lst [a, b, c]) → ∀ {σ : L2.St}, σ[0]? = some (some (.ref p)) → Ev (tOp (rIxL K) (tVar 0) (tC (.int 0))) σ H' a := fun hh _ hs => ev_op (ev_var hs) ev_c (rv_ixL' (sq_of hh) rfl)
    have i1 : ∀ {H' : Hp} {a b c : V}, H' p = some (.lst [a, b, c]) → ∀ {σ : L2.St}, σ[0]? = some (some (.ref p)) → Ev (tOp (rIxL K) (tVar 0) (tC (.int 1))) σ H' b := fun hh _ hs => ev_op (ev_var hs) ev_c (rv_ixL' (sq_of hh) rfl)
    have i2 : ∀ {H' : Hp} {a b c : V}, H' p = some (.lst [a, b, c]) → ∀ {σ : L2.St}, σ[0]? = some (some (.ref p)) → Ev (tOp (rIxL K) (tVar 0) (tC (.int 2))) σ H' c := fun hh _ hs => ev_op (ev_var hs) ev_c (rv_ixL' (sq_of hh) rfl)
    refine Evl.q_cut (M := fun σ' H' => σ' = [some (.ref p), some (.int m), none] ∧ Fr p H H' ∧ ∃ x y' : Int, y ≤ y' ∧ y' ≤ y + 1 ∧ H' p = some (.lst [.int x, .int y', .int z])) ?_ ?_
    · refine s_when (b := decide (x < m)) (et_test (ev_op (i0 hp rfl) (ev_var rfl) rv_I0)) (fun hb H1 e1 => ?_) (fun hb H1 e1 => ⟨rfl, Fr.ex e1, x, y, by omega, by omega, e1 _ _ hp⟩)
      have hp1 := e1 p _ hp
      refine s_setL (D := { nx := _, rt := Q, bk := _, ct := _ }) (j := 1) (v := .int (y + 1)) hp1 (ev_op (i1 hp1 rfl) ev_c rv_I0) (ev_var rfl) ev_c (by show 1 < 3; decide) fun H2 e2 => ?_
      have hp2 : (L2.upd H2 p (.lst [.int x, .int (y + 1), .int z])) p = some (.lst [.int x, .int (y + 1), .int z]) := upd_same
      have f2 : Fr p H (L2.upd H2 p (.lst [.int x, .int (y + 1), .int z])) := Fr.upd (Fr.ex (e1.trans e2))
      have e3 : ∀ b o, b ≠ p → H b = some o → (L2.upd H2 p (.lst [.int x, .int (y + 1), .int z])) b = some o := f2
      refine i0 hp2 rfl _ (Ex.refl _) _ fun H3 e3 => ⟨.int m, rfl, ?_⟩
      have hp3 := e3 p _ hp2
      have eA : EvA (tCons (tOp (rIxL K) (tVar 0) (tC (.int 2))) (tCons (tOp (rI0 fun i j => .int (i + j)) (tOp (rI CMul fun i j => .int (i * j)) (tC (.int 11)) (tOp (rIxL K) (tVar 0) (tC (.int 1)))) (tC (.int 5))) tNil)) [some (.ref p), some (.int m), none] H3 [.int z, .int (11 * (y + 1) + 5)] :=
        ea_cons (i2 hp3 rfl) (ea_cons (ev_op (ev_op ev_c (i1 hp3 rfl) (rv_I (.inl (by decide)))) ev_c rv_I0) ea_nil)
      refine eA H3 (Ex.refl H3) _ fun H4 e4 => ⟨z, 11 * (y + 1) + 5, rfl, by omega, by omega, fun r r0 r1 H5 e5 => ⟨m, r, rfl, rfl, .inl (by omega), x, m * r, rfl, rfl, ?_⟩⟩
      have hp5 := e5 p _ (e4 p _ hp3)
      refine ⟨.ref p, rfl, p, _, 0, 0, rfl, rfl, hp5, ixN_nat (by show 0 < 3; decide), rfl, f2.trans (Fr.upd (Fr.ex (e3.trans (e4.trans e5)))), x + m * r, y + 1, by omega, by omega, upd_same⟩
    · rintro σ' H1 ⟨rfl, f1, x, y', h1, h2, hp1⟩
      refine q_asg (v := .int (x % m)) (ev_op (i0 hp1 rfl) (ev_var rfl) (rv_I (C := fun _ j => 0 < j) (by omega))) fun H2 e2 => ?_
      have hp2 := e2 p _ hp1
      refine s_setL (D := { nx := _, rt := Q }) (j := 0) (v := .int (x / m)) hp2 (ev_op (i0 hp2 rfl) (ev_var rfl) (rv_I (C := CDiv) ⟨by omega, by omega⟩)) (ev_var rfl) ev_c (by show 0 < 3; decide) fun H3 e3 => ?_
      refine s_ret (v := .int (x % m)) (ev_var rfl) fun H4 e4 => ?_
      exact q _ y' H4 (Int.emod_nonneg _ (by omega)) (Int.emod_lt_of_pos _ (by omega)) h1 h2 (f1.trans ((Fr.upd (Fr.ex (e2.trans e3))).trans (Fr.ex e4))) ⟨x / m, z, e4 p _ upd_same⟩
end
end Prs
set_option Elab.async false
set_option linter.all false
set_option maxRecDepth 100000
set_option maxHeartbeats 4000000
namespace Prs
open PySem PySem.Spec PyProof.Rows L2 Evl
section
variable {P : Program} {w : World} {K : PySem.W.Frag} {mg : Str → Option Value} {base : Heap}
/-! ### _law_pick -/
def spPick (K : PySem.W.Frag) : Sp := fun vs H Q _ => ∃ (p a : Addr) (xs : List V) (y : Int), vs = [.ref p, .ref a] ∧ PurseAt H p y ∧ 0 ≤ y ∧ y < 68719476736 ∧ H a = some (.lst xs) ∧ 1 ≤ xs.length ∧ xs.length ≤ 1000 ∧ a ≠ p ∧
  ∀ (i : Nat) (v : V) (y' : Int) (H' : Hp), xs[i]? = some v → y ≤ y' → y' ≤ y + 1 → Fr p H H' → PurseAt H' p y' → Q v H'
theorem scPick : FnScope ["_law_purse_here", "_law_some"] ["_law_purse_here", "_law_some"] (defScope lPick) := ⟨rfl, rfl, rfl, by decide +kernel, rfl, by decide +kernel, by decide +kernel⟩
theorem ok_pick {f : Addr} {fd : FuncData} (F : Fun K "_law_pick" "_law_pick" lPick f fd) (G : Gn K mg) (DT' : Df K mg "_law_take" lTake ["_law_purse_here", "_law_far"]) (D : Df K mg "_law_mixed" lMixed ["_law_cell", "_law_k"]) : FnOk P w K mg base CX0 3 f fd ["_law_purse_here", "_law_some"] (spPick K) := by
  have GT : FnOk P w K mg base CX0 2 DT'.f DT'.fd ["_law_purse_here", "_law_far"] spLTake := ok_ltake DT'.F D
  refine F.ok scPick (fun vs H Q E h => ?_) (fun cdv A outer s H vs Q E hr h => ?_)
  · obtain ⟨p, a, xs, y, rfl, _⟩ := h
    rfl
  · obtain ⟨p, a, xs, y, rfl, hp, y0, y1, ha, l2, l3, n, q⟩ := h
    refine ⟨_, pss_one (ps_ret (pe_ix ix_list (pv 1) (pe_call GT hr rfl DT'.m DT'.F.kp DT'.b .nil pass0 (pa_cons (pv 0) (pa_cons (pe_callB call_len_seq (by rfl) G.len PySem.boot_len (pa_cons (pv 1) pa_nil)) pa_nil))) (fun _ _ => rfl))), ?_⟩
    have eA : EvA (tCons (tVar 0) (tCons (tCB (rLenS K) (tCons (tVar 1) tNil)) tNil)) [some (.ref p), some (.ref a)] H [.ref p, .int (xs.length : Nat)] := ea_cons (ev_var rfl) (ea_cons (ev_len (ev_var rfl) (sq_of ha)) ea_nil)
    refine ⟨.ref a, rfl, eA H (Ex.refl H) _ fun H1 e1 => ?_⟩
    obtain ⟨x, z, hpp⟩ := hp
    refine ⟨p, xs.length, y, rfl, by omega, by omega, ⟨x, z, e1 _ _ hpp⟩, y0, y1, fun d y' H2 d0 d1 h1 h2 f2 hp2 => ?_⟩
    obtain ⟨j, rfl⟩ := Int.eq_ofNat_of_zero_le d0
    have hj : j < xs.length := by omega
    exact ⟨a, xs, j, xs[j], rfl, rfl, sq_of (f2 _ _ n (e1 _ _ ha)), atI_nat (List.getElem?_eq_getElem hj), q j _ y' H2 (List.getElem?_eq_getElem hj) h1 h2 ((Fr.ex e1).trans f2) hp2⟩
end
end Prs
set_option Elab.async false
set_option linter.all false
set_option maxRecDepth 100000
set_option maxHeartbeats 4000000
namespace Prs
open PySem PySem.Spec PyProof.Rows L2 Evl
abbrev lTerm : Stmt := top 66
/-! ### data of the heap -/
mutual
theorem dp_of {K : PySem.W.Frag} {H : Hp} : ∀ (d : PyData) (v : V), DT H d v → Dp K H v d
  | .int i, v, h => by unfold DT at h; subst h; exact .int i
  | .str i, v, h => by unfold DT at h; subst h; exact .str i
  | .none, v, h => by unfold DT at h; subst h; exact .non
  | .bool b, v, h => by unfold DT at h; subst h; exact .bl b
  | .tuple ds, v, h => by
    unfold DT at h
    obtain ⟨a, vs, rfl, h2, h3⟩ := h
    exact .tup (st_of h2) (dps_of ds vs h3)
  | .list ds, v, h => by unfold DT at h; exact h.elim
theorem dps_of {K : PySem.W.Frag} {H : Hp} : ∀ (ds : List PyData) (vs : List V), DTs H ds vs → DpAll K H vs ds
  | [], vs, h => by unfold DTs at h; subst h; exact .nil
  | d :: ds, vs, h => by
    unfold DTs at h
    obtain ⟨v, r, rfl, h1, h2⟩ := h
    exact .cons (dp_of d v h1) (dps_of ds r h2)
end
theorem tf_fr {p : Addr} {xs : List V} {H H' : Hp} (hp : H p = some (.lst xs)) (f : Fr p H H') : TF H H' := fun b zs h => f b _ (fun z => by
  subst z
  rw [hp] at h
  exact absurd (Option.some.inj h) (fun q => nomatch q)) h
theorem PurseAt.tf {p : Addr} {y : Int} {H H' : Hp} (h : PurseAt H p y) (f : Fr p H H') : TF H H' := by
  obtain ⟨x, z, hp⟩ := h
  exact tf_fr hp f
theorem PurseAt.ex {p : Addr} {y : Int} {H H' : Hp} (h : PurseAt H p y) (e : Ex H H') : PurseAt H' p y := by
  obtain ⟨x, z, hp⟩ := h
  exact ⟨x, z, e _ _ hp⟩
theorem PurseAt.ne {p q : Addr} {y : Int} {H : Hp} (h : PurseAt H p y) (n : H q = none) : q ≠ p := fun z => by
  obtain ⟨x, w, hp⟩ := h
  rw [z, hp] at n
  cases n
/-- a list of texts at a, no purse -/
structure StrsAt (H : Hp) (a : Addr) (xs : List Str) : Prop where
  at_ : H a = some (.lst (xs.map V.str))
theorem StrsAt.ne {p a : Addr} {y : Int} {H : Hp} {xs : List Str} (h : PurseAt H p y) (s : StrsAt H a xs) : a ≠ p := fun z => by
  obtain ⟨x, w, hp⟩ := h
  have h1 := s.at_
  rw [z, hp] at h1
  have h2 := HO.lst.inj (Option.some.inj h1)
  match xs, h2 with
  | [], h2 => cases h2
  | u :: us, h2 => injection h2 with h3 h4; cases h3
theorem StrsAt.fr {p a : Addr} {y : Int} {H H' : Hp} {xs : List Str} (h : PurseAt H p y) (s : StrsAt H a xs) (f : Fr p H H') : StrsAt H' a xs := ⟨f _ _ (StrsAt.ne h s) s.at_⟩
def okStrs (xs : List Str) : Bool := xs.all PyData.strOk
theorem dp_strs {K : PySem.W.Frag} {H : Hp} : ∀ {xs : List Str}, DpAll K H (xs.map V.str) (xs.map PyData.str)
  | [] => .nil
  | _ :: xs => .cons (.str _) dp_strs
theorem shp_strs {xs : List Str} (h : okStrs xs = true) : SeqAt.shaped (.list (xs.map PyData.str)) = true := by
  have a1 : ∀ {xs : List Str}, okStrs xs = true → PyData.canLayAll0 (xs.map PyData.str) = true := by
    intro xs
    induction xs with
    | nil => exact fun _ => by simp [PyData.canLayAll0]
    | cons x xs ih =>
      intro h
      unfold okStrs at h
      rw [List.all_cons, Bool.and_eq_true] at h
      simp only [List.map_cons, PyData.canLayAll0, PyData.canLay0, Bool.and_eq_true]
      exact ⟨h.1, ih h.2⟩
  have a2 : ∀ xs : List Str, PyData.depthAll (xs.map PyData.str) = 0 := by
    intro xs
    induction xs with
    | nil => simp [PyData.depthAll]
    | cons x xs ih =>
      simp only [List.map_cons, PyData.depthAll, ih]
      simp [PyData.depth]
  unfold SeqAt.shaped
  simp only [PyData.canLay0, a1 h, PyData.depth, a2]
  decide
theorem ev_ne_nil {K : PySem.W.Frag} {σ : L2.St} {H : Hp} {k : Nat} {a : Addr} {xs : List Str} (h0 : σ[k]? = some (some (.ref a))) (h : StrsAt H a xs) (ok : okStrs xs = true) : Ev (tOp (rNeD K) (tVar k) (tLst tNil)) σ H (.bl (!xs.isEmpty)) := fun H1 e Q q => by
  refine ⟨.ref a, h0, by show 0 ≤ sizeLine; decide, fun l nl => ?_⟩
  have e2 : Ex H1 (L2.upd H1 l (.lst [])) := fr_new nl
  refine ⟨_, .list [], .lst (sq_of (e2 _ _ (e _ _ h.at_))) dp_strs, .lst (sq_of upd_same) .nil, shp_strs ok, by decide, ?_⟩
  have : PyData.eqv (.list (xs.map PyData.str)) (.list []) = xs.isEmpty := by
    cases xs <;> simp [PyData.eqv, PyData.eqvAll]
  rw [this]
  exact q _ e2
/-! ### _law_term -/
def FACTS : List Str := ["n", "level", "k0"]
def NUMS : List Int := [0, 1, 7, 42, 305, 999999999]
inductive TmD : Nat → PyData → Prop
  | num {n : Nat} {i : Int} : i ∈ NUMS → TmD (n + 1) (.tuple [.str "num", .int i])
  | fact {n : Nat} {x : Str} : x ∈ FACTS → TmD (n + 1) (.tuple [.str "fact", .str x])
  | sum {n : Nat} {w : Str} {a c : PyData} : w = "sum" ∨ w = "less" → TmD n a → TmD n c → TmD (n + 1) (.tuple [.str w, a, c])
def tb : Nat → Int
  | 0 => 0
  | n + 1 => 2 * tb n + 2
theorem tb_nn : ∀ n, 0 ≤ tb n
  | 0 => by unfold tb; omega
  | n + 1 => by
    have := tb_nn n
    unfold tb
    omega
section
variable {P : Program} {w : World} {K : PySem.W.Frag} {mg : Str → Option Value} {base : Heap}
/-- what a draw gives: a thing, the purse a bit further on -/
def Drawn (p : Addr) (y b : Int) (H : Hp) (R : Hp → V → Prop) (Q : VK) : Prop := ∀ v y' H', Fr p H H' → PurseAt H' p y' → y ≤ y' → y' ≤ y + b → R H' v → Q v H'
def spTerm (n : Nat) : Sp := fun vs H Q _ => ∃ (p fa : Addr) (deep y : Int) (fs : List Str), vs = [.ref p, .int deep, .ref fa] ∧ 0 ≤ deep ∧ deep < n ∧ PurseAt H p y ∧ 0 ≤ y ∧ y + tb n < 34359738368 ∧ StrsAt H fa fs ∧ (∀ x ∈ fs, x ∈ FACTS) ∧ fs.length ≤ 3 ∧ Drawn p y (tb n) H (fun H' v => ∃ t, TmD n t ∧ DT H' t v) Q
theorem facts_ok {fs : List Str} (h : ∀ x ∈ fs, x ∈ FACTS) : okStrs fs = true := List.all_eq_true.mpr fun x hx => by
  have := h x hx
  simp only [FACTS, List.mem_cons, List.not_mem_nil, or_false] at this
  rcases this with rfl | rfl | rfl <;> decide +kernel
theorem scTermL : FnScope ["_law_purse_here", "_law_deep", "_law_facts", "_law_way", "_law_one"] ["_law_purse_here", "_law_deep", "_law_facts"] (defScope lTerm) := ⟨rfl, rfl, rfl, by decide +kernel, rfl, by decide +kernel, by decide +kernel⟩
set_option maxHeartbeats 0 in
theorem ok_termL (G : Gn K mg) (D : Df K mg "_law_term" lTerm ["_law_purse_here", "_law_deep", "_law_facts"]) (DK : Df K mg "_law_take" lTake ["_law_purse_here", "_law_far"]) (DPk : Df K mg "_law_pick" lPick ["_law_purse_here", "_law_some"]) (DM : Df K mg "_law_mixed" lMixed ["_law_cell", "_law_k"]) :
    ∀ n, FnOk P w K mg base CX0 (3 + n) D.f D.fd ["_law_purse_here", "_law_deep", "_law_facts"] (spTerm n)
  | 0 => by
    refine ⟨fun vs H Q E h => ?_, fun A outer s H args us vs Q E _ _ _ _ h => ?_⟩
    · obtain ⟨p, fa, deep, y, fs, rfl, _⟩ := h
      rfl
    · obtain ⟨p, fa, deep, y, fs, rfl, h0, h1, _⟩ := h
      exact absurd h1 (by omega)
  | n + 1 => by
    have GS := ok_termL G D DK DPk DM n
    have GT : FnOk P w K mg base CX0 2 DK.f DK.fd ["_law_purse_here", "_law_far"] spLTake := ok_ltake DK.F DM
    have GPk : FnOk P w K mg base CX0 3 DPk.f DPk.fd ["_law_purse_here", "_law_some"] (spPick K) := ok_pick DPk.F G DK DM
    refine D.F.ok scTermL (fun vs H Q E h => ?_) (fun cdv A outer s H vs Q E hr h => ?_)
    · obtain ⟨p, fa, deep, y, fs, rfl, _⟩ := h
      rfl
    · obtain ⟨p, fa, deep, y, fs, rfl, h0, h1, hp, y0, y1, hf, hfs, hfl, q⟩ := h
      have hr2 : Room 2 _ := hr.mono (show 2 ≤ 3 + n by omega)
      have hr3 : Room 3 _ := hr.mono (show 3 ≤ 3 + n by omega)
      have tn := tb_nn n
      have te : tb (n + 1) = 2 * tb n + 2 := rfl
      refine ⟨_, pss_cons (ps_set (i := 3) scTermL.nd rfl (.inl rfl) (pe_call GT hr2 rfl DK.m DK.F.kp DK.b .nil pass0 (pa_cons (pv 0) (pa_cons pe_int pa_nil))))
        (pss_cons (ps_if (PW.pt (pw_and (pt_cmpR op_gt (pv 1) pe_int (nomark _)) (pw_and1 (pt_cmpR op_lt (pv 3) pe_int (nomark _)))))
          (pss_cons (ps_set (i := 4) scTermL.nd rfl (.inl rfl) (pe_call GS hr rfl D.m D.F.kp D.b .nil pass0 (pa_cons (pv 0) (pa_cons (pe_op op_sub (pv 1) pe_int) (pa_cons (pv 2) pa_nil)))))
          (pss_one (ps_ret (pe_tup (pa_cons (pe_ix ix_list (pe_lst (pa_cons pe_str (pa_cons pe_str pa_nil))) (pv 3) (fun _ _ => rfl)) (pa_cons (pv 4) (pa_cons (pe_call GS hr rfl D.m D.F.kp D.b .nil pass0 (pa_cons (pv 0) (pa_cons (pe_op op_sub (pv 1) pe_int) (pa_cons (pv 2) pa_nil)))) pa_nil))))))) pss_nil)
        (pss_cons (ps_if (PW.pt (pw_and (pt_cmpR (op_neD hr.units) (pv 2) (pe_lst pa_nil) (nomark _)) (pw_and1 (pt_cmpR op_lt (pv 3) pe_int (nomark _)))))
          (pss_one (ps_ret (pe_tup (pa_cons pe_str (pa_cons (pe_call GPk hr3 rfl DPk.m DPk.F.kp DPk.b .nil pass0 (pa_cons (pv 0) (pa_cons (pv 2) pa_nil))) pa_nil))))) pss_nil)
        (pss_one (ps_ret (pe_tup (pa_cons pe_str (pa_cons (pe_call GPk hr3 rfl DPk.m DPk.F.kp DPk.b .nil pass0 (pa_cons (pv 0) (pa_cons (pe_lst (pa_cons pe_int (pa_cons pe_int (pa_cons pe_int (pa_cons pe_int (pa_cons pe_int (pa_cons pe_int pa_nil))))))) pa_nil))) pa_nil))))))), ?_⟩
      refine ⟨.ref p, rfl, p, 5, y, rfl, by decide, by decide, hp, y0, by omega, fun way ya Ha w0 w1 a1 a2 fa1 hpa => ?_⟩
      have hfa := hf.fr hp fa1
      have hok := facts_ok hfs
      refine q_when (b := decide (deep > 0) && decide (way < 2)) (et_and (et_test (ev_op (ev_var rfl) ev_c rv_I0)) fun _ => et_test (ev_op (ev_var rfl) ev_c rv_I0)) (fun hb H1 e1 => ?_) (fun hb H1 e1 => ?_)
      · rw [Bool.and_eq_true] at hb
        have b1 := of_decide_eq_true hb.1
        have b2 := of_decide_eq_true hb.2
        have hf1 : StrsAt H1 fa fs := ⟨e1 _ _ hfa.at_⟩
        refine ⟨.ref p, rfl, .int deep, rfl, deep, 1, rfl, rfl, .ref fa, rfl, p, fa, deep - 1, ya, fs, rfl, by omega, by omega, hpa.ex e1, by omega, by omega, hf1, hfs, hfl, fun v1 yb H2 f2 hp2 l1 l2 r1 => ?_⟩
        obtain ⟨t1, k1, d1⟩ := r1
        have hf2 := hf1.fr (hpa.ex e1) f2
        obtain ⟨wd, hwd, hws⟩ : ∃ wd : Str, atI [V.str "sum", V.str "less"] way = some (.str wd) ∧ (wd = "sum" ∨ wd = "less") := by
          rcases (by omega : way = 0 ∨ way = 1) with rfl | rfl
          · exact ⟨_, rfl, .inl rfl⟩
          · exact ⟨_, rfl, .inr rfl⟩
        refine ⟨by show 2 ≤ sizeLine; exact sz_of (by decide), fun l nl => ⟨.int way, rfl, l, _, way, .str wd, rfl, rfl, sq_of upd_same, hwd, v1, rfl, ?_⟩⟩
        have e3 : Ex H2 (L2.upd H2 l (.lst [.str "sum", .str "less"])) := fr_new nl
        refine ⟨.ref p, rfl, .int deep, rfl, deep, 1, rfl, rfl, .ref fa, rfl, p, fa, deep - 1, yb, fs, rfl, by omega, by omega, hp2.ex e3, by omega, by omega, ⟨e3 _ _ hf2.at_⟩, hfs, hfl, fun v2 yc H4 f4 hp4 l3 l4 r2 => ?_⟩
        obtain ⟨t2, k2, d2⟩ := r2
        refine ⟨by show 3 ≤ sizeLine; exact sz_of (by decide), fun t nt => ?_⟩
        have e5 : Ex H4 (L2.upd H4 t (.tup [.str wd, v1, v2])) := fr_new nt
        refine q _ yc _ ((((fa1.trans (Fr.ex e1)).trans f2).trans (Fr.ex e3)).trans (f4.trans (Fr.ex e5))) (hp4.ex e5) (by omega) (by omega) ⟨_, TmD.sum hws k1 k2, dt_tup upd_same (dts_cons dt_str (dts_cons ?_ (dts_cons ?_ dts_nil)))⟩
        · exact DT.tf (TF.ex e5) _ _ (DT.tf (PurseAt.tf (hp2.ex e3) f4) _ _ (DT.tf (TF.ex e3) _ _ d1))
        · exact DT.tf (TF.ex e5) _ _ d2
      · have hf1 : StrsAt H1 fa fs := ⟨e1 _ _ hfa.at_⟩
        have hp1 := hpa.ex e1
        refine q_when (b := !fs.isEmpty && decide (way < 4)) (et_and (et_test (ev_ne_nil rfl hf1 hok)) fun _ => et_test (ev_op (ev_var rfl) ev_c rv_I0)) (fun hb H2 e2 => ?_) (fun hb H2 e2 => ?_)
        · rw [Bool.and_eq_true] at hb
          have hne : 1 ≤ fs.length := by
            cases fs with
            | nil => cases hb.1
            | cons x xs => simp
          have hf2 : StrsAt H2 fa fs := ⟨e2 _ _ hf1.at_⟩
          have hp2 := hp1.ex e2
          refine ⟨.ref p, rfl, .ref fa, rfl, p, fa, fs.map V.str, ya, rfl, hp2, by omega, by omega, hf2.at_, by rw [List.length_map]; omega, by rw [List.length_map]; omega, StrsAt.ne hp2 hf2, fun i v yb H3 hi l1 l2 f3 hp3 => ?_⟩
          rw [List.getElem?_map] at hi
          obtain ⟨x, hx, rfl⟩ := Option.map_eq_some_iff.mp hi
          refine ⟨by show 2 ≤ sizeLine; exact sz_of (by decide), fun t nt => ?_⟩
          have e5 : Ex H3 (L2.upd H3 t (.tup [.str "fact", .str x])) := fr_new nt
          exact q _ yb _ ((((fa1.trans (Fr.ex e1)).trans (Fr.ex e2)).trans f3).trans (Fr.ex e5)) (hp3.ex e5) (by omega) (by omega) ⟨_, TmD.fact (hfs x (List.mem_of_getElem? hx)), dt_tup upd_same (dts_cons dt_str (dts_cons dt_str dts_nil))⟩
        · have hp2 := hp1.ex e2
          refine ⟨.ref p, rfl, by show 6 ≤ sizeLine; exact sz_of (by decide), fun l nl => ?_⟩
          have e3 : Ex H2 (L2.upd H2 l (.lst (NUMS.map V.int))) := fr_new nl
          refine ⟨p, l, NUMS.map V.int, ya, rfl, hp2.ex e3, by omega, by omega, upd_same, by decide, by decide, hp2.ne nl, fun i v yb H3 hi l1 l2 f3 hp3 => ?_⟩
          rw [List.getElem?_map] at hi
          obtain ⟨x, hx, rfl⟩ := Option.map_eq_some_iff.mp hi
          refine ⟨by show 2 ≤ sizeLine; exact sz_of (by decide), fun t nt => ?_⟩
          have e5 : Ex H3 (L2.upd H3 t (.tup [.str "num", .int x])) := fr_new nt
          exact q _ yb _ ((((fa1.trans (Fr.ex e1)).trans (Fr.ex e2)).trans (Fr.ex e3)).trans (f3.trans (Fr.ex e5))) (hp3.ex e5) (by omega) (by omega) ⟨_, TmD.num (List.mem_of_getElem? hx), dt_tup upd_same (dts_cons dt_str (dts_cons dt_int dts_nil))⟩
end
end Prs
set_option Elab.async false
set_option linter.all false
set_option maxRecDepth 100000
set_option maxHeartbeats 4000000
namespace Prs
open PySem PySem.Spec PyProof.Rows L2 Evl
abbrev lGuard : Stmt := top 67
abbrev lNames : Stmt := top 71
/-! ### _law_names -/
def namesTxt : Str := match defBody lNames with
  | [.Return (some (.Call (.Attribute (.Constant (.str s) _ _) _ _) _ _ _)) _] => s
  | _ => ""
def NAMES : List Str := Txt.split namesTxt " "
def nameOk (x : Str) : Bool := goodW x && (namLike x && (decide (kindOf x = "a name") && PyData.strOk x))
theorem names_ok : (NAMES.all nameOk) = true := by decide +kernel
theorem names_len : NAMES.length = 24 := by decide +kernel
/-! ### _law_guard -/
inductive GuD : Nat → PyData → Prop
  | yes {n : Nat} : GuD (n + 1) (.tuple [.str "yes"])
  | inn {n : Nat} {x : Str} : x ∈ NAMES → GuD (n + 1) (.tuple [.str "in", .str x])
  | cmp {n : Nat} {w : Str} {a c : PyData} : w = "below" ∨ w = "same" → TmD 2 a → TmD 2 c → GuD (n + 1) (.tuple [.str w, a, c])
  | neg {n : Nat} {a : PyData} : GuD n a → GuD (n + 1) (.tuple [.str "not", a])
  | two {n : Nat} {w : Str} {a c : PyData} : w = "both" ∨ w = "either" → GuD n a → GuD n c → GuD (n + 1) (.tuple [.str w, a, c])
def gb : Nat → Int
  | 0 => 0
  | n + 1 => 2 * gb n + 20
theorem gb_nn : ∀ n, 0 ≤ gb n
  | 0 => by unfold gb; omega
  | n + 1 => by
    have := gb_nn n
    unfold gb
    omega
section
variable {P : Program} {w : World} {K : PySem.W.Frag} {mg : Str → Option Value} {base : Heap}
def spGuard (n : Nat) : Sp := fun vs H Q _ => ∃ (p fa na : Addr) (deep y : Int) (fs ns : List Str), vs = [.ref p, .int deep, .ref fa, .ref na] ∧ 0 ≤ deep ∧ deep < n ∧ PurseAt H p y ∧ 0 ≤ y ∧ y + gb n < 34359738368 ∧ StrsAt H fa fs ∧ (∀ x ∈ fs, x ∈ FACTS) ∧ fs.length ≤ 3 ∧ StrsAt H na ns ∧ (∀ x ∈ ns, x ∈ NAMES) ∧ 1 ≤ ns.length ∧ ns.length ≤ 900 ∧ Drawn p y (gb n) H (fun H' v => ∃ t, GuD n t ∧ DT H' t v) Q
theorem scGuardL : FnScope ["_law_purse_here", "_law_deep", "_law_facts", "_law_names_here", "_law_way", "_law_one"] ["_law_purse_here", "_law_deep", "_law_facts", "_law_names_here"] (defScope lGuard) := ⟨rfl, rfl, rfl, by decide +kernel, rfl, by decide +kernel, by decide +kernel⟩
set_option maxHeartbeats 0 in
theorem ok_guardL (G : Gn K mg) (D : Df K mg "_law_guard" lGuard ["_law_purse_here", "_law_deep", "_law_facts", "_law_names_here"]) (DT' : Df K mg "_law_term" lTerm ["_law_purse_here", "_law_deep", "_law_facts"]) (DK : Df K mg "_law_take" lTake ["_law_purse_here", "_law_far"]) (DPk : Df K mg "_law_pick" lPick ["_law_purse_here", "_law_some"]) (DM : Df K mg "_law_mixed" lMixed ["_law_cell", "_law_k"]) :
    ∀ n, FnOk P w K mg base CX0 (5 + n) D.f D.fd ["_law_purse_here", "_law_deep", "_law_facts", "_law_names_here"] (spGuard n)
  | 0 => by
    refine ⟨fun vs H Q E h => ?_, fun A outer s H args us vs Q E _ _ _ _ h => ?_⟩
    · obtain ⟨p, fa, na, deep, y, fs, ns, rfl, _⟩ := h
      rfl
    · obtain ⟨p, fa, na, deep, y, fs, ns, rfl, h0, h1, _⟩ := h
      exact absurd h1 (by omega)
  | n + 1 => by
    have GS := ok_guardL G D DT' DK DPk DM n
    have GTm : FnOk P w K mg base CX0 5 DT'.f DT'.fd ["_law_purse_here", "_law_deep", "_law_facts"] (spTerm 2) := ok_termL G DT' DK DPk DM 2
    have GT : FnOk P w K mg base CX0 2 DK.f DK.fd ["_law_purse_here", "_law_far"] spLTake := ok_ltake DK.F DM
    have GPk : FnOk P w K mg base CX0 3 DPk.f DPk.fd ["_law_purse_here", "_law_some"] (spPick K) := ok_pick DPk.F G DK DM
    refine D.F.ok scGuardL (fun vs H Q E h => ?_) (fun cdv A outer s H vs Q E hr h => ?_)
    · obtain ⟨p, fa, na, deep, y, fs, ns, rfl, _⟩ := h
      rfl
    · obtain ⟨p, fa, na, deep, y, fs, ns, rfl, h0, h1, hp, y0, y1, hf, hfs, hfl, hn, hns, hn1, hn9, q⟩ := h
      have hr2 : Room 2 _ := hr.mono (show 2 ≤ 5 + n by omega)
      have hr3 : Room 3 _ := hr.mono (show 3 ≤ 5 + n by omega)
      have hr5 : Room 5 _ := hr.mono (show 5 ≤ 5 + n by omega)
      have tn := gb_nn n
      have te : gb (n + 1) = 2 * gb n + 20 := rfl
      have t2 : tb 2 = 6 := rfl
      refine ⟨_, pss_cons (ps_set (i := 4) scGuardL.nd rfl (.inl rfl) (pe_call GT hr2 rfl DK.m DK.F.kp DK.b .nil pass0 (pa_cons (pv 0) (pa_cons pe_int pa_nil))))
        (pss_cons (ps_if (PW.pt (pw_and (pt_cmpR op_gt (pv 1) pe_int (nomark _)) (pw_and1 (pt_cmpR op_lt (pv 4) pe_int (nomark _)))))
          (pss_cons (ps_set (i := 5) scGuardL.nd rfl (.inl rfl) (pe_call GS hr rfl D.m D.F.kp D.b .nil pass0 (pa_cons (pv 0) (pa_cons (pe_op op_sub (pv 1) pe_int) (pa_cons (pv 2) (pa_cons (pv 3) pa_nil))))))
          (pss_one (ps_ret (pe_tup (pa_cons (pe_ix ix_list (pe_lst (pa_cons pe_str (pa_cons pe_str pa_nil))) (pv 4) (fun _ _ => rfl)) (pa_cons (pv 5) (pa_cons (pe_call GS hr rfl D.m D.F.kp D.b .nil pass0 (pa_cons (pv 0) (pa_cons (pe_op op_sub (pv 1) pe_int) (pa_cons (pv 2) (pa_cons (pv 3) pa_nil))))) pa_nil))))))) pss_nil)
        (pss_cons (ps_if (PW.pt (pw_and (pt_cmpR op_gt (pv 1) pe_int (nomark _)) (pw_and1 (pt_cmpR op_eq (pv 4) pe_int (nomark _)))))
          (pss_one (ps_ret (pe_tup (pa_cons pe_str (pa_cons (pe_call GS hr rfl D.m D.F.kp D.b .nil pass0 (pa_cons (pv 0) (pa_cons (pe_op op_sub (pv 1) pe_int) (pa_cons (pv 2) (pa_cons (pv 3) pa_nil))))) pa_nil))))) pss_nil)
        (pss_cons (ps_if (pt_cmpR op_eq (pv 4) pe_int (nomark _)) (pss_one (ps_ret (pe_tup (pa_cons pe_str pa_nil)))) pss_nil)
        (pss_cons (ps_if (pt_cmpR op_eq (pv 4) pe_int (nomark _)) (pss_one (ps_ret (pe_tup (pa_cons pe_str (pa_cons (pe_call GPk hr3 rfl DPk.m DPk.F.kp DPk.b .nil pass0 (pa_cons (pv 0) (pa_cons (pv 3) pa_nil))) pa_nil))))) pss_nil)
        (pss_cons (ps_set (i := 5) scGuardL.nd rfl (.inl rfl) (pe_call GTm hr5 rfl DT'.m DT'.F.kp DT'.b .nil pass0 (pa_cons (pv 0) (pa_cons pe_int (pa_cons (pv 2) pa_nil)))))
        (pss_one (ps_ret (pe_tup (pa_cons (pe_ix ix_list (pe_lst (pa_cons pe_str (pa_cons pe_str pa_nil))) (pe_op op_mod (pv 4) pe_int) (fun _ _ => rfl)) (pa_cons (pv 5) (pa_cons (pe_call GTm hr5 rfl DT'.m DT'.F.kp DT'.b .nil pass0 (pa_cons (pv 0) (pa_cons pe_int (pa_cons (pv 2) pa_nil)))) pa_nil))))))))))), ?_⟩
      refine ⟨.ref p, rfl, p, 7, y, rfl, by decide, by decide, hp, y0, by omega, fun way ya Ha w0 w1 a1 a2 fa1 hpa => ?_⟩
      have hfa := hf.fr hp fa1
      have hna := hn.fr hp fa1
      refine q_when (b := decide (deep > 0) && decide (way < 2)) (et_and (et_test (ev_op (ev_var rfl) ev_c rv_I0)) fun _ => et_test (ev_op (ev_var rfl) ev_c rv_I0)) (fun hb H1 e1 => ?_) (fun hb1 H1 e1 => ?_)
      · rw [Bool.and_eq_true] at hb
        have b1 := of_decide_eq_true hb.1
        have b2 := of_decide_eq_true hb.2
        have hf1 : StrsAt H1 fa fs := ⟨e1 _ _ hfa.at_⟩
        have hn1' : StrsAt H1 na ns := ⟨e1 _ _ hna.at_⟩
        refine ⟨.ref p, rfl, .int deep, rfl, deep, 1, rfl, rfl, .ref fa, rfl, .ref na, rfl, p, fa, na, deep - 1, ya, fs, ns, rfl, by omega, by omega, hpa.ex e1, by omega, by omega, hf1, hfs, hfl, hn1', hns, hn1, hn9, fun v1 yb H2 f2 hp2 l1 l2 r1 => ?_⟩
        obtain ⟨t1, k1, d1⟩ := r1
        have hf2 := hf1.fr (hpa.ex e1) f2
        have hn2 := hn1'.fr (hpa.ex e1) f2
        obtain ⟨wd, hwd, hws⟩ : ∃ wd : Str, atI [V.str "both", V.str "either"] way = some (.str wd) ∧ (wd = "both" ∨ wd = "either") := by
          rcases (by omega : way = 0 ∨ way = 1) with rfl | rfl
          · exact ⟨_, rfl, .inl rfl⟩
          · exact ⟨_, rfl, .inr rfl⟩
        refine ⟨by show 2 ≤ sizeLine; exact sz_of (by decide), fun l nl => ⟨.int way, rfl, l, _, way, .str wd, rfl, rfl, sq_of upd_same, hwd, v1, rfl, ?_⟩⟩
        have e3 : Ex H2 (L2.upd H2 l (.lst [.str "both", .str "either"])) := fr_new nl
        refine ⟨.ref p, rfl, .int deep, rfl, deep, 1, rfl, rfl, .ref fa, rfl, .ref na, rfl, p, fa, na, deep - 1, yb, fs, ns, rfl, by omega, by omega, hp2.ex e3, by omega, by omega, ⟨e3 _ _ hf2.at_⟩, hfs, hfl, ⟨e3 _ _ hn2.at_⟩, hns, hn1, hn9, fun v2 yc H4 f4 hp4 l3 l4 r2 => ?_⟩
        obtain ⟨t2, k2, d2⟩ := r2
        refine ⟨by show 3 ≤ sizeLine; exact sz_of (by decide), fun t nt => ?_⟩
        have e5 : Ex H4 (L2.upd H4 t (.tup [.str wd, v1, v2])) := fr_new nt
        refine q _ yc _ ((((fa1.trans (Fr.ex e1)).trans f2).trans (Fr.ex e3)).trans (f4.trans (Fr.ex e5))) (hp4.ex e5) (by omega) (by omega) ⟨_, GuD.two hws k1 k2, dt_tup upd_same (dts_cons dt_str (dts_cons ?_ (dts_cons ?_ dts_nil)))⟩
        · exact DT.tf (TF.ex e5) _ _ (DT.tf (PurseAt.tf (hp2.ex e3) f4) _ _ (DT.tf (TF.ex e3) _ _ d1))
        · exact DT.tf (TF.ex e5) _ _ d2
      have hp1 := hpa.ex e1
      have hf1 : StrsAt H1 fa fs := ⟨e1 _ _ hfa.at_⟩
      have hn1' : StrsAt H1 na ns := ⟨e1 _ _ hna.at_⟩
      refine q_when (b := decide (deep > 0) && decide (V.int way = V.int 2)) (et_and (et_test (ev_op (ev_var rfl) ev_c rv_I0)) fun _ => et_test (ev_op (ev_var rfl) ev_c (rv_eq rfl))) (fun hb H2 e2 => ?_) (fun hb2 H2 e2 => ?_)
      · rw [Bool.and_eq_true] at hb
        have b1 := of_decide_eq_true hb.1
        refine ⟨.ref p, rfl, .int deep, rfl, deep, 1, rfl, rfl, .ref fa, rfl, .ref na, rfl, p, fa, na, deep - 1, ya, fs, ns, rfl, by omega, by omega, hp1.ex e2, by omega, by omega, ⟨e2 _ _ hf1.at_⟩, hfs, hfl, ⟨e2 _ _ hn1'.at_⟩, hns, hn1, hn9, fun v1 yb H3 f3 hp3 l1 l2 r1 => ?_⟩
        obtain ⟨t1, k1, d1⟩ := r1
        refine ⟨by show 2 ≤ sizeLine; exact sz_of (by decide), fun t nt => ?_⟩
        have e5 : Ex H3 (L2.upd H3 t (.tup [.str "not", v1])) := fr_new nt
        exact q _ yb _ ((((fa1.trans (Fr.ex e1)).trans (Fr.ex e2)).trans f3).trans (Fr.ex e5)) (hp3.ex e5) (by omega) (by omega) ⟨_, GuD.neg k1, dt_tup upd_same (dts_cons dt_str (dts_cons (DT.tf (TF.ex e5) _ _ d1) dts_nil))⟩
      have hp2 := hp1.ex e2
      have hf2 : StrsAt H2 fa fs := ⟨e2 _ _ hf1.at_⟩
      have hn2 : StrsAt H2 na ns := ⟨e2 _ _ hn1'.at_⟩
      have f02 : Fr p H H2 := (fa1.trans (Fr.ex e1)).trans (Fr.ex e2)
      refine q_when (b := decide (V.int way = V.int 3)) (et_test (ev_op (ev_var rfl) ev_c (rv_eq rfl))) (fun hb H3 e3 => ?_) (fun hb3 H3 e3 => ?_)
      · refine ⟨by show 1 ≤ sizeLine; exact sz_of (by decide), fun t nt => ?_⟩
        have e5 : Ex H3 (L2.upd H3 t (.tup [.str "yes"])) := fr_new nt
        exact q _ ya _ ((f02.trans (Fr.ex e3)).trans (Fr.ex e5)) ((hp2.ex e3).ex e5) (by omega) (by omega) ⟨_, GuD.yes, dt_tup upd_same (dts_cons dt_str dts_nil)⟩
      have hp3 := hp2.ex e3
      have hf3 : StrsAt H3 fa fs := ⟨e3 _ _ hf2.at_⟩
      have hn3 : StrsAt H3 na ns := ⟨e3 _ _ hn2.at_⟩
      have f03 : Fr p H H3 := f02.trans (Fr.ex e3)
      refine q_when (b := decide (V.int way = V.int 4)) (et_test (ev_op (ev_var rfl) ev_c (rv_eq rfl))) (fun hb H4 e4 => ?_) (fun hb4 H4 e4 => ?_)
      · have hp4 := hp3.ex e4
        have hn4 : StrsAt H4 na ns := ⟨e4 _ _ hn3.at_⟩
        refine ⟨.ref p, rfl, .ref na, rfl, p, na, ns.map V.str, ya, rfl, hp4, by omega, by omega, hn4.at_, by rw [List.length_map]; omega, by rw [List.length_map]; omega, StrsAt.ne hp4 hn4, fun i v yb H5 hi l1 l2 f5 hp5 => ?_⟩
        rw [List.getElem?_map] at hi
        obtain ⟨x, hx, rfl⟩ := Option.map_eq_some_iff.mp hi
        refine ⟨by show 2 ≤ sizeLine; exact sz_of (by decide), fun t nt => ?_⟩
        have e6 : Ex H5 (L2.upd H5 t (.tup [.str "in", .str x])) := fr_new nt
        exact q _ yb _ (((f03.trans (Fr.ex e4)).trans f5).trans (Fr.ex e6)) (hp5.ex e6) (by omega) (by omega) ⟨_, GuD.inn (hns x (List.mem_of_getElem? hx)), dt_tup upd_same (dts_cons dt_str (dts_cons dt_str dts_nil))⟩
      have hp4 := hp3.ex e4
      have hf4 : StrsAt H4 fa fs := ⟨e4 _ _ hf3.at_⟩
      have f04 : Fr p H H4 := f03.trans (Fr.ex e4)
      refine ⟨.ref p, rfl, .ref fa, rfl, p, fa, 1, ya, fs, rfl, by decide, by decide, hp4, by omega, by omega, hf4, hfs, hfl, fun v1 yb H5 f5 hp5 l1 l2 r1 => ?_⟩
      obtain ⟨t1, k1, d1⟩ := r1
      have hf5 := hf4.fr hp4 f5
      obtain ⟨wd, hwd, hws⟩ : ∃ wd : Str, atI [V.str "below", V.str "same"] (way % 2) = some (.str wd) ∧ (wd = "below" ∨ wd = "same") := by
        rcases (by omega : way % 2 = 0 ∨ way % 2 = 1) with e | e <;> rw [e]
        · exact ⟨_, rfl, .inl rfl⟩
        · exact ⟨_, rfl, .inr rfl⟩
      refine ⟨by show 2 ≤ sizeLine; exact sz_of (by decide), fun l nl => ⟨.int way, rfl, way, 2, rfl, rfl, by show (0 : Int) < 2; decide, l, _, way % 2, .str wd, rfl, rfl, sq_of upd_same, hwd, v1, rfl, ?_⟩⟩
      have e6 : Ex H5 (L2.upd H5 l (.lst [.str "below", .str "same"])) := fr_new nl
      refine ⟨.ref p, rfl, .ref fa, rfl, p, fa, 1, yb, fs, rfl, by decide, by decide, hp5.ex e6, by omega, by omega, ⟨e6 _ _ hf5.at_⟩, hfs, hfl, fun v2 yc H7 f7 hp7 l3 l4 r2 => ?_⟩
      obtain ⟨t2, k2, d2⟩ := r2
      refine ⟨by show 3 ≤ sizeLine; exact sz_of (by decide), fun t nt => ?_⟩
      have e8 : Ex H7 (L2.upd H7 t (.tup [.str wd, v1, v2])) := fr_new nt
      refine q _ yc _ (((f04.trans f5).trans (Fr.ex e6)).trans (f7.trans (Fr.ex e8))) (hp7.ex e8) (by omega) (by omega) ⟨_, GuD.cmp hws k1 k2, dt_tup upd_same (dts_cons dt_str (dts_cons ?_ (dts_cons ?_ dts_nil)))⟩
      · exact DT.tf (TF.ex e8) _ _ (DT.tf (PurseAt.tf (hp5.ex e6) f7) _ _ (DT.tf (TF.ex e6) _ _ d1))
      · exact DT.tf (TF.ex e8) _ _ d2
end
end Prs
set_option Elab.async false
set_option linter.all false
set_option maxRecDepth 100000
set_option maxHeartbeats 4000000
namespace Prs
open PySem PySem.Spec PyProof.Rows L2 Evl
abbrev lDeeds : Stmt := top 68
def ONS : List Str := ["tap", "ring", "e5"]
def SAYS : List Str := ["hi", "x1", "go2"]
theorem ons_ok {fs : List Str} (h : ∀ x ∈ fs, x ∈ ONS) : okStrs fs = true := List.all_eq_true.mpr fun x hx => by
  have := h x hx
  simp only [ONS, List.mem_cons, List.not_mem_nil, or_false] at this
  rcases this with rfl | rfl | rfl <;> decide +kernel
/-- the law's state: facts, happenings, goals, stands that are no markers -/
structure StAt (H : Hp) (sa fa oa ga na : Addr) (fs os gs ns : List Str) : Prop where
  d : ∃ kvs, H sa = some (.dK kvs) ∧ valV kvs (Sum.inr "facts") = some (.ref fa) ∧ valV kvs (Sum.inr "on") = some (.ref oa) ∧ valV kvs (Sum.inr "goals") = some (.ref ga) ∧ valV kvs (Sum.inr "plain") = some (.ref na)
  f : StrsAt H fa fs
  o : StrsAt H oa os
  g : StrsAt H ga gs
  n : StrsAt H na ns
  fI : ∀ x ∈ fs, x ∈ FACTS
  fL : fs.length ≤ 3
  oI : ∀ x ∈ os, x ∈ ONS
  oL : os.length ≤ 3
  gI : ∀ x ∈ gs, x ∈ NAMES
  g1 : 1 ≤ gs.length
  gL : gs.length ≤ 900
  nI : ∀ x ∈ ns, x ∈ NAMES
  n1 : 1 ≤ ns.length
  nL : ns.length ≤ 900
theorem StAt.fr {p : Addr} {y : Int} {H H' : Hp} {sa fa oa ga na : Addr} {fs os gs ns : List Str} (hp : PurseAt H p y) (s : StAt H sa fa oa ga na fs os gs ns) (f : Fr p H H') : StAt H' sa fa oa ga na fs os gs ns := by
  obtain ⟨kvs, h, r⟩ := s.d
  refine ⟨⟨kvs, f _ _ (fun z => ?_) h, r⟩, s.f.fr hp f, s.o.fr hp f, s.g.fr hp f, s.n.fr hp f, s.fI, s.fL, s.oI, s.oL, s.gI, s.g1, s.gL, s.nI, s.n1, s.nL⟩
  obtain ⟨x, w, hp'⟩ := hp
  rw [z, hp'] at h
  cases h
theorem StAt.ex {H H' : Hp} {sa fa oa ga na : Addr} {fs os gs ns : List Str} (s : StAt H sa fa oa ga na fs os gs ns) (e : Ex H H') : StAt H' sa fa oa ga na fs os gs ns := by
  obtain ⟨kvs, h, r⟩ := s.d
  exact ⟨⟨kvs, e _ _ h, r⟩, ⟨e _ _ s.f.at_⟩, ⟨e _ _ s.o.at_⟩, ⟨e _ _ s.g.at_⟩, ⟨e _ _ s.n.at_⟩, s.fI, s.fL, s.oI, s.oL, s.gI, s.g1, s.gL, s.nI, s.n1, s.nL⟩
theorem ev_dg {σ : L2.St} {H : Hp} {k : Nat} {sa : Addr} {key : Str} {v : V} {kvs : List (L2.Key × V)} (h0 : σ[k]? = some (some (.ref sa))) (h : H sa = some (.dK kvs)) (hv : valV kvs (Sum.inr key) = some v) : Ev (tDGet (tVar k) (tC (.str key))) σ H v := fun H1 e Q q => by
  have := DGet.k (k := Sum.inr key) (e _ _ h)
  rw [hv] at this
  exact ⟨.ref sa, h0, sa, v, rfl, this, q H1 (Ex.refl H1)⟩
theorem ev_ne_nil' {K : PySem.W.Frag} {σ : L2.St} {H : Hp} {te : TE} {a : Addr} {xs : List Str} (h0 : Ev te σ H (.ref a)) (h : StrsAt H a xs) (ok : okStrs xs = true) : Ev (tOp (rNeD K) te (tLst tNil)) σ H (.bl (!xs.isEmpty)) := fun H1 e Q q => h0 H1 e _ fun H2 e2 => by
  refine ⟨by show 0 ≤ sizeLine; decide, fun l nl => ?_⟩
  have e3 : Ex H2 (L2.upd H2 l (.lst [])) := fr_new nl
  refine ⟨_, .list [], .lst (sq_of (e3 _ _ (e2 _ _ (e _ _ h.at_)))) dp_strs, .lst (sq_of upd_same) .nil, shp_strs ok, by decide, ?_⟩
  have : PyData.eqv (.list (xs.map PyData.str)) (.list []) = xs.isEmpty := by
    cases xs <;> simp [PyData.eqv, PyData.eqvAll]
  rw [this]
  exact q _ (e2.trans e3)
/-! ### _law_deeds -/
inductive DeD : PyData → Prop
  | set {x : Str} {t : PyData} : x ∈ FACTS → TmD 3 t → DeD (.tuple [.str "set", .str x, t])
  | call {x : Str} : x ∈ ONS → DeD (.tuple [.str "raise", .str x])
  | say {x : Str} {t : PyData} : x ∈ SAYS → TmD 3 t → DeD (.tuple [.str "say", .str x, t])
def DesD (d : PyData) : Prop := ∃ ds, d = .tuple ds ∧ ds.length ≤ 2 ∧ ∀ x ∈ ds, DeD x
abbrev rTupOf (K : PySem.W.Frag) : List V → Hp → VK → Prop := fun xs H Q => ∃ p ys, xs = [.ref p] ∧ ((SqL K H p ys ∧ ∀ l, H l = none → Q (.ref l) (L2.upd H l (.tup ys))) ∨ (SqT K H p ys ∧ Q (.ref p) H))
section
variable {P : Program} {w : World} {K : PySem.W.Frag} {mg : Str → Option Value} {base : Heap}
def spDeedsL : Sp := fun vs H Q _ => ∃ (p sa fa oa ga na : Addr) (y : Int) (fs os gs ns : List Str), vs = [.ref p, .ref sa] ∧ PurseAt H p y ∧ 0 ≤ y ∧ y < 34359738000 ∧ StAt H sa fa oa ga na fs os gs ns ∧ Drawn p y 40 H (fun H' v => ∃ d, DesD d ∧ DT H' d v) Q
theorem scDeedsL : FnScope ["_law_purse_here", "_law_state", "_law_found", "_law_k", "_law_way"] ["_law_purse_here", "_law_state"] (defScope lDeeds) := ⟨rfl, rfl, rfl, by decide +kernel, rfl, by decide +kernel, by decide +kernel⟩
theorem DTs.snoc {H : Hp} {d : PyData} {v : V} (h : DT H d v) : ∀ {ds : List PyData} {vs : List V}, DTs H ds vs → DTs H (ds ++ [d]) (vs ++ [v])
  | [], vs, hs => by
    unfold DTs at hs
    subst hs
    exact dts_cons h dts_nil
  | x :: ds, vs, hs => by
    unfold DTs at hs
    obtain ⟨u, r, rfl, h1, h2⟩ := hs
    exact dts_cons h1 (DTs.snoc h h2)
/-- the deeds made so far -/
structure Made (H0 : Hp) (p lf : Addr) (y : Int) (i : Nat) (H' : Hp) (R : PyData → Prop) : Prop where
  fr : Fr p H0 H'
  pu : ∃ y', PurseAt H' p y' ∧ y ≤ y' ∧ y' ≤ y + 1 + 16 * (i : Int)
  ls : ∃ ds vs, H' lf = some (.lst vs) ∧ DTs H' ds vs ∧ ds.length = i ∧ ∀ x ∈ ds, R x
set_option maxHeartbeats 0 in
theorem ok_deedsL (G : Gn K mg) (gr : mg "range" = none) (gt : mg "tuple" = none) {f : Addr} {fd : FuncData} (F : Fun K "_law_deeds" "_law_deeds" lDeeds f fd) (DT' : Df K mg "_law_term" lTerm ["_law_purse_here", "_law_deep", "_law_facts"]) (DK : Df K mg "_law_take" lTake ["_law_purse_here", "_law_far"]) (DPk : Df K mg "_law_pick" lPick ["_law_purse_here", "_law_some"]) (DM : Df K mg "_law_mixed" lMixed ["_law_cell", "_law_k"]) :
    FnOk P w K mg base CX0 7 f fd ["_law_purse_here", "_law_state"] spDeedsL := by
  have GTm : FnOk P w K mg base CX0 6 DT'.f DT'.fd ["_law_purse_here", "_law_deep", "_law_facts"] (spTerm 3) := ok_termL G DT' DK DPk DM 3
  have GT : FnOk P w K mg base CX0 2 DK.f DK.fd ["_law_purse_here", "_law_far"] spLTake := ok_ltake DK.F DM
  have GPk : FnOk P w K mg base CX0 3 DPk.f DPk.fd ["_law_purse_here", "_law_some"] (spPick K) := ok_pick DPk.F G DK DM
  refine F.ok scDeedsL (fun vs H Q E h => ?_) (fun cdv A outer s H vs Q E hr h => ?_)
  · obtain ⟨p, sa, fa, oa, ga, na, y, fs, os, gs, ns, rfl, _⟩ := h
    rfl
  · obtain ⟨p, sa, fa, oa, ga, na, y, fs, os, gs, ns, rfl, hp, y0, y1, hs, q⟩ := h
    have hr2 : Room 2 _ := hr.mono (by decide)
    have hr3 : Room 3 _ := hr.mono (by decide)
    have t3 : tb 3 = 14 := rfl
    refine ⟨_, pss_cons (ps_set (i := 2) scDeedsL.nd rfl (.inl rfl) (pe_lst pa_nil))
      (pss_cons (ps_for PassesOwn.never rfl (pi_range1 rfl gr (pa_cons (pe_ix ix_list (pe_lst (pa_cons pe_int (pa_cons pe_int (pa_cons pe_int (pa_cons pe_int pa_nil))))) (pe_call GT hr2 rfl DK.m DK.F.kp DK.b .nil pass0 (pa_cons (pv 0) (pa_cons pe_int pa_nil))) (fun _ _ => rfl)) pa_nil)) (pg_name (i := 3) scDeedsL.nd rfl (.inl rfl))
        (pss_cons (ps_set (i := 4) scDeedsL.nd rfl (.inl rfl) (pe_call GT hr2 rfl DK.m DK.F.kp DK.b .nil pass0 (pa_cons (pv 0) (pa_cons pe_int pa_nil))))
        (pss_one (ps_if (PW.pt (pw_and (pt_cmpR op_eq (pv 4) pe_int (nomark _)) (pw_and1 (pt_cmpR (op_neD hr.units) (pe_dget (hu_of hr) (pv 1) pe_str (fun _ _ => rfl)) (pe_lst pa_nil) (nomark _)))))
          (pss_one (ps_expr (pe_bm PySem.F.plainAttrs_list PySem.F.slot_list_append PySem.F.type_list_append mt_append (pv 2) (pa_cons (pe_tup (pa_cons pe_str (pa_cons (pe_call GPk hr3 rfl DPk.m DPk.F.kp DPk.b .nil pass0 (pa_cons (pv 0) (pa_cons (pe_dget (hu_of hr) (pv 1) pe_str (fun _ _ => rfl)) pa_nil))) (pa_cons (pe_call GTm hr rfl DT'.m DT'.F.kp DT'.b .nil pass0 (pa_cons (pv 0) (pa_cons pe_int (pa_cons (pe_dget (hu_of hr) (pv 1) pe_str (fun _ _ => rfl)) pa_nil)))) pa_nil)))) pa_nil))))
          (pss_one (ps_if (PW.pt (pw_and (pt_cmpR op_eq (pv 4) pe_int (nomark _)) (pw_and1 (pt_cmpR (op_neD hr.units) (pe_dget (hu_of hr) (pv 1) pe_str (fun _ _ => rfl)) (pe_lst pa_nil) (nomark _)))))
            (pss_one (ps_expr (pe_bm PySem.F.plainAttrs_list PySem.F.slot_list_append PySem.F.type_list_append mt_append (pv 2) (pa_cons (pe_tup (pa_cons pe_str (pa_cons (pe_call GPk hr3 rfl DPk.m DPk.F.kp DPk.b .nil pass0 (pa_cons (pv 0) (pa_cons (pe_dget (hu_of hr) (pv 1) pe_str (fun _ _ => rfl)) pa_nil))) pa_nil))) pa_nil))))
            (pss_one (ps_expr (pe_bm PySem.F.plainAttrs_list PySem.F.slot_list_append PySem.F.type_list_append mt_append (pv 2) (pa_cons (pe_tup (pa_cons pe_str (pa_cons (pe_call GPk hr3 rfl DPk.m DPk.F.kp DPk.b .nil pass0 (pa_cons (pv 0) (pa_cons (pe_lst (pa_cons pe_str (pa_cons pe_str (pa_cons pe_str pa_nil)))) pa_nil))) (pa_cons (pe_call GTm hr rfl DT'.m DT'.F.kp DT'.b .nil pass0 (pa_cons (pv 0) (pa_cons pe_int (pa_cons (pe_dget (hu_of hr) (pv 1) pe_str (fun _ _ => rfl)) pa_nil)))) pa_nil)))) pa_nil))))))))))
      (pss_one (ps_ret (pe_callTy call_tuple_of rfl gt rfl (pa_cons (pv 2) pa_nil))))), ?_⟩
    refine ⟨by show 0 ≤ sizeLine; decide, fun lf nlf => ?_⟩
    have e1 : Ex H (L2.upd H lf (.lst [])) := fr_new nlf
    refine ⟨by show 4 ≤ sizeLine; exact sz_of (by decide), fun l nl => ?_⟩
    have e2 : Ex (L2.upd H lf (.lst [])) (L2.upd (L2.upd H lf (.lst [])) l (.lst [.int 0, .int 0, .int 1, .int 2])) := fr_new nl
    have hp2 := hp.ex (e1.trans e2)
    refine ⟨.ref p, rfl, p, 4, y, rfl, by decide, by decide, hp2, y0, by omega, fun d ya Ha d0 d1 a1 a2 fa1 hpa => ?_⟩
    have hla : Ha l = some (.lst [.int 0, .int 0, .int 1, .int 2]) := fa1 _ _ ((hp.ex e1).ne nl) upd_same
    obtain ⟨n, hn, hn2⟩ : ∃ n : Nat, atI [V.int 0, V.int 0, V.int 1, V.int 2] d = some (.int (n : Int)) ∧ n ≤ 2 := by
      rcases (by omega : d = 0 ∨ d = 1 ∨ d = 2 ∨ d = 3) with rfl | rfl | rfl | rfl
      · exact ⟨0, rfl, by decide⟩
      · exact ⟨0, rfl, by decide⟩
      · exact ⟨1, rfl, by decide⟩
      · exact ⟨2, rfl, by decide⟩
    have hlfp : lf ≠ p := hp.ne nlf
    have hlf : Ha lf = some (.lst []) := fa1 _ _ hlfp (e2 _ _ upd_same)
    have f0a : Fr p H Ha := (Fr.ex (e1.trans e2)).trans fa1
    refine ⟨l, _, d, .int n, rfl, rfl, sq_of hla, hn, (n : Int), rfl, by omega, by omega, ?_⟩
    refine for_range (lo := 0) (n := n) (fun i σ H' => Made H p lf y i H' DeD ∧ ∃ o3 o4 : Option V, σ = [some (.ref p), some (.ref sa), some (.ref lf), o3, o4]) ?_ ?_ ?_
    · exact ⟨⟨f0a, ⟨ya, hpa, by omega, by omega⟩, [], [], hlf, dts_nil, rfl, fun x hx => by cases hx⟩, none, none, rfl⟩
    · rintro i σ H1 hi ⟨⟨f1, ⟨yb, hpb, b1, b2⟩, ds, vs, hl1, hd1, hlen, hR⟩, o3, o4, rfl⟩
      have hs1 := hs.fr hp f1
      show tSeq _ _ _ [some (.ref p), some (.ref sa), some (.ref lf), some (.int (0 + (i : Int))), o4] H1
      refine ⟨.ref p, rfl, p, 3, yb, rfl, by decide, by decide, hpb, by omega, by omega, fun way yc H2 w0 w1 c1 c2 f2 hpc => ?_⟩
      have hs2 := hs1.fr hpb f2
      have hl2 := f2 _ _ hlfp hl1
      have hd2 := DTs.tf (PurseAt.tf hpb f2) _ _ hd1
      obtain ⟨kvs, hk, g1, g2, g3, g4⟩ := hs2.d
      have fin : ∀ (H9 : Hp) (t : Addr) (dd : PyData) (y9 : Int) (its : List V), Fr p H2 H9 → TF H2 H9 → PurseAt H9 p y9 → yc ≤ y9 → y9 ≤ yc + 15 → H9 t = some (.tup its) → DT H9 dd (.ref t) → DeD dd → H9 lf = some (.lst vs) →
          Made H p lf y (i + 1) (L2.upd H9 lf (.lst (vs ++ [.ref t]))) DeD := by
        intro H9 t dd y9 its f9 t9 hp9 l9 u9 ht hdt hde hlf9
        have tf : TF H9 (L2.upd H9 lf (.lst (vs ++ [.ref t]))) := TF.fr' hlf9
        refine ⟨?_, ⟨y9, ?_, by omega, by omega⟩, ds ++ [dd], vs ++ [.ref t], upd_same, DTs.snoc (DT.tf tf _ _ hdt) (DTs.tf tf _ _ (DTs.tf t9 _ _ hd2)), by rw [List.length_append, hlen]; rfl, fun x hx => ?_⟩
        · intro b o hb ho
          rw [upd_ne (ne_of_none ho nlf)]
          exact f9 b o hb (f2 b o hb (f1 b o hb ho))
        · obtain ⟨x, z, hpp⟩ := hp9
          exact ⟨x, z, by rw [upd_ne (Ne.symm hlfp)]; exact hpp⟩
        · rcases List.mem_append.mp hx with h | h
          · exact hR x h
          · rw [List.mem_singleton.mp h]
            exact hde
      have hvl : vs.length = ds.length := DTs.len hd2
      refine s_if (b := decide (V.int way = V.int 0) && !fs.isEmpty) (et_and (et_test (ev_op (ev_var rfl) ev_c (rv_eq rfl))) fun _ => et_test (ev_ne_nil' (ev_dg rfl hk g1) hs2.f (facts_ok hs2.fI))) (fun hb H3 e3 => ?_) (fun hb H3 e3 => ?_)
      · rw [Bool.and_eq_true] at hb
        have hne : 1 ≤ fs.length := by
          cases fs with
          | nil => cases hb.2
          | cons x xs => simp
        have hp3 := hpc.ex e3
        have hs3 := hs2.ex e3
        have dg3 := DGet.k (k := Sum.inr "facts") (e3 _ _ hk)
        rw [g1] at dg3
        refine ⟨.ref lf, rfl, .inl ⟨rfl, _, sq_of (e3 _ _ hl2)⟩, .ref p, rfl, .ref sa, rfl, sa, .ref fa, rfl, dg3, p, fa, fs.map V.str, yc, rfl, hp3, by omega, by omega, hs3.f.at_, by rw [List.length_map]; omega, by rw [List.length_map]; have := hs3.fL; omega, StrsAt.ne hp3 hs3.f, fun j v yd H4 hj l1 l2 f4 hp4 => ?_⟩
        rw [List.getElem?_map] at hj
        obtain ⟨x, hx, rfl⟩ := Option.map_eq_some_iff.mp hj
        have hs4 := hs3.fr hp3 f4
        obtain ⟨kvs4, hk4, g14, _⟩ := hs4.d
        have dg4 := DGet.k (k := Sum.inr "facts") hk4
        rw [g14] at dg4
        refine ⟨.ref p, rfl, .ref sa, rfl, sa, .ref fa, rfl, dg4, p, fa, 2, yd, fs, rfl, by decide, by decide, hp4, by omega, by omega, hs4.f, hs4.fI, hs4.fL, fun v5 ye H5 f5 hp5 l3 l4 r5 => ?_⟩
        obtain ⟨t5, k5, d5⟩ := r5
        refine ⟨by show 3 ≤ sizeLine; exact sz_of (by decide), fun t nt => ?_⟩
        have e6 : Ex H5 (L2.upd H5 t (.tup [.str "set", .str x, v5])) := fr_new nt
        have hlf6 := e6 _ _ (f5 _ _ hlfp (f4 _ _ hlfp (e3 _ _ hl2)))
        refine ⟨lf, vs, .ref t, rfl, rfl, hlf6, sz_lt (by omega), ⟨fin _ t (.tuple [.str "set", .str x, t5]) ye _ (((Fr.ex e3).trans f4).trans (f5.trans (Fr.ex e6))) (fun b zs hb => e6 _ _ (PurseAt.tf hp4 f5 _ _ (PurseAt.tf hp3 f4 _ _ (e3 _ _ hb)))) (hp5.ex e6) (by omega) (by omega) upd_same (dt_tup upd_same (dts_cons dt_str (dts_cons dt_str (dts_cons (DT.tf (TF.ex e6) _ _ d5) dts_nil)))) (.set (hs.fI x (List.mem_of_getElem? hx)) k5) hlf6, _, _, rfl⟩⟩
      · have hp3 := hpc.ex e3
        have hs3 := hs2.ex e3
        have hk3 := e3 _ _ hk
        refine s_if (b := decide (V.int way = V.int 1) && !os.isEmpty) (et_and (et_test (ev_op (ev_var rfl) ev_c (rv_eq rfl))) fun _ => et_test (ev_ne_nil' (ev_dg rfl hk3 g2) hs3.o (ons_ok hs3.oI))) (fun hb H4 e4 => ?_) (fun hb H4 e4 => ?_)
        · rw [Bool.and_eq_true] at hb
          have hne : 1 ≤ os.length := by
            cases os with
            | nil => cases hb.2
            | cons x xs => simp
          have hp4 := hp3.ex e4
          have hs4 := hs3.ex e4
          have dg4 := DGet.k (k := Sum.inr "on") (e4 _ _ hk3)
          rw [g2] at dg4
          refine ⟨.ref lf, rfl, .inl ⟨rfl, _, sq_of (e4 _ _ (e3 _ _ hl2))⟩, .ref p, rfl, .ref sa, rfl, sa, .ref oa, rfl, dg4, p, oa, os.map V.str, yc, rfl, hp4, by omega, by omega, hs4.o.at_, by rw [List.length_map]; omega, by rw [List.length_map]; have := hs4.oL; omega, StrsAt.ne hp4 hs4.o, fun j v yd H5 hj l1 l2 f5 hp5 => ?_⟩
          rw [List.getElem?_map] at hj
          obtain ⟨x, hx, rfl⟩ := Option.map_eq_some_iff.mp hj
          refine ⟨by show 2 ≤ sizeLine; exact sz_of (by decide), fun t nt => ?_⟩
          have e6 : Ex H5 (L2.upd H5 t (.tup [.str "raise", .str x])) := fr_new nt
          have hlf6 := e6 _ _ (f5 _ _ hlfp (e4 _ _ (e3 _ _ hl2)))
          refine ⟨lf, vs, .ref t, rfl, rfl, hlf6, sz_lt (by omega), ⟨fin _ t (.tuple [.str "raise", .str x]) yd _ (((Fr.ex e3).trans (Fr.ex e4)).trans (f5.trans (Fr.ex e6))) (fun b zs hb => e6 _ _ (PurseAt.tf hp4 f5 _ _ (e4 _ _ (e3 _ _ hb)))) (hp5.ex e6) (by omega) (by omega) upd_same (dt_tup upd_same (dts_cons dt_str (dts_cons dt_str dts_nil))) (.call (hs.oI x (List.mem_of_getElem? hx))) hlf6, _, _, rfl⟩⟩
        · have hp4 := hp3.ex e4
          have hs4 := hs3.ex e4
          refine ⟨.ref lf, rfl, .inl ⟨rfl, _, sq_of (e4 _ _ (e3 _ _ hl2))⟩, .ref p, rfl, by show 3 ≤ sizeLine; exact sz_of (by decide), fun l5 nl5 => ?_⟩
          have e5 : Ex H4 (L2.upd H4 l5 (.lst (SAYS.map V.str))) := fr_new nl5
          refine ⟨p, l5, SAYS.map V.str, yc, rfl, hp4.ex e5, by omega, by omega, upd_same, by decide, by decide, hp4.ne nl5, fun j v yd H6 hj l1 l2 f6 hp6 => ?_⟩
          rw [List.getElem?_map] at hj
          obtain ⟨x, hx, rfl⟩ := Option.map_eq_some_iff.mp hj
          have hs6 := (hs4.ex e5).fr (hp4.ex e5) f6
          obtain ⟨kvs6, hk6, g16, _⟩ := hs6.d
          have dg6 := DGet.k (k := Sum.inr "facts") hk6
          rw [g16] at dg6
          refine ⟨.ref p, rfl, .ref sa, rfl, sa, .ref fa, rfl, dg6, p, fa, 2, yd, fs, rfl, by decide, by decide, hp6, by omega, by omega, hs6.f, hs6.fI, hs6.fL, fun v7 ye H7 f7 hp7 l3 l4 r7 => ?_⟩
          obtain ⟨t7, k7, d7⟩ := r7
          refine ⟨by show 3 ≤ sizeLine; exact sz_of (by decide), fun t nt => ?_⟩
          have e8 : Ex H7 (L2.upd H7 t (.tup [.str "say", .str x, v7])) := fr_new nt
          have hlf8 := e8 _ _ (f7 _ _ hlfp (f6 _ _ hlfp (e5 _ _ (e4 _ _ (e3 _ _ hl2)))))
          refine ⟨lf, vs, .ref t, rfl, rfl, hlf8, sz_lt (by omega), ⟨fin _ t (.tuple [.str "say", .str x, t7]) ye _ ((((Fr.ex e3).trans (Fr.ex e4)).trans (Fr.ex e5)).trans (f6.trans (f7.trans (Fr.ex e8)))) (fun b zs hb => e8 _ _ (PurseAt.tf hp6 f7 _ _ (PurseAt.tf (hp4.ex e5) f6 _ _ (e5 _ _ (e4 _ _ (e3 _ _ hb)))))) (hp7.ex e8) (by omega) (by omega) upd_same (dt_tup upd_same (dts_cons dt_str (dts_cons dt_str (dts_cons (DT.tf (TF.ex e8) _ _ d7) dts_nil)))) (.say (List.mem_of_getElem? hx) k7) hlf8, _, _, rfl⟩⟩
    · rintro σ H1 ⟨⟨f1, ⟨yb, hpb, b1, b2⟩, ds, vs, hl1, hd1, hlen, hR⟩, o3, o4, rfl⟩
      refine ⟨.ref lf, rfl, lf, vs, rfl, .inl ⟨sq_of hl1, fun t nt => ?_⟩⟩
      have e6 : Ex H1 (L2.upd H1 t (.tup vs)) := fr_new nt
      exact q _ yb _ (f1.trans (Fr.ex e6)) (hpb.ex e6) (by omega) (by omega) ⟨_, ⟨ds, rfl, by omega, hR⟩, dt_tup upd_same (DTs.tf (TF.ex e6) _ _ hd1)⟩
end
end Prs
set_option Elab.async false
set_option linter.all false
set_option maxRecDepth 100000
set_option maxHeartbeats 4000000
namespace Prs
open PySem PySem.Spec PyProof.Rows L2 Evl
abbrev lMove : Stmt := top 69
/-! ### a stand as it was drawn: its name, its sort, the stands in it -/
def Bare (B H : Hp) : Nat → Addr → Prop
  | 0, _ => False
  | n + 1, a => ∃ (pa : Addr) (nm so : Str) (xs : List V), B a = none ∧ B pa = none ∧ H a = some (.lst [.str nm, .str so, .ref pa]) ∧ H pa = some (.lst xs) ∧ nm ∈ NAMES ∧ so ∈ SORTSs ∧ xs.length ≤ 4 ∧ (xs ≠ [] → isFull so) ∧ (isFull so → xs ≠ []) ∧ ∀ x ∈ xs, ∃ b, x = .ref b ∧ Bare B H n b
theorem Bare.up {B H : Hp} : ∀ {n : Nat} {a : Addr}, Bare B H n a → Bare B H (n + 1) a
  | 0, _, h => h.elim
  | n + 1, a, h => by
    obtain ⟨pa, nm, so, xs, h1, h2, h3, h4, h5, h6, h7, h8, h9, h10⟩ := h
    exact ⟨pa, nm, so, xs, h1, h2, h3, h4, h5, h6, h7, h8, h9, fun x hx => by
      obtain ⟨b, rfl, hb⟩ := h10 x hx
      exact ⟨b, rfl, hb.up⟩⟩
theorem Bare.to {B H : Hp} {n m : Nat} {a : Addr} (h : Bare B H n a) (hm : n ≤ m) : Bare B H m a := by
  obtain ⟨k, rfl⟩ := Nat.le.dest hm
  induction k with
  | zero => exact h
  | succ k ih => exact (ih (Nat.le_add_right _ _)).up
/-- what is new since B stays -/
theorem Bare.stay {B B2 H H' : Hp} (hb : ∀ b, B b = none → B2 b = none) (f : ∀ b o, B b = none → H b = some o → H' b = some o) : ∀ {n : Nat} {a : Addr}, Bare B H n a → Bare B2 H' n a
  | 0, _, h => h.elim
  | n + 1, a, h => by
    obtain ⟨pa, nm, so, xs, h1, h2, h3, h4, h5, h6, h7, h8, h9, h10⟩ := h
    exact ⟨pa, nm, so, xs, hb _ h1, hb _ h2, f _ _ h1 h3, f _ _ h2 h4, h5, h6, h7, h8, h9, fun x hx => by
      obtain ⟨b, rfl, hb'⟩ := h10 x hx
      exact ⟨b, rfl, hb'.stay hb f⟩⟩
theorem Bare.fr {B H H' : Hp} {p : Addr} {y : Int} (hp : PurseAt H p y) (f : Fr p H H') : ∀ {n : Nat} {a : Addr}, Bare B H n a → Bare B H' n a
  | 0, _, h => h.elim
  | n + 1, a, h => by
    obtain ⟨pa, nm, so, xs, h1, h2, h3, h4, h5, h6, h7, h8, h9, h10⟩ := h
    refine ⟨pa, nm, so, xs, h1, h2, f _ _ (fun z => ?_) h3, f _ _ (fun z => ?_) h4, h5, h6, h7, h8, h9, fun x hx => by
      obtain ⟨b, rfl, hb'⟩ := h10 x hx
      exact ⟨b, rfl, hb'.fr hp f⟩⟩
    · obtain ⟨x, w, hp'⟩ := hp
      rw [z, hp'] at h3
      have := HO.lst.inj (Option.some.inj h3)
      injection this with q _
      cases q
    · obtain ⟨x, w, hp'⟩ := hp
      rw [z, hp'] at h4
      have := HO.lst.inj (Option.some.inj h4)
      subst this
      obtain ⟨b, q, _⟩ := h10 (.int x) (by simp)
      cases q
/-- a stand's name is another one now -/
theorem Bare.ren {B H : Hp} {b pa : Addr} {nm so nm' : Str} (hb : H b = some (.lst [.str nm, .str so, .ref pa])) (hn : nm' ∈ NAMES) : ∀ {n : Nat} {a : Addr}, Bare B H n a → Bare B (L2.upd H b (.lst [.str nm', .str so, .ref pa])) n a
  | 0, _, h => h.elim
  | n + 1, a, h => by
    obtain ⟨pa1, nm1, so1, xs, h1, h2, h3, h4, h5, h6, h7, h8, h9, h10⟩ := h
    have hp : pa1 ≠ b := fun z => by
      rw [z, hb] at h4
      have e := HO.lst.inj (Option.some.inj h4)
      obtain ⟨c, q, _⟩ := h10 (.str nm) (by rw [← e]; simp)
      cases q
    have kids : ∀ x ∈ xs, ∃ c, x = .ref c ∧ Bare B (L2.upd H b (.lst [.str nm', .str so, .ref pa])) n c := fun x hx => by
      obtain ⟨c, rfl, hc⟩ := h10 x hx
      exact ⟨c, rfl, hc.ren hb hn⟩
    by_cases z : a = b
    · subst z
      rw [hb] at h3
      have e := HO.lst.inj (Option.some.inj h3)
      injection e with e1 e
      injection e with e2 e
      injection e with e3 _
      obtain rfl := V.str.inj e2
      obtain rfl := V.ref.inj e3
      exact ⟨pa, nm', so, xs, h1, h2, upd_same, by rw [upd_ne hp]; exact h4, hn, h6, h7, h8, h9, kids⟩
    · exact ⟨pa1, nm1, so1, xs, h1, h2, by rw [upd_ne z]; exact h3, by rw [upd_ne hp]; exact h4, h5, h6, h7, h8, h9, kids⟩
abbrev HN : Hp := fun _ => none
theorem name_str {x : Str} (h : x ∈ NAMES) : PyData.strOk x = true := by
  have := List.all_eq_true.mp names_ok x h
  unfold nameOk at this
  simp only [Bool.and_eq_true] at this
  exact this.2.2.2
theorem sort_str {x : Str} (h : x ∈ SORTSs) : PyData.strOk x = true := by
  simp only [SORTSs, List.mem_cons, List.not_mem_nil, or_false] at h
  rcases h with rfl | rfl | rfl | rfl | rfl | rfl <;> decide +kernel
theorem dps_map {K : PySem.W.Frag} {H : Hp} {m : Nat} : ∀ (ys : List V), (∀ x ∈ ys, ∃ d, Dp K H x d ∧ d.canLay0 = true ∧ d.depth ≤ m) → ∃ ds, DpAll K H ys ds ∧ PyData.canLayAll0 ds = true ∧ PyData.depthAll ds ≤ m ∧ ds.length = ys.length
  | [], _ => ⟨[], .nil, by simp [PyData.canLayAll0], by simp [PyData.depthAll], rfl⟩
  | y :: ys, h => by
    obtain ⟨d, h1, h2, h3⟩ := h y (by simp)
    obtain ⟨ds, g1, g2, g3, g4⟩ := dps_map ys fun x hx => h x (by simp [hx])
    refine ⟨d :: ds, .cons h1 g1, by simp only [PyData.canLayAll0, h2, g2, Bool.and_self], ?_, by simp [g4]⟩
    simp only [PyData.depthAll]
    omega
theorem Bare.dp {K : PySem.W.Frag} {B H : Hp} : ∀ {n : Nat} {a : Addr}, Bare B H n a → ∃ d, Dp K H (.ref a) d ∧ d.canLay0 = true ∧ d.depth ≤ 2 * n
  | 0, _, h => h.elim
  | n + 1, a, h => by
    obtain ⟨pa, nm, so, xs, h1, h2, h3, h4, h5, h6, h7, h8, h9, h10⟩ := h
    obtain ⟨ds, g1, g2, g3, _⟩ := dps_map (K := K) (H := H) (m := 2 * n) xs fun x hx => by
      obtain ⟨b, rfl, hb⟩ := h10 x hx
      exact hb.dp
    refine ⟨.list [.str nm, .str so, .list ds], .lst (sq_of h3) (.cons (.str _) (.cons (.str _) (.cons (.lst (sq_of h4) g1) .nil))), ?_, ?_⟩
    · simp only [PyData.canLay0, PyData.canLayAll0, name_str h5, sort_str h6, g2, Bool.and_self]
    · simp only [PyData.depth, PyData.depthAll]
      omega
/-! ### _law_move -/
inductive WhD : PyData → Prop
  | on {x : Str} : x ∈ ONS → WhD (.tuple [.str "on", .str x])
  | after {i : Int} : 1 ≤ i → i ≤ 99 → WhD (.tuple [.str "after", .int i])
  | done : WhD (.tuple [.str "done"])
inductive GoD : PyData → Prop
  | no : GoD (.tuple [])
  | one {x : Str} : x ∈ NAMES → GoD (.tuple [.str x])
inductive MvD : PyData → Prop
  | mk {wn g ds gl : PyData} : WhD wn → GuD 3 g → DesD ds → GoD gl → MvD (.tuple [wn, g, ds, gl])
section
variable {P : Program} {w : World} {K : PySem.W.Frag} {mg : Str → Option Value} {base : Heap}
def spMoveL : Sp := fun vs H Q _ => ∃ (p ba sa fa oa ga na : Addr) (y : Int) (fs os gs ns : List Str) (B : Hp) (n : Nat), vs = [.ref p, .ref ba, .ref sa] ∧ PurseAt H p y ∧ 0 ≤ y ∧ y < 34359737000 ∧ StAt H sa fa oa ga na fs os gs ns ∧ n ≤ 20 ∧ Bare B H n ba ∧ Drawn p y 300 H (fun H' v => ∃ d, MvD d ∧ DT H' d v) Q
theorem scMoveL : FnScope ["_law_purse_here", "_law_bare_here", "_law_state", "_law_when", "_law_guard_here", "_law_goals", "_law_part"] ["_law_purse_here", "_law_bare_here", "_law_state"] (defScope lMove) := ⟨rfl, rfl, rfl, by decide +kernel, rfl, by decide +kernel, by decide +kernel⟩
/-- where a def that draws stands: since H0 the purse moved on from y by b at most -/
structure At (H0 : Hp) (p : Addr) (y b : Int) (H : Hp) : Prop where
  fr : Fr p H0 H
  pu : ∃ y', PurseAt H p y' ∧ y ≤ y' ∧ y' ≤ y + b
theorem At.ex {H0 H H' : Hp} {p : Addr} {y b : Int} (a : At H0 p y b H) (e : Ex H H') : At H0 p y b H' := by
  obtain ⟨f, y', hp, h⟩ := a
  exact ⟨f.trans (Fr.ex e), y', hp.ex e, h⟩
theorem q_asgD {σ : L2.St} {H : Hp} {D : Ends} {tz : TS} {te : TE} {i : Nat} {d : PyData} (h : EvD te σ H d) (k : ∀ v H1, Ex H H1 → DT H1 d v → tz D (σ.set i (some v)) H1) : tSeq (tAsg te (gName i)) tz D σ H := h H (Ex.refl H) _ fun v H1 e hv => k v H1 e hv
theorem ite_of {c : Bool} {A B : Prop} (h1 : c = true → A) (h2 : c = false → B) : if c = true then A else B := by
  cases c with
  | true => exact h1 rfl
  | false => exact h2 rfl
set_option maxHeartbeats 0 in
theorem ok_moveL (G : Gn K mg) {f : Addr} {fd : FuncData} (F : Fun K "_law_move" "_law_move" lMove f fd) (DG : Df K mg "_law_guard" lGuard ["_law_purse_here", "_law_deep", "_law_facts", "_law_names_here"]) (DT' : Df K mg "_law_term" lTerm ["_law_purse_here", "_law_deep", "_law_facts"]) (DK : Df K mg "_law_take" lTake ["_law_purse_here", "_law_far"]) (DPk : Df K mg "_law_pick" lPick ["_law_purse_here", "_law_some"]) (DM : Df K mg "_law_mixed" lMixed ["_law_cell", "_law_k"])
    (DD : Df K mg "_law_deeds" lDeeds ["_law_purse_here", "_law_state"]) (gr : mg "range" = none) (gt : mg "tuple" = none) : FnOk P w K mg base CX0 9 f fd ["_law_purse_here", "_law_bare_here", "_law_state"] spMoveL := by
  have GGd : FnOk P w K mg base CX0 8 DG.f DG.fd ["_law_purse_here", "_law_deep", "_law_facts", "_law_names_here"] (spGuard 3) := ok_guardL G DG DT' DK DPk DM 3
  have GDs : FnOk P w K mg base CX0 7 DD.f DD.fd ["_law_purse_here", "_law_state"] spDeedsL := ok_deedsL G gr gt DD.F DT' DK DPk DM
  have GT : FnOk P w K mg base CX0 2 DK.f DK.fd ["_law_purse_here", "_law_far"] spLTake := ok_ltake DK.F DM
  have GPk : FnOk P w K mg base CX0 3 DPk.f DPk.fd ["_law_purse_here", "_law_some"] (spPick K) := ok_pick DPk.F G DK DM
  refine F.ok scMoveL (fun vs H Q E h => ?_) (fun cdv A outer s H vs Q E hr h => ?_)
  · obtain ⟨p, ba, sa, fa, oa, ga, na, y, fs, os, gs, ns, B, n, rfl, _⟩ := h
    rfl
  · obtain ⟨p, ba, sa, fa, oa, ga, na, y, fs, os, gs, ns, B, n, rfl, hp, y0, y1, hs, hn, hb, q⟩ := h
    have hr2 : Room 2 _ := hr.mono (by decide)
    have hr3 : Room 3 _ := hr.mono (by decide)
    have hr7 : Room 7 _ := hr.mono (by decide)
    have g3 : gb 3 = 140 := rfl
    refine ⟨_, pss_cons (ps_set (i := 3) scMoveL.nd rfl (.inl rfl) (pe_tup (pa_cons pe_str (pa_cons (pe_op op_add pe_int (pe_call GT hr2 rfl DK.m DK.F.kp DK.b .nil pass0 (pa_cons (pv 0) (pa_cons pe_int pa_nil)))) pa_nil))))
      (Evl.pss_cut (ps_if (PW.pt (pw_and (pt_cmpR op_gt (pe_call GT hr2 rfl DK.m DK.F.kp DK.b .nil pass0 (pa_cons (pv 0) (pa_cons pe_int pa_nil))) pe_int (nomark _)) (pw_and1 (pt_cmpR (op_neD hr.units) (pe_dget (hu_of hr) (pv 2) pe_str (fun _ _ => rfl)) (pe_lst pa_nil) (nomark _)))))
        (pss_one (ps_set (i := 3) scMoveL.nd rfl (.inl rfl) (pe_tup (pa_cons pe_str (pa_cons (pe_call GPk hr3 rfl DPk.m DPk.F.kp DPk.b .nil pass0 (pa_cons (pv 0) (pa_cons (pe_dget (hu_of hr) (pv 2) pe_str (fun _ _ => rfl)) pa_nil))) pa_nil))))) pss_nil)
      (Evl.pss_cut (ps_if (PW.pt (pw_and (pt_cmpR (op_neD hr.units) (pe_lc (te := tVar 6) (own := [("_law_part", 6)]) (g := gName 6) (tt := tTest (tOp rEq (tOp (rIxL K) (tVar 6) (tC (.int 1))) (tC (.str "end")))) rfl scMoveL.nd (pi_list (pe_ix ix_list (pv 1) pe_int (fun _ _ => rfl))) (blkOk_by (N := ["_law_purse_here", "_law_bare_here", "_law_state", "_law_when", "_law_guard_here", "_law_goals", "_law_part"]) (sc := defScope lMove) (by decide +kernel)) (fun _ _ _ _ _ => pg_name (i := 6) scMoveL.nd rfl (Or.inl rfl)) (fun _ _ _ _ _ => pts_one (pt_cmpR op_eq (pe_ix ix_list (pv 6) pe_int (fun _ _ => rfl)) pe_str (nomark _))) (fun _ _ _ _ _ => pv 6)) (pe_lst pa_nil) (nomark _))
          (pw_and (pt_cmpR op_eq (pe_ix ix_list (pv 1) pe_int (fun _ _ => rfl)) pe_str (nomark _)) (pw_and1 (pt_cmpR op_eq (pe_call GT hr2 rfl DK.m DK.F.kp DK.b .nil pass0 (pa_cons (pv 0) (pa_cons pe_int pa_nil))) pe_int (nomark _))))))
        (pss_one (ps_set (i := 3) scMoveL.nd rfl (.inl rfl) (pe_tup (pa_cons pe_str pa_nil)))) pss_nil)
      (pss_cons (ps_set (i := 4) scMoveL.nd rfl (.inl rfl) (pe_tup (pa_cons pe_str pa_nil)))
      (Evl.pss_cut (ps_if (pt_cmpR op_eq (pe_call GT hr2 rfl DK.m DK.F.kp DK.b .nil pass0 (pa_cons (pv 0) (pa_cons pe_int pa_nil))) pe_int (nomark _))
        (pss_one (ps_set (i := 4) scMoveL.nd rfl (.inl rfl) (pe_call GGd hr rfl DG.m DG.F.kp DG.b .nil pass0 (pa_cons (pv 0) (pa_cons pe_int (pa_cons (pe_dget (hu_of hr) (pv 2) pe_str (fun _ _ => rfl)) (pa_cons (pe_dget (hu_of hr) (pv 2) pe_str (fun _ _ => rfl)) pa_nil))))))) pss_nil)
      (pss_cons (ps_set (i := 5) scMoveL.nd rfl (.inl rfl) (pe_tup pa_nil))
      (Evl.pss_cut (ps_if (pt_cmpR op_gt (pe_call GT hr2 rfl DK.m DK.F.kp DK.b .nil pass0 (pa_cons (pv 0) (pa_cons pe_int pa_nil))) pe_int (nomark _))
        (pss_one (ps_set (i := 5) scMoveL.nd rfl (.inl rfl) (pe_tup (pa_cons (pe_call GPk hr3 rfl DPk.m DPk.F.kp DPk.b .nil pass0 (pa_cons (pv 0) (pa_cons (pe_dget (hu_of hr) (pv 2) pe_str (fun _ _ => rfl)) pa_nil))) pa_nil)))) pss_nil)
      (pss_one (ps_ret (pe_tup (pa_cons (pv 3) (pa_cons (pv 4) (pa_cons (pe_call GDs hr7 rfl DD.m DD.F.kp DD.b .nil pass0 (pa_cons (pv 0) (pa_cons (pv 2) pa_nil))) (pa_cons (pv 5) pa_nil))))))))))))), ?_⟩
    -- when
    refine ⟨.ref p, rfl, p, 99, y, rfl, by decide, by decide, hp, y0, by omega, fun d ya Ha d0 d1 a1 a2 fa1 hpa => ⟨1, d, rfl, rfl, by show 2 ≤ sizeLine; exact sz_of (by decide), fun t nt => ?_⟩⟩
    have e1 : Ex Ha (L2.upd Ha t (.tup [.str "after", .int (1 + d)])) := fr_new nt
    have A1 : At H p y 1 (L2.upd Ha t (.tup [.str "after", .int (1 + d)])) := ⟨fa1.trans (Fr.ex e1), ya, hpa.ex e1, by omega, by omega⟩
    have dw : DT (L2.upd Ha t (.tup [.str "after", .int (1 + d)])) (.tuple [.str "after", .int (1 + d)]) (.ref t) := dt_tup upd_same (dts_cons dt_str (dts_cons dt_int dts_nil))
    clear e1 nt
    revert A1 dw
    generalize (L2.upd Ha t (.tup [.str "after", .int (1 + d)])) = H1
    intro A1 dw
    -- on
    refine Evl.q_cut (M := fun σ' H' => At H p y 3 H' ∧ ∃ vw dw, WhD dw ∧ DT H' dw vw ∧ σ' = [some (.ref p), some (.ref ba), some (.ref sa), some vw, none, none, none]) ?_ ?_
    · obtain ⟨f1, yb, hpb, b1, b2⟩ := A1
      refine ⟨.ref p, rfl, p, 3, yb, rfl, by decide, by decide, hpb, by omega, by omega, fun d2 yc H2 _ _ c1 c2 f2 hpc => ⟨d2, 0, rfl, rfl, _, rfl, ite_of (fun hb => ?_) (fun hb => ?_)⟩⟩
      · have f02 := f1.trans f2
        have hs2 := hs.fr hp f02
        have dw2 := DT.tf (PurseAt.tf hpb f2) _ _ dw
        obtain ⟨kvs, hk, _, g2, _, _⟩ := hs2.d
        refine ev_ne_nil' (ev_dg rfl hk g2) hs2.o (ons_ok hs2.oI) H2 (Ex.refl H2) _ fun H3 e3 => ⟨_, rfl, ite_of (fun hb => ?_) (fun hb => ?_)⟩
        · have hne : 1 ≤ os.length := by
            cases os with
            | nil => cases hb
            | cons x xs => simp
          have hp3 := hpc.ex e3
          have hs3 := hs2.ex e3
          have dg3 := DGet.k (k := Sum.inr "on") (e3 _ _ hk)
          rw [g2] at dg3
          refine ⟨.ref p, rfl, .ref sa, rfl, sa, .ref oa, rfl, dg3, p, oa, os.map V.str, yc, rfl, hp3, by omega, by omega, hs3.o.at_, by rw [List.length_map]; omega, by rw [List.length_map]; have := hs3.oL; omega, StrsAt.ne hp3 hs3.o, fun j v yd H4 hj l1 l2 f4 hp4 => ?_⟩
          rw [List.getElem?_map] at hj
          obtain ⟨x, hx, rfl⟩ := Option.map_eq_some_iff.mp hj
          refine ⟨by show 2 ≤ sizeLine; exact sz_of (by decide), fun t2 nt2 => ?_⟩
          have e6 : Ex H4 (L2.upd H4 t2 (.tup [.str "on", .str x])) := fr_new nt2
          exact ⟨⟨((f02.trans (Fr.ex e3)).trans f4).trans (Fr.ex e6), yd, hp4.ex e6, by omega, by omega⟩, _, _, WhD.on (hs3.oI x (List.mem_of_getElem? hx)), dt_tup upd_same (dts_cons dt_str (dts_cons dt_str dts_nil)), rfl⟩
        · exact ⟨⟨f02.trans (Fr.ex e3), yc, hpc.ex e3, by omega, by omega⟩, _, _, WhD.after (by omega) (by omega), DT.tf (TF.ex e3) _ _ dw2, rfl⟩
      · exact ite_of (fun z => Bool.noConfusion z) fun _ => ⟨⟨f1.trans f2, yc, hpc, by omega, by omega⟩, _, _, WhD.after (by omega) (by omega), DT.tf (PurseAt.tf hpb f2) _ _ dw, rfl⟩
    clear dw A1
    rintro σ' H1 ⟨A1, vw, dw, hw, dtw, rfl⟩
    -- done
    refine Evl.q_cut (M := fun σ' H' => At H p y 4 H' ∧ ∃ vw dw, WhD dw ∧ DT H' dw vw ∧ σ' = [some (.ref p), some (.ref ba), some (.ref sa), some vw, none, none, none]) ?_ ?_
    · obtain ⟨f1, yb, hpb, b1, b2⟩ := A1
      have hb1 := hb.fr hp f1
      cases n with
      | zero => exact hb1.elim
      | succ n =>
        obtain ⟨pa, nm, so, xs, _, _, h3, h4, h5, h6, h7, h8, h9, h10⟩ := id hb1
        refine ⟨.ref ba, rfl, ba, _, 2, .ref pa, rfl, rfl, sq_of h3, rfl, pa, rfl, ⟨xs, sq_of h4⟩, fun D nD => ?_⟩
        refine lc_list (K := K) (xs := xs) (fun i H' => ∃ acc, Ex H1 H' ∧ H' D = some (.lst acc) ∧ acc.length ≤ i ∧ ∀ x ∈ acc, x ∈ xs) ⟨[], Ex.new nD, upd_same, Nat.le_refl _, fun x hx => by cases hx⟩ (fun i H' _ z => by obtain ⟨acc, e, _⟩ := z; exact sq_of (e _ _ h4)) (fun i x H' hi z => ?_) (fun H' z => ?_)
        · obtain ⟨acc, e, hacc, hlen, hall⟩ := z
          have hxm := List.mem_of_getElem? hi
          have hil := (List.getElem?_eq_some_iff.mp hi).1
          obtain ⟨b, rfl, hbb⟩ := h10 x hxm
          refine ⟨rfl, ?_⟩
          cases n with
          | zero => exact hbb.elim
          | succ n =>
            obtain ⟨pb, nb, sb, xb, _, _, k3, _⟩ := hbb
            refine ⟨.ref b, rfl, b, _, 1, .str sb, rfl, rfl, sq_of (e _ _ k3), rfl, rfl, _, rfl, ite_of (fun _ => ?_) (fun _ => ?_)⟩
            · refine ⟨.ref b, rfl, acc, hacc, sz_lt (by omega), acc ++ [.ref b], fun c o ho => ?_, upd_same, by rw [List.length_append]; simp only [List.length_singleton]; omega, fun x hx => ?_⟩
              · rw [upd_ne (ne_of_none ho nD)]
                exact e c o ho
              · rcases List.mem_append.mp hx with h | h
                · exact hall x h
                · rw [List.mem_singleton.mp h]
                  exact hxm
            · exact ⟨acc, e, hacc, by omega, hall⟩
        · obtain ⟨acc, e, hacc, hlen, hall⟩ := z
          refine ⟨by show 0 ≤ sizeLine; decide, fun l nl => ?_⟩
          have e2 : Ex H' (L2.upd H' l (.lst [])) := fr_new nl
          obtain ⟨ds, q1, q2, q3, _⟩ := dps_map (K := K) (H := L2.upd H' l (.lst [])) (m := 2 * n) acc fun x hx => by
            obtain ⟨b, rfl, hbb⟩ := h10 x (hall x hx)
            exact (hbb.stay (B2 := B) (fun _ h => h) (fun b o _ ho => e2 b o (e b o ho))).dp
          have sh : SeqAt.shaped (.list ds) = true := Bool.and_eq_true_iff.mpr ⟨by simp only [PyData.canLay0, q2], decide_eq_true (by simp only [PyData.depth]; show PyData.depthAll ds + 1 ≤ 64; omega)⟩
          have e12 := Ex.trans e e2
          refine ⟨.list ds, .list [], .lst (sq_of (e2 _ _ hacc)) q1, .lst (sq_of upd_same) .nil, sh, by decide, _, rfl, ite_of (fun _ => ?_) (fun _ => ?_)⟩
          · refine ⟨.ref ba, rfl, ba, _, 1, .str so, rfl, rfl, sq_of (e12 _ _ h3), rfl, rfl, _, rfl, ite_of (fun _ => ?_) (fun _ => ?_)⟩
            · have hp9 := hpb.ex e12
              refine ⟨.ref p, rfl, p, 2, yb, rfl, by decide, by decide, hp9, by omega, by omega, fun d2 yc H2 _ _ c1 c2 f2 hpc => ⟨rfl, _, rfl, ite_of (fun _ => ?_) (fun _ => ?_)⟩⟩
              · refine ⟨by show 1 ≤ sizeLine; exact sz_of (by decide), fun t2 nt2 => ?_⟩
                have e6 : Ex H2 (L2.upd H2 t2 (.tup [.str "done"])) := fr_new nt2
                exact ⟨⟨((f1.trans (Fr.ex e12)).trans f2).trans (Fr.ex e6), yc, hpc.ex e6, by omega, by omega⟩, _, _, WhD.done, dt_tup upd_same (dts_cons dt_str dts_nil), rfl⟩
              · exact ⟨⟨(f1.trans (Fr.ex e12)).trans f2, yc, hpc, by omega, by omega⟩, _, _, hw, DT.tf (PurseAt.tf hp9 f2) _ _ (DT.tf (TF.ex e12) _ _ dtw), rfl⟩
            · exact ite_of (fun z => Bool.noConfusion z) fun _ => ⟨⟨f1.trans (Fr.ex e12), yb, hpb.ex e12, by omega, by omega⟩, _, _, hw, DT.tf (TF.ex e12) _ _ dtw, rfl⟩
          · exact ite_of (fun z => Bool.noConfusion z) fun _ => ⟨⟨f1.trans (Fr.ex e12), yb, hpb.ex e12, by omega, by omega⟩, _, _, hw, DT.tf (TF.ex e12) _ _ dtw, rfl⟩
    clear dtw hw A1
    rintro σ' H1 ⟨A1, vw, dw, hw, dtw, rfl⟩
    -- the guard
    refine q_asgD (i := 4) (d := .tuple [.str "yes"]) (evd_tup (evds_cons (evd_of ev_c dt_str) evds_nil) (by show 1 ≤ 100000; decide)) fun vg H2 e2 dtg => ?_
    have A2 := A1.ex e2
    have dtw2 := DT.tf (TF.ex e2) _ _ dtw
    refine Evl.q_cut (M := fun σ' H' => At H p y 150 H' ∧ DT H' dw vw ∧ ∃ vg dg, GuD 3 dg ∧ DT H' dg vg ∧ σ' = [some (.ref p), some (.ref ba), some (.ref sa), some vw, some vg, none, none]) ?_ ?_
    · obtain ⟨f2, yb, hpb, b1, b2⟩ := A2
      refine ⟨.ref p, rfl, p, 2, yb, rfl, by decide, by decide, hpb, by omega, by omega, fun d2 yc H3 _ _ c1 c2 f3 hpc => ⟨rfl, _, rfl, ite_of (fun hb => ?_) (fun hb => ?_)⟩⟩
      · have f03 := f2.trans f3
        have hs3 := hs.fr hp f03
        obtain ⟨kvs, hk, g1, _, _, g4⟩ := hs3.d
        have dg1 := DGet.k (k := Sum.inr "facts") hk
        have dg4 := DGet.k (k := Sum.inr "plain") hk
        rw [g1] at dg1
        rw [g4] at dg4
        refine ⟨.ref p, rfl, .ref sa, rfl, sa, .ref fa, rfl, dg1, .ref sa, rfl, sa, .ref na, rfl, dg4, p, fa, na, 2, yc, fs, ns, rfl, by decide, by decide, hpc, by omega, by omega, hs3.f, hs3.fI, hs3.fL, hs3.n, hs3.nI, hs3.n1, hs3.nL, fun v1 yd H4 f4 hp4 l1 l2 r1 => ?_⟩
        obtain ⟨t1, k1, dt1⟩ := r1
        exact ⟨⟨f03.trans f4, yd, hp4, by omega, by omega⟩, DT.tf (PurseAt.tf hpc f4) _ _ (DT.tf (PurseAt.tf hpb f3) _ _ dtw2), v1, t1, k1, dt1, rfl⟩
      · exact ⟨⟨f2.trans f3, yc, hpc, by omega, by omega⟩, DT.tf (PurseAt.tf hpb f3) _ _ dtw2, vg, _, GuD.yes, DT.tf (PurseAt.tf hpb f3) _ _ dtg, rfl⟩
    clear dtg dtw2 A2 e2 dtw A1
    rintro σ' H2 ⟨A2, dtw, vg, dg, hg, dtg, rfl⟩
    -- the goals
    refine q_asgD (i := 5) (d := .tuple []) (evd_tup evds_nil (by decide)) fun vo H3 e3 dto => ?_
    have A3 := A2.ex e3
    have dtw3 := DT.tf (TF.ex e3) _ _ dtw
    have dtg3 := DT.tf (TF.ex e3) _ _ dtg
    refine Evl.q_cut (M := fun σ' H' => At H p y 152 H' ∧ DT H' dw vw ∧ DT H' dg vg ∧ ∃ vo dO, GoD dO ∧ DT H' dO vo ∧ σ' = [some (.ref p), some (.ref ba), some (.ref sa), some vw, some vg, some vo, none]) ?_ ?_
    · obtain ⟨f3, yb, hpb, b1, b2⟩ := A3
      refine ⟨.ref p, rfl, p, 3, yb, rfl, by decide, by decide, hpb, by omega, by omega, fun d2 yc H4 _ _ c1 c2 f4 hpc => ⟨d2, 0, rfl, rfl, _, rfl, ite_of (fun hb => ?_) (fun hb => ?_)⟩⟩
      · have f04 := f3.trans f4
        have hs4 := hs.fr hp f04
        obtain ⟨kvs, hk, _, _, g3', _⟩ := hs4.d
        have dg3 := DGet.k (k := Sum.inr "goals") hk
        rw [g3'] at dg3
        refine ⟨.ref p, rfl, .ref sa, rfl, sa, .ref ga, rfl, dg3, p, ga, gs.map V.str, yc, rfl, hpc, by omega, by omega, hs4.g.at_, by rw [List.length_map]; exact hs4.g1, by rw [List.length_map]; have := hs4.gL; omega, StrsAt.ne hpc hs4.g, fun j v yd H5 hj l1 l2 f5 hp5 => ?_⟩
        rw [List.getElem?_map] at hj
        obtain ⟨x, hx, rfl⟩ := Option.map_eq_some_iff.mp hj
        refine ⟨by show 1 ≤ sizeLine; exact sz_of (by decide), fun t2 nt2 => ?_⟩
        have e6 : Ex H5 (L2.upd H5 t2 (.tup [.str x])) := fr_new nt2
        have tt : TF H3 (L2.upd H5 t2 (.tup [.str x])) := fun b zs hb => e6 _ _ (PurseAt.tf hpc f5 _ _ (PurseAt.tf hpb f4 _ _ hb))
        exact ⟨⟨(f04.trans f5).trans (Fr.ex e6), yd, hp5.ex e6, by omega, by omega⟩, DT.tf tt _ _ dtw3, DT.tf tt _ _ dtg3, _, _, GoD.one (hs4.gI x (List.mem_of_getElem? hx)), dt_tup upd_same (dts_cons dt_str dts_nil), rfl⟩
      · have tt := PurseAt.tf hpb f4
        exact ⟨⟨f3.trans f4, yc, hpc, by omega, by omega⟩, DT.tf tt _ _ dtw3, DT.tf tt _ _ dtg3, vo, _, GoD.no, DT.tf tt _ _ dto, rfl⟩
    clear dto dtg3 dtw3 A3 e3 dtg dtw A2
    rintro σ' H3 ⟨A3, dtw, dtg, vo, dO, ho, dto, rfl⟩
    obtain ⟨f3, yb, hpb, b1, b2⟩ := A3
    have hs3 := hs.fr hp f3
    refine ⟨vw, rfl, vg, rfl, .ref p, rfl, .ref sa, rfl, p, sa, fa, oa, ga, na, yb, fs, os, gs, ns, rfl, hpb, by omega, by omega, hs3, fun v1 yc H4 f4 hp4 l1 l2 r1 => ⟨vo, rfl, by show 4 ≤ sizeLine; exact sz_of (by decide), fun t nt => ?_⟩⟩
    obtain ⟨t1, k1, dt1⟩ := r1
    have e6 : Ex H4 (L2.upd H4 t (.tup [vw, vg, v1, vo])) := fr_new nt
    have tt : TF H3 (L2.upd H4 t (.tup [vw, vg, v1, vo])) := fun b zs hb => e6 _ _ (PurseAt.tf hpb f4 _ _ hb)
    exact q _ yc _ ((f3.trans f4).trans (Fr.ex e6)) (hp4.ex e6) (by omega) (by omega) ⟨_, MvD.mk hw hg k1 ho, dt_tup upd_same (dts_cons (DT.tf tt _ _ dtw) (dts_cons (DT.tf tt _ _ dtg) (dts_cons (DT.tf (TF.ex e6) _ _ dt1) (dts_cons (DT.tf tt _ _ dto) dts_nil))))⟩
end
end Prs
set_option Elab.async false
set_option linter.all false
set_option maxRecDepth 100000
set_option maxHeartbeats 4000000
namespace Prs
open PySem PySem.Spec PyProof.Rows L2 Evl
abbrev lFull : Stmt := top 70
def StD : Nat → Str → PyData → Prop
  | 0, _, _ => False
  | n + 1, so, d => (∃ nm, d = .tuple [.str nm, .str so, .tuple [], .tuple [], .tuple [], .tuple []] ∧ nm ∈ NAMES ∧ so ∈ SORTSs ∧ isMark so) ∨
    (∃ (nm : Str) (ds ms : List PyData) (into out : PyData), d = .tuple [.str nm, .str so, .tuple ds, into, out, .tuple ms] ∧ nm ∈ NAMES ∧ so ∈ SORTSs ∧ ¬ isMark so ∧ (∀ d ∈ ds, ∃ s, StD n s d) ∧ ds.length ≤ 4 ∧ (ds ≠ [] → isFull so) ∧ DesD into ∧ DesD out ∧ (∀ m ∈ ms, MvD m) ∧ ms.length ≤ 2)
theorem StD.mark {n : Nat} {nm so : Str} (h1 : nm ∈ NAMES) (h2 : so ∈ SORTSs) (h3 : isMark so) : StD (n + 1) so (.tuple [.str nm, .str so, .tuple [], .tuple [], .tuple [], .tuple []]) := .inl ⟨nm, rfl, h1, h2, h3⟩
theorem StD.full {n : Nat} {nm so : Str} {ds ms : List PyData} {into out : PyData} (h1 : nm ∈ NAMES) (h2 : so ∈ SORTSs) (h3 : ¬ isMark so) (h4 : ∀ d ∈ ds, ∃ s, StD n s d) (h5 : ds.length ≤ 4) (h6 : ds ≠ [] → isFull so) (h7 : DesD into) (h8 : DesD out) (h9 : ∀ m ∈ ms, MvD m) (h10 : ms.length ≤ 2) : StD (n + 1) so (.tuple [.str nm, .str so, .tuple ds, into, out, .tuple ms]) := .inr ⟨nm, ds, ms, into, out, rfl, h1, h2, h3, h4, h5, h6, h7, h8, h9, h10⟩
def fb : Nat → Int
  | 0 => 0
  | n + 1 => 700 + 4 * fb n
theorem fb_nn : ∀ n, 0 ≤ fb n
  | 0 => by unfold fb; omega
  | n + 1 => by
    have := fb_nn n
    unfold fb
    omega
section
variable {P : Program} {w : World} {K : PySem.W.Frag} {mg : Str → Option Value} {base : Heap}
def spFullL (n : Nat) : Sp := fun vs H Q _ => ∃ (p ba sa fa oa ga na pa : Addr) (y : Int) (fs os gs ns : List Str) (B : Hp) (nm so : Str), vs = [.ref p, .ref ba, .ref sa] ∧ PurseAt H p y ∧ 0 ≤ y ∧ y + fb n < 34359000000 ∧ StAt H sa fa oa ga na fs os gs ns ∧ n ≤ 20 ∧ Bare B H n ba ∧ H ba = some (.lst [.str nm, .str so, .ref pa]) ∧ Drawn p y (fb n) H (fun H' v => ∃ d, StD n so d ∧ DT H' d v) Q
theorem scFullL : FnScope ["_law_purse_here", "_law_bare_here", "_law_state", "_law_name", "_law_sort", "_law_parts", "_law_into", "_law_out", "_law_moves", "_law_k", "_law_part"] ["_law_purse_here", "_law_bare_here", "_law_state"] (defScope lFull) := ⟨rfl, rfl, rfl, by decide +kernel, rfl, by decide +kernel, by decide +kernel⟩
abbrev NF : List Str := ["_law_purse_here", "_law_bare_here", "_law_state", "_law_name", "_law_sort", "_law_parts", "_law_into", "_law_out", "_law_moves", "_law_k", "_law_part"]
/-- a list that is being drawn, new since H1 -/
structure Gath (H1 : Hp) (p D : Addr) (y b : Int) (i : Nat) (R : PyData → Prop) (H' : Hp) : Prop where
  fr : Fr p H1 H'
  pu : ∃ y', PurseAt H' p y' ∧ y ≤ y' ∧ y' ≤ y + b * (i : Int)
  ls : ∃ ds vs, H' D = some (.lst vs) ∧ DTs H' ds vs ∧ ds.length = i ∧ ∀ x ∈ ds, R x
theorem Gath.zero {H1 : Hp} {p D : Addr} {y b : Int} {R : PyData → Prop} (hp : PurseAt H1 p y) (nD : H1 D = none) : Gath H1 p D y b 0 R (L2.upd H1 D (.lst [])) := ⟨Fr.ex (fr_new nD), ⟨y, hp.ex (fr_new nD), by omega, by simp⟩, [], [], upd_same, dts_nil, rfl, fun x hx => by cases hx⟩
theorem Gath.step {H1 H' H2 : Hp} {p D : Addr} {y b y1 y2 : Int} {i : Nat} {R : PyData → Prop} {d : PyData} {v : V} (hp1 : PurseAt H1 p y) (nD : H1 D = none) (g : Gath H1 p D y b i R H') (hp' : PurseAt H' p y1) (h1 : y ≤ y1) (hb : y1 ≤ y + b * (i : Int)) (f : Fr p H' H2) (hp2 : PurseAt H2 p y2) (l2 : y1 ≤ y2) (u2 : y2 ≤ y1 + b) (hd : DT H2 d v) (hR : R d) :
    ∃ acc, H2 D = some (.lst acc) ∧ acc.length = i ∧ Gath H1 p D y b (i + 1) R (L2.upd H2 D (.lst (acc ++ [v]))) := by
  obtain ⟨fr, pu, ds, vs, hl, hds, hlen, hall⟩ := g
  have Dp : D ≠ p := hp1.ne nD
  have hl2 := f _ _ Dp hl
  have tf : TF H2 (L2.upd H2 D (.lst (vs ++ [v]))) := TF.fr' hl2
  refine ⟨vs, hl2, by rw [DTs.len hds, hlen], ⟨fun c o hc ho => ?_, ⟨y2, ?_, by omega, ?_⟩, ds ++ [d], vs ++ [v], upd_same, DTs.snoc (DT.tf tf _ _ hd) (DTs.tf tf _ _ (DTs.tf (PurseAt.tf hp' f) _ _ hds)), by rw [List.length_append, hlen]; rfl, fun x hx => ?_⟩⟩
  · rw [upd_ne (ne_of_none ho nD)]
    exact f c o hc (fr c o hc ho)
  · obtain ⟨a, z, hpp⟩ := hp2
    exact ⟨a, z, by rw [upd_ne (Ne.symm Dp)]; exact hpp⟩
  · have : b * ((i + 1 : Nat) : Int) = b * (i : Int) + b := by
      rw [Int.natCast_succ, Int.mul_add, Int.mul_one]
    omega
  · rcases List.mem_append.mp hx with h | h
    · exact hall x h
    · rw [List.mem_singleton.mp h]
      exact hR
theorem mark_in {so : Str} : inV (.str so) ((["back", "deep"] : List Str).map V.str) = inV (.str so) (MARKER.map V.str) := rfl
set_option maxHeartbeats 0 in
theorem ok_fullL (G : Gn K mg) (D : Df K mg "_law_full" lFull ["_law_purse_here", "_law_bare_here", "_law_state"]) (DMv : Df K mg "_law_move" lMove ["_law_purse_here", "_law_bare_here", "_law_state"]) (DG : Df K mg "_law_guard" lGuard ["_law_purse_here", "_law_deep", "_law_facts", "_law_names_here"]) (DT' : Df K mg "_law_term" lTerm ["_law_purse_here", "_law_deep", "_law_facts"]) (DK : Df K mg "_law_take" lTake ["_law_purse_here", "_law_far"]) (DPk : Df K mg "_law_pick" lPick ["_law_purse_here", "_law_some"]) (DM : Df K mg "_law_mixed" lMixed ["_law_cell", "_law_k"])
    (DD : Df K mg "_law_deeds" lDeeds ["_law_purse_here", "_law_state"]) (gr : mg "range" = none) (gt : mg "tuple" = none) : ∀ n, FnOk P w K mg base CX0 (9 + n) D.f D.fd ["_law_purse_here", "_law_bare_here", "_law_state"] (spFullL n)
  | 0 => by
    refine ⟨fun vs H Q E h => ?_, fun A outer s H args us vs Q E _ _ _ _ h => ?_⟩
    · obtain ⟨p, ba, sa, fa, oa, ga, na, pa, y, fs, os, gs, ns, B, nm, so, rfl, _⟩ := h
      rfl
    · obtain ⟨p, ba, sa, fa, oa, ga, na, pa, y, fs, os, gs, ns, B, nm, so, rfl, _, _, _, _, _, hb, _⟩ := h
      exact hb.elim
  | n + 1 => by
    have GS := ok_fullL G D DMv DG DT' DK DPk DM DD gr gt n
    have GM : FnOk P w K mg base CX0 9 DMv.f DMv.fd ["_law_purse_here", "_law_bare_here", "_law_state"] spMoveL := ok_moveL G DMv.F DG DT' DK DPk DM DD gr gt
    have GDs : FnOk P w K mg base CX0 7 DD.f DD.fd ["_law_purse_here", "_law_state"] spDeedsL := ok_deedsL G gr gt DD.F DT' DK DPk DM
    have GT : FnOk P w K mg base CX0 2 DK.f DK.fd ["_law_purse_here", "_law_far"] spLTake := ok_ltake DK.F DM
    refine D.F.ok scFullL (fun vs H Q E h => ?_) (fun cdv A outer s H vs Q E hr h => ?_)
    · obtain ⟨p, ba, sa, fa, oa, ga, na, pa, y, fs, os, gs, ns, B, nm, so, rfl, _⟩ := h
      rfl
    · obtain ⟨p, ba, sa, fa, oa, ga, na, pa, y, fs, os, gs, ns, B, nm, so, rfl, hp, y0, y1, hs, hn, hb, hbe, q⟩ := h
      have hr2 : Room 2 _ := hr.mono (show 2 ≤ 9 + n by omega)
      have hr7 : Room 7 _ := hr.mono (show 7 ≤ 9 + n by omega)
      have hr9 : Room 9 _ := hr.mono (show 9 ≤ 9 + n by omega)
      have fn := fb_nn n
      have fe : fb (n + 1) = 700 + 4 * fb n := rfl
      refine ⟨_, pss_cons (ps_asg (pv 1) (pg_unl rfl (pgs_cons (pg_name (i := 3) scFullL.nd rfl (.inl rfl)) (pgs_cons (pg_name (i := 4) scFullL.nd rfl (.inl rfl)) (pgs_cons (pg_name (i := 5) scFullL.nd rfl (.inl rfl)) pgs_nil)))))
        (pss_cons (ps_if (pt_cmpR op_in_seq (pv 4) (pe_tup (pa_cons pe_str (pa_cons pe_str pa_nil))) (by rfl)) (pss_one (ps_ret (pe_tup (pa_cons (pv 3) (pa_cons (pv 4) (pa_cons (pe_tup pa_nil) (pa_cons (pe_tup pa_nil) (pa_cons (pe_tup pa_nil) (pa_cons (pe_tup pa_nil) pa_nil))))))))) pss_nil)
        (pss_cons (ps_set (i := 6) scFullL.nd rfl (.inl rfl) (pe_call GDs hr7 rfl DD.m DD.F.kp DD.b .nil pass0 (pa_cons (pv 0) (pa_cons (pv 2) pa_nil))))
        (pss_cons (ps_set (i := 7) scFullL.nd rfl (.inl rfl) (pe_call GDs hr7 rfl DD.m DD.F.kp DD.b .nil pass0 (pa_cons (pv 0) (pa_cons (pv 2) pa_nil))))
        (pss_cons (ps_set (i := 8) scFullL.nd rfl (.inl rfl) (pe_callTy call_tuple_of rfl gt rfl (pa_cons (pe_lc (te := tCall spMoveL [] E0 (tCons (tVar 0) (tCons (tVar 1) (tCons (tVar 2) tNil)))) (own := [("_law_k", 9)]) (g := gName 9) (tt := tYes) rfl scFullL.nd (pi_range1 rfl gr (pa_cons (pe_ix ix_list (pe_lst (pa_cons pe_int (pa_cons pe_int (pa_cons pe_int (pa_cons pe_int pa_nil))))) (pe_call GT hr2 rfl DK.m DK.F.kp DK.b .nil pass0 (pa_cons (pv 0) (pa_cons pe_int pa_nil))) (fun _ _ => rfl)) pa_nil)) (blkOk_by (N := NF) (sc := defScope lFull) (by decide +kernel)) (fun _ _ _ _ _ => pg_name (i := 9) scFullL.nd rfl (Or.inl rfl)) (fun _ _ _ _ _ => pts_nil)
            (fun _ _ _ _ _ => pe_call GM hr9 rfl DMv.m DMv.F.kp DMv.b .nil pass0 (pa_cons (pv 0) (pa_cons (pv 1) (pa_cons (pv 2) pa_nil))))) pa_nil)))
        (pss_one (ps_ret (pe_tup (pa_cons (pv 3) (pa_cons (pv 4) (pa_cons (pe_callTy call_tuple_of rfl gt rfl (pa_cons (pe_lc (te := tCall (spFullL n) [] E0 (tCons (tVar 0) (tCons (tVar 10) (tCons (tVar 2) tNil)))) (own := [("_law_part", 10)]) (g := gName 10) (tt := tYes) rfl scFullL.nd (pi_list (pv 5)) (blkOk_by (N := NF) (sc := defScope lFull) (by decide +kernel)) (fun _ _ _ _ _ => pg_name (i := 10) scFullL.nd rfl (Or.inl rfl)) (fun _ _ _ _ _ => pts_nil)
            (fun _ _ _ _ _ => pe_call GS hr rfl D.m D.F.kp D.b .nil pass0 (pa_cons (pv 0) (pa_cons (pv 10) (pa_cons (pv 2) pa_nil))))) pa_nil)) (pa_cons (pv 6) (pa_cons (pv 7) (pa_cons (pv 8) pa_nil))))))))))))), ?_⟩
      obtain ⟨pa', nm', so', xs, _, _, h3, h4, h5, h6, h7, h8, h9, h10⟩ := id hb
      rw [hbe] at h3
      have hq := HO.lst.inj (Option.some.inj h3)
      injection hq with q1 hq
      injection hq with q2 hq
      injection hq with q3 _
      obtain rfl := V.str.inj q1
      obtain rfl := V.str.inj q2
      obtain rfl := V.ref.inj q3
      refine ⟨.ref ba, rfl, ba, _, rfl, sq_of hbe, rfl, .str nm, _, rfl, .str so, _, rfl, .ref pa, [], rfl, rfl, ?_⟩
      refine q_when (b := inV (.str so) (MARKER.map V.str)) (et_test (ev_inU (xs := (["back", "deep"] : List Str).map V.str) (ev_var rfl) (eu_tup (ea_cons ev_c (ea_cons ev_c ea_nil)) (by show 2 ≤ 100000; decide)) rfl (by decide +kernel))) (fun hm H1 e1 => ?_) (fun hm H1 e1 => ?_)
      · have ed : EvD (tTup (tCons (tVar 3) (tCons (tVar 4) (tCons (tTup tNil) (tCons (tTup tNil) (tCons (tTup tNil) (tCons (tTup tNil) tNil))))))) [some (.ref p), some (.ref ba), some (.ref sa), some (.str nm), some (.str so), some (.ref pa), none, none, none, none, none] H1 (.tuple [.str nm, .str so, .tuple [], .tuple [], .tuple [], .tuple []]) := evd_tup (evds_cons (evd_of (ev_var rfl) dt_str) (evds_cons (evd_of (ev_var rfl) dt_str) (evds_cons (evd_tup evds_nil (by decide)) (evds_cons (evd_tup evds_nil (by decide)) (evds_cons (evd_tup evds_nil (by decide)) (evds_cons (evd_tup evds_nil (by decide)) evds_nil)))))) (by show 6 ≤ 100000; decide)
        exact ed H1 (Ex.refl H1) _ fun v H2 e2 hv => q v y H2 ((Fr.ex e1).trans (Fr.ex e2)) ((hp.ex e1).ex e2) (by omega) (by omega) ⟨_, .mark h5 h6 hm, hv⟩
      have hmk : ¬ isMark so := by
        intro z
        rw [show inV (.str so) (MARKER.map V.str) = true from z] at hm
        cases hm
      have hp1 := hp.ex e1
      have hs1 := hs.ex e1
      -- into, out
      refine ⟨.ref p, rfl, .ref sa, rfl, p, sa, fa, oa, ga, na, y, fs, os, gs, ns, rfl, hp1, y0, by omega, hs1, fun vi ya H2 f2 hp2 l1 l2 ri => ?_⟩
      obtain ⟨di, ki, dti⟩ := ri
      have hs2 := hs1.fr hp1 f2
      refine ⟨.ref p, rfl, .ref sa, rfl, p, sa, fa, oa, ga, na, ya, fs, os, gs, ns, rfl, hp2, by omega, by omega, hs2, fun vo yb H3 f3 hp3 l3 l4 ro => ?_⟩
      obtain ⟨dO, ko, dto⟩ := ro
      have hs3 := hs2.fr hp2 f3
      have dti3 := DT.tf (PurseAt.tf hp2 f3) _ _ dti
      have f03 : Fr p H H3 := ((Fr.ex e1).trans f2).trans f3
      -- moves
      refine ⟨by show 4 ≤ sizeLine; exact sz_of (by decide), fun l nl => ?_⟩
      have e4 : Ex H3 (L2.upd H3 l (.lst [.int 0, .int 0, .int 1, .int 2])) := fr_new nl
      refine ⟨.ref p, rfl, p, 4, yb, rfl, by decide, by decide, hp3.ex e4, by omega, by omega, fun d yc H4 d0 d1 c1 c2 f4 hp4 => ?_⟩
      have hl4 : H4 l = some (.lst [.int 0, .int 0, .int 1, .int 2]) := f4 _ _ (hp3.ne nl) upd_same
      obtain ⟨k, hk, hk2⟩ : ∃ k : Nat, atI [V.int 0, V.int 0, V.int 1, V.int 2] d = some (.int (k : Int)) ∧ k ≤ 2 := by
        rcases (by omega : d = 0 ∨ d = 1 ∨ d = 2 ∨ d = 3) with rfl | rfl | rfl | rfl
        · exact ⟨0, rfl, by decide⟩
        · exact ⟨0, rfl, by decide⟩
        · exact ⟨1, rfl, by decide⟩
        · exact ⟨2, rfl, by decide⟩
      have t34 : TF H3 H4 := fun b zs hb => PurseAt.tf (hp3.ex e4) f4 _ _ (e4 _ _ hb)
      have hs4 := (hs3.ex e4).fr (hp3.ex e4) f4
      have f04 : Fr p H H4 := (f03.trans (Fr.ex e4)).trans f4
      have dti4 := DT.tf t34 _ _ dti3
      have dto4 := DT.tf t34 _ _ dto
      refine ⟨l, _, d, .int k, rfl, rfl, sq_of hl4, hk, (k : Int), rfl, by omega, by omega, fun Dl nD => ?_⟩
      refine lc_range (lo := 0) (n := k) (fun i H' => Gath H4 p Dl yc 300 i MvD H') (Gath.zero hp4 nD) ?_ ?_
      · intro i H' hi g
        obtain ⟨y', hp', b1, b2⟩ := g.pu
        refine ⟨rfl, ?_⟩
        have hs' := hs4.fr hp4 g.fr
        refine ⟨.ref p, rfl, .ref ba, rfl, .ref sa, rfl, p, ba, sa, fa, oa, ga, na, y', fs, os, gs, ns, B, n + 1, rfl, hp', by omega, by omega, hs', hn, (hb.fr hp f04).fr hp4 g.fr, fun v yd H5 f5 hp5 m1 m2 r5 => ?_⟩
        obtain ⟨dm, km, dtm⟩ := r5
        obtain ⟨acc, ha, hal, gg⟩ := g.step hp4 nD hp' b1 b2 f5 hp5 m1 m2 dtm km
        exact ⟨acc, ha, sz_lt (by omega), gg⟩
      intro H5 g5
      obtain ⟨y5, hp5, b1, b2⟩ := g5.pu
      obtain ⟨dms, vms, hDl, dtms, hlen, hall⟩ := g5.ls
      refine ⟨Dl, vms, rfl, .inl ⟨sq_of hDl, fun tm ntm => ?_⟩⟩
      have e6 : Ex H5 (L2.upd H5 tm (.tup vms)) := fr_new ntm
      have dtm6 : DT (L2.upd H5 tm (.tup vms)) (.tuple dms) (.ref tm) := dt_tup upd_same (DTs.tf (TF.ex e6) _ _ dtms)
      have t46 : TF H4 (L2.upd H5 tm (.tup vms)) := fun b zs hb => e6 _ _ (PurseAt.tf hp4 g5.fr _ _ hb)
      have dti6 := DT.tf t46 _ _ dti4
      have dto6 := DT.tf t46 _ _ dto4
      have hp6 := hp5.ex e6
      have f06 : Fr p H (L2.upd H5 tm (.tup vms)) := (f04.trans g5.fr).trans (Fr.ex e6)
      have hb6 := hb.fr hp f06
      have hpa : (L2.upd H5 tm (.tup vms)) pa = some (.lst xs) := by
        obtain ⟨pa', nm', so', xs', _, _, k3, k4, _⟩ := hb6
        have hba6 : (L2.upd H5 tm (.tup vms)) ba = some (.lst [.str nm, .str so, .ref pa]) := f06 _ _ (fun z => by
          obtain ⟨x, w, hpp⟩ := hp
          rw [z, hpp] at hbe
          have := HO.lst.inj (Option.some.inj hbe)
          injection this with u _
          cases u) hbe
        refine f06 _ _ (fun z => ?_) h4
        obtain ⟨x, w, hpp⟩ := hp
        rw [z, hpp] at h4
        have := HO.lst.inj (Option.some.inj h4)
        subst this
        obtain ⟨b, u, _⟩ := h10 (.int x) (by simp)
        cases u
      have hs6 := hs.fr hp f06
      have hkid : ∀ x ∈ xs, ∃ b, x = .ref b ∧ Bare B (L2.upd H5 tm (.tup vms)) n b := fun x hx => by
        obtain ⟨b, e, hbb⟩ := h10 x hx
        exact ⟨b, e, hbb.fr hp f06⟩
      have y6 : y5 ≤ yc + 600 := by
        have : 300 * (k : Int) ≤ 600 := by omega
        omega
      revert dtm6 dti6 dto6 hp6 f06 hb6 hpa hs6 hkid
      generalize (L2.upd H5 tm (.tup vms)) = H6
      intro dtm6 dti6 dto6 hp6 f06 hb6 hpa hs6 hkid
      -- the stands in it
      refine ⟨.str nm, rfl, .str so, rfl, .ref pa, rfl, pa, rfl, ⟨xs, sq_of hpa⟩, fun D2 nD2 => ?_⟩
      refine lc_list (K := K) (xs := xs) (fun i H' => Gath H6 p D2 y5 (fb n) i (fun d => ∃ s, StD n s d) H') (Gath.zero hp6 nD2) (fun i H' hi g => sq_of (g.fr _ _ (fun z => ?_) hpa)) ?_ ?_
      · obtain ⟨x, w, hpp⟩ := hp6
        rw [z, hpp] at hpa
        have := HO.lst.inj (Option.some.inj hpa)
        subst this
        obtain ⟨b, u, _⟩ := hkid (.int x) (by simp)
        cases u
      · intro i x H' hi g
        obtain ⟨y', hp', b1', b2'⟩ := g.pu
        have hil := (List.getElem?_eq_some_iff.mp hi).1
        obtain ⟨b, rfl, hbb⟩ := hkid x (List.mem_of_getElem? hi)
        refine ⟨rfl, ?_⟩
        have hs' := hs6.fr hp6 g.fr
        have hbb' := hbb.fr hp6 g.fr
        cases n with
        | zero => exact hbb.elim
        | succ n =>
          obtain ⟨pb, nb, sb, xb, _, _, k3, _⟩ := id hbb'
          have hib : fb (n + 1) * (i : Int) ≤ fb (n + 1) * 3 := Int.mul_le_mul_of_nonneg_left (by omega) fn
          refine ⟨.ref p, rfl, .ref b, rfl, .ref sa, rfl, p, b, sa, fa, oa, ga, na, pb, y', fs, os, gs, ns, B, nb, sb, rfl, hp', by omega, by omega, hs', by omega, hbb', k3, fun v yd H7 f7 hp7 m1 m2 r7 => ?_⟩
          obtain ⟨dk, kk, dtk⟩ := r7
          obtain ⟨acc, ha, hal, gg⟩ := g.step hp6 nD2 hp' b1' b2' f7 hp7 m1 m2 dtk ⟨_, kk⟩
          exact ⟨acc, ha, sz_lt (by omega), gg⟩
      intro H7 g7
      obtain ⟨y7, hp7, b1', b2'⟩ := g7.pu
      obtain ⟨dks, vks, hD2, dtks, hlen2, hall2⟩ := g7.ls
      refine ⟨D2, vks, rfl, .inl ⟨sq_of hD2, fun tk ntk => ?_⟩⟩
      have e8 : Ex H7 (L2.upd H7 tk (.tup vks)) := fr_new ntk
      have t68 : TF H6 (L2.upd H7 tk (.tup vks)) := fun b zs hb => e8 _ _ (PurseAt.tf hp6 g7.fr _ _ hb)
      refine ⟨vi, rfl, vo, rfl, .ref tm, rfl, by show 6 ≤ sizeLine; exact sz_of (by decide), fun tr ntr => ?_⟩
      have e9 : Ex (L2.upd H7 tk (.tup vks)) (L2.upd (L2.upd H7 tk (.tup vks)) tr (.tup [.str nm, .str so, .ref tk, vi, vo, .ref tm])) := fr_new ntr
      have t69 : TF H6 _ := fun b zs hb => e9 _ _ (t68 _ _ hb)
      have hxl : fb n * (xs.length : Int) ≤ fb n * 4 := Int.mul_le_mul_of_nonneg_left (by omega) fn
      refine q _ y7 _ (((f06.trans g7.fr).trans (Fr.ex e8)).trans (Fr.ex e9)) ((hp7.ex e8).ex e9) (by omega) (by omega) ⟨.tuple [.str nm, .str so, .tuple dks, di, dO, .tuple dms], .full h5 h6 hmk hall2 (by omega) (fun z => h8 (fun w => z (by
        subst w
        exact List.eq_nil_of_length_eq_zero hlen2))) ki ko hall (by omega), dt_tup upd_same (dts_cons dt_str (dts_cons dt_str (dts_cons ?_ (dts_cons (DT.tf t69 _ _ dti6) (dts_cons (DT.tf t69 _ _ dto6) (dts_cons (DT.tf t69 _ _ dtm6) dts_nil))))))⟩
      exact dt_tup (e9 _ _ upd_same) (DTs.tf (TF.ex e9) _ _ (DTs.tf (TF.ex e8) _ _ dtks))
end
end Prs
set_option Elab.async false
set_option linter.all false
set_option maxRecDepth 100000
set_option maxHeartbeats 4000000
namespace Prs
open PySem PySem.Spec PyProof.Rows L2 Evl
abbrev lBare : Stmt := top 64
def bb : Nat → Int
  | 0 => 0
  | n + 1 => 4 + 3 * bb n
theorem bb_nn : ∀ n, 0 ≤ bb n
  | 0 => by unfold bb; omega
  | n + 1 => by
    have := bb_nn n
    unfold bb
    omega
/-- all but p and q stands -/
def Fr2 (p q : Addr) (H H' : Hp) : Prop := ∀ b o, b ≠ p → b ≠ q → H b = some o → H' b = some o
theorem Fr2.trans {p q : Addr} {H H1 H2 : Hp} (a : Fr2 p q H H1) (b : Fr2 p q H1 H2) : Fr2 p q H H2 := fun c o h1 h2 h => b c o h1 h2 (a c o h1 h2 h)
theorem Fr2.of {p q : Addr} {H H' : Hp} (f : Fr p H H') : Fr2 p q H H' := fun c o h1 _ h => f c o h1 h
theorem Fr2.ex {p q : Addr} {H H' : Hp} (f : Ex H H') : Fr2 p q H H' := fun c o _ _ h => f c o h
theorem Fr2.upd {p q : Addr} {H : Hp} {o : HO} : Fr2 p q H (L2.upd H q o) := fun c u _ h2 h => by rw [upd_ne h2]; exact h
def Names (xs : List Str) : Prop := ∀ x ∈ xs, x ∈ NAMES
theorem pop0 {x : Str} {ls : List Str} : seqIndex? 0 ((x :: ls).map V.str).length = some 0 := by
  unfold seqIndex?
  simp
  try omega
def BELOW : List Str := ["leaf", "leaf", "end", "one", "all", "back", "deep"]
theorem below_sort {x : Str} (h : x ∈ BELOW) : x ∈ SORTSs := by
  simp only [BELOW, List.mem_cons, List.not_mem_nil, or_false] at h
  rcases h with rfl | rfl | rfl | rfl | rfl | rfl | rfl <;> decide +kernel
def sortAt (H : Hp) (xs : List V) (i : Nat) : V := match xs[i]? with
  | some (.ref b) => (match H b with
    | some (.lst [_, s, _]) => s
    | _ => .non)
  | _ => .non
/-- the loop that draws the stands within a stand; H3: where it begins -/
structure LB (n : Nat) (p lf pl : Addr) (H H3 : Hp) (lt : List Str) (ya : Int) (i : Nat) (H' : Hp) : Prop where
  fr : Fr2 p lf H H'
  dom : ∀ b, H' b = none → H3 b = none
  pu : ∃ y', PurseAt H' p y' ∧ ya ≤ y' ∧ y' ≤ ya + (1 + bb n) * (i : Int)
  ls : ∃ ls' xs, StrsAt H' lf ls' ∧ Names ls' ∧ ls'.length ≤ lt.length ∧ (xs = [] → 3 ≤ ls'.length) ∧ H' pl = some (.lst xs) ∧ xs.length ≤ i ∧ ∀ x ∈ xs, ∃ b, x = .ref b ∧ Bare H3 H' n b
section
variable {P : Program} {w : World} {K : PySem.W.Frag} {mg : Str → Option Value} {base : Heap}
def spBare (n : Nat) : Sp := fun vs H Q _ => ∃ (p lf : Addr) (deep y : Int) (so : Str) (ls : List Str), vs = [.ref p, .int deep, .ref lf, .str so] ∧ PurseAt H p y ∧ 0 ≤ y ∧ y + bb n < 34350000000 ∧ -1000 ≤ deep ∧ deep ≤ 1000 ∧ so ∈ SORTSs ∧ StrsAt H lf ls ∧ Names ls ∧ ls.length ≤ 100 ∧ 1 ≤ ls.length ∧ 1 ≤ n ∧ n ≤ 20 ∧ (isFull so → 0 ≤ deep ∧ deep + 2 ≤ n ∧ 4 ≤ ls.length) ∧
  ∀ a y' ls' H' nm pa, Fr2 p lf H H' → PurseAt H' p y' → y ≤ y' → y' ≤ y + bb n → StrsAt H' lf ls' → Names ls' → ls'.length ≤ ls.length → Bare H H' n a → H' a = some (.lst [.str nm, .str so, .ref pa]) → Q (.ref a) H'
abbrev NB : List Str := ["_law_purse_here", "_law_deep", "_law_left", "_law_sort", "_law_name", "_law_parts", "_law_k", "_law_below", "_law_met", "_law_part"]
theorem scBareL : FnScope NB ["_law_purse_here", "_law_deep", "_law_left", "_law_sort"] (defScope lBare) := ⟨rfl, rfl, rfl, by decide +kernel, rfl, by decide +kernel, by decide +kernel⟩
set_option maxHeartbeats 0 in
theorem ok_bareL (G : Gn K mg) (D : Df K mg "_law_bare" lBare ["_law_purse_here", "_law_deep", "_law_left", "_law_sort"]) (DK : Df K mg "_law_take" lTake ["_law_purse_here", "_law_far"]) (DPk : Df K mg "_law_pick" lPick ["_law_purse_here", "_law_some"]) (DM : Df K mg "_law_mixed" lMixed ["_law_cell", "_law_k"])
    (gr : mg "range" = none) (gi : mg "int" = none) : ∀ n, FnOk P w K mg base CX0 (3 + n) D.f D.fd ["_law_purse_here", "_law_deep", "_law_left", "_law_sort"] (spBare n)
  | 0 => by
    refine ⟨fun vs H Q E h => ?_, fun A outer s H args us vs Q E _ _ _ _ h => ?_⟩
    · obtain ⟨p, lf, deep, y, so, ls, rfl, _⟩ := h
      rfl
    · obtain ⟨p, lf, deep, y, so, ls, rfl, _, _, _, _, _, _, _, _, _, _, h, _⟩ := h
      exact absurd h (by decide)
  | n + 1 => by
    have GS := ok_bareL G D DK DPk DM gr gi n
    have GT : FnOk P w K mg base CX0 2 DK.f DK.fd ["_law_purse_here", "_law_far"] spLTake := ok_ltake DK.F DM
    have GPk : FnOk P w K mg base CX0 3 DPk.f DPk.fd ["_law_purse_here", "_law_some"] (spPick K) := ok_pick DPk.F G DK DM
    refine D.F.ok scBareL (fun vs H Q E h => ?_) (fun cdv A outer s H vs Q E hr h => ?_)
    · obtain ⟨p, lf, deep, y, so, ls, rfl, _⟩ := h
      rfl
    · obtain ⟨p, lf, deep, y, so, ls, rfl, hp, y0, y1, dp0, dp1, hso, hl, hnl, hl9, hl1, hn1, hn9, hfu, q⟩ := h
      have hr2 : Room 2 _ := hr.mono (show 2 ≤ 3 + n by omega)
      have hr3 : Room 3 _ := hr.mono (show 3 ≤ 3 + n by omega)
      have bn := bb_nn n
      have be : bb (n + 1) = 4 + 3 * bb n := rfl
      refine ⟨_, pss_cons (ps_set (i := 4) scBareL.nd rfl (.inl rfl) (pe_bm PySem.F.plainAttrs_list PySem.F.slot_list_pop PySem.F.type_list_pop mt_popAt (pv 2) (pa_cons pe_int pa_nil)))
        (pss_cons (ps_set (i := 5) scBareL.nd rfl (.inl rfl) (pe_lst pa_nil))
        (Evl.pss_cut (ps_if (pt_cmpR op_in_seq (pv 3) (pe_tup (pa_cons pe_str (pa_cons pe_str pa_nil))) (by rfl))
          (pss_cons (ps_for PassesOwn.never rfl (pi_range1 rfl gr (pa_cons (pe_op op_add pe_int (pe_call GT hr2 rfl DK.m DK.F.kp DK.b .nil pass0 (pa_cons (pv 0) (pa_cons pe_int pa_nil)))) pa_nil)) (pg_name (i := 6) scBareL.nd rfl (.inl rfl))
            (pss_cons (ps_set (i := 7) scBareL.nd rfl (.inl rfl) (pe_call GPk hr3 rfl DPk.m DPk.F.kp DPk.b .nil pass0 (pa_cons (pv 0) (pa_cons (pe_lst (pa_cons pe_str (pa_cons pe_str (pa_cons pe_str (pa_cons pe_str (pa_cons pe_str (pa_cons pe_str (pa_cons pe_str pa_nil)))))))) pa_nil))))
            (pss_cons (ps_set (i := 8) scBareL.nd rfl (.inl rfl) (pe_op op_cat (pe_lc (te := tOp (rIxL K) (tVar 9) (tC (.int 1))) (own := [("_law_part", 9)]) (g := gName 9) (tt := tYes) rfl scBareL.nd (pi_list (pv 5)) (blkOk_by (N := NB) (sc := defScope lBare) (by decide +kernel)) (fun _ _ _ _ _ => pg_name (i := 9) scBareL.nd rfl (Or.inl rfl)) (fun _ _ _ _ _ => pts_nil) (fun _ _ _ _ _ => pe_ix (r := rIxL K) ix_list (pv 9) pe_int (fun _ _ => rfl)))
              (pe_op op_rep (pe_lst (pa_cons pe_str (pa_cons pe_str pa_nil))) (pe_callTy call_int1 (by rfl) gi boot_int (pa_cons (pe_or (pe_cmpR op_eq (pv 3) pe_str (nomark _)) (pe_one (pe_cmpR op_eq (pv 6) pe_int (nomark _)))) pa_nil)))))
            (Evl.pss_cut (ps_if (PW.pt (pw_or (PW.pt (pw_and (pt_cmpR op_lt (pv 1) pe_int (nomark _)) (pw_and1 (pt_cmpR op_in_seq (pv 7) (pe_tup (pa_cons pe_str (pa_cons pe_str pa_nil))) (by rfl))))) (pw_or1 (PW.pt (pw_and (pt_cmpR op_in_seq (pv 7) (pe_tup (pa_cons pe_str (pa_cons pe_str pa_nil))) (by rfl)) (pw_and1 (pt_cmpR op_in_seq (pv 7) (pv 8) (by rfl)))))))) (pss_one (ps_set (i := 7) scBareL.nd rfl (.inl rfl) pe_str)) pss_nil)
            (pss_one (ps_if (pt_cmpR op_gt (pe_callB call_len_seq (by rfl) G.len PySem.boot_len (pa_cons (pv 2) pa_nil)) pe_int (nomark _)) (pss_one (ps_expr (pe_bm PySem.F.plainAttrs_list PySem.F.slot_list_append PySem.F.type_list_append mt_append (pv 5) (pa_cons (pe_call GS hr rfl D.m D.F.kp D.b .nil pass0 (pa_cons (pv 0) (pa_cons (pe_op op_sub (pv 1) pe_int) (pa_cons (pv 2) (pa_cons (pv 7) pa_nil))))) pa_nil)))) pss_nil))))))
          (pss_one (ps_if (pt_cmpR (op_eqD hr.units) (pv 5) (pe_lst pa_nil) (nomark _)) (pss_one (ps_set (i := 5) scBareL.nd rfl (.inl rfl) (pe_lst (pa_cons (pe_lst (pa_cons (pe_bm PySem.F.plainAttrs_list PySem.F.slot_list_pop PySem.F.type_list_pop mt_popAt (pv 2) (pa_cons pe_int pa_nil)) (pa_cons pe_str (pa_cons (pe_lst pa_nil) pa_nil)))) pa_nil)))) pss_nil))) pss_nil)
        (pss_one (ps_ret (pe_lst (pa_cons (pv 4) (pa_cons (pv 3) (pa_cons (pv 5) pa_nil)))))))), ?_⟩
      have hlp : lf ≠ p := StrsAt.ne hp hl
      match ls, hl, hnl, hl9, hl1, hfu, q with
      | nm :: lt, hl, hnl, hl9, _, hfu, q =>
      have hnm : nm ∈ NAMES := hnl nm List.mem_cons_self
      have hnt : Names lt := fun x hx => hnl x (List.mem_cons_of_mem _ hx)
      rw [List.length_cons] at hl9
      refine ⟨.ref lf, rfl, .inl ⟨rfl, _, sq_of hl.at_⟩, lf, _, 0, 0, .str nm, rfl, rfl, hl.at_, by decide, by decide, pop0, rfl, ?_⟩
      have ep : (((nm :: lt).map V.str).eraseIdx 0) = lt.map V.str := rfl
      rw [ep]
      have f1 : Fr2 p lf H (L2.upd H lf (.lst (lt.map V.str))) := Fr2.upd
      have hp1 : PurseAt (L2.upd H lf (.lst (lt.map V.str))) p y := by
        obtain ⟨x, z, hpp⟩ := hp
        exact ⟨x, z, by rw [upd_ne (Ne.symm hlp)]; exact hpp⟩
      have hl1 : StrsAt (L2.upd H lf (.lst (lt.map V.str))) lf lt := ⟨upd_same⟩
      have dm1 : ∀ b, (L2.upd H lf (.lst (lt.map V.str))) b = none → H b = none := fun b hb => by
        cases e : H b with
        | none => rfl
        | some o =>
          by_cases z : b = lf
          · rw [z, upd_same] at hb
            cases hb
          · rw [upd_ne z, e] at hb
            cases hb
      revert f1 hp1 hl1 dm1
      generalize (L2.upd H lf (.lst (lt.map V.str))) = Ha
      intro f1 hp1 hl1 dm1
      refine ⟨by show 0 ≤ sizeLine; decide, fun pl npl => ?_⟩
      have e2 : Ex Ha (L2.upd Ha pl (.lst [])) := fr_new npl
      have hp2 := hp1.ex e2
      have hl2 : StrsAt (L2.upd Ha pl (.lst [])) lf lt := ⟨e2 _ _ hl1.at_⟩
      have hpl2 : (L2.upd Ha pl (.lst [])) pl = some (.lst []) := upd_same
      have f2 : Fr2 p lf H (L2.upd Ha pl (.lst [])) := f1.trans (Fr2.ex e2)
      have nplH : H pl = none := dm1 _ npl
      have plp : pl ≠ p := hp1.ne npl
      have pll : pl ≠ lf := fun z => by
        rw [z, hl1.at_] at npl
        cases npl
      have dm2 : ∀ b, (L2.upd Ha pl (.lst [])) b = none → H b = none := fun b hb => dm1 b (fresh_back e2 hb)
      revert hp2 hl2 hpl2 f2 dm2
      generalize (L2.upd Ha pl (.lst [])) = H1
      intro hp2 hl2 hpl2 f2 dm2
      clear e2 f1 hp1 hl1 dm1 npl
      -- the stands in it
      refine Evl.q_cut (M := fun σ' H' => Fr2 p lf H H' ∧ (∃ y', PurseAt H' p y' ∧ y ≤ y' ∧ y' ≤ y + bb (n + 1)) ∧ (∃ ls', StrsAt H' lf ls' ∧ Names ls' ∧ ls'.length ≤ lt.length) ∧ ∃ pr xs, H pr = none ∧ H' pr = some (.lst xs) ∧ xs.length ≤ 4 ∧ (xs ≠ [] → isFull so) ∧ (isFull so → xs ≠ []) ∧ (∀ x ∈ xs, ∃ b, x = .ref b ∧ Bare H H' n b) ∧ ∃ v6 v7 v8 v9 : Option V, σ' = [some (.ref p), some (.int deep), some (.ref lf), some (.str so), some (.str nm), some (.ref pr), v6, v7, v8, v9]) ?_ ?_
      · refine s_if (b := inV (.str so) (FULL.map V.str)) (et_test (ev_inU (xs := FULL.map V.str) (ev_var rfl) (eu_tup (ea_cons ev_c (ea_cons ev_c ea_nil)) (by show 2 ≤ 100000; decide)) rfl (by decide +kernel))) (fun hb H2 e2 => ?_) (fun hb H2 e2 => ?_)
        · have hful : isFull so := hb
          obtain ⟨u0, u1, u2⟩ := hfu hful
          rw [List.length_cons] at u2
          refine ⟨.ref p, rfl, p, 3, y, rfl, by decide, by decide, hp2.ex e2, y0, by omega, fun d ya H3 d0 d1 a1 a2 f3 hp3 => ?_⟩
          obtain ⟨k, rfl⟩ := Int.eq_ofNat_of_zero_le d0
          have hl3 : StrsAt H3 lf lt := StrsAt.fr (hp2.ex e2) ⟨e2 _ _ hl2.at_⟩ f3
          have hpl3 : H3 pl = some (.lst []) := f3 _ _ plp (e2 _ _ hpl2)
          have f03 : Fr2 p lf H H3 := (f2.trans (Fr2.ex e2)).trans (Fr2.of f3)
          have dm3 : ∀ b, H3 b = none → H b = none := fun b hb => dm2 b (by
            cases e : H1 b with
            | none => rfl
            | some o =>
              exfalso
              by_cases z : b = p
              · obtain ⟨x, z', hpp⟩ := hp3
                rw [z, hpp] at hb
                cases hb
              · rw [f3 b o z (e2 _ _ e)] at hb
                cases hb)
          refine ⟨1, (k : Int), rfl, rfl, 1 + (k : Int), rfl, by omega, by omega, ?_⟩
          have hk : (1 + (k : Int)).toNat = k + 1 := by omega
          rw [hk]
          refine for_range (lo := 0) (n := k + 1) (fun i σ' H' => LB n p lf pl H H3 lt ya i H' ∧ ∃ v6 v7 v8 v9 : Option V, σ' = [some (.ref p), some (.int deep), some (.ref lf), some (.str so), some (.str nm), some (.ref pl), v6, v7, v8, v9]) ?_ ?_ ?_
          · exact ⟨⟨f03, fun b hb => hb, ⟨ya, hp3, by omega, by simp⟩, lt, [], hl3, hnt, Nat.le_refl _, fun _ => by omega, hpl3, Nat.zero_le _, fun x hx => by cases hx⟩, none, none, none, none, rfl⟩
          · rintro i σ' H4 hi ⟨lb, v6, v7, v8, v9, rfl⟩
            obtain ⟨g1, g2, ⟨y4, hp4, b1, b2⟩, ls4, xs, hl4, hn4, hle4, hx0, hpl4, hxl, hxs⟩ := lb
            have hbi : (1 + bb n) * (i : Int) ≤ (1 + bb n) * 2 := Int.mul_le_mul_of_nonneg_left (by omega) (by omega)
            show tSeq _ _ _ [some (.ref p), some (.int deep), some (.ref lf), some (.str so), some (.str nm), some (.ref pl), some (.int (0 + (i : Int))), v7, v8, v9] H4
            -- below
            refine ⟨.ref p, rfl, by show 7 ≤ sizeLine; exact sz_of (by decide), fun l nl => ?_⟩
            have e5 : Ex H4 (L2.upd H4 l (.lst (BELOW.map V.str))) := fr_new nl
            refine ⟨p, l, BELOW.map V.str, y4, rfl, hp4.ex e5, by omega, by omega, upd_same, by decide, by decide, hp4.ne nl, fun j v y5 H5 hj l1 l2 f5 hp5 => ?_⟩
            rw [List.getElem?_map] at hj
            obtain ⟨bl, hbl, rfl⟩ := Option.map_eq_some_iff.mp hj
            have hbs := below_sort (List.mem_of_getElem? hbl)
            have st : ∀ b o, b ≠ p → H4 b = some o → H5 b = some o := fun b o hb ho => f5 b o hb (e5 _ _ ho)
            have hl5 : StrsAt H5 lf ls4 := ⟨st _ _ hlp hl4.at_⟩
            have hpl5 : H5 pl = some (.lst xs) := st _ _ plp hpl4
            have hxs5 : ∀ x ∈ xs, ∃ b, x = .ref b ∧ Bare H3 H5 n b := fun x hx => by
              obtain ⟨b, e, hb⟩ := hxs x hx
              refine ⟨b, e, hb.stay (fun _ h => h) fun c o hc ho => st c o (fun z => ?_) ho⟩
              obtain ⟨a, w, hpp⟩ := hp3
              rw [z, hpp] at hc
              cases hc
            have dm5 : ∀ b, H5 b = none → H3 b = none := fun b hb => g2 b (by
              cases e : H4 b with
              | none => rfl
              | some o =>
                exfalso
                by_cases z : b = p
                · obtain ⟨x, z', hpp⟩ := hp5
                  rw [z, hpp] at hb
                  cases hb
                · rw [st b o z e] at hb
                  cases hb)
            have g5 : Fr2 p lf H H5 := (g1.trans (Fr2.ex e5)).trans (Fr2.of f5)
            clear nl e5 hj hl4 hpl4 hxs g1 g2 hp4 st f5
            -- met
            have em : EvL (tLc (iList K (tVar 5)) (gName 9) tYes (tOp (rIxL K) (tVar 9) (tC (.int 1))) [9]) [some (.ref p), some (.int deep), some (.ref lf), some (.str so), some (.str nm), some (.ref pl), some (.int (0 + (i : Int))), some (.str bl), v8, v9] H5 (given xs.length (fun _ => true) (sortAt H5 xs)) := by
              refine el_lcL (K := K) (fun _ => true) (sortAt H5 xs) (ev_var rfl) (sq_of hpl5) (by omega) (fun _ => rfl) (fun m x H' _ _ => fun H1 _ Q q => q H1 (Ex.refl H1)) (fun m x H' e' hm _ => ?_)
              obtain ⟨b, rfl, hbb⟩ := hxs5 x (List.mem_of_getElem? hm)
              cases n with
              | zero => exact hbb.elim
              | succ n =>
                obtain ⟨pb, nb, sb, xb, _, _, k3, _⟩ := hbb
                have hv : sortAt H5 xs m = .str sb := by
                  unfold sortAt
                  rw [hm]
                  dsimp only
                  rw [k3]
                rw [hv]
                exact ev_op (ev_var rfl) ev_c (rv_ixL' (sq_of (e' _ _ k3)) rfl)
            have ek : Ev (tCB (fun xs H Q => (∃ i, xs = [.int i] ∧ Q (.int i) H) ∨ ∃ k, xs = [.bl k] ∧ Q (.int (if k then 1 else 0)) H) (tCons (tOrV (tOp rEq (tVar 3) (tC (.str "all"))) (tOp rEq (tVar 6) (tC (.int 0)))) tNil)) [some (.ref p), some (.int deep), some (.ref lf), some (.str so), some (.str nm), some (.ref pl), some (.int (0 + (i : Int))), some (.str bl), v8, v9] H5 (.int ((if (decide (V.str so = V.str "all") || decide (V.int (0 + (i : Int)) = V.int 0)) = true then 1 else 0 : Nat) : Int)) := by
              refine ev_cb (ea_cons (ev_orV (a := decide (V.str so = V.str "all")) (b := decide (V.int (0 + (i : Int)) = V.int 0)) (ev_op (ev_var rfl) ev_c (rv_eq rfl)) fun _ => ev_op (ev_var rfl) ev_c (rv_eq rfl)) ea_nil) (fun H1 e Q q => Or.inr ⟨_, rfl, ?_⟩)
              have : (if (decide (V.str so = V.str "all") || decide (V.int (0 + (i : Int)) = V.int 0)) = true then (1 : Int) else 0) = ((if (decide (V.str so = V.str "all") || decide (V.int (0 + (i : Int)) = V.int 0)) = true then 1 else 0 : Nat) : Int) := by split <;> rfl
              rw [this]
              exact q H1 (Ex.refl H1)
            generalize hkk : (if (decide (V.str so = V.str "all") || decide (V.int (0 + (i : Int)) = V.int 0)) = true then 1 else 0 : Nat) = kk at ek
            have hkk1 : kk ≤ 1 := by rw [← hkk]; split <;> omega
            have hml := given_len xs.length (fun _ => true) (sortAt H5 xs)
            refine Evl.q_asgL (i := 8) (xs := (given xs.length (fun _ => true) (sortAt H5 xs)) ++ (List.replicate kk [V.str "back", V.str "deep"]).flatten) (el_cat em (el_rep (el_lst (ea_cons ev_c (ea_cons ev_c ea_nil)) (by show 2 ≤ 100000; decide)) ek (by omega) (by show 2 * kk ≤ 100000; omega)) ?_) fun ma H6 nma e6 hma => ?_
            · have : (List.replicate kk [V.str "back", V.str "deep"]).flatten.length ≤ 2 := by
                rcases (by omega : kk = 0 ∨ kk = 1) with rfl | rfl <;> decide
              omega
            have hmf : ((given xs.length (fun _ => true) (sortAt H5 xs)) ++ (List.replicate kk [V.str "back", V.str "deep"]).flatten).all flatV = true := by
              rw [List.all_append, Bool.and_eq_true]
              constructor
              · refine List.all_eq_true.mpr fun v hv => ?_
                unfold given at hv
                obtain ⟨m, hm, rfl⟩ := List.mem_map.mp hv
                have hm' : m < xs.length := List.mem_range.mp (List.mem_filter.mp hm).1
                have hg := List.getElem?_eq_getElem hm'
                obtain ⟨b, hb', hbb⟩ := hxs5 xs[m] (List.getElem_mem hm')
                rw [hb'] at hg
                cases n with
                | zero => exact hbb.elim
                | succ n =>
                  obtain ⟨pb, nb, sb, xb, _, _, k3, _⟩ := hbb
                  unfold sortAt
                  rw [hg]
                  dsimp only
                  rw [k3]
                  rfl
              · rcases (by omega : kk = 0 ∨ kk = 1) with rfl | rfl <;> rfl
            have hp6 := hp5.ex e6
            have hl6 : StrsAt H6 lf ls4 := ⟨e6 _ _ hl5.at_⟩
            have hpl6 := e6 _ _ hpl5
            have hxs6 : ∀ x ∈ xs, ∃ b, x = .ref b ∧ Bare H3 H6 n b := fun x hx => by
              obtain ⟨b, e, hb⟩ := hxs5 x hx
              exact ⟨b, e, hb.stay (fun _ h => h) fun c o _ ho => e6 c o ho⟩
            have dm6 : ∀ b, H6 b = none → H3 b = none := fun b hb => dm5 b (fresh_back e6 hb)
            have g6 := g5.trans (Fr2.ex (q := lf) (p := p) e6)
            -- leaf, where it can't be
            refine Evl.q_cut (M := fun σ' H' => Ex H6 H' ∧ ∃ b2 : Str, b2 ∈ SORTSs ∧ (isFull b2 → 1 ≤ deep) ∧ ∃ v8 v9 : Option V, σ' = [some (.ref p), some (.int deep), some (.ref lf), some (.str so), some (.str nm), some (.ref pl), some (.int (0 + (i : Int))), some (.str b2), v8, v9]) ?_ ?_
            · refine s_when (b := (decide (deep < 1) && inV (.str bl) (FULL.map V.str)) || (inV (.str bl) (MARKER.map V.str) && inV (.str bl) ((given xs.length (fun _ => true) (sortAt H5 xs)) ++ (List.replicate kk [V.str "back", V.str "deep"]).flatten)))
                (et_or (et_and (et_test (ev_op (ev_var rfl) ev_c rv_I0)) fun _ => et_test (ev_inU (xs := FULL.map V.str) (ev_var rfl) (eu_tup (ea_cons ev_c (ea_cons ev_c ea_nil)) (by show 2 ≤ 100000; decide)) rfl (by decide +kernel))) fun _ =>
                  et_and (et_test (ev_inU (xs := MARKER.map V.str) (ev_var rfl) (eu_tup (ea_cons ev_c (ea_cons ev_c ea_nil)) (by show 2 ≤ 100000; decide)) rfl (by decide +kernel))) fun _ => et_test (ev_op (ev_var rfl) (ev_var rfl) (rv_isL (sq_of hma) rfl hmf))) (fun hb H7 e7 => ?_) (fun hb H7 e7 => ?_)
              · exact s_asg (v := .str "leaf") ev_c fun H8 e8 => ⟨e7.trans e8, "leaf", by decide +kernel, (fun z => absurd z (by decide +kernel)), _, _, rfl⟩
              · refine ⟨e7, bl, hbs, fun z => ?_, _, _, rfl⟩
                rw [Bool.or_eq_false_iff] at hb
                have h1 := hb.1
                rw [show inV (.str bl) (FULL.map V.str) = true from z, Bool.and_true] at h1
                have := of_decide_eq_false h1
                omega
            rintro σ' H7 ⟨e7, b2, hb2, hbd, w8, w9, rfl⟩
            have hp7 := hp6.ex e7
            have hl7 : StrsAt H7 lf ls4 := ⟨e7 _ _ hl6.at_⟩
            have hpl7 := e7 _ _ hpl6
            have hxs7 : ∀ x ∈ xs, ∃ b, x = .ref b ∧ Bare H3 H7 n b := fun x hx => by
              obtain ⟨b, e, hb⟩ := hxs6 x hx
              exact ⟨b, e, hb.stay (fun _ h => h) fun c o _ ho => e7 c o ho⟩
            have dm7 : ∀ b, H7 b = none → H3 b = none := fun b hb => dm6 b (fresh_back e7 hb)
            have g7 := g6.trans (Fr2.ex (q := lf) (p := p) e7)
            have hbi2 : (1 + bb n) * ((i + 1 : Nat) : Int) = (1 + bb n) * (i : Int) + (1 + bb n) := by rw [Int.natCast_succ, Int.mul_add, Int.mul_one]
            refine s_when (b := decide (((ls4.map V.str).length : Int) > 3)) (et_test (ev_op (ev_len (ev_var rfl) (sq_of hl7.at_)) ev_c rv_I0)) (fun hb H8 e8 => ?_) (fun hb H8 e8 => ?_)
            · have hb' := of_decide_eq_true hb
              rw [List.length_map] at hb'
              have hl8 : StrsAt H8 lf ls4 := ⟨e8 _ _ hl7.at_⟩
              have hpl8 := e8 _ _ hpl7
              refine ⟨.ref pl, rfl, .inl ⟨rfl, _, sq_of hpl8⟩, .ref p, rfl, .int deep, rfl, deep, 1, rfl, rfl, .ref lf, rfl, .str b2, rfl, p, lf, deep - 1, y5, b2, ls4, rfl, hp7.ex e8, by omega, by omega, by omega, by omega, hb2, hl8, hn4, by omega, by omega, by omega, by omega, fun z => ⟨by have := hbd z; omega, by omega, by omega⟩, fun a y9 ls9 H9 nm9 pa9 f9 hp9 c1 c2 hl9' hn9' hle9 hba9 _ => ?_⟩
              have hpl9 : H9 pl = some (.lst xs) := f9 _ _ plp pll hpl8
              refine ⟨pl, xs, .ref a, rfl, rfl, hpl9, sz_lt (by omega), ⟨?_, ?_, ⟨y9, ?_, by omega, by omega⟩, ls9, xs ++ [.ref a], ?_, hn9', by omega, fun z => absurd (congrArg List.length z) (by rw [List.length_append]; simp), upd_same, by rw [List.length_append, List.length_singleton]; omega, fun x hx => ?_⟩, _, _, _, _, rfl⟩
              · intro b o h1 h2 ho
                rw [upd_ne (ne_of_none ho nplH)]
                exact f9 b o h1 h2 (e8 _ _ (g7 b o h1 h2 ho))
              · intro b hb
                by_cases z : b = pl
                · rw [z, upd_same] at hb
                  cases hb
                · rw [upd_ne z] at hb
                  refine dm7 b ?_
                  cases e : H7 b with
                  | none => rfl
                  | some o =>
                    exfalso
                    by_cases z1 : b = p
                    · obtain ⟨x, z', hpp⟩ := hp9
                      rw [z1, hpp] at hb
                      cases hb
                    · by_cases z2 : b = lf
                      · rw [z2, hl9'.at_] at hb
                        cases hb
                      · rw [f9 b o z1 z2 (e8 _ _ e)] at hb
                        cases hb
              · obtain ⟨x, z', hpp⟩ := hp9
                exact ⟨x, z', by rw [upd_ne (Ne.symm plp)]; exact hpp⟩
              · exact ⟨by rw [upd_ne (Ne.symm pll)]; exact hl9'.at_⟩
              · have np3 : ∀ c, H3 c = none → c ≠ p ∧ c ≠ lf ∧ c ≠ pl := fun c hc => by
                  refine ⟨fun z => ?_, fun z => ?_, fun z => ?_⟩
                  · obtain ⟨x, z', hpp⟩ := hp3
                    rw [z, hpp] at hc
                    cases hc
                  · rw [z, hl3.at_] at hc
                    cases hc
                  · rw [z, hpl3] at hc
                    cases hc
                rcases List.mem_append.mp hx with h | h
                · obtain ⟨b, e, hb3⟩ := hxs7 x h
                  refine ⟨b, e, hb3.stay (fun _ h => h) fun c o hc ho => ?_⟩
                  obtain ⟨z1, z2, z3⟩ := np3 c hc
                  rw [upd_ne z3]
                  exact f9 c o z1 z2 (e8 _ _ ho)
                · rw [List.mem_singleton.mp h]
                  refine ⟨a, rfl, hba9.stay (fun c hc => dm7 c (fresh_back e8 hc)) fun c o hc ho => ?_⟩
                  obtain ⟨_, _, z3⟩ := np3 c (dm7 c (fresh_back e8 hc))
                  rw [upd_ne z3]
                  exact ho
            · refine ⟨⟨g7.trans (Fr2.ex e8), fun b hb => dm7 b (fresh_back e8 hb), ⟨y5, hp7.ex e8, by omega, by omega⟩, ls4, xs, ⟨e8 _ _ hl7.at_⟩, hn4, hle4, hx0, e8 _ _ hpl7, by omega, fun x hx => ?_⟩, _, _, _, _, rfl⟩
              obtain ⟨b, e, hb3⟩ := hxs7 x hx
              exact ⟨b, e, hb3.stay (fun _ h => h) fun c o _ ho => e8 c o ho⟩
          · rintro σ' H4 ⟨lb, v6, v7, v8, v9, rfl⟩
            obtain ⟨g1, g2, ⟨y4, hp4, b1, b2⟩, ls4, xs, hl4, hn4, hle4, hx0, hpl4, hxl, hxs⟩ := lb
            have hbi : (1 + bb n) * ((k + 1 : Nat) : Int) ≤ (1 + bb n) * 3 := Int.mul_le_mul_of_nonneg_left (by omega) (by omega)
            have hxsH : ∀ H', (∀ c o, H3 c = none → H4 c = some o → H' c = some o) → ∀ x ∈ xs, ∃ b, x = .ref b ∧ Bare H H' n b := fun H' hst x hx => by
              obtain ⟨b, e, hb⟩ := hxs x hx
              exact ⟨b, e, hb.stay (fun c hc => dm3 c hc) hst⟩
            refine ⟨.ref pl, rfl, by show 0 ≤ sizeLine; decide, fun l nl => ?_⟩
            have e5 : Ex H4 (L2.upd H4 l (.lst [])) := fr_new nl
            obtain ⟨ds, q1, q2, q3, q4⟩ := dps_map (K := K) (H := L2.upd H4 l (.lst [])) (m := 2 * n) xs fun x hx => by
              obtain ⟨b, rfl, hbb⟩ := hxsH _ (fun c o _ ho => e5 c o ho) x hx
              exact hbb.dp
            have sh : SeqAt.shaped (.list ds) = true := Bool.and_eq_true_iff.mpr ⟨by simp only [PyData.canLay0, q2], decide_eq_true (by simp only [PyData.depth]; show PyData.depthAll ds + 1 ≤ 64; omega)⟩
            have hp5 := hp4.ex e5
            refine ⟨.list ds, .list [], .lst (sq_of (e5 _ _ hpl4)) q1, .lst (sq_of upd_same) .nil, sh, by decide, _, rfl, ite_of (fun hq => ?_) (fun hq => ?_)⟩
            · have hxe : xs = [] := by
                cases ds with
                | nil => exact List.eq_nil_of_length_eq_zero q4.symm
                | cons d ds => simp [PyData.eqv, PyData.eqvAll] at hq
              subst hxe
              have hl3' := hx0 rfl
              match ls4, hl4, hn4, hle4, hl3' with
              | x :: lr, hl4, hn4, hle4, _ =>
              have hl5 := e5 _ _ hl4.at_
              refine ⟨.ref lf, rfl, .inl ⟨rfl, _, sq_of hl5⟩, lf, _, 0, 0, .str x, rfl, rfl, hl5, by decide, by decide, pop0, rfl, ?_⟩
              have ep2 : (((x :: lr).map V.str).eraseIdx 0) = lr.map V.str := rfl
              rw [ep2]
              have f6 : Fr2 p lf (L2.upd H4 l (.lst [])) (L2.upd (L2.upd H4 l (.lst [])) lf (.lst (lr.map V.str))) := Fr2.upd
              have hp6 : PurseAt (L2.upd (L2.upd H4 l (.lst [])) lf (.lst (lr.map V.str))) p y4 := by
                obtain ⟨a, z, hpp⟩ := hp5
                exact ⟨a, z, by rw [upd_ne (Ne.symm hlp)]; exact hpp⟩
              have hl6 : (L2.upd (L2.upd H4 l (.lst [])) lf (.lst (lr.map V.str))) lf = some (.lst (lr.map V.str)) := upd_same
              have dmm : ∀ b, (L2.upd (L2.upd H4 l (.lst [])) lf (.lst (lr.map V.str))) b = none → H b = none := fun b hb => dm3 b (g2 b (fresh_back e5 (by
                by_cases z : b = lf
                · rw [z, upd_same] at hb
                  cases hb
                · rw [upd_ne z] at hb
                  exact hb)))
              have f06 : Fr2 p lf H (L2.upd (L2.upd H4 l (.lst [])) lf (.lst (lr.map V.str))) := (g1.trans (Fr2.ex e5)).trans f6
              revert hp6 hl6 dmm f06
              generalize (L2.upd (L2.upd H4 l (.lst [])) lf (.lst (lr.map V.str))) = H6
              intro hp6 hl6 dmm f06
              refine ⟨by show 0 ≤ sizeLine; decide, fun l0 nl0 => ⟨by show 3 ≤ sizeLine; exact sz_of (by decide), fun l1 nl1 => ⟨by show 1 ≤ sizeLine; exact sz_of (by decide), fun l2 nl2 => ?_⟩⟩⟩
              have a0 : Ex H6 (L2.upd H6 l0 (.lst [])) := fr_new nl0
              have a1 : Ex (L2.upd H6 l0 (.lst [])) (L2.upd (L2.upd H6 l0 (.lst [])) l1 (.lst [.str x, .str "leaf", .ref l0])) := fr_new nl1
              have a2 : Ex (L2.upd (L2.upd H6 l0 (.lst [])) l1 (.lst [.str x, .str "leaf", .ref l0])) (L2.upd (L2.upd (L2.upd H6 l0 (.lst [])) l1 (.lst [.str x, .str "leaf", .ref l0])) l2 (.lst [.ref l1])) := fr_new nl2
              have a02 := (a0.trans a1).trans a2
              refine ⟨f06.trans (Fr2.ex a02), ⟨y4, hp6.ex a02, by omega, by omega⟩, ⟨lr, ⟨a02 _ _ hl6⟩, fun z hz => hn4 z (List.mem_cons_of_mem _ hz), by rw [List.length_cons] at hle4; omega⟩, l2, [.ref l1], dmm _ (fresh_back (a0.trans a1) nl2), upd_same, by show 1 ≤ 4; decide, (fun _ => hful), (fun _ => by simp), fun v hv => ?_, _, _, _, _, rfl⟩
              refine ⟨l1, List.mem_singleton.mp hv, ?_⟩
              have b1 : Bare H (L2.upd (L2.upd (L2.upd H6 l0 (.lst [])) l1 (.lst [.str x, .str "leaf", .ref l0])) l2 (.lst [.ref l1])) 1 l1 := ⟨l0, x, "leaf", [], dmm _ (fresh_back a0 nl1), dmm _ nl0, a2 _ _ upd_same, a2 _ _ (a1 _ _ upd_same), hn4 x List.mem_cons_self, by decide +kernel, Nat.zero_le _, fun z => absurd rfl z, (fun z => absurd z (by decide +kernel)), fun y hy => by cases hy⟩
              exact b1.to (by omega)
            · have hxne : xs ≠ [] := fun z => by
                subst z
                cases ds with
                | nil => simp [PyData.eqv, PyData.eqvAll] at hq
                | cons d ds => simp at q4
              exact ⟨g1.trans (Fr2.ex e5), ⟨y4, hp5, by omega, by omega⟩, ⟨ls4, ⟨e5 _ _ hl4.at_⟩, hn4, hle4⟩, pl, xs, nplH, e5 _ _ hpl4, by omega, (fun _ => hful), (fun _ => hxne), hxsH _ (fun c o _ ho => e5 c o ho), _, _, _, _, rfl⟩
        · refine ⟨f2.trans (Fr2.ex e2), ⟨y, hp2.ex e2, by omega, by omega⟩, ⟨lt, ⟨e2 _ _ hl2.at_⟩, hnt, Nat.le_refl _⟩, pl, [], nplH, e2 _ _ hpl2, Nat.zero_le _, fun z => absurd rfl z, fun z => ?_, (fun x hx => by cases hx), none, none, none, none, rfl⟩
          rw [show inV (.str so) (FULL.map V.str) = true from z] at hb
          cases hb
      rintro σ' H9 ⟨f9, ⟨y9, hp9, m1, m2⟩, ⟨ls9, hl9', hn9', hle9⟩, pr, xs, npr, hpr, hxl, hxf, hfx, hxs, v6, v7, v8, v9, rfl⟩
      refine ⟨.str nm, rfl, .str so, rfl, .ref pr, rfl, by show 3 ≤ sizeLine; exact sz_of (by decide), fun a na => ?_⟩
      have e10 : Ex H9 (L2.upd H9 a (.lst [.str nm, .str so, .ref pr])) := fr_new na
      have naH : H a = none := by
        cases e : H a with
        | none => rfl
        | some o =>
          exfalso
          by_cases z1 : a = p
          · obtain ⟨x, z, hpp⟩ := hp9
            rw [z1, hpp] at na
            cases na
          · by_cases z2 : a = lf
            · rw [z2, hl9'.at_] at na
              cases na
            · rw [f9 a o z1 z2 e] at na
              cases na
      refine q a y9 ls9 _ nm pr (f9.trans (Fr2.ex e10)) (hp9.ex e10) m1 m2 ⟨e10 _ _ hl9'.at_⟩ hn9' (by rw [List.length_cons]; omega) ⟨pr, nm, so, xs, naH, npr, upd_same, e10 _ _ hpr, hnm, hso, hxl, hxf, hfx, fun x hx => ?_⟩ upd_same
      obtain ⟨b, e, hb⟩ := hxs x hx
      exact ⟨b, e, hb.stay (fun _ h => h) fun c o _ ho => e10 c o ho⟩
end
end Prs
set_option Elab.async false
set_option linter.all false
set_option maxRecDepth 100000
set_option maxHeartbeats 4000000
namespace Prs
open PySem PySem.Spec PyProof.Rows L2 Evl
abbrev lAll : Stmt := top 65
def cnt : Nat → Nat
  | 0 => 0
  | n + 1 => 1 + 4 * cnt n
section
variable {P : Program} {w : World} {K : PySem.W.Frag} {mg : Str → Option Value} {base : Heap}
/-! ### _law_names -/
def spNames : Sp := fun vs H Q _ => vs = [] ∧ ∀ l H', H l = none → Ex H H' → H' l = some (.lst (NAMES.map V.str)) → Q (.ref l) H'
theorem scNamesL : FnScope [] [] (defScope lNames) := ⟨rfl, rfl, rfl, by decide +kernel, rfl, by decide +kernel, by decide +kernel⟩
theorem ok_namesL {f : Addr} {fd : FuncData} (F : Fun K "_law_names" "_law_names" lNames f fd) : FnOk P w K mg base CX0 1 f fd [] spNames := by
  refine F.ok scNamesL (fun vs H Q E h => ?_) (fun cdv A outer s H vs Q E hr h => ?_)
  · obtain ⟨rfl, _⟩ := h
    rfl
  · obtain ⟨rfl, q⟩ := h
    refine ⟨_, pss_one (ps_ret (pe_m1 PySem.F.slot_str_split PySem.F.type_str_split mt_split pe_str pe_str)), ?_⟩
    exact ⟨⟨_, rfl⟩, _, _, rfl, rfl, rfl, by decide +kernel, fun l nl => q l _ nl (fr_new nl) upd_same⟩
/-! ### _law_all_of -/
def spAll (n : Nat) : Sp := fun vs H Q _ => ∃ (ba : Addr) (B : Hp), vs = [.ref ba] ∧ Bare B H n ba ∧ n ≤ 4 ∧ ∀ l H' t, H l = none → Ex H H' → H' l = some (.lst (.ref ba :: t)) → (∀ x ∈ t, ∃ b, x = .ref b ∧ Bare B H' n b) → t.length + 1 ≤ cnt n → (∀ nm so pa, H ba = some (.lst [.str nm, .str so, .ref pa]) → isFull so → t ≠ []) → Q (.ref l) H'
theorem scAllL : FnScope ["_law_bare_here", "_law_found", "_law_part"] ["_law_bare_here"] (defScope lAll) := ⟨rfl, rfl, rfl, by decide +kernel, rfl, by decide +kernel, by decide +kernel⟩
theorem cnt_le {n : Nat} (h : n ≤ 4) : cnt n ≤ 85 := by
  rcases (by omega : n = 0 ∨ n = 1 ∨ n = 2 ∨ n = 3 ∨ n = 4) with rfl | rfl | rfl | rfl | rfl <;> decide
theorem ok_allL (D : Df K mg "_law_all_of" lAll ["_law_bare_here"]) : ∀ n, FnOk P w K mg base CX0 n D.f D.fd ["_law_bare_here"] (spAll n)
  | 0 => by
    refine ⟨fun vs H Q E h => ?_, fun A outer s H args us vs Q E _ _ _ _ h => ?_⟩
    · obtain ⟨ba, B, rfl, _⟩ := h
      rfl
    · obtain ⟨ba, B, rfl, hb, _⟩ := h
      exact hb.elim
  | n + 1 => by
    have GS := ok_allL D n
    refine D.F.ok scAllL (fun vs H Q E h => ?_) (fun cdv A outer s H vs Q E hr h => ?_)
    · obtain ⟨ba, B, rfl, _⟩ := h
      rfl
    · obtain ⟨ba, B, rfl, hb, hn, q⟩ := h
      refine ⟨_, pss_cons (ps_set (i := 1) scAllL.nd rfl (.inl rfl) (pe_lst (pa_cons (pv 0) pa_nil)))
        (pss_cons (ps_for PassesOwn.never rfl (pi_list (pe_ix ix_list (pv 0) pe_int (fun _ _ => rfl))) (pg_name (i := 2) scAllL.nd rfl (.inl rfl)) (pss_one (ps_set (i := 1) scAllL.nd rfl (.inl rfl) (pe_op op_cat (pv 1) (pe_call GS hr rfl D.m D.F.kp D.b .nil pass0 (pa_cons (pv 2) pa_nil))))))
        (pss_one (ps_ret (pv 1)))), ?_⟩
      obtain ⟨pa, nm, so, xs, _, _, h3, h4, h5, h6, h7, h8, h9, h10⟩ := id hb
      have hc1 : cnt (n + 1) = 1 + 4 * cnt n := rfl
      have hc := cnt_le (n := n) (by omega)
      refine Evl.q_asgL (xs := [.ref ba]) (el_lst (ea_cons (ev_var rfl) ea_nil) (by show 1 ≤ 100000; decide)) fun l H1 nl e1 hl => ?_
      have h31 := e1 _ _ h3
      have h41 := e1 _ _ h4
      refine Evl.q_forL (K := K) (a := pa) (xs := xs) (ev_op (ev_var rfl) ev_c (rv_ixL' (sq_of h31) rfl)) (sq_of h41) (fun i σ H' => Ex H1 H' ∧ ∃ lf t, σ.length = 3 ∧ σ[0]? = some (some (.ref ba)) ∧ σ[1]? = some (some (.ref lf)) ∧ H lf = none ∧ H' lf = some (.lst (.ref ba :: t)) ∧ (∀ x ∈ t, ∃ b, x = .ref b ∧ Bare B H' n b) ∧ t.length ≤ i * cnt n ∧ (0 < i → t ≠ [])) (fun H2 e2 => ⟨e2, l, [], rfl, rfl, rfl, nl, e2 _ _ hl, (fun x hx => by cases hx), (by simp), (fun z => absurd z (by decide))⟩) (fun i σ H' _ z => sq_of (z.1 _ _ h41)) (fun i x σ H' hi z => ?_) (fun σ H' z => ?_)
      · obtain ⟨e2, lf, t, hs0, hs1, hs2, nlf, hlf, ht, htl, ht0⟩ := z
        match σ, hs0, hs1, hs2 with
        | [_, _, s3], _, hs1, hs2 =>
        cases hs1
        cases hs2
        obtain ⟨b, rfl, hbb⟩ := h10 x (List.mem_of_getElem? hi)
        have hbb' : Bare B H' n b := hbb.stay (fun _ h => h) fun c o _ ho => e2 c o (e1 c o ho)
        have hil := (List.getElem?_eq_some_iff.mp hi).1
        have hi4 : i * cnt n ≤ 3 * 85 := Nat.mul_le_mul (by omega) hc
        refine ⟨.ref lf, rfl, .ref b, rfl, b, B, rfl, hbb', by omega, fun l2 H2 t2 nl2 e3 hl2 ht2 hl2' _ => ⟨lf, l2, _, _, rfl, rfl, e3 _ _ hlf, hl2, ?_, fun l3 nl3 => ?_⟩⟩
        · refine sz_of ?_
          simp only [List.length_cons]
          omega
        · have e4 : Ex H2 (L2.upd H2 l3 (.lst ((.ref ba :: t) ++ (.ref b :: t2)))) := fr_new nl3
          have e24 := (e2.trans e3).trans e4
          refine ⟨e24, l3, t ++ (.ref b :: t2), rfl, rfl, rfl, fresh_back (e1.trans (e2.trans e3)) nl3, upd_same, fun y hy => ?_, ?_, fun _ => by simp⟩
          · rcases List.mem_append.mp hy with h | h
            · obtain ⟨c, e, hcb⟩ := ht y h
              exact ⟨c, e, hcb.stay (fun _ h => h) fun d o _ ho => e4 d o (e3 d o ho)⟩
            · rcases List.mem_cons.mp h with h | h
              · exact ⟨b, h, hbb'.stay (fun _ h => h) fun d o _ ho => e4 d o (e3 d o ho)⟩
              · obtain ⟨c, e, hcb⟩ := ht2 y h
                exact ⟨c, e, hcb.stay (fun _ h => h) fun d o _ ho => e4 d o ho⟩
          · rw [List.length_append, List.length_cons, Nat.succ_mul]
            omega
      · obtain ⟨e2, lf, t, hs0, hs1, hs2, nlf, hlf, ht, htl, ht0⟩ := z
        have hx4 : xs.length * cnt n ≤ 4 * cnt n := Nat.mul_le_mul_right _ h7
        refine s_ret (v := .ref lf) (ev_var hs2) fun H3 e3 => q lf H3 t nlf (e1.trans (e2.trans e3)) (e3 _ _ hlf) (fun x hx => ?_) (by omega) (fun nm' so' pa' hba hf => ?_)
        · obtain ⟨c, e, hcb⟩ := ht x hx
          exact ⟨c, e, (hcb.stay (fun _ h => h) fun d o _ ho => e3 d o ho).up⟩
        · rw [hba] at h3
          have hq := HO.lst.inj (Option.some.inj h3)
          injection hq with q1 hq
          injection hq with q2 hq
          obtain rfl := V.str.inj q2
          have hne := h9 hf
          refine ht0 ?_
          cases xs with
          | nil => exact absurd rfl hne
          | cons x xs => simp
end
end Prs
set_option Elab.async false
set_option linter.all false
set_option maxRecDepth 100000
set_option maxHeartbeats 4000000
namespace Prs
open PySem PySem.Spec PyProof.Rows L2 Evl
abbrev lChart : Stmt := top 72
theorem cutV_from {xs : List V} {k : Nat} (h : k ≤ xs.length) : cutV xs (some (k : Int)) none = xs.drop k := by
  have e1 : HT.sIx xs.length 0 (some (k : Int)) = k := by
    rw [HT.sIx_nat]
    exact Nat.min_eq_left h
  have e2 : HT.sIx xs.length xs.length none = xs.length := rfl
  unfold cutV
  rw [e1, e2]
  exact List.take_of_length_le (by rw [List.length_drop]; exact Nat.le_refl _)
theorem cutV_to {xs : List V} {k : Nat} (h : k ≤ xs.length) : cutV xs none (some (k : Int)) = xs.take k := by
  have e1 : HT.sIx xs.length xs.length (some (k : Int)) = k := by
    rw [HT.sIx_nat]
    exact Nat.min_eq_left h
  have e2 : HT.sIx xs.length 0 none = 0 := rfl
  unfold cutV
  rw [e1, e2]
  rfl
inductive FaD : PyData → Prop
  | mk {x : Str} {lo hi fi : Int} : x ∈ FACTS → -40 ≤ lo → lo ≤ 40 → -40 ≤ hi → hi ≤ 40 → -40 ≤ fi → fi ≤ 40 → FaD (.tuple [.str x, .int lo, .int hi, .int fi])
inductive ChD : PyData → Prop
  | mk {fs : List PyData} {os : List Str} {so : Str} {d : PyData} : (∀ f ∈ fs, FaD f) → fs.length ≤ 3 → (∀ x ∈ os, x ∈ ONS) → os.length ≤ 3 → isFull so → StD 4 so d → ChD (.tuple [.tuple fs, .tuple (os.map PyData.str), d])
theorem dts_strs {H : Hp} : ∀ {xs : List Str}, DTs H (xs.map PyData.str) (xs.map V.str)
  | [] => dts_nil
  | _ :: _ => dts_cons dt_str dts_strs
def nameAt (H : Hp) (xs : List V) (i : Nat) : V := match xs[i]? with
  | some (.ref b) => (match H b with
    | some (.lst [s, _, _]) => s
    | _ => .non)
  | _ => .non
theorem given_names {n : Nat} {f : Nat → Bool} {v : Nat → V} (h : ∀ m, m < n → ∃ x, x ∈ NAMES ∧ v m = .str x) : ∃ ns : List Str, given n f v = ns.map V.str ∧ Names ns ∧ ns.length ≤ n ∧ ((∃ m, m < n ∧ f m = true) → 1 ≤ ns.length) := by
  have key : ∀ ms : List Nat, (∀ m ∈ ms, m < n) → ∃ ns : List Str, ms.map v = ns.map V.str ∧ Names ns ∧ ns.length = ms.length := by
    intro ms
    induction ms with
    | nil => exact fun _ => ⟨[], rfl, (fun x hx => by cases hx), rfl⟩
    | cons m ms ih =>
      intro hm
      obtain ⟨ns, e1, e2, e3⟩ := ih fun k hk => hm k (List.mem_cons_of_mem _ hk)
      obtain ⟨x, hx, hv⟩ := h m (hm m List.mem_cons_self)
      refine ⟨x :: ns, by rw [List.map_cons, List.map_cons, hv, e1], fun z hz => ?_, by simp [e3]⟩
      rcases List.mem_cons.mp hz with q | q
      · rw [q]
        exact hx
      · exact e2 z q
  obtain ⟨ns, e1, e2, e3⟩ := key ((List.range n).filter f) fun m hm => List.mem_range.mp (List.mem_filter.mp hm).1
  refine ⟨ns, e1, e2, ?_, fun ⟨m, hm, hf⟩ => ?_⟩
  · rw [e3]
    exact Nat.le_trans (List.length_filter_le _ _) (Nat.le_of_eq List.length_range)
  · rw [e3]
    exact List.length_pos_of_mem (List.mem_filter.mpr ⟨List.mem_range.mpr hm, hf⟩)
theorem inV_mem {z : Str} : ∀ {ks : List Str}, inV (.str z) (ks.map V.str) = decide (z ∈ ks)
  | [] => by simp [inV]
  | k :: ks => by
    have := inV_mem (z := z) (ks := ks)
    unfold inV at this ⊢
    simp only [List.map_cons, List.any_cons, List.mem_cons]
    rw [this]
    by_cases h : z = k
    · subst h
      simp [eqV]
    · have h' : ¬ k = z := fun y => h y.symm
      simp [eqV, h, h']
theorem full_cases {s : Str} (h : inV (.str s) (FULL.map V.str) = true) : s = "one" ∨ s = "all" := by
  rw [inV_mem] at h
  have := of_decide_eq_true h
  simpa [FULL] using this
theorem Gath.ex {H1 H H' : Hp} {p D : Addr} {y b : Int} {i : Nat} {R : PyData → Prop} (g : Gath H1 p D y b i R H) (e : Ex H H') : Gath H1 p D y b i R H' := by
  obtain ⟨f, ⟨y', hp, h⟩, ds, vs, hl, hd, r⟩ := g
  exact ⟨f.trans (Fr.ex e), ⟨y', hp.ex e, h⟩, ds, vs, e _ _ hl, DTs.tf (TF.ex e) _ _ hd, r⟩
theorem q_dputL {σ : L2.St} {H : Hp} {D : Ends} {u : TS} {td ty tv : TE} {xs : List V} (h : EvL tv σ H xs) (k : ∀ p H1, H p = none → Ex H H1 → H1 p = some (.lst xs) → td σ H1 fun x H2 => ty σ H2 fun y H3 => ∃ a H4, x = .ref a ∧ DPut H3 a y (.ref p) H4 ∧ u D σ H4) : tSeq (sDPut td ty tv) u D σ H := h H (Ex.refl H) _ k
section
variable {P : Program} {w : World} {K : PySem.W.Frag} {mg : Str → Option Value} {base : Heap}
def spChartL : Sp := fun vs H Q _ => ∃ (p : Addr) (y : Int), vs = [.ref p] ∧ PurseAt H p y ∧ 0 ≤ y ∧ y < 34340000000 ∧ Drawn p y 70000 H (fun H' v => ∃ d, ChD d ∧ DT H' d v) Q
abbrev NC : List Str := ["_law_purse_here", "_law_left", "_law_onset", "_law_bare_here", "_law_every", "_law_state", "_law_facts", "_law_name", "_law_low", "_law_first", "_law_part"]
theorem scChartL : FnScope NC ["_law_purse_here"] (defScope lChart) := ⟨rfl, rfl, rfl, by decide +kernel, rfl, by decide +kernel, by decide +kernel⟩
set_option maxHeartbeats 0 in
theorem ok_chartL (G : Gn K mg) {f : Addr} {fd : FuncData} (F : Fun K "_law_chart" "_law_chart" lChart f fd) (DN : Df K mg "_law_names" lNames []) (DB : Df K mg "_law_bare" lBare ["_law_purse_here", "_law_deep", "_law_left", "_law_sort"]) (DA : Df K mg "_law_all_of" lAll ["_law_bare_here"]) (DF : Df K mg "_law_full" lFull ["_law_purse_here", "_law_bare_here", "_law_state"]) (DMv : Df K mg "_law_move" lMove ["_law_purse_here", "_law_bare_here", "_law_state"]) (DG : Df K mg "_law_guard" lGuard ["_law_purse_here", "_law_deep", "_law_facts", "_law_names_here"]) (DT' : Df K mg "_law_term" lTerm ["_law_purse_here", "_law_deep", "_law_facts"]) (DK : Df K mg "_law_take" lTake ["_law_purse_here", "_law_far"]) (DPk : Df K mg "_law_pick" lPick ["_law_purse_here", "_law_some"]) (DM : Df K mg "_law_mixed" lMixed ["_law_cell", "_law_k"])
    (DD : Df K mg "_law_deeds" lDeeds ["_law_purse_here", "_law_state"]) (gr : mg "range" = none) (gt : mg "tuple" = none) (gi : mg "int" = none) : FnOk P w K mg base CX0 14 f fd ["_law_purse_here"] spChartL := by
  have GN : FnOk P w K mg base CX0 1 DN.f DN.fd [] spNames := ok_namesL DN.F
  have GB : FnOk P w K mg base CX0 7 DB.f DB.fd ["_law_purse_here", "_law_deep", "_law_left", "_law_sort"] (spBare 4) := ok_bareL G DB DK DPk DM gr gi 4
  have GA : FnOk P w K mg base CX0 4 DA.f DA.fd ["_law_bare_here"] (spAll 4) := ok_allL DA 4
  have GF : FnOk P w K mg base CX0 13 DF.f DF.fd ["_law_purse_here", "_law_bare_here", "_law_state"] (spFullL 4) := ok_fullL G DF DMv DG DT' DK DPk DM DD gr gt 4
  have GT : FnOk P w K mg base CX0 2 DK.f DK.fd ["_law_purse_here", "_law_far"] spLTake := ok_ltake DK.F DM
  have GPk : FnOk P w K mg base CX0 3 DPk.f DPk.fd ["_law_purse_here", "_law_some"] (spPick K) := ok_pick DPk.F G DK DM
  refine F.ok scChartL (fun vs H Q E h => ?_) (fun cdv A outer s H vs Q E hr h => ?_)
  · obtain ⟨p, y, rfl, _⟩ := h
    rfl
  · obtain ⟨p, y, rfl, hp, y0, y1, q⟩ := h
    have hr1 : Room 1 _ := hr.mono (by decide)
    have hr2 : Room 2 _ := hr.mono (by decide)
    have hr3 : Room 3 _ := hr.mono (by decide)
    have hr4 : Room 4 _ := hr.mono (by decide)
    have hr7 : Room 7 _ := hr.mono (by decide)
    have b4 : bb 4 = 160 := rfl
    have f4 : fb 4 = 59500 := rfl
    refine ⟨_, pss_cons (ps_set (i := 1) scChartL.nd rfl (.inl rfl) (pe_call0 GN hr1 rfl DN.m DN.F.kp DN.b .nil pass0))
      (pss_cons (ps_set (i := 2) scChartL.nd rfl (.inl rfl) (pe_call GT hr2 rfl DK.m DK.F.kp DK.b .nil pass0 (pa_cons (pv 0) (pa_cons (pe_callB call_len_seq (by rfl) G.len PySem.boot_len (pa_cons (pv 1) pa_nil)) pa_nil))))
      (pss_cons (ps_set (i := 3) scChartL.nd rfl (.inl rfl) (pe_call GB hr7 rfl DB.m DB.F.kp DB.b .nil pass0 (pa_cons (pv 0) (pa_cons (pe_op op_add pe_int (pe_call GT hr2 rfl DK.m DK.F.kp DK.b .nil pass0 (pa_cons (pv 0) (pa_cons pe_int pa_nil)))) (pa_cons (pe_op op_cat (pe_slice sl_list (pv 1) (po_some (pv 2)) po_none) (pe_slice sl_list (pv 1) po_none (po_some (pv 2)))) (pa_cons (pe_call GPk hr3 rfl DPk.m DPk.F.kp DPk.b .nil pass0 (pa_cons (pv 0) (pa_cons (pe_lst (pa_cons pe_str (pa_cons pe_str pa_nil))) pa_nil))) pa_nil))))))
      (pss_cons (ps_set (i := 4) scChartL.nd rfl (.inl rfl) (pe_call GA hr4 rfl DA.m DA.F.kp DA.b .nil pass0 (pa_cons (pv 3) pa_nil)))
      (pss_cons (ps_set (i := 5) scChartL.nd rfl (.inl rfl) (pe_disp (pps_cons pe_str (pe_slice sl_list (pe_lst (pa_cons pe_str (pa_cons pe_str (pa_cons pe_str pa_nil)))) po_none (po_some (pe_call GT hr2 rfl DK.m DK.F.kp DK.b .nil pass0 (pa_cons (pv 0) (pa_cons pe_int pa_nil))))) (pps_cons pe_str (pe_slice sl_list (pe_lst (pa_cons pe_str (pa_cons pe_str (pa_cons pe_str pa_nil)))) po_none (po_some (pe_call GT hr2 rfl DK.m DK.F.kp DK.b .nil pass0 (pa_cons (pv 0) (pa_cons pe_int pa_nil))))) pps_nil)) rfl rfl (by decide) (by decide)))
      (pss_cons (ps_dput (hu_of hr) (pv 5) pe_str (pe_lc (te := tOp (rIxL K) (tVar 10) (tC (.int 0))) (own := [("_law_part", 10)]) (g := gName 10) (tt := tYes) rfl scChartL.nd (pi_list (pe_slice sl_list (pv 4) (po_some pe_int) po_none)) (blkOk_by (N := NC) (sc := defScope lChart) (by decide +kernel)) (fun _ _ _ _ _ => pg_name (i := 10) scChartL.nd rfl (Or.inl rfl)) (fun _ _ _ _ _ => pts_nil) (fun _ _ _ _ _ => pe_ix (r := rIxL K) ix_list (pv 10) pe_int (fun _ _ => rfl))) rfl)
      (pss_cons (ps_dput (hu_of hr) (pv 5) pe_str (pe_lc (te := tOp (rIxL K) (tVar 10) (tC (.int 0))) (own := [("_law_part", 10)]) (g := gName 10) (tt := tTest (tOp (rIn K true) (tOp (rIxL K) (tVar 10) (tC (.int 1))) (tTup (tCons (tC (.str "back")) (tCons (tC (.str "deep")) tNil))))) rfl scChartL.nd (pi_list (pv 4)) (blkOk_by (N := NC) (sc := defScope lChart) (by decide +kernel)) (fun _ _ _ _ _ => pg_name (i := 10) scChartL.nd rfl (Or.inl rfl)) (fun _ _ _ _ _ => pts_one (pt_cmpR (r := rIn K true) op_notIn_seq (pe_ix (r := rIxL K) ix_list (pv 10) pe_int (fun _ _ => rfl)) (pe_tup (pa_cons pe_str (pa_cons pe_str pa_nil))) (by rfl))) (fun _ _ _ _ _ => pe_ix (r := rIxL K) ix_list (pv 10) pe_int (fun _ _ => rfl))) rfl)
      (pss_cons (ps_set (i := 6) scChartL.nd rfl (.inl rfl) (pe_lst pa_nil))
      (pss_cons (ps_for PassesOwn.never rfl (pi_list (pe_dget (hu_of hr) (pv 5) pe_str (fun _ _ => rfl))) (pg_name (i := 7) scChartL.nd rfl (.inl rfl))
        (pss_cons (ps_set (i := 8) scChartL.nd rfl (.inl rfl) (pe_op op_sub (pe_call GT hr2 rfl DK.m DK.F.kp DK.b .nil pass0 (pa_cons (pv 0) (pa_cons pe_int pa_nil))) pe_int))
        (pss_cons (ps_set (i := 9) scChartL.nd rfl (.inl rfl) (pe_op op_add (pv 8) (pe_call GT hr2 rfl DK.m DK.F.kp DK.b .nil pass0 (pa_cons (pv 0) (pa_cons pe_int pa_nil)))))
        (pss_one (ps_expr (pe_bm PySem.F.plainAttrs_list PySem.F.slot_list_append PySem.F.type_list_append mt_append (pv 6) (pa_cons (pe_tup (pa_cons (pv 7) (pa_cons (pv 8) (pa_cons (pe_op op_add (pv 9) (pe_call GT hr2 rfl DK.m DK.F.kp DK.b .nil pass0 (pa_cons (pv 0) (pa_cons pe_int pa_nil)))) (pa_cons (pv 9) pa_nil))))) pa_nil)))))))
      (pss_one (ps_ret (pe_tup (pa_cons (pe_callTy call_tuple_of rfl gt rfl (pa_cons (pv 6) pa_nil)) (pa_cons (pe_callTy call_tuple_of rfl gt rfl (pa_cons (pe_dget (hu_of hr) (pv 5) pe_str (fun _ _ => rfl)) pa_nil)) (pa_cons (pe_call GF hr rfl DF.m DF.F.kp DF.b .nil pass0 (pa_cons (pv 0) (pa_cons (pv 3) (pa_cons (pv 5) pa_nil)))) pa_nil)))))))))))))), ?_⟩
    -- names
    refine ⟨rfl, fun nl H1 nnl e1 hnl => ?_⟩
    have hp1 := hp.ex e1
    have nlp : nl ≠ p := hp.ne nnl
    refine ⟨.ref p, rfl, .ref nl, rfl, nl, _, rfl, .inl (sq_of hnl), ?_⟩
    have hlen24 : (NAMES.map V.str).length = 24 := by rw [List.length_map]; exact names_len
    refine ⟨p, ((NAMES.map V.str).length : Nat), y, rfl, by omega, by omega, hp1, y0, by omega, fun o ya H2 o0 o1 a1 a2 f2 hp2 => ?_⟩
    obtain ⟨o, rfl⟩ := Int.eq_ofNat_of_zero_le o0
    have hnl2 := f2 _ _ nlp hnl
    -- bare
    refine ⟨.ref p, rfl, .ref p, rfl, p, 2, ya, rfl, by decide, by decide, hp2, by omega, by omega, fun d yb H3 d0 d1 b1 b2 f3 hp3 => ⟨1, d, rfl, rfl, ?_⟩⟩
    have hnl3 := f3 _ _ nlp hnl2
    refine ⟨.ref nl, rfl, .int (o : Int), rfl, (o : Int), rfl, nl, _, rfl, sq_of hnl3, fun l1 nl1 => ?_⟩
    have e4 : Ex H3 (L2.upd H3 l1 (.lst (cutV (NAMES.map V.str) (some (o : Int)) none))) := fr_new nl1
    refine ⟨.ref nl, rfl, .int (o : Int), rfl, (o : Int), rfl, nl, _, rfl, sq_of (e4 _ _ hnl3), fun l2 nl2 => ?_⟩
    have e5 : Ex (L2.upd H3 l1 (.lst (cutV (NAMES.map V.str) (some (o : Int)) none))) (L2.upd (L2.upd H3 l1 (.lst (cutV (NAMES.map V.str) (some (o : Int)) none))) l2 (.lst (cutV (NAMES.map V.str) none (some (o : Int))))) := fr_new nl2
    have ho : o ≤ (NAMES.map V.str).length := by omega
    refine ⟨l1, l2, _, _, rfl, rfl, e5 _ _ upd_same, upd_same, ?_, fun lf nlf => ?_⟩
    · rw [cutV_from ho, cutV_to ho, List.length_drop, List.length_take]
      refine sz_of ?_
      omega
    have elist : cutV (NAMES.map V.str) (some (o : Int)) none ++ cutV (NAMES.map V.str) none (some (o : Int)) = (NAMES.drop o ++ NAMES.take o).map V.str := by
      rw [cutV_from ho, cutV_to ho, List.map_append, List.map_drop, List.map_take]
    rw [elist]
    have e35 := e4.trans e5
    have e6 := Ex.trans e35 (fr_new (o := .lst ((NAMES.drop o ++ NAMES.take o).map V.str)) nlf)
    have nlfH : H lf = none := by
      have := fresh_back e35 nlf
      cases e : H lf with
      | none => rfl
      | some u =>
        exfalso
        by_cases z : lf = p
        · obtain ⟨x, z', hpp⟩ := hp3
          rw [z, hpp] at this
          cases this
        · rw [f3 _ _ z (f2 _ _ z (e1 _ _ e))] at this
          cases this
    have hlf : StrsAt (L2.upd (L2.upd (L2.upd H3 l1 (.lst (cutV (NAMES.map V.str) (some (o : Int)) none))) l2 (.lst (cutV (NAMES.map V.str) none (some (o : Int))))) lf (.lst ((NAMES.drop o ++ NAMES.take o).map V.str))) lf (NAMES.drop o ++ NAMES.take o) := ⟨upd_same⟩
    revert e6 hlf
    generalize (L2.upd (L2.upd (L2.upd H3 l1 (.lst (cutV (NAMES.map V.str) (some (o : Int)) none))) l2 (.lst (cutV (NAMES.map V.str) none (some (o : Int))))) lf (.lst ((NAMES.drop o ++ NAMES.take o).map V.str))) = H6
    intro e6 hlf
    clear e35 e4 e5 elist nlf nl1 nl2
    have hp6 := hp3.ex e6
    have f06 : Fr p H H6 := (((Fr.ex e1).trans f2).trans f3).trans (Fr.ex e6)
    have lfp : lf ≠ p := StrsAt.ne hp6 hlf
    refine ⟨.ref p, rfl, by show 2 ≤ sizeLine; exact sz_of (by decide), fun lp nlp' => ?_⟩
    have e7 : Ex H6 (L2.upd H6 lp (.lst ((["one", "all"] : List Str).map V.str))) := fr_new nlp'
    refine ⟨p, lp, (["one", "all"] : List Str).map V.str, yb, rfl, hp6.ex e7, by omega, by omega, upd_same, by decide, by decide, hp6.ne nlp', fun j v yc H7 hj c1 c2 f7 hp7 => ?_⟩
    rw [List.getElem?_map] at hj
    obtain ⟨so, hso, rfl⟩ := Option.map_eq_some_iff.mp hj
    have hsf : isFull so ∧ so ∈ SORTSs := by
      have := List.mem_of_getElem? hso
      simp only [List.mem_cons, List.not_mem_nil, or_false] at this
      rcases this with rfl | rfl <;> decide +kernel
    have hlf7 : StrsAt H7 lf (NAMES.drop o ++ NAMES.take o) := ⟨f7 _ _ lfp (e7 _ _ hlf.at_)⟩
    have f07 : Fr p H H7 := (f06.trans (Fr.ex e7)).trans f7
    have hno : Names (NAMES.drop o ++ NAMES.take o) := fun x hx => by
      rcases List.mem_append.mp hx with h | h
      · exact List.mem_of_mem_drop h
      · exact List.mem_of_mem_take h
    have hnlen : (NAMES.drop o ++ NAMES.take o).length = 24 := by
      rw [List.length_append, List.length_drop, List.length_take, names_len]
      omega
    refine ⟨p, lf, 1 + d, yc, so, _, rfl, hp7, by omega, by omega, by omega, by omega, hsf.2, hlf7, hno, by omega, by omega, by decide, by decide, fun _ => ⟨by omega, by show 1 + d + 2 ≤ 4; omega, by omega⟩, fun ba yd ls8 H8 nm pa f8 hp8 k1 k2 _ _ _ hb8 hba8 => ?_⟩
    have f08 : Fr p H H8 := fun b u hb hu => f8 b u hb (ne_of_none hu nlfH) (f07 b u hb hu)
    have hb8' : Bare (fun _ => none) H8 4 ba := hb8.stay (fun _ _ => rfl) fun _ _ _ h => h
    -- every
    refine ⟨.ref ba, rfl, ba, fun _ => none, rfl, hb8', by decide, fun ev H9 t nev e9 hev ht htl htn => ?_⟩
    have hb9 : Bare (fun _ => none) H9 4 ba := hb8'.stay (fun _ h => h) fun c u _ hu => e9 c u hu
    have hp9 := hp8.ex e9
    have f09 : Fr p H H9 := f08.trans (Fr.ex e9)
    have htne := htn nm so pa hba8 hsf.1
    have hba9 := e9 _ _ hba8
    have hc4 := cnt_le (n := 4) (by decide)
    -- the state
    refine fun sa nsa => ?_
    have e10 : Ex H9 (L2.upd H9 sa (.dK [])) := fr_new nsa
    have sap : sa ≠ p := hp9.ne nsa
    refine ⟨by show 3 ≤ sizeLine; exact sz_of (by decide), fun la nla => ?_⟩
    have e11 : Ex (L2.upd H9 sa (.dK [])) (L2.upd (L2.upd H9 sa (.dK [])) la (.lst (FACTS.map V.str))) := fr_new nla
    have hp11 := (hp9.ex e10).ex e11
    refine ⟨.ref p, rfl, p, 4, yd, rfl, by decide, by decide, hp11, by omega, by omega, fun d1 ye H12 d10 d11 g1 g2 f12 hp12 => ?_⟩
    obtain ⟨d1, rfl⟩ := Int.eq_ofNat_of_zero_le d10
    have hla : H12 la = some (.lst (FACTS.map V.str)) := f12 _ _ ((hp9.ex e10).ne nla) upd_same
    refine ⟨(d1 : Int), rfl, la, _, rfl, sq_of hla, fun fa nfa => ?_⟩
    have e13 : Ex H12 (L2.upd H12 fa (.lst (cutV (FACTS.map V.str) none (some (d1 : Int))))) := fr_new nfa
    refine ⟨by show 3 ≤ sizeLine; exact sz_of (by decide), fun lb nlb => ?_⟩
    have e14 : Ex (L2.upd H12 fa (.lst (cutV (FACTS.map V.str) none (some (d1 : Int))))) (L2.upd (L2.upd H12 fa (.lst (cutV (FACTS.map V.str) none (some (d1 : Int))))) lb (.lst (ONS.map V.str))) := fr_new nlb
    have hp14 := (hp12.ex e13).ex e14
    refine ⟨.ref p, rfl, p, 4, ye, rfl, by decide, by decide, hp14, by omega, by omega, fun d2 yf H15 d20 d21 g3 g4 f15 hp15 => ?_⟩
    obtain ⟨d2, rfl⟩ := Int.eq_ofNat_of_zero_le d20
    have hlb : H15 lb = some (.lst (ONS.map V.str)) := f15 _ _ ((hp12.ex e13).ne nlb) upd_same
    refine ⟨(d2 : Int), rfl, lb, _, rfl, sq_of hlb, fun oa noa => ?_⟩
    have e16 : Ex H15 (L2.upd H15 oa (.lst (cutV (ONS.map V.str) none (some (d2 : Int))))) := fr_new noa
    have efs : cutV (FACTS.map V.str) none (some (d1 : Int)) = (FACTS.take d1).map V.str := by
      rw [cutV_to (by show d1 ≤ 3; omega), List.map_take]
    have eos : cutV (ONS.map V.str) none (some (d2 : Int)) = (ONS.take d2).map V.str := by
      rw [cutV_to (by show d2 ≤ 3; omega), List.map_take]
    rw [efs] at e13 e14 f15
    rw [eos] at e16 ⊢
    have hsa16 : (L2.upd H15 oa (.lst ((ONS.take d2).map V.str))) sa = some (.dK []) := by
      have h1 := f12 _ _ sap (e11 _ _ upd_same)
      have h2 := e14 _ _ (e13 _ _ h1)
      exact e16 _ _ (f15 _ _ sap h2)
    have hfa16 : StrsAt (L2.upd H15 oa (.lst ((ONS.take d2).map V.str))) fa (FACTS.take d1) := ⟨e16 _ _ (f15 _ _ (hp12.ne nfa) (e14 _ _ upd_same))⟩
    have hoa16 : StrsAt (L2.upd H15 oa (.lst ((ONS.take d2).map V.str))) oa (ONS.take d2) := ⟨upd_same⟩
    have f916 : Fr p H9 (L2.upd H15 oa (.lst ((ONS.take d2).map V.str))) := ((((Fr.ex (e10.trans e11)).trans f12).trans (Fr.ex (e13.trans e14))).trans f15).trans (Fr.ex e16)
    have hp16 := hp15.ex e16
    revert hsa16 hfa16 hoa16 f916 hp16
    generalize (L2.upd H15 oa (.lst ((ONS.take d2).map V.str))) = H16
    intro hsa16 hfa16 hoa16 f916 hp16
    refine ⟨hsa16, [(Sum.inr "facts", .ref fa), (Sum.inr "on", .ref oa)], rfl, by show 2 ≤ 15; decide, ?_⟩
    generalize hk0 : mergeK [] [((Sum.inr "facts" : L2.Key), V.ref fa), (Sum.inr "on", .ref oa)] = kv0
    have lk0 : kv0.length = 2 := by rw [← hk0]; rfl
    have hsaF : ∀ {Hx : Hp} {o : HO}, Fr p H9 Hx → Fr p H9 (L2.upd Hx sa o) := fun fx b u hb hu => by
      rw [upd_ne (ne_of_none hu nsa)]
      exact fx b u hb hu
    have strsU : ∀ {Hx : Hp} {kv : List (L2.Key × V)} {a : Addr} {xs : List Str} {o : HO}, Hx sa = some (.dK kv) → StrsAt Hx a xs → StrsAt (L2.upd Hx sa o) a xs := fun hs ha => ⟨by
      rw [upd_ne (fun z => by have h := ha.at_; rw [z, hs] at h; exact absurd (Option.some.inj h) (fun q => nomatch q))]
      exact ha.at_⟩
    have purU : ∀ {Hx : Hp} {y' : Int} {o : HO}, PurseAt Hx p y' → PurseAt (L2.upd Hx sa o) p y' := fun ⟨x, z, hpp⟩ => ⟨x, z, by rw [upd_ne (Ne.symm sap)]; exact hpp⟩
    have hp17 : PurseAt (L2.upd H16 sa (.dK kv0)) p yf := purU hp16
    have f917 : Fr p H9 (L2.upd H16 sa (.dK kv0)) := hsaF f916
    have hfa17 : StrsAt (L2.upd H16 sa (.dK kv0)) fa (FACTS.take d1) := strsU hsa16 hfa16
    have hoa17 : StrsAt (L2.upd H16 sa (.dK kv0)) oa (ONS.take d2) := strsU hsa16 hoa16
    have hsa17 : (L2.upd H16 sa (.dK kv0)) sa = some (.dK kv0) := upd_same
    revert hp17 f917 hfa17 hoa17 hsa17
    generalize (L2.upd H16 sa (.dK kv0)) = H17
    intro hp17 f917 hfa17 hoa17 hsa17
    clear hsa16 hfa16 hoa16 f916 hp16 hlb e16 noa f15 hp15 hp14 e14 nlb e13 nfa hla f12 hp12 hp11 e11 nla e10
    -- goals
    have evp : ev ≠ p := hp8.ne nev
    have hall : ∀ x ∈ (.ref ba :: t : List V), ∃ b, x = .ref b ∧ Bare (fun _ => none) H9 4 b := fun x hx => by
      rcases List.mem_cons.mp hx with h | h
      · exact ⟨ba, h, hb9⟩
      · exact ht x h
    have part : ∀ {Hx : Hp} {xs : List V} {m : Nat} {x : V}, Fr p H9 Hx → (∀ x ∈ xs, x ∈ (.ref ba :: t : List V)) → xs[m]? = some x → ∃ b nm so pa, x = .ref b ∧ Hx b = some (.lst [.str nm, .str so, .ref pa]) ∧ nm ∈ NAMES ∧ so ∈ SORTSs ∧ H9 b = some (.lst [.str nm, .str so, .ref pa]) := fun {Hx xs m x} fx hxs hm => by
      obtain ⟨b, rfl, hb⟩ := hall x (hxs x (List.mem_of_getElem? hm))
      obtain ⟨pa', nm', so', xs', _, _, k3, _, k5, k6, _⟩ := id hb
      obtain ⟨pa2, nm2, so2, xs2, _, _, k32, _⟩ := hb.fr hp9 fx
      refine ⟨b, nm', so', pa', rfl, ?_, k5, k6, k3⟩
      refine fx _ _ (fun z => ?_) k3
      obtain ⟨x', w', hpp⟩ := hp9
      rw [z, hpp] at k3
      have := HO.lst.inj (Option.some.inj k3)
      injection this with u _
      cases u
    have hev17 := f917 _ _ evp hev
    have ecut : cutV (.ref ba :: t) (some ((1 : Nat) : Int)) none = t := by
      rw [cutV_from (by simp)]
      rfl
    have esl : EvL (tSl (rSlL K) (tVar 4) (tPart (tC (.int 1))) tNoPart) [some (.ref p), some (.ref nl), some (.int (o : Int)), some (.ref ba), some (.ref ev), some (.ref sa), none, none, none, none, none] H17 t := by
      have := el_sl (K := K) (σ := [some (.ref p), some (.ref nl), some (.int (o : Int)), some (.ref ba), some (.ref ev), some (.ref sa), none, none, none, none, none]) (H := H17) (te := tVar 4) (tl := tPart (tC (.int ((1 : Nat) : Int)))) (th := tNoPart) (a := ev) (xs := .ref ba :: t) (lo := some ((1 : Nat) : Int)) (hi := none) (ev_var rfl) (eo_some ev_c) eo_none (sq_of hev17)
      rw [ecut] at this
      exact this
    have tsub : ∀ x ∈ t, x ∈ (.ref ba :: t : List V) := fun x hx => List.mem_cons_of_mem _ hx
    have nm17 : ∀ m, m < t.length → ∃ x, x ∈ NAMES ∧ nameAt H17 t m = .str x := fun m hm => by
      obtain ⟨b, nm1, so1, pa1, e, k3, k5, _⟩ := part f917 tsub (List.getElem?_eq_getElem hm)
      refine ⟨nm1, k5, ?_⟩
      unfold nameAt
      rw [List.getElem?_eq_getElem hm, e]
      dsimp only
      rw [k3]
    obtain ⟨gs, eg, gI, gL, g1'⟩ := given_names (f := fun _ => true) nm17
    have eg1 : EvL (tLc (iList K (tSl (rSlL K) (tVar 4) (tPart (tC (.int 1))) tNoPart)) (gName 10) tYes (tOp (rIxL K) (tVar 10) (tC (.int 0))) [10]) [some (.ref p), some (.ref nl), some (.int (o : Int)), some (.ref ba), some (.ref ev), some (.ref sa), none, none, none, none, none] H17 (gs.map V.str) := by
      rw [← eg]
      refine el_lcNL (K := K) (fun _ => true) (nameAt H17 t) esl (by omega) (fun _ => rfl) (fun m x H' _ _ => fun H1 _ Q q => q H1 (Ex.refl H1)) (fun m x H' e' hm _ => ?_)
      obtain ⟨b, nm1, so1, pa1, rfl, k3, k5, _⟩ := part f917 tsub hm
      have hv : nameAt H17 t m = .str nm1 := by
        unfold nameAt
        rw [hm]
        dsimp only
        rw [k3]
      rw [hv]
      exact ev_op (ev_var rfl) ev_c (rv_ixL' (sq_of (e' _ _ k3)) rfl)
    dsimp only [gName]
    refine q_dputL eg1 fun ga H18 nga e18 hga => ⟨.ref sa, rfl, sa, _, rfl, DPut.k (k := Sum.inr "goals") (e18 _ _ hsa17) (by rw [lk0]; show 2 < sizeLine; exact sz_lt (by decide)), ?_⟩
    have hsa18 := e18 _ _ hsa17
    generalize hk1 : putK kv0 (Sum.inr "goals") (V.ref ga) = kv1
    have lk1 : kv1.length = 3 := by rw [← hk1, ← hk0]; rfl
    have hp19 : PurseAt (L2.upd H18 sa (.dK kv1)) p yf := purU (hp17.ex e18)
    have f919 : Fr p H9 (L2.upd H18 sa (.dK kv1)) := hsaF (f917.trans (Fr.ex e18))
    have hfa19 : StrsAt (L2.upd H18 sa (.dK kv1)) fa (FACTS.take d1) := strsU hsa18 ⟨e18 _ _ hfa17.at_⟩
    have hoa19 : StrsAt (L2.upd H18 sa (.dK kv1)) oa (ONS.take d2) := strsU hsa18 ⟨e18 _ _ hoa17.at_⟩
    have hga19 : StrsAt (L2.upd H18 sa (.dK kv1)) ga gs := strsU hsa18 ⟨hga⟩
    have hsa19 : (L2.upd H18 sa (.dK kv1)) sa = some (.dK kv1) := upd_same
    revert hp19 f919 hfa19 hoa19 hga19 hsa19
    generalize (L2.upd H18 sa (.dK kv1)) = H19
    intro hp19 f919 hfa19 hoa19 hga19 hsa19
    clear hsa18 hga e18 nga eg1 esl hev17 nm17 hsa17 hoa17 hfa17 f917 hp17
    -- plain
    have hev19 := f919 _ _ evp hev
    have nm19 : ∀ m, m < (.ref ba :: t : List V).length → ∃ x, x ∈ NAMES ∧ nameAt H19 (.ref ba :: t) m = .str x := fun m hm => by
      obtain ⟨b, nm1, so1, pa1, e, k3, k5, _⟩ := part f919 (fun x hx => hx) (List.getElem?_eq_getElem hm)
      refine ⟨nm1, k5, ?_⟩
      unfold nameAt
      rw [List.getElem?_eq_getElem hm, e]
      dsimp only
      rw [k3]
    obtain ⟨ns, en, nI, nL, n1'⟩ := given_names (f := fun m => !inV (sortAt H19 (.ref ba :: t) m) (MARKER.map V.str)) nm19
    have en1 : EvL (tLc (iList K (tVar 4)) (gName 10) (tTest (tOp (rIn K true) (tOp (rIxL K) (tVar 10) (tC (.int 1))) (tTup (tCons (tC (.str "back")) (tCons (tC (.str "deep")) tNil))))) (tOp (rIxL K) (tVar 10) (tC (.int 0))) [10]) [some (.ref p), some (.ref nl), some (.int (o : Int)), some (.ref ba), some (.ref ev), some (.ref sa), none, none, none, none, none] H19 (ns.map V.str) := by
      rw [← en]
      refine el_lcL (K := K) _ (nameAt H19 (.ref ba :: t)) (ev_var rfl) (sq_of hev19) (by simp only [List.length_cons]; omega) (fun _ => rfl) (fun m x H' e' hm => ?_) (fun m x H' e' hm _ => ?_)
      · obtain ⟨b, nm1, so1, pa1, rfl, k3, k5, k6, _⟩ := part f919 (fun x hx => hx) hm
        have hv : sortAt H19 (.ref ba :: t) m = .str so1 := by
          unfold sortAt
          rw [hm]
          dsimp only
          rw [k3]
        rw [hv]
        exact et_test (ev_niU (xs := MARKER.map V.str) (ev_op (ev_var rfl) ev_c (rv_ixL' (sq_of (e' _ _ k3)) rfl)) (eu_tup (ea_cons ev_c (ea_cons ev_c ea_nil)) (by show 2 ≤ 100000; decide)) rfl (by decide +kernel))
      · obtain ⟨b, nm1, so1, pa1, rfl, k3, k5, _⟩ := part f919 (fun x hx => hx) hm
        have hv : nameAt H19 (.ref ba :: t) m = .str nm1 := by
          unfold nameAt
          rw [hm]
          dsimp only
          rw [k3]
        rw [hv]
        exact ev_op (ev_var rfl) ev_c (rv_ixL' (sq_of (e' _ _ k3)) rfl)
    have nge : 1 ≤ gs.length := g1' ⟨0, List.length_pos_iff.mpr htne, rfl⟩
    have nne : 1 ≤ ns.length := n1' ⟨0, by simp, by
      obtain ⟨b, nm1, so1, pa1, e, k3, _, _, k9⟩ := part (m := 0) f919 (fun x hx => hx) rfl
      cases e
      rw [hba9] at k9
      have hq := HO.lst.inj (Option.some.inj k9)
      injection hq with q1 hq
      injection hq with q2 hq
      obtain rfl := V.str.inj q2
      have hv : sortAt H19 (.ref ba :: t) 0 = .str so := by
        unfold sortAt
        dsimp only [List.getElem?_cons_zero]
        rw [k3]
      rw [hv]
      have := hsf.1
      simp only [isFull] at this
      rcases full_cases this with rfl | rfl <;> decide +kernel⟩
    refine q_dputL en1 fun na H20 nna e20 hna => ⟨.ref sa, rfl, sa, _, rfl, DPut.k (k := Sum.inr "plain") (e20 _ _ hsa19) (by rw [lk1]; show 3 < sizeLine; exact sz_lt (by decide)), ?_⟩
    have hsa20 := e20 _ _ hsa19
    have hst : StAt (L2.upd H20 sa (.dK (putK kv1 (Sum.inr "plain") (V.ref na)))) sa fa oa ga na (FACTS.take d1) (ONS.take d2) gs ns := by
      refine ⟨⟨_, upd_same, ?_, ?_, ?_, ?_⟩, strsU hsa20 ⟨e20 _ _ hfa19.at_⟩, strsU hsa20 ⟨e20 _ _ hoa19.at_⟩, strsU hsa20 ⟨e20 _ _ hga19.at_⟩, strsU hsa20 ⟨hna⟩, fun x hx => List.mem_of_mem_take hx, ?_, fun x hx => List.mem_of_mem_take hx, ?_, gI, nge, by omega, nI, nne, by simp only [List.length_cons] at nL; omega⟩
      · rw [← hk1, ← hk0]; rfl
      · rw [← hk1, ← hk0]; rfl
      · rw [← hk1, ← hk0]; rfl
      · rw [← hk1, ← hk0]; rfl
      · rw [List.length_take]; exact Nat.min_le_right _ _
      · rw [List.length_take]; exact Nat.min_le_right _ _
    have hp21 : PurseAt (L2.upd H20 sa (.dK (putK kv1 (Sum.inr "plain") (V.ref na)))) p yf := purU (hp19.ex e20)
    have f921 : Fr p H9 (L2.upd H20 sa (.dK (putK kv1 (Sum.inr "plain") (V.ref na)))) := hsaF (f919.trans (Fr.ex e20))
    revert hst hp21 f921
    generalize (L2.upd H20 sa (.dK (putK kv1 (Sum.inr "plain") (V.ref na)))) = H21
    intro hst hp21 f921
    clear hsa20 hna e20 nna en1 hev19 nm19 hsa19 hoa19 hfa19 hga19 f919 hp19
    -- facts
    refine ⟨by show 0 ≤ sizeLine; decide, fun fl nfl => ?_⟩
    have e22 : Ex H21 (L2.upd H21 fl (.lst [])) := fr_new nfl
    have hst22 := hst.ex e22
    have flp : fl ≠ p := hp21.ne nfl
    obtain ⟨kvs, hk, vk1, vk2, vk3, vk4⟩ := hst22.d
    refine Evl.q_forL (K := K) (a := fa) (xs := (FACTS.take d1).map V.str) (ev_dg rfl hk vk1) (sq_of hst22.f.at_) (fun i σ H' => Gath H21 p fl yf 3 i FaD H' ∧ ∃ v7 v8 v9 v10 : Option V, σ = [some (.ref p), some (.ref nl), some (.int (o : Int)), some (.ref ba), some (.ref ev), some (.ref sa), some (.ref fl), v7, v8, v9, v10]) (fun H1 e => ⟨(Gath.zero (R := FaD) (b := 3) hp21 nfl).ex e, none, none, none, none, rfl⟩) (fun i σ H' _ z => sq_of (hst.fr hp21 z.1.fr).f.at_) (fun i x σ H' hi z => ?_) (fun σ H' z => ?_)
    · obtain ⟨g, v7, v8, v9, v10, rfl⟩ := z
      rw [List.getElem?_map] at hi
      obtain ⟨fx, hfx, rfl⟩ := Option.map_eq_some_iff.mp hi
      have hfxm : fx ∈ FACTS := List.mem_of_mem_take (List.mem_of_getElem? hfx)
      have hil : i < 3 := by
        have := (List.getElem?_eq_some_iff.mp hfx).1
        rw [List.length_take] at this
        have h3 : FACTS.length = 3 := rfl
        omega
      obtain ⟨ya', hpa', u1, u2⟩ := g.pu
      refine ⟨.ref p, rfl, p, 30, ya', rfl, by decide, by decide, hpa', by omega, by omega, fun dl y1' H1 dl0 dl1 w1 w2 g1 hp1' => ⟨dl, 15, rfl, rfl, ?_⟩⟩
      refine ⟨.int (dl - 15), rfl, .ref p, rfl, p, 9, y1', rfl, by decide, by decide, hp1', by omega, by omega, fun df y2' H2' df0 df1 w3 w4 g2 hp2' => ⟨dl - 15, df, rfl, rfl, ?_⟩⟩
      obtain ⟨ds, vs, hfl, hds, hdl, hdall⟩ := g.ls
      have hfl2 := g2 _ _ flp (g1 _ _ flp hfl)
      refine ⟨.ref fl, rfl, .inl ⟨rfl, _, sq_of hfl2⟩, .str fx, rfl, .int (dl - 15), rfl, .int (dl - 15 + df), rfl, .ref p, rfl, p, 9, y2', rfl, by decide, by decide, hp2', by omega, by omega, fun dh y3' H3' dh0 dh1 w5 w6 g3 hp3' => ⟨dl - 15 + df, dh, rfl, rfl, .int (dl - 15 + df), rfl, by show 4 ≤ sizeLine; exact sz_of (by decide), fun tt ntt => ?_⟩⟩
      have e4' : Ex H3' (L2.upd H3' tt (.tup [.str fx, .int (dl - 15), .int (dl - 15 + df + dh), .int (dl - 15 + df)])) := fr_new ntt
      obtain ⟨acc, hacc, hal, gg⟩ := g.step hp21 nfl hpa' u1 u2 (((g1.trans g2).trans g3).trans (Fr.ex e4')) (hp3'.ex e4') (by omega) (by omega) (dt_tup upd_same (dts_cons dt_str (dts_cons dt_int (dts_cons dt_int (dts_cons dt_int dts_nil))))) (FaD.mk hfxm (by omega) (by omega) (by omega) (by omega) (by omega) (by omega))
      exact ⟨fl, acc, .ref tt, rfl, rfl, hacc, sz_lt (by omega), gg, _, _, _, _, rfl⟩
    · obtain ⟨g, v7, v8, v9, v10, rfl⟩ := z
      obtain ⟨ya', hpa', u1, u2⟩ := g.pu
      obtain ⟨ds, vs, hfl, hds, hdl, hdall⟩ := g.ls
      rw [List.length_map, List.length_take] at u2 hdl
      have h3 : FACTS.length = 3 := rfl
      rw [h3] at u2 hdl
      have hs' := hst.fr hp21 g.fr
      have f9H := f921.trans g.fr
      have fH : Fr p H H' := f09.trans f9H
      have hbH := hb9.fr hp9 f9H
      have bap : ba ≠ p := fun z => by
        obtain ⟨x', w', hpp⟩ := hp9
        rw [z, hpp] at hba9
        have := HO.lst.inj (Option.some.inj hba9)
        injection this with u _
        cases u
      have hbaH := f9H _ _ bap hba9
      refine ⟨.ref fl, rfl, fl, vs, rfl, .inl ⟨sq_of hfl, fun t1 nt1 => ?_⟩⟩
      have a1 : Ex H' (L2.upd H' t1 (.tup vs)) := fr_new nt1
      have hs1 := hs'.ex a1
      obtain ⟨kvs', hk', wk1, wk2, _, _⟩ := hs1.d
      have dgo := DGet.k (k := Sum.inr "on") hk'
      rw [wk2] at dgo
      refine ⟨.ref sa, rfl, sa, .ref oa, rfl, dgo, oa, _, rfl, .inl ⟨sq_of hs1.o.at_, fun t2 nt2 => ?_⟩⟩
      have a2 : Ex (L2.upd H' t1 (.tup vs)) (L2.upd (L2.upd H' t1 (.tup vs)) t2 (.tup ((ONS.take d2).map V.str))) := fr_new nt2
      have a12 := a1.trans a2
      have hs2 := hs1.ex a2
      have hbx := hbH.fr hpa' (Fr.ex a12)
      have hbax := a12 _ _ hbaH
      refine ⟨.ref p, rfl, .ref ba, rfl, .ref sa, rfl, p, ba, sa, fa, oa, ga, na, pa, ya', _, _, gs, ns, _, nm, so, rfl, hpa'.ex a12, by omega, by omega, hs2, by decide, hbx, hbax, fun v yz Hz fz hpz z1 z2 rz => ?_⟩
      obtain ⟨dz, kz, dtz⟩ := rz
      refine ⟨by show 3 ≤ sizeLine; exact sz_of (by decide), fun t3 nt3 => ?_⟩
      have a3 : Ex Hz (L2.upd Hz t3 (.tup [.ref t1, .ref t2, v])) := fr_new nt3
      have tfz : TF (L2.upd (L2.upd H' t1 (.tup vs)) t2 (.tup ((ONS.take d2).map V.str))) (L2.upd Hz t3 (.tup [.ref t1, .ref t2, v])) := fun b zs hb => a3 _ _ (PurseAt.tf (hpa'.ex a12) fz _ _ hb)
      refine q _ yz _ (((fH.trans (Fr.ex a12)).trans fz).trans (Fr.ex a3)) (hpz.ex a3) (by omega) (by omega) ⟨.tuple [.tuple ds, .tuple ((ONS.take d2).map PyData.str), dz], ChD.mk hdall (by omega) (fun x hx => List.mem_of_mem_take hx) (by rw [List.length_take]; exact Nat.min_le_right _ _) hsf.1 kz, dt_tup upd_same (dts_cons ?_ (dts_cons ?_ (dts_cons (DT.tf (TF.ex a3) _ _ dtz) dts_nil)))⟩
      · exact DT.tf tfz _ _ (dt_tup (a2 _ _ upd_same) (DTs.tf (TF.ex a12) _ _ hds))
      · exact DT.tf tfz _ _ (dt_tup upd_same dts_strs)
end
end Prs
set_option Elab.async false
set_option linter.all false
set_option maxRecDepth 100000
set_option maxHeartbeats 4000000
namespace Prs
open PySem PySem.Spec PyProof.Rows L2 Evl
abbrev lAround : Stmt := top 73
abbrev lTermW : Stmt := top 74
theorem call_strB {X : Cx} : CallR X (.type "str") (fun xs H Q => (∃ i, xs = [.int i] ∧ i.natAbs.log2 < 1920 ∧ Q (.str (toString i)) H) ∨ ∃ a, xs = [.str a] ∧ Q (.str a) H) := by
  intro pins s σ H xs us Q I r h
  rcases h with h | h
  · exact call_str_int pins s σ H xs us Q I r h
  · exact SkE.call_str_str pins s σ H xs us Q I r h
theorem el_catR {σ : L2.St} {H : Hp} {ta tb : TE} {xs ys : List V} {l : Addr} (ha : EvL ta σ H xs) (hb : Ev tb σ H (.ref l)) (hl : H l = some (.lst ys)) (hz : xs.length + ys.length ≤ 100000) : EvL (tOp rCat ta tb) σ H (xs ++ ys) := fun H1 e _ q =>
  ha H1 e _ fun p H2 n2 e2 h2 => hb H2 (e.trans e2) _ fun H3 e3 => ⟨p, l, xs, ys, rfl, rfl, e3 p _ h2, e3 l _ (e2 l _ (e l _ hl)), sz_of hz, fun r hr => q r _ (fresh_back (e2.trans e3) hr) ((e2.trans e3).trans (Ex.new hr)) upd_same⟩
/-- words drawn -/
def WrAt (R : List Str → Prop) (H : Hp) (v : V) : Prop := ∃ l ws, v = .ref l ∧ StrsAt H l ws ∧ R ws
section
variable {P : Program} {w : World} {K : PySem.W.Frag} {mg : Str → Option Value} {base : Heap}
abbrev brk (ws : List Str) : List Str := ("(" : Str) :: (ws ++ [(")" : Str)])
def Around (ws : List Str) (wd : Bool) (zs : List Str) : Prop := zs = brk ws ∨ (zs = ws ∧ wd = false)
def spAround : Sp := fun vs H Q _ => ∃ (p wa : Addr) (wd : Bool) (y : Int) (ws : List Str), vs = [.ref p, .ref wa, .bl wd] ∧ PurseAt H p y ∧ 0 ≤ y ∧ y < 68719476736 ∧ StrsAt H wa ws ∧ ws.length ≤ 90000 ∧ Drawn p y 1 H (WrAt (Around ws wd)) Q
theorem scAround : FnScope ["_law_purse_here", "_law_words", "_law_wanted"] ["_law_purse_here", "_law_words", "_law_wanted"] (defScope lAround) := ⟨rfl, rfl, rfl, by decide +kernel, rfl, by decide +kernel, by decide +kernel⟩
set_option maxHeartbeats 0 in
theorem ok_around (D : Df K mg "_law_around" lAround ["_law_purse_here", "_law_words", "_law_wanted"]) (DK : Df K mg "_law_take" lTake ["_law_purse_here", "_law_far"]) (DM : Df K mg "_law_mixed" lMixed ["_law_cell", "_law_k"]) : FnOk P w K mg base CX0 3 D.f D.fd ["_law_purse_here", "_law_words", "_law_wanted"] spAround := by
  have GT : FnOk P w K mg base CX0 2 DK.f DK.fd ["_law_purse_here", "_law_far"] spLTake := ok_ltake DK.F DM
  refine D.F.ok scAround (fun vs H Q E h => ?_) (fun cdv A outer s H vs Q E hr h => ?_)
  · obtain ⟨p, wa, wd, y, ws, rfl, _⟩ := h
    rfl
  · obtain ⟨p, wa, wd, y, ws, rfl, hp, y0, y1, hw, hl, q⟩ := h
    have hr2 : Room 2 _ := hr.mono (by decide)
    refine ⟨_, pss_cons (ps_if (PW.pt (pw_or (pt_val (pv 2)) (pw_or1 (PW.pt (pw_and (pt_cmpR op_notN (pv 0) pe_non (nomark _)) (pw_and1 (pt_cmpR op_eq (pe_call GT hr2 rfl DK.m DK.F.kp DK.b .nil pass0 (pa_cons (pv 0) (pa_cons pe_int pa_nil))) pe_int (nomark _))))))))
      (pss_one (ps_ret (pe_op op_cat (pe_op op_cat (pe_lst (pa_cons pe_str pa_nil)) (pv 1)) (pe_lst (pa_cons pe_str pa_nil))))) pss_nil)
      (pss_one (ps_ret (pv 1))), ?_⟩
    have br : ∀ (y' : Int) (H1 : Hp) (D : Ends) (u : TS), Fr p H H1 → PurseAt H1 p y' → y ≤ y' → y' ≤ y + 1 → D.rt = Q → tRet (tOp rCat (tOp rCat (tLst (tCons (tC (.str "(")) tNil)) (tVar 1)) (tLst (tCons (tC (.str ")")) tNil))) D [some (.ref p), some (.ref wa), some (.bl wd)] H1 := fun y' H1 D u f1 hp1 l1 l2 hd => by
      have hw1 := hw.fr hp f1
      refine s_retL (xs := (brk ws).map V.str) ?_ fun l H2 n2 e2 h2 => ?_
      · have e : (brk ws).map V.str = ([V.str "("] ++ ws.map V.str) ++ [V.str ")"] := by simp
        rw [e]
        exact el_cat (el_catR (el_lst (ea_cons ev_c ea_nil) (by decide)) (ev_var rfl) hw1.at_ (by simp; omega)) (el_lst (ea_cons ev_c ea_nil) (by decide)) (by simp; omega)
      · rw [hd]
        exact q _ y' _ (f1.trans (Fr.ex e2)) (hp1.ex e2) l1 l2 ⟨l, _, rfl, ⟨h2⟩, .inl rfl⟩
    refine ⟨.bl wd, rfl, wd, rfl, ite_of (fun hb => ?_) (fun hb => ?_)⟩
    · exact br y H _ tNext (Fr.ex (Ex.refl H)) hp (Int.le_refl _) (by omega) rfl
    · refine ⟨.ref p, rfl, rfl, _, rfl, ite_of (fun _ => ?_) (fun hx => ?_)⟩
      · refine ⟨.ref p, rfl, p, 8, y, rfl, by decide, by decide, hp, y0, y1, fun d y' H1 d0 d1 l1 l2 f1 hp1 => ?_⟩
        refine ⟨rfl, _, rfl, ite_of (fun hd => ?_) (fun hd => ?_)⟩
        · exact br y' H1 _ tNext f1 hp1 l1 l2 rfl
        · exact ⟨.ref wa, rfl, q _ y' _ f1 hp1 l1 l2 ⟨wa, ws, rfl, hw.fr hp f1, .inr ⟨rfl, hb⟩⟩⟩
      · exact absurd hx (by simp)
end
end Prs
set_option Elab.async false
set_option linter.all false
set_option maxRecDepth 100000
set_option maxHeartbeats 4000000
namespace Prs
open PySem PySem.Spec PyProof.Rows L2 Evl
def sumL : List V := (["sum", "less"] : List Str).map V.str
def isSum : PyData → Bool
  | .tuple (.str w :: _) => inV (.str w) sumL
  | _ => false
def wl : Nat → Nat
  | 0 => 0
  | n + 1 => 2 * wl n + 3
def pbT : Nat → Int
  | 0 => 0
  | n + 1 => 2 * pbT n + 1
theorem pbT_nn : ∀ n, 0 ≤ pbT n
  | 0 => by unfold pbT; omega
  | n + 1 => by
    have := pbT_nn n
    unfold pbT
    omega
def allGood (ws : List Str) : Prop := ∀ w ∈ ws, goodW w = true
structure WTm (n : Nat) (t : PyData) (ws : List Str) : Prop where
  f : TW false (n + 1) t (ws.map tk)
  w : isSum t = false → TW true (n + 1) t (ws.map tk)
  g : allGood ws
  l : ws.length ≤ wl n
def numOk (i : Int) : Bool := goodW (Str.ofString (toString i)) && (decide (kindOf (Str.ofString (toString i)) = "a number") && (decide (numM (Str.ofString (toString i)) = some i) && decide (i.natAbs.log2 < 1920)))
theorem nums_ok : NUMS.all numOk = true := by decide +kernel
def factOk (x : Str) : Bool := goodW x && decide (kindOf x = "a name")
theorem factsG_ok : FACTS.all factOk = true := by decide +kernel
theorem tk_br1 : tk "(" = kw "(" := by decide +kernel
theorem tk_br2 : tk ")" = kw ")" := by decide +kernel
theorem map_brk (ws : List Str) : (brk ws).map tk = kw "(" :: (ws.map tk ++ [kw ")"]) := by
  simp only [brk, List.map_cons, List.map_append, List.map_nil, tk_br1, tk_br2]
theorem good_brk {ws : List Str} (h : allGood ws) : allGood (brk ws) := fun w hw => by
  simp only [brk, List.mem_cons, List.mem_append, List.not_mem_nil, or_false] at hw
  rcases hw with rfl | hw | rfl
  · decide +kernel
  · exact h w hw
  · decide +kernel
theorem len_brk (ws : List Str) : (brk ws).length = ws.length + 2 := by simp [brk]
theorem arnd_len {ws zs : List Str} {wd : Bool} (h : Around ws wd zs) : zs.length ≤ ws.length + 2 := by
  rcases h with rfl | ⟨rfl, _⟩
  · rw [len_brk]
    exact Nat.le_refl _
  · omega
theorem arnd_good {ws zs : List Str} {wd : Bool} (h : Around ws wd zs) (g : allGood ws) : allGood zs := by
  rcases h with rfl | ⟨rfl, _⟩
  · exact good_brk g
  · exact g
/-- a term's words, brackets around -/
theorem WTm.whole {n : Nat} {t : PyData} {ws zs : List Str} (h : WTm n t ws) (a : Around ws (isSum t) zs) : TW true (n + 2) t (zs.map tk) := by
  rcases a with rfl | ⟨rfl, e⟩
  · rw [map_brk]
    exact .br h.f
  · exact (h.w e).up
theorem leaf_tm {t : PyData} {s : Str} {zs : List Str} (h : TW true 1 t [tk s]) (g : goodW s = true) (a : Around [s] false zs) (n : Nat) : WTm (n + 1) t zs := by
  have h2 : TW true (n + 2) t (zs.map tk) := by
    rcases a with rfl | ⟨rfl, _⟩
    · rw [map_brk]
      exact TW.to (.br h.whole) _ (by omega)
    · exact TW.to h _ (by omega)
  refine ⟨h2.whole, fun _ => h2, arnd_good a fun w hw => ?_, ?_⟩
  · rcases List.mem_cons.mp hw with q | q
    · rw [q]
      exact g
    · cases q
  · have := arnd_len a
    simp only [List.length_cons, List.length_nil] at this
    unfold wl
    omega
theorem atI_zero {x : V} {r : List V} : atI (x :: r) 0 = some x := by
  unfold atI ixN
  simp
theorem ev_dd {σ : L2.St} {H : Hp} {ti : TE} {k1 k2 wd : Str} {v1 v2 v : V} (h : Ev ti σ H (.str wd)) (hv : valV (mergeK [] [((Sum.inr k1 : L2.Key), v1), (Sum.inr k2, v2)]) (Sum.inr wd) = some v) : Ev (tDGet (tDisp [(tC (.str k1), tC v1), (tC (.str k2), tC v2)]) ti) σ H v := fun H1 e Q q => fun p hp => by
  refine ⟨upd_same, [(Sum.inr k1, v1), (Sum.inr k2, v2)], rfl, by show 2 ≤ 15; decide, ?_⟩
  have e2 : Ex H1 (L2.upd (L2.upd H1 p (.dK [])) p (.dK (mergeK [] [((Sum.inr k1 : L2.Key), v1), (Sum.inr k2, v2)]))) := fun a o ha => by
    have hne : a ≠ p := fun z => by rw [z, hp] at ha; cases ha
    rw [upd_ne hne, upd_ne hne]
    exact ha
  refine h _ (e.trans e2) _ fun H3 e3 => ?_
  have := DGet.k (k := Sum.inr wd) (e3 _ _ upd_same)
  rw [hv] at this
  exact ⟨p, v, rfl, this, q H3 (e2.trans e3)⟩
section
variable {P : Program} {w : World} {K : PySem.W.Frag} {mg : Str → Option Value} {base : Heap}
def spTermW (n : Nat) : Sp := fun vs H Q _ => ∃ (p : Addr) (v : V) (t : PyData) (y : Int), vs = [.ref p, v] ∧ PurseAt H p y ∧ 0 ≤ y ∧ y + pbT n < 68719476736 ∧ wl n ≤ 40000 ∧ TmD n t ∧ DT H t v ∧ Drawn p y (pbT n) H (WrAt (WTm n t)) Q
theorem scTermW : FnScope ["_law_purse_here", "_law_term_here", "_law_one", "_law_other"] ["_law_purse_here", "_law_term_here"] (defScope lTermW) := ⟨rfl, rfl, rfl, by decide +kernel, rfl, by decide +kernel, by decide +kernel⟩
set_option maxHeartbeats 0 in
theorem ok_termW (gs : mg "str" = none) (D : Df K mg "_law_term_words" lTermW ["_law_purse_here", "_law_term_here"]) (DA : Df K mg "_law_around" lAround ["_law_purse_here", "_law_words", "_law_wanted"]) (DK : Df K mg "_law_take" lTake ["_law_purse_here", "_law_far"]) (DM : Df K mg "_law_mixed" lMixed ["_law_cell", "_law_k"]) :
    ∀ n, FnOk P w K mg base CX0 (3 + n) D.f D.fd ["_law_purse_here", "_law_term_here"] (spTermW n)
  | 0 => by
    refine ⟨fun vs H Q E h => ?_, fun A outer s H args us vs Q E _ _ _ _ h => ?_⟩
    · obtain ⟨p, v, t, y, rfl, _⟩ := h
      rfl
    · obtain ⟨p, v, t, y, rfl, _, _, _, _, ht, _⟩ := h
      exact absurd ht (fun z => nomatch z)
  | n + 1 => by
    have GS := ok_termW gs D DA DK DM n
    have GA : FnOk P w K mg base CX0 3 DA.f DA.fd ["_law_purse_here", "_law_words", "_law_wanted"] spAround := ok_around DA DK DM
    refine D.F.ok scTermW (fun vs H Q E h => ?_) (fun cdv A outer s H vs Q E hr h => ?_)
    · obtain ⟨p, v, t, y, rfl, _⟩ := h
      rfl
    · obtain ⟨p, v, t, y, rfl, hp, y0, y1, hwl, ht, hd, q⟩ := h
      have hr3 : Room 3 _ := hr.mono (show 3 ≤ 3 + n by omega)
      have tn := pbT_nn n
      have te : pbT (n + 1) = 2 * pbT n + 1 := rfl
      have we : wl (n + 1) = 2 * wl n + 3 := rfl
      refine ⟨_, pss_cons (ps_if (pt_cmpR op_in_seq (pe_ix ix_tup (pv 1) pe_int (fun _ _ => rfl)) (pe_tup (pa_cons pe_str (pa_cons pe_str pa_nil))) (by rfl))
          (pss_one (ps_ret (pe_call GA hr3 rfl DA.m DA.F.kp DA.b .nil pass0 (pa_cons (pv 0) (pa_cons (pe_lst (pa_cons (pe_callTy call_strB (by rfl) gs (by rfl) (pa_cons (pe_ix ix_tup (pv 1) pe_int (fun _ _ => rfl)) pa_nil)) pa_nil)) (pa_cons pe_bl pa_nil)))))) pss_nil)
        (pss_cons (ps_set (i := 2) scTermW.nd rfl (.inl rfl) (pe_call GS hr rfl D.m D.F.kp D.b .nil pass0 (pa_cons (pv 0) (pa_cons (pe_ix ix_tup (pv 1) pe_int (fun _ _ => rfl)) pa_nil))))
        (pss_cons (ps_set (i := 3) scTermW.nd rfl (.inl rfl) (pe_call GA hr3 rfl DA.m DA.F.kp DA.b .nil pass0 (pa_cons (pv 0) (pa_cons (pe_call GS hr rfl D.m D.F.kp D.b .nil pass0 (pa_cons (pv 0) (pa_cons (pe_ix ix_tup (pv 1) pe_int (fun _ _ => rfl)) pa_nil))) (pa_cons (pe_cmpR op_in_seq (pe_ix ix_tup (pe_ix ix_tup (pv 1) pe_int (fun _ _ => rfl)) pe_int (fun _ _ => rfl)) (pe_tup (pa_cons pe_str (pa_cons pe_str pa_nil))) (by rfl)) pa_nil)))))
        (pss_one (ps_ret (pe_op op_cat (pe_op op_cat (pv 2) (pe_lst (pa_cons (pe_dget (hu_of hr) (pe_disp (pps_cons pe_str pe_str (pps_cons pe_str pe_str pps_nil)) rfl rfl (by decide) (by decide)) (pe_ix ix_tup (pv 1) pe_int (fun _ _ => rfl)) (fun _ _ => rfl)) pa_nil))) (pv 3)))))), ?_⟩
      have hc : (∃ (ta : Addr) (wd s : Str) (x : V), v = .ref ta ∧ H ta = some (.tup [.str wd, x]) ∧ inV (.str wd) ((["num", "fact"] : List Str).map V.str) = true ∧ (∀ (H1 : Hp) (Q1 : VK), Q1 (.str s) H1 → ((∃ i, [x] = [V.int i] ∧ i.natAbs.log2 < 1920 ∧ Q1 (.str (toString i)) H1) ∨ ∃ a, [x] = [V.str a] ∧ Q1 (.str a) H1)) ∧ TW true 1 t [tk s] ∧ goodW s = true) ∨ (∃ (ta : Addr) (wd : Str) (a c : PyData) (va vc : V), v = .ref ta ∧ H ta = some (.tup [.str wd, va, vc]) ∧ (wd = "sum" ∨ wd = "less") ∧ t = .tuple [.str wd, a, c] ∧ TmD n a ∧ TmD n c ∧ DT H a va ∧ DT H c vc) := by
        cases ht with
        | @num _ i hi =>
          unfold DT at hd
          obtain ⟨ta, vs, rfl, hta, hs⟩ := hd
          unfold DTs at hs
          obtain ⟨u, r, rfl, h1, hs⟩ := hs
          unfold DTs at hs
          obtain ⟨u2, r2, rfl, h2, hs⟩ := hs
          unfold DTs at hs
          subst hs
          unfold DT at h1 h2
          subst h1 h2
          have ok := List.all_eq_true.mp nums_ok i hi
          unfold numOk at ok
          simp only [Bool.and_eq_true, decide_eq_true_eq] at ok
          refine .inl ⟨ta, "num", Str.ofString (toString i), .int i, rfl, hta, by decide +kernel, fun H1 Q1 qq => .inl ⟨i, rfl, ok.2.2.2, qq⟩, ?_, ok.1⟩
          have : tk (Str.ofString (toString i)) = nu (Str.ofString (toString i)) := by
            unfold tk nu
            rw [ok.2.1]
          rw [this]
          exact .num ok.2.2.1
        | @fact _ x hx =>
          unfold DT at hd
          obtain ⟨ta, vs, rfl, hta, hs⟩ := hd
          unfold DTs at hs
          obtain ⟨u, r, rfl, h1, hs⟩ := hs
          unfold DTs at hs
          obtain ⟨u2, r2, rfl, h2, hs⟩ := hs
          unfold DTs at hs
          subst hs
          unfold DT at h1 h2
          subst h1 h2
          have ok := List.all_eq_true.mp factsG_ok x hx
          unfold factOk at ok
          simp only [Bool.and_eq_true, decide_eq_true_eq] at ok
          refine .inl ⟨ta, "fact", x, .str x, rfl, hta, by decide +kernel, fun H1 Q1 qq => .inr ⟨x, rfl, qq⟩, ?_, ok.1⟩
          have : tk x = nm x := by
            unfold tk nm
            rw [ok.2]
          rw [this]
          exact .fact
        | @sum _ wd a c hw ha hc' =>
          unfold DT at hd
          obtain ⟨ta, vs, rfl, hta, hs⟩ := hd
          unfold DTs at hs
          obtain ⟨u, r, rfl, h1, hs⟩ := hs
          unfold DTs at hs
          obtain ⟨u2, r2, rfl, h2, hs⟩ := hs
          unfold DTs at hs
          obtain ⟨u3, r3, rfl, h3, hs⟩ := hs
          unfold DTs at hs
          subst hs
          unfold DT at h1
          subst h1
          exact .inr ⟨ta, wd, a, c, u2, u3, rfl, hta, hw, rfl, ha, hc', h2, h3⟩
      rcases hc with ⟨ta, wd, s, x, rfl, hta, hin, hs, htw, hg⟩ | ⟨ta, wd, a, c, va, vc, rfl, hta, hw, rfl, ha, hcc, da, dc⟩
      · refine q_when (b := inV (.str wd) ((["num", "fact"] : List Str).map V.str)) (et_test (ev_inU (ev_op (ev_var rfl) ev_c (rv_ixT (i := 0) (st_of hta) rfl)) (eu_tup (ea_cons ev_c (ea_cons ev_c ea_nil)) (by show 2 ≤ 100000; decide)) rfl (by decide +kernel))) (fun _ H1 e1 => ?_) (fun hb _ _ => by rw [hin] at hb; cases hb)
        have hta1 := e1 _ _ hta
        have hp1 := hp.ex e1
        refine ⟨.ref p, rfl, ?_⟩
        refine (el_lst (ea_cons (ev_cb (ea_cons (ev_op (ev_var rfl) ev_c (rv_ixT (i := 1) (st_of hta1) rfl)) ea_nil) (fun H2 _ _ qq => hs _ _ (qq H2 (Ex.refl H2)))) ea_nil) (by show 1 ≤ 100000; decide) : EvL _ _ H1 [V.str s]) H1 (Ex.refl H1) _ fun l H2 nl e2 hl => ⟨p, l, false, y, [s], rfl, hp1.ex e2, y0, by omega, ⟨hl⟩, by simp, fun u y' H3 f3 hp3 l1 l2 r => ?_⟩
        obtain ⟨l3, zs, rfl, hz, hr'⟩ := r
        exact q _ y' _ ((Fr.ex (e1.trans e2)).trans f3) hp3 l1 (by omega) ⟨l3, zs, rfl, hz, leaf_tm htw hg hr' n⟩
      · refine q_when (b := inV (.str wd) ((["num", "fact"] : List Str).map V.str)) (et_test (ev_inU (ev_op (ev_var rfl) ev_c (rv_ixT (i := 0) (st_of hta) rfl)) (eu_tup (ea_cons ev_c (ea_cons ev_c ea_nil)) (by show 2 ≤ 100000; decide)) rfl (by decide +kernel))) (fun hb _ _ => ?_) (fun _ H1 e1 => ?_)
        · rcases hw with rfl | rfl <;> exact absurd hb (by decide +kernel)
        have hta1 := e1 _ _ hta
        have hp1 := hp.ex e1
        refine ⟨.ref p, rfl, .ref ta, rfl, ta, _, 1, va, rfl, rfl, st_of hta1, rfl, p, va, a, y, rfl, hp1, y0, by omega, by omega, ha, DT.tf (TF.ex e1) _ _ da, fun u1 y2 H2 f2 hp2 l1 l2 r1 => ?_⟩
        obtain ⟨la, wa, rfl, hwa, ra⟩ := r1
        have t2 : TF H H2 := fun b zs hb => (PurseAt.tf hp1 f2) _ _ (e1 _ _ hb)
        have hta2 := t2 _ _ hta
        refine ⟨.ref p, rfl, .ref p, rfl, .ref ta, rfl, ta, _, 2, vc, rfl, rfl, st_of hta2, rfl, p, vc, c, y2, rfl, hp2, by omega, by omega, by omega, hcc, DT.tf t2 _ _ dc, fun u2 y3 H3 f3 hp3 l3 l4 r2 => ?_⟩
        obtain ⟨lc, wc, rfl, hwc, rc⟩ := r2
        have t3 : TF H H3 := fun b zs hb => (PurseAt.tf hp2 f3) _ _ (t2 _ _ hb)
        have hta3 := t3 _ _ hta
        have hwa3 := hwa.fr hp2 f3
        obtain ⟨sc, hsc, esc⟩ : ∃ (sx : Addr) (wx : Str), vc = .ref sx ∧ ∃ rx, H3 sx = some (.tup (.str wx :: rx)) ∧ isSum c = inV (.str wx) sumL := by
          have d3 := DT.tf t3 _ _ dc
          cases hcc with
          | num _ =>
            unfold DT at d3
            obtain ⟨sx, vs, rfl, hsx, hs⟩ := d3
            unfold DTs at hs
            obtain ⟨u, r, rfl, h1, hs⟩ := hs
            unfold DT at h1
            subst h1
            exact ⟨sx, _, rfl, r, hsx, rfl⟩
          | fact _ =>
            unfold DT at d3
            obtain ⟨sx, vs, rfl, hsx, hs⟩ := d3
            unfold DTs at hs
            obtain ⟨u, r, rfl, h1, hs⟩ := hs
            unfold DT at h1
            subst h1
            exact ⟨sx, _, rfl, r, hsx, rfl⟩
          | sum _ _ _ =>
            unfold DT at d3
            obtain ⟨sx, vs, rfl, hsx, hs⟩ := d3
            unfold DTs at hs
            obtain ⟨u, r, rfl, h1, hs⟩ := hs
            unfold DT at h1
            subst h1
            exact ⟨sx, _, rfl, r, hsx, rfl⟩
        obtain ⟨rfl, rx, hsx, esum⟩ := esc
        refine (ev_inU (ev_op (ev_op (ev_var rfl) ev_c (rv_ixT (i := 2) (st_of hta3) rfl)) ev_c (rv_ixT (i := 0) (st_of hsx) atI_zero)) (eu_tup (ea_cons ev_c (ea_cons ev_c ea_nil)) (by show 2 ≤ 100000; decide)) rfl (by decide +kernel) : Ev _ _ H3 (.bl (inV (.str hsc) sumL))) H3 (Ex.refl H3) _ fun H4 e4 => ?_
        rw [← esum]
        refine ⟨p, lc, isSum c, y3, wc, rfl, hp3.ex e4, by omega, by omega, ⟨e4 _ _ hwc.at_⟩, by have := rc.l; omega, fun u3 y4 H5 f5 hp5 l5 l6 r3 => ?_⟩
        obtain ⟨lz, zc, rfl, hzc, az⟩ := r3
        have hwa5 : StrsAt H5 la wa := StrsAt.fr (hp3.ex e4) ⟨e4 _ _ hwa3.at_⟩ f5
        have t5 : TF H H5 := fun b zs hb => (PurseAt.tf (hp3.ex e4) f5) _ _ (e4 _ _ (t3 _ _ hb))
        have hta5 := t5 _ _ hta
        obtain ⟨o, ho, hoV, ho1⟩ : ∃ o : Str, sumsOf o = some wd ∧ valV (mergeK [] [((Sum.inr "sum" : L2.Key), V.str "+"), (Sum.inr "less", .str "-")]) (Sum.inr wd) = some (.str o) ∧ (tk o = kw o ∧ goodW o = true) := by
          rcases hw with rfl | rfl
          · exact ⟨"+", by decide +kernel, rfl, by decide +kernel, by decide +kernel⟩
          · exact ⟨"-", by decide +kernel, rfl, by decide +kernel, by decide +kernel⟩
        dsimp only [gName]
        refine s_retL (xs := (wa ++ o :: zc).map V.str) ?_ fun l6 H6 n6 e6 h6 => ?_
        · have e : (wa ++ o :: zc).map V.str = (wa.map V.str ++ [V.str o]) ++ zc.map V.str := by simp
          rw [e]
          have := arnd_len az
          have k1 := ra.l
          have k2 := rc.l
          exact el_catR (el_catK (ev_var rfl) hwa5.at_ (el_lst (ea_cons (ev_dd (ev_op (ev_var rfl) ev_c (rv_ixT (i := 0) (st_of hta5) rfl)) hoV) ea_nil) (by show 1 ≤ 100000; decide)) (by simp; omega)) (ev_var rfl) hzc.at_ (by simp; omega)
        · refine q _ y4 _ ((((Fr.ex e1).trans f2).trans f3).trans (((Fr.ex e4).trans f5).trans (Fr.ex e6))) (hp5.ex e6) (by omega) (by omega) ⟨l6, _, rfl, ⟨h6⟩, ?_, fun z => ?_, fun x hx => ?_, ?_⟩
          · have e : (wa ++ o :: zc).map tk = wa.map tk ++ kw o :: zc.map tk := by rw [List.map_append, List.map_cons, ho1.1]
            rw [e]
            exact .sum ra.f.up (rc.whole az) ho
          · rcases hw with rfl | rfl <;> exact absurd z (by show ¬ inV _ sumL = false; decide +kernel)
          · rcases List.mem_append.mp hx with h | h
            · exact ra.g x h
            · rcases List.mem_cons.mp h with h | h
              · rw [h]
                exact ho1.2
              · exact arnd_good az rc.g x h
          · have := arnd_len az
            have k1 := ra.l
            have k2 := rc.l
            simp only [List.length_append, List.length_cons]
            omega
end
end Prs
set_option Elab.async false
set_option linter.all false
set_option maxRecDepth 100000
set_option maxHeartbeats 4000000
namespace Prs
open PySem PySem.Spec PyProof.Rows L2 Evl
abbrev lGuardW : Stmt := top 75
theorem dtT {H : Hp} {ds : List PyData} {v : V} (h : DT H (.tuple ds) v) : ∃ a vs, v = .ref a ∧ H a = some (.tup vs) ∧ DTs H ds vs := by
  unfold DT at h
  exact h
theorem dtsC {H : Hp} {d : PyData} {ds : List PyData} {vs : List V} (h : DTs H (d :: ds) vs) : ∃ v r, vs = v :: r ∧ DT H d v ∧ DTs H ds r := by
  unfold DTs at h
  exact h
theorem dtsN {H : Hp} {vs : List V} (h : DTs H [] vs) : vs = [] := by
  unfold DTs at h
  exact h
theorem dtS {H : Hp} {s : Str} {v : V} (h : DT H (.str s) v) : v = .str s := by
  unfold DT at h
  exact h
theorem dtI {H : Hp} {s : Int} {v : V} (h : DT H (.int s) v) : v = .int s := by
  unfold DT at h
  exact h
def hdS : PyData → Str
  | .tuple (.str w :: _) => w
  | _ => ""
def twoL : List V := (["both", "either"] : List Str).map V.str
def wlG : Nat → Nat
  | 0 => 0
  | n + 1 => 2 * wlG n + 25
def pbG : Nat → Int
  | 0 => 0
  | n + 1 => 2 * pbG n + 10
theorem pbG_nn : ∀ n, 0 ≤ pbG n
  | 0 => by unfold pbG; omega
  | n + 1 => by
    have := pbG_nn n
    unfold pbG
    omega
structure WGu (n : Nat) (g : PyData) (ws : List Str) : Prop where
  f : GW 2 (3 * n + 1) g (ws.map tk)
  one : inV (.str (hdS g)) twoL = false → GW 0 (3 * n + 1) g (ws.map tk)
  bth : decide (V.str (hdS g) = V.str "either") = false → GW 1 (3 * n + 1) g (ws.map tk)
  g : allGood ws
  l : ws.length ≤ wlG n
theorem WGu.all {n : Nat} {g : PyData} {ws : List Str} (h : ∀ l, GW l (3 * n + 1) g (ws.map tk)) (h2 : allGood ws) (h3 : ws.length ≤ wlG n) : WGu n g ws := ⟨h 2, fun _ => h 0, fun _ => h 1, h2, h3⟩
theorem WGu.whole {n : Nat} {g : PyData} {ws zs : List Str} (h : WGu n g ws) (a : Around ws (inV (.str (hdS g)) twoL) zs) : GW 0 (3 * n + 3) g (zs.map tk) := by
  rcases a with rfl | ⟨rfl, e⟩
  · rw [map_brk]
    exact .br h.f
  · exact (h.one e).to _ (by omega)
theorem nameG {x : Str} (h : x ∈ NAMES) : goodW x = true ∧ tk x = nm x := by
  have ok := List.all_eq_true.mp names_ok x h
  unfold nameOk at ok
  simp only [Bool.and_eq_true, decide_eq_true_eq] at ok
  refine ⟨ok.1, ?_⟩
  unfold tk nm
  rw [ok.2.2.1]
theorem dt_at {H : Hp} {ds : List PyData} {a : Addr} {vs : List V} (h : DT H (.tuple ds) (.ref a)) (hg : H a = some (.tup vs)) : DTs H ds vs := by
  obtain ⟨b, us, e, hb, hs⟩ := dtT h
  cases e
  rw [hg] at hb
  cases hb
  exact hs
section
variable {σ : L2.St} {H : Hp} {D : Ends} {t : TT} {tu tw tz : TS}
theorem q_ifT (h : EvT t σ H true) (k : ∀ H1, Ex H H1 → tu { D with nx := tz D } σ H1) : tSeq (tIfS t tu tw) tz D σ H := q_if h (fun _ => k) (fun z => nomatch z)
theorem q_ifF (h : EvT t σ H false) (k : ∀ H1, Ex H H1 → tw { D with nx := tz D } σ H1) : tSeq (tIfS t tu tw) tz D σ H := q_if h (fun z => nomatch z) (fun _ => k)
theorem s_ifT (h : EvT t σ H true) (k : ∀ H1, Ex H H1 → tu D σ H1) : tIfS t tu tw D σ H := s_if h (fun _ => k) (fun z => nomatch z)
theorem s_ifF (h : EvT t σ H false) (k : ∀ H1, Ex H H1 → tw D σ H1) : tIfS t tu tw D σ H := s_if h (fun z => nomatch z) (fun _ => k)
end
theorem good_of {ws : List Str} (h : ws.all goodW = true) : allGood ws := List.all_eq_true.mp h
theorem q_catA {σ : L2.St} {H : Hp} {D : Ends} {ta tb : TE} {i : Nat} {xs : List V} (h : EvL ta σ H xs) (k : ∀ l H1, H l = none → Ex H H1 → H1 l = some (.lst xs) → tb σ H1 fun y H2 => rCat (.ref l) y H2 fun v H3 => D.nx (σ.set i (some v)) H3) : tAsg (tOp rCat ta tb) (gName i) D σ H := h H (Ex.refl H) _ k
theorem q_asgN {σ : L2.St} {H : Hp} {D : Ends} {ta : TE} {i : Nat} {xs : List V} (h : EvL ta σ H xs) (k : ∀ l H1, H l = none → Ex H H1 → H1 l = some (.lst xs) → D.nx (σ.set i (some (.ref l))) H1) : tAsg ta (gName i) D σ H := h H (Ex.refl H) _ k
theorem gu_head {n : Nat} {a : PyData} {H : Hp} {v : V} (h : GuD n a) (d : DT H a v) : ∃ sx rx, v = .ref sx ∧ H sx = some (.tup (.str (hdS a) :: rx)) := by
  cases h <;> (obtain ⟨sx, vs, rfl, hsx, hs⟩ := dtT d; obtain ⟨u, r, rfl, h1, _⟩ := dtsC hs; have := dtS h1; subst this; exact ⟨sx, r, rfl, hsx⟩)
section
variable {K : PySem.W.Frag} {σ : L2.St} {H : Hp}
theorem ev_ixT0 {te : TE} {ga : Addr} {w : Str} {r : List V} (h : Ev te σ H (.ref ga)) (hg : H ga = some (.tup (V.str w :: r))) : Ev (tOp (rIxT K) te (tC (.int 0))) σ H (.str w) := ev_op h ev_c (rv_ixT (i := 0) (st_of hg) atI_zero)
theorem ev_in2 {te : TE} {w s1 s2 : Str} (h : Ev te σ H (.str w)) : Ev (tOp (rIn K false) te (tTup (tCons (tC (.str s1)) (tCons (tC (.str s2)) tNil)))) σ H (.bl (inV (.str w) [.str s1, .str s2])) := ev_inU h (eu_tup (ea_cons ev_c (ea_cons ev_c ea_nil)) (by show 2 ≤ 100000; decide)) rfl rfl
theorem ev_eqS {te : TE} {w s : Str} (h : Ev te σ H (.str w)) : Ev (tOp rEq te (tC (.str s))) σ H (.bl (decide (V.str w = V.str s))) := ev_op h ev_c (rv_eq rfl)
end
section
variable {P : Program} {w : World} {K : PySem.W.Frag} {mg : Str → Option Value} {base : Heap}
def spGuardW (n : Nat) : Sp := fun vs H Q _ => ∃ (p : Addr) (v : V) (t : PyData) (y : Int), vs = [.ref p, v] ∧ PurseAt H p y ∧ 0 ≤ y ∧ y + pbG n < 68719476736 ∧ wlG n ≤ 40000 ∧ GuD n t ∧ DT H t v ∧ Drawn p y (pbG n) H (WrAt (WGu n t)) Q
theorem scGuardW : FnScope ["_law_purse_here", "_law_guard_here", "_law_words", "_law_first"] ["_law_purse_here", "_law_guard_here"] (defScope lGuardW) := ⟨rfl, rfl, rfl, by decide +kernel, rfl, by decide +kernel, by decide +kernel⟩
set_option maxHeartbeats 0 in
theorem ok_guardW (gs : mg "str" = none) (D : Df K mg "_law_guard_words" lGuardW ["_law_purse_here", "_law_guard_here"]) (DT' : Df K mg "_law_term_words" lTermW ["_law_purse_here", "_law_term_here"]) (DA : Df K mg "_law_around" lAround ["_law_purse_here", "_law_words", "_law_wanted"]) (DK : Df K mg "_law_take" lTake ["_law_purse_here", "_law_far"]) (DM : Df K mg "_law_mixed" lMixed ["_law_cell", "_law_k"]) :
    ∀ n, FnOk P w K mg base CX0 (5 + n) D.f D.fd ["_law_purse_here", "_law_guard_here"] (spGuardW n)
  | 0 => by
    refine ⟨fun vs H Q E h => ?_, fun A outer s H args us vs Q E _ _ _ _ h => ?_⟩
    · obtain ⟨p, v, t, y, rfl, _⟩ := h
      rfl
    · obtain ⟨p, v, t, y, rfl, _, _, _, _, ht, _⟩ := h
      exact absurd ht (fun z => nomatch z)
  | n + 1 => by
    have GS := ok_guardW gs D DT' DA DK DM n
    have GT : FnOk P w K mg base CX0 5 DT'.f DT'.fd ["_law_purse_here", "_law_term_here"] (spTermW 2) := ok_termW gs DT' DA DK DM 2
    have GA : FnOk P w K mg base CX0 3 DA.f DA.fd ["_law_purse_here", "_law_words", "_law_wanted"] spAround := ok_around DA DK DM
    refine D.F.ok scGuardW (fun vs H Q E h => ?_) (fun cdv A outer s H vs Q E hr h => ?_)
    · obtain ⟨p, v, t, y, rfl, _⟩ := h
      rfl
    · obtain ⟨p, v, t, y, rfl, hp, y0, y1, hwl, ht, hd, q⟩ := h
      have hr3 : Room 3 _ := hr.mono (show 3 ≤ 5 + n by omega)
      have hr5 : Room 5 _ := hr.mono (show 5 ≤ 5 + n by omega)
      have tn := pbG_nn n
      have te : pbG (n + 1) = 2 * pbG n + 10 := rfl
      have we : wlG (n + 1) = 2 * wlG n + 25 := rfl
      refine ⟨_, pss_cons (ps_if (pt_cmpR op_in_seq (pe_ix ix_tup (pv 1) pe_int (fun _ _ => rfl)) (pe_tup (pa_cons pe_str (pa_cons pe_str pa_nil))) (by rfl))
          (pss_cons (ps_set (i := 2) scGuardW.nd rfl (.inl rfl) (pe_lst (pa_cons pe_str pa_nil)))
            (pss_one (ps_if (pt_cmpR op_eq (pe_ix ix_tup (pv 1) pe_int (fun _ _ => rfl)) pe_str (nomark _)) (pss_one (ps_set (i := 2) scGuardW.nd rfl (.inl rfl) (pe_lst (pa_cons pe_str (pa_cons (pe_ix ix_tup (pv 1) pe_int (fun _ _ => rfl)) pa_nil))))) pss_nil)))
          (pss_one (ps_if (pt_cmpR op_eq (pe_ix ix_tup (pv 1) pe_int (fun _ _ => rfl)) pe_str (nomark _))
            (pss_one (ps_set (i := 2) scGuardW.nd rfl (.inl rfl) (pe_op op_cat (pe_lst (pa_cons pe_str pa_nil)) (pe_call GA hr3 rfl DA.m DA.F.kp DA.b .nil pass0 (pa_cons (pv 0) (pa_cons (pe_call GS hr rfl D.m D.F.kp D.b .nil pass0 (pa_cons (pv 0) (pa_cons (pe_ix ix_tup (pv 1) pe_int (fun _ _ => rfl)) pa_nil))) (pa_cons (pe_cmpR op_in_seq (pe_ix ix_tup (pe_ix ix_tup (pv 1) pe_int (fun _ _ => rfl)) pe_int (fun _ _ => rfl)) (pe_tup (pa_cons pe_str (pa_cons pe_str pa_nil))) (by rfl)) pa_nil)))))))
            (pss_one (ps_if (pt_cmpR op_in_seq (pe_ix ix_tup (pv 1) pe_int (fun _ _ => rfl)) (pe_tup (pa_cons pe_str (pa_cons pe_str pa_nil))) (by rfl))
              (pss_cons (ps_set (i := 2) scGuardW.nd rfl (.inl rfl) (pe_op op_cat (pe_call GT hr5 rfl DT'.m DT'.F.kp DT'.b .nil pass0 (pa_cons (pv 0) (pa_cons (pe_ix ix_tup (pv 1) pe_int (fun _ _ => rfl)) pa_nil))) (pe_lst (pa_cons (pe_dget (hu_of hr) (pe_disp (pps_cons pe_str pe_str (pps_cons pe_str pe_str pps_nil)) rfl rfl (by decide) (by decide)) (pe_ix ix_tup (pv 1) pe_int (fun _ _ => rfl)) (fun _ _ => rfl)) pa_nil))))
                (pss_one (ps_set (i := 2) scGuardW.nd rfl (.inl rfl) (pe_op op_cat (pv 2) (pe_call GT hr5 rfl DT'.m DT'.F.kp DT'.b .nil pass0 (pa_cons (pv 0) (pa_cons (pe_ix ix_tup (pv 1) pe_int (fun _ _ => rfl)) pa_nil)))))))
              (pss_cons (ps_set (i := 3) scGuardW.nd rfl (.inl rfl) (pe_and (pe_cmpR op_eq (pe_ix ix_tup (pv 1) pe_int (fun _ _ => rfl)) pe_str (nomark _)) (pe_one (pe_cmpR op_eq (pe_ix ix_tup (pe_ix ix_tup (pv 1) pe_int (fun _ _ => rfl)) pe_int (fun _ _ => rfl)) pe_str (nomark _)))))
              (pss_cons (ps_set (i := 2) scGuardW.nd rfl (.inl rfl) (pe_call GA hr3 rfl DA.m DA.F.kp DA.b .nil pass0 (pa_cons (pv 0) (pa_cons (pe_call GS hr rfl D.m D.F.kp D.b .nil pass0 (pa_cons (pv 0) (pa_cons (pe_ix ix_tup (pv 1) pe_int (fun _ _ => rfl)) pa_nil))) (pa_cons (pv 3) pa_nil)))))
              (pss_cons (ps_set (i := 2) scGuardW.nd rfl (.inl rfl) (pe_op op_cat (pv 2) (pe_lst (pa_cons (pe_dget (hu_of hr) (pe_disp (pps_cons pe_str pe_str (pps_cons pe_str pe_str pps_nil)) rfl rfl (by decide) (by decide)) (pe_ix ix_tup (pv 1) pe_int (fun _ _ => rfl)) (fun _ _ => rfl)) pa_nil))))
              (pss_one (ps_set (i := 2) scGuardW.nd rfl (.inl rfl) (pe_op op_cat (pv 2) (pe_call GA hr3 rfl DA.m DA.F.kp DA.b .nil pass0 (pa_cons (pv 0) (pa_cons (pe_call GS hr rfl D.m D.F.kp D.b .nil pass0 (pa_cons (pv 0) (pa_cons (pe_ix ix_tup (pv 1) pe_int (fun _ _ => rfl)) pa_nil))) (pa_cons (pe_cmpR op_in_seq (pe_ix ix_tup (pe_ix ix_tup (pv 1) pe_int (fun _ _ => rfl)) pe_int (fun _ _ => rfl)) (pe_tup (pa_cons pe_str (pa_cons pe_str pa_nil))) (by rfl)) pa_nil)))))))))))))))
        (pss_one (ps_ret (pv 2))), ?_⟩
      have fin : ∀ (la : Addr) (ws : List Str) (y' : Int) (H1 : Hp) (D : Ends) (σ2 : L2.St), Fr p H H1 → PurseAt H1 p y' → y ≤ y' → y' ≤ y + pbG (n + 1) → StrsAt H1 la ws → WGu (n + 1) t ws → σ2[2]? = some (some (.ref la)) → D.rt = Q → tRet (tVar 2) D σ2 H1 := fun la ws y' H1 D σ2 f1 hp1 l1 l2 hs hw h2 hq => by
        refine ⟨.ref la, h2, ?_⟩
        rw [hq]
        exact q _ y' _ f1 hp1 l1 l2 ⟨la, ws, rfl, hs, hw⟩
      obtain ⟨ga, gr, rfl, hga⟩ := gu_head ht hd
      have hds := fun ds (e : t = .tuple ds) => dt_at (ds := ds) (e ▸ hd) hga
      cases ht with
      | yes =>
        refine q_ifT (et_is (et_test (ev_in2 (ev_ixT0 (ev_var rfl) hga))) (by decide +kernel)) fun H1 e1 => ?_
        refine q_asgL (xs := [V.str "yes"]) (el_lst (ea_cons ev_c ea_nil) (by show 1 ≤ 100000; decide)) fun l H2 n2 e2 h2 => ?_
        refine s_ifF (et_is (et_test (ev_eqS (ev_ixT0 (ev_var rfl) (e2 _ _ (e1 _ _ hga))))) (by decide +kernel)) fun H3 e3 => ?_
        have e13 := e1.trans (e2.trans e3)
        refine fin l ["yes"] y H3 _ _ (Fr.ex e13) (hp.ex e13) (Int.le_refl _) (by omega) ⟨e3 _ _ h2⟩ (WGu.all (fun l => ?_) (good_of (by decide +kernel)) (by show 1 ≤ wlG (n + 1); omega)) rfl rfl
        have : (["yes"] : List Str).map tk = [kw "yes"] := by decide +kernel
        rw [this]
        exact .yes
      | @inn _ x hx =>
        obtain ⟨u, r, e, h1, h⟩ := dtsC (hds _ rfl)
        obtain ⟨u2, r2, rfl, h2, h⟩ := dtsC h
        have := dtsN h
        subst this
        have := dtS h2
        subst this
        cases e
        replace hga : H ga = some (.tup [.str "in", .str x]) := hga
        refine q_ifT (et_is (et_test (ev_in2 (ev_ixT0 (ev_var rfl) hga))) (by decide +kernel)) fun H1 e1 => ?_
        refine q_asgL (xs := [V.str "yes"]) (el_lst (ea_cons ev_c ea_nil) (by show 1 ≤ 100000; decide)) fun l H2 n2 e2 h2 => ?_
        have hga2 := e2 _ _ (e1 _ _ hga)
        refine s_ifT (et_is (et_test (ev_eqS (ev_ixT0 (ev_var rfl) hga2))) (by decide +kernel)) fun H3 e3 => ?_
        have e13 := e1.trans (e2.trans e3)
        refine q_asgN (xs := [V.str "in", V.str x]) (el_lst (ea_cons ev_c (ea_cons (ev_op (ev_var rfl) ev_c (rv_ixT (i := 1) (st_of (e3 _ _ hga2)) rfl)) ea_nil)) (by show 2 ≤ 100000; decide)) fun l2 H4 n4 e4 h4 => ?_
        have e14 := e13.trans e4
        have ng := nameG hx
        refine fin l2 ["in", x] y H4 _ _ (Fr.ex e14) (hp.ex e14) (Int.le_refl _) (by omega) ⟨h4⟩ (WGu.all (fun l => ?_) (fun z hz => ?_) (by show 2 ≤ wlG (n + 1); omega)) rfl rfl
        · have : (["in", x] : List Str).map tk = [kw "in", nm x] := by
            rw [List.map_cons, List.map_cons, List.map_nil, ng.2]
            congr 1
          rw [this]
          exact .inn
        · simp only [List.mem_cons, List.not_mem_nil, or_false] at hz
          rcases hz with rfl | rfl
          · decide +kernel
          · exact ng.1
      | @neg _ a ha =>
        obtain ⟨u, r, e, h1, h⟩ := dtsC (hds _ rfl)
        obtain ⟨va, r2, rfl, da, h⟩ := dtsC h
        have := dtsN h
        subst this
        cases e
        replace hga : H ga = some (.tup [.str "not", va]) := hga
        refine q_ifF (et_is (et_test (ev_in2 (ev_ixT0 (ev_var rfl) hga))) (by decide +kernel)) fun H1 e1 => ?_
        refine s_ifT (et_is (et_test (ev_eqS (ev_ixT0 (ev_var rfl) (e1 _ _ hga)))) (by decide +kernel)) fun H2 e2 => ?_
        refine q_catA (xs := [V.str "not"]) (el_lst (ea_cons ev_c ea_nil) (by show 1 ≤ 100000; decide)) fun l0 H3 n3 e3 h3 => ?_
        have e13 := e1.trans (e2.trans e3)
        have hp3 := hp.ex e13
        have hga3 := e13 _ _ hga
        have hl03 : StrsAt H3 l0 ["not"] := ⟨h3⟩
        refine ⟨.ref p, rfl, .ref p, rfl, .ref ga, rfl, ga, _, 1, va, rfl, rfl, st_of hga3, rfl, p, va, a, y, rfl, hp3, y0, by omega, by omega, ha, DT.tf (TF.ex e13) _ _ da, fun u1 y2 H4 f4 hp4 l1 l2 r1 => ?_⟩
        obtain ⟨la, wa, rfl, hwa, ra⟩ := r1
        have t4 : TF H H4 := fun b zs hb => (PurseAt.tf hp3 f4) _ _ (e13 _ _ hb)
        obtain ⟨sx, rx, rfl, hsx⟩ := gu_head ha (DT.tf t4 _ _ da)
        refine (ev_in2 (ev_ixT0 (ev_op (ev_var rfl) ev_c (rv_ixT (i := 1) (st_of (t4 _ _ hga)) rfl)) hsx) : Ev _ _ H4 (.bl (inV (.str (hdS a)) twoL))) H4 (Ex.refl H4) _ fun H5 e5 => ?_
        have hl05 : StrsAt H5 l0 ["not"] := ⟨e5 _ _ (hl03.fr hp3 f4).at_⟩
        refine ⟨p, la, inV (.str (hdS a)) twoL, y2, wa, rfl, hp4.ex e5, by omega, by omega, ⟨e5 _ _ hwa.at_⟩, by have := ra.l; omega, fun u2 y3 H6 f6 hp6 l3 l4 r2 => ?_⟩
        obtain ⟨lz, zs, rfl, hz, az⟩ := r2
        have hl06 := hl05.fr (hp4.ex e5) f6
        have hzl := arnd_len az
        have hral := ra.l
        refine ⟨l0, lz, _, _, rfl, rfl, hl06.at_, hz.at_, sz_of (by simp; omega), fun l nl => ?_⟩
        have e7 : Ex H6 (L2.upd H6 l (.lst ((["not"] : List Str).map V.str ++ zs.map V.str))) := fr_new nl
        refine fin l ("not" :: zs) y3 _ _ _ ((((Fr.ex e13).trans f4).trans (Fr.ex e5)).trans (f6.trans (Fr.ex e7))) (hp6.ex e7) (by omega) (by omega) ⟨upd_same⟩ (WGu.all (fun l => ?_) (fun z hz' => ?_) (by simp only [List.length_cons]; omega)) rfl rfl
        · have : ("not" :: zs : List Str).map tk = kw "not" :: zs.map tk := by
            rw [List.map_cons]
            congr 1
          rw [this]
          exact .neg (ra.whole az)
        · rcases List.mem_cons.mp hz' with h | h
          · rw [h]
            decide +kernel
          · exact arnd_good az ra.g z h
      | @cmp _ wd a c hw ha hc =>
        obtain ⟨u, r, e, h1, h⟩ := dtsC (hds _ rfl)
        obtain ⟨va, r2, rfl, da, h⟩ := dtsC h
        obtain ⟨vc, r3, rfl, dc, h⟩ := dtsC h
        have := dtsN h
        subst this
        cases e
        replace hga : H ga = some (.tup [.str wd, va, vc]) := hga
        obtain ⟨o, ho, hoV, ho1⟩ : ∃ o : Str, compsOf o = some wd ∧ valV (mergeK [] [((Sum.inr "below" : L2.Key), V.str "<"), (Sum.inr "same", .str "=")]) (Sum.inr wd) = some (.str o) ∧ (tk o = kw o ∧ goodW o = true) := by
          rcases hw with rfl | rfl
          · exact ⟨"<", by decide +kernel, rfl, by decide +kernel, by decide +kernel⟩
          · exact ⟨"=", by decide +kernel, rfl, by decide +kernel, by decide +kernel⟩
        refine q_ifF (et_is (et_test (ev_in2 (ev_ixT0 (ev_var rfl) hga))) (by rcases hw with rfl | rfl <;> decide +kernel)) fun H1 e1 => ?_
        refine s_ifF (et_is (et_test (ev_eqS (ev_ixT0 (ev_var rfl) (e1 _ _ hga)))) (by rcases hw with rfl | rfl <;> decide +kernel)) fun H2 e2 => ?_
        have e12 := e1.trans e2
        refine s_ifT (et_is (et_test (ev_in2 (ev_ixT0 (ev_var rfl) (e12 _ _ hga)))) (by rcases hw with rfl | rfl <;> decide +kernel)) fun H3 e3 => ?_
        have e13 := e12.trans e3
        have hp3 := hp.ex e13
        have p2 : pbT 2 = 3 := rfl
        have w2 : wl 2 = 9 := rfl
        refine ⟨.ref p, rfl, .ref ga, rfl, ga, _, 1, va, rfl, rfl, st_of (e13 _ _ hga), rfl, p, va, a, y, rfl, hp3, y0, by omega, by omega, ha, DT.tf (TF.ex e13) _ _ da, fun u1 y2 H4 f4 hp4 l1 l2 r1 => ?_⟩
        obtain ⟨la, wa, rfl, hwa, ra⟩ := r1
        have t4 : TF H H4 := fun b zs hb => (PurseAt.tf hp3 f4) _ _ (e13 _ _ hb)
        refine (el_lst (ea_cons (ev_dd (ev_ixT0 (ev_var rfl) (t4 _ _ hga)) hoV) ea_nil) (by show 1 ≤ 100000; decide) : EvL _ _ H4 [V.str o]) H4 (Ex.refl H4) _ fun l0 H5 n5 e5 h5 => ?_
        have hral := ra.l
        refine ⟨la, l0, _, _, rfl, rfl, e5 _ _ hwa.at_, h5, sz_of (by simp; omega), fun lw nlw => ?_⟩
        have e6 : Ex H5 (L2.upd H5 lw (.lst (wa.map V.str ++ [V.str o]))) := fr_new nlw
        have hlw : StrsAt (L2.upd H5 lw (.lst (wa.map V.str ++ [V.str o]))) lw (wa ++ [o]) := ⟨by rw [upd_same, List.map_append]; rfl⟩
        revert e6 hlw
        generalize (L2.upd H5 lw (.lst (wa.map V.str ++ [V.str o]))) = H6
        intro e6 hlw
        have e46 := e5.trans e6
        have hp6 := hp4.ex e46
        have t6 : TF H H6 := fun b zs hb => e46 _ _ (t4 _ _ hb)
        refine ⟨.ref lw, rfl, .ref p, rfl, .ref ga, rfl, ga, _, 2, vc, rfl, rfl, st_of (t6 _ _ hga), rfl, p, vc, c, y2, rfl, hp6, by omega, by omega, by omega, hc, DT.tf t6 _ _ dc, fun u2 y3 H7 f7 hp7 l3 l4 r2 => ?_⟩
        obtain ⟨lc, wc, rfl, hwc, rc⟩ := r2
        have hlw7 := hlw.fr hp6 f7
        have hrcl := rc.l
        refine ⟨lw, lc, _, _, rfl, rfl, hlw7.at_, hwc.at_, sz_of (by simp; omega), fun l nl => ?_⟩
        have e8 : Ex H7 (L2.upd H7 l (.lst ((wa ++ [o]).map V.str ++ wc.map V.str))) := fr_new nl
        refine fin l (wa ++ o :: wc) y3 _ _ _ ((((Fr.ex e13).trans f4).trans (Fr.ex e46)).trans (f7.trans (Fr.ex e8))) (hp7.ex e8) (by omega) (by omega) ⟨by rw [upd_same]; simp⟩ (WGu.all (fun l => ?_) (fun z hz' => ?_) (by simp only [List.length_append, List.length_cons]; omega)) rfl rfl
        · have : (wa ++ o :: wc).map tk = wa.map tk ++ kw o :: wc.map tk := by rw [List.map_append, List.map_cons, ho1.1]
          rw [this]
          exact .cmp (ra.f.to _ (by omega)) (rc.f.to _ (by omega)) ho
        · rcases List.mem_append.mp hz' with h | h
          · exact ra.g z h
          · rcases List.mem_cons.mp h with h | h
            · rw [h]
              exact ho1.2
            · exact rc.g z h
      | @two _ wd a c hw ha hc =>
        obtain ⟨u, r, e, h1, h⟩ := dtsC (hds _ rfl)
        obtain ⟨va, r2, rfl, da, h⟩ := dtsC h
        obtain ⟨vc, r3, rfl, dc, h⟩ := dtsC h
        have := dtsN h
        subst this
        cases e
        replace hga : H ga = some (.tup [.str wd, va, vc]) := hga
        obtain ⟨o, hoV, ho1⟩ : ∃ o : Str, valV (mergeK [] [((Sum.inr "both" : L2.Key), V.str "and"), (Sum.inr "either", .str "or")]) (Sum.inr wd) = some (.str o) ∧ (tk o = kw o ∧ goodW o = true) ∧ (wd = "both" → o = "and") ∧ (wd = "either" → o = "or") := by
          rcases hw with rfl | rfl
          · exact ⟨"and", rfl, ⟨by decide +kernel, by decide +kernel⟩, fun _ => rfl, fun z => absurd z (by decide +kernel)⟩
          · exact ⟨"or", rfl, ⟨by decide +kernel, by decide +kernel⟩, fun z => absurd z (by decide +kernel), fun _ => rfl⟩
        refine q_ifF (et_is (et_test (ev_in2 (ev_ixT0 (ev_var rfl) hga))) (by rcases hw with rfl | rfl <;> decide +kernel)) fun H1 e1 => ?_
        refine s_ifF (et_is (et_test (ev_eqS (ev_ixT0 (ev_var rfl) (e1 _ _ hga)))) (by rcases hw with rfl | rfl <;> decide +kernel)) fun H2 e2 => ?_
        have e12 := e1.trans e2
        refine s_ifF (et_is (et_test (ev_in2 (ev_ixT0 (ev_var rfl) (e12 _ _ hga)))) (by rcases hw with rfl | rfl <;> decide +kernel)) fun H3 e3 => ?_
        have e13 := e12.trans e3
        obtain ⟨sa, ra', eva, hsa⟩ := gu_head ha (DT.tf (TF.ex e13) _ _ da)
        generalize hfb : (decide (V.str wd = V.str "both") && decide (V.str (hdS a) = V.str "either")) = fb
        refine q_asg (v := .bl fb) (ev_is (ev_andV (ev_eqS (ev_ixT0 (ev_var rfl) (e13 _ _ hga))) (fun _ => ev_eqS (ev_ixT0 (ev_op (ev_var rfl) ev_c (rv_ixT (i := 1) (st_of (e13 _ _ hga)) (by rw [← eva]; rfl))) hsa))) (by rw [hfb])) fun H4 e4 => ?_
        have e14 := e13.trans e4
        have hp4 := hp.ex e14
        refine ⟨.ref p, rfl, .ref p, rfl, .ref ga, rfl, ga, _, 1, va, rfl, rfl, st_of (e14 _ _ hga), rfl, p, va, a, y, rfl, hp4, y0, by omega, by omega, ha, DT.tf (TF.ex e14) _ _ da, fun u1 y2 H5 f5 hp5 l1 l2 r1 => ?_⟩
        obtain ⟨la, wa, rfl, hwa, ra⟩ := r1
        have t5 : TF H H5 := fun b zs hb => (PurseAt.tf hp4 f5) _ _ (e14 _ _ hb)
        refine ⟨.bl fb, rfl, p, la, fb, y2, wa, rfl, hp5, by omega, by omega, hwa, by have := ra.l; omega, fun u2 y3 H6 f6 hp6 l3 l4 r2 => ?_⟩
        obtain ⟨lz, wz, rfl, hwz, az⟩ := r2
        have t6 : TF H H6 := fun b zs hb => (PurseAt.tf hp5 f6) _ _ (t5 _ _ hb)
        have hral := ra.l
        have hzl := arnd_len az
        refine q_asgL (xs := wz.map V.str ++ [V.str o]) (el_catK (ev_var rfl) hwz.at_ (el_lst (ea_cons (ev_dd (ev_ixT0 (ev_var rfl) (t6 _ _ hga)) hoV) ea_nil) (by show 1 ≤ 100000; decide)) (by simp; omega)) fun lw H7 n7 e7 h7 => ?_
        have hlw : StrsAt H7 lw (wz ++ [o]) := ⟨by rw [h7, List.map_append]; rfl⟩
        have hp7 := hp6.ex e7
        have t7 : TF H H7 := fun b zs hb => e7 _ _ (t6 _ _ hb)
        refine ⟨.ref lw, rfl, .ref p, rfl, .ref p, rfl, .ref ga, rfl, ga, _, 2, vc, rfl, rfl, st_of (t7 _ _ hga), rfl, p, vc, c, y3, rfl, hp7, by omega, by omega, by omega, hc, DT.tf t7 _ _ dc, fun u3 y4 H8 f8 hp8 l5 l6 r3 => ?_⟩
        obtain ⟨lc, wc, rfl, hwc, rc⟩ := r3
        have t8 : TF H H8 := fun b zs hb => (PurseAt.tf hp7 f8) _ _ (t7 _ _ hb)
        obtain ⟨sx, rx, evc, hsx⟩ := gu_head hc (DT.tf t8 _ _ dc)
        have hlw8 := hlw.fr hp7 f8
        refine (ev_in2 (ev_ixT0 (ev_op (ev_var rfl) ev_c (rv_ixT (i := 2) (st_of (t8 _ _ hga)) (by rw [← evc]; rfl))) hsx) : Ev _ _ H8 (.bl (inV (.str (hdS c)) twoL))) H8 (Ex.refl H8) _ fun H9 e9 => ?_
        have hlw9 : StrsAt H9 lw (wz ++ [o]) := ⟨e9 _ _ hlw8.at_⟩
        have hp9 := hp8.ex e9
        refine ⟨p, lc, inV (.str (hdS c)) twoL, y4, wc, rfl, hp9, by omega, by omega, ⟨e9 _ _ hwc.at_⟩, by have := rc.l; omega, fun u4 y5 H10 f10 hp10 l7 l8 r4 => ?_⟩
        obtain ⟨lq, wq, rfl, hwq, aq⟩ := r4
        have hlw10 := hlw9.fr hp9 f10
        have hrcl := rc.l
        have hql := arnd_len aq
        refine ⟨lw, lq, _, _, rfl, rfl, hlw10.at_, hwq.at_, sz_of (by simp; omega), fun l nl => ?_⟩
        have e11 : Ex H10 (L2.upd H10 l (.lst ((wz ++ [o]).map V.str ++ wq.map V.str))) := fr_new nl
        have hmap : (wz ++ o :: wq).map tk = wz.map tk ++ kw o :: wq.map tk := by rw [List.map_append, List.map_cons, ho1.1.1]
        have kc : GW 0 (3 * (n + 1) + 1) c (wq.map tk) := (rc.whole aq).to _ (by omega)
        refine fin l (wz ++ o :: wq) y5 _ _ _ (((((Fr.ex e14).trans f5).trans f6).trans (Fr.ex e7)).trans ((f8.trans (Fr.ex e9)).trans (f10.trans (Fr.ex e11)))) (hp10.ex e11) (by omega) (by omega) ⟨by rw [upd_same]; simp⟩ ⟨?_, fun z => ?_, fun z => ?_, fun z hz' => ?_, ?_⟩ rfl rfl
        · rw [hmap]
          rcases hw with rfl | rfl
          · rw [ho1.2.1 rfl]
            refine .both (l := 1) ?_ kc
            rcases az with rfl | ⟨rfl, e⟩
            · rw [map_brk]
              exact GW.to (.br ra.f) _ (by omega)
            · refine (ra.bth ?_).to _ (by omega)
              rw [← hfb] at e
              simpa using e
          · rw [ho1.2.2 rfl]
            refine .either ?_ kc
            rcases az with rfl | ⟨rfl, e⟩
            · rw [map_brk]
              exact GW.to (.br ra.f) _ (by omega)
            · exact ra.f.to _ (by omega)
        · rcases hw with rfl | rfl
          · exact absurd z (by show ¬ inV (V.str "both") twoL = false; decide +kernel)
          · exact absurd z (by show ¬ inV (V.str "either") twoL = false; decide +kernel)
        · rcases hw with rfl | rfl
          · rw [hmap, ho1.2.1 rfl]
            refine .both (l := 0) ?_ kc
            rcases az with rfl | ⟨rfl, e⟩
            · rw [map_brk]
              exact GW.to (.br ra.f) _ (by omega)
            · refine (ra.bth ?_).to _ (by omega)
              rw [← hfb] at e
              simpa using e
          · exact absurd z (by show ¬ decide (V.str "either" = V.str "either") = false; decide +kernel)
        · rcases List.mem_append.mp hz' with h | h
          · exact arnd_good az ra.g z h
          · rcases List.mem_cons.mp h with h | h
            · rw [h]
              exact ho1.1.2
            · exact arnd_good aq rc.g z h
        · simp only [List.length_append, List.length_cons]
          omega
end
end Prs
set_option Elab.async false
set_option linter.all false
set_option maxRecDepth 100000
set_option maxHeartbeats 4000000
namespace Prs
open PySem PySem.Spec PyProof.Rows L2 Evl
abbrev lDeedsW : Stmt := top 76
theorem dts_get {H : Hp} : ∀ {ds : List PyData} {vs : List V} {i : Nat} {x : V}, DTs H ds vs → vs[i]? = some x → ∃ d, ds[i]? = some d ∧ DT H d x
  | [], vs, i, x, h, hx => by
    rw [dtsN h] at hx
    simp at hx
  | d :: ds, vs, i, x, h, hx => by
    obtain ⟨v, r, rfl, h1, h2⟩ := dtsC h
    cases i with
    | zero =>
      simp only [List.getElem?_cons_zero, Option.some.injEq] at hx
      subst hx
      exact ⟨d, rfl, h1⟩
    | succ i =>
      rw [List.getElem?_cons_succ] at hx
      rw [List.getElem?_cons_succ]
      exact dts_get h2 hx
theorem dts_len {H : Hp} : ∀ {ds : List PyData} {vs : List V}, DTs H ds vs → vs.length = ds.length
  | [], vs, h => by rw [dtsN h]; rfl
  | d :: ds, vs, h => by
    obtain ⟨v, r, rfl, h1, h2⟩ := dtsC h
    simp [dts_len h2]
def onsG_ok : ONS.all factOk = true := by decide +kernel
def saysG_ok : SAYS.all factOk = true := by decide +kernel
theorem wordG {xs : List Str} (h : xs.all factOk = true) {x : Str} (hx : x ∈ xs) : goodW x = true ∧ tk x = nm x := by
  have ok := List.all_eq_true.mp h x hx
  unfold factOk at ok
  simp only [Bool.and_eq_true, decide_eq_true_eq] at ok
  refine ⟨ok.1, ?_⟩
  unfold tk nm
  rw [ok.2]
/-- a deed: its word, its name, its terms -/
structure DeF (d : PyData) (w x : Str) (ts : List PyData) : Prop where
  e : d = .tuple (.str w :: .str x :: ts)
  gw : goodW w = true ∧ tk w = kw w
  gx : goodW x = true ∧ tk x = nm x
  f : (ts = [] ∧ w = "raise") ∨ (∃ t, ts = [t] ∧ TmD 3 t ∧ (w = "set" ∨ w = "say"))
theorem DeD.f {d : PyData} (h : DeD d) : ∃ w x ts, DeF d w x ts := by
  cases h with
  | @set x t hx ht => exact ⟨"set", x, [t], rfl, ⟨by decide +kernel, by decide +kernel⟩, wordG factsG_ok hx, .inr ⟨t, rfl, ht, .inl rfl⟩⟩
  | @call x hx => exact ⟨"raise", x, [], rfl, ⟨by decide +kernel, by decide +kernel⟩, wordG onsG_ok hx, .inl ⟨rfl, rfl⟩⟩
  | @say x t hx ht => exact ⟨"say", x, [t], rfl, ⟨by decide +kernel, by decide +kernel⟩, wordG saysG_ok hx, .inr ⟨t, rfl, ht, .inr rfl⟩⟩
abbrev cm : Str := ","
def TsW (ts : List PyData) (ws : List Str) : Prop := (ts = [] ∧ ws = []) ∨ ∃ t, ts = [t] ∧ TW false 4 t (ws.map tk)
structure WDes (ds : List PyData) (ws : List Str) : Prop where
  f : LW (DeW 4) ds (ws.map tk)
  g : allGood ws
  l : ws.length ≤ 30 * ds.length
def FwOk (ds : List PyData) (fw : List Str) : Prop := (ds = [] ∧ fw = []) ∨ ∃ ws, fw = cm :: ws ∧ WDes ds ws
theorem FwOk.len {ds : List PyData} {fw : List Str} (h : FwOk ds fw) : fw.length ≤ 30 * ds.length + 1 := by
  rcases h with ⟨rfl, rfl⟩ | ⟨ws, rfl, h⟩
  · simp
  · have := h.l
    simp only [List.length_cons]
    omega
theorem FwOk.step {ds : List PyData} {fw tw : List Str} {d : PyData} {w x : Str} {ts : List PyData} (h : FwOk ds fw) (f : DeF d w x ts) (t : TsW ts tw) (g : allGood tw) (l : tw.length ≤ 21) : FwOk (ds ++ [d]) (fw ++ cm :: w :: x :: tw) := by
  have hd : DeW 4 d ((w :: x :: tw).map tk) := by
    rw [List.map_cons, List.map_cons, f.gw.2, f.gx.2, f.e]
    rcases f.f with ⟨rfl, rfl⟩ | ⟨t1, rfl, _, hw⟩
    · rcases t with ⟨_, rfl⟩ | ⟨t2, e, _⟩
      · exact .call
      · cases e
    · rcases t with ⟨e, _⟩ | ⟨t2, e, h2⟩
      · cases e
      · cases e
        exact .put hw h2
  have hg : allGood (w :: x :: tw) := fun z hz => by
    rcases List.mem_cons.mp hz with h | h
    · rw [h]
      exact f.gw.1
    · rcases List.mem_cons.mp h with h | h
      · rw [h]
        exact f.gx.1
      · exact g z h
  rcases h with ⟨rfl, rfl⟩ | ⟨ws, rfl, h⟩
  · refine .inr ⟨w :: x :: tw, rfl, .one hd, hg, ?_⟩
    simp only [List.length_cons, List.length_append, List.length_nil]
    omega
  · refine .inr ⟨ws ++ cm :: w :: x :: tw, rfl, ?_, fun z hz => ?_, ?_⟩
    · rw [List.map_append, List.map_cons]
      have : tk cm = kw "," := by decide +kernel
      rw [this]
      exact .snoc h.f hd
    · rcases List.mem_append.mp hz with q | q
      · exact h.g z q
      · rcases List.mem_cons.mp q with q | q
        · rw [q]
          decide +kernel
        · exact hg z q
    · have := h.l
      simp only [List.length_cons, List.length_append, List.length_nil]
      omega
section
variable {K : PySem.W.Frag} {σ : L2.St} {H : Hp}
theorem el_l2 {k : Nat} {a : Addr} {u1 u2 : V} {r : List V} (h : σ[k]? = some (some (.ref a))) (ha : H a = some (.tup (u1 :: u2 :: r))) : EvL (tCB (fun xs H Q => ∃ p ys, xs = [.ref p] ∧ (SqL K H p ys ∨ SqT K H p ys) ∧ ∀ l, H l = none → Q (.ref l) (L2.upd H l (.lst ys))) (tCons (tSl (rSlA K) (tVar k) tNoPart (tPart (tC (.int 2)))) tNil)) σ H [u1, u2] := fun H1 e Q q => by
  have ha1 := e _ _ ha
  refine ⟨.ref a, h, (2 : Int), rfl, a, _, rfl, st_of ha1, fun hw => ?_, fun _ p np => ?_⟩
  · have hr : r = [] := by
      have h2 := hw.2
      cases r with
      | nil => rfl
      | cons z r =>
        exfalso
        have : HT.sIx (u1 :: u2 :: z :: r).length (u1 :: u2 :: z :: r).length (some ((2 : Nat) : Int)) = 2 := by
          rw [HT.sIx_nat]
          simp
        have h3 := this.symm.trans h2
        simp at h3
    subst hr
    exact ⟨a, _, rfl, .inr (st_of ha1), fun l nl => q l _ nl (fr_new nl) upd_same⟩
  · have e2 : Ex H1 (L2.upd H1 p (.tup (cutV (u1 :: u2 :: r) none (some (2 : Int))))) := fr_new np
    have ec : cutV (u1 :: u2 :: r) none (some ((2 : Nat) : Int)) = [u1, u2] := by
      rw [cutV_to (by simp)]
      rfl
    refine ⟨p, _, rfl, .inr (st_of upd_same), fun l nl => ?_⟩
    refine q l _ (fresh_back e2 nl) (e2.trans (fr_new nl)) ?_
    rw [upd_same]
    exact congrArg (fun z => some (HO.lst z)) ec
end
section
variable {P : Program} {w : World} {K : PySem.W.Frag} {mg : Str → Option Value} {base : Heap}
def spDeedsW : Sp := fun vs H Q _ => ∃ (p : Addr) (v : V) (ds : List PyData) (y : Int), vs = [.ref p, v] ∧ PurseAt H p y ∧ 0 ≤ y ∧ y < 68719476000 ∧ ds ≠ [] ∧ ds.length ≤ 2 ∧ (∀ x ∈ ds, DeD x) ∧ DT H (.tuple ds) v ∧ Drawn p y 14 H (WrAt (WDes ds)) Q
theorem scDeedsW : FnScope ["_law_purse_here", "_law_deeds_here", "_law_found", "_law_deed", "_law_term_here"] ["_law_purse_here", "_law_deeds_here"] (defScope lDeedsW) := ⟨rfl, rfl, rfl, by decide +kernel, rfl, by decide +kernel, by decide +kernel⟩
set_option maxHeartbeats 0 in
theorem ok_deedsW (gs : mg "str" = none) (gl : mg "list" = none) (D : Df K mg "_law_deeds_words" lDeedsW ["_law_purse_here", "_law_deeds_here"]) (DT' : Df K mg "_law_term_words" lTermW ["_law_purse_here", "_law_term_here"]) (DA : Df K mg "_law_around" lAround ["_law_purse_here", "_law_words", "_law_wanted"]) (DK : Df K mg "_law_take" lTake ["_law_purse_here", "_law_far"]) (DM : Df K mg "_law_mixed" lMixed ["_law_cell", "_law_k"]) :
    FnOk P w K mg base CX0 7 D.f D.fd ["_law_purse_here", "_law_deeds_here"] spDeedsW := by
  have GT : FnOk P w K mg base CX0 6 DT'.f DT'.fd ["_law_purse_here", "_law_term_here"] (spTermW 3) := ok_termW gs DT' DA DK DM 3
  refine D.F.ok scDeedsW (fun vs H Q E h => ?_) (fun cdv A outer s H vs Q E hr h => ?_)
  · obtain ⟨p, v, ds, y, rfl, _⟩ := h
    rfl
  · obtain ⟨p, v, ds, y, rfl, hp, y0, y1, hne, hdl, hds, hd, q⟩ := h
    have hr6 : Room 6 _ := hr.mono (by decide)
    have w3 : wl 3 = 21 := rfl
    have p3 : pbT 3 = 7 := rfl
    refine ⟨_, pss_cons (ps_set (i := 2) scDeedsW.nd rfl (.inl rfl) (pe_lst pa_nil))
      (pss_cons (ps_for PassesOwn.never rfl (pi_tup (pv 1)) (pg_name (i := 3) scDeedsW.nd rfl (.inl rfl))
        (pss_cons (ps_set (i := 2) scDeedsW.nd rfl (.inl rfl) (pe_op op_cat (pe_op op_cat (pv 2) (pe_lst (pa_cons pe_str pa_nil))) (pe_callTy call_list_of rfl gl rfl (pa_cons (pe_slice sl_tupA (pv 3) po_none (po_some pe_int)) pa_nil))))
        (pss_one (ps_for PassesOwn.never rfl (pi_tup (pe_slice sl_tupA (pv 3) (po_some pe_int) po_none)) (pg_name (i := 4) scDeedsW.nd rfl (.inl rfl))
          (pss_one (ps_set (i := 2) scDeedsW.nd rfl (.inl rfl) (pe_op op_cat (pv 2) (pe_call GT hr6 rfl DT'.m DT'.F.kp DT'.b .nil pass0 (pa_cons (pv 0) (pa_cons (pv 4) pa_nil))))))))))
      (pss_one (ps_ret (pe_slice sl_list (pv 2) (po_some pe_int) po_none)))), ?_⟩
    obtain ⟨da, vs, rfl, hda, hvs⟩ := dtT hd
    have hvl := dts_len hvs
    refine q_asgL (xs := []) (el_lst ea_nil (by show 0 ≤ 100000; decide)) fun l0 H0 n0 e0 h0 => ?_
    have hp0 := hp.ex e0
    have hda0 := e0 _ _ hda
    have hvs0 := DTs.tf (TF.ex e0) _ _ hvs
    refine q_forT (K := K) (a := da) (xs := vs) (ev_var rfl) (st_of hda0) (fun i σ H' => Fr p H0 H' ∧ (∃ y', PurseAt H' p y' ∧ y ≤ y' ∧ y' ≤ y + 7 * i) ∧ ∃ la fw v3 v4, σ = [some (.ref p), some (.ref da), some (.ref la), v3, v4] ∧ StrsAt H' la fw ∧ FwOk (ds.take i) fw) (fun H1 e => ⟨Fr.ex e, ⟨y, hp0.ex e, Int.le_refl _, by simp⟩, l0, [], none, none, rfl, ⟨e _ _ h0⟩, .inl ⟨by simp, rfl⟩⟩) (fun i σ H' _ z => st_of (PurseAt.tf hp0 z.1 _ _ hda0)) (fun i x σ H' hi z => ?_) (fun σ H' z => ?_)
    · obtain ⟨f1, ⟨y', hp1, l1, l2⟩, la, fw, v3, v4, rfl, hla, hfw⟩ := z
      obtain ⟨d, hd1, hd2⟩ := dts_get hvs0 hi
      have hil := (List.getElem?_eq_some_iff.mp hd1).1
      have hdD := hds d (List.mem_of_getElem? hd1)
      obtain ⟨w1, x1, ts, df⟩ := hdD.f
      have hd3 := DT.tf (PurseAt.tf hp0 f1) _ _ hd2
      rw [df.e] at hd3
      obtain ⟨xa, us, rfl, hxa, husA⟩ := dtT hd3
      obtain ⟨u1, us1, rfl, k1, husB⟩ := dtsC husA
      obtain ⟨u2, us2, rfl, k2, husC⟩ := dtsC husB
      have := dtS k1
      subst this
      have := dtS k2
      subst this
      have hfl := hfw.len
      have htl : (ds.take i).length ≤ 2 := by rw [List.length_take]; omega
      refine q_asgL (xs := (fw.map V.str ++ [V.str ","]) ++ [V.str w1, V.str x1]) (el_cat (el_catK (ev_var rfl) hla.at_ (el_lst (ea_cons ev_c ea_nil) (by show 1 ≤ 100000; decide)) (by simp; omega)) (el_l2 rfl hxa) (by simp; omega)) fun l2' H2 n2 e2 h2 => ?_
      have hl2 : StrsAt H2 l2' (fw ++ cm :: w1 :: x1 :: []) := ⟨by rw [h2]; simp⟩
      have hp2 := hp1.ex e2
      have hxa2 := e2 _ _ hxa
      have hus2 := DTs.tf (TF.ex e2) _ _ husC
      refine ⟨.ref xa, rfl, (2 : Int), rfl, xa, _, rfl, st_of hxa2, fun hw => ?_, fun _ pz np => ?_⟩
      · exfalso
        have h1 := hw.1
        have : HT.sIx (V.str w1 :: V.str x1 :: us2).length 0 (some ((2 : Nat) : Int)) = 2 := by
          rw [HT.sIx_nat]
          simp
        have h3 := this.symm.trans h1
        cases h3
      · have ec : cutV (V.str w1 :: V.str x1 :: us2) (some (2 : Int)) none = us2 := cutV_from (k := 2) (by simp)
        rw [ec]
        have e3 : Ex H2 (L2.upd H2 pz (.tup us2)) := fr_new np
        have hpz : (L2.upd H2 pz (.tup us2)) pz = some (.tup us2) := upd_same
        have hp3 := hp2.ex e3
        have pzp : pz ≠ p := hp2.ne np
        have hl3 : StrsAt (L2.upd H2 pz (.tup us2)) l2' (fw ++ cm :: w1 :: x1 :: []) := ⟨e3 _ _ hl2.at_⟩
        have hus3 := DTs.tf (TF.ex e3) _ _ hus2
        revert e3 hpz hp3 hl3 hus3
        generalize (L2.upd H2 pz (.tup us2)) = H3
        intro e3 hpz hp3 hl3 hus3
        have hul := dts_len hus3
        have hi2 : i < 2 := by omega
        refine ⟨pz, rfl, ⟨_, st_of hpz⟩, for_tup (K := K) (a := pz) (xs := us2) (fun j σ H'' => Fr p H3 H'' ∧ ∃ (y2 : Int) (lb : Addr) (tw : List Str) (v4 : Option V), PurseAt H'' p y2 ∧ y' ≤ y2 ∧ y2 ≤ y' + 7 * j ∧ σ = [some (.ref p), some (.ref da), some (.ref lb), some (.ref xa), v4] ∧ StrsAt H'' lb (fw ++ cm :: w1 :: x1 :: tw) ∧ TsW (ts.take j) tw ∧ allGood tw ∧ tw.length ≤ 21) ⟨Fr.ex (Ex.refl H3), y', l2', [], v4, hp3, Int.le_refl _, by simp, rfl, hl3, .inl ⟨by simp, rfl⟩, (fun _ hx => by cases hx), by decide⟩ (fun j σ H'' _ z => st_of (z.1 _ _ pzp hpz)) (fun j x σ H'' hj z => ?_) (fun σ H'' z => ?_)⟩
        · obtain ⟨f4, y2, lb, tw, v4, hp4, m1, m2, rfl, hlb, htw, hg, htl'⟩ := z
          obtain ⟨t1, ht1, ht2⟩ := dts_get hus3 hj
          have hts : ts = [t1] ∧ j = 0 ∧ TmD 3 t1 := by
            rcases df.f with ⟨rfl, _⟩ | ⟨t2, rfl, hT, _⟩
            · simp at ht1
            · have hj0 : j = 0 := by
                have := (List.getElem?_eq_some_iff.mp ht1).1
                simp at this
                omega
              subst hj0
              simp at ht1
              subst ht1
              exact ⟨rfl, rfl, hT⟩
          obtain ⟨rfl, rfl, hT⟩ := hts
          have htw0 : tw = [] := by
            rcases htw with ⟨_, h⟩ | ⟨t3, h, _⟩
            · exact h
            · simp at h
          subst htw0
          have m3 : y2 ≤ y' := by simpa using m2
          refine ⟨.ref lb, rfl, .ref p, rfl, x, rfl, p, x, t1, y2, rfl, hp4, by omega, by omega, by omega, hT, DT.tf (PurseAt.tf hp3 f4) _ _ ht2, fun u y3 H5 f5 hp5 m4 m5 r => ?_⟩
          obtain ⟨lc, wc, rfl, hwc, rc⟩ := r
          have hlb5 := hlb.fr hp4 f5
          have hrcl := rc.l
          refine ⟨lb, lc, _, _, rfl, rfl, hlb5.at_, hwc.at_, sz_of (by simp; omega), fun l nl => ?_⟩
          have e6 : Ex H5 (L2.upd H5 l (.lst ((fw ++ cm :: w1 :: x1 :: []).map V.str ++ wc.map V.str))) := fr_new nl
          exact ⟨(f4.trans f5).trans (Fr.ex e6), y3, l, wc, _, hp5.ex e6, by omega, by omega, rfl, ⟨by rw [upd_same]; simp⟩, .inr ⟨t1, rfl, rc.f⟩, rc.g, by omega⟩
        · obtain ⟨f4, y2, lb, tw, v4, hp4, m1, m2, rfl, hlb, htw, hg, htl'⟩ := z
          rw [hul, List.take_length] at htw
          have hul2 : ts.length ≤ 1 := by
            rcases df.f with ⟨rfl, _⟩ | ⟨t2, rfl, hT, _⟩ <;> simp
          rw [hul] at m2
          refine ⟨((f1.trans (Fr.ex e2)).trans (Fr.ex e3)).trans f4, ⟨y2, hp4, by omega, by push_cast; omega⟩, lb, _, _, _, rfl, hlb, ?_⟩
          rw [List.take_add_one, hd1]
          exact hfw.step df htw hg htl'
    · obtain ⟨f1, ⟨y', hp1, l1, l2⟩, la, fw, v3, v4, rfl, hla, hfw⟩ := z
      rw [hvl, List.take_length] at hfw
      rw [hvl] at l2
      rcases hfw with ⟨h, _⟩ | ⟨ws, rfl, hw⟩
      · exact absurd h hne
      · have ec : cutV ((cm :: ws).map V.str) (some ((1 : Nat) : Int)) none = ws.map V.str := by
          rw [cutV_from (by simp)]
          rfl
        refine s_retL (xs := cutV ((cm :: ws).map V.str) (some ((1 : Nat) : Int)) none) (el_sl (K := K) (te := tVar 2) (tl := tPart (tC (.int ((1 : Nat) : Int)))) (th := tNoPart) (ev_var rfl) (eo_some ev_c) eo_none (sq_of hla.at_)) fun l H2 n2 e2 h2 => ?_
        rw [ec] at h2
        exact q _ y' _ (((Fr.ex e0).trans f1).trans (Fr.ex e2)) (hp1.ex e2) l1 (by omega) ⟨l, ws, rfl, ⟨h2⟩, hw⟩
end
end Prs
set_option Elab.async false
set_option linter.all false
set_option maxRecDepth 100000
set_option maxHeartbeats 4000000
/-! enumerate(t), t a tuple -/
namespace PySem
open Sem (wp)
theorem new_enum_of {v : Value} {o : Obj} {G : Heap → Prop} (B : Begins v o G) :
    Meets (Builtin.«enumerate.__new__» ⟨[.type "enumerate", v], []⟩) (fun _ R s => G s.heap ∧
      R (.ok (.ret (.ref (s.heap.push o).objs.size))) { s with heap := (s.heap.push o).push { cls := .type "enumerate", data := .fields #[.none, .bool false, .ref s.heap.objs.size, rawInt 0, .none, .none] } }) :=
  .of_wp fun prog w A R s h => by
    obtain ⟨hp, gl, de, tk, os⟩ := s
    obtain ⟨g, k⟩ := h
    have sub := sub_enumerate
    have it : ∀ {A' : Around} {E' : Value → Shared → Prop} {Q' : Value → Shared → Prop}, Q' (.ref hp.objs.size) ⟨hp.push o, gl, de, tk, os⟩ → wpAny (model prog w) A' (pyIter v) Q' E' ⟨hp, gl, de, tk, os⟩ := fun q => B.iter prog w _ _ _ _ g q
    wp_walk using it
    refine wpAny_stack_any fun st => wpAny_pure ?_
    split
    · rename_i c _ _ _ _ _
      rcases (c == Value.type "enumerate") with _ | _ <;> (wp_walk using it; exact ⟨_, rfl, k⟩)
    · wp_walk using it
      exact ⟨_, rfl, k⟩
theorem call_enum_of {prog : Program} {w : World} {A : Around} {E : Value → Shared → Prop} {s : Shared} {v : Value} {o : Obj} {G : Heap → Prop} {Q : Value → Shared → Prop} (B : Begins v o G) (g : G s.heap)
    (h : ∀ h', IsEnum h' (s.heap.objs.size + 1) s.heap.objs.size 0 .none → h'.get? s.heap.objs.size = some o → (∀ b x, s.heap.get? b = some x → h'.get? b = some x) → Q (.ref (s.heap.objs.size + 1)) { s with heap := h' }) :
    wpAny (model prog w) A (call (.type "enumerate") [v]) Q E s := by
  have sz : (s.heap.push o).objs.size = s.heap.objs.size + 1 := Heap.size_push ..
  have he : IsEnum ((s.heap.push o).push { cls := .type "enumerate", data := .fields #[.none, .bool false, .ref s.heap.objs.size, rawInt 0, .none, .none] }) (s.heap.objs.size + 1) s.heap.objs.size 0 .none := by
    rw [← sz]
    exact Heap.get?_push_size _ rfl
  refine callType_new F.called_enumerate (by decide) (F.typeCall_enumerate_1 _) (F.newCall_enumerate_1 _) (fun obj => F.args_object_init_2 obj _) F.entry_enumerate_new (new_enum_of B) ⟨g, ?_⟩
  show _ ∧ _
  rw [sz]
  exact ⟨⟨_, he, rfl⟩, h _ he (Heap.get?_push_of_some _ (Heap.get?_push_size _ B.free)) fun b x e => Heap.get?_push_of_some _ (Heap.get?_push_of_some _ e)⟩
end PySem
namespace L2
open PySem PySem.Spec PyProof.Rows
/-- the tuple at a, each item in a new pair with its number -/
def Ien (K : PySem.W.Frag) (a : Addr) : It :=
  ⟨fun i H => ∃ (xs : List V) (x : V), SqT K H a xs ∧ xs[i]? = some x, fun i H v H' => ∃ T x, v = .ref T ∧ H T = none ∧ H' = upd H T (.tup [.int (i : Nat), x]) ∧ ∀ xs, SqT K H a xs → xs[i]? = some x, fun i H => ∃ xs : List V, SqT K H a xs ∧ xs.length = i⟩
theorem turn_ien {P : Program} {w : World} {K : PySem.W.Frag} {elts : List Expr} {kk : Nat} {tpos : Pos} (a e it : Addr) :
    Turn P w K (.Tuple elts kk tpos) (Ien K a) [e, it] e (fun i h => (∃ old, IsEnum h e it ((i : Nat) : Int) old) ∧ h.IsTupleIter it a i ∧ e ≠ it ∧ a ≠ e ∧ a ≠ it) where
  mem := List.mem_cons_self ..
  obj := fun i h st b hb => by
    obtain ⟨⟨old, he⟩, ⟨o, ho, _, hd⟩, _⟩ := st
    rcases List.mem_cons.mp hb with rfl | hb
    · exact ⟨_, he, fun v q => nomatch q⟩
    · obtain rfl := List.mem_singleton.mp hb
      exact ⟨o, ho, fun v q => by rw [hd] at q; cases q⟩
  keep := fun i h h' st k => let ⟨⟨old, he⟩, hi, hne⟩ := st; ⟨⟨old, k e (by simp) _ he⟩, hi.at fun o q => k it (by simp) o q, hne⟩
  item := by
    intro X hP hw hK hc i pins s σ H E I hf st hg
    subst hP hw hK
    obtain ⟨⟨old, he⟩, hit, n1, n2, n3⟩ := st
    obtain ⟨xs, x, hq, hx⟩ := hg
    obtain ⟨its, rv, tp, _⟩ := I.tuple hq
    have tp' : s.heap.IsTuple a its.toArray := tp
    obtain ⟨u, hu, ru⟩ := rv.get hx
    have lt1 : e < s.heap.objs.size := Heap.lt_size he
    have lt2 : it < s.heap.objs.size := by obtain ⟨_, q, _⟩ := hit; exact Heap.lt_size q
    have hi : i < its.toArray.size := by
      have := (List.getElem?_eq_some_iff.mp hu).1
      simpa using this
    refine wpAny_pyNext_enum_itemD (Draws.tuple (A := X.A.in1) (show X.A.in1.handled = none from I.ok.hd hc) it a n3 its.toArray) he ⟨hit, tp'⟩ hi n1 (by simp [n1, Ne.symm n2]) fun y h' tk hy ho hst hT hsz hk => ?_
    have ey : y = u := by
      have h1 : its.toArray[i]? = some u := by simpa using hu
      rw [h1] at hy
      exact (Option.some.inj hy).symm
    subst ey
    refine ⟨_, rfl, wpAny_letOwnedTupleGo_enum (s := { s with heap := h', toks := tk + 1 }) ho fun h'' he' sb => ?_⟩
    have hT2 : h''.get? s.heap.objs.size = some { cls := .type "tuple", data := .seq #[.int i tk, y] } := (sb.2 _ (Nat.ne_of_gt lt1)).trans hT
    have new : ObjOk X.prog X.w (upd H s.heap.objs.size (.tup [.int (i : Nat), x])) h'' s.heap.objs.size (.tup [.int (i : Nat), x]) :=
      ⟨by show 2 ≤ sizeLine; decide, [.int i tk, y], .cons ⟨_, rfl⟩ (.cons ru .nil), ⟨_, hT2, rfl, _, rfl⟩⟩
    have I1 : Inv X pins σ (upd H s.heap.objs.size (.tup [.int (i : Nat), x])) { s with heap := h'', toks := tk + 1 } :=
      I.turnedNew (ch := [e, it]) (fun b ob hb q => (sb.2 b (fun z => hb (by simp [z]))).trans (hk b ob (fun z => hb (by simp [z])) (fun z => hb (by simp [z])) q)) hf (Nat.le_refl _) new
    refine ⟨.ref s.heap.objs.size, _, I1, rfl, ⟨_, x, rfl, I.hok.fresh (Nat.le_refl _), rfl, fun ys hy => by rw [I.tuple_inj hy hq]; exact hx⟩, ⟨⟨y, ?_⟩, hst.1.at fun o q => (sb.2 it (Ne.symm n1)).trans q, n1, n2, n3⟩, fun b hb => ?_⟩
    · have e1 : ((i + 1 : Nat) : Int) = (i : Int) + 1 := by omega
      rw [e1]
      exact he'
    · have hb' : b < s.heap.objs.size := by
        rcases List.mem_cons.mp hb with rfl | hb
        · exact lt1
        · obtain rfl := List.mem_singleton.mp hb
          exact lt2
      rw [upd_ne (Nat.ne_of_lt hb')]
      exact (hf b hb).1
  done := by
    intro X hP hw hK hc i pins s σ H E I hf st hg
    subst hP hw hK
    obtain ⟨⟨old, he⟩, hit, n1, n2, n3⟩ := st
    obtain ⟨xs, hq, hx⟩ := hg
    obtain ⟨its, rv, tp, _⟩ := I.tuple hq
    have tp' : s.heap.IsTuple a its.toArray := tp
    obtain ⟨f0, f1, f2, f3, f4, f5⟩ := hf it (by simp)
    have hn : its.toArray.size = i := by
      have := rv.length
      simp only [List.size_toArray]
      omega
    refine wpAny_pyNext_enum_endD (Draws.tuple (A := X.A.in1) (show X.A.in1.handled = none from I.ok.hd hc) it a n3 its.toArray) he (by rw [hn]; exact ⟨hit, tp'⟩) fun h' eb => ⟨rfl, I.turned (t' := s.toks) (fun b o hb q => eb b o hb q) f0 f1 f3 f4 f5⟩
  self := fun A i s Q E st h => let ⟨⟨_, he⟩, _⟩ := st; wpAny_pyIter_enum he h
def iEnT (K : PySem.W.Frag) (ta : TA) : TI := fun σ H R => ta σ H fun vs H1 => ∃ a xs, vs = [.ref a] ∧ SqT K H1 a xs ∧ R (Ien K a) H1
theorem pi_enT {X : Cx} {e : Expr} {ta : TA} {p pos tpos : Pos} {elts : List Expr} {kk : Nat} (hg : Gl X "enumerate") (hm : X.mg "enumerate" = none) (ha : PA X [e] ta) (hs : starEach [e] X.env = [(false, eval e X.env)] := by rfl) :
    PI X (.Tuple elts kk tpos) (.Call (.Name "enumerate" p) [e] [] pos) (iEnT X.K ta) := by
  refine ⟨fun pins s σ H R I h => ?_⟩
  refine Call_ (ld_blt I hg hm boot_enumerate (PyProof.Rows.callWith_type1 (thn (ha.run pos pins s σ H _ I h) fun us s1 ⟨vs, H1, I1, r1, q1⟩ => ?_) hs rfl))
  obtain ⟨a, xs, rfl, hq, q⟩ := q1
  obtain ⟨u, rfl, r⟩ := vals1 r1
  cases r
  obtain ⟨its, rv, tp, _⟩ := I1.tuple hq
  have tp' : s1.heap.IsTuple a its.toArray := tp
  have la : a < s1.heap.objs.size := by obtain ⟨_, q, _⟩ := tp'; exact Heap.lt_size q
  refine call_enum_of (begins_tuple a its.toArray) tp' fun h' he hit hk => wpAny_pyIter_enum he ?_
  have I2 : Inv X pins σ H1 { s1 with heap := h' } := I1.kept (t' := s1.toks) hk
  refine ⟨s1.heap.objs.size + 1, [s1.heap.objs.size + 1, s1.heap.objs.size], _, _, H1, rfl, I2, turn_ien a (s1.heap.objs.size + 1) s1.heap.objs.size, ⟨⟨.none, he⟩, ⟨_, hit, rfl, rfl⟩, Nat.succ_ne_self _, Nat.ne_of_lt (Nat.lt_succ_of_lt la), Nat.ne_of_lt la⟩, fun b hb => ?_, q⟩
  have hle : s1.heap.objs.size ≤ b := by
    rcases List.mem_cons.mp hb with rfl | hb
    · exact Nat.le_succ _
    · rw [List.mem_singleton.mp hb]
      exact Nat.le_refl _
  exact I1.fpOk hle (I1.hok.fresh hle)
theorem walk_ien {K : PySem.W.Frag} {a : Addr} {xs : List V} : Walk (Ien K a) xs.length (fun H => SqT K H a xs) (YPair (fun i => some (.int (i : Nat))) (fun i => xs[i]?)) where
  goes := fun i H hi h => ⟨xs, xs[i], h, List.getElem?_eq_getElem hi⟩
  stops := fun H h => ⟨xs, h, rfl⟩
  yields := fun i H x H' _ h ⟨T, y, e, n, e2, k⟩ => ⟨T, _, y, e, n, e2, rfl, k xs h⟩
end L2
set_option Elab.async false
set_option linter.all false
set_option maxRecDepth 100000
set_option maxHeartbeats 4000000
namespace Prs
open PySem PySem.Spec PyProof.Rows L2 Evl
abbrev lMoveW : Stmt := top 77
section
variable {K : PySem.W.Frag} {σ : L2.St} {H : Hp} {te : TE} {t : TT}
theorem el_lcT {a : Addr} {xs : List V} {tl : TE} {j : Nat} {vs : List Nat} (f : Nat → Bool) (v : Nat → V) (h : Ev tl σ H (.ref a)) (hx : SqT K H a xs) (hz : xs.length ≤ 40000) (hw : ∀ x, wipe ((wipe σ vs).set j (some x)) vs = wipe σ vs)
    (ht : ∀ (i : Nat) (x : V) H1, Ex H H1 → xs[i]? = some x → EvT t ((wipe σ vs).set j (some x)) H1 (f i)) (he : ∀ (i : Nat) (x : V) H1, Ex H H1 → xs[i]? = some x → f i = true → Ev te ((wipe σ vs).set j (some x)) H1 (v i)) :
    EvL (tLc (iTup K tl) (gName j) t te vs) σ H (given xs.length f v) := fun H0 e Q q => h H0 e _ fun H1 e1 => ⟨a, rfl, ⟨xs, ex_t (e.trans e1) hx⟩, fun Dl hD =>
  lc_tup (xs := xs) (Cw H1 f v Dl) ⟨hD, Ex.new hD, upd_same⟩ (fun i H' _ p => ex_t ((e.trans e1).trans p.2.1) hx) (fun i x H' hi p => ⟨hw x, cw_turn p (by have := (List.getElem?_eq_some_iff.mp hi).1; omega) (ht i x H1 (e.trans e1) hi) (fun hf => he i x H1 (e.trans e1) hi hf)⟩)
    (fun H' p => q Dl H' (fresh_back e1 p.1) (e1.trans p.2.1) p.2.2)⟩
theorem ev_neT {tb : TE} {k : Nat} {v : V} {g : PyData} {us : List V} {es : List PyData} (h0 : σ[k]? = some (some v)) (hd : DT H g v) (hb : EvU tb σ H us) (he : ∀ H1, DpAll K H1 us es) (sg : SeqAt.shaped g = true) (se : SeqAt.shaped (.tuple es) = true) : Ev (tOp (rNeD K) (tVar k) tb) σ H (.bl (!PyData.eqv g (.tuple es))) := fun H1 e Q q =>
  ⟨v, h0, hb H1 e _ fun p H2 _ e2 h2 => ⟨g, .tuple es, dp_of _ _ (DT.tf (TF.ex (e.trans e2)) _ _ hd), .tup (st_of h2) (he H2), sg, se, q H2 e2⟩⟩
end
/-! ### shapes -/
theorem facts_str : FACTS.all PyData.strOk = true := by decide +kernel
theorem ons_str : ONS.all PyData.strOk = true := by decide +kernel
theorem says_str : SAYS.all PyData.strOk = true := by decide +kernel
theorem in_str {xs : List Str} (h : xs.all PyData.strOk = true) {x : Str} (hx : x ∈ xs) : PyData.strOk x = true := List.all_eq_true.mp h x hx
theorem name_strOk {x : Str} (h : x ∈ NAMES) : PyData.strOk x = true := by
  have ok := List.all_eq_true.mp names_ok x h
  unfold nameOk at ok
  simp only [Bool.and_eq_true, decide_eq_true_eq] at ok
  exact ok.2.2.2
theorem tm_shape {n : Nat} {t : PyData} (h : TmD n t) : t.canLay0 = true ∧ t.depth ≤ n := by
  induction h with
  | num _ =>
    have e : PyData.strOk "num" = true := by decide +kernel
    refine ⟨by simp only [PyData.canLay0, PyData.canLayAll0, e, Bool.and_self], ?_⟩
    simp only [PyData.depth, PyData.depthAll]
    omega
  | fact hx =>
    have e : PyData.strOk "fact" = true := by decide +kernel
    refine ⟨by simp only [PyData.canLay0, PyData.canLayAll0, e, in_str facts_str hx, Bool.and_self], ?_⟩
    simp only [PyData.depth, PyData.depthAll]
    omega
  | sum hw _ _ ia ic =>
    refine ⟨?_, ?_⟩
    · rcases hw with rfl | rfl
      · have e : PyData.strOk "sum" = true := by decide +kernel
        simp only [PyData.canLay0, PyData.canLayAll0, e, ia.1, ic.1, Bool.and_self]
      · have e : PyData.strOk "less" = true := by decide +kernel
        simp only [PyData.canLay0, PyData.canLayAll0, e, ia.1, ic.1, Bool.and_self]
    · simp only [PyData.depth, PyData.depthAll]
      omega
theorem gu_shape {n : Nat} {t : PyData} (h : GuD n t) : t.canLay0 = true ∧ t.depth ≤ n + 2 := by
  induction h with
  | yes =>
    have e : PyData.strOk "yes" = true := by decide +kernel
    refine ⟨by simp only [PyData.canLay0, PyData.canLayAll0, e, Bool.and_self], ?_⟩
    simp only [PyData.depth, PyData.depthAll]
    omega
  | inn hx =>
    have e : PyData.strOk "in" = true := by decide +kernel
    refine ⟨by simp only [PyData.canLay0, PyData.canLayAll0, e, name_strOk hx, Bool.and_self], ?_⟩
    simp only [PyData.depth, PyData.depthAll]
    omega
  | cmp hw ha hc =>
    have ia := tm_shape ha
    have ic := tm_shape hc
    refine ⟨?_, ?_⟩
    · rcases hw with rfl | rfl
      · have e : PyData.strOk "below" = true := by decide +kernel
        simp only [PyData.canLay0, PyData.canLayAll0, e, ia.1, ic.1, Bool.and_self]
      · have e : PyData.strOk "same" = true := by decide +kernel
        simp only [PyData.canLay0, PyData.canLayAll0, e, ia.1, ic.1, Bool.and_self]
    · simp only [PyData.depth, PyData.depthAll]
      omega
  | neg _ ia =>
    have e : PyData.strOk "not" = true := by decide +kernel
    refine ⟨by simp only [PyData.canLay0, PyData.canLayAll0, e, ia.1, Bool.and_self], ?_⟩
    simp only [PyData.depth, PyData.depthAll]
    omega
  | two hw _ _ ia ic =>
    refine ⟨?_, ?_⟩
    · rcases hw with rfl | rfl
      · have e : PyData.strOk "both" = true := by decide +kernel
        simp only [PyData.canLay0, PyData.canLayAll0, e, ia.1, ic.1, Bool.and_self]
      · have e : PyData.strOk "either" = true := by decide +kernel
        simp only [PyData.canLay0, PyData.canLayAll0, e, ia.1, ic.1, Bool.and_self]
    · simp only [PyData.depth, PyData.depthAll]
      omega
theorem de_shape {d : PyData} (h : DeD d) : d.canLay0 = true ∧ d.depth ≤ 4 := by
  cases h with
  | set hx ht =>
    have e : PyData.strOk "set" = true := by decide +kernel
    have i := tm_shape ht
    refine ⟨by simp only [PyData.canLay0, PyData.canLayAll0, e, in_str facts_str hx, i.1, Bool.and_self], ?_⟩
    simp only [PyData.depth, PyData.depthAll]
    omega
  | call hx =>
    have e : PyData.strOk "raise" = true := by decide +kernel
    refine ⟨by simp only [PyData.canLay0, PyData.canLayAll0, e, in_str ons_str hx, Bool.and_self], ?_⟩
    simp only [PyData.depth, PyData.depthAll]
    omega
  | say hx ht =>
    have e : PyData.strOk "say" = true := by decide +kernel
    have i := tm_shape ht
    refine ⟨by simp only [PyData.canLay0, PyData.canLayAll0, e, in_str says_str hx, i.1, Bool.and_self], ?_⟩
    simp only [PyData.depth, PyData.depthAll]
    omega
theorem des_shape {m : Nat} : ∀ {ds : List PyData}, (∀ d ∈ ds, d.canLay0 = true ∧ d.depth ≤ m) → PyData.canLayAll0 ds = true ∧ PyData.depthAll ds ≤ m
  | [], _ => ⟨by simp [PyData.canLayAll0], by simp [PyData.depthAll]⟩
  | d :: ds, h => by
    have h1 := h d List.mem_cons_self
    have h2 := des_shape fun x hx => h x (List.mem_cons_of_mem _ hx)
    simp only [PyData.canLayAll0, PyData.depthAll, h1.1, h2.1, Bool.and_self, true_and]
    omega
theorem shp_of {d : PyData} (h : d.canLay0 = true ∧ d.depth ≤ 64) : SeqAt.shaped d = true := by
  unfold SeqAt.shaped
  rw [h.1, decide_eq_true h.2]
  rfl
theorem shp_des {m : Nat} {ds : List PyData} (hm : m ≤ 63) (h : ∀ d ∈ ds, d.canLay0 = true ∧ d.depth ≤ m) : SeqAt.shaped (.tuple ds) = true := by
  have i := des_shape h
  refine shp_of ⟨by simp only [PyData.canLay0]; exact i.1, ?_⟩
  simp only [PyData.depth]
  omega
end Prs
set_option Elab.async false
set_option linter.all false
set_option maxRecDepth 100000
set_option maxHeartbeats 4000000
namespace Prs
open PySem PySem.Spec PyProof.Rows L2 Evl
theorem nums99 : ((List.range 100).all fun k => numOk (k : Int)) = true := by decide +kernel
theorem num99 {i : Int} (h1 : 1 ≤ i) (h2 : i ≤ 99) : numOk i = true := by
  obtain ⟨k, rfl⟩ := Int.eq_ofNat_of_zero_le (show 0 ≤ i by omega)
  exact List.all_eq_true.mp nums99 k (List.mem_range.mpr (by omega))
theorem numTk {i : Int} (h : numOk i = true) : goodW (Str.ofString (toString i)) = true ∧ tk (Str.ofString (toString i)) = nu (Str.ofString (toString i)) ∧ numM (Str.ofString (toString i)) = some i ∧ i.natAbs.log2 < 1920 := by
  unfold numOk at h
  simp only [Bool.and_eq_true, decide_eq_true_eq] at h
  refine ⟨h.1, ?_, h.2.2.1, h.2.2.2⟩
  unfold tk nu
  rw [h.2.1]
/-- a thing's text -/
def txt : V → V
  | .int i => .str (Str.ofString (toString i))
  | v => v
def txtAt (xs : List V) (i : Nat) : V := match xs[i]? with
  | some v => txt v
  | none => .non
structure WWh (d : PyData) (ws : List Str) : Prop where
  f : WhW d (ws.map tk)
  g : allGood ws
  l : ws.length ≤ 2
/-- the things of a when -/
theorem wh_form {d : PyData} {H : Hp} {v : V} (h : WhD d) (hd : DT H d v) : ∃ (a : Addr) (xs : List V) (ws : List Str), v = .ref a ∧ H a = some (.tup xs) ∧ xs.length ≤ 2 ∧ WWh d ws ∧ given xs.length (fun _ => true) (txtAt xs) = ws.map V.str ∧
    ∀ (i : Nat) (x : V), xs[i]? = some x → (∃ n : Int, x = V.int n ∧ n.natAbs.log2 < 1920) ∨ ∃ s : Str, x = V.str s := by
  cases h with
  | @on x hx =>
    obtain ⟨a, vs, rfl, ha, hs⟩ := dtT hd
    obtain ⟨u, r, rfl, h1, hs⟩ := dtsC hs
    obtain ⟨u2, r2, rfl, h2, hs⟩ := dtsC hs
    have := dtsN hs
    subst this
    have := dtS h1
    subst this
    have := dtS h2
    subst this
    have g := wordG onsG_ok hx
    refine ⟨a, _, ["on", x], rfl, ha, by simp, ⟨?_, fun z hz => ?_, by simp⟩, rfl, fun i y hy => ?_⟩
    · have e : tk "on" = kw "on" := by decide +kernel
      simp only [List.map_cons, List.map_nil, e, g.2]
      exact .on
    · simp only [List.mem_cons, List.not_mem_nil, or_false] at hz
      rcases hz with rfl | rfl
      · decide +kernel
      · exact g.1
    · have := List.mem_of_getElem? hy
      simp only [List.mem_cons, List.not_mem_nil, or_false] at this
      rcases this with rfl | rfl
      · exact .inr ⟨_, rfl⟩
      · exact .inr ⟨_, rfl⟩
  | @after n h1' h2' =>
    obtain ⟨a, vs, rfl, ha, hs⟩ := dtT hd
    obtain ⟨u, r, rfl, h1, hs⟩ := dtsC hs
    obtain ⟨u2, r2, rfl, h2, hs⟩ := dtsC hs
    have := dtsN hs
    subst this
    have := dtS h1
    subst this
    have := dtI h2
    subst this
    have g := numTk (num99 h1' h2')
    refine ⟨a, _, ["after", Str.ofString (toString n)], rfl, ha, by simp, ⟨?_, fun z hz => ?_, by simp⟩, rfl, fun i y hy => ?_⟩
    · have e : tk "after" = kw "after" := by decide +kernel
      simp only [List.map_cons, List.map_nil, e, g.2.1]
      exact .after g.2.2.1
    · simp only [List.mem_cons, List.not_mem_nil, or_false] at hz
      rcases hz with rfl | rfl
      · decide +kernel
      · exact g.1
    · have := List.mem_of_getElem? hy
      simp only [List.mem_cons, List.not_mem_nil, or_false] at this
      rcases this with rfl | rfl
      · exact .inr ⟨_, rfl⟩
      · exact .inl ⟨_, rfl, g.2.2.2⟩
  | done =>
    obtain ⟨a, vs, rfl, ha, hs⟩ := dtT hd
    obtain ⟨u, r, rfl, h1, hs⟩ := dtsC hs
    have := dtsN hs
    subst this
    have := dtS h1
    subst this
    refine ⟨a, _, ["done"], rfl, ha, by simp, ⟨?_, fun z hz => ?_, by simp⟩, rfl, fun i y hy => ?_⟩
    · have e : tk "done" = kw "done" := by decide +kernel
      simp only [List.map_cons, List.map_nil, e]
      exact .done
    · simp only [List.mem_cons, List.not_mem_nil, or_false] at hz
      rw [hz]
      decide +kernel
    · have := List.mem_of_getElem? hy
      simp only [List.mem_cons, List.not_mem_nil, or_false] at this
      rw [this]
      exact .inr ⟨_, rfl⟩
theorem gu_eq {n : Nat} {g : PyData} (h : GuD n g) : PyData.eqv g (.tuple [.str "yes"]) = true → g = .tuple [.str "yes"] := by
  intro e
  cases h with
  | yes => rfl
  | inn _ => simp [PyData.eqv, PyData.eqvAll] at e
  | cmp _ _ _ => simp [PyData.eqv, PyData.eqvAll] at e
  | neg _ => simp [PyData.eqv, PyData.eqvAll] at e
  | two _ _ _ => simp [PyData.eqv, PyData.eqvAll] at e
theorem DeW.up {k n : Nat} (h : k ≤ n) {d : PyData} {t : List Tok} (w : DeW k d t) : DeW n d t := by
  cases w with
  | put hw ht => exact .put hw (ht.to _ h)
  | call => exact .call
theorem LW.mono {R S : PyData → List Tok → Prop} (f : ∀ d t, R d t → S d t) {ds : List PyData} {t : List Tok} (h : LW R ds t) : LW S ds t := by
  induction h with
  | one h => exact .one (f _ _ h)
  | snoc _ h ih => exact .snoc ih (f _ _ h)
def gw : List Str → List Str
  | [] => []
  | x :: _ => ["to", x]
theorem go_form {d : PyData} {H : Hp} {v : V} (h : GoD d) (hd : DT H d v) : ∃ (a : Addr) (gs : List Str), v = .ref a ∧ H a = some (.tup (gs.map V.str)) ∧ gs.length ≤ 1 ∧ OpW "to" (.tuple []) (TupLW NaW) d ((gw gs).map tk) ∧ allGood (gw gs) := by
  cases h with
  | no =>
    obtain ⟨a, vs, rfl, ha, hs⟩ := dtT hd
    have := dtsN hs
    subst this
    exact ⟨a, [], rfl, ha, by simp, .no, fun _ hz => by cases hz⟩
  | @one x hx =>
    obtain ⟨a, vs, rfl, ha, hs⟩ := dtT hd
    obtain ⟨u, r, rfl, h1, hs⟩ := dtsC hs
    have := dtsN hs
    subst this
    have := dtS h1
    subst this
    have g := nameG hx
    refine ⟨a, [x], rfl, ha, by simp, ?_, fun z hz => ?_⟩
    · have e : tk "to" = kw "to" := by decide +kernel
      simp only [gw, List.map_cons, List.map_nil, e, g.2]
      exact .yes ⟨[.str x], rfl, by simp, .one .mk⟩
    · simp only [gw, List.mem_cons, List.not_mem_nil, or_false] at hz
      rcases hz with rfl | rfl
      · decide +kernel
      · exact g.1
structure WMv (d : PyData) (ws : List Str) : Prop where
  f : MvW 10 d (ws.map tk)
  g : allGood ws
  l : ws.length ≤ 250
abbrev cgo : Str := "go"
abbrev cto : Str := "to"
abbrev cif : Str := "if"
abbrev cdo : Str := "do"
section
variable {P : Program} {w : World} {K : PySem.W.Frag} {mg : Str → Option Value} {base : Heap}
def spMoveW : Sp := fun vs H Q _ => ∃ (p : Addr) (v : V) (d : PyData) (y : Int), vs = [.ref p, v] ∧ PurseAt H p y ∧ 0 ≤ y ∧ y < 68719470000 ∧ MvD d ∧ DT H d v ∧ Drawn p y 90 H (WrAt fun ws => ∃ tl, ws = cgo :: tl ∧ WMv d tl) Q
abbrev NM : List Str := ["_law_purse_here", "_law_move_here", "_law_when", "_law_guard_here", "_law_deeds_here", "_law_goals", "_law_found", "_law_k", "_law_goal", "_law_word"]
theorem scMoveW : FnScope NM ["_law_purse_here", "_law_move_here"] (defScope lMoveW) := ⟨rfl, rfl, rfl, by decide +kernel, rfl, by decide +kernel, by decide +kernel⟩
set_option maxHeartbeats 0 in
theorem ok_moveW (gs : mg "str" = none) (gl : mg "list" = none) (gi : mg "int" = none) (ge : mg "enumerate" = none) (D : Df K mg "_law_move_words" lMoveW ["_law_purse_here", "_law_move_here"]) (DG : Df K mg "_law_guard_words" lGuardW ["_law_purse_here", "_law_guard_here"]) (DD : Df K mg "_law_deeds_words" lDeedsW ["_law_purse_here", "_law_deeds_here"]) (DT' : Df K mg "_law_term_words" lTermW ["_law_purse_here", "_law_term_here"]) (DA : Df K mg "_law_around" lAround ["_law_purse_here", "_law_words", "_law_wanted"]) (DK : Df K mg "_law_take" lTake ["_law_purse_here", "_law_far"]) (DM : Df K mg "_law_mixed" lMixed ["_law_cell", "_law_k"]) :
    FnOk P w K mg base CX0 9 D.f D.fd ["_law_purse_here", "_law_move_here"] spMoveW := by
  have GG : FnOk P w K mg base CX0 8 DG.f DG.fd ["_law_purse_here", "_law_guard_here"] (spGuardW 3) := ok_guardW gs DG DT' DA DK DM 3
  have GD : FnOk P w K mg base CX0 7 DD.f DD.fd ["_law_purse_here", "_law_deeds_here"] spDeedsW := ok_deedsW gs gl DD DT' DA DK DM
  refine D.F.ok scMoveW (fun vs H Q E h => ?_) (fun cdv A outer s H vs Q E hr h => ?_)
  · obtain ⟨p, v, d, y, rfl, _⟩ := h
    rfl
  · obtain ⟨p, v, d, y, rfl, hp, y0, y1, hm, hd, q⟩ := h
    have hr7 : Room 7 _ := hr.mono (by decide)
    refine ⟨_, pss_cons (ps_asg (pv 1) (pg_tup rfl (pgs_cons (pg_name (i := 2) scMoveW.nd rfl (.inl rfl)) (pgs_cons (pg_name (i := 3) scMoveW.nd rfl (.inl rfl)) (pgs_cons (pg_name (i := 4) scMoveW.nd rfl (.inl rfl)) (pgs_cons (pg_name (i := 5) scMoveW.nd rfl (.inl rfl)) pgs_nil))))))
      (pss_cons (ps_set (i := 6) scMoveW.nd rfl (.inl rfl) (pe_op op_cat (pe_lst (pa_cons pe_str pa_nil)) (pe_lc (te := tCB (fun xs H Q => (∃ i, xs = [V.int i] ∧ i.natAbs.log2 < 1920 ∧ Q (.str (toString i)) H) ∨ ∃ a, xs = [V.str a] ∧ Q (.str a) H) (tCons (tVar 9) tNil)) (own := [("_law_word", 9)]) (g := gName 9) (tt := tYes) rfl scMoveW.nd (pi_tup (pv 2)) (blkOk_by (N := NM) (sc := defScope lMoveW) (by decide +kernel)) (fun _ _ _ _ _ => pg_name (i := 9) scMoveW.nd rfl (Or.inl rfl)) (fun _ _ _ _ _ => pts_nil) (fun _ _ _ _ _ => pe_callTy call_strB (by rfl) gs (by rfl) (pa_cons (pv 9) pa_nil)))))
      (pss_cut (ps_if (pt_cmpR (op_neD hr.units) (pv 3) (pe_tup (pa_cons pe_str pa_nil)) (nomark _)) (pss_one (ps_set (i := 6) scMoveW.nd rfl (.inl rfl) (pe_op op_cat (pe_op op_cat (pv 6) (pe_lst (pa_cons pe_str pa_nil))) (pe_call GG hr rfl DG.m DG.F.kp DG.b .nil pass0 (pa_cons (pv 0) (pa_cons (pv 3) pa_nil)))))) pss_nil)
      (pss_cut (ps_if (pt_cmpR (op_neD hr.units) (pv 4) (pe_tup pa_nil) (nomark _)) (pss_one (ps_set (i := 6) scMoveW.nd rfl (.inl rfl) (pe_op op_cat (pe_op op_cat (pv 6) (pe_lst (pa_cons pe_str pa_nil))) (pe_call GD hr7 rfl DD.m DD.F.kp DD.b .nil pass0 (pa_cons (pv 0) (pa_cons (pv 4) pa_nil)))))) pss_nil)
      (pss_cons (ps_for PassesOwn.never rfl (pi_enT rfl ge (pa_cons (pv 5) pa_nil)) (pg_tup rfl (pgs_cons (pg_name (i := 7) scMoveW.nd rfl (.inl rfl)) (pgs_cons (pg_name (i := 8) scMoveW.nd rfl (.inl rfl)) pgs_nil)))
        (pss_one (ps_set (i := 6) scMoveW.nd rfl (.inl rfl) (pe_op op_cat (pv 6) (pe_lst (pa_cons (pe_ix ix_list (pe_lst (pa_cons pe_str (pa_cons pe_str pa_nil))) (pe_callTy call_int1 (by rfl) gi boot_int (pa_cons (pe_cmpR op_gt (pv 7) pe_int (nomark _)) pa_nil)) (fun _ _ => rfl)) (pa_cons (pv 8) pa_nil)))))))
      (pss_one (ps_ret (pv 6))))))), ?_⟩
    cases hm with
    | @mk wn g dsd gl0 hw hg hds hgo =>
    obtain ⟨ds, rfl, hdl, hdD⟩ := hds
    obtain ⟨ma, mvs, rfl, hma, k1⟩ := dtT hd
    obtain ⟨vw, r1, rfl, dw, k2⟩ := dtsC k1
    obtain ⟨vg, r2, rfl, dg, k3⟩ := dtsC k2
    obtain ⟨vd, r3, rfl, dd, k4⟩ := dtsC k3
    obtain ⟨vl, r4, rfl, dl, k5⟩ := dtsC k4
    have k6 := dtsN k5
    subst k6
    have pb3 : pbG 3 = 70 := rfl
    have wl3 : wlG 3 = 175 := rfl
    refine ⟨.ref ma, rfl, ma, _, rfl, st_of hma, rfl, vw, _, rfl, vg, _, rfl, vd, _, rfl, vl, _, rfl, rfl, ?_⟩
    obtain ⟨wa, xs, w1, rfl, hwa, hxl, W1, hgiven, hx⟩ := wh_form hw dw
    refine q_asgL (xs := [V.str "go"] ++ given xs.length (fun _ => true) (txtAt xs)) (el_cat (el_lst (ea_cons ev_c ea_nil) (by show 1 ≤ 100000; decide)) (el_lcT (K := K) (fun _ => true) (txtAt xs) (ev_var rfl) (st_of hwa) (by omega) (fun _ => rfl) (fun m x H' _ _ => fun H1 _ Q q => q H1 (Ex.refl H1)) (fun i x H' _ hi _ => ev_cb (ea_cons (ev_var rfl) ea_nil) (fun H2 _ Q q => ?_))) (by rw [hgiven]; simp; have := W1.l; omega)) fun l0 H1 n1 e1 h1 => ?_
    · have ht : txtAt xs i = txt x := by
        unfold txtAt
        rw [hi]
      rw [ht] at q
      rcases hx i x hi with ⟨n, rfl, hn⟩ | ⟨s, rfl⟩
      · exact .inl ⟨n, rfl, hn, q H2 (Ex.refl H2)⟩
      · exact .inr ⟨s, rfl, q H2 (Ex.refl H2)⟩
    rw [hgiven] at h1
    have hl0 : StrsAt H1 l0 (cgo :: w1) := ⟨h1⟩
    have hp1 := hp.ex e1
    have w1l := W1.l
    have dg1 := DT.tf (TF.ex e1) _ _ dg
    refine Evl.q_cut (M := fun σ' H' => ∃ (y' : Int) (la : Addr) (w2 : List Str), Fr p H H' ∧ PurseAt H' p y' ∧ y ≤ y' ∧ y' ≤ y + 70 ∧ σ' = [some (.ref p), some (.ref ma), some (.ref wa), some vg, some vd, some vl, some (.ref la), none, none, none] ∧ StrsAt H' la (cgo :: (w1 ++ w2)) ∧ OpW "if" (.tuple [.str "yes"]) (GW 2 10) g (w2.map tk) ∧ allGood w2 ∧ w2.length ≤ 176) (s_if (b := !PyData.eqv g (.tuple [.str "yes"])) (et_test (ev_neT rfl dg1 (eu_tup (ea_cons ev_c ea_nil) (by show 1 ≤ 100000; decide)) (fun _ => .cons (.str _) .nil) (shp_of ⟨(gu_shape hg).1, Nat.le_trans (gu_shape hg).2 (by decide)⟩) (by decide +kernel))) (fun hb H2 e2 => ?_) (fun hb H2 e2 => ?_)) (fun σ' H' z => ?_)
    · have hl2 : StrsAt H2 l0 (cgo :: w1) := ⟨e2 _ _ hl0.at_⟩
      refine q_catA (xs := (cgo :: w1).map V.str ++ [V.str "if"]) (el_catK (ev_var rfl) hl2.at_ (el_lst (ea_cons ev_c ea_nil) (by show 1 ≤ 100000; decide)) (by simp; omega)) fun l2 H3 n3 e3 h3 => ?_
      have e13 := e1.trans (e2.trans e3)
      have hl3 : StrsAt H3 l2 ((cgo :: w1) ++ [cif]) := ⟨by rw [h3, List.map_append]; rfl⟩
      have hp3 := hp.ex e13
      refine ⟨.ref p, rfl, vg, rfl, p, vg, g, y, rfl, hp3, y0, by omega, by omega, hg, DT.tf (TF.ex e13) _ _ dg, fun u y2 H4 f4 hp4 m1 m2 r => ?_⟩
      obtain ⟨lg, wg, rfl, hwg, rg⟩ := r
      have hl4 := hl3.fr hp3 f4
      have hrg := rg.l
      refine ⟨l2, lg, _, _, rfl, rfl, hl4.at_, hwg.at_, sz_of (by simp; omega), fun l nl => ?_⟩
      have e5 : Ex H4 (L2.upd H4 l (.lst (((cgo :: w1) ++ [cif]).map V.str ++ wg.map V.str))) := fr_new nl
      refine ⟨y2, l, cif :: wg, ((Fr.ex e13).trans f4).trans (Fr.ex e5), hp4.ex e5, m1, by omega, rfl, ⟨by rw [upd_same]; simp⟩, ?_, fun z hz => ?_, by simp only [List.length_cons]; omega⟩
      · have e : tk cif = kw "if" := by decide +kernel
        rw [List.map_cons, e]
        exact .yes rg.f
      · rcases List.mem_cons.mp hz with h | h
        · rw [h]
          decide +kernel
        · exact rg.g z h
    · have hgy := gu_eq hg (by simpa using hb)
      have e12 := e1.trans e2
      exact ⟨y, l0, [], Fr.ex e12, hp.ex e12, Int.le_refl _, by omega, rfl, ⟨by rw [List.append_nil]; exact e2 _ _ hl0.at_⟩, by rw [hgy]; exact .no, (fun _ hz => by cases hz), by simp⟩
    clear dg1 hl0 h1 hgiven
    obtain ⟨y', la, w2, f1, hp1', l1, l2, rfl, hla, O2, g2, w2l⟩ := z
    have dd1 := DT.tf (PurseAt.tf hp f1) _ _ dd
    have hds2 : SeqAt.shaped (.tuple ds) = true := shp_des (m := 4) (by decide) fun x hx => de_shape (hdD x hx)
    refine Evl.q_cut (M := fun σ' H2 => ∃ (y2 : Int) (lb : Addr) (w3 : List Str), Fr p H H2 ∧ PurseAt H2 p y2 ∧ y ≤ y2 ∧ y2 ≤ y + 84 ∧ σ' = [some (.ref p), some (.ref ma), some (.ref wa), some vg, some vd, some vl, some (.ref lb), none, none, none] ∧ StrsAt H2 lb (cgo :: (w1 ++ (w2 ++ w3))) ∧ OpW "do" (.tuple []) (TupLW (DeW 10)) (.tuple ds) (w3.map tk) ∧ allGood w3 ∧ w3.length ≤ 61) (s_if (b := !PyData.eqv (.tuple ds) (.tuple [])) (et_test (ev_neT rfl dd1 (eu_tup ea_nil (by show 0 ≤ 100000; decide)) (fun _ => .nil) hds2 (by decide +kernel))) (fun hb H2 e2 => ?_) (fun hb H2 e2 => ?_)) (fun σ' H2 z => ?_)
    · have hne : ds ≠ [] := fun e => by
        rw [e] at hb
        simp [PyData.eqv, PyData.eqvAll] at hb
      have hl2 : StrsAt H2 la (cgo :: (w1 ++ w2)) := ⟨e2 _ _ hla.at_⟩
      refine q_catA (xs := (cgo :: (w1 ++ w2)).map V.str ++ [V.str "do"]) (el_catK (ev_var rfl) hl2.at_ (el_lst (ea_cons ev_c ea_nil) (by show 1 ≤ 100000; decide)) (by simp; omega)) fun l2 H3 n3 e3 h3 => ?_
      have e23 := e2.trans e3
      have hl3 : StrsAt H3 l2 ((cgo :: (w1 ++ w2)) ++ [cdo]) := ⟨by rw [h3, List.map_append]; rfl⟩
      have hp3 := hp1'.ex e23
      refine ⟨.ref p, rfl, vd, rfl, p, vd, ds, y', rfl, hp3, by omega, by omega, hne, hdl, hdD, DT.tf (TF.ex e23) _ _ dd1, fun u y2 H4 f4 hp4 m1 m2 r => ?_⟩
      obtain ⟨lg, wg, rfl, hwg, rg⟩ := r
      have hl4 := hl3.fr hp3 f4
      have hrg := rg.l
      refine ⟨l2, lg, _, _, rfl, rfl, hl4.at_, hwg.at_, sz_of (by simp; omega), fun l nl => ?_⟩
      have e5 : Ex H4 (L2.upd H4 l (.lst (((cgo :: (w1 ++ w2)) ++ [cdo]).map V.str ++ wg.map V.str))) := fr_new nl
      refine ⟨y2, l, cdo :: wg, (f1.trans (Fr.ex e23)).trans (f4.trans (Fr.ex e5)), hp4.ex e5, by omega, by omega, rfl, ⟨by rw [upd_same]; simp⟩, ?_, fun z hz => ?_, by simp only [List.length_cons]; omega⟩
      · have e : tk cdo = kw "do" := by decide +kernel
        rw [List.map_cons, e]
        exact .yes ⟨ds, rfl, by omega, rg.f.mono fun d t h => h.up (by decide)⟩
      · rcases List.mem_cons.mp hz with h | h
        · rw [h]
          decide +kernel
        · exact rg.g z h
    · have hnil : ds = [] := by
        cases ds with
        | nil => rfl
        | cons a b => simp [PyData.eqv, PyData.eqvAll] at hb
      exact ⟨y', la, [], f1.trans (Fr.ex e2), hp1'.ex e2, l1, by omega, rfl, ⟨by rw [List.append_nil]; exact e2 _ _ hla.at_⟩, by rw [hnil]; exact .no, (fun _ hz => by cases hz), by simp⟩
    clear dd1 hla
    obtain ⟨y2, lb, w3, f2, hp2, l3, l4, rfl, hlb, O3, g3, w3l⟩ := z
    obtain ⟨ga, gs', rfl, hga, hgl, O4, g4⟩ := go_form hgo (DT.tf (PurseAt.tf hp f2) _ _ dl)
    have gap : ga ≠ p := fun z => by
      obtain ⟨x', z', hpp⟩ := hp2
      rw [z, hpp] at hga
      exact absurd (Option.some.inj hga) (fun q => nomatch q)
    refine ⟨.ref ga, rfl, ga, _, rfl, st_of hga, for_it (walk_ien (K := K) (xs := gs'.map V.str)) (fun i σ H' => Fr p H2 H' ∧ PurseAt H' p y2 ∧ ∃ lc v7 v8, σ = [some (.ref p), some (.ref ma), some (.ref wa), some vg, some vd, some (.ref ga), some (.ref lc), v7, v8, none] ∧ StrsAt H' lc (cgo :: (w1 ++ (w2 ++ (w3 ++ gw (gs'.take i)))))) ⟨Fr.ex (Ex.refl H2), hp2, lb, none, none, rfl, by rw [List.take_zero]; show StrsAt H2 lb (cgo :: (w1 ++ (w2 ++ (w3 ++ [])))); rw [List.append_nil]; exact hlb⟩ (fun i σ H' _ z => st_of (z.1 _ _ gap hga)) (fun i x σ H3 H4 hi z Y => ?_) (fun σ H3 z => ?_)⟩
    · obtain ⟨f3, hp3, lc, v7, v8, rfl, hlc⟩ := z
      obtain ⟨T, x0, yv, rfl, nT, rfl, ex0, hyv⟩ := Y
      cases ex0
      rw [List.length_map] at hi
      have hi0 : i = 0 := by omega
      subst hi0
      have e4 : Ex H3 (L2.upd H3 T (.tup [.int ((0 : Nat) : Int), yv])) := fr_new nT
      have hT : (L2.upd H3 T (.tup [.int ((0 : Nat) : Int), yv])) T = some (.tup [.int ((0 : Nat) : Int), yv]) := upd_same
      have hlc4 : StrsAt (L2.upd H3 T (.tup [.int ((0 : Nat) : Int), yv])) lc (cgo :: (w1 ++ (w2 ++ (w3 ++ gw (gs'.take 0))))) := ⟨e4 _ _ hlc.at_⟩
      revert e4 hT hlc4
      generalize (L2.upd H3 T (.tup [.int ((0 : Nat) : Int), yv])) = H4
      intro e4 hT hlc4
      obtain ⟨gx, gr, hgs⟩ : ∃ gx gr, gs' = gx :: gr := by
        cases gs' with
        | nil => simp at hi
        | cons a b => exact ⟨a, b, rfl⟩
      subst hgs
      have hyv' : yv = .str gx := by simpa using hyv.symm
      subst hyv'
      refine ⟨T, _, rfl, st_of hT, rfl, .int ((0 : Nat) : Int), _, rfl, .str gx, _, rfl, rfl, ?_⟩
      refine q_asgN (xs := (cgo :: (w1 ++ (w2 ++ (w3 ++ gw ((gx :: gr).take 0))))).map V.str ++ [V.str "to", V.str gx]) (el_catK (ev_var rfl) hlc4.at_ (el_lst (ea_cons (ev_opL1 (y := .int 0) (z := .str "to") (el_lst (ea_cons ev_c (ea_cons ev_c ea_nil)) (by show 2 ≤ 100000; decide)) (fun H5 e5 => ev_cb (ea_cons (ev_op (ev_var rfl) ev_c rv_I0) ea_nil) (fun H6 _ Q q => .inr ⟨false, rfl, q H6 (Ex.refl H6)⟩)) (fun pp H5 hpp _ => rv_ixL' (sq_of hpp) rfl)) (ea_cons (ev_var rfl) ea_nil)) (by show 2 ≤ 100000; decide)) (by simp [gw]; omega)) fun l H5 n5 e5 h5 => ?_
      refine ⟨f3.trans (Fr.ex (e4.trans e5)), hp3.ex (e4.trans e5), l, _, _, rfl, ⟨?_⟩⟩
      rw [h5]
      simp [gw]
    · obtain ⟨f3, hp3, lc, v7, v8, rfl, hlc⟩ := z
      rw [List.length_map, List.take_length] at hlc
      refine ⟨.ref lc, rfl, q _ y2 _ (f2.trans f3) hp3 l3 (by omega) ⟨lc, _, rfl, hlc, _, rfl, ?_, fun z hz => ?_, ?_⟩⟩
      · simp only [List.map_append]
        exact .mk W1.f O2 O3 O4
      · rcases List.mem_append.mp hz with h | h
        · exact W1.g z h
        · rcases List.mem_append.mp h with h | h
          · exact g2 z h
          · rcases List.mem_append.mp h with h | h
            · exact g3 z h
            · exact g4 z h
      · have : (gw gs').length ≤ 2 := by
          cases gs' <;> simp [gw]
        simp only [List.length_append]
        omega
end
end Prs
set_option Elab.async false
set_option linter.all false
set_option maxRecDepth 100000
set_option maxHeartbeats 4000000
namespace Prs
open PySem PySem.Spec PyProof.Rows L2 Evl
abbrev lStandW : Stmt := top 78
abbrev WR := Nat × List Str
/-! ### rows of words on the heap -/
def RowV (H : Hp) (r : WR) (v : V) : Prop := ∃ b wl, v = .ref b ∧ H b = some (.lst [.int (r.1 : Nat), .ref wl]) ∧ StrsAt H wl r.2
def RowVs (H : Hp) : List WR → List V → Prop
  | [], vs => vs = []
  | r :: rs, vs => ∃ v t, vs = v :: t ∧ RowV H r v ∧ RowVs H rs t
theorem RowV.ex {H H' : Hp} (e : Ex H H') {r : WR} {v : V} (h : RowV H r v) : RowV H' r v := by
  obtain ⟨b, wl, rfl, h1, h2⟩ := h
  exact ⟨b, wl, rfl, e _ _ h1, ⟨e _ _ h2.at_⟩⟩
theorem RowV.fr {H H' : Hp} {p : Addr} {y : Int} (hp : PurseAt H p y) (f : Fr p H H') {r : WR} {v : V} (h : RowV H r v) : RowV H' r v := by
  obtain ⟨b, wl, rfl, h1, h2⟩ := h
  refine ⟨b, wl, rfl, f _ _ (fun z => ?_) h1, h2.fr hp f⟩
  obtain ⟨x, w, hpp⟩ := hp
  rw [z, hpp] at h1
  cases h1
theorem RowV.upd {H : Hp} {l : Addr} {a : Addr} {r0 : List V} {o : HO} (hl : H l = some (.lst (.ref a :: r0))) {r : WR} {v : V} (h : RowV H r v) : RowV (L2.upd H l o) r v := by
  obtain ⟨b, wl, rfl, h1, h2⟩ := h
  refine ⟨b, wl, rfl, ?_, ⟨?_⟩⟩
  · rw [upd_ne (fun z => by rw [z, hl] at h1; cases h1)]
    exact h1
  · have h3 := h2.at_
    rw [upd_ne (fun z => ?_)]
    · exact h3
    · rw [z, hl] at h3
      have h4 := HO.lst.inj (Option.some.inj h3)
      cases hr : r.2 with
      | nil => rw [hr] at h4; cases h4
      | cons s t => rw [hr] at h4; injection h4 with h5 _; cases h5
theorem RowVs.map {H H' : Hp} (f : ∀ r v, RowV H r v → RowV H' r v) : ∀ {rs : List WR} {vs : List V}, RowVs H rs vs → RowVs H' rs vs
  | [], _, h => h
  | r :: rs, vs, ⟨v, t, e, h1, h2⟩ => ⟨v, t, e, f _ _ h1, RowVs.map f h2⟩
theorem RowVs.append {H : Hp} : ∀ {rs ss : List WR} {vs us : List V}, RowVs H rs vs → RowVs H ss us → RowVs H (rs ++ ss) (vs ++ us)
  | [], ss, vs, us, h, h' => by
    have : vs = [] := h
    subst this
    exact h'
  | r :: rs, ss, vs, us, ⟨v, t, e, h1, h2⟩, h' => by
    subst e
    exact ⟨v, t ++ us, rfl, h1, RowVs.append h2 h'⟩
theorem RowVs.len {H : Hp} : ∀ {rs : List WR} {vs : List V}, RowVs H rs vs → vs.length = rs.length
  | [], vs, h => by
    have : vs = [] := h
    rw [this]
    rfl
  | r :: rs, vs, ⟨v, t, e, h1, h2⟩ => by
    subst e
    simp [RowVs.len h2]
def RA (H : Hp) (l : Addr) (rs : List WR) : Prop := ∃ vs, H l = some (.lst vs) ∧ RowVs H rs vs
theorem RA.ex {H H' : Hp} (e : Ex H H') {l : Addr} {rs : List WR} (h : RA H l rs) : RA H' l rs := by
  obtain ⟨vs, h1, h2⟩ := h
  exact ⟨vs, e _ _ h1, h2.map fun _ _ => RowV.ex e⟩
theorem RA.headR {H : Hp} {l : Addr} {r : WR} {rs : List WR} (h : RA H l (r :: rs)) : ∃ a vs, H l = some (.lst (.ref a :: vs)) ∧ RowVs H (r :: rs) (.ref a :: vs) := by
  obtain ⟨vs, h1, h2⟩ := h
  obtain ⟨v, t, rfl, h3, h4⟩ := id h2
  obtain ⟨b, wl, rfl, h5, h6⟩ := id h3
  exact ⟨b, t, h1, h2⟩
theorem RA.ne {H : Hp} {p l : Addr} {y : Int} (hp : PurseAt H p y) {r : WR} {rs : List WR} (h : RA H l (r :: rs)) : l ≠ p := fun z => by
  obtain ⟨a, vs, h1, _⟩ := h.headR
  obtain ⟨x, w, hpp⟩ := hp
  rw [z, hpp] at h1
  cases h1
theorem RA.fr {H H' : Hp} {p : Addr} {y : Int} (hp : PurseAt H p y) (f : Fr p H H') {l : Addr} {r : WR} {rs : List WR} (h : RA H l (r :: rs)) : RA H' l (r :: rs) := by
  have n := h.ne hp
  obtain ⟨vs, h1, h2⟩ := h
  exact ⟨vs, f _ _ n h1, h2.map fun _ _ => RowV.fr hp f⟩
/-- one more row at the end -/
theorem RA.snoc {H : Hp} {l : Addr} {r : WR} {rs : List WR} {acc : List V} (h : RA H l (r :: rs)) (ha : H l = some (.lst acc)) {q : WR} {v : V} (hv : RowV H q v) : RA (L2.upd H l (.lst (acc ++ [v]))) l ((r :: rs) ++ [q]) := by
  obtain ⟨a, vs, h1, h2⟩ := h.headR
  have e : acc = .ref a :: vs := HO.lst.inj (Option.some.inj (ha.symm.trans h1))
  subst e
  exact ⟨_, upd_same, RowVs.append (h2.map fun _ _ => RowV.upd h1) ⟨v, [], rfl, RowV.upd h1 hv, rfl⟩⟩
/-! ### rows numbered -/
def nRS (f : Nat → Int) : Nat → List WR → List RS
  | _, [] => []
  | o, r :: rs => (f o, r.1, r.2.map tk) :: nRS f (o + 1) rs
theorem nRS_app (f : Nat → Int) : ∀ (o : Nat) (a b : List WR), nRS f o (a ++ b) = nRS f o a ++ nRS f (o + a.length) b
  | o, [], b => by simp [nRS]
  | o, r :: a, b => by
    simp only [List.cons_append, nRS, List.length_cons]
    rw [nRS_app f (o + 1) a b, show o + 1 + a.length = o + (a.length + 1) by omega]
def nsg : List Str → Bool
  | [] => false
  | w :: _ => !isSg w
theorem nsg_ne {ws : List Str} (h : nsg ws = true) : ws ≠ [] := fun e => by
  rw [e] at h
  cases h
def RowsOk (rs : List WR) : Prop := ∀ r ∈ rs, nsg r.2 = true ∧ allGood r.2 ∧ r.2.length ≤ 260 ∧ r.1 ≤ 20
theorem RowsOk.append {a b : List WR} (h : RowsOk a) (h' : RowsOk b) : RowsOk (a ++ b) := fun r hr => by
  rcases List.mem_append.mp hr with q | q
  · exact h r q
  · exact h' r q
structure WProp (w : Str) (D : Nat) (ds : List PyData) (rs : List WR) : Prop where
  k : ∀ f o, PropRow 10 w D (.tuple ds) (nRS f o rs)
  ok : RowsOk rs
  l : rs.length ≤ 1
  e : ds = [] → rs = []
theorem WProp.no {w : Str} {D : Nat} : WProp w D [] [] := ⟨fun _ _ => .no, (fun _ h => by cases h), by simp, fun _ => rfl⟩
theorem WProp.yes {w : Str} {D : Nat} {ds : List PyData} {ws : List Str} (h : WDes ds ws) (hl : ds.length ≤ 2) (hne : ds ≠ []) (hw : tk w = kw w ∧ goodW w = true ∧ isSg w = false) (hD : D ≤ 20) : WProp w D ds [(D, w :: ws)] := by
  refine ⟨fun f o => ?_, fun r hr => ?_, by simp, fun e => absurd e hne⟩
  · simp only [nRS, List.map_cons, hw.1]
    exact .yes (by omega) (h.f.mono fun d t q => q.up (by decide))
  · obtain rfl := List.mem_singleton.mp hr
    have := h.l
    refine ⟨by simp [nsg, hw.2.2], fun z hz => ?_, by simp only [List.length_cons]; omega, hD⟩
    rcases List.mem_cons.mp hz with q | q
    · rw [q]
      exact hw.2.1
    · exact h.g z q
structure WMvs (D : Nat) (ms : List PyData) (rs : List WR) : Prop where
  k : ∀ f o, ∃ nums, MvRows 10 D ms nums (nRS f o rs)
  ok : RowsOk rs
  l : rs.length = ms.length
theorem WMvs.nil {D : Nat} : WMvs D [] [] := ⟨fun _ _ => ⟨[], .nil⟩, (fun _ h => by cases h), rfl⟩
theorem WMvs.snoc {D : Nat} {ms : List PyData} {rs : List WR} {d : PyData} {ws : List Str} (h : WMvs D ms rs) (q : WMv d ws) (hD : D ≤ 20) : WMvs D (ms ++ [d]) (rs ++ [(D, cgo :: ws)]) := by
  have hc : tk cgo = kw "go" := by decide +kernel
  refine ⟨fun f o => ?_, h.ok.append fun r hr => ?_, by simp [h.l]⟩
  · obtain ⟨nums, hm⟩ := h.k f o
    refine ⟨nums ++ [f (o + rs.length)], ?_⟩
    rw [nRS_app]
    simp only [nRS, List.map_cons, hc]
    exact .snoc hm q.f
  · obtain rfl := List.mem_singleton.mp hr
    have := q.l
    refine ⟨by show (!isSg cgo) = true; decide +kernel, fun z hz => ?_, by simp only [List.length_cons]; omega, hD⟩
    rcases List.mem_cons.mp hz with g | g
    · rw [g]
      decide +kernel
    · exact q.g z g
def rbn : Nat → Nat
  | 0 => 0
  | n + 1 => 5 + 4 * rbn n
structure WSt (n D : Nat) (d : PyData) (rs : List WR) : Prop where
  k : ∀ f o, ∃ pls, SKW 10 true n D [d] pls (nRS f o rs)
  ok : RowsOk rs
  l : rs.length ≤ rbn n
structure WKs (n D : Nat) (ds : List PyData) (rs : List WR) : Prop where
  k : ∀ f o, ∃ pls, SKW 10 false n D ds pls (nRS f o rs)
  ok : RowsOk rs
  l : rs.length ≤ rbn n * ds.length
theorem WKs.nil {n D : Nat} : WKs n D [] [] := ⟨fun _ _ => ⟨[], .nil⟩, (fun _ h => by cases h), by simp⟩
theorem WKs.snoc {n D : Nat} {ds : List PyData} {rs r : List WR} {d : PyData} (h : WKs n D ds rs) (q : WSt n D d r) : WKs n D (ds ++ [d]) (rs ++ r) := by
  refine ⟨fun f o => ?_, h.ok.append q.ok, ?_⟩
  · obtain ⟨p1, h1⟩ := h.k f o
    obtain ⟨p2, h2⟩ := q.k f (o + rs.length)
    rw [nRS_app]
    exact ⟨_, .snoc h1 h2⟩
  · have h1 := h.l
    have h2 := q.l
    rw [List.length_append, List.length_append, List.length_singleton, Nat.mul_add, Nat.mul_one]
    omega
theorem sortTk {s : Str} (h : s ∈ SORTSs) : tk s = kw s ∧ goodW s = true ∧ isSg s = false := by
  have ok : (SORTSs.all fun s => decide (tk s = kw s) && (goodW s && !isSg s)) = true := by decide +kernel
  have := List.all_eq_true.mp ok s h
  simpa using this
theorem WSt.mk' {n D : Nat} {x s : Str} {di dou ms ds : List PyData} {ri ro rm rk : List WR} (hx : x ∈ NAMES) (hs : s ∈ SORTSs) (hf : ds ≠ [] → isFull s) (hm : isMark s → ds = [] ∧ di = [] ∧ dou = [] ∧ ms = []) (h1 : WProp "into" (D + 1) di ri) (h2 : WProp "out" (D + 1) dou ro) (h3 : WMvs (D + 1) ms rm) (h4 : WKs n (D + 1) ds rk) (hl : ds.length ≤ 4) (hml : ms.length ≤ 2) (hD : D ≤ 20) :
    WSt (n + 1) D (.tuple [.str x, .str s, .tuple ds, .tuple di, .tuple dou, .tuple ms]) ((D, [s, x]) :: (ri ++ (ro ++ (rm ++ rk)))) := by
  have st := sortTk hs
  have nt := nameG hx
  refine ⟨fun f o => ?_, fun r hr => ?_, ?_⟩
  · obtain ⟨nums, g3⟩ := h3.k f (o + 1 + ri.length + ro.length)
    obtain ⟨pls, g4⟩ := h4.k f (o + 1 + ri.length + ro.length + rm.length)
    simp only [nRS, List.map_cons, List.map_nil, st.1, nt.2, nRS_app]
    refine ⟨_, .stand hs hf (fun hmk => ?_) (h1.k f (o + 1)) (h2.k f (o + 1 + ri.length)) g3 g4 (by omega) (by omega) (by omega)⟩
    obtain ⟨e1, e2, e3, e4⟩ := hm hmk
    have a1 := h1.e e2
    have a2 := h2.e e3
    have a3 : rm = [] := List.length_eq_zero_iff.mp (by rw [h3.l, e4]; rfl)
    have a4 : rk = [] := List.length_eq_zero_iff.mp (by have := h4.l; rw [e1] at this; simpa using this)
    subst a1 a2 a3 a4
    rfl
  · rcases List.mem_cons.mp hr with q | q
    · subst q
      refine ⟨by simp [nsg, st.2.2], fun z hz => ?_, by simp, hD⟩
      simp only [List.mem_cons, List.not_mem_nil, or_false] at hz
      rcases hz with rfl | rfl
      · exact st.2.1
      · exact nt.1
    · exact (h1.ok.append (h2.ok.append (h3.ok.append h4.ok))) r q
  · have b1 := h1.l
    have b2 := h2.l
    have b3 := h3.l
    have b4 := h4.l
    have b5 : rbn n * ds.length ≤ rbn n * 4 := Nat.mul_le_mul_left _ hl
    simp only [List.length_cons, List.length_append]
    show _ ≤ 5 + 4 * rbn n
    omega
theorem st_form {n : Nat} {so : Str} {d : PyData} (h : StD (n + 1) so d) : ∃ (x : Str) (ds di dou ms : List PyData), d = .tuple [.str x, .str so, .tuple ds, .tuple di, .tuple dou, .tuple ms] ∧ x ∈ NAMES ∧ so ∈ SORTSs ∧ (∀ d ∈ ds, ∃ s, StD n s d) ∧ ds.length ≤ 4 ∧ (ds ≠ [] → isFull so) ∧ di.length ≤ 2 ∧ (∀ d ∈ di, DeD d) ∧ dou.length ≤ 2 ∧ (∀ d ∈ dou, DeD d) ∧ (∀ m ∈ ms, MvD m) ∧ ms.length ≤ 2 ∧ (isMark so → ds = [] ∧ di = [] ∧ dou = [] ∧ ms = []) := by
  rcases h with ⟨x, rfl, h1, h2, h3⟩ | ⟨x, ds, ms, into, out, rfl, h1, h2, h3, h4, h5, h6, ⟨di, rfl, i1, i2⟩, ⟨dou, rfl, o1, o2⟩, h9, h10⟩
  · exact ⟨x, [], [], [], [], rfl, h1, h2, (fun _ h => by cases h), by simp, fun h => absurd rfl h, by simp, (fun _ h => by cases h), by simp, (fun _ h => by cases h), (fun _ h => by cases h), by simp, fun _ => ⟨rfl, rfl, rfl, rfl⟩⟩
  · exact ⟨x, ds, di, dou, ms, rfl, h1, h2, h4, h5, h6, i1, i2, o1, o2, h9, h10, fun h => absurd h h3⟩
end Prs
set_option Elab.async false
set_option linter.all false
set_option maxRecDepth 100000
set_option maxHeartbeats 4000000
namespace Prs
open PySem PySem.Spec PyProof.Rows L2 Evl
section
variable {K : PySem.W.Frag} {E : XK} {D : Ends} {σ : L2.St} {H : Hp} {p l : Addr} {dep k : Nat} {y : Int} {r : WR} {rs : List WR}
/-- a row of deeds, where there are some -/
theorem pur_upd {H : Hp} {o : HO} (hp : PurseAt H p y) (n : l ≠ p) : PurseAt (L2.upd H l o) p y := by
  obtain ⟨x, z, h⟩ := hp
  exact ⟨x, z, by rw [upd_ne (Ne.symm n)]; exact h⟩
theorem fr_updL {H0 H : Hp} {o : HO} (n : H0 l = none) (f : Fr p H0 H) : Fr p H0 (L2.upd H l o) := fun b u hb hu => by
  rw [upd_ne (ne_of_none hu n)]
  exact f b u hb hu
theorem prop_step {H0 : Hp} {vi : V} {ds : List PyData} {wd : Str} (h0 : σ[0]? = some (some (.ref p))) (h2 : σ[2]? = some (some (.int (dep : Nat)))) (hk : σ[k]? = some (some vi)) (h9 : σ[9]? = some (some (.ref l))) (n0 : H0 l = none) (f0 : Fr p H0 H) (hp : PurseAt H p y) (y0 : 0 ≤ y) (y1 : y < 68719476000) (hl : ds.length ≤ 2) (hD : ∀ d ∈ ds, DeD d) (hd : DT H (.tuple ds) vi) (ha : RA H l (r :: rs)) (hsz : rs.length ≤ 90000) (hw : tk wd = kw wd ∧ goodW wd = true ∧ isSg wd = false) (hdep : dep + 1 ≤ 20)
    (kk : ∀ H' y' rs', Fr p H0 H' → PurseAt H' p y' → y ≤ y' → y' ≤ y + 14 → RA H' l ((r :: rs) ++ rs') → WProp wd (dep + 1) ds rs' → D.nx σ H') :
    tIfS (tTest (tOp (rNeD K) (tVar k) (tTup tNil))) (tDrop (tBM K "list" rAppend (tVar 9) (tCons (tLst (tCons (tOp (rI0 fun i j => V.int (i + j)) (tVar 2) (tC (.int 1))) (tCons (tOp rCat (tLst (tCons (tC (.str wd)) tNil)) (tCall spDeedsW [] E (tCons (tVar 0) (tCons (tVar k) tNil)))) tNil))) tNil))) tNext D σ H := by
  have hsh : SeqAt.shaped (.tuple ds) = true := shp_des (m := 4) (by decide) fun x hx => de_shape (hD x hx)
  refine s_if (b := !PyData.eqv (.tuple ds) (.tuple [])) (et_test (ev_neT hk hd (eu_tup ea_nil (by show 0 ≤ 100000; decide)) (fun _ => .nil) hsh (by decide +kernel))) (fun hb H2 e2 => ?_) (fun hb H2 e2 => ?_)
  · have hne : ds ≠ [] := fun e => by
      rw [e] at hb
      simp [PyData.eqv, PyData.eqvAll] at hb
    obtain ⟨a0, vs0, hacc, _⟩ := (ha.ex e2).headR
    refine ⟨.ref l, h9, .inl ⟨rfl, _, sq_of hacc⟩, .int (dep : Nat), h2, (dep : Nat), 1, rfl, rfl, by show 1 ≤ sizeLine; exact sz_of (by decide), fun l1 n1 => ?_⟩
    have e3 : Ex H2 (L2.upd H2 l1 (.lst [.str wd])) := fr_new n1
    have e23 := e2.trans e3
    have hl1 : StrsAt (L2.upd H2 l1 (.lst [.str wd])) l1 [wd] := ⟨upd_same⟩
    revert e3 e23 hl1
    generalize (L2.upd H2 l1 (.lst [.str wd])) = H3
    intro e3 e23 hl1
    have hp3 := hp.ex e23
    refine ⟨.ref p, h0, vi, hk, p, vi, ds, y, rfl, hp3, y0, y1, hne, hl, hD, DT.tf (TF.ex e23) _ _ hd, fun u y2 H4 f4 hp4 m1 m2 rr => ?_⟩
    obtain ⟨lg, wg, rfl, hwg, rg⟩ := rr
    have hl4 := hl1.fr hp3 f4
    have hrg := rg.l
    have ha4 := (ha.ex e23).fr hp3 f4
    refine ⟨l1, lg, _, _, rfl, rfl, hl4.at_, hwg.at_, sz_of (by simp; omega), fun l2 n2 => ⟨by show 2 ≤ sizeLine; exact sz_of (by decide), fun b nb => ?_⟩⟩
    have e5 : Ex H4 (L2.upd H4 l2 (.lst (([wd] : List Str).map V.str ++ wg.map V.str))) := fr_new n2
    have hl2 : StrsAt (L2.upd H4 l2 (.lst (([wd] : List Str).map V.str ++ wg.map V.str))) l2 (wd :: wg) := ⟨by rw [upd_same]; simp⟩
    revert e5 hl2 nb
    generalize (L2.upd H4 l2 (.lst (([wd] : List Str).map V.str ++ wg.map V.str))) = H5
    intro nb e5 hl2
    have e6 : Ex H5 (L2.upd H5 b (.lst [.int ((dep : Nat) + 1), .ref l2])) := fr_new nb
    have hrow : RowV (L2.upd H5 b (.lst [.int ((dep : Nat) + 1), .ref l2])) (dep + 1, wd :: wg) (.ref b) := ⟨b, l2, rfl, upd_same, ⟨e6 _ _ hl2.at_⟩⟩
    have ha6 := ha4.ex (e5.trans e6)
    have hp6 := hp4.ex (e5.trans e6)
    have f6 := (f0.trans (Fr.ex e23)).trans (f4.trans (Fr.ex (e5.trans e6)))
    revert hrow ha6 hp6 f6
    generalize (L2.upd H5 b (.lst [.int ((dep : Nat) + 1), .ref l2])) = H6
    intro hrow ha6 hp6 f6
    obtain ⟨acc, hacc6, hrv⟩ := id ha6
    have hal := hrv.len
    have hlp := ha6.ne hp6
    refine ⟨l, acc, .ref b, rfl, rfl, hacc6, sz_lt (by simp at hal; omega), ?_⟩
    exact kk _ y2 [(dep + 1, wd :: wg)] (fr_updL n0 f6) (pur_upd hp6 hlp) m1 m2 (ha6.snoc hacc6 hrow) (.yes rg hl hne hw hdep)
  · have hnil : ds = [] := by
      cases ds with
      | nil => rfl
      | cons a b => simp [PyData.eqv, PyData.eqvAll] at hb
    refine kk H2 y [] (f0.trans (Fr.ex e2)) (hp.ex e2) (Int.le_refl _) (by omega) (by rw [List.append_nil]; exact ha.ex e2) ?_
    rw [hnil]
    exact .no
end
end Prs
set_option Elab.async false
set_option linter.all false
set_option maxRecDepth 100000
set_option maxHeartbeats 4000000
namespace Prs
open PySem PySem.Spec PyProof.Rows L2 Evl
def sbW : Nat → Int
  | 0 => 0
  | n + 1 => 210 + 4 * sbW n
theorem sbW_nn : ∀ n, 0 ≤ sbW n
  | 0 => by unfold sbW; omega
  | n + 1 => by
    have := sbW_nn n
    unfold sbW
    omega
def WrAtR (R : List WR → Prop) (H : Hp) (v : V) : Prop := ∃ l r rs, v = .ref l ∧ RA H l (r :: rs) ∧ R (r :: rs)
abbrev cinto : Str := "into"
abbrev cout : Str := "out"
section
variable {P : Program} {w : World} {K : PySem.W.Frag} {mg : Str → Option Value} {base : Heap}
def spStandW (n : Nat) : Sp := fun vs H Q _ => ∃ (p : Addr) (v : V) (d : PyData) (so : Str) (D : Nat) (y : Int), vs = [.ref p, v, .int (D : Nat)] ∧ PurseAt H p y ∧ 0 ≤ y ∧ y + sbW n < 68719470000 ∧ n ≤ 6 ∧ D + n ≤ 20 ∧ StD n so d ∧ DT H d v ∧ Drawn p y (sbW n) H (WrAtR fun rs => WSt n D d rs ∧ ∃ x rest, x ∈ NAMES ∧ rs = (D, [so, x]) :: rest) Q
abbrev NS : List Str := ["_law_purse_here", "_law_stand", "_law_depth", "_law_name", "_law_sort", "_law_parts", "_law_into", "_law_out", "_law_moves", "_law_found", "_law_move_here", "_law_part"]
theorem scStandW : FnScope NS ["_law_purse_here", "_law_stand", "_law_depth"] (defScope lStandW) := ⟨rfl, rfl, rfl, by decide +kernel, rfl, by decide +kernel, by decide +kernel⟩
theorem rbn_le : ∀ {n : Nat}, n ≤ 6 → rbn n ≤ 6825 := fun {n} h => by
  rcases (by omega : n = 0 ∨ n = 1 ∨ n = 2 ∨ n = 3 ∨ n = 4 ∨ n = 5 ∨ n = 6) with rfl | rfl | rfl | rfl | rfl | rfl | rfl <;> decide
set_option maxHeartbeats 0 in
theorem ok_standW (gs : mg "str" = none) (gl : mg "list" = none) (gi : mg "int" = none) (ge : mg "enumerate" = none) (D : Df K mg "_law_stand_rows" lStandW ["_law_purse_here", "_law_stand", "_law_depth"]) (DMv : Df K mg "_law_move_words" lMoveW ["_law_purse_here", "_law_move_here"]) (DG : Df K mg "_law_guard_words" lGuardW ["_law_purse_here", "_law_guard_here"]) (DD : Df K mg "_law_deeds_words" lDeedsW ["_law_purse_here", "_law_deeds_here"]) (DT' : Df K mg "_law_term_words" lTermW ["_law_purse_here", "_law_term_here"]) (DA : Df K mg "_law_around" lAround ["_law_purse_here", "_law_words", "_law_wanted"]) (DK : Df K mg "_law_take" lTake ["_law_purse_here", "_law_far"]) (DM : Df K mg "_law_mixed" lMixed ["_law_cell", "_law_k"]) :
    ∀ n, FnOk P w K mg base CX0 (9 + n) D.f D.fd ["_law_purse_here", "_law_stand", "_law_depth"] (spStandW n)
  | 0 => by
    refine ⟨fun vs H Q E h => ?_, fun A outer s H args us vs Q E _ _ _ _ h => ?_⟩
    · obtain ⟨p, v, d, so, dd, y, rfl, _⟩ := h
      rfl
    · obtain ⟨p, v, d, so, dd, y, rfl, _, _, _, _, _, hs, _⟩ := h
      exact hs.elim
  | n + 1 => by
    have GS := ok_standW gs gl gi ge D DMv DG DD DT' DA DK DM n
    have GM : FnOk P w K mg base CX0 9 DMv.f DMv.fd ["_law_purse_here", "_law_move_here"] spMoveW := ok_moveW gs gl gi ge DMv DG DD DT' DA DK DM
    have GD : FnOk P w K mg base CX0 7 DD.f DD.fd ["_law_purse_here", "_law_deeds_here"] spDeedsW := ok_deedsW gs gl DD DT' DA DK DM
    refine D.F.ok scStandW (fun vs H Q E h => ?_) (fun cdv A outer s H vs Q E hr h => ?_)
    · obtain ⟨p, v, d, so, dd, y, rfl, _⟩ := h
      rfl
    · obtain ⟨p, v, d, so, dep, y, rfl, hp, y0, y1, hn, hdep, hst, hd, q⟩ := h
      have hr7 : Room 7 _ := hr.mono (show 7 ≤ 9 + n by omega)
      have hr9 : Room 9 _ := hr.mono (show 9 ≤ 9 + n by omega)
      have sn := sbW_nn n
      have se : sbW (n + 1) = 210 + 4 * sbW n := rfl
      refine ⟨_, pss_cons (ps_asg (pv 1) (pg_tup rfl (pgs_cons (pg_name (i := 3) scStandW.nd rfl (.inl rfl)) (pgs_cons (pg_name (i := 4) scStandW.nd rfl (.inl rfl)) (pgs_cons (pg_name (i := 5) scStandW.nd rfl (.inl rfl)) (pgs_cons (pg_name (i := 6) scStandW.nd rfl (.inl rfl)) (pgs_cons (pg_name (i := 7) scStandW.nd rfl (.inl rfl)) (pgs_cons (pg_name (i := 8) scStandW.nd rfl (.inl rfl)) pgs_nil))))))))
        (pss_cons (ps_set (i := 9) scStandW.nd rfl (.inl rfl) (pe_lst (pa_cons (pe_lst (pa_cons (pv 2) (pa_cons (pe_lst (pa_cons (pv 4) (pa_cons (pv 3) pa_nil))) pa_nil))) pa_nil)))
        (pss_cut (ps_if (pt_cmpR (op_neD hr.units) (pv 6) (pe_tup pa_nil) (nomark _)) (pss_one (ps_expr (pe_bm PySem.F.plainAttrs_list PySem.F.slot_list_append PySem.F.type_list_append mt_append (pv 9) (pa_cons (pe_lst (pa_cons (pe_op op_add (pv 2) pe_int) (pa_cons (pe_op op_cat (pe_lst (pa_cons pe_str pa_nil)) (pe_call GD hr7 rfl DD.m DD.F.kp DD.b .nil pass0 (pa_cons (pv 0) (pa_cons (pv 6) pa_nil)))) pa_nil))) pa_nil)))) pss_nil)
        (pss_cut (ps_if (pt_cmpR (op_neD hr.units) (pv 7) (pe_tup pa_nil) (nomark _)) (pss_one (ps_expr (pe_bm PySem.F.plainAttrs_list PySem.F.slot_list_append PySem.F.type_list_append mt_append (pv 9) (pa_cons (pe_lst (pa_cons (pe_op op_add (pv 2) pe_int) (pa_cons (pe_op op_cat (pe_lst (pa_cons pe_str pa_nil)) (pe_call GD hr7 rfl DD.m DD.F.kp DD.b .nil pass0 (pa_cons (pv 0) (pa_cons (pv 7) pa_nil)))) pa_nil))) pa_nil)))) pss_nil)
        (pss_cons (ps_for PassesOwn.never rfl (pi_tup (pv 8)) (pg_name (i := 10) scStandW.nd rfl (.inl rfl))
          (pss_one (ps_expr (pe_bm PySem.F.plainAttrs_list PySem.F.slot_list_append PySem.F.type_list_append mt_append (pv 9) (pa_cons (pe_lst (pa_cons (pe_op op_add (pv 2) pe_int) (pa_cons (pe_call GM hr9 rfl DMv.m DMv.F.kp DMv.b .nil pass0 (pa_cons (pv 0) (pa_cons (pv 10) pa_nil))) pa_nil))) pa_nil)))))
        (pss_cons (ps_for PassesOwn.never rfl (pi_tup (pv 5)) (pg_name (i := 11) scStandW.nd rfl (.inl rfl))
          (pss_one (ps_set (i := 9) scStandW.nd rfl (.inl rfl) (pe_op op_cat (pv 9) (pe_call GS hr rfl D.m D.F.kp D.b .nil pass0 (pa_cons (pv 0) (pa_cons (pv 11) (pa_cons (pe_op op_add (pv 2) pe_int) pa_nil))))))))
        (pss_one (ps_ret (pv 9)))))))), ?_⟩
      obtain ⟨x, ds, di, dou, ms, rfl, hx, hso, hds, hdl, hfull, il, iD, ol, oD, hms, hml, hmark⟩ := st_form hst
      obtain ⟨ma, mvs, rfl, hma, k1⟩ := dtT hd
      obtain ⟨vx, r1, rfl, dx, k2⟩ := dtsC k1
      obtain ⟨vs', r2, rfl, dsx, k3⟩ := dtsC k2
      obtain ⟨vk, r3, rfl, dk, k4⟩ := dtsC k3
      obtain ⟨vi, r4, rfl, dvi, k5⟩ := dtsC k4
      obtain ⟨vo, r5, rfl, dvo, k6⟩ := dtsC k5
      obtain ⟨vm, r6, rfl, dvm, k7⟩ := dtsC k6
      have k8 := dtsN k7
      subst k8
      have := dtS dx
      subst this
      have := dtS dsx
      subst this
      refine ⟨.ref ma, rfl, ma, _, rfl, st_of hma, rfl, .str x, _, rfl, .str so, _, rfl, vk, _, rfl, vi, _, rfl, vo, _, rfl, vm, _, rfl, rfl, ?_⟩
      refine ⟨.int (dep : Nat), rfl, .str so, rfl, .str x, rfl, by show 2 ≤ sizeLine; exact sz_of (by decide), fun wl nwl => ⟨by show 2 ≤ sizeLine; exact sz_of (by decide), fun b nb => ⟨by show 1 ≤ sizeLine; exact sz_of (by decide), fun l nl => ?_⟩⟩⟩
      have e1 := fr_new (o := .lst [.str so, .str x]) nwl
      have e2 := fr_new (o := .lst [.int (dep : Nat), .ref wl]) nb
      have e3 := fr_new (o := .lst [.ref b]) nl
      have hRA : RA (L2.upd (L2.upd (L2.upd H wl (.lst [.str so, .str x])) b (.lst [.int (dep : Nat), .ref wl])) l (.lst [.ref b])) l [(dep, [so, x])] := ⟨[.ref b], upd_same, .ref b, [], rfl, ⟨b, wl, rfl, e3 _ _ upd_same, ⟨e3 _ _ (e2 _ _ upd_same)⟩⟩, rfl⟩
      have e13 := e1.trans (e2.trans e3)
      have nlH : H l = none := fresh_back (e1.trans e2) nl
      revert hRA e13
      clear e1 e2 e3 nl nb nwl
      generalize (L2.upd (L2.upd (L2.upd H wl (.lst [.str so, .str x])) b (.lst [.int (dep : Nat), .ref wl])) l (.lst [.ref b])) = H1
      intro hRA e1
      have hp1 := hp.ex e1
      have rb := rbn_le (n := n) (by omega)
      have tfH : ∀ {Hx : Hp}, Fr p H Hx → TF H Hx := fun f => PurseAt.tf hp f
      refine Evl.q_cut (M := fun σ' H' => ∃ y' ri, Fr p H H' ∧ PurseAt H' p y' ∧ y ≤ y' ∧ y' ≤ y + 14 ∧ σ' = [some (.ref p), some (.ref ma), some (.int (dep : Nat)), some (.str x), some (.str so), some vk, some vi, some vo, some vm, some (.ref l), none, none] ∧ RA H' l ((dep, [so, x]) :: ri) ∧ WProp "into" (dep + 1) di ri) (prop_step (K := K) (wd := "into") (H0 := H) rfl rfl (k := 6) rfl rfl nlH (Fr.ex e1) hp1 y0 (by omega) il iD (DT.tf (TF.ex e1) _ _ dvi) hRA (by simp) ⟨by decide +kernel, by decide +kernel, by decide +kernel⟩ (by omega) fun H' y' rs' f hpp m1 m2 hra wp => ⟨y', rs', f, hpp, m1, m2, rfl, hra, wp⟩) (fun σ' H' z => ?_)
      obtain ⟨y2, ri, f2, hp2, l1, l2, rfl, ha2, wpi⟩ := z
      have ril := wpi.l
      refine Evl.q_cut (M := fun σ' H' => ∃ y' ro, Fr p H H' ∧ PurseAt H' p y' ∧ y ≤ y' ∧ y' ≤ y + 28 ∧ σ' = [some (.ref p), some (.ref ma), some (.int (dep : Nat)), some (.str x), some (.str so), some vk, some vi, some vo, some vm, some (.ref l), none, none] ∧ RA H' l ((dep, [so, x]) :: (ri ++ ro)) ∧ WProp "out" (dep + 1) dou ro) (prop_step (K := K) (wd := "out") (H0 := H) rfl rfl (k := 7) rfl rfl nlH f2 hp2 (by omega) (by omega) ol oD (DT.tf (tfH f2) _ _ dvo) ha2 (by omega) ⟨by decide +kernel, by decide +kernel, by decide +kernel⟩ (by omega) fun H' y' rs' f hpp m1 m2 hra wp => ⟨y', rs', f, hpp, by omega, by omega, rfl, hra, wp⟩) (fun σ' H' z => ?_)
      clear l1 l2 hp2 f2 ha2 y2
      obtain ⟨y2, ro, f2, hp2, l1, l2, rfl, ha2, wpo⟩ := z
      have rol := wpo.l
      obtain ⟨va, mv, rfl, hva, hmv⟩ := dtT dvm
      have hmvl := dts_len hmv
      have hva2 := tfH f2 _ _ hva
      refine q_forT (K := K) (a := va) (xs := mv) (ev_var rfl) (st_of hva2) (fun i σ H' => Fr p H H' ∧ ∃ (y' : Int) (rm : List WR) (v10 : Option V), PurseAt H' p y' ∧ y ≤ y' ∧ y' ≤ y + 28 + 90 * i ∧ σ = [some (.ref p), some (.ref ma), some (.int (dep : Nat)), some (.str x), some (.str so), some vk, some vi, some vo, some (.ref va), some (.ref l), v10, none] ∧ RA H' l ((dep, [so, x]) :: (ri ++ (ro ++ rm))) ∧ WMvs (dep + 1) (ms.take i) rm) (fun H' e => ⟨f2.trans (Fr.ex e), y2, [], none, hp2.ex e, l1, by simpa using l2, rfl, by rw [List.append_nil]; exact ha2.ex e, by rw [List.take_zero]; exact .nil⟩) (fun i σ H' _ z => st_of (tfH z.1 _ _ hva)) (fun i v σ H' hi z => ?_) (fun σ H' z => ?_)
      · obtain ⟨f3, y3, rm, v10, hp3, m1, m2, rfl, ha3, wm⟩ := z
        obtain ⟨d, hd1, hd2⟩ := dts_get hmv hi
        have hil := (List.getElem?_eq_some_iff.mp hd1).1
        have rml := wm.l
        rw [List.length_take] at rml
        obtain ⟨a0, vs0, hacc, _⟩ := ha3.headR
        refine ⟨.ref l, rfl, .inl ⟨rfl, _, sq_of hacc⟩, .int (dep : Nat), rfl, (dep : Nat), 1, rfl, rfl, .ref p, rfl, v, rfl, p, v, d, y3, rfl, hp3, by omega, by omega, hms d (List.mem_of_getElem? hd1), DT.tf (tfH f3) _ _ hd2, fun u y4 H4 f4 hp4 m3 m4 rr => ?_⟩
        obtain ⟨lg, wg0, rfl, hwg, wg, rfl, rg⟩ := rr
        have ha4 := ha3.fr hp3 f4
        refine ⟨by show 2 ≤ sizeLine; exact sz_of (by decide), fun b nb => ?_⟩
        have e6 : Ex H4 (L2.upd H4 b (.lst [.int ((dep : Nat) + 1), .ref lg])) := fr_new nb
        have hrow : RowV (L2.upd H4 b (.lst [.int ((dep : Nat) + 1), .ref lg])) (dep + 1, cgo :: wg) (.ref b) := ⟨b, lg, rfl, upd_same, ⟨e6 _ _ hwg.at_⟩⟩
        have ha6 := ha4.ex e6
        have hp6 := hp4.ex e6
        have f6 := (f3.trans f4).trans (Fr.ex e6)
        revert hrow ha6 hp6 f6
        generalize (L2.upd H4 b (.lst [.int ((dep : Nat) + 1), .ref lg])) = H6
        intro hrow ha6 hp6 f6
        obtain ⟨acc, hacc6, hrv⟩ := id ha6
        have hal := hrv.len
        have hlp := ha6.ne hp6
        refine ⟨l, acc, .ref b, rfl, rfl, hacc6, sz_lt (by simp at hal; omega), ?_⟩
        refine ⟨fr_updL nlH f6, y4, rm ++ [(dep + 1, cgo :: wg)], _, pur_upd hp6 hlp, by omega, by push_cast; omega, rfl, ?_, ?_⟩
        · have := ha6.snoc hacc6 hrow
          simpa using this
        · rw [List.take_add_one, hd1]
          exact wm.snoc rg (by omega)
      · obtain ⟨f3, y3, rm, v10, hp3, m1, m2, rfl, ha3, wm⟩ := z
        rw [hmvl, List.take_length] at wm
        rw [hmvl] at m2
        have rml := wm.l
        obtain ⟨ka, kv, rfl, hka, hkv⟩ := dtT dk
        have hkvl := dts_len hkv
        have hka3 := tfH f3 _ _ hka
        refine q_forT (K := K) (a := ka) (xs := kv) (ev_var rfl) (st_of hka3) (fun i σ H' => Fr p H H' ∧ ∃ (y' : Int) (lc : Addr) (rk : List WR) (v11 : Option V), PurseAt H' p y' ∧ y ≤ y' ∧ y' ≤ y + 210 + sbW n * i ∧ σ = [some (.ref p), some (.ref ma), some (.int (dep : Nat)), some (.str x), some (.str so), some (.ref ka), some vi, some vo, some (.ref va), some (.ref lc), v10, v11] ∧ RA H' lc ((dep, [so, x]) :: (ri ++ (ro ++ (rm ++ rk)))) ∧ WKs n (dep + 1) (ds.take i) rk) (fun H' e => ⟨f3.trans (Fr.ex e), y3, l, [], none, hp3.ex e, m1, by simp; omega, rfl, by rw [List.append_nil]; exact ha3.ex e, by rw [List.take_zero]; exact .nil⟩) (fun i σ H' _ z => st_of (tfH z.1 _ _ hka)) (fun i v σ H' hi z => ?_) (fun σ H' z => ?_)
        · obtain ⟨f4, y4, lc, rk, v11, hp4, m3, m4, rfl, ha4, wk⟩ := z
          obtain ⟨d, hd1, hd2⟩ := dts_get hkv hi
          have hil := (List.getElem?_eq_some_iff.mp hd1).1
          obtain ⟨s1, hs1⟩ := hds d (List.mem_of_getElem? hd1)
          have rkl := wk.l
          rw [List.length_take] at rkl
          have hi3 : i ≤ 3 := by omega
          have hsb : sbW n * i ≤ sbW n * 3 := Int.mul_le_mul_of_nonneg_left (by omega) sn
          have hrk : rbn n * min i ds.length ≤ 6825 * 3 := Nat.mul_le_mul rb (by omega)
          refine ⟨.ref lc, rfl, .ref p, rfl, v, rfl, .int (dep : Nat), rfl, (dep : Nat), 1, rfl, rfl, p, v, d, s1, dep + 1, y4, rfl, hp4, by omega, by omega, by omega, by omega, hs1, DT.tf (tfH f4) _ _ hd2, fun u y5 H5 f5 hp5 m5 m6 rr => ?_⟩
          obtain ⟨lg, r0, rs0, rfl, hra, wst, _⟩ := rr
          have ha5 := ha4.fr hp4 f5
          obtain ⟨v1, h1, g1⟩ := id ha5
          obtain ⟨v2, h2, g2⟩ := id hra
          have q1 := g1.len
          have q2 := g2.len
          have q3 := wst.l
          refine ⟨lc, lg, v1, v2, rfl, rfl, h1, h2, sz_of (by simp at q1 q2 q3; omega), fun l9 n9 => ?_⟩
          have e6 : Ex H5 (L2.upd H5 l9 (.lst (v1 ++ v2))) := fr_new n9
          refine ⟨(f4.trans f5).trans (Fr.ex e6), y5, l9, rk ++ (r0 :: rs0), _, hp5.ex e6, by omega, ?_, rfl, ⟨v1 ++ v2, upd_same, ?_⟩, ?_⟩
          · have : sbW n * ((i + 1 : Nat) : Int) = sbW n * i + sbW n := by
              push_cast
              rw [Int.mul_add, Int.mul_one]
            rw [this]
            omega
          · have := (g1.append g2).map (H' := L2.upd H5 l9 (.lst (v1 ++ v2))) fun _ _ => RowV.ex e6
            simpa using this
          · rw [List.take_add_one, hd1]
            exact wk.snoc wst
        · obtain ⟨f4, y4, lc, rk, v11, hp4, m3, m4, rfl, ha4, wk⟩ := z
          rw [hkvl, List.take_length] at wk
          rw [hkvl] at m4
          have hsb : sbW n * (ds.length : Nat) ≤ sbW n * 4 := Int.mul_le_mul_of_nonneg_left (by omega) sn
          exact ⟨.ref lc, rfl, q _ y4 _ f4 hp4 m3 (by omega) ⟨lc, _, _, rfl, ha4, WSt.mk' hx hso hfull hmark wpi wpo wm wk hdl hml (by omega), x, _, hx, rfl⟩⟩
end
end Prs
set_option Elab.async false
set_option linter.all false
set_option maxRecDepth 100000
set_option maxHeartbeats 4000000
namespace Prs
open PySem PySem.Spec PyProof.Rows L2 Evl
abbrev lChartW : Stmt := top 79
/-! ### rows, none at the start -/
def Refs (vs : List V) : Prop := ∀ v ∈ vs, ∃ a, v = .ref a
theorem RowVs.refs {H : Hp} : ∀ {rs : List WR} {vs : List V}, RowVs H rs vs → Refs vs
  | [], vs, h => by
    have : vs = [] := h
    rw [this]
    exact fun _ h => by cases h
  | r :: rs, vs, ⟨v, t, e, h1, h2⟩ => by
    subst e
    intro u hu
    rcases List.mem_cons.mp hu with q | q
    · obtain ⟨b, wl, e, _⟩ := h1
      exact ⟨b, q.trans e⟩
    · exact h2.refs u q
theorem RowV.updG {H : Hp} {l : Addr} {vs : List V} {o : HO} (hl : H l = some (.lst vs)) (hv : Refs vs) {r : WR} {v : V} (hr : r.2 ≠ []) (h : RowV H r v) : RowV (L2.upd H l o) r v := by
  obtain ⟨b, wl, rfl, h1, h2⟩ := h
  refine ⟨b, wl, rfl, ?_, ⟨?_⟩⟩
  · rw [upd_ne (fun z => ?_)]
    · exact h1
    · rw [z, hl] at h1
      have h4 := HO.lst.inj (Option.some.inj h1)
      obtain ⟨a, e⟩ := hv (.int (r.1 : Nat)) (by rw [h4]; simp)
      cases e
  · have h3 := h2.at_
    rw [upd_ne (fun z => ?_)]
    · exact h3
    · rw [z, hl] at h3
      have h4 := HO.lst.inj (Option.some.inj h3)
      cases hq : r.2 with
      | nil => exact hr hq
      | cons s t =>
        rw [hq] at h4
        obtain ⟨a, e⟩ := hv (.str s) (by rw [h4]; simp)
        cases e
theorem RowVs.updG {H : Hp} {l : Addr} {us : List V} {o : HO} (hl : H l = some (.lst us)) (hv : Refs us) : ∀ {rs : List WR} {vs : List V}, (∀ r ∈ rs, r.2 ≠ []) → RowVs H rs vs → RowVs (L2.upd H l o) rs vs
  | [], _, _, h => h
  | r :: rs, vs, ok, ⟨v, t, e, h1, h2⟩ => ⟨v, t, e, h1.updG hl hv (ok r List.mem_cons_self), RowVs.updG hl hv (fun q hq => ok q (List.mem_cons_of_mem _ hq)) h2⟩
theorem RA.neG {H : Hp} {p l : Addr} {y : Int} (hp : PurseAt H p y) {rs : List WR} (h : RA H l rs) : l ≠ p := fun z => by
  obtain ⟨vs, h1, h2⟩ := h
  obtain ⟨x, w, hpp⟩ := hp
  rw [z, hpp] at h1
  have h4 := HO.lst.inj (Option.some.inj h1)
  obtain ⟨a, e⟩ := h2.refs (.int x) (by rw [← h4]; simp)
  cases e
theorem RA.frG {H H' : Hp} {p : Addr} {y : Int} (hp : PurseAt H p y) (f : Fr p H H') {l : Addr} {rs : List WR} (h : RA H l rs) : RA H' l rs := by
  have n := h.neG hp
  obtain ⟨vs, h1, h2⟩ := h
  exact ⟨vs, f _ _ n h1, h2.map fun _ _ => RowV.fr hp f⟩
theorem RA.snocG {H : Hp} {l : Addr} {rs : List WR} {acc : List V} (h : RA H l rs) (ok : ∀ r ∈ rs, r.2 ≠ []) (ha : H l = some (.lst acc)) {q : WR} {v : V} (hq : q.2 ≠ []) (hv : RowV H q v) : RA (L2.upd H l (.lst (acc ++ [v]))) l (rs ++ [q]) := by
  obtain ⟨vs, h1, h2⟩ := h
  have e : acc = vs := HO.lst.inj (Option.some.inj (ha.symm.trans h1))
  subst e
  exact ⟨_, upd_same, RowVs.append (h2.updG h1 h2.refs ok) ⟨v, [], rfl, hv.updG h1 h2.refs hq, rfl⟩⟩
/-! ### numbers with their signs -/
def nS (n : Int) : Str := Str.ofString (toString n)
def sgWs (n : Int) : List Str := if 0 ≤ n then [nS n] else ["-", nS (-n)]
theorem nums40 : ((List.range 100).all fun k => numOk (k : Int)) = true := nums99
theorem num40 {i : Int} (h1 : 0 ≤ i) (h2 : i ≤ 40) : numOk i = true := by
  obtain ⟨k, rfl⟩ := Int.eq_ofNat_of_zero_le h1
  exact List.all_eq_true.mp nums40 k (List.mem_range.mpr (by omega))
theorem sg_ok {n : Int} (h1 : -40 ≤ n) (h2 : n ≤ 40) : SgW (.int n) ((sgWs n).map tk) ∧ allGood (sgWs n) ∧ (sgWs n).length ≤ 2 := by
  unfold sgWs
  by_cases h : 0 ≤ n
  · have g := numTk (num40 h h2)
    rw [if_pos h]
    refine ⟨?_, fun z hz => ?_, by simp⟩
    · show SgW (.int n) [tk (nS n)]
      unfold nS
      rw [g.2.1]
      exact .pos g.2.2.1
    · obtain rfl := List.mem_singleton.mp hz
      exact g.1
  · have g := numTk (num40 (i := -n) (by omega) (by omega))
    rw [if_neg h]
    refine ⟨?_, fun z hz => ?_, by simp⟩
    · have e : tk "-" = kw "-" := by decide +kernel
      show SgW (.int n) [tk "-", tk (nS (-n))]
      unfold nS
      rw [g.2.1, e]
      have := SgW.neg g.2.2.1
      rw [Int.neg_neg] at this
      exact this
    · simp only [List.mem_cons, List.not_mem_nil, or_false] at hz
      rcases hz with rfl | rfl
      · decide +kernel
      · exact g.1
theorem log_ok {n : Int} (h1 : -40 ≤ n) (h2 : n ≤ 40) : n.natAbs.log2 < 1920 := by
  have : n.natAbs.log2 ≤ n.natAbs := Nat.log2_le_self _
  omega
theorem el_slN {K : PySem.W.Frag} {σ : L2.St} {H : Hp} {te : TE} {tl th : TO} {xs : List V} {lo hi : Option Int} (h : EvL te σ H xs) (h1 : ∀ H1, Ex H H1 → EvO tl σ H1 lo) (h2 : ∀ H1, Ex H H1 → EvO th σ H1 hi) : EvL (tSl (rSlL K) te tl th) σ H (cutV xs lo hi) := fun H1 e _ q =>
  h H1 e _ fun a H2 _ e2 ha => h1 H2 (e.trans e2) H2 (Ex.refl H2) _ fun H3 e3 => h2 H3 ((e.trans e2).trans e3) H3 (Ex.refl H3) _ fun H4 e4 =>
    ⟨a, xs, rfl, sq_of (e4 _ _ (e3 _ _ ha)), fun p hp => q p _ (fresh_back ((e2.trans e3).trans e4) hp) (((e2.trans e3).trans e4).trans (Ex.new hp)) upd_same⟩
abbrev cfact : Str := "fact"
abbrev con : Str := "on"
structure WHd (fs hs : List PyData) (rs : List WR) : Prop where
  k : ∀ f o, HeadW fs hs (nRS f o rs)
  ok : RowsOk rs
  l : rs.length ≤ fs.length + hs.length
theorem WHd.nil : WHd [] [] [] := ⟨fun _ _ => .nil, (fun _ h => by cases h), by simp⟩
theorem WHd.fact {fs : List PyData} {rs : List WR} {x : Str} {a b c : Int} (h : WHd fs [] rs) (hx : x ∈ FACTS) (a1 : -40 ≤ a) (a2 : a ≤ 40) (b1 : -40 ≤ b) (b2 : b ≤ 40) (c1 : -40 ≤ c) (c2 : c ≤ 40) : WHd (fs ++ [.tuple [.str x, .int a, .int b, .int c]]) [] (rs ++ [(0, cfact :: x :: (sgWs a ++ (sgWs b ++ sgWs c)))]) := by
  have gx := wordG factsG_ok hx
  have ga := sg_ok a1 a2
  have gb := sg_ok b1 b2
  have gc := sg_ok c1 c2
  refine ⟨fun f o => ?_, h.ok.append fun r hr => ?_, ?_⟩
  · rw [nRS_app]
    have e : tk cfact = kw "fact" := by decide +kernel
    simp only [nRS, List.map_cons, List.map_append, e, gx.2]
    exact .fact (h.k f o) (.mk ga.1 gb.1 gc.1)
  · obtain rfl := List.mem_singleton.mp hr
    have l1 := ga.2.2
    have l2 := gb.2.2
    have l3 := gc.2.2
    refine ⟨by show (!isSg cfact) = true; decide +kernel, fun z hz => ?_, by simp only [List.length_cons, List.length_append]; omega, Nat.zero_le _⟩
    simp only [List.mem_cons, List.mem_append] at hz
    rcases hz with rfl | rfl | q | q | q
    · decide +kernel
    · exact gx.1
    · exact ga.2.1 z q
    · exact gb.2.1 z q
    · exact gc.2.1 z q
  · have := h.l
    simp only [List.length_append, List.length_singleton, List.length_nil] at this ⊢
    omega
theorem WHd.on {fs hs : List PyData} {rs : List WR} {x : Str} (h : WHd fs hs rs) (hx : x ∈ ONS) : WHd fs (hs ++ [.str x]) (rs ++ [(0, [con, x])]) := by
  have gx := wordG onsG_ok hx
  refine ⟨fun f o => ?_, h.ok.append fun r hr => ?_, ?_⟩
  · rw [nRS_app]
    have e : tk con = kw "on" := by decide +kernel
    simp only [nRS, List.map_cons, List.map_nil, e, gx.2]
    exact .on (h.k f o)
  · obtain rfl := List.mem_singleton.mp hr
    refine ⟨by show (!isSg con) = true; decide +kernel, fun z hz => ?_, by simp, Nat.zero_le _⟩
    simp only [List.mem_cons, List.not_mem_nil, or_false] at hz
    rcases hz with rfl | rfl
    · decide +kernel
    · exact gx.1
  · have := h.l
    simp only [List.length_append, List.length_singleton]
    omega
structure WCh (d : PyData) (rs : List WR) : Prop where
  k : ∀ f o, ∃ pls, ChW 10 4 d pls (nRS f o rs)
  ok : RowsOk rs
  l : rs.length ≤ 431
theorem WCh.mk' {fs : List PyData} {os : List Str} {so x : Str} {d : PyData} {rh rest : List WR} (h : WHd fs (os.map PyData.str) rh) (hf : fs.length ≤ 3) (ho : os.length ≤ 3) (hs : isFull so) (hx : x ∈ NAMES) (q : WSt 4 0 d ((0, [so, x]) :: rest)) : WCh (.tuple [.tuple fs, .tuple (os.map PyData.str), d]) (rh ++ ((0, [so, x]) :: rest)) := by
  have hso : so ∈ SORTSs ∧ ¬ isMark so := by
    rcases full_cases hs with rfl | rfl <;> exact ⟨by decide +kernel, by decide +kernel⟩
  have e1 := (sortTk hso.1).1
  have e2 := (nameG hx).2
  refine ⟨fun f o => ?_, h.ok.append q.ok, ?_⟩
  · obtain ⟨pls, hk⟩ := q.k f (o + rh.length)
    rw [nRS_app]
    simp only [nRS, List.map_cons, List.map_nil, e1, e2] at hk ⊢
    exact ⟨pls, .mk (h.k f o) (by omega) (by rw [List.length_map]; omega) hk hso.2⟩
  · have l1 := h.l
    have l2 := q.l
    have l3 : rbn 4 = 425 := rfl
    rw [List.length_map] at l1
    rw [List.length_append]
    omega
end Prs
set_option Elab.async false
set_option linter.all false
set_option maxRecDepth 100000
set_option maxHeartbeats 4000000
namespace Prs
open PySem PySem.Spec PyProof.Rows L2 Evl
theorem q_forU {K : PySem.W.Frag} {σ : L2.St} {H : Hp} {D : Ends} {te : TE} {g : TG} {tu tz : TS} {xs : List V} (h : EvU te σ H xs) (Pv : Addr → Nat → L2.St → Hp → Prop) (h0 : ∀ p H1, H p = none → Ex H H1 → H1 p = some (.tup xs) → Pv p 0 σ H1) (hl : ∀ p i σ' H', Pv p i σ' H' → SqT K H' p xs)
    (hs : ∀ p i x σ' H', xs[i]? = some x → Pv p i σ' H' → g x σ' H' fun σ2 H2 => tu { D with nx := Pv p (i + 1), ct := Pv p (i + 1), bk := tz D } σ2 H2) (hd : ∀ p σ' H', Pv p xs.length σ' H' → tz D σ' H') : tSeq (tFor (iTup K te) g tu) tz D σ H :=
  h H (Ex.refl H) _ fun p H1 n e hp => ⟨p, rfl, ⟨_, st_of hp⟩, for_tup (D := { D with nx := tz D }) (Pv p) (h0 p H1 n e hp) (fun i σ' H' _ z => hl p i σ' H' z) (hs p) (hd p)⟩
theorem sg_len (n : Int) : (sgWs n).length ≤ 2 := by
  unfold sgWs
  split <;> simp
abbrev rStrB : List V → Hp → VK → Prop := fun xs H Q => (∃ i, xs = [V.int i] ∧ i.natAbs.log2 < 1920 ∧ Q (.str (toString i)) H) ∨ ∃ a, xs = [V.str a] ∧ Q (.str a) H
abbrev rInt1 : List V → Hp → VK → Prop := fun xs H Q => (∃ i, xs = [V.int i] ∧ Q (.int i) H) ∨ ∃ k, xs = [V.bl k] ∧ Q (.int (if k then 1 else 0)) H
theorem el_sg {K : PySem.W.Frag} {σ : L2.St} {H : Hp} {nn : Int} {l : Addr} {ws : List Str} (h10 : σ[10]? = some (some (.ref l))) (h11 : σ[11]? = some (some (.int nn))) (hl : StrsAt H l ws) (hz : ws.length ≤ 9000) (b1 : -40 ≤ nn) (b2 : nn ≤ 40) :
    EvL (tOp rCat (tOp rCat (tVar 10) (tSl (rSlL K) (tLst (tCons (tC (.str "-")) (tCons (tCB rStrB (tCons (tOp (rI0 fun i j => V.int (i - j)) (tC (.int 0)) (tVar 11)) tNil)) tNil))) (tPart (tOp (rI CMul fun i j => V.int (i * j)) (tCB rInt1 (tCons (tOp (rI0 fun i j => V.bl (decide (i ≥ j))) (tVar 11) (tC (.int 0))) tNil)) (tC (.int 2)))) tNoPart)) (tOp rRep (tLst (tCons (tCB rStrB (tCons (tVar 11) tNil)) tNil)) (tCB rInt1 (tCons (tOp (rI0 fun i j => V.bl (decide (i ≥ j))) (tVar 11) (tC (.int 0))) tNil)))) σ H ((ws ++ sgWs nn).map V.str) := by
  have evb : ∀ Hx, Ev (tCB rInt1 (tCons (tOp (rI0 fun i j => V.bl (decide (i ≥ j))) (tVar 11) (tC (.int 0))) tNil)) σ Hx (.int (if decide (nn ≥ 0) = true then 1 else 0)) := fun Hx => ev_cb (ea_cons (ev_op (ev_var h11) ev_c rv_I0) ea_nil) (fun H7 _ Q q => .inr ⟨_, rfl, q H7 (Ex.refl H7)⟩)
  have s0 : ∀ Hx, EvL (tLst (tCons (tC (.str "-")) (tCons (tCB rStrB (tCons (tOp (rI0 fun i j => V.int (i - j)) (tC (.int 0)) (tVar 11)) tNil)) tNil))) σ Hx [V.str "-", V.str (nS (0 - nn))] := fun Hx => el_lst (ea_cons ev_c (ea_cons (ev_cb (ea_cons (ev_op ev_c (ev_var h11) rv_I0) ea_nil) (fun H6 _ Q q => .inl ⟨_, rfl, log_ok (by omega) (by omega), q H6 (Ex.refl H6)⟩)) ea_nil)) (by show 2 ≤ 100000; decide)
  have s1 : ∀ Hx, EvL (tLst (tCons (tCB rStrB (tCons (tVar 11) tNil)) tNil)) σ Hx [V.str (nS nn)] := fun Hx => el_lst (ea_cons (ev_cb (ea_cons (ev_var h11) ea_nil) (fun H6 _ Q q => .inl ⟨_, rfl, log_ok b1 b2, q H6 (Ex.refl H6)⟩)) ea_nil) (by show 1 ≤ 100000; decide)
  by_cases h : 0 ≤ nn
  · have ev1 : ∀ Hx, Ev (tCB rInt1 (tCons (tOp (rI0 fun i j => V.bl (decide (i ≥ j))) (tVar 11) (tC (.int 0))) tNil)) σ Hx (.int ((1 : Nat) : Int)) := fun Hx => ev_is (evb Hx) (by rw [decide_eq_true h]; rfl)
    have ec : cutV [V.str "-", V.str (nS (0 - nn))] (some ((2 : Nat) : Int)) none = [] := by
      rw [cutV_from (by simp)]
      rfl
    have sl : EvL (tSl (rSlL K) (tLst (tCons (tC (.str "-")) (tCons (tCB rStrB (tCons (tOp (rI0 fun i j => V.int (i - j)) (tC (.int 0)) (tVar 11)) tNil)) tNil))) (tPart (tOp (rI CMul fun i j => V.int (i * j)) (tCB rInt1 (tCons (tOp (rI0 fun i j => V.bl (decide (i ≥ j))) (tVar 11) (tC (.int 0))) tNil)) (tC (.int 2)))) tNoPart) σ H [] := by
      rw [← ec]
      exact el_slN (s0 H) (fun H6 _ => eo_some (ev_is (ev_op (ev1 H6) ev_c (rv_I (.inr ⟨by decide, by decide⟩))) rfl)) (fun _ _ => eo_none)
    have e : (ws ++ sgWs nn).map V.str = (ws.map V.str ++ []) ++ (List.replicate 1 [V.str (nS nn)]).flatten := by
      unfold sgWs
      rw [if_pos h]
      simp
    rw [e]
    exact el_cat (el_catK (ev_var h10) hl.at_ sl (by simp; omega)) (el_rep (s1 H) (ev1 H) (by decide) (by simp)) (by simp; omega)
  · have ev1 : ∀ Hx, Ev (tCB rInt1 (tCons (tOp (rI0 fun i j => V.bl (decide (i ≥ j))) (tVar 11) (tC (.int 0))) tNil)) σ Hx (.int ((0 : Nat) : Int)) := fun Hx => ev_is (evb Hx) (by rw [decide_eq_false h]; rfl)
    have ec : cutV [V.str "-", V.str (nS (0 - nn))] (some ((0 : Nat) : Int)) none = [V.str "-", V.str (nS (0 - nn))] := by
      rw [cutV_from (by simp)]
      rfl
    have sl : EvL (tSl (rSlL K) (tLst (tCons (tC (.str "-")) (tCons (tCB rStrB (tCons (tOp (rI0 fun i j => V.int (i - j)) (tC (.int 0)) (tVar 11)) tNil)) tNil))) (tPart (tOp (rI CMul fun i j => V.int (i * j)) (tCB rInt1 (tCons (tOp (rI0 fun i j => V.bl (decide (i ≥ j))) (tVar 11) (tC (.int 0))) tNil)) (tC (.int 2)))) tNoPart) σ H [V.str "-", V.str (nS (0 - nn))] := by
      rw [← ec]
      exact el_slN (s0 H) (fun H6 _ => eo_some (ev_is (ev_op (ev1 H6) ev_c (rv_I (.inr ⟨by decide, by decide⟩))) rfl)) (fun _ _ => eo_none)
    have e : (ws ++ sgWs nn).map V.str = (ws.map V.str ++ [V.str "-", V.str (nS (0 - nn))]) ++ (List.replicate 0 [V.str (nS nn)]).flatten := by
      unfold sgWs
      rw [if_neg h]
      simp
    rw [e]
    exact el_cat (el_catK (ev_var h10) hl.at_ sl (by simp; omega)) (el_rep (s1 H) (ev1 H) (by decide) (by simp)) (by simp; omega)
section
variable {P : Program} {w : World} {K : PySem.W.Frag} {mg : Str → Option Value} {base : Heap}
def spChartW : Sp := fun vs H Q _ => ∃ (p : Addr) (v : V) (d : PyData) (y : Int), vs = [.ref p, v] ∧ PurseAt H p y ∧ 0 ≤ y ∧ y < 68719000000 ∧ ChD d ∧ DT H d v ∧ Drawn p y 20000 H (fun H' v => ∃ l rs, v = .ref l ∧ RA H' l rs ∧ WCh d rs) Q
abbrev NW : List Str := ["_law_purse_here", "_law_chart_here", "_law_facts", "_law_happenings", "_law_root", "_law_found", "_law_name", "_law_low", "_law_high", "_law_first", "_law_words", "_law_number"]
theorem scChartW : FnScope NW ["_law_purse_here", "_law_chart_here"] (defScope lChartW) := ⟨rfl, rfl, rfl, by decide +kernel, rfl, by decide +kernel, by decide +kernel⟩
set_option maxHeartbeats 0 in
theorem ok_chartW (gs : mg "str" = none) (gl : mg "list" = none) (gi : mg "int" = none) (ge : mg "enumerate" = none) (DC : Df K mg "_law_chart_rows" lChartW ["_law_purse_here", "_law_chart_here"]) (D : Df K mg "_law_stand_rows" lStandW ["_law_purse_here", "_law_stand", "_law_depth"]) (DMv : Df K mg "_law_move_words" lMoveW ["_law_purse_here", "_law_move_here"]) (DG : Df K mg "_law_guard_words" lGuardW ["_law_purse_here", "_law_guard_here"]) (DD : Df K mg "_law_deeds_words" lDeedsW ["_law_purse_here", "_law_deeds_here"]) (DT' : Df K mg "_law_term_words" lTermW ["_law_purse_here", "_law_term_here"]) (DA : Df K mg "_law_around" lAround ["_law_purse_here", "_law_words", "_law_wanted"]) (DK : Df K mg "_law_take" lTake ["_law_purse_here", "_law_far"]) (DM : Df K mg "_law_mixed" lMixed ["_law_cell", "_law_k"]) :
    FnOk P w K mg base CX0 14 DC.f DC.fd ["_law_purse_here", "_law_chart_here"] spChartW := by
  have GS : FnOk P w K mg base CX0 13 D.f D.fd ["_law_purse_here", "_law_stand", "_law_depth"] (spStandW 4) := ok_standW gs gl gi ge D DMv DG DD DT' DA DK DM 4
  refine DC.F.ok scChartW (fun vs H Q E h => ?_) (fun cdv A outer s H vs Q E hr h => ?_)
  · obtain ⟨p, v, d, y, rfl, _⟩ := h
    rfl
  · obtain ⟨p, v, d, y, rfl, hp, y0, y1, hc, hd, q⟩ := h
    refine ⟨_, pss_cons (ps_asg (pv 1) (pg_tup rfl (pgs_cons (pg_name (i := 2) scChartW.nd rfl (.inl rfl)) (pgs_cons (pg_name (i := 3) scChartW.nd rfl (.inl rfl)) (pgs_cons (pg_name (i := 4) scChartW.nd rfl (.inl rfl)) pgs_nil)))))
      (pss_cons (ps_set (i := 5) scChartW.nd rfl (.inl rfl) (pe_lst pa_nil))
      (pss_cons (ps_for PassesOwn.never rfl (pi_tup (pv 2)) (pg_tup rfl (pgs_cons (pg_name (i := 6) scChartW.nd rfl (.inl rfl)) (pgs_cons (pg_name (i := 7) scChartW.nd rfl (.inl rfl)) (pgs_cons (pg_name (i := 8) scChartW.nd rfl (.inl rfl)) (pgs_cons (pg_name (i := 9) scChartW.nd rfl (.inl rfl)) pgs_nil)))))
        (pss_cons (ps_set (i := 10) scChartW.nd rfl (.inl rfl) (pe_lst (pa_cons pe_str (pa_cons (pv 6) pa_nil))))
        (pss_cons (ps_for PassesOwn.never rfl (pi_tup (pe_tup (pa_cons (pv 7) (pa_cons (pv 8) (pa_cons (pv 9) pa_nil))))) (pg_name (i := 11) scChartW.nd rfl (.inl rfl))
          (pss_one (ps_set (i := 10) scChartW.nd rfl (.inl rfl) (pe_op op_cat (pe_op op_cat (pv 10) (pe_slice sl_list (pe_lst (pa_cons pe_str (pa_cons (pe_callTy call_strB (by rfl) gs (by rfl) (pa_cons (pe_op op_sub pe_int (pv 11)) pa_nil)) pa_nil))) (po_some (pe_op op_mul (pe_callTy call_int1 (by rfl) gi boot_int (pa_cons (pe_cmpR op_ge (pv 11) pe_int (nomark _)) pa_nil)) pe_int)) po_none)) (pe_op op_rep (pe_lst (pa_cons (pe_callTy call_strB (by rfl) gs (by rfl) (pa_cons (pv 11) pa_nil)) pa_nil)) (pe_callTy call_int1 (by rfl) gi boot_int (pa_cons (pe_cmpR op_ge (pv 11) pe_int (nomark _)) pa_nil)))))))
        (pss_one (ps_expr (pe_bm PySem.F.plainAttrs_list PySem.F.slot_list_append PySem.F.type_list_append mt_append (pv 5) (pa_cons (pe_lst (pa_cons pe_int (pa_cons (pv 10) pa_nil))) pa_nil)))))))
      (pss_cons (ps_for PassesOwn.never rfl (pi_tup (pv 3)) (pg_name (i := 6) scChartW.nd rfl (.inl rfl))
        (pss_one (ps_expr (pe_bm PySem.F.plainAttrs_list PySem.F.slot_list_append PySem.F.type_list_append mt_append (pv 5) (pa_cons (pe_lst (pa_cons pe_int (pa_cons (pe_lst (pa_cons pe_str (pa_cons (pv 6) pa_nil))) pa_nil))) pa_nil)))))
      (pss_one (ps_ret (pe_op op_cat (pv 5) (pe_call GS hr rfl D.m D.F.kp D.b .nil pass0 (pa_cons (pv 0) (pa_cons (pv 4) (pa_cons pe_int pa_nil)))))))))), ?_⟩
    cases hc with
    | @mk fs os so sd hfs hfl hos hol hso hsd =>
    obtain ⟨ca, cvs, rfl, hca, k1⟩ := dtT hd
    obtain ⟨vf, r1, rfl, df, k2⟩ := dtsC k1
    obtain ⟨vo, r2, rfl, dof, k3⟩ := dtsC k2
    obtain ⟨vr, r3, rfl, dr, k4⟩ := dtsC k3
    have k5 := dtsN k4
    subst k5
    refine ⟨.ref ca, rfl, ca, _, rfl, st_of hca, rfl, vf, _, rfl, vo, _, rfl, vr, _, rfl, rfl, ?_⟩
    refine q_asgL (xs := []) (el_lst ea_nil (by show 0 ≤ 100000; decide)) fun l H1 nl e1 h1 => ?_
    have hp1 := hp.ex e1
    obtain ⟨fa, fv, rfl, hfa, hfv⟩ := dtT df
    have hfvl := dts_len hfv
    have tfx : ∀ {Hx : Hp}, Ex H Hx → TF H Hx := fun e => TF.ex e
    have exU : ∀ {Hx : Hp} {o : HO}, Ex H Hx → Ex H (L2.upd Hx l o) := fun e b u hu => by
      rw [upd_ne (ne_of_none hu nl)]
      exact e b u hu
    refine q_forT (K := K) (a := fa) (xs := fv) (ev_var rfl) (st_of (e1 _ _ hfa)) (fun i σ H' => Ex H H' ∧ ∃ (rm : List WR) (v6 v7 v8 v9 v10 v11 : Option V), σ = [some (.ref p), some (.ref ca), some (.ref fa), some vo, some vr, some (.ref l), v6, v7, v8, v9, v10, v11] ∧ RA H' l rm ∧ WHd (fs.take i) [] rm) (fun H' e => ⟨e1.trans e, [], none, none, none, none, none, none, rfl, ⟨[], e _ _ h1, rfl⟩, by rw [List.take_zero]; exact .nil⟩) (fun i σ H' _ z => st_of (z.1 _ _ hfa)) (fun i v σ H' hi z => ?_) (fun σ H' z => ?_)
    · obtain ⟨e2, rm, v6, v7, v8, v9, v10, v11, rfl, ha2, wh⟩ := z
      obtain ⟨d, hd1, hd2⟩ := dts_get hfv hi
      have hil := (List.getElem?_eq_some_iff.mp hd1).1
      have hF := hfs d (List.mem_of_getElem? hd1)
      cases hF with
      | @mk x a c b hx a1 a2 c1 c2 b1 b2 =>
      obtain ⟨ta, tv, rfl, hta, j1⟩ := dtT (DT.tf (tfx e2) _ _ hd2)
      obtain ⟨u1, s1, rfl, q1, j2⟩ := dtsC j1
      obtain ⟨u2, s2, rfl, q2, j3⟩ := dtsC j2
      obtain ⟨u3, s3, rfl, q3, j4⟩ := dtsC j3
      obtain ⟨u4, s4, rfl, q4, j5⟩ := dtsC j4
      have j6 := dtsN j5
      subst j6
      have := dtS q1
      subst this
      have := dtI q2
      subst this
      have := dtI q3
      subst this
      have := dtI q4
      subst this
      refine ⟨ta, _, rfl, st_of hta, rfl, .str x, _, rfl, .int a, _, rfl, .int c, _, rfl, .int b, _, rfl, rfl, ?_⟩
      refine q_asgL (xs := ([cfact, x] : List Str).map V.str) (el_lst (ea_cons ev_c (ea_cons (ev_var rfl) ea_nil)) (by show 2 ≤ 100000; decide)) fun l3 H3 n3 e3 h3 => ?_
      have ha3 := ha2.ex e3
      have e23 := e2.trans e3
      refine q_forU (K := K) (xs := [a, c, b].map V.int) (eu_tup (ea_cons (ev_var rfl) (ea_cons (ev_var rfl) (ea_cons (ev_var rfl) ea_nil))) (by show 3 ≤ 100000; decide)) (fun tq j σ H'' => Ex H3 H'' ∧ H'' tq = some (.tup ([a, c, b].map V.int)) ∧ ∃ (lw : Addr) (v11 : Option V), σ = [some (.ref p), some (.ref ca), some (.ref fa), some vo, some vr, some (.ref l), some (.str x), some (.int a), some (.int c), some (.int b), some (.ref lw), v11] ∧ StrsAt H'' lw (cfact :: x :: (([a, c, b].take j).map sgWs).flatten)) (fun tq H4 n4 e4 h4 => ⟨e4, h4, l3, _, rfl, ⟨e4 _ _ h3⟩⟩) (fun tq j σ H'' z => st_of z.2.1) (fun tq j nv σ H'' hj z => ?_) (fun tq σ H'' z => ?_)
      · obtain ⟨e5, htq, lw, v11', rfl, hlw⟩ := z
        rw [List.getElem?_map] at hj
        obtain ⟨nn, hnn, rfl⟩ := Option.map_eq_some_iff.mp hj
        have hb : -40 ≤ nn ∧ nn ≤ 40 := by
          have := List.mem_of_getElem? hnn
          simp only [List.mem_cons, List.not_mem_nil, or_false] at this
          rcases this with rfl | rfl | rfl <;> omega
        have hj3 := (List.getElem?_eq_some_iff.mp hnn).1
        have hlen : (([a, c, b].take j).map sgWs).flatten.length ≤ 6 := by
          have s1 := sg_len a
          have s2 := sg_len c
          have s3 := sg_len b
          rcases (by simp at hj3; omega : j = 0 ∨ j = 1 ∨ j = 2) with rfl | rfl | rfl <;> simp <;> omega
        refine q_asgN (xs := ((cfact :: x :: (([a, c, b].take j).map sgWs).flatten) ++ sgWs nn).map V.str) (el_sg rfl rfl hlw (by simp only [List.length_cons]; omega) hb.1 hb.2) fun l5 H5 n5 e5' h5 => ?_
        refine ⟨e5.trans e5', e5' _ _ htq, l5, _, rfl, ⟨?_⟩⟩
        rw [h5, List.take_add_one, hnn]
        simp
      · obtain ⟨e5, htq, lw, v11', rfl, hlw⟩ := z
        have hwl : (cfact :: x :: (([a, c, b].take (([a, c, b] : List Int).map V.int).length).map sgWs).flatten : List Str) = cfact :: x :: (sgWs a ++ (sgWs c ++ sgWs b)) := by simp
        rw [hwl] at hlw
        have ha5 := ha3.ex e5
        have e25 := e23.trans e5
        obtain ⟨acc0, hacc0, _⟩ := id ha5
        refine ⟨.ref l, rfl, .inl ⟨rfl, _, sq_of hacc0⟩, .ref lw, rfl, by show 2 ≤ sizeLine; exact sz_of (by decide), fun bq nb => ?_⟩
        have e6 : Ex H'' (L2.upd H'' bq (.lst [.int 0, .ref lw])) := fr_new nb
        have hrow : RowV (L2.upd H'' bq (.lst [.int 0, .ref lw])) (0, cfact :: x :: (sgWs a ++ (sgWs c ++ sgWs b))) (.ref bq) := ⟨bq, lw, rfl, upd_same, ⟨e6 _ _ hlw.at_⟩⟩
        have ha6 := ha5.ex e6
        have e26 := e25.trans e6
        revert hrow ha6 e26
        generalize (L2.upd H'' bq (.lst [.int 0, .ref lw])) = H6
        intro hrow ha6 e26
        obtain ⟨acc, hacc, hrv⟩ := id ha6
        have hal := hrv.len
        have whl := wh.l
        have whok := wh.ok
        rw [List.length_take] at whl
        refine ⟨l, acc, .ref bq, rfl, rfl, hacc, sz_lt (by simp at whl; omega), exU e26, _, _, _, _, _, _, _, rfl, ha6.snocG (fun r hr => nsg_ne (whok r hr).1) hacc (by simp) hrow, ?_⟩
        rw [List.take_add_one, hd1]
        exact wh.fact hx a1 a2 c1 c2 b1 b2
    · obtain ⟨e2, rm, v6, v7, v8, v9, v10, v11, rfl, ha2, wh⟩ := z
      rw [hfvl, List.take_length] at wh
      obtain ⟨oa, ov, rfl, hoa, hov⟩ := dtT dof
      have hovl := dts_len hov
      refine q_forT (K := K) (a := oa) (xs := ov) (ev_var rfl) (st_of (e2 _ _ hoa)) (fun i σ H' => Ex H H' ∧ ∃ (rm2 : List WR) (v6 : Option V), σ = [some (.ref p), some (.ref ca), some (.ref fa), some (.ref oa), some vr, some (.ref l), v6, v7, v8, v9, v10, v11] ∧ RA H' l rm2 ∧ WHd fs ((os.map PyData.str).take i) rm2) (fun H' e => ⟨e2.trans e, rm, _, rfl, ha2.ex e, by rw [List.take_zero]; exact wh⟩) (fun i σ H' _ z => st_of (z.1 _ _ hoa)) (fun i v σ H' hi z => ?_) (fun σ H' z => ?_)
      · obtain ⟨e3, rm2, v6', rfl, ha3, wh3⟩ := z
        obtain ⟨d, hd1, hd2⟩ := dts_get hov hi
        have hd1' := hd1
        rw [List.getElem?_map] at hd1'
        obtain ⟨x, hx1, rfl⟩ := Option.map_eq_some_iff.mp hd1'
        have hx := hos x (List.mem_of_getElem? hx1)
        have hil := (List.getElem?_eq_some_iff.mp hx1).1
        have := dtS hd2
        subst this
        obtain ⟨acc0, hacc0, _⟩ := id ha3
        refine ⟨.ref l, rfl, .inl ⟨rfl, _, sq_of hacc0⟩, .str x, rfl, by show 2 ≤ sizeLine; exact sz_of (by decide), fun lw nlw => ⟨by show 2 ≤ sizeLine; exact sz_of (by decide), fun bq nb => ?_⟩⟩
        have e5 : Ex H' (L2.upd H' lw (.lst [.str con, .str x])) := fr_new nlw
        have e6 : Ex (L2.upd H' lw (.lst [.str con, .str x])) (L2.upd (L2.upd H' lw (.lst [.str con, .str x])) bq (.lst [.int 0, .ref lw])) := fr_new nb
        have hrow : RowV (L2.upd (L2.upd H' lw (.lst [.str con, .str x])) bq (.lst [.int 0, .ref lw])) (0, [con, x]) (.ref bq) := ⟨bq, lw, rfl, upd_same, ⟨e6 _ _ upd_same⟩⟩
        have ha6 := ha3.ex (e5.trans e6)
        have e26 := e3.trans (e5.trans e6)
        clear nb e6
        revert hrow ha6 e26
        generalize (L2.upd (L2.upd H' lw (.lst [.str con, .str x])) bq (.lst [.int 0, .ref lw])) = H6
        intro hrow ha6 e26
        obtain ⟨acc, hacc, hrv⟩ := id ha6
        have hal := hrv.len
        have whl := wh3.l
        have whok := wh3.ok
        rw [List.length_take, List.length_map] at whl
        refine ⟨l, acc, .ref bq, rfl, rfl, hacc, sz_lt (by omega), exU e26, _, _, rfl, ha6.snocG (fun r hr => nsg_ne (whok r hr).1) hacc (by simp) hrow, ?_⟩
        rw [List.take_add_one, hd1]
        exact wh3.on hx
      · obtain ⟨e3, rm2, v6', rfl, ha3, wh3⟩ := z
        rw [hovl, List.take_length] at wh3
        have sb4 : sbW 4 = 17850 := rfl
        have hp3 := hp.ex e3
        refine ⟨.ref l, rfl, .ref p, rfl, vr, rfl, p, vr, sd, so, 0, y, rfl, hp3, y0, by omega, by decide, by decide, hsd, DT.tf (tfx e3) _ _ dr, fun u y2 H4 f4 hp4 l1 l2 rr => ?_⟩
        obtain ⟨lg, r0, rs0, rfl, hra, wst, x, rest, hx, hrs⟩ := rr
        have ha4 := ha3.frG hp3 f4
        obtain ⟨c1, g1, w1⟩ := id ha4
        obtain ⟨c2, g2, w2⟩ := id hra
        have t1 := w1.len
        have t2 := w2.len
        have t3 := wst.l
        have t4 := wh3.l
        have t5 : rbn 4 = 425 := rfl
        rw [List.length_map] at t4
        refine ⟨l, lg, c1, c2, rfl, rfl, g1, g2, sz_of (by omega), fun l9 n9 => ?_⟩
        have e9 : Ex H4 (L2.upd H4 l9 (.lst (c1 ++ c2))) := fr_new n9
        refine q _ y2 _ (((Fr.ex e3).trans f4).trans (Fr.ex e9)) (hp4.ex e9) l1 (by omega) ⟨l9, rm2 ++ (r0 :: rs0), rfl, ⟨c1 ++ c2, upd_same, (w1.append w2).map fun _ _ => RowV.ex e9⟩, ?_⟩
        rw [hrs] at wst ⊢
        exact .mk' wh3 hfl hol hso hx wst
end
end Prs
set_option Elab.async false
set_option linter.all false
set_option maxRecDepth 100000
set_option maxHeartbeats 4000000
namespace Prs
open PySem PySem.Spec PyProof.Rows L2 Evl
abbrev lRowText : Stmt := top 80
abbrev lText : Stmt := top 81
def rMulS : R2 := fun x y H Q => ∃ (s : Str) (n : Int), x = .str s ∧ y = .int n ∧ MulOk s n ∧ Q (.str (Txt.mul s n)) H
theorem op_mulS {X : Cx} : OpR X (binaryOp .Mult) rMulS := by
  intro pins s σ H x y v u Q I rx ry h
  obtain ⟨a, n, rfl, rfl, hok, q⟩ := h
  obtain ⟨t, rfl⟩ := rx
  obtain ⟨t', rfl⟩ := ry
  exact SB.mul hok (fun t' tk => ⟨.str _, H, I.tok _, ⟨_, rfl⟩, q⟩)
def blk (n : Nat) : Str := ⟨(List.replicate n 32).toArray⟩
theorem L_blk (n : Nat) : L (blk n) = List.replicate n 32 := rfl
theorem mul_blk (n : Nat) : Txt.mul " " (n : Int) = blk n := by
  refine L_inj ?_
  rw [L_blk]
  exact (mul_one_list 32 n).trans (by rw [Int.toNat_natCast])
theorem mulOk_blk {n : Nat} (h : n ≤ 90000) : MulOk " " (n : Int) := mulOk_of 1 90000 (by decide) (by omega) (by omega) (by decide) (by decide)
theorem blk_len (n : Nat) : (blk n).length = n := by
  rw [← L_len, L_blk, List.length_replicate]
def SG7 : List Str := ["(", ")", "+", "-", "<", "=", ","]
theorem sg7 {w : Str} (h : inV (.str w) (SG7.map V.str) = true) : isSg w = true := by
  rw [inV_mem] at h
  have := of_decide_eq_true h
  have ok : SG7.all isSg = true := by decide +kernel
  exact List.all_eq_true.mp ok w this
theorem good_len {w : Str} (h : goodW w = true) : w.length ≤ 9 := by
  unfold goodW at h
  rw [Bool.or_eq_true, Bool.or_eq_true] at h
  rcases h with h | h | h
  · unfold isSg at h
    rw [Bool.and_eq_true] at h
    have := of_decide_eq_true h.1
    omega
  · unfold numLike at h
    rw [Bool.or_eq_true] at h
    rcases h with h | h
    · rw [of_decide_eq_true h]
      decide
    · split at h
      · cases h
      · rw [Bool.and_eq_true, Bool.and_eq_true] at h
        exact of_decide_eq_true h.2.2
  · unfold namLike at h
    split at h
    · cases h
    · rw [Bool.and_eq_true, Bool.and_eq_true] at h
      have := of_decide_eq_true h.2.2
      omega
/-- a line so far: what goes on behind its last word -/
structure BT (done : List Str) (m : List Nat) (last : Str) : Prop where
  go : ∀ (g : Nat) (l : List Nat) (rest : List Str), RowT (decide (g = 0) && !isSg last) l rest → RowT false (m ++ (List.replicate g 32 ++ l)) (done ++ rest)
  fin : ∀ k : Nat, RowT false (m ++ List.replicate k 32) done
theorem BT.one {w : Str} (h : goodW w = true) : BT [w] (L w) w := ⟨fun _ _ _ r => .more h (fun z => nomatch z) r, fun _ => .last h (fun z => nomatch z)⟩
theorem BT.snoc {done : List Str} {m : List Nat} {last w : Str} (b : BT done m last) (h : goodW w = true) (g : Nat) (hg : (decide (g = 0) && !isSg last) = true → isSg w = true) : BT (done ++ [w]) (m ++ (List.replicate g 32 ++ L w)) w := by
  refine ⟨fun g' l rest r => ?_, fun k => ?_⟩
  · have := b.go g _ _ (.more h hg r)
    simp only [List.append_assoc, List.singleton_append] at this ⊢
    exact this
  · have := b.go g _ _ (.last (k := k) h hg)
    simp only [List.append_assoc] at this ⊢
    exact this
section
variable {P : Program} {w : World} {K : PySem.W.Frag} {mg : Str → Option Value} {base : Heap}
def spRowTx : Sp := fun vs H Q _ => ∃ (p wl : Addr) (D : Nat) (y : Int) (ws : List Str), vs = [.ref p, .int (D : Nat), .ref wl] ∧ PurseAt H p y ∧ 0 ≤ y ∧ y < 68719470000 ∧ StrsAt H wl ws ∧ ws ≠ [] ∧ allGood ws ∧ ws.length ≤ 260 ∧ D ≤ 20 ∧ Drawn p y 600 H (fun _ v => ∃ row l, v = .str row ∧ L row = List.replicate (2 * D) 32 ++ l ∧ RowT false l ws ∧ row.length ≤ 4000) Q
theorem scRowTx : FnScope ["_law_purse_here", "_law_depth", "_law_words", "_law_line", "_law_last", "_law_word", "_law_near"] ["_law_purse_here", "_law_depth", "_law_words"] (defScope lRowText) := ⟨rfl, rfl, rfl, by decide +kernel, rfl, by decide +kernel, by decide +kernel⟩
set_option maxHeartbeats 0 in
theorem ok_rowTx (gi : mg "int" = none) (gz : mg "zip" = none) (D : Df K mg "_law_row_text" lRowText ["_law_purse_here", "_law_depth", "_law_words"]) (DK : Df K mg "_law_take" lTake ["_law_purse_here", "_law_far"]) (DM : Df K mg "_law_mixed" lMixed ["_law_cell", "_law_k"]) : FnOk P w K mg base CX0 3 D.f D.fd ["_law_purse_here", "_law_depth", "_law_words"] spRowTx := by
  have GT : FnOk P w K mg base CX0 2 DK.f DK.fd ["_law_purse_here", "_law_far"] spLTake := ok_ltake DK.F DM
  refine D.F.ok scRowTx (fun vs H Q E h => ?_) (fun cdv A outer s H vs Q E hr h => ?_)
  · obtain ⟨p, wl, dd, y, ws, rfl, _⟩ := h
    rfl
  · obtain ⟨p, wl, dep, y, ws, rfl, hp, y0, y1, hw, hne, hg, hl, hdep, q⟩ := h
    have hr2 : Room 2 _ := hr.mono (by decide)
    refine ⟨_, pss_cons (ps_set (i := 3) scRowTx.nd rfl (.inl rfl) (pe_op op_add_str (pe_op op_mulS pe_str (pe_op op_mul pe_int (pv 1))) (pe_ix ix_list (pv 2) pe_int (fun _ _ => rfl))))
      (pss_cons (ps_for PassesOwn.never rfl (pi_zip rfl gz (pa_cons (pv 2) (pa_cons (pe_slice sl_list (pv 2) (po_some pe_int) po_none) pa_nil))) (pg_tup rfl (pgs_cons (pg_name (i := 4) scRowTx.nd rfl (.inl rfl)) (pgs_cons (pg_name (i := 5) scRowTx.nd rfl (.inl rfl)) pgs_nil)))
        (pss_cons (ps_set (i := 6) scRowTx.nd rfl (.inl rfl) (pe_or (pe_cmpR op_in_seq (pv 4) (pe_tup (pa_cons pe_str (pa_cons pe_str (pa_cons pe_str (pa_cons pe_str (pa_cons pe_str (pa_cons pe_str (pa_cons pe_str pa_nil)))))))) (by rfl)) (pe_one (pe_cmpR op_in_seq (pv 5) (pe_tup (pa_cons pe_str (pa_cons pe_str (pa_cons pe_str (pa_cons pe_str (pa_cons pe_str (pa_cons pe_str (pa_cons pe_str pa_nil)))))))) (by rfl)))))
        (pss_one (ps_set (i := 3) scRowTx.nd rfl (.inl rfl) (pe_op op_add_str (pe_op op_add_str (pv 3) (pe_op op_mulS pe_str (pe_ix ix_list (pe_lst (pa_cons (pe_op op_add pe_int (pe_call GT hr2 rfl DK.m DK.F.kp DK.b .nil pass0 (pa_cons (pv 0) (pa_cons pe_int pa_nil)))) (pa_cons (pe_call GT hr2 rfl DK.m DK.F.kp DK.b .nil pass0 (pa_cons (pv 0) (pa_cons pe_int pa_nil))) pa_nil))) (pe_callTy call_int1 (by rfl) gi boot_int (pa_cons (pv 6) pa_nil)) (fun _ _ => rfl)))) (pv 5))))))
      (pss_one (ps_ret (pe_op op_add_str (pv 3) (pe_op op_mulS pe_str (pe_call GT hr2 rfl DK.m DK.F.kp DK.b .nil pass0 (pa_cons (pv 0) (pa_cons pe_int pa_nil)))))))), ?_⟩
    obtain ⟨w0, wr, hws⟩ : ∃ w0 wr, ws = w0 :: wr := by
      cases ws with
      | nil => exact absurd rfl hne
      | cons a b => exact ⟨a, b, rfl⟩
    have g0 : goodW w0 = true := hg w0 (by rw [hws]; simp)
    have l0 := good_len g0
    have line0 : Ev (tOp rAddS (tOp rMulS (tC (.str " ")) (tOp (rI CMul fun i j => V.int (i * j)) (tC (.int 2)) (tVar 1))) (tOp (rIxL K) (tVar 2) (tC (.int 0)))) (L2.start ["_law_purse_here", "_law_depth", "_law_words", "_law_line", "_law_last", "_law_word", "_law_near"] [.ref p, .int (dep : Nat), .ref wl]) H (.str (blk (2 * dep) ++ w0)) := by
      have e : ((2 * dep : Nat) : Int) = 2 * (dep : Int) := by push_cast; rfl
      refine ev_op (x := .str (blk (2 * dep))) (y := .str w0) (ev_op ev_c (ev_op ev_c (ev_var rfl) (rv_I (.inl ⟨by decide, by decide⟩))) (fun H1 _ Q q => ⟨" ", ((2 * dep : Nat) : Int), rfl, by rw [e], mulOk_blk (by omega), by rw [mul_blk]; exact q H1 (Ex.refl H1)⟩)) (ev_op (ev_var rfl) ev_c (rv_ixL' (sq_of hw.at_) (by rw [hws]; exact atI_zero))) (rv_catS (by rw [blk_len]; omega))
    refine q_asg line0 fun H1 e1 => ?_
    have hp1 := hp.ex e1
    have hw1 : StrsAt H1 wl ws := ⟨e1 _ _ hw.at_⟩
    have ec : cutV (ws.map V.str) (some ((1 : Nat) : Int)) none = wr.map V.str := by
      rw [cutV_from (by rw [hws]; simp), hws]
      rfl
    refine ⟨.ref wl, rfl, ?_⟩
    refine (el_sl (K := K) (σ := [some (.ref p), some (.int (dep : Nat)), some (.ref wl), some (.str (blk (2 * dep) ++ w0)), none, none, none]) (te := tVar 2) (tl := tPart (tC (.int ((1 : Nat) : Int)))) (th := tNoPart) (ev_var rfl) (eo_some ev_c) eo_none (sq_of hw1.at_)) H1 (Ex.refl H1) _ fun b H2 nb e2 hb => ?_
    rw [ec] at hb
    have hp2 := hp1.ex e2
    have hw2 : StrsAt H2 wl ws := ⟨e2 _ _ hw1.at_⟩
    have bp : b ≠ p := hp1.ne nb
    have wp : wl ≠ p := StrsAt.ne hp2 hw2
    refine ⟨wl, b, _, _, rfl, sq_of hw2.at_, sq_of hb, for_it (walk_zip (K := K) (xs := ws.map V.str) (ys := wr.map V.str) (n := wr.length) (by rw [hws]; simp)) (fun i σ H' => Fr p H2 H' ∧ ∃ (y' : Int) (ln : Str) (m : List Nat) (last : Str) (v4 v5 v6 : Option V), PurseAt H' p y' ∧ y ≤ y' ∧ y' ≤ y + 2 * i ∧ σ = [some (.ref p), some (.int (dep : Nat)), some (.ref wl), some (.str ln), v4, v5, v6] ∧ L ln = List.replicate (2 * dep) 32 ++ m ∧ ws[i]? = some last ∧ BT (ws.take (i + 1)) m last ∧ ln.length ≤ 60 + 12 * i) ⟨Fr.refl p H2, y, _, L w0, w0, none, none, none, hp2, Int.le_refl _, by simp, rfl, by rw [L_app, L_blk], by rw [hws]; rfl, by rw [hws]; exact .one g0, by show (blk (2 * dep) ++ w0).length ≤ _; rw [← L_len, L_app, L_blk, List.length_append, List.length_replicate]; have : (L w0).length = w0.length := rfl; omega⟩ (fun i σ H' _ z => ⟨sq_of (z.1 _ _ wp hw2.at_), sq_of (z.1 _ _ bp hb)⟩) (fun i v σ H3 H4 hi z Y => ?_) (fun σ H3 z => ?_)⟩
    · obtain ⟨f3, y3, ln, m, last, v4, v5, v6, hp3, m1, m2, rfl, hln, hlast, hbt, hll⟩ := z
      obtain ⟨T, x0, yv, rfl, nT, rfl, hx0, hyv⟩ := Y
      dsimp only at hx0 hyv
      rw [List.getElem?_map] at hx0 hyv
      rw [hlast] at hx0
      have ex0 : V.str last = x0 := Option.some.inj hx0
      subst ex0
      obtain ⟨wd, hwd, rfl⟩ := Option.map_eq_some_iff.mp hyv
      have hwd' : ws[i + 1]? = some wd := by rw [hws, List.getElem?_cons_succ]; exact hwd
      have gw' : goodW wd = true := hg wd (List.mem_of_getElem? hwd')
      have gl := good_len gw'
      have hil : i < 260 := by
        have : ws.length = wr.length + 1 := by rw [hws]; rfl
        omega
      have e4 : Ex H3 (L2.upd H3 T (.tup [.str last, .str wd])) := fr_new nT
      have hT : (L2.upd H3 T (.tup [.str last, .str wd])) T = some (.tup [.str last, .str wd]) := upd_same
      revert e4 hT
      generalize (L2.upd H3 T (.tup [.str last, .str wd])) = H4
      intro e4 hT
      have hp4 := hp3.ex e4
      refine ⟨T, _, rfl, st_of hT, rfl, .str last, _, rfl, .str wd, _, rfl, rfl, ?_⟩
      generalize hnr : (inV (.str last) (SG7.map V.str) || inV (.str wd) (SG7.map V.str)) = nr
      have t7 : ∀ {σ : L2.St} {Hx : Hp}, EvU (tTup (tCons (tC (.str "(")) (tCons (tC (.str ")")) (tCons (tC (.str "+")) (tCons (tC (.str "-")) (tCons (tC (.str "<")) (tCons (tC (.str "=")) (tCons (tC (.str ",")) tNil)))))))) σ Hx (SG7.map V.str) := fun {σ Hx} => eu_tup (ea_cons ev_c (ea_cons ev_c (ea_cons ev_c (ea_cons ev_c (ea_cons ev_c (ea_cons ev_c (ea_cons ev_c ea_nil))))))) (by show 7 ≤ 100000; decide)
      refine q_asg (v := .bl nr) (ev_is (ev_orV (ev_inU (ev_var rfl) t7 rfl (by decide +kernel)) (fun _ => ev_inU (ev_var rfl) t7 rfl (by decide +kernel))) (by rw [hnr])) fun H5 e5 => ?_
      have hp5 := hp4.ex e5
      refine ⟨.str ln, rfl, .ref p, rfl, p, 2, y3, rfl, by decide, by decide, hp5, by omega, by omega, fun d1 ya H6 d10 d11 a1 a2 f6 hp6 => ⟨1, d1, rfl, rfl, .ref p, rfl, p, 3, ya, rfl, by decide, by decide, hp6, by omega, by omega, fun d2 yb H7 d20 d21 b1 b2 f7 hp7 => ⟨by show 2 ≤ sizeLine; exact sz_of (by decide), fun lq nq => ?_⟩⟩⟩
      obtain ⟨d1, rfl⟩ := Int.eq_ofNat_of_zero_le d10
      obtain ⟨d2, rfl⟩ := Int.eq_ofNat_of_zero_le d20
      obtain ⟨g, hg1, hg2, hg3⟩ : ∃ g : Nat, atI [V.int (1 + (d1 : Int)), V.int (d2 : Int)] (if nr then 1 else 0) = some (.int (g : Int)) ∧ g ≤ 2 ∧ (g = 0 → nr = true) := by
        cases nr with
        | true => exact ⟨d2, rfl, by omega, fun _ => rfl⟩
        | false => exact ⟨1 + d1, by push_cast; rfl, by omega, fun z => by omega⟩
      have e8 : Ex H7 (L2.upd H7 lq (.lst [.int (1 + (d1 : Int)), .int (d2 : Int)])) := fr_new nq
      have hlq : (L2.upd H7 lq (.lst [.int (1 + (d1 : Int)), .int (d2 : Int)])) lq = some (.lst [.int (1 + (d1 : Int)), .int (d2 : Int)]) := upd_same
      revert e8 hlq
      generalize (L2.upd H7 lq (.lst [.int (1 + (d1 : Int)), .int (d2 : Int)])) = H8
      intro e8 hlq
      have hmul := mul_blk g
      have len1 : (ln ++ blk g).length = ln.length + g := by
        rw [← L_len, L_app, List.length_append, L_blk, List.length_replicate]
        rfl
      refine ⟨.bl nr, rfl, .inr ⟨nr, rfl, lq, _, _, .int (g : Int), rfl, rfl, sq_of hlq, hg1, " ", (g : Int), rfl, rfl, mulOk_blk (by omega), ln, blk g, rfl, by rw [hmul], sz_of (by rw [blk_len]; omega), .str wd, rfl, ln ++ blk g, wd, rfl, rfl, sz_of (by omega), ?_⟩⟩
      have hcond : (decide (g = 0) && !isSg last) = true → isSg wd = true := fun hz => by
        rw [Bool.and_eq_true] at hz
        have h1 := hg3 (of_decide_eq_true hz.1)
        rw [← hnr, Bool.or_eq_true] at h1
        rcases h1 with h1 | h1
        · have := sg7 h1
          rw [this] at hz
          exact absurd hz.2 (by decide)
        · exact sg7 h1
      refine ⟨(((f3.trans (Fr.ex e4)).trans (Fr.ex e5)).trans f6).trans (f7.trans (Fr.ex e8)), yb, _, m ++ (List.replicate g 32 ++ L wd), wd, _, _, _, hp7.ex e8, by omega, by push_cast; omega, rfl, ?_, hwd', ?_, ?_⟩
      · rw [L_app, L_app, hln, L_blk]
        simp
      · rw [List.take_add_one, hwd']
        exact hbt.snoc gw' g hcond
      · have : (ln ++ blk g ++ wd).length = ln.length + g + wd.length := by
          rw [← len1, ← L_len, L_app, List.length_append]
          rfl
        rw [this]
        omega
    · obtain ⟨f3, y3, ln, m, last, v4, v5, v6, hp3, m1, m2, rfl, hln, hlast, hbt, hll⟩ := z
      have hwl : ws.length = wr.length + 1 := by rw [hws]; rfl
      have htake : ws.take (wr.length + 1) = ws := by rw [← hwl, List.take_length]
      rw [htake] at hbt
      refine ⟨.str ln, rfl, .ref p, rfl, p, 2, y3, rfl, by decide, by decide, hp3, by omega, by omega, fun d ya H6 d0 d1 a1 a2 f6 hp6 => ?_⟩
      obtain ⟨d, rfl⟩ := Int.eq_ofNat_of_zero_le d0
      have hmul := mul_blk d
      refine ⟨" ", (d : Int), rfl, rfl, mulOk_blk (by omega), ln, blk d, rfl, by rw [hmul], sz_of (by rw [blk_len]; omega), ?_⟩
      refine q _ ya _ ((((Fr.ex e1).trans (Fr.ex e2)).trans f3).trans f6) hp6 (by omega) (by omega) ⟨_, m ++ List.replicate d 32, rfl, ?_, hbt.fin d, ?_⟩
      · rw [L_app, hln, L_blk]
        simp
      · have : (ln ++ blk d).length = ln.length + d := by
          rw [← L_len, L_app, List.length_append, L_blk, List.length_replicate]
          rfl
        rw [this]
        omega
end
end Prs
set_option Elab.async false
set_option linter.all false
set_option maxRecDepth 100000
set_option maxHeartbeats 4000000
namespace Prs
open PySem PySem.Spec PyProof.Rows L2 Evl
theorem TextOf.skipEnd {i : Nat} {rows : List Str} {sp : List RS} {r : Str} (h : TextOf i rows sp) (hp : isPassed r = true) : TextOf i (rows ++ [r]) sp := by
  induction h with
  | nil => exact .skip hp .nil
  | skip h1 _ ih => exact .skip h1 ih
  | row h1 h2 _ ih => exact .row h1 h2 ih
theorem TextOf.rowEnd {i : Nat} {rows : List Str} {sp : List RS} {r : Str} {D : Nat} {ts : List Tok} (h : TextOf i rows sp) (hp : isPassed r = false) (hr : RowIs r D ts) : TextOf i (rows ++ [r]) (sp ++ [(((i + rows.length : Nat) : Int) + 1, D, ts)]) := by
  induction h with
  | nil => exact .row hp hr .nil
  | @skip i r1 rs sp h1 _ ih =>
    refine .skip h1 ?_
    have e : i + (r1 :: rs).length = i + 1 + rs.length := by simp only [List.length_cons]; omega
    rw [e]
    exact ih
  | @row i r1 rs D1 t1 sp h1 h2 _ ih =>
    refine .row h1 h2 ?_
    have e : i + (r1 :: rs).length = i + 1 + rs.length := by simp only [List.length_cons]; omega
    rw [e]
    exact ih
theorem nRS_congr {f g : Nat → Int} : ∀ (o : Nat) (a : List WR), (∀ j, o ≤ j → j < o + a.length → f j = g j) → nRS f o a = nRS g o a
  | _, [], _ => rfl
  | o, r :: a, h => by
    simp only [nRS]
    rw [h o (Nat.le_refl _) (by simp), nRS_congr (o + 1) a fun j h1 h2 => h j (by omega) (by simp only [List.length_cons]; omega)]
def PASS : List Str := ["", "    ", "-- one x", "   --"]
theorem pass_ok : PASS.all isPassed = true := by decide +kernel
theorem nsg_head {p : Bool} {l : List Nat} {ws : List Str} (h : RowT p l ws) (hn : nsg ws = true) (hg : allGood ws) : ∀ c t, l = c :: t → c ≠ 45 := by
  intro c t e
  have key : ∀ (w : Str) (r : List Nat), goodW w = true → isSg w = false → L w ++ r = c :: t → c ≠ 45 := fun w r g s hh => by
    obtain ⟨c1, t1, h1, h2, h3, h4⟩ := good_head g
    rw [h1] at hh
    have hc : c1 = c := by
      injection hh
    rw [← hc]
    rcases h4 with h4 | h4
    · rw [s] at h4
      cases h4
    · intro z
      rw [z] at h4
      exact absurd h4 (by decide +kernel)
  cases h with
  | @last _ w k g _ => exact key w _ g (by simpa [nsg] using hn) e
  | @more _ w g0 l' ws' g _ _ => exact key w _ g (by simpa [nsg] using hn) e
/-! ### signs that stand in texts -/
theorem small_s {s : Str} (h : clsB s (fun c => decide (c < 1114112)) = true) {c : Nat} (hc : has s c = true) : c < 1114112 := of_decide_eq_true (cls_ok h hc)
theorem good_small {w : Str} (h : goodW w = true) : ∀ c ∈ L w, c < 1114112 := by
  have lf : ∀ {c : Nat}, has LF c = true → c < 1114112 := small_s (by decide +kernel)
  intro c hc
  unfold goodW at h
  cases hs : isSg w with
  | true =>
    unfold isSg at hs
    rw [Bool.and_eq_true] at hs
    exact small_s (s := MRK) (by decide +kernel) (List.all_eq_true.mp hs.2 c hc)
  | false =>
    rw [hs, Bool.false_or, Bool.or_eq_true] at h
    rcases h with h | h
    · unfold numLike at h
      rw [Bool.or_eq_true] at h
      rcases h with h | h
      · have e := of_decide_eq_true h
        rw [e] at hc
        have : ((L "0").all fun c => decide (c < 1114112)) = true := by decide +kernel
        exact of_decide_eq_true (List.all_eq_true.mp this c hc)
      · split at h
        · cases h
        · rename_i d t e
          simp only [Bool.and_eq_true] at h
          exact lf (inS_of_fig (List.all_eq_true.mp h.2.1 c hc))
    · unfold namLike at h
      split at h
      · cases h
      · simp only [Bool.and_eq_true] at h
        exact lf (List.all_eq_true.mp h.2.1 c hc)
theorem rowT_small {p : Bool} {l : List Nat} {ws : List Str} (h : RowT p l ws) : ∀ c ∈ l, c < 1114112 := by
  have rep : ∀ {k c : Nat}, c ∈ List.replicate k 32 → c < 1114112 := fun {k c} hc => by
    rw [(List.mem_replicate.mp hc).2]
    decide
  induction h with
  | last g _ =>
    intro c hc
    rcases List.mem_append.mp hc with q | q
    · exact good_small g c q
    · exact rep q
  | more g _ _ ih =>
    intro c hc
    rcases List.mem_append.mp hc with q | q
    · exact good_small g c q
    · rcases List.mem_append.mp q with q | q
      · exact rep q
      · exact ih c q
theorem strOk_of {r : Str} (h : ∀ c ∈ L r, c < 1114112) : PyData.strOk r = true := by
  unfold PyData.strOk
  rw [← Array.all_toList]
  exact List.all_eq_true.mpr fun c hc => decide_eq_true (h c hc)
structure Txt0 (rs : List WR) (k : Nat) (rows : List Str) (ns : List Int) : Prop where
  t : TextOf 0 rows (nRS (fun j => ns.getD j 0) 0 (rs.take k))
  n : ns.length = k
  l : ∀ r ∈ rows, r.length ≤ 4000
  s : ∀ r ∈ rows, PyData.strOk r = true
theorem Txt0.skip {rs : List WR} {k : Nat} {rows : List Str} {ns : List Int} {r : Str} (h : Txt0 rs k rows ns) (hr : r ∈ PASS) : Txt0 rs k (rows ++ [r]) ns := by
  refine ⟨h.t.skipEnd (List.all_eq_true.mp pass_ok r hr), h.n, fun q hq => ?_, fun q hq => ?_⟩
  · rcases List.mem_append.mp hq with z | z
    · exact h.l q z
    · rw [List.mem_singleton.mp z]
      have : (PASS.all fun r => decide (r.length ≤ 4000)) = true := by decide +kernel
      exact of_decide_eq_true (List.all_eq_true.mp this r hr)
  · rcases List.mem_append.mp hq with z | z
    · exact h.s q z
    · rw [List.mem_singleton.mp z]
      have : PASS.all PyData.strOk = true := by decide +kernel
      exact List.all_eq_true.mp this r hr
theorem Txt0.row {rs : List WR} {k : Nat} {rows : List Str} {row : Str} {w : WR} {l : List Nat} {ns : List Int} (h : Txt0 rs k rows ns) (hk : rs[k]? = some w) (hL : L row = List.replicate (2 * w.1) 32 ++ l) (hT : RowT false l w.2) (hn : nsg w.2 = true) (hg : allGood w.2) (hl : row.length ≤ 4000) : Txt0 rs (k + 1) (rows ++ [row]) (ns ++ [(rows.length : Int) + 1]) := by
  have t := h.t
  have hkl := (List.getElem?_eq_some_iff.mp hk).1
  refine ⟨?_, by rw [List.length_append, h.n]; rfl, fun q hq => ?_, fun q hq => ?_⟩
  · have t2 := t.rowEnd (row_not hL hT (nsg_head hT hn hg)) (row_is hL hT)
    rw [List.take_add_one, hk]
    show TextOf 0 _ (nRS _ 0 (rs.take k ++ [w]))
    rw [nRS_app]
    have e1 : nRS (fun j => (ns ++ [(rows.length : Int) + 1]).getD j 0) 0 (rs.take k) = nRS (fun j => ns.getD j 0) 0 (rs.take k) := nRS_congr 0 _ fun j _ h2 => by
      rw [List.length_take] at h2
      show (ns ++ [(rows.length : Int) + 1]).getD j 0 = ns.getD j 0
      rw [List.getD_eq_getElem?_getD, List.getD_eq_getElem?_getD, List.getElem?_append_left (by rw [h.n]; omega)]
    have e2 : 0 + (rs.take k).length = k := by rw [List.length_take]; omega
    have e3 : (ns ++ [(rows.length : Int) + 1]).getD k 0 = ((0 + rows.length : Nat) : Int) + 1 := by
      rw [List.getD_eq_getElem?_getD, List.getElem?_append_right (by rw [h.n]; omega), h.n, Nat.sub_self, Nat.zero_add]
      rfl
    rw [e1, e2]
    simp only [nRS]
    rw [e3]
    exact t2
  · rcases List.mem_append.mp hq with z | z
    · exact h.l q z
    · rw [List.mem_singleton.mp z]
      exact hl
  · rcases List.mem_append.mp hq with z | z
    · exact h.s q z
    · rw [List.mem_singleton.mp z]
      refine strOk_of fun c hc => ?_
      rw [hL] at hc
      rcases List.mem_append.mp hc with z | z
      · rw [(List.mem_replicate.mp z).2]
        decide
      · exact rowT_small hT c z
end Prs
set_option Elab.async false
set_option linter.all false
set_option maxRecDepth 100000
set_option maxHeartbeats 4000000
namespace Prs
open PySem PySem.Spec PyProof.Rows L2 Evl
/-- all but three places stays -/
def K3 (p a b : Addr) (H H' : Hp) : Prop := ∀ c o, c ≠ p → c ≠ a → c ≠ b → H c = some o → H' c = some o
theorem K3.fr {p a b : Addr} {H0 H H' : Hp} (k : K3 p a b H0 H) (f : Fr p H H') : K3 p a b H0 H' := fun c o h1 h2 h3 h => f c o h1 (k c o h1 h2 h3 h)
theorem K3.ex {p a b : Addr} {H0 H H' : Hp} (k : K3 p a b H0 H) (e : Ex H H') : K3 p a b H0 H' := fun c o h1 h2 h3 h => e c o (k c o h1 h2 h3 h)
theorem K3.upd1 {p a b : Addr} {H0 H : Hp} {o : HO} (k : K3 p a b H0 H) : K3 p a b H0 (L2.upd H a o) := fun c u h1 h2 h3 h => by
  rw [upd_ne h2]
  exact k c u h1 h2 h3 h
theorem K3.upd2 {p a b : Addr} {H0 H : Hp} {o : HO} (k : K3 p a b H0 H) : K3 p a b H0 (L2.upd H b o) := fun c u h1 h2 h3 h => by
  rw [upd_ne h3]
  exact k c u h1 h2 h3 h
/-- a row's places, none of two that are empty -/
theorem row_apart {H : Hp} {p a b : Addr} {y : Int} (hp : PurseAt H p y) (ha : H a = some (.lst [])) (hb : H b = some (.lst [])) : ∀ {rs : List WR} {vs : List V}, (∀ r ∈ rs, nsg r.2 = true) → RowVs H rs vs → ∀ (i : Nat) (v : V), vs[i]? = some v → ∃ (r : WR) (c wl : Addr), rs[i]? = some r ∧ v = V.ref c ∧ H c = some (.lst [.int (r.1 : Nat), .ref wl]) ∧ StrsAt H wl r.2 ∧ c ≠ p ∧ c ≠ a ∧ c ≠ b ∧ wl ≠ p ∧ wl ≠ a ∧ wl ≠ b
  | [], vs, _, h, i, v, hv => by
    have : vs = [] := h
    rw [this] at hv
    simp at hv
  | r :: rs, vs, ok, ⟨v0, t, e, h1, h2⟩, i, v, hv => by
    subst e
    cases i with
    | zero =>
      simp only [List.getElem?_cons_zero, Option.some.injEq] at hv
      subst hv
      obtain ⟨c, wl, rfl, g1, g2⟩ := h1
      have hne := nsg_ne (ok r List.mem_cons_self)
      have ws : ∀ q, H q = some (.lst []) → wl ≠ q := fun q hq z => by
        have h3 := g2.at_
        rw [z, hq] at h3
        have h4 := HO.lst.inj (Option.some.inj h3)
        cases hr : r.2 with
        | nil => exact hne hr
        | cons s t => rw [hr] at h4; cases h4
      refine ⟨r, c, wl, rfl, rfl, g1, g2, fun z => ?_, fun z => ?_, fun z => ?_, StrsAt.ne hp g2, ws a ha, ws b hb⟩
      · obtain ⟨x, w, hpp⟩ := hp
        rw [z, hpp] at g1
        cases g1
      · rw [z, ha] at g1
        cases g1
      · rw [z, hb] at g1
        cases g1
    | succ i =>
      rw [List.getElem?_cons_succ] at hv ⊢
      exact row_apart hp ha hb (fun q hq => ok q (List.mem_cons_of_mem _ hq)) h2 i v hv
theorem q_whileG {t : TT} {tb tz : TS} {D : Ends} {σ : L2.St} {H : Hp} (W : Nat → L2.St → Hp → Prop) (M : L2.St → Hp → Prop) (m0 : Nat) (h0 : W m0 σ H)
    (hs : ∀ m σ' H', W m σ' H' → t σ' H' fun b H1 => if b = true then ∃ N : L2.St → Hp → Prop, (∀ σ2 H2, N σ2 H2 → ∃ m', m' < m ∧ W m' σ2 H2) ∧ tb { D with nx := N, ct := N, bk := tz D } σ' H1 else tz D σ' H1) : tSeq (tWhile t tb) tz D σ H := ⟨W, ⟨m0, h0⟩, hs⟩
/-- a spot: a row's number and its words -/
def SpE (H : Hp) (p a b : Addr) (v : V) (z : Int × List Str) : Prop := ∃ c wl, v = .ref c ∧ H c = some (.lst [.int z.1, .ref wl]) ∧ StrsAt H wl z.2 ∧ (c ≠ p ∧ c ≠ a ∧ c ≠ b) ∧ wl ≠ p ∧ wl ≠ a ∧ wl ≠ b
theorem SpE.k3 {H H' : Hp} {p a b : Addr} (k : K3 p a b H H') {v : V} {z : Int × List Str} (h : SpE H p a b v z) : SpE H' p a b v z := by
  obtain ⟨c, wl, h1, h2, h3, h4, h5⟩ := h
  exact ⟨c, wl, h1, k _ _ h4.1 h4.2.1 h4.2.2 h2, ⟨k _ _ h5.1 h5.2.1 h5.2.2 h3.at_⟩, h4, h5⟩
theorem spots_k3 {H H' : Hp} {p a b : Addr} (k : K3 p a b H H') {sv : List V} {zs : List (Int × List Str)} (h : Paired (SpE H p a b) sv zs) : Paired (SpE H' p a b) sv zs := Paired.mapP h fun _ _ q => q.k3 k
theorem K3.refl {p a b : Addr} {H : Hp} : K3 p a b H H := fun _ _ _ _ _ h => h
theorem spots_app {α β : Type} {F : α → β → Prop} : ∀ {a c : List α} {b d : List β}, Paired F a b → Paired F c d → Paired F (a ++ c) (b ++ d)
  | _, _, _, _, .nil, h => h
  | _, _, _, _, .cons r t, h => .cons r (spots_app t h)
section
variable {P : Program} {w : World} {K : PySem.W.Frag} {mg : Str → Option Value} {base : Heap}
def spTextW : Sp := fun vs H Q _ => ∃ (p : Addr) (v : V) (d : PyData) (y : Int), vs = [.ref p, v] ∧ PurseAt H p y ∧ 0 ≤ y ∧ y < 68700000000 ∧ ChD d ∧ DT H d v ∧ Drawn p y 400000 H (fun H' u => ∃ t rl sl rows rs sv zs, u = .ref t ∧ H' t = some (.lst [.ref rl, .ref sl]) ∧ StrsAt H' rl rows ∧ H' sl = some (.lst sv) ∧ WCh d rs ∧ Txt0 rs rs.length rows (zs.map (·.1)) ∧ rows.length ≤ 700 ∧ rs.length ≤ rows.length ∧ zs.map (·.2) = rs.map (·.2) ∧ Paired (SpE H' p rl sl) sv zs ∧ (H rl = none ∧ H sl = none)) Q
theorem scTextW : FnScope ["_law_purse_here", "_law_chart_here", "_law_rows", "_law_spots", "_law_depth", "_law_words"] ["_law_purse_here", "_law_chart_here"] (defScope lText) := ⟨rfl, rfl, rfl, by decide +kernel, rfl, by decide +kernel, by decide +kernel⟩
set_option maxHeartbeats 0 in
theorem ok_textW (G : Gn K mg) (gs : mg "str" = none) (gl : mg "list" = none) (gi : mg "int" = none) (ge : mg "enumerate" = none) (gz : mg "zip" = none) (DTx : Df K mg "_law_text" lText ["_law_purse_here", "_law_chart_here"]) (DR : Df K mg "_law_row_text" lRowText ["_law_purse_here", "_law_depth", "_law_words"]) (DC : Df K mg "_law_chart_rows" lChartW ["_law_purse_here", "_law_chart_here"]) (D : Df K mg "_law_stand_rows" lStandW ["_law_purse_here", "_law_stand", "_law_depth"]) (DMv : Df K mg "_law_move_words" lMoveW ["_law_purse_here", "_law_move_here"]) (DG : Df K mg "_law_guard_words" lGuardW ["_law_purse_here", "_law_guard_here"]) (DD : Df K mg "_law_deeds_words" lDeedsW ["_law_purse_here", "_law_deeds_here"]) (DT' : Df K mg "_law_term_words" lTermW ["_law_purse_here", "_law_term_here"]) (DA : Df K mg "_law_around" lAround ["_law_purse_here", "_law_words", "_law_wanted"]) (DK : Df K mg "_law_take" lTake ["_law_purse_here", "_law_far"]) (DM : Df K mg "_law_mixed" lMixed ["_law_cell", "_law_k"]) :
    FnOk P w K mg base CX0 15 DTx.f DTx.fd ["_law_purse_here", "_law_chart_here"] spTextW := by
  have GC : FnOk P w K mg base CX0 14 DC.f DC.fd ["_law_purse_here", "_law_chart_here"] spChartW := ok_chartW gs gl gi ge DC D DMv DG DD DT' DA DK DM
  have GR : FnOk P w K mg base CX0 3 DR.f DR.fd ["_law_purse_here", "_law_depth", "_law_words"] spRowTx := ok_rowTx gi gz DR DK DM
  have GT : FnOk P w K mg base CX0 2 DK.f DK.fd ["_law_purse_here", "_law_far"] spLTake := ok_ltake DK.F DM
  refine DTx.F.ok scTextW (fun vs H Q E h => ?_) (fun cdv A outer s H vs Q E hr h => ?_)
  · obtain ⟨p, v, d, y, rfl, _⟩ := h
    rfl
  · obtain ⟨p, v, d, y, rfl, hp, y0, y1, hc, hd, q⟩ := h
    have hr2 : Room 2 _ := hr.mono (by decide)
    have hr3 : Room 3 _ := hr.mono (by decide)
    refine ⟨_, pss_cons (ps_set (i := 2) scTextW.nd rfl (.inl rfl) (pe_lst pa_nil))
      (pss_cons (ps_set (i := 3) scTextW.nd rfl (.inl rfl) (pe_lst pa_nil))
      (pss_cons (ps_for PassesOwn.never rfl (pi_list (pe_call GC hr rfl DC.m DC.F.kp DC.b .nil pass0 (pa_cons (pv 0) (pa_cons (pv 1) pa_nil)))) (pg_unl rfl (pgs_cons (pg_name (i := 4) scTextW.nd rfl (.inl rfl)) (pgs_cons (pg_name (i := 5) scTextW.nd rfl (.inl rfl)) pgs_nil)))
        (pss_cons (ps_while PassesOwn.never (PW.pt (pw_and (pt_cmpR op_lt (pe_callB call_len_seq (by rfl) G.len PySem.boot_len (pa_cons (pv 2) pa_nil)) pe_int (nomark _)) (pw_and1 (pt_cmpR op_eq (pe_call GT hr2 rfl DK.m DK.F.kp DK.b .nil pass0 (pa_cons (pv 0) (pa_cons pe_int pa_nil))) pe_int (nomark _)))))
          (pss_one (ps_expr (pe_bm PySem.F.plainAttrs_list PySem.F.slot_list_append PySem.F.type_list_append mt_append (pv 2) (pa_cons (pe_ix ix_list (pe_lst (pa_cons pe_str (pa_cons pe_str (pa_cons pe_str (pa_cons pe_str pa_nil))))) (pe_call GT hr2 rfl DK.m DK.F.kp DK.b .nil pass0 (pa_cons (pv 0) (pa_cons pe_int pa_nil))) (fun _ _ => rfl)) pa_nil)))))
        (pss_cons (ps_expr (pe_bm PySem.F.plainAttrs_list PySem.F.slot_list_append PySem.F.type_list_append mt_append (pv 2) (pa_cons (pe_call GR hr3 rfl DR.m DR.F.kp DR.b .nil pass0 (pa_cons (pv 0) (pa_cons (pv 4) (pa_cons (pv 5) pa_nil)))) pa_nil)))
        (pss_one (ps_expr (pe_bm PySem.F.plainAttrs_list PySem.F.slot_list_append PySem.F.type_list_append mt_append (pv 3) (pa_cons (pe_lst (pa_cons (pe_callB call_len_seq (by rfl) G.len PySem.boot_len (pa_cons (pv 2) pa_nil)) (pa_cons (pv 5) pa_nil))) pa_nil)))))))
      (pss_one (ps_ret (pe_lst (pa_cons (pv 2) (pa_cons (pv 3) pa_nil))))))), ?_⟩
    refine q_asgL (xs := []) (el_lst ea_nil (by show 0 ≤ 100000; decide)) fun rl H1 n1 e1 h1 => ?_
    refine q_asgL (xs := []) (el_lst ea_nil (by show 0 ≤ 100000; decide)) fun sl H2 n2 e2 h2 => ?_
    have e12 := e1.trans e2
    have hp2 := hp.ex e12
    have rlp : rl ≠ p := hp.ne n1
    have slp : sl ≠ p := (hp.ex e1).ne n2
    have rsl : rl ≠ sl := fun z => by rw [z, n2] at h1; cases h1
    have n2H : H sl = none := by
      cases e : H sl with
      | none => rfl
      | some u =>
        rw [e1 _ _ e] at n2
        cases n2
    refine ⟨.ref p, rfl, v, rfl, p, v, d, y, rfl, hp2, y0, by omega, hc, DT.tf (TF.ex e12) _ _ hd, fun u y2 H3 f3 hp3 m1 m2 rr => ?_⟩
    obtain ⟨cl, rs, rfl, hra, wch⟩ := rr
    obtain ⟨vs, hcl, hrv⟩ := hra
    have hvl := hrv.len
    have hrl3 : H3 rl = some (.lst []) := f3 _ _ rlp (e2 _ _ h1)
    have hsl3 : H3 sl = some (.lst []) := f3 _ _ slp h2
    have hap := row_apart hp3 hrl3 hsl3 (fun r hr => (wch.ok r hr).1) hrv
    have f03 : Fr p H H3 := (Fr.ex e12).trans f3
    have wcl := wch.l
    have clp : cl ≠ p := fun z => by
      obtain ⟨x, w, hpp⟩ := hp3
      rw [z, hpp] at hcl
      have h4 := HO.lst.inj (Option.some.inj hcl)
      obtain ⟨a, e⟩ := hrv.refs (.int x) (by rw [← h4]; simp)
      cases e
    have hne : vs ≠ [] := fun z => by
      have h0 : rs = [] := List.length_eq_zero_iff.mp (by rw [← hvl, z]; rfl)
      obtain ⟨pls, hk⟩ := wch.k (fun _ => 0) 0
      rw [h0] at hk
      simp only [nRS] at hk
      generalize e : ([] : List RS) = zz at hk
      cases hk
      exact absurd e (by simp)
    have clr : cl ≠ rl := fun z => by
      rw [z, hrl3] at hcl
      exact hne (HO.lst.inj (Option.some.inj hcl)).symm
    have cls : cl ≠ sl := fun z => by
      rw [z, hsl3] at hcl
      exact hne (HO.lst.inj (Option.some.inj hcl)).symm
    have k3f : ∀ {Hx : Hp}, K3 p rl sl H3 Hx → Fr p H Hx := fun k c o hc' ho => k c o hc' (ne_of_none ho n1) (ne_of_none ho n2H) (f03 c o hc' ho)
    refine ⟨cl, rfl, ⟨_, sq_of hcl⟩, for_it (walk_list (K := K) (xs := vs)) (fun i σ H' => K3 p rl sl H3 H' ∧ ∃ (y' : Int) (rows : List Str) (sv : List V) (zs : List (Int × List Str)) (v4 v5 : Option V), (zs.map (·.2) = (rs.take i).map (·.2) ∧ Paired (SpE H' p rl sl) sv zs) ∧ PurseAt H' p y' ∧ y2 ≤ y' ∧ y' ≤ y2 + 610 * i + 2 * rows.length ∧ σ = [some (.ref p), some v, some (.ref rl), some (.ref sl), v4, v5] ∧ StrsAt H' rl rows ∧ Txt0 rs i rows (zs.map (·.1)) ∧ rows.length ≤ 180 + i ∧ i ≤ rows.length ∧ H' sl = some (.lst sv) ∧ sv.length = i) ⟨fun _ _ _ _ _ h => h, y2, [], [], [], none, none, ⟨by rw [List.take_zero]; rfl, .nil⟩, hp3, Int.le_refl _, by simp, rfl, ⟨hrl3⟩, ⟨by rw [List.take_zero]; exact .nil, rfl, (fun _ h => by cases h), (fun _ h => by cases h)⟩, by simp, by simp, hsl3, rfl⟩ (fun i σ H' _ z => sq_of (z.1 _ _ clp clr cls hcl)) (fun i x σ H' H'' hi z Y => ?_) (fun σ H' z => ?_)⟩
    · obtain ⟨k3, y3, rows, sv, zs, v4, v5, ⟨hzs, hpz⟩, hp4, a1, a2, rfl, hrl, htx, b1, b2, hsl, hsv⟩ := z
      obtain ⟨rfl, hx⟩ := Y
      obtain ⟨r, c, wl, hr, rfl, hc3, hw3, q1, q2, q3, q4, q5, q6⟩ := hap i x hx
      have hil := (List.getElem?_eq_some_iff.mp hr).1
      have rok := wch.ok r (List.mem_of_getElem? hr)
      refine ⟨c, _, rfl, sq_of (k3 _ _ q1 q2 q3 hc3), rfl, .int (r.1 : Nat), _, rfl, .ref wl, _, rfl, rfl, ?_⟩
      refine q_whileG (fun m σ1 H4 => ∃ (rows : List Str) (y' : Int), m = 1000 - rows.length ∧ Paired (SpE H4 p rl sl) sv zs ∧ K3 p rl sl H3 H4 ∧ PurseAt H4 p y' ∧ y2 ≤ y' ∧ y' ≤ y2 + 610 * i + 2 * rows.length ∧ σ1 = [some (.ref p), some v, some (.ref rl), some (.ref sl), some (.int (r.1 : Nat)), some (.ref wl)] ∧ StrsAt H4 rl rows ∧ Txt0 rs i rows (zs.map (·.1)) ∧ rows.length ≤ 180 + i ∧ i ≤ rows.length ∧ H4 sl = some (.lst sv)) (fun _ _ => True) _ ⟨rows, y3, rfl, hpz, k3, hp4, a1, a2, rfl, hrl, htx, b1, b2, hsl⟩ fun m σ1 H4 hw => ?_
      clear a1 a2 hrl htx b1 b2 hsl hp4 k3 hpz
      obtain ⟨rows, y3, rfl, hpz, k3, hp4, a1, a2, rfl, hrl, htx, b1, b2, hsl⟩ := hw
      have after : ∀ (E1 : XK) (Dx : Ends) (rows : List Str) (y4 : Int) (H5 : Hp), Paired (SpE H5 p rl sl) sv zs → K3 p rl sl H3 H5 → PurseAt H5 p y4 → y2 ≤ y4 → y4 ≤ y2 + 610 * i + 2 * rows.length + 1 → StrsAt H5 rl rows → Txt0 rs i rows (zs.map (·.1)) → rows.length ≤ 180 + i → i ≤ rows.length → H5 sl = some (.lst sv) →
          (∀ (H9 : Hp) (y9 : Int) (rows9 : List Str) (sv9 : List V) (zs9 : List (Int × List Str)), zs9.map (·.2) = (rs.take (i + 1)).map (·.2) → Paired (SpE H9 p rl sl) sv9 zs9 → K3 p rl sl H3 H9 → PurseAt H9 p y9 → y2 ≤ y9 → y9 ≤ y2 + 610 * (i + 1 : Nat) + 2 * rows9.length → StrsAt H9 rl rows9 → Txt0 rs (i + 1) rows9 (zs9.map (·.1)) → rows9.length ≤ 180 + (i + 1) → i + 1 ≤ rows9.length → H9 sl = some (.lst sv9) → sv9.length = i + 1 → Dx.nx [some (.ref p), some v, some (.ref rl), some (.ref sl), some (.int (r.1 : Nat)), some (.ref wl)] H9) →
          tSeq (tDrop (tBM K "list" rAppend (tVar 2) (tCons (tCall spRowTx [] E1 (tCons (tVar 0) (tCons (tVar 4) (tCons (tVar 5) tNil)))) tNil))) (tDrop (tBM K "list" rAppend (tVar 3) (tCons (tLst (tCons (tCB (rLenS K) (tCons (tVar 2) tNil)) (tCons (tVar 5) tNil))) tNil))) Dx [some (.ref p), some v, some (.ref rl), some (.ref sl), some (.int (r.1 : Nat)), some (.ref wl)] H5 := fun E1 Dx rows y4 H5 hpz5 k5 hp5 c1 c2 hrl5 htx5 b1 b2 hsl5 kk => by
        have hw5 : StrsAt H5 wl r.2 := ⟨k5 _ _ q4 q5 q6 hw3.at_⟩
        refine ⟨.ref rl, rfl, .inl ⟨rfl, _, sq_of hrl5.at_⟩, .ref p, rfl, .int (r.1 : Nat), rfl, .ref wl, rfl, p, wl, r.1, y4, r.2, rfl, hp5, by omega, by omega, hw5, nsg_ne rok.1, rok.2.1, rok.2.2.1, rok.2.2.2, fun u y5 H6 f6 hp6 m3 m4 rr => ?_⟩
        obtain ⟨row, l, rfl, hL, hT, hlen⟩ := rr
        have hrl6 : StrsAt H6 rl rows := ⟨f6 _ _ rlp hrl5.at_⟩
        have hsl6 := f6 _ _ slp hsl5
        refine ⟨rl, _, .str row, rfl, rfl, hrl6.at_, sz_lt (by rw [List.length_map]; omega), ?_⟩
        have k6 : K3 p rl sl H3 (L2.upd H6 rl (.lst (rows.map V.str ++ [V.str row]))) := (k5.fr f6).upd1
        have hp7 : PurseAt (L2.upd H6 rl (.lst (rows.map V.str ++ [V.str row]))) p y5 := pur_upd hp6 rlp
        have hrl7 : StrsAt (L2.upd H6 rl (.lst (rows.map V.str ++ [V.str row]))) rl (rows ++ [row]) := ⟨by rw [upd_same, List.map_append]; rfl⟩
        have hsl7 : (L2.upd H6 rl (.lst (rows.map V.str ++ [V.str row]))) sl = some (.lst sv) := by rw [upd_ne (Ne.symm rsl)]; exact hsl6
        have k67 : ∀ Hx : Hp, K3 p rl sl Hx H6 → K3 p rl sl Hx (L2.upd H6 rl (.lst (rows.map V.str ++ [V.str row]))) := fun Hx k => k.upd1
        revert k6 hp7 hrl7 hsl7 k67
        generalize (L2.upd H6 rl (.lst (rows.map V.str ++ [V.str row]))) = H7
        intro k6 hp7 hrl7 hsl7 k67
        refine ⟨.ref sl, rfl, .inl ⟨rfl, _, sq_of hsl7⟩, .ref rl, rfl, rl, _, rfl, Or.inl (sq_of hrl7.at_), .ref wl, rfl, by show 2 ≤ sizeLine; exact sz_of (by decide), fun b nb => ?_⟩
        have e8 := fr_new (o := .lst [.int (((rows ++ [row]).map V.str).length : Nat), .ref wl]) nb
        refine ⟨sl, _, .ref b, rfl, rfl, e8 _ _ hsl7, sz_lt (by omega), ?_⟩
        have k57 : K3 p rl sl H5 H7 := by
          have : K3 p rl sl H5 H6 := K3.refl.fr f6
          exact k67 _ this
        have hpz9 : Paired (SpE (L2.upd (L2.upd H7 b (.lst [.int (((rows ++ [row]).map V.str).length : Nat), .ref wl])) sl (.lst (sv ++ [.ref b]))) p rl sl) (sv ++ [.ref b]) (zs ++ [((rows.length : Int) + 1, r.2)]) := by
          refine spots_app (spots_k3 ((k57.ex e8).upd2) hpz5) (.cons ⟨b, wl, rfl, ?_, ⟨?_⟩, ⟨hp7.ne nb, ?_, ?_⟩, q4, q5, q6⟩ .nil)
          · rw [upd_ne (ne_old hsl7 nb), upd_same]
            simp only [List.length_map, List.length_append, List.length_singleton]
            rfl
          · rw [upd_ne q6]
            exact (e8 _ _ (k57 _ _ q4 q5 q6 hw5.at_))
          · exact ne_old hrl7.at_ nb
          · exact ne_old hsl7 nb
        have hzs9 : (zs ++ [((rows.length : Int) + 1, r.2)]).map (·.2) = (rs.take (i + 1)).map (·.2) := by
          rw [List.map_append, hzs, List.take_add_one, hr, List.map_append]
          rfl
        refine kk _ y5 (rows ++ [row]) (sv ++ [.ref b]) (zs ++ [((rows.length : Int) + 1, r.2)]) hzs9 hpz9 ((k6.ex e8).upd2) (pur_upd (hp7.ex e8) slp) (by omega) (by simp only [List.length_append, List.length_singleton]; push_cast; omega) ⟨by rw [upd_ne rsl]; exact e8 _ _ hrl7.at_⟩ (by rw [List.map_append]; exact htx5.row hr hL hT rok.1 rok.2.1 hlen) (by simp only [List.length_append, List.length_singleton]; omega) (by simp only [List.length_append, List.length_singleton]; omega) upd_same (by simp [hsv])
      have len4 : Ev (tCB (rLenS K) (tCons (tVar 2) tNil)) [some (.ref p), some v, some (.ref rl), some (.ref sl), some (.int (r.1 : Nat)), some (.ref wl)] H4 (.int ((rows.map V.str).length : Nat)) := ev_len (ev_var rfl) (sq_of hrl.at_)
      refine (et_test (ev_op len4 ev_c rv_I0) : EvT (tTest (tOp (rI0 fun i j => V.bl (decide (i < j))) (tCB (rLenS K) (tCons (tVar 2) tNil)) (tC (.int 180)))) _ H4 (decide (((rows.map V.str).length : Int) < 180))) H4 (Ex.refl H4) _ fun H5 e5 => ?_
      have hp5 := hp4.ex e5
      have hrl5 : StrsAt H5 rl rows := ⟨e5 _ _ hrl.at_⟩
      have hsl5 := e5 _ _ hsl
      have k5 : K3 p rl sl H3 H5 := fun c o x1 x2 x3 h => e5 _ _ (k3 c o x1 x2 x3 h)
      have hpz5 : Paired (SpE H5 p rl sl) sv zs := spots_k3 (fun c o _ _ _ h => e5 c o h) hpz
      clear len4 hp4 hrl hsl k3 e5 hpz
      cases hb : decide (((rows.map V.str).length : Int) < 180) with
      | true =>
        have hlt := of_decide_eq_true hb
        rw [List.length_map] at hlt
        refine ⟨.ref p, rfl, p, 6, y3, rfl, by decide, by decide, hp5, by omega, by omega, fun d y4 H6 d0 d1 c1 c2 f6 hp6 => ⟨rfl, _, rfl, ite_of (fun hd => ?_) (fun hd => ?_)⟩⟩
        · have hrl6 : StrsAt H6 rl rows := ⟨f6 _ _ rlp hrl5.at_⟩
          have hsl6 := f6 _ _ slp hsl5
          refine ⟨fun σ' H' => ∃ (rows' : List Str) (y' : Int), rows'.length = rows.length + 1 ∧ Paired (SpE H' p rl sl) sv zs ∧ K3 p rl sl H3 H' ∧ PurseAt H' p y' ∧ y2 ≤ y' ∧ y' ≤ y2 + 610 * i + 2 * rows'.length ∧ σ' = [some (.ref p), some v, some (.ref rl), some (.ref sl), some (.int (r.1 : Nat)), some (.ref wl)] ∧ StrsAt H' rl rows' ∧ Txt0 rs i rows' (zs.map (·.1)) ∧ rows'.length ≤ 180 + i ∧ i ≤ rows'.length ∧ H' sl = some (.lst sv), fun σ' H' z => ?_, ?_⟩
          · obtain ⟨rows', y', g1, z⟩ := z
            exact ⟨1000 - rows'.length, by omega, rows', y', rfl, z⟩
          · refine ⟨.ref rl, rfl, .inl ⟨rfl, _, sq_of hrl6.at_⟩, by show 4 ≤ sizeLine; exact sz_of (by decide), fun lq nq => ⟨.ref p, rfl, p, 4, y4, rfl, by decide, by decide, hp6.ex (fr_new nq), by omega, by omega, fun d2 y5 H7 d20 d21 g1 g2 f7 hp7 => ?_⟩⟩
            have e6 := fr_new (o := .lst (PASS.map V.str)) nq
            have lqp : lq ≠ p := hp6.ne nq
            have hlq : H7 lq = some (.lst (PASS.map V.str)) := f7 _ _ lqp upd_same
            obtain ⟨d2, rfl⟩ := Int.eq_ofNat_of_zero_le d20
            obtain ⟨ps, hps1, hps2⟩ : ∃ ps ∈ PASS, atI (PASS.map V.str) (d2 : Int) = some (.str ps) := by
              rcases (by omega : d2 = 0 ∨ d2 = 1 ∨ d2 = 2 ∨ d2 = 3) with rfl | rfl | rfl | rfl
              · exact ⟨"", by simp [PASS], rfl⟩
              · exact ⟨"    ", by simp [PASS], rfl⟩
              · exact ⟨"-- one x", by simp [PASS], rfl⟩
              · exact ⟨"   --", by simp [PASS], rfl⟩
            have hrl7 : StrsAt H7 rl rows := ⟨f7 _ _ rlp (e6 _ _ hrl6.at_)⟩
            have hsl7 := f7 _ _ slp (e6 _ _ hsl6)
            refine ⟨lq, _, _, .str ps, rfl, rfl, sq_of hlq, hps2, rl, _, .str ps, rfl, rfl, hrl7.at_, sz_lt (by rw [List.length_map]; omega), rows ++ [ps], y5, by simp, spots_k3 ((((K3.refl.fr f6).ex e6).fr f7).upd1) hpz5, (((k5.fr f6).ex e6).fr f7).upd1, pur_upd hp7 rlp, by omega, by simp only [List.length_append, List.length_singleton]; push_cast; omega, rfl, ⟨by rw [upd_same, List.map_append]; rfl⟩, htx.skip hps1, by simp only [List.length_append, List.length_singleton]; omega, by simp only [List.length_append, List.length_singleton]; omega, ?_⟩
            rw [upd_ne (Ne.symm rsl)]
            exact hsl7
        · exact after _ _ rows y4 H6 (spots_k3 (K3.refl.fr f6) hpz5) (k5.fr f6) hp6 (by omega) (by omega) ⟨f6 _ _ rlp hrl5.at_⟩ htx b1 b2 (f6 _ _ slp hsl5) fun H9 y9 rows9 sv9 zs9 x1 x2 z1 z2 z3 z4 z5 z6 z7 z8 z9 z10 => ⟨z1, y9, rows9, sv9, zs9, _, _, ⟨x1, x2⟩, z2, z3, z4, rfl, z5, z6, z7, z8, z9, z10⟩
      | false =>
        exact after _ _ rows y3 H5 hpz5 k5 hp5 a1 (by omega) hrl5 htx b1 b2 hsl5 fun H9 y9 rows9 sv9 zs9 x1 x2 z1 z2 z3 z4 z5 z6 z7 z8 z9 z10 => ⟨z1, y9, rows9, sv9, zs9, _, _, ⟨x1, x2⟩, z2, z3, z4, rfl, z5, z6, z7, z8, z9, z10⟩
    · obtain ⟨k3, y3, rows, sv, zs, v4, v5, ⟨hzs, hpz⟩, hp4, a1, a2, rfl, hrl, htx, b1, b2, hsl, hsv⟩ := z
      rw [hvl] at htx b1 b2 a2 hsv hzs
      rw [List.take_length] at hzs
      refine ⟨.ref rl, rfl, .ref sl, rfl, by show 2 ≤ sizeLine; exact sz_of (by decide), fun t nt => ?_⟩
      have e9 : Ex H' (L2.upd H' t (.lst [.ref rl, .ref sl])) := fr_new nt
      exact q _ y3 _ ((k3f k3).trans (Fr.ex e9)) (hp4.ex e9) (by omega) (by omega) ⟨t, rl, sl, rows, rs, sv, zs, rfl, upd_same, ⟨e9 _ _ hrl.at_⟩, e9 _ _ hsl, wch, htx, by omega, b2, hzs, spots_k3 (fun c o _ _ _ h => e9 c o h) hpz, n1, n2H⟩
end
end Prs
set_option Elab.async false
set_option linter.all false
set_option maxRecDepth 100000
set_option maxHeartbeats 4000000
namespace Prs
open PySem PySem.Spec PyProof.Rows L2 Evl
/-! ### the shape of a drawn chart -/
theorem wh_shape {d : PyData} (h : WhD d) : d.canLay0 = true ∧ d.depth ≤ 1 := by
  cases h with
  | on hx =>
    have e : PyData.strOk "on" = true := by decide +kernel
    refine ⟨by simp only [PyData.canLay0, PyData.canLayAll0, e, in_str ons_str hx, Bool.and_self], ?_⟩
    simp only [PyData.depth, PyData.depthAll]
    omega
  | after _ _ =>
    have e : PyData.strOk "after" = true := by decide +kernel
    refine ⟨by simp only [PyData.canLay0, PyData.canLayAll0, e, Bool.and_self], ?_⟩
    simp only [PyData.depth, PyData.depthAll]
    omega
  | done =>
    have e : PyData.strOk "done" = true := by decide +kernel
    refine ⟨by simp only [PyData.canLay0, PyData.canLayAll0, e, Bool.and_self], ?_⟩
    simp only [PyData.depth, PyData.depthAll]
    omega
theorem go_shape {d : PyData} (h : GoD d) : d.canLay0 = true ∧ d.depth ≤ 2 := by
  cases h with
  | no => exact ⟨by simp only [PyData.canLay0, PyData.canLayAll0], by simp only [PyData.depth, PyData.depthAll]; omega⟩
  | one hx => exact ⟨by simp only [PyData.canLay0, PyData.canLayAll0, name_strOk hx, Bool.and_self], by simp only [PyData.depth, PyData.depthAll]; omega⟩
theorem desD_shape {d : PyData} (h : DesD d) : d.canLay0 = true ∧ d.depth ≤ 5 := by
  obtain ⟨ds, rfl, _, hd⟩ := h
  have i := des_shape fun x hx => de_shape (hd x hx)
  refine ⟨by simp only [PyData.canLay0]; exact i.1, ?_⟩
  simp only [PyData.depth]
  omega
theorem mv_shape {d : PyData} (h : MvD d) : d.canLay0 = true ∧ d.depth ≤ 6 := by
  cases h with
  | mk h1 h2 h3 h4 =>
    have i1 := wh_shape h1
    have i2 := gu_shape h2
    have i3 := desD_shape h3
    have i4 := go_shape h4
    refine ⟨by simp only [PyData.canLay0, PyData.canLayAll0, i1.1, i2.1, i3.1, i4.1, Bool.and_self], ?_⟩
    simp only [PyData.depth, PyData.depthAll]
    omega
theorem st_shape : ∀ {n : Nat} {so : Str} {d : PyData}, StD n so d → d.canLay0 = true ∧ d.depth ≤ 8 + 2 * n
  | 0, _, _, h => h.elim
  | n + 1, so, d, h => by
    rcases h with ⟨nm, rfl, h1, h2, _⟩ | ⟨nm, ds, ms, into, out, rfl, h1, h2, _, h4, _, _, h7, h8, h9, _⟩
    · refine ⟨by simp only [PyData.canLay0, PyData.canLayAll0, name_strOk h1, sort_str h2, Bool.and_self], ?_⟩
      simp only [PyData.depth, PyData.depthAll]
      omega
    · have i1 := des_shape fun x hx => by
        obtain ⟨s, hs⟩ := h4 x hx
        exact st_shape hs
      have i2 := des_shape fun x hx => mv_shape (h9 x hx)
      have i3 := desD_shape h7
      have i4 := desD_shape h8
      refine ⟨by simp only [PyData.canLay0, PyData.canLayAll0, name_strOk h1, sort_str h2, i1.1, i2.1, i3.1, i4.1, Bool.and_self], ?_⟩
      simp only [PyData.depth, PyData.depthAll]
      omega
theorem fa_shape {d : PyData} (h : FaD d) : d.canLay0 = true ∧ d.depth ≤ 1 := by
  cases h with
  | mk hx _ _ _ _ _ _ =>
    refine ⟨by simp only [PyData.canLay0, PyData.canLayAll0, in_str facts_str hx, Bool.and_self], ?_⟩
    simp only [PyData.depth, PyData.depthAll]
    omega
theorem ch_shape {d : PyData} (h : ChD d) : SeqAt.shaped d = true := by
  cases h with
  | @mk fs os so d h1 _ h3 _ _ h6 =>
    have i1 := des_shape fun x hx => fa_shape (h1 x hx)
    have i2 : PyData.canLayAll0 (os.map PyData.str) = true ∧ PyData.depthAll (os.map PyData.str) ≤ 0 := des_shape fun x hx => by
      obtain ⟨y, hy, rfl⟩ := List.mem_map.mp hx
      exact ⟨by simp only [PyData.canLay0]; exact in_str ons_str (h3 y hy), by simp only [PyData.depth]; omega⟩
    have i3 := st_shape h6
    refine shp_of ⟨by simp only [PyData.canLay0, PyData.canLayAll0, i1.1, i2.1, i3.1, Bool.and_self], ?_⟩
    simp only [PyData.depth, PyData.depthAll]
    omega
end Prs
set_option Elab.async false
set_option linter.all false
set_option maxRecDepth 100000
set_option maxHeartbeats 4000000
namespace Prs
open PySem PySem.Spec PyProof.Rows L2 Evl
theorem boot_min : bootBuiltins "min" = some (.builtin "min") := by decide +kernel
theorem boot_max : bootBuiltins "max" = some (.builtin "max") := by decide +kernel
theorem sq_fr {K : PySem.W.Frag} {p a : Addr} {H H' : Hp} {xs : List V} (hS : SqL K H a xs) (np : H p = none) (f : Fr p H H') : SqL K H' a xs := ex_l (fun b o h => f b o (ne_of_none h np) h) hS
theorem wch_ne {d : PyData} {rs : List WR} (h : WCh d rs) : rs ≠ [] := fun h0 => by
  obtain ⟨pls, hk⟩ := h.k (fun _ => 0) 0
  rw [h0] at hk
  simp only [nRS] at hk
  generalize e : ([] : List RS) = zz at hk
  cases hk
  exact absurd e (by simp)
theorem top_of : ∀ {ns : List Int}, 0 < ns.length → ∃ m, m ∈ ns ∧ ∀ y, y ∈ ns → y ≤ m
  | [], h => absurd h (by simp)
  | [n], _ => ⟨n, by simp, fun y hy => by simp at hy; omega⟩
  | n :: k :: ns, _ => by
    obtain ⟨m, h1, h2⟩ := top_of (ns := k :: ns) (by simp)
    by_cases h : m ≤ n
    · refine ⟨n, List.mem_cons_self, fun y hy => ?_⟩
      rcases List.mem_cons.mp hy with q | q
      · omega
      · have := h2 y q
        omega
    · refine ⟨m, List.mem_cons_of_mem _ h1, fun y hy => ?_⟩
      rcases List.mem_cons.mp hy with q | q
      · omega
      · exact h2 y q
theorem text_read {d : PyData} {rs : List WR} {rows : List Str} {ns : List Int} (h : WCh d rs) (t : Txt0 rs rs.length rows ns) : readM 10 4 rows = some (.inr d) := by
  have u := t.t
  rw [List.take_length] at u
  obtain ⟨pls, hk⟩ := h.k (fun j => ns.getD j 0) 0
  exact read_ok (Nat.le_refl _) hk u
theorem takesN {X : Cx} : L2.Takes X (fun _ _ _ _ => False) := fun _ _ x => by
  obtain ⟨_, _, _, _, _, _, _, _, _, _, _, _, _, _, _, _, z⟩ := x
  exact z.elim
def lensOf (rows : List Str) : List Int := (List.range rows.length).map fun i => (((rows.getD i "").length : Nat) : Int)
theorem lens_given (rows : List Str) : given rows.length (fun _ => true) (fun i => V.int (((rows.getD i "").length : Nat) : Int)) = (lensOf rows).map V.int := by
  unfold given lensOf
  rw [List.map_map, List.filter_eq_self.mpr (fun _ _ => rfl)]
  rfl
section
variable {K : PySem.W.Frag} {σ : L2.St} {H : Hp} {te ta tb : TE}
theorem ev_max {ns : List Int} {m : Int} (h : EvL te σ H (ns.map V.int)) (h1 : m ∈ ns) (h2 : ∀ y, y ∈ ns → y ≤ m) : Ev (tCB (rMax K) (tCons te tNil)) σ H (.int m) := fun H1 e Q q =>
  h H1 e _ fun p H2 np e2 hp => ⟨p, ns, rfl, sq_of hp, List.length_pos_of_mem h1, fun k k1 k2 => by
    have a1 := k2 m h1
    have a2 := h2 k k1
    have : k = m := by omega
    rw [this]
    exact q H2 e2⟩
theorem ev_noD {d e : PyData} (ha : EvD ta σ H d) (hb : EvD tb σ H e) (sd : SeqAt.shaped d = true) (se : SeqAt.shaped e = true) (h : PyData.eqv d e = true) : Ev (tOp (rNeD K) ta tb) σ H (.bl false) := fun H1 e1 Q q =>
  ha H1 e1 _ fun x H2 e2 hx => hb H2 (e1.trans e2) _ fun y H3 e3 hy => ⟨d, e, dp_of _ _ (DT.tf (TF.ex e3) _ _ hx), dp_of _ _ hy, sd, se, by rw [h]; exact q H3 (e2.trans e3)⟩
theorem shaped_eqv {d : PyData} (h : SeqAt.shaped d = true) : PyData.eqv d d = true := by
  unfold SeqAt.shaped at h
  rw [Bool.and_eq_true] at h
  exact SeqAt.eqv_refl d h.1
theorem ev_sameL {i j : Nat} {a b : Addr} {xs : List Str} (h1 : σ[i]? = some (some (.ref a))) (h2 : σ[j]? = some (some (.ref b))) (ha : StrsAt H a xs) (hb : StrsAt H b xs) (ok : okStrs xs = true) : Ev (tOp (rNeD K) (tVar i) (tVar j)) σ H (.bl false) := fun H1 e Q q =>
  ⟨.ref a, h1, .ref b, h2, .list (xs.map PyData.str), .list (xs.map PyData.str), .lst (sq_of (e _ _ ha.at_)) dp_strs, .lst (sq_of (e _ _ hb.at_)) dp_strs, shp_strs ok, shp_strs ok, by
    rw [shaped_eqv (shp_strs ok)]
    exact q H1 (Ex.refl H1)⟩
end
section
variable {P : Program} {w : World} {K : PySem.W.Frag} {mg : Str → Option Value} {base : Heap} {C : Cn P w K mg base}
theorem acc_told {H0 : Hp} {Q : VK} {E : XK} {x : ResT PyData} {d : PyData} (h : x = some (.inr d)) (k : ∀ v H', Ex H0 H' → DT H' d v → Q v H') : AccC C H0 Q E x := by
  rw [h]
  exact k
theorem ed_read {σ : L2.St} {H : Hp} {i : Nat} {rl : Addr} {rows : List Str} {d : PyData} {E : XK} (h : σ[i]? = some (some (.ref rl))) (hr : StrsAt H rl rows) (h5 : rows.length ≤ 500) (hl : ∀ r ∈ rows, r.length ≤ 10000) (hd : readM 10 4 rows = some (.inr d)) :
    EvD (tCall (spRead C 10 4) [] E (tCons (tVar i) tNil)) σ H d := fun H1 e Q q => ⟨.ref rl, h, rl, rows, rfl, e _ _ hr.at_, h5, hl, acc_told hd fun v H2 e2 hv => q v H2 e2 hv⟩
theorem ed_readK {σ : L2.St} {H : Hp} {i : Nat} {rl : Addr} {rows : List Str} {d : PyData} {E : XK} (h : σ[i]? = some (some (.ref rl))) (hr : StrsAt H rl rows) (h5 : rows.length ≤ 500) (hl : ∀ r ∈ rows, r.length ≤ 10000) (hd : readM 10 4 rows = some (.inr d)) :
    EvD (tCallN 0 1 (spRead C 10 4) (fun vs zs => vs ++ zs) E tNil (tCons (tVar i) tNil)) σ H d := fun H1 e Q q => ⟨.ref rl, h, rfl, rfl, rl, rows, rfl, e _ _ hr.at_, h5, hl, acc_told hd fun v H2 e2 hv => q v H2 e2 hv⟩
end
end Prs
set_option Elab.async false
set_option linter.all false
set_option maxRecDepth 100000
set_option maxHeartbeats 4000000
namespace Prs
open PySem PySem.Spec PyProof.Rows L2 Evl
abbrev lLaw : Stmt := top 82
abbrev NLw : List Str := ["_law_script", "_law_k", "_law_purse_here", "_law_chart_here", "_law_rows", "_law_spots", "_law_row", "_law_held"]
theorem scLaw : FnScope NLw ["_law_script"] (defScope lLaw) := ⟨rfl, rfl, rfl, by decide +kernel, rfl, by decide +kernel, by decide +kernel⟩
def spLaw (K : PySem.W.Frag) : Sp := fun vs H Q _ => ∃ (a : Addr) (ns : List Int), vs = [.ref a] ∧ SqL K H a (ns.map V.int) ∧ ∀ H', Q (.bl true) H'
section
variable {P : Program} {w : World} {K : PySem.W.Frag} {mg : Str → Option Value} {base : Heap}
set_option maxHeartbeats 0 in
theorem ok_law {f fR : Addr} {fd fdR : FuncData} {kR : Nat} (hk : 15 ≤ kR) (F : Fun K "law" "law" lLaw f fd) (G : Gn K mg) (gr : mg "range" = none) (gm : mg "min" = none) (gx : mg "max" = none) (gl : mg "list" = none)
    (DM : Df K mg "_law_mixed" lMixed ["_law_cell", "_law_k"]) (DP : Df K mg "_law_purse" lPurse ["_law_cell", "_law_k"]) (DA : Df K mg "_law_at" lAt ["_law_script", "_law_k"])
    (DCh : Df K mg "_law_chart" lChart ["_law_purse_here"]) (GCh : FnOk P w K mg base CX0 14 DCh.f DCh.fd ["_law_purse_here"] spChartL)
    (DTx : Df K mg "_law_text" lText ["_law_purse_here", "_law_chart_here"]) (GTx : FnOk P w K mg base CX0 15 DTx.f DTx.fd ["_law_purse_here", "_law_chart_here"] spTextW) (C : Cn P w K mg base)
    (GR : FnOk P w K mg base (L2.CX P w) kR fR fdR ["text"] (spRead C 10 4)) (bR : Binds K fdR ["text"] []) (bK : KBn K fdR ["text"] 0 ["text"] (fun us ws => us ++ ws) (fun vs zs => vs ++ zs)) (mR : mg "read_chart" = some (.ref fR)) (kpR : PySem.W.keepIn K (.ref fR) = true) :
    FnOk P w K mg base CX0 (kR + 1) f fd ["_law_script"] (spLaw K) := by
  have GP : FnOk P w K mg base CX0 2 DP.f DP.fd ["_law_cell", "_law_k"] spPurse := ok_purse DP.F DM
  have GA : FnOk P w K mg base CX0 1 DA.f DA.fd ["_law_script", "_law_k"] (spAt K) := ok_at DA.F G
  refine F.ok scLaw (fun vs H Q E h => ?_) (fun cdv A outer s H vs Q E hr h => ?_)
  · obtain ⟨a, ns, rfl, _⟩ := h
    rfl
  · obtain ⟨a, ns, rfl, hS, q⟩ := h
    have hr15 : Room 15 _ := hr.mono hk
    have hr14 : Room 14 _ := hr.mono (by omega)
    have hr2 : Room 2 _ := hr.mono (by omega)
    have hr1 : Room 1 _ := hr.mono (by omega)
    refine ⟨_, pss_cons (ps_for PassesOwn.never rfl (pi_range1 rfl gr (pa_cons (pe_op op_add pe_int (pe_callB (call_min2 rfl) (by rfl) gm boot_min (pa_cons (pe_callB call_len_seq (by rfl) G.len PySem.boot_len (pa_cons (pv 0) pa_nil)) (pa_cons pe_int pa_nil)))) pa_nil)) (pg_name (i := 1) scLaw.nd rfl (.inl rfl))
        (pss_cons (ps_set (i := 2) scLaw.nd rfl (.inl rfl) (pe_call GP hr2 rfl DP.m DP.F.kp DP.b .nil pass0 (pa_cons (pe_call GA hr1 rfl DA.m DA.F.kp DA.b .nil pass0 (pa_cons (pv 0) (pa_cons (pv 1) pa_nil))) (pa_cons (pv 1) pa_nil))))
        (pss_cons (ps_set (i := 3) scLaw.nd rfl (.inl rfl) (pe_call GCh hr14 rfl DCh.m DCh.F.kp DCh.b .nil pass0 (pa_cons (pv 2) pa_nil)))
        (pss_cons (ps_asg (pe_call GTx hr15 rfl DTx.m DTx.F.kp DTx.b .nil pass0 (pa_cons (pv 2) (pa_cons (pv 3) pa_nil))) (pg_unl rfl (pgs_cons (pg_name (i := 4) scLaw.nd rfl (.inl rfl)) (pgs_cons (pg_name (i := 5) scLaw.nd rfl (.inl rfl)) pgs_nil))))
        (pss_one (ps_if (PW.pt (pw_and (pt_cmpR op_le (pe_callB call_len_seq (by rfl) G.len PySem.boot_len (pa_cons (pv 4) pa_nil)) pe_int (nomark _)) (pw_and1 (pt_cmpR op_le (pe_callB (cr_max rfl) (by rfl) gx boot_max (pa_cons (pe_lc (te := tCB (fun xs H Q => ∃ x n, xs = [x] ∧ LenV K x H n ∧ Q (.int n) H) (tCons (tVar 6) tNil)) (own := [("_law_row", 6)]) (g := gName 6) (tt := tYes) rfl scLaw.nd (pi_list (pv 4)) (blkOk_by (N := NLw) (sc := defScope lLaw) (by decide +kernel)) (fun _ _ _ _ _ => pg_name (i := 6) scLaw.nd rfl (Or.inl rfl)) (fun _ _ _ _ _ => pts_nil) (fun _ _ _ _ _ => pe_callB (r := fun xs H Q => ∃ x n, xs = [x] ∧ LenV K x H n ∧ Q (.int n) H) call_len (by rfl) G.len PySem.boot_len (pa_cons (pv 6) pa_nil))) pa_nil)) pe_int (nomark _)))))
          (pss_cons (ps_set (i := 7) scLaw.nd rfl (.inl rfl) (pe_callTy call_list_of rfl gl rfl (pa_cons (pv 4) pa_nil)))
          (pss_one (ps_if (PW.pt (pw_or (pt_cmpR (op_neD hr.units) (pe_call GR hr rfl mR kpR bR .nil (passes_call takesN fun _ _ _ _ h => h) (pa_cons (pv 4) pa_nil)) (pv 3) (nomark _)) (pw_or (pt_cmpR (op_neD hr.units) (pe_onlyK GR hr rfl mR kpR bK (passes_call takesN fun _ _ _ _ h => h) (pk_cons (pv 4) pk_nil)) (pv 3) (nomark _)) (pw_or1 (pt_cmpR (op_neD hr.units) (pv 4) (pv 7) (nomark _)))))) (pss_one (ps_ret pe_bl)) pss_nil)))
          pss_nil))))))
      (pss_one (ps_ret pe_bl)), ?_⟩
    refine q_forR1 (n := 2 + (if (4 : Int) < (((ns.map V.int).length : Nat) : Int) then (4 : Int) else (((ns.map V.int).length : Nat) : Int))) (Pv := fun i σ H' => SqL K H' a (ns.map V.int) ∧ ∃ v1 v2 v3 v4 v5 v6 v7 : Option V, σ = [some (.ref a), v1, v2, v3, v4, v5, v6, v7])
      (ea_cons (ev_op ev_c (ev_cb (ea_cons (ev_len (ev_var rfl) hS) (ea_cons ev_c ea_nil)) (fun H1 _ _ q => ⟨_, _, rfl, q H1 (Ex.refl H1)⟩)) rv_I0) ea_nil) (by split <;> omega) (fun H1 e1 => ⟨ex_l e1 hS, none, none, none, none, none, none, none, rfl⟩) (fun i σ' H0 hi hW => ?_) (fun σ' H' hW => ?_)
    · obtain ⟨hS0, v1, v2, v3, v4, v5, v6, v7, rfl⟩ := hW
      have hi9 : i < 6 := by split at hi <;> omega
      refine ⟨.ref a, rfl, .int (i : Int), rfl, a, ns, (i : Int), rfl, hS0, by omega, by omega, fun n H1 e1 => ⟨.int (i : Int), rfl, n, (i : Int), rfl, by omega, by omega, fun p H2 np e2 hp => ?_⟩⟩
      have np0 : H0 p = none := fresh_back e1 np
      -- the chart
      refine ⟨.ref p, rfl, p, 0, rfl, hp, by omega, by omega, fun vd y3 H3 f3 hp3 a1 a2 hvd => ?_⟩
      obtain ⟨d, hd, hvd⟩ := hvd
      -- its text
      refine ⟨.ref p, rfl, vd, rfl, p, vd, d, y3, rfl, hp3, by omega, by omega, hd, hvd, fun ut y4 H4 f4 hp4 a3 a4 htx => ?_⟩
      obtain ⟨t, rl, sl, rows, rs, sv, zs, rfl, ht4, hrl, hsl, hw, htx, hn7, hle, _⟩ := htx
      have t34 : TF H3 H4 := by
        obtain ⟨x, z, hpp⟩ := hp3
        exact fun b zs h => f4 b _ (fun z => by
          subst z
          rw [hpp] at h
          exact absurd (Option.some.inj h) (fun q => nomatch q)) h
      have hvd4 := DT.tf t34 _ _ hvd
      have f04 : Fr p H0 H4 := ((Fr.ex (e1.trans e2)).trans f3).trans f4
      have hpos : 0 < rows.length := by
        have := List.length_pos_iff.mpr (wch_ne hw)
        omega
      have hread := text_read hw htx
      have hlen : ∀ r ∈ rows, r.length ≤ 10000 := fun r hr => by
        have := htx.l r hr
        omega
      have hok : okStrs rows = true := List.all_eq_true.mpr htx.s
      refine ⟨t, [.ref rl, .ref sl], rfl, sq_of ht4, rfl, .ref rl, [.ref sl], rfl, .ref sl, [], rfl, rfl, ?_⟩
      obtain ⟨m, hm1, hm2⟩ := top_of (ns := lensOf rows) (by unfold lensOf; rw [List.length_map, List.length_range]; exact hpos)
      have em : EvL (tLc (iList K (tVar 4)) (gName 6) tYes (tCB (fun xs H Q => ∃ x n, xs = [x] ∧ LenV K x H n ∧ Q (.int n) H) (tCons (tVar 6) tNil)) [6]) [some (.ref a), some (.int (i : Int)), some (.ref p), some vd, some (.ref rl), some (.ref sl), v6, v7] H4 ((lensOf rows).map V.int) := by
        have z := el_lcL (K := K) (σ := [some (.ref a), some (.int (i : Int)), some (.ref p), some vd, some (.ref rl), some (.ref sl), v6, v7]) (H := H4) (j := 6) (vs := [6]) (te := tCB (fun xs H Q => ∃ x n, xs = [x] ∧ LenV K x H n ∧ Q (.int n) H) (tCons (tVar 6) tNil)) (t := tYes) (xs := rows.map V.str) (fun _ => true) (fun i => V.int (((rows.getD i "").length : Nat) : Int)) (ev_var (i := 4) rfl) (sq_of hrl.at_) (by rw [List.length_map]; omega) (fun _ => rfl) (fun m x H' _ _ => fun H1 _ Q q => q H1 (Ex.refl H1)) (fun m x H' e' hm _ => ?_)
        · rw [List.length_map, lens_given] at z
          exact z
        · rw [List.getElem?_map] at hm
          cases hx : rows[m]? with
          | none =>
            rw [hx] at hm
            cases hm
          | some r =>
            rw [hx] at hm
            cases hm
            have hmem := List.mem_of_getElem? hx
            have := hlen r hmem
            have e : rows.getD m "" = r := by rw [List.getD_eq_getElem?_getD, hx]; rfl
            rw [e]
            exact ev_lenS (ev_var rfl) (by omega)
      refine s_when (b := decide ((rows.length : Int) ≤ 200) && decide (m ≤ 100)) (et_and (et_test (ev_is (ev_op (ev_len (ev_var rfl) (sq_of hrl.at_)) ev_c rv_I0) (by rw [List.length_map]))) fun _ => et_test (ev_op (ev_max em hm1 hm2) ev_c rv_I0)) (fun hb H5 e5 => ?_) (fun hb H5 e5 => ⟨sq_fr hS0 np0 (f04.trans (Fr.ex e5)), _, _, _, _, _, _, _, rfl⟩)
      have h500 : rows.length ≤ 500 := by
        have hb' : (decide ((rows.length : Int) ≤ 200) && decide (m ≤ 100)) = true := hb
        rw [Bool.and_eq_true] at hb'
        have := of_decide_eq_true hb'.1
        omega
      refine ⟨.ref rl, rfl, rl, rows.map V.str, rfl, .inl (sq_of (e5 _ _ hrl.at_)), fun hl nl => ?_⟩
      have e6 : Ex H5 (L2.upd H5 hl (.lst (rows.map V.str))) := fr_new nl
      have hhl : StrsAt (L2.upd H5 hl (.lst (rows.map V.str))) hl rows := ⟨upd_same⟩
      have hrl6 : StrsAt (L2.upd H5 hl (.lst (rows.map V.str))) rl rows := ⟨e6 _ _ (e5 _ _ hrl.at_)⟩
      have hvd6 := DT.tf (TF.ex (e5.trans e6)) _ _ hvd4
      have f06 : Fr p H0 (L2.upd H5 hl (.lst (rows.map V.str))) := (f04.trans (Fr.ex e5)).trans (Fr.ex e6)
      revert hhl hrl6 hvd6 f06
      generalize (L2.upd H5 hl (.lst (rows.map V.str))) = H6
      intro hhl hrl6 hvd6 f06
      have sh := ch_shape hd
      refine s_when (b := false || (false || false)) (et_or (et_test (ev_noD (ed_read rfl hrl6 h500 hlen hread) (evd_of (ev_var rfl) hvd6) sh sh (shaped_eqv sh))) fun _ => et_or (et_test (ev_noD (ed_readK rfl hrl6 h500 hlen hread) (evd_of (ev_var rfl) hvd6) sh sh (shaped_eqv sh))) fun _ => et_test (ev_sameL rfl rfl hrl6 hhl hok)) (fun z => nomatch z) fun _ H7 e7 => ?_
      exact ⟨sq_fr hS0 np0 (f06.trans (Fr.ex e7)), _, _, _, _, _, _, _, rfl⟩
    · obtain ⟨hS', v1, v2, v3, v4, v5, v6, v7, rfl⟩ := hW
      exact s_ret (v := .bl true) ev_c fun H2 e2 => q H2
end
end Prs
set_option Elab.async false
set_option linter.all false
set_option maxRecDepth 100000
set_option maxHeartbeats 8000000
namespace Prs
open PySem PySem.Spec PyProof.Rows L2 Evl
def dl_mixed : He.DefD := ⟨("_law_mixed", none), "_law_mixed", "_law_mixed", defArgs lMixed, defBody lMixed, defScope lMixed, [], []⟩
def dl_purse : He.DefD := ⟨("_law_purse", none), "_law_purse", "_law_purse", defArgs lPurse, defBody lPurse, defScope lPurse, [], []⟩
def dl_take : He.DefD := ⟨("_law_take", none), "_law_take", "_law_take", defArgs lTake, defBody lTake, defScope lTake, [], []⟩
def dl_at : He.DefD := ⟨("_law_at", none), "_law_at", "_law_at", defArgs lAt, defBody lAt, defScope lAt, [], []⟩
def dl_pick : He.DefD := ⟨("_law_pick", none), "_law_pick", "_law_pick", defArgs lPick, defBody lPick, defScope lPick, [], []⟩
def dl_all_of : He.DefD := ⟨("_law_all_of", none), "_law_all_of", "_law_all_of", defArgs lAll, defBody lAll, defScope lAll, [], []⟩
def dl_chart : He.DefD := ⟨("_law_chart", none), "_law_chart", "_law_chart", defArgs lChart, defBody lChart, defScope lChart, [], []⟩
def dl_around : He.DefD := ⟨("_law_around", none), "_law_around", "_law_around", defArgs lAround, defBody lAround, defScope lAround, [], []⟩
def dl_term_words : He.DefD := ⟨("_law_term_words", none), "_law_term_words", "_law_term_words", defArgs lTermW, defBody lTermW, defScope lTermW, [], []⟩
def dl_guard_words : He.DefD := ⟨("_law_guard_words", none), "_law_guard_words", "_law_guard_words", defArgs lGuardW, defBody lGuardW, defScope lGuardW, [], []⟩
def dl_deeds_words : He.DefD := ⟨("_law_deeds_words", none), "_law_deeds_words", "_law_deeds_words", defArgs lDeedsW, defBody lDeedsW, defScope lDeedsW, [], []⟩
def dl_move_words : He.DefD := ⟨("_law_move_words", none), "_law_move_words", "_law_move_words", defArgs lMoveW, defBody lMoveW, defScope lMoveW, [], []⟩
def dl_stand_rows : He.DefD := ⟨("_law_stand_rows", none), "_law_stand_rows", "_law_stand_rows", defArgs lStandW, defBody lStandW, defScope lStandW, [], []⟩
def dl_chart_rows : He.DefD := ⟨("_law_chart_rows", none), "_law_chart_rows", "_law_chart_rows", defArgs lChartW, defBody lChartW, defScope lChartW, [], []⟩
def dl_row_text : He.DefD := ⟨("_law_row_text", none), "_law_row_text", "_law_row_text", defArgs lRowText, defBody lRowText, defScope lRowText, [], []⟩
def dl_text : He.DefD := ⟨("_law_text", none), "_law_text", "_law_text", defArgs lText, defBody lText, defScope lText, [], []⟩
def dl_term : He.DefD := ⟨("_law_term", none), "_law_term", "_law_term", defArgs lTerm, defBody lTerm, defScope lTerm, [], []⟩
def dl_guard : He.DefD := ⟨("_law_guard", none), "_law_guard", "_law_guard", defArgs lGuard, defBody lGuard, defScope lGuard, [], []⟩
def dl_names : He.DefD := ⟨("_law_names", none), "_law_names", "_law_names", defArgs lNames, defBody lNames, defScope lNames, [], []⟩
def dl_deeds : He.DefD := ⟨("_law_deeds", none), "_law_deeds", "_law_deeds", defArgs lDeeds, defBody lDeeds, defScope lDeeds, [], []⟩
def dl_move : He.DefD := ⟨("_law_move", none), "_law_move", "_law_move", defArgs lMove, defBody lMove, defScope lMove, [], []⟩
def dl_full : He.DefD := ⟨("_law_full", none), "_law_full", "_law_full", defArgs lFull, defBody lFull, defScope lFull, [], []⟩
def dl_bare : He.DefD := ⟨("_law_bare", none), "_law_bare", "_law_bare", defArgs lBare, defBody lBare, defScope lBare, [], []⟩
def dl_the_law : He.DefD := ⟨("law", none), "law", "law", defArgs lLaw, defBody lLaw, defScope lLaw, [], []⟩
def faL : List He.Fa := [.glo "_law_mixed", .glo "_law_purse", .glo "_law_take", .glo "_law_at", .glo "_law_pick", .glo "_law_all_of", .glo "_law_chart", .glo "_law_around", .glo "_law_term_words", .glo "_law_guard_words", .glo "_law_deeds_words", .glo "_law_move_words", .glo "_law_stand_rows", .glo "_law_chart_rows", .glo "_law_row_text", .glo "_law_text", .glo "_law_term", .glo "_law_guard", .glo "_law_names", .glo "_law_deeds", .glo "_law_move", .glo "_law_full", .glo "_law_bare", .glo "law", .free "range", .free "min", .free "max", .free "int", .free "tuple", .free "list", .free "str", .free "enumerate", .free "zip"]
def fnL : List He.DefD := [dl_mixed, dl_purse, dl_take, dl_at, dl_pick, dl_all_of, dl_chart, dl_around, dl_term_words, dl_guard_words, dl_deeds_words, dl_move_words, dl_stand_rows, dl_chart_rows, dl_row_text, dl_text, dl_term, dl_guard, dl_names, dl_deeds, dl_move, dl_full, dl_bare, dl_the_law]
set_option maxHeartbeats 0 in
theorem law_all {l : PySem.W.OpenLaw} {w : World} {K : PySem.W.Frag} {h : Heap} {mg : Str → Option Value} {fa : Addr} (X : K.In h) (G : h.Ns mainGlobals mg) (hfa : mg "law" = some (.ref fa)) (c : He.SaysT faR fnR tsR w K) (cc : (csR.all fun f => f K) = true) (cl : He.SaysD faL fnL K) :
    ∃ fd : FuncData, (∀ (s : Shared) (v : Value), BindsTo s fd ⟨[v], []⟩ [("_law_script", v)]) ∧ ∀ base : Heap, K.In base → base.Ns mainGlobals mg → FnOk l.prog w K mg base CX0 54 fa fd ["_law_script"] (spLaw K) := by
  obtain ⟨f0, F0⟩ := cl.def_ 0 (d := dl_mixed) rfl
  obtain ⟨f1, F1⟩ := cl.def_ 1 (d := dl_purse) rfl
  obtain ⟨f2, F2⟩ := cl.def_ 2 (d := dl_take) rfl
  obtain ⟨f3, F3⟩ := cl.def_ 3 (d := dl_at) rfl
  obtain ⟨f4, F4⟩ := cl.def_ 4 (d := dl_pick) rfl
  obtain ⟨f5, F5⟩ := cl.def_ 5 (d := dl_all_of) rfl
  obtain ⟨f6, F6⟩ := cl.def_ 6 (d := dl_chart) rfl
  obtain ⟨f7, F7⟩ := cl.def_ 7 (d := dl_around) rfl
  obtain ⟨f8, F8⟩ := cl.def_ 8 (d := dl_term_words) rfl
  obtain ⟨f9, F9⟩ := cl.def_ 9 (d := dl_guard_words) rfl
  obtain ⟨f10, F10⟩ := cl.def_ 10 (d := dl_deeds_words) rfl
  obtain ⟨f11, F11⟩ := cl.def_ 11 (d := dl_move_words) rfl
  obtain ⟨f12, F12⟩ := cl.def_ 12 (d := dl_stand_rows) rfl
  obtain ⟨f13, F13⟩ := cl.def_ 13 (d := dl_chart_rows) rfl
  obtain ⟨f14, F14⟩ := cl.def_ 14 (d := dl_row_text) rfl
  obtain ⟨f15, F15⟩ := cl.def_ 15 (d := dl_text) rfl
  obtain ⟨f16, F16⟩ := cl.def_ 16 (d := dl_term) rfl
  obtain ⟨f17, F17⟩ := cl.def_ 17 (d := dl_guard) rfl
  obtain ⟨f18, F18⟩ := cl.def_ 18 (d := dl_names) rfl
  obtain ⟨f19, F19⟩ := cl.def_ 19 (d := dl_deeds) rfl
  obtain ⟨f20, F20⟩ := cl.def_ 20 (d := dl_move) rfl
  obtain ⟨f21, F21⟩ := cl.def_ 21 (d := dl_full) rfl
  obtain ⟨f22, F22⟩ := cl.def_ 22 (d := dl_bare) rfl
  obtain ⟨f23, F23⟩ := cl.def_ 23 (d := dl_the_law) rfl
  have g := fun (i : Nat) (x : Str) (e : faL[i]? = some (.glo x)) => He.glo_ok X G (cl.fact i e)
  have e := hfa.symm.trans (g 23 "law" rfl)
  cases e
  have b := FunD.bindsA (ps := ["_law_script"]) F23 fun _ _ _ _ _ _ us hl => match us, hl with | [_], _ => rfl
  refine ⟨f23, fun s v => b s [v] rfl, fun base _ _ => ?_⟩
  obtain ⟨C, Gm, xe, XR, XC, fdR, GR, bR, kR, mR, bK⟩ := reader (P := l.prog) (w := w) (base := base) 10 4 (by decide) X G c cc
  have F0' := fun_of (st := lMixed) F0
  have F1' := fun_of (st := lPurse) F1
  have F2' := fun_of (st := lTake) F2
  have F3' := fun_of (st := lAt) F3
  have F4' := fun_of (st := lPick) F4
  have F5' := fun_of (st := lAll) F5
  have F6' := fun_of (st := lChart) F6
  have F7' := fun_of (st := lAround) F7
  have F8' := fun_of (st := lTermW) F8
  have F9' := fun_of (st := lGuardW) F9
  have F10' := fun_of (st := lDeedsW) F10
  have F11' := fun_of (st := lMoveW) F11
  have F12' := fun_of (st := lStandW) F12
  have F13' := fun_of (st := lChartW) F13
  have F14' := fun_of (st := lRowText) F14
  have F15' := fun_of (st := lText) F15
  have F16' := fun_of (st := lTerm) F16
  have F17' := fun_of (st := lGuard) F17
  have F18' := fun_of (st := lNames) F18
  have F19' := fun_of (st := lDeeds) F19
  have F20' := fun_of (st := lMove) F20
  have F21' := fun_of (st := lFull) F21
  have F22' := fun_of (st := lBare) F22
  have F23' := fun_of (st := lLaw) F23
  have fr_range : mg "range" = none := (He.free_ok X G (cl.fact 24 (f := .free "range") rfl))
  have fr_min : mg "min" = none := (He.free_ok X G (cl.fact 25 (f := .free "min") rfl))
  have fr_max : mg "max" = none := (He.free_ok X G (cl.fact 26 (f := .free "max") rfl))
  have fr_int : mg "int" = none := (He.free_ok X G (cl.fact 27 (f := .free "int") rfl))
  have fr_tuple : mg "tuple" = none := (He.free_ok X G (cl.fact 28 (f := .free "tuple") rfl))
  have fr_list : mg "list" = none := (He.free_ok X G (cl.fact 29 (f := .free "list") rfl))
  have fr_str : mg "str" = none := (He.free_ok X G (cl.fact 30 (f := .free "str") rfl))
  have fr_enumerate : mg "enumerate" = none := (He.free_ok X G (cl.fact 31 (f := .free "enumerate") rfl))
  have fr_zip : mg "zip" = none := (He.free_ok X G (cl.fact 32 (f := .free "zip") rfl))
  have D_law_mixed : Df K mg "_law_mixed" lMixed ["_law_cell", "_law_k"] := ⟨_, f0, F0', g 0 _ rfl, F0'.binds fun _ _ _ _ _ _ us hl => match us, hl with | [_, _], _ => rfl⟩
  have D_law_purse : Df K mg "_law_purse" lPurse ["_law_cell", "_law_k"] := ⟨_, f1, F1', g 1 _ rfl, F1'.binds fun _ _ _ _ _ _ us hl => match us, hl with | [_, _], _ => rfl⟩
  have D_law_take : Df K mg "_law_take" lTake ["_law_purse_here", "_law_far"] := ⟨_, f2, F2', g 2 _ rfl, F2'.binds fun _ _ _ _ _ _ us hl => match us, hl with | [_, _], _ => rfl⟩
  have D_law_at : Df K mg "_law_at" lAt ["_law_script", "_law_k"] := ⟨_, f3, F3', g 3 _ rfl, F3'.binds fun _ _ _ _ _ _ us hl => match us, hl with | [_, _], _ => rfl⟩
  have D_law_pick : Df K mg "_law_pick" lPick ["_law_purse_here", "_law_some"] := ⟨_, f4, F4', g 4 _ rfl, F4'.binds fun _ _ _ _ _ _ us hl => match us, hl with | [_, _], _ => rfl⟩
  have D_law_all_of : Df K mg "_law_all_of" lAll ["_law_bare_here"] := ⟨_, f5, F5', g 5 _ rfl, F5'.binds fun _ _ _ _ _ _ us hl => match us, hl with | [_], _ => rfl⟩
  have D_law_chart : Df K mg "_law_chart" lChart ["_law_purse_here"] := ⟨_, f6, F6', g 6 _ rfl, F6'.binds fun _ _ _ _ _ _ us hl => match us, hl with | [_], _ => rfl⟩
  have D_law_around : Df K mg "_law_around" lAround ["_law_purse_here", "_law_words", "_law_wanted"] := ⟨_, f7, F7', g 7 _ rfl, F7'.binds fun _ _ _ _ _ _ us hl => match us, hl with | [_, _, _], _ => rfl⟩
  have D_law_term_words : Df K mg "_law_term_words" lTermW ["_law_purse_here", "_law_term_here"] := ⟨_, f8, F8', g 8 _ rfl, F8'.binds fun _ _ _ _ _ _ us hl => match us, hl with | [_, _], _ => rfl⟩
  have D_law_guard_words : Df K mg "_law_guard_words" lGuardW ["_law_purse_here", "_law_guard_here"] := ⟨_, f9, F9', g 9 _ rfl, F9'.binds fun _ _ _ _ _ _ us hl => match us, hl with | [_, _], _ => rfl⟩
  have D_law_deeds_words : Df K mg "_law_deeds_words" lDeedsW ["_law_purse_here", "_law_deeds_here"] := ⟨_, f10, F10', g 10 _ rfl, F10'.binds fun _ _ _ _ _ _ us hl => match us, hl with | [_, _], _ => rfl⟩
  have D_law_move_words : Df K mg "_law_move_words" lMoveW ["_law_purse_here", "_law_move_here"] := ⟨_, f11, F11', g 11 _ rfl, F11'.binds fun _ _ _ _ _ _ us hl => match us, hl with | [_, _], _ => rfl⟩
  have D_law_stand_rows : Df K mg "_law_stand_rows" lStandW ["_law_purse_here", "_law_stand", "_law_depth"] := ⟨_, f12, F12', g 12 _ rfl, F12'.binds fun _ _ _ _ _ _ us hl => match us, hl with | [_, _, _], _ => rfl⟩
  have D_law_chart_rows : Df K mg "_law_chart_rows" lChartW ["_law_purse_here", "_law_chart_here"] := ⟨_, f13, F13', g 13 _ rfl, F13'.binds fun _ _ _ _ _ _ us hl => match us, hl with | [_, _], _ => rfl⟩
  have D_law_row_text : Df K mg "_law_row_text" lRowText ["_law_purse_here", "_law_depth", "_law_words"] := ⟨_, f14, F14', g 14 _ rfl, F14'.binds fun _ _ _ _ _ _ us hl => match us, hl with | [_, _, _], _ => rfl⟩
  have D_law_text : Df K mg "_law_text" lText ["_law_purse_here", "_law_chart_here"] := ⟨_, f15, F15', g 15 _ rfl, F15'.binds fun _ _ _ _ _ _ us hl => match us, hl with | [_, _], _ => rfl⟩
  have D_law_term : Df K mg "_law_term" lTerm ["_law_purse_here", "_law_deep", "_law_facts"] := ⟨_, f16, F16', g 16 _ rfl, F16'.binds fun _ _ _ _ _ _ us hl => match us, hl with | [_, _, _], _ => rfl⟩
  have D_law_guard : Df K mg "_law_guard" lGuard ["_law_purse_here", "_law_deep", "_law_facts", "_law_names_here"] := ⟨_, f17, F17', g 17 _ rfl, F17'.binds fun _ _ _ _ _ _ us hl => match us, hl with | [_, _, _, _], _ => rfl⟩
  have D_law_names : Df K mg "_law_names" lNames [] := ⟨_, f18, F18', g 18 _ rfl, F18'.binds fun _ _ _ _ _ _ us hl => match us, hl with | [], _ => rfl⟩
  have D_law_deeds : Df K mg "_law_deeds" lDeeds ["_law_purse_here", "_law_state"] := ⟨_, f19, F19', g 19 _ rfl, F19'.binds fun _ _ _ _ _ _ us hl => match us, hl with | [_, _], _ => rfl⟩
  have D_law_move : Df K mg "_law_move" lMove ["_law_purse_here", "_law_bare_here", "_law_state"] := ⟨_, f20, F20', g 20 _ rfl, F20'.binds fun _ _ _ _ _ _ us hl => match us, hl with | [_, _, _], _ => rfl⟩
  have D_law_full : Df K mg "_law_full" lFull ["_law_purse_here", "_law_bare_here", "_law_state"] := ⟨_, f21, F21', g 21 _ rfl, F21'.binds fun _ _ _ _ _ _ us hl => match us, hl with | [_, _, _], _ => rfl⟩
  have D_law_bare : Df K mg "_law_bare" lBare ["_law_purse_here", "_law_deep", "_law_left", "_law_sort"] := ⟨_, f22, F22', g 22 _ rfl, F22'.binds fun _ _ _ _ _ _ us hl => match us, hl with | [_, _, _, _], _ => rfl⟩
  have GCh : FnOk l.prog w K mg base CX0 14 D_law_chart.f D_law_chart.fd ["_law_purse_here"] spChartL := ok_chartL Gm D_law_chart.F D_law_names D_law_bare D_law_all_of D_law_full D_law_move D_law_guard D_law_term D_law_take D_law_pick D_law_mixed D_law_deeds fr_range fr_tuple fr_int
  have GTx : FnOk l.prog w K mg base CX0 15 D_law_text.f D_law_text.fd ["_law_purse_here", "_law_chart_here"] spTextW := ok_textW Gm fr_str fr_list fr_int fr_enumerate fr_zip D_law_text D_law_row_text D_law_chart_rows D_law_stand_rows D_law_move_words D_law_guard_words D_law_deeds_words D_law_term_words D_law_around D_law_take D_law_mixed
  exact ok_law (kR := 53) (by decide) F23' Gm fr_range fr_min fr_max fr_list D_law_mixed D_law_purse D_law_at D_law_chart GCh D_law_text GTx C GR bR bK mR kR
theorem walk {l : PySem.W.OpenLaw} {q : Program} {loose : List Str} {XP : (Str → Option Value) → Heap → Prop} {YP : World → Heap → Prop} {d : DefRec} {K : Params → PySem.W.Frag} (hn : l.most = some 63) (hdf : d.params.defaults = [])
    (hY : ∀ (w : World) (h : Heap), YP w h → (K w.params).In h)
    (F : ∀ (w : World) (mg : Str → Option Value) (fa : Addr) (h : Heap), (K w.params).In h → h.Ns mainGlobals mg → mg d.name = some (.ref fa) →
      ∃ fd : FuncData, (∀ (s : Shared) (u : Value), BindsTo s fd ⟨[u], []⟩ [("_law_script", u)]) ∧ ∀ base : Heap, (K w.params).In base → base.Ns mainGlobals mg → FnOk l.prog w (K w.params) mg base CX0 54 fa fd ["_law_script"] (spLaw (K w.params))) :
    PySem.W.WalkO q loose XP YP l.row.toRowW d [] (fun f vs => PySem.call f vs) :=
  L2.walk_of (n := 63) (k := 54) (x := "_law_script") (CX := fun _ => CX0) (sp := fun w => spLaw (K w.params)) hn (by decide) hdf ⟨rfl, by decide, by decide⟩ hY F (fun _ _ a ns hl _ hS => ⟨a, ns, rfl, hS, fun _ => rfl⟩) fun _ _ _ _ _ z => z
end Prs
set_option Elab.async false
set_option maxRecDepth 100000
open PySem PySem.W PyProof.Rows
set_option maxRecDepth 100000 in
set_option maxHeartbeats 0 in
theorem PySem.Challenge.cw_deepstands_k01_charts_read_holds : PySem.Challenge.rw_deepstands_k01_charts_read.Holds := by
  w_on; o_law; k_head; (case hw => w_witness2)
  k_fill
  refine Prs.walk (l := PySem.Challenge.rw_deepstands_k01_charts_read) rfl rfl (fun w h Y => PySem.W.kIn_of Y) ?F
  case F =>
    intro w mg fa h KX G hmg
    exact Prs.law_all KX G hmg (by unfold He.SaysT; kernel_rfl) (by kernel_rfl) (by unfold He.SaysD; kernel_rfl)
