import PyProof.Rows.All
import Wide.All
import OpenK.AllK
import Wide.FinOn
import HandS.ForExc
import HandS.ExcInit
import HandS.ExcField
import HandS.ExcIs
import HandS.IsInst
import HandS.Nested
import HandS.MakeKwOnly
import KE.KExcIs
import HandS.NestedK
import HandS.ForMost
import HandS.Defaults
import HandS.HeadHook2
import HandS.Zip
import HandS.Walk
import HandS.HeadHook4
import HandS.HeadWalk
import HandS.EndTab
import HandS.Head0
import HandS.Head1
import HandS.Head2
import PySem.Challenge.RW_fallways_k01_errors_made
set_option Elab.async false
set_option linter.all false
set_option maxRecDepth 100000
set_option maxHeartbeats 8000000
/-! own exceptions as values: made (by place, by name, of nothing), their base's __init__ through an own class, isinstance, a field -/
namespace XV
open PySem PySem.Spec L2

/-! ### made with keywords -/
section
variable {M : Model} {A : Around} {E : Value → Shared → Prop} {h : Heap} {g : Array GenState} {d : Drawn} {t : Nat} {os : OsState}
variable {nm q : Str} {C N : Addr} {bs bm bmB : List Value} {hdct : Bool} {sn : List Str} {sub : List Value} {ab : Bool} {col : Option Bool} {dd : Option Addr} {k0 k1 k2 k3 k5 : Option Value} {B newId initId : String}
theorem chk_new (F : ExcBaseFacts B newId initId bmB) (hT : ∀ Y : String, bm.contains (.type Y) = bmB.contains (.type Y)) {us : List Value} {kw : List (Str × Value)} {Q : Unit → Shared → Prop}
    (hC : h.get? C = some (excClassObj nm q C N bs bm hdct sn sub ab col dd k0 k1 k2 k3 k5 newId)) (hq : Q () ⟨h, g, d, t, os⟩) : wpAny M A (checkBuiltinCall newId ⟨.ref C :: us, kw⟩) Q E ⟨h, g, d, t, os⟩ := by
  have c1 : (Value.ref C :: bm).contains (.type B) = true := by rw [List.contains_cons, hT, F.hasB, Bool.or_true]
  have c2 := F.noStar
  simp only [checkBuiltinCall, F.newKind, F.newSplit, F.newRow]
  repeat (first | refine wpAny_loadPart_at hC ?_ | (refine wpAny_isSubtype_exc hC ?_; rw [c1]) | refine wpAny_staticBase_exc hC ?_ | refine wpAny_madeBy_exc hC ?_ | simp only [bne_self_eq_false, Bool.false_eq_true, if_false] | wp_step)
  exact hq

end
section
variable {prog : Program} {w : World} {A : Around} {E : Value → Shared → Prop} {R : Result → Shared → Prop} {h : Heap} {g : Array GenState} {d : Drawn} {t : Nat} {os : OsState}
variable {nm q : Str} {C N : Addr} {bs bm bmB : List Value} {hdct : Bool} {sn : List Str} {sub : List Value} {ab : Bool} {col : Option Bool} {dd : Option Addr} {k0 k1 k2 k3 k5 : Option Value} {B newId initId : String}
/-- the objects of a new exception: its args, itself -/
abbrev laid (h : Heap) (C : Addr) (us : List Value) : Heap := (h.push (PySem.W.kdv_tup us)).push (PySem.HandSPX.excO C h.objs.size)
theorem new_kw (F : ExcBaseFacts B newId initId bmB) (hT : ∀ Y : String, bm.contains (.type Y) = bmB.contains (.type Y)) {us : List Value} {kw : List (Str × Value)}
    (hC : h.get? C = some (excClassObj nm q C N bs bm hdct sn sub ab col dd k0 k1 k2 k3 k5 newId))
    (hq : R (.ok (.ret (.ref (h.objs.size + 1)))) ⟨laid h C us, g, d, t, os⟩) (hus : us.length ≤ sizeLine) :
    codeAny (model prog w) A (.builtin newId ⟨.ref C :: us, kw⟩) R ⟨h, g, d, t, os⟩ := by
  have e0 := F.ends
  have c1 : (Value.ref C :: bm).contains (.type B) = true := by rw [List.contains_cons, hT, F.hasB, Bool.or_true]
  have c2 : (Value.ref C :: bm).contains (.type "AttributeError") = false := by rw [List.contains_cons, hT, F.noAttr] <;> rfl
  have c3 : (Value.ref C :: bm).contains (.type "NameError") = false := by rw [List.contains_cons, hT, F.noName] <;> rfl
  refine codeAny_builtinAt F.entry ?_
  unfold Builtin.«BaseException.__new__»
  refine PySem.wpAt_bind ?_
  show PySem.wpAt _ _ _ (stack >>= _) _ _ _
  refine PySem.wpAt_bind (wpAt_stack fun _ _ => wpAt_of_wpAny ?_)
  wp_walk
  refine wpAt_of_wpAny ?_
  rw [F.owner]
  repeat (first | with_reducible refine wpAny_madeHere_exc F.canon hC ?_ | with_reducible refine wpAny_loadPart_at hC ?_ | (with_reducible refine wpAny_isSubtype_exc hC ?_; first | rw [c1] | rw [c2] | rw [c3]) | wp_step)
  show R _ _
  rw [Heap.size_push]
  exact hq
theorem tcall_kw (F : ExcBaseFacts B newId initId bmB) (hT : ∀ Y : String, bm.contains (.type Y) = bmB.contains (.type Y)) {us : List Value} {kw : List (Str × Value)} {fI : Addr} {Q : Fin → Shared → Prop}
    (hC : h.get? C = some (excClassObj nm q C N bs bm hdct sn sub ab col dd k0 k1 k2 k3 k5 newId))
    (hi : W.Looks (model prog w) h (typeLookup (.ref C) "__init__") (some (.ref fI))) (hb : ∀ v, W.Looks (model prog w) h (bindSpecial (.ref fI) v) (.ref fI, [v])) (hus : us.length ≤ sizeLine)
    (hq : codeAny (model prog w) A (.call (.ref fI) ⟨.ref (h.objs.size + 1) :: us, kw⟩)
      (fun r s' => match r with | .ok (.ret v) => v = .none ∧ Q (.done (.ret (.ref (h.objs.size + 1)))) s' | .ok _ => False | .error e => E e s') ⟨laid h C us, g, d, t, os⟩) :
    wpAny (model prog w) A (Builtin.«type.__call__» ⟨.ref C :: us, kw⟩) Q E ⟨h, g, d, t, os⟩ := by
  repeat (first | with_reducible refine wpAny_loadPart_at hC ?_ | with_reducible refine wpAny_madeBy_exc hC ?_ | wp_step)
  refine codeAny_call_builtin_code (Code.quiet_builtin _ F.quiet) (chk_new F hT hC ?_)
  refine new_kw F hT hC ?_ hus
  show wpAny _ _ _ _ _ _
  have kk : ∀ b o, h.get? b = some o → (laid h C us).get? b = some o := fun b o e => Heap.get?_push_of_some _ (Heap.get?_push_of_some _ e)
  have g1 := kk _ _ hC
  have g2 : (laid h C us).get? (h.objs.size + 1) = some (PySem.HandSPX.excO C h.objs.size) := by heap_get
  have c1 : (Value.ref C :: bm).contains (.ref C) = true := by simp
  have i1 := hi.keeps kk
  have i2 := (hb (.ref (h.objs.size + 1))).keeps kk
  unfold isInstance
  repeat (first | with_reducible refine wpAny_loadPart_at g2 ?_ | (with_reducible refine wpAny_isSubtype_exc g1 ?_; rw [c1]) | wp_step)
  show wpAny _ _ (typeLookup (.ref C) _) _ _ _
  refine i1.at ?_
  refine wpAny_holding (wpAny_bind (i2.at ?_))
  refine wpAny_bind (wpAny_call (codeAny_mono hq fun r s' z => ?_))
  rcases r with e | (v | _ | _ | _) <;> first | exact z | exact z.elim | skip
  obtain ⟨rfl, z⟩ := z
  first
    | exact wpAny_pure (wpAny_pure z)
    | (wp_walk; exact z)
theorem call_kw (F : ExcBaseFacts B newId initId bmB) (hT : ∀ Y : String, bm.contains (.type Y) = bmB.contains (.type Y)) {us : List Value} {kw : List (Str × Value)} {fI : Addr}
    (hC : h.get? C = some (excClassObj nm q C N bs bm hdct sn sub ab col dd k0 k1 k2 k3 k5 newId))
    (hi : W.Looks (model prog w) h (typeLookup (.ref C) "__init__") (some (.ref fI))) (hb : ∀ v, W.Looks (model prog w) h (bindSpecial (.ref fI) v) (.ref fI, [v])) (hus : us.length ≤ sizeLine)
    (hq : codeAny (model prog w) (A.under (.builtin "type.__call__" ⟨.ref C :: us, kw⟩)) (.call (.ref fI) ⟨.ref (h.objs.size + 1) :: us, kw⟩) (W.InitBack (h.objs.size + 1) R) ⟨laid h C us, g, d, t, os⟩) :
    codeAny (model prog w) A (.call (.ref C) ⟨us, kw⟩) R ⟨h, g, d, t, os⟩ := by
  have f1 := PySem.tc_lookup
  have f2 := PySem.tc_bind (.ref C)
  have tt : (⟨h, g, d, t, os⟩ : Shared).TypeIs (.ref C) "type" := ⟨_, hC, rfl⟩
  refine codeAny_of_tree ?_
  show wpAny _ _ (callAny (.ref C) _) _ _ _
  repeat (any_goals (first | assumption | with_reducible refine wpAny_loadPart_at hC ?_ | wp_step))
  refine ⟨rfl, ?_⟩
  refine codeAny_call_builtin_at (Code.quiet_builtin _ (by decide +kernel)) entry_typeCall (PySem.wpAny_check_type_call_sub hC (tcall_kw F hT hC hi hb hus ?_))
  refine codeAny_mono hq fun r s' z => ?_
  rcases r with e | (v | _ | _ | _) <;> exact z
end
end XV

namespace XV
open PySem PySem.Spec PyProof.Rows L2
/-- what the making of an exception of the class at C asks of the written part -/
structure MkC (K : PySem.W.Frag) (C : Addr) (initId : String) : Prop where
  cls : ∃ (B newId : String) (bmB : List Value) (_ : ExcBaseFacts B newId initId bmB) (nm q : Str) (N : Addr) (bs bm : List Value) (hdct : Bool) (sn : List Str) (sub : List Value) (ab : Bool) (col : Option Bool) (dd : Option Addr) (k0 k1 k2 k3 k5 : Option Value),
    K.lookup C = some (excClassObj nm q C N bs bm hdct sn sub ab col dd k0 k1 k2 k3 k5 newId) ∧ ∀ Y : String, bm.contains (.type Y) = bmB.contains (.type Y)
  kC : PySem.W.keepIn K (.ref C) = true
theorem MkC.ve {K : PySem.W.Frag} {C : Addr} (T : OexC K C) : MkC K C "ValueError.__init__" := by
  obtain ⟨nm, q, N, bs, bm, sn, sub, ab, col, dd, k0, k1, k2, k3, k5, hC, hbm⟩ := T.cls
  exact ⟨⟨_, _, _, PySem.F.excBase_ValueError, nm, q, N, bs, bm, true, sn, sub, ab, col, dd, k0, k1, k2, k3, k5, hC, fun Y => PySem.HandSPX.refsVE_contains Y bm hbm⟩, T.kC⟩
/-- C(e, .., k = v, ..) as a value: a new exception, its own __init__ keeps sp -/
def tMkV (C : Addr) (n m : Nat) (sp : Sp) (gV : List V → List V → List V) (E : XK) (ta tk : TA) : TE := fun σ H Q => ta σ H fun vs H1 => tk σ H1 fun zs H2 =>
  vs.length = n ∧ zs.length = m ∧ ∀ a, H2 a = none → sp (gV (.ref a :: vs) zs) (upd H2 a (exo a C none)) (fun v H3 => v = .non ∧ Q (.ref a) H3) E
section
variable {X : Cx} {CX : CXT} {k n : Nat} {iid : String} {fI C : Addr} {fd : FuncData} {ps ks : List Str} {sp : Sp} {E : XK} {x : Str} {p pos : Pos} {e : Expr} {es : List Expr} {kws : List Keyword} {t tk : TA} {g : List Value → List Value → List Value} {gV : List V → List V → List V}
theorem run_mkv {pins : List (Addr × Obj)} {σ : L2.St} {H : Hp} {s : Shared} {Q : VK} {us ws : List Value} {vs zs : List V} (T : MkC X.K C iid) (iC : PySem.W.findIn X.K (.ref C) "__init__" = some (some (.ref fI))) (tI : PySem.W.typeIn X.K (.ref fI) = some (.type "function"))
    (F : FnOk X.prog X.w X.K X.mg X.base CX k fI fd ps sp) (hr : Room (k + 1) X.A) (hb : KBn X.K fd ps (n + 1) ks g gV) (hx : Passes CX X E) (I : Inv X pins σ H s) (r : Vals vs us) (rz : Vals zs ws) (hn : n ≤ 1000) (l1 : vs.length = n) (l2 : zs.length = ks.length)
    (h : ∀ a, H a = none → sp (gV (.ref a :: vs) zs) (upd H a (exo a C none)) (fun v H3 => v = .non ∧ Q (.ref a) H3) E) : wpAny (model X.prog X.w) X.A (call (.ref C) us (ks.zip ws)) (EP X pins σ Q) X.xe s := by
  obtain ⟨B, newId, bmB, F0, nm, q, N, bs, bm, hdct, sn, sub, ab, col, dd, k0, k1, k2, k3, k5, hC, hbm⟩ := T.cls
  obtain ⟨hp, g0, dr, tk0, os⟩ := s
  have hsz : hp.objs.size ≤ hp.objs.size + 1 := Nat.le_succ _
  have hnn : H (hp.objs.size + 1) = none := I.hok.fresh hsz
  have hq := h (hp.objs.size + 1) hnn
  have kk : ∀ b o, hp.get? b = some o → (laid hp C us).get? b = some o := fun b o z => Heap.get?_push_of_some _ (Heap.get?_push_of_some _ z)
  have hget : (laid hp C us).get? (hp.objs.size + 1) = some (PySem.HandSPX.excO C hp.objs.size) := by heap_get
  have I2 : Inv X pins σ (upd H (hp.objs.size + 1) (exo (hp.objs.size + 1) C none)) ⟨laid hp C us, g0, dr, tk0, os⟩ := I.laid (t' := tk0) (a := hp.objs.size + 1) (o := exo (hp.objs.size + 1) C none) (h' := laid hp C us) kk hsz (exo_ok hget)
  have r1 : Vals (V.ref (hp.objs.size + 1) :: vs) (Value.ref (hp.objs.size + 1) :: us) := .cons rfl r
  have r2 := hb.rel r1 rz
  have e1 : (Value.ref (hp.objs.size + 1) :: us).length = n + 1 := r1.length.symm.trans (congrArg Nat.succ l1)
  have e2 : ws.length = ks.length := rz.length.symm.trans l2
  have hus : us.length ≤ sizeLine := by
    have z := r.length
    rw [sizeLine_eq]
    omega
  refine wpAny_call (call_kw F0 hbm (I.kIn _ _ hC) (PySem.W.looks_findIn I.kIn iC) (fun v => PySem.W.bind_fn I.kIn v tI) hus
    (codeAny_mono (F.run _ X.stack _ _ ⟨Value.ref (hp.objs.size + 1) :: us, ks.zip ws⟩ (g (Value.ref (hp.objs.size + 1) :: us) ws) _ _ E (hr.make C us (ks.zip ws)) (I2.env0.make C us (ks.zip ws)) (hb.to _ (Value.ref (hp.objs.size + 1) :: us) ws I2.kIn e1 e2) r2 hq) fun rr s' hq' => ?_))
  cases rr with
  | error er => exact hx pins σ _ _ er s' I2 hq'
  | ok fl =>
    cases fl with
    | ret u =>
      obtain ⟨v, H', I3, rv, ev, q3⟩ := I2.after hq'
      subst ev
      exact ⟨rv, V.ref (hp.objs.size + 1), H', I3, rfl, q3⟩
    | next => exact False.elim hq'
    | brk => exact False.elim hq'
    | cont => exact False.elim hq'
/-- C(k = v, ..) -/
theorem pe_mkvK (T : MkC X.K C iid) (iC : PySem.W.findIn X.K (.ref C) "__init__" = some (some (.ref fI))) (tI : PySem.W.typeIn X.K (.ref fI) = some (.type "function"))
    (F : FnOk X.prog X.w X.K X.mg X.base CX k fI fd ps sp) (hr : Room (k + 1) X.A) (hg : Gl X x) (hm : X.mg x = some (.ref C)) (hb : KBn X.K fd ps 1 ks g gV) (hx : Passes CX X E) (hkw : PK X kws tk)
    (hall : (backToKw pos (keywordEach kws X.env)).all (·.1.isSome) = true := by rfl) (hks : (backToKw pos (keywordEach kws X.env)).filterMap (·.1) = ks := by rfl) (hdb : (x == ("__debug__" : Str)) = false := by decide)
    (hpl : ((backTo pos (starEach [] X.env)).any (·.1) || (backToKw pos (keywordEach kws X.env)).any (·.1.isNone)) = false := by rfl) :
    PE X (.Call (.Name x p) [] kws pos) (tMkV C 0 ks.length sp gV E tNil tk) := by
  refine ⟨fun pins s σ H Q I h => ?_⟩
  refine wpAny_Call_Name_kw (ld_glob I hg hm ?_ hdb)
  refine PySem.W.callWith_KW0 (h₀ := X.base) I.ok.mod.kin T.kC hall ?_ hpl
  refine thn (hkw.run pos pins s σ H _ I h) fun ws s2 ⟨zs, H2, I2, rz, l1, l2, q2⟩ => ⟨I2.kIn, ?_⟩
  rw [hks]
  exact run_mkv (n := 0) (us := []) (vs := []) T iC tI F hr hb hx I2 .nil rz (by decide) rfl l2 q2
/-- C(e, ..) -/
theorem pe_mkv (T : MkC X.K C iid) (iC : PySem.W.findIn X.K (.ref C) "__init__" = some (some (.ref fI))) (tI : PySem.W.typeIn X.K (.ref fI) = some (.type "function"))
    (F : FnOk X.prog X.w X.K X.mg X.base CX k fI fd ps sp) (hr : Room (k + 1) X.A) (hg : Gl X x) (hm : X.mg x = some (.ref C)) (hb : KBn X.K fd ps (n + 1) [] g gV) (hx : Passes CX X E) (ha : PA X (e :: es) t) (hn : n ≤ 1000 := by decide)
    (hdb : (x == ("__debug__" : Str)) = false := by decide) (he : starEach (e :: es) X.env = (false, eval e X.env) :: starEach es X.env := by rfl) (hpl : (backTo pos (starEach es X.env)).any (·.1) = false := by rfl) :
    PE X (.Call (.Name x p) (e :: es) [] pos) (tMkV C n 0 sp gV E t tNil) := by
  refine ⟨fun pins s σ H Q I h => ?_⟩
  refine wpAny_Call_Name_kw (ld_glob I hg hm ?_ hdb)
  refine PySem.W.callWith_K (h₀ := X.base) I.ok.mod.kin T.kC (thn (ha.run pos pins s σ H _ I h) fun us s1 ⟨vs, H1, I1, r, l1, l2, q⟩ => ⟨I1.kIn, ?_⟩) he hpl
  exact run_mkv (us := us) (ws := []) (zs := []) (ks := []) T iC tI F hr hb hx I1 r .nil hn l1 rfl q
/-- C() -/
theorem pe_mkv0 (T : MkC X.K C iid) (iC : PySem.W.findIn X.K (.ref C) "__init__" = some (some (.ref fI))) (tI : PySem.W.typeIn X.K (.ref fI) = some (.type "function"))
    (F : FnOk X.prog X.w X.K X.mg X.base CX k fI fd ps sp) (hr : Room (k + 1) X.A) (hg : Gl X x) (hm : X.mg x = some (.ref C)) (hb : KBn X.K fd ps 1 [] g gV) (hx : Passes CX X E)
    (hdb : (x == ("__debug__" : Str)) = false := by decide) : PE X (.Call (.Name x p) [] [] pos) (tMkV C 0 0 sp gV E tNil tNil) := by
  refine ⟨fun pins s σ H Q I h => ?_⟩
  obtain ⟨l1, l2, q⟩ := h
  refine wpAny_Call_Name_kw (ld_glob I hg hm ?_ hdb)
  refine PySem.W.callWith_K0 I.kIn T.kC ?_
  exact run_mkv (n := 0) (us := []) (vs := []) (ws := []) (zs := []) (ks := []) T iC tI F hr hb hx I .nil .nil (by decide) rfl rfl q
end
section
variable {X : Cx} {pins : List (Addr × Obj)} {σ : L2.St} {H : Hp} {s : Shared} {a C C0 : Addr} {iid : String} {A : Around} {E : Value → Shared → Prop} {x : Str} {e : Expr} {es : List Expr} {ta : TA} {mc : Value} {p1 p2 pos : Pos}
/-- the base's __init__ called with the object: nothing of it is told -/
theorem ini_ok {us : List Value} {Q : Value → Shared → Prop} (T : MkC X.K C iid) (I : Inv X pins σ H s) (ea : H a = some (exo a C none)) (hl : us.length ≤ sizeLine) (h : ∀ s', Inv X pins σ H s' → Q .none s') :
    wpAny (model X.prog X.w) A (call (.builtin iid) (.ref a :: us)) Q E s := by
  obtain ⟨B, newId, bmB, F0, nm, q, N, bs, bm, hdct, sn, sub, ab, col, dd, k0, k1, k2, k3, k5, hC, hbm⟩ := T.cls
  obtain ⟨t1, ho⟩ := exo_at I.hok ea
  obtain ⟨hp, g, d, t, os⟩ := s
  refine wpAny_call (PySem.HandSPX.init_base F0 hbm (I.kIn _ _ hC) ho hl fun h' t2 k hx => ?_)
  have J := I.write (t' := t) (x := a) (e := a) (o := exo a C none) (by rw [ea]; exact True.intro) (.inl rfl) k ⟨_, hx⟩ (exo_ok hx)
  have eu : upd H a (exo a C none) = H := by
    funext b
    by_cases hb : b = a
    · rw [hb, upd_same, ea]
    · rw [upd_ne hb]
  rw [eu] at J
  exact h _ J
/-- D.__init__(self, ..), D an own class or a built-in one whose __init__ is the built-in at iid -/
def tIni (K : PySem.W.Frag) (iid : String) (ta : TA) : TE := fun σ H Q => ta σ H fun vs H1 => ∃ (a C : Addr) (ws : List V), vs = .ref a :: ws ∧ ws.length ≤ 1000 ∧ MkC K C iid ∧ H1 a = some (exo a C none) ∧ Q .non H1
structure CIni (K : PySem.W.Frag) (C0 : Addr) (mc : Value) (iid : String) : Prop where
  rd : PySem.W.readsIn K C0 mc = true
  ga : PySem.W.specialIn K (.ref C0) "__getattribute__" = some (some (.builtin "type.__getattribute__"))
  val : PySem.W.findCls K (.ref C0) mc "__init__" = some (.val (.builtin iid))
theorem ini_tail {pl : List (Bool × Sem Value)} {u1 : List Value} {H1 : Hp} {s1 : Shared} {vs : List V} {Q : VK} (I1 : Inv X pins σ H1 s1) (r1 : Vals vs u1)
    (h : ∃ (a C : Addr) (ws : List V), vs = .ref a :: ws ∧ ws.length ≤ 1000 ∧ MkC X.K C iid ∧ H1 a = some (exo a C none) ∧ Q .non H1) : wpAny (model X.prog X.w) X.A (call (.builtin iid) u1) (EP X pins σ Q) X.xe s1 := by
  obtain ⟨a, C, ws, ev, hlen, T, ea, q⟩ := h
  subst ev
  cases r1 with
  | @cons _ u0 _ ur ra rw' =>
    obtain rfl : u0 = Value.ref a := ra
    have l2 : ur.length ≤ sizeLine := by
      rw [← Paired.length rw', sizeLine_eq]
      omega
    exact ini_ok T I1 ea l2 fun s' J => ⟨.non, H1, J, rfl, q⟩
theorem pe_ini {pl : Sem Bool} (hg : Gl X x) (hm : X.mg x = some (.ref C0)) (ci : CIni X.K C0 mc iid) (ha : PA X (e :: es) ta) (hh : PySem.W.handedIn (.builtin iid) = true := by decide +kernel)
    (hc : eval (.Call (.Attribute (.Name x p1) "__init__" p2) (e :: es) [] pos) X.env = (do
      let ov ← eval (.Name x p1) X.env
      standAt p2.atName
      let (f, first) ← holding [ov] (getMethod ov "__init__" pl)
      callWith pos f first (backTo pos (starEach (e :: es) X.env)) (backToKw pos (keywordEach [] X.env))) := by rfl)
    (he : starEach (e :: es) X.env = (false, eval e X.env) :: starEach es X.env := by rfl) (hpl : (backTo pos (starEach es X.env)).any (·.1) = false := by rfl) (hdb : (x == ("__debug__" : Str)) = false := by decide) :
    PE X (.Call (.Attribute (.Name x p1) "__init__" p2) (e :: es) [] pos) (tIni X.K iid ta) := by
  refine ⟨fun pins s σ H Q I h => ?_⟩
  refine PySem.W.methodCall_KW (ld_glob I hg hm ?_ hdb) hc
  refine PySem.W.method_cls I.kIn ci.ga (PySem.W.cls_value I.kIn ci.rd ci.val hh ?_)
  show wpAny _ _ (callWith pos (Value.builtin iid) [] (backTo pos (starEach (e :: es) X.env)) []) _ _ _
  exact PyProof.Rows.callWith_method1 (thn (ha.run pos pins _ σ H _ (I.tok _) h) fun us s1 ⟨vs, H1, I1, r1, q⟩ => ini_tail (pl := []) I1 r1 q) he hpl
/-- the same, D a built-in class -/
theorem pe_iniB {pl : Sem Bool} {T0 : String} (hg : Gl X x) (hm : X.mg x = none) (hbt : bootBuiltins x = some (.type T0)) (ht : typeOf (.type T0) = pure (.type "type")) (hst : Manifest.isStub T0 = false) (vV : PySem.W.findCls X.K (.type T0) (.type "type") "__init__" = some (.val (.builtin iid))) (ha : PA X (e :: es) ta)
    (hh : PySem.W.handedIn (.builtin iid) = true := by decide +kernel)
    (hc : eval (.Call (.Attribute (.Name x p1) "__init__" p2) (e :: es) [] pos) X.env = (do
      let ov ← eval (.Name x p1) X.env
      standAt p2.atName
      let (f, first) ← holding [ov] (getMethod ov "__init__" pl)
      callWith pos f first (backTo pos (starEach (e :: es) X.env)) (backToKw pos (keywordEach [] X.env))) := by rfl)
    (he : starEach (e :: es) X.env = (false, eval e X.env) :: starEach es X.env := by rfl) (hpl : (backTo pos (starEach es X.env)).any (·.1) = false := by rfl) (hnn : x ≠ "__name__" := by decide) (hdb : (x == ("__debug__" : Str)) = false := by decide) :
    PE X (.Call (.Attribute (.Name x p1) "__init__" p2) (e :: es) [] pos) (tIni X.K iid ta) := by
  refine ⟨fun pins s σ H Q I h => ?_⟩
  refine PySem.W.methodCall_KW (ld_blt I hg hm hbt ?_ hnn hdb) hc
  obtain ⟨m, fr⟩ := I.fr
  refine PySem.W.method_type fr I.ok.mod.kin ht hst vV hh ?_
  show wpAny _ _ (callWith pos (Value.builtin iid) [] (backTo pos (starEach (e :: es) X.env)) []) _ _ _
  exact PyProof.Rows.callWith_method1 (thn (ha.run pos pins _ σ H _ (I.tok _) h) fun us s1 ⟨vs, H1, I1, r1, q⟩ => ini_tail (pl := []) I1 r1 q) he hpl
end
end XV

namespace XV
open PySem PySem.Spec PyProof.Rows L2
/-- an exception of the class at C, with its dict or without one -/
def ExAt (H : Hp) (a C : Addr) : Prop := ∃ d, H a = some (exo a C d) ∧ ∀ dx, d = some dx → ∃ fs, H dx = some (exd dx fs)
theorem ExAt.inst {X : Cx} {pins : List (Addr × Obj)} {σ : L2.St} {H : Hp} {s : Shared} {a C : Addr} (I : Inv X pins σ H s) (h : ExAt H a C) : ∃ (ox : Obj) (od : Option Obj), PySem.W.InstAt s.heap a ox C od := by
  obtain ⟨d, ea, ed⟩ := h
  obtain ⟨t1, ho⟩ := exo_at I.hok ea
  cases d with
  | none => exact ⟨_, none, ⟨ho, rfl, rfl, trivial⟩⟩
  | some dx =>
    obtain ⟨fs, e2⟩ := ed dx rfl
    obtain ⟨mA, ⟨o, es, ep, h1, h2⟩, rel⟩ := exd_at I.hok e2
    exact ⟨_, some o, ⟨ho, rfl, rfl, h1⟩⟩
/-- isinstance(e, c), e such an exception -/
def rIsX (K : PySem.W.Frag) : List V → Hp → VK → Prop := fun xs H Q => ∃ (a C : Addr) (c : V) (cv : Value) (b : Bool), xs = [.ref a, c] ∧ ExAt H a C ∧ ExcC K C ∧ ClsV c cv ∧ PySem.W.kitOne K (.ref C) cv = some b ∧ Q (.bl b) H
theorem hasDict_cls {K : PySem.W.Frag} {C : Addr} (h : PySem.W.hasDictIn K C = true) : (PySem.W.clsIn K C).isSome = true := by
  unfold PySem.W.hasDictIn at h
  cases e : PySem.W.clsIn K C with
  | none => rw [e] at h; exact absurd h (by decide)
  | some c => rfl
theorem call_isX {X : Cx} : CallR X (.builtin "isinstance") (rIsX X.K) := by
  intro pins s σ H xs us Q I r h
  obtain ⟨a, C, c, cv, b, rfl, hx, T, k, e, q⟩ := h
  obtain ⟨u1, u2, rfl, r1, r2⟩ := vals2 r
  cases (show u1 = Value.ref a from r1)
  have e2 := k.eq r2
  subst e2
  obtain ⟨ox, od, J⟩ := hx.inst I
  exact PySem.W.kia_one (PySem.W.kitx_exc (hasDict_cls T.hd) T.hg T.hk T.hs T.ha T.hn T.ht T.hm) I.kIn J e (fun z => nomatch z) fun tk => ⟨.bl b, H, I.tok tk, rfl, q⟩
/-- e.f, e such an exception -/
def tXfv (K : PySem.W.Frag) (f : Str) (te : TE) : TE := fun σ H Q => te σ H fun x H1 => ∃ (a C d : Addr) (fs : List (Str × V)) (v : V), x = .ref a ∧ XfC K C ∧ PySem.W.findIn K (.ref C) f = some none ∧ H1 a = some (exo a C (some d)) ∧ H1 d = some (exd d fs) ∧ fs.lookup f = some v ∧ Q v H1
theorem pe_xfv {X : Cx} {e : Expr} {te : TE} {pos : Pos} {f : Str} (he : PE X e te) (hb : attributeBase e f X.env (eval e X.env) = eval e X.env := by rfl) : PE X (.Attribute e f pos) (tXfv X.K f te) := by
  refine ⟨fun pins s σ H Q I h => ?_⟩
  refine attr_of hb (thn (he.run pins s σ H _ I h) fun u s1 ⟨x, H1, I1, rx, a, C, d, fs, v, ex, T, hno, ea, ed, l, q⟩ => ?_)
  subst ex
  obtain rfl : u = Value.ref a := rx
  obtain ⟨t1, ho⟩ := exo_at I1.hok ea
  obtain ⟨mA, hns, rel⟩ := exd_at I1.hok ed
  obtain ⟨od, h2, hl⟩ := lookIn_ns hns
  obtain ⟨u, hu, ru⟩ := RelO.some_of (v := v) (o := mA f) (by rw [← l]; exact rel f)
  have J : PySem.W.InstAt s1.heap a ({ cls := .ref C, dict := some d, data := .fields #[.ref t1, .none, .none, .none, .bool false, .none] } : Obj) C (some od) := ⟨ho, rfl, rfl, h2⟩
  exact HandSPX.exc_get I1.kIn J T.ga T.gg T.exC (PySem.W.findObj_own T.hdC hno rfl (by rw [hl, hu])) (handed_of ru) ⟨v, H1, I1.tok _, ru, q⟩
end XV

/-! lambdas as values: made, handed on, called from anywhere; what they captured stands locked in the abstract heap -/
namespace XL
open PySem PySem.Spec PyProof.Rows L2 LamX NdefX
/-- the object at f is the lambda F with the body b -/
def LamO (f : Addr) (F : NF) (b : Expr) : HO := .ext fun h => ∃ (od : Option Addr) (sl : Array (Option Value)) (pm ctv : Value),
  h.get? f = some (⟨.type "function", od, .func (PySem.W.kla_fn "<lambda>" F.qual F.params b F.scope F.cl pm (.ref F.c) ctv), sl⟩ : Obj)
theorem lamO_at {P : Program} {w : World} {H : Hp} {h : Heap} {f : Addr} {F : NF} {b : Expr} (hok : HOk P w H h) (e : H f = some (LamO f F b)) : ∃ (od : Option Addr) (sl : Array (Option Value)) (pm ctv : Value),
    h.get? f = some (⟨.type "function", od, .func (PySem.W.kla_fn "<lambda>" F.qual F.params b F.scope F.cl pm (.ref F.c) ctv), sl⟩ : Obj) := by
  obtain ⟨z, _, _⟩ := hok f _ e
  exact z
/-- the words of a lambda that the frame X makes -/
abbrev lamF (X : Cx) (params : Arguments) (scope : Scope) (c' : Addr) : NF := ⟨"<lambda>", X.env.qual ++ "<lambda>", params, [], scope, cloFrom X.env.cells scope.names [], c'⟩
section
variable {X : Cx} {pins : List (Addr × Obj)} {σ : L2.St} {H : Hp} {s : Shared}
theorem inv_lam {F : NF} {b : Expr} {o : Obj} {t' : Nat} {pm ctv : Value} (I : Inv X pins σ H s) (ho : o = { cls := .type "function", data := .func (PySem.W.kla_fn "<lambda>" F.qual F.params b F.scope F.cl pm (.ref F.c) ctv) }) :
    Inv X pins σ (upd H s.heap.objs.size (LamO s.heap.objs.size F b)) { s with heap := s.heap.push o, toks := t' } := by
  subst ho
  refine I.laid (a := s.heap.objs.size) (fun b u e => Heap.get?_push_of_some _ e) (Nat.le_refl _) ?_
  have e : (s.heap.push ({ cls := .type "function", data := .func (PySem.W.kla_fn "<lambda>" F.qual F.params b F.scope F.cl pm (.ref F.c) ctv) } : Obj)).get? s.heap.objs.size = some _ := Heap.get?_push_size _ rfl
  exact ⟨⟨_, _, pm, ctv, e⟩, ⟨_, e⟩, fun h1 h2 ⟨od, sl, p, t, z⟩ st => ⟨od, sl, p, t, st _ z⟩⟩
theorem lam_mk {T : List NTab} {nm : Nat → Nat → Str} {c P : Addr} {params : Arguments} {body : Expr} {scope : Scope} {pos : Pos} {E : Value → Shared → Prop} {Q : Value → Shared → Prop} (I : Inv X pins σ H s) (TB : TabB X.base X.mg c P) (hcode : X.env.code = .ref c)
    (hm : (P, nm) ∈ T) (hn : nm pos.line pos.col = X.env.qual ++ "<lambda>") (hu : ∀ p ∈ T, p.1 = P → p.2 = nm) (hT : TabsN T H) (hdef : defaultsOf params X.env = ([], [])) (hfree : ∀ y ∈ scope.names, y.2 = .free → ∃ c, X.env.cells.lookup y.1 = some c)
    (h : ∀ (f c' : Addr) (H1 : Hp) (s' : Shared), Inv X pins σ H1 s' → ExtN H H1 → (∀ b, H1 b = Option.none → H b = Option.none) → TabsN T H1 → H f = none → H1 f = some (LamO f (lamF X params scope c') body) → H1 c' = some (CodeO c' (X.env.qual ++ "<lambda>")) → Q (.ref f) s') :
    wpAny (model X.prog X.w) X.A (eval (.Lambda params body scope pos) X.env) Q E s := by
  obtain ⟨ps, hP, ht, ha⟩ := (show TabN H P nm from hT _ hm)
  have bP : s.heap.BuiltinsAt X.mg P := TB.bm.keeps I.bk
  have hP' : s.heap.get? P = some { cls := .none, data := .fields ps } := I.hok P _ hP
  refine PySem.W.kla_eval hdef ?_
  cases hc : codeAmong pos ps.toList with
  | none =>
    refine PySem.W.kla_makeFunction (mg := X.mg) (c := c) (P := P) (ps := ps) (closure_ok hfree) I.ok.glob (I.mod.glob.keeps I.bk) hcode (TB.code.keeps I.bk) hP' ht hc TB.gP bP fun c' ctv h' tk hx hge hlt hrec htb => ?_
    obtain ⟨c2, oc, vs, t, e2, hoc, hd, hv⟩ := hrec
    cases e2
    have nC : H c' = none := I.hok.fresh hge
    have I1 := inv_table (t' := tk) (q := X.env.qual ++ "<lambda>") (more := #[rawInt pos.line, rawInt pos.col, .ref c']) (h' := h') I hP (fun b o hb e => hx b o hb e) htb hge ⟨oc, vs, t, hoc, hd, hv⟩
    have hE : ExtN H (upd (upd H P (.tbl (ps ++ #[rawInt pos.line, rawInt pos.col, .ref c']))) c' (CodeO c' (X.env.qual ++ "<lambda>"))) := fun b o e n => by
      rw [upd_ne (ne_of_none e nC), upd_ne (fun z => n ps (Option.some.inj (e.symm.trans (by rw [z]; exact hP))))]
      exact e
    have eL : (ps ++ #[rawInt pos.line, rawInt pos.col, .ref c']).toList = ps.toList ++ [rawInt pos.line, rawInt pos.col, .ref c'] := by simp
    have T1 : TabsN T (upd (upd H P (.tbl (ps ++ #[rawInt pos.line, rawInt pos.col, .ref c']))) c' (CodeO c' (X.env.qual ++ "<lambda>"))) := fun p hp => by
      by_cases hb : p.1 = P
      · rw [hu p hp hb, hb]
        refine ⟨_, by rw [upd_ne (ne_of_none hP nC), upd_same], by rw [eL]; exact PySem.TriplesOk_snoc _ _ _ _ ht, fun p' cv hcv => ?_⟩
        rw [eL] at hcv
        rcases among_app2 _ ht hcv with z | ⟨z, z1, z2⟩
        · obtain ⟨c0, e1, e2⟩ := ha p' cv z
          exact ⟨c0, e1, hE _ _ e2 codeO_ne⟩
        · refine ⟨c', z, ?_⟩
          rw [← z1, ← z2, hn]
          exact upd_same
      · obtain ⟨ps', a1, a2, a3⟩ := hT p hp
        refine ⟨ps', by rw [upd_ne (ne_of_none a1 nC), upd_ne hb]; exact a1, a2, fun p' cv hcv => ?_⟩
        obtain ⟨c0, e1, e2⟩ := a3 p' cv hcv
        exact ⟨c0, e1, hE _ _ e2 codeO_ne⟩
    have nF := I1.hok.fresh (Nat.le_refl _)
    have I2 := inv_lam (F := lamF X params scope c') (b := body) (t' := tk) (pm := (X.mg "__name__").getD .none) (ctv := ctv) I1 rfl
    refine h h'.objs.size c' _ _ I2 (fun b o e n => ?_) (fun b e => upd_none (upd_none (upd_none e))) (T1.ext fun b o e => ?_) (I.hok.fresh (Nat.le_trans hge (Nat.le_of_lt hlt))) upd_same ?_
    · have e1 := hE b o e n
      exact (upd_ne (ne_of_none e1 nF)).trans e1
    · exact (upd_ne (ne_of_none e nF)).trans e
    · exact (upd_ne (Nat.ne_of_lt hlt)).trans upd_same
  | some cv =>
    obtain ⟨c', e, hco⟩ := ha pos cv hc
    subst e
    rw [hn] at hco
    refine PySem.W.kla_makeFunctionHit (mg := X.mg) (c := c) (P := P) (ps := ps) (closure_ok hfree) I.ok.glob (I.mod.glob.keeps I.bk) hcode (TB.code.keeps I.bk) hP' ht hc bP fun ctv h' tk hx hsz => ?_
    have I1 : Inv X pins σ H { s with heap := h', toks := tk } := I.kept hx
    have nF : H h'.objs.size = none := I1.hok.fresh (Nat.le_refl _)
    have I2 := inv_lam (F := lamF X params scope c') (b := body) (t' := tk) (pm := (X.mg "__name__").getD .none) (ctv := ctv) I1 rfl
    refine h h'.objs.size c' _ _ I2 (fun b o e n => ?_) (fun b e => upd_none e) (hT.ext fun b o e => ?_) nF upd_same ?_
    · exact (upd_ne (ne_of_none e nF)).trans e
    · exact (upd_ne (ne_of_none e nF)).trans e
    · exact (upd_ne (ne_of_none hco nF)).trans hco
end
/-- lambda ..: e, as a value -/
def tLamV (T : List NTab) (mk : Addr → NF) (b : Expr) : TE := fun _ H Q => TabsN T H ∧ ∀ (f c' : Addr) (H1 : Hp), ExtN H H1 → (∀ x, H1 x = Option.none → H x = Option.none) → TabsN T H1 → H f = none → H1 f = some (LamO f (mk c') b) → H1 c' = some (CodeO c' (mk c').qual) → Q (.ref f) H1
theorem pe_lam {X : Cx} {T : List NTab} {nm : Nat → Nat → Str} {c P : Addr} {params : Arguments} {body : Expr} {scope : Scope} {pos : Pos} (TB : TabB X.base X.mg c P) (hcode : X.env.code = .ref c) (hm : (P, nm) ∈ T) (hn : nm pos.line pos.col = X.env.qual ++ "<lambda>") (hu : ∀ p ∈ T, p.1 = P → p.2 = nm)
    (hfree : ∀ y ∈ scope.names, y.2 = .free → X.env.scope.names.lookup y.1 = some .cell ∨ X.env.scope.names.lookup y.1 = some .free) (hdef : defaultsOf params X.env = ([], []) := by rfl) : PE X (.Lambda params body scope pos) (tLamV T (lamF X params scope) body) := by
  refine ⟨fun pins s σ H Q I ⟨hT, h⟩ => ?_⟩
  exact lam_mk I TB hcode hm hn hu hT hdef (fun y hy e => (hfree y hy e).elim (fun z => I.ok.has _ (.inl z)) fun z => I.ok.has _ (.inr z)) fun f c' H1 s' J e1 e2 e3 e4 e5 e6 => ⟨.ref f, H1, J, rfl, h f c' H1 e1 e2 e3 e4 e5 e6⟩
/-- the promise of the lambda at f: sp ws, ws what its captured cells hold at the call -/
structure LOk (P : Program) (w : World) (K : PySem.W.Frag) (mg : Str → Option Value) (base : Heap) (CX : CXT) (k : Nat) (f : Addr) (F : NF) (b : Expr) (ps fr : List Str) (sp : List (Option V) → Sp) : Prop where
  len : ∀ ws vs H Q E, sp ws vs H Q E → vs.length = ps.length
  run : ∀ (A : Around) (outer : List Env) (s : Shared) (H : Hp) (us : List Value) (vs : List V) (ws : List (Option V)) (Q : VK) (E : XK), Room k A → Env0 P w K mg base A outer s H → H f = some (LamO f F b) → H F.c = some (CodeO F.c F.qual) →
    CellsAt F.cl fr ws s.heap H → Vals vs us → sp ws vs H Q E → codeAny (model P w) A (.call (.ref f) ⟨us, []⟩) (CR CX outer P w H s Q E) s
section
variable {CX : CXT} {P : Program} {w : World} {K : PySem.W.Frag} {mg : Str → Option Value} {base : Heap} {N ps fr : List Str} {F : NF} {b : Expr} {f : Addr} {k j : Nat} {sp sp' : List (Option V) → Sp}
theorem LOk.mono (o : LOk P w K mg base CX j f F b ps fr sp) (h : j ≤ k) : LOk P w K mg base CX k f F b ps fr sp := ⟨o.len, fun A outer s H us vs ws Q E hr => o.run A outer s H us vs ws Q E (hr.mono h)⟩
theorem lok_of (S : NScope N ps fr F.scope) (hb : ∀ (pm ctv : Value) (us : List Value), us.length = ps.length → bindArgs (PySem.W.kla_fn "<lambda>" F.qual F.params b F.scope F.cl pm (.ref F.c) ctv) ⟨us, []⟩ = pure (ps.zip us)) (len : ∀ ws vs H Q E, sp ws vs H Q E → vs.length = ps.length)
    (hbody : ∀ (A : Around) (outer : List Env) (s : Shared) (H : Hp) (vs : List V) (ws : List (Option V)) (Q : VK) (E : XK), Room k (A.deeper (envF F f s.heap.objs.size)) → H f = some (LamO f F b) → H F.c = some (CodeO F.c F.qual) → ws.length = fr.length → sp ws vs H Q E →
      ∃ t, PE (ncx CX P w K mg base N F f A outer s H E) b t ∧ t (startF N vs ws) H Q) : LOk P w K mg base CX (k + 1) f F b ps fr sp := by
  refine ⟨len, fun A outer s H us vs ws Q E hr e0 hf hc C r hsp => ?_⟩
  have hl := len _ _ _ _ _ hsp
  have lim : s.heap.NoLimit := e0.mod.nolimit.keeps fun b o e => (e0.bs b o e).1
  obtain ⟨od, sl, pm, ctv, ho⟩ := lamO_at e0.hok hf
  refine PySem.W.kla_callFunE hr.depth ho rfl S.co S.gen rfl (codeO_at e0.hok hc) ?_
  rw [hb pm ctv us (by rw [← r.length]; exact hl)]
  refine wpAny_pure (wpAny_newFunctionEnv S.nocell (fun ⟨n, _⟩ hy => S.par n (List.of_mem_zip hy).1) (fun h₁ hns hsb => ⟨lim.fresh _ hsb, ?_⟩) S.kind)
  show codeAny _ _ (.expr b (envF F f s.heap.objs.size)) _ _
  have kp : ∀ b o, s.heap.get? b = some o → h₁.get? b = some o := fun b o e => hsb.extBut b o (Nat.ne_of_lt (Heap.lt_size e)) (Heap.get?_push_of_some _ e)
  obtain ⟨t, ht, hq⟩ := hbody A outer s H vs ws Q E (hr.deeper _) hf hc C.len hsp
  have I : Inv (ncx CX P w K mg base N F f A outer s H E) [] (startF N vs ws) H { s with heap := h₁, toks := s.toks + (ps.zip us).length } := inv_startN S hr.hd e0 hl r C hns kp
  refine PySem.W.kla_codeExpr (wpAny_mono (ht.run [] _ (startF N vs ws) H Q I hq) (fun v s' hs => ?_) fun e s' hs => hs)
  obtain ⟨v, H', J, rv, q⟩ := hs
  exact ⟨v, H', J.os, J.bare, J.base, J.hok, rv, q⟩
end
end XL

namespace XL
open PySem PySem.Spec PyProof.Rows L2 LamX NdefX
/-! ### locked cells -/
abbrev cellX : HO := .ext fun _ => True
/-- at c: a cell that holds v, locked -/
def CellT (H : Hp) (c : Addr) (v : V) : Prop := ∃ (o : Obj) (u : Value), H c = some (.frz o cellX) ∧ o.data = .cell (some u) ∧ RelV v u
/-- the abstract heap without the addresses cs; with them as they stand in H -/
def off (cs : List Addr) (H : Hp) : Hp := fun b => if b ∈ cs then none else H b
def on (cs : List Addr) (H H' : Hp) : Hp := fun b => if b ∈ cs then H b else H' b
theorem off_in {cs : List Addr} {H : Hp} {b : Addr} (h : b ∈ cs) : off cs H b = none := if_pos h
theorem off_out {cs : List Addr} {H : Hp} {b : Addr} (h : b ∉ cs) : off cs H b = H b := if_neg h
theorem on_in {cs : List Addr} {H H' : Hp} {b : Addr} (h : b ∈ cs) : on cs H H' b = H b := if_pos h
theorem on_out {cs : List Addr} {H H' : Hp} {b : Addr} (h : b ∉ cs) : on cs H H' b = H' b := if_neg h
theorem off_nil {H : Hp} : off [] H = H := by funext b; exact if_neg (by simp)
theorem on_nil {H H' : Hp} : on [] H H' = H' := by funext b; exact if_neg (by simp)
/-- cs are locked -/
def Lk (cs : List Addr) (H : Hp) : Prop := ∀ c ∈ cs, ∃ o, H c = some (.frz o cellX)
section
variable {cs : List Addr} {P : Program} {w : World} {K : PySem.W.Frag} {mg : Str → Option Value} {base : Heap} {A : Around} {outer : List Env} {s s' : Shared} {H H' : Hp} {h : Heap}
theorem Lk.out (l : Lk cs H) {b : Addr} {u : HO} (e : H b = some u) (n : ∀ o v, u ≠ .frz o v) : b ∉ cs := fun z => by
  obtain ⟨o, q⟩ := l b z
  rw [e] at q
  exact n _ _ (Option.some.inj q)
theorem Lk.outN (l : Lk cs H) {b : Addr} (e : H b = none) : b ∉ cs := fun z => by
  obtain ⟨o, q⟩ := l b z
  rw [e] at q
  cases q
theorem hok_off (l : Lk cs H) (x : HOk P w H h) : HOk P w (off cs H) h := fun b u e => by
  by_cases hb : b ∈ cs
  · rw [off_in hb] at e
    cases e
  · rw [off_out hb] at e
    exact (x b u e).stay (fun _ _ _ q => q) (fun c q => by rw [off_out (l.out q fun _ _ z => by cases z)]; exact q) fun c xs q => by rw [off_out (l.out q fun _ _ z => by cases z)]; exact q
theorem env_off (l : Lk cs H) (e : Env0 P w K mg base A outer s H) : Env0 P w K mg base A outer s (off cs H) :=
  ⟨e.frames, e.mod, fun b o q => ⟨(e.bs b o q).1, by rw [off_out (l.outN (e.bs b o q).2)]; exact (e.bs b o q).2⟩, e.bsz, e.funs, fun b hb => by rw [off_out (l.outN (e.frf b hb))]; exact e.frf b hb, hok_off l e.hok, e.bare⟩
theorem un_on {fs : List Addr} {hs hs' : Heap} (l : Lk cs H) (u : Un fs [] (off cs H) H' hs hs') : Un fs [] H (on cs H H') hs hs' where
  keep := fun b o q n hf hx => u.keep b o q (by rw [off_out (l.outN n)]; exact n) hf hx
  slot := fun b o q n hf hx => u.slot b o q (by rw [off_out (l.outN n)]; exact n) hf hx
  free := fun b o q n hx => by rw [on_out (l.outN n)]; exact u.free b o q (by rw [off_out (l.outN n)]; exact n) hx
  there := u.there
  tups := fun b xs q => by
    have hb := l.out q fun _ _ z => by cases z
    rw [on_out hb]
    exact u.tups b xs (by rw [off_out hb]; exact q)
  frzs := fun b o v q => by
    by_cases hb : b ∈ cs
    · rw [on_in hb]
      exact q
    · rw [on_out hb]
      exact u.frzs b o v (by rw [off_out hb]; exact q)
  tbls := fun b ps q => by
    have hb := l.out q fun _ _ z => by cases z
    rw [on_out hb]
    exact u.tbls b ps (by rw [off_out hb]; exact q)
theorem hok_on {fs : List Addr} {hs hs' : Heap} (l : Lk cs H) (x : HOk P w H hs) (u : Un fs [] (off cs H) H' hs hs') (nf : ∀ b ∈ fs, b ∉ cs) (y : HOk P w H' hs') : HOk P w (on cs H H') hs' := fun b v e => by
  have none' : ∀ {c : Addr}, c ∈ cs → H' c = none := fun {c} hc => by
    obtain ⟨o, q⟩ := l c hc
    obtain ⟨ho, _⟩ := x c _ q
    exact u.free c o ho (off_in hc) (by simp)
  by_cases hb : b ∈ cs
  · rw [on_in hb] at e
    obtain ⟨o, q⟩ := l b hb
    rw [q] at e
    cases e
    obtain ⟨ho, _⟩ := x b _ q
    have h2 := u.keep b o ho (off_in hb) (fun z => nf b z hb) (by simp)
    exact ⟨h2, True.intro, ⟨o, h2⟩, fun _ _ _ _ => True.intro⟩
  · rw [on_out hb] at e
    refine (y b v e).stay (fun _ _ _ q => q) (fun c q => ?_) fun c xs q => ?_
    · rw [on_out (fun z => by rw [none' z] at q; cases q)]
      exact q
    · rw [on_out (fun z => by rw [none' z] at q; cases q)]
      exact q
theorem ce_on (l : Lk cs H) (e : Env0 P w K mg base A outer s H) {Q : VK} {u : Value} (c : CE outer P w (off cs H) s (fun v H' => Q v (on cs H H')) u s') : CE outer P w H s Q u s' := by
  obtain ⟨v, H', os, bare, un, hok, r, q⟩ := c
  exact ⟨v, on cs H H', os, bare, un_on l un, hok_on l e.hok un (fun b hb => l.outN (e.frf b hb)) hok, r, q⟩
end
/-! ### what may be called -/
/-- the lambda F stands at f, its captured names fr hold ws, locked -/
structure LamAt (H : Hp) (f : Addr) (F : NF) (b : Expr) (fr : List Str) (ws : List V) : Prop where
  fn : H f = some (LamO f F b)
  cd : H F.c = some (CodeO F.c F.qual)
  lk : ∀ y c, F.cl.lookup y = some c → ∃ v, CellT H c v
  inj : ∀ x y c, F.cl.lookup x = some c → F.cl.lookup y = some c → x = y
  len : ws.length = fr.length
  has : ∀ (i : Nat) (y : Str), fr[i]? = some y → ∃ c, F.cl.lookup y = some c ∧ ∀ v, ws[i]? = some v → CellT H c v
/-- the addresses of its cells -/
def csOf (F : NF) : List Addr := F.cl.filterMap fun p => F.cl.lookup p.1
theorem csOf_mem {F : NF} {c : Addr} (h : c ∈ csOf F) : ∃ y, F.cl.lookup y = some c := by
  obtain ⟨p, _, e⟩ := List.mem_filterMap.mp h
  exact ⟨p.1, e⟩
theorem csOf_has {F : NF} {y : Str} {c : Addr} (e : F.cl.lookup y = some c) : c ∈ csOf F := List.mem_filterMap.mpr ⟨(y, c), PySem.mem_of_lookup e, e⟩
theorem csOf_nil {F : NF} (h : F.cl = []) : csOf F = [] := by unfold csOf; rw [h] <;> rfl
/-- a call of the object at f keeps the promise sp, by at most level k -/
def Cbl (P : Program) (w : World) (K : PySem.W.Frag) (mg : Str → Option Value) (base : Heap) (CX : CXT) (k : Nat) (f : Addr) (sp : Sp) : Prop :=
  ∀ (A : Around) (outer : List Env) (s : Shared) (H : Hp) (us : List Value) (vs : List V) (Q : VK) (E : XK), Room k A → Env0 P w K mg base A outer s H → Vals vs us → sp vs H Q E →
    PySem.W.FnAt f s.heap ∧ codeAny (model P w) A (.call (.ref f) ⟨us, []⟩) (CR CX outer P w H s Q E) s
/-- what is asked of a lambda's call, the cells locked around it -/
def spLam (f : Addr) (F : NF) (b : Expr) (fr : List Str) (sp : List (Option V) → Sp) : Sp := fun vs H Q _ => ∃ ws, LamAt H f F b fr ws ∧ sp (ws.map some) vs (off (csOf F) H) (fun v H' => Q v (on (csOf F) H H')) (fun _ _ _ => False)
theorem LamAt.locked {H : Hp} {f : Addr} {F : NF} {b : Expr} {fr : List Str} {ws : List V} (l : LamAt H f F b fr ws) : Lk (csOf F) H := fun c hc => by
  obtain ⟨y, e⟩ := csOf_mem hc
  obtain ⟨v, o, u, q, _⟩ := l.lk y c e
  exact ⟨o, q⟩
theorem lamO_ne {f : Addr} {F : NF} {b : Expr} (o : Obj) (v : HO) : LamO f F b ≠ .frz o v := fun z => by
  unfold LamO at z
  cases z
theorem codeO_nf {c : Addr} {q : Str} (o : Obj) (v : HO) : CodeO c q ≠ .frz o v := fun z => by
  unfold CodeO at z
  cases z
theorem cbl_of {P : Program} {w : World} {K : PySem.W.Frag} {mg : Str → Option Value} {base : Heap} {k : Nat} {f : Addr} {F : NF} {b : Expr} {ps fr : List Str} {sp : List (Option V) → Sp} {CX : CXT} (hX : ∀ outer H s e s', ¬ CX outer H s (fun _ _ _ => False) e s')
    (o : LOk P w K mg base CX k f F b ps fr sp) : Cbl P w K mg base CX k f (spLam f F b fr sp) := fun A outer s H us vs Q E hr e0 r ⟨ws, l, h⟩ => by
  have lk := l.locked
  obtain ⟨od, sl, pm, ctv, ho⟩ := lamO_at e0.hok l.fn
  refine ⟨⟨_, od, _, sl, ho⟩, ?_⟩
  have hC : CellsAt F.cl fr (ws.map some) s.heap (off (csOf F) H) := by
    refine ⟨by rw [List.length_map]; exact l.len, fun y c e => ?_, l.inj, fun i y e => ?_⟩
    · obtain ⟨v, o, u, q, d, _⟩ := l.lk y c e
      obtain ⟨hg, _⟩ := e0.hok c _ q
      exact ⟨off_in (csOf_has e), _, o, hg, d⟩
    · obtain ⟨c, hc, hv⟩ := l.has i y e
      refine ⟨c, hc, fun v ev => ?_⟩
      rw [List.getElem?_map] at ev
      cases ew : ws[i]? with
      | none => rw [ew] at ev; cases ev
      | some v' =>
        rw [ew] at ev
        cases ev
        obtain ⟨o, u, q, d, ru⟩ := hv v ew
        obtain ⟨hg, _⟩ := e0.hok c _ q
        exact ⟨u, ru, o, hg, d⟩
  refine codeAny_mono (o.run A outer s (off (csOf F) H) us vs (ws.map some) _ _ hr (env_off lk e0) (by rw [off_out (lk.out l.fn lamO_ne)]; exact l.fn) (by rw [off_out (lk.out l.cd codeO_nf)]; exact l.cd) hC r h) fun rr s' hq => ?_
  cases rr with
  | error e => exact absurd hq (hX _ _ _ _ _)
  | ok fl =>
    cases fl with
    | ret u => exact ce_on lk e0 hq
    | next => exact hq
    | brk => exact hq
    | cont => exact hq
/-- f(..), f the i-th name, which holds what may be called -/
def tCallF (X : Cx) (CX : CXT) (k i : Nat) (E : XK) (t : TA) : TE := fun σ H Q => ∃ (f : Addr) (F : NF) (b : Expr), σ[i]? = some (some (.ref f)) ∧ H f = some (LamO f F b) ∧ t σ H fun vs H1 => H1 f = some (LamO f F b) ∧ ∃ sp, Cbl X.prog X.w X.K X.mg X.base CX k f sp ∧ sp vs H1 Q E
section
variable {X : Cx} {CX : CXT} {i k : Nat} {x : Str} {E : XK} {t : TA} {e : Expr} {es : List Expr} {p pos : Pos}
theorem lam_fnAt {pins : List (Addr × Obj)} {σ : L2.St} {H : Hp} {s : Shared} {f : Addr} {F : NF} {b : Expr} (I : Inv X pins σ H s) (e : H f = some (LamO f F b)) : PySem.W.FnAt f s.heap := by
  obtain ⟨od, sl, pm, ctv, ho⟩ := lamO_at I.hok e
  exact ⟨_, od, _, sl, ho⟩
theorem run_cbl {pins : List (Addr × Obj)} {σ : L2.St} {H : Hp} {s : Shared} {Q : VK} {f : Addr} {us : List Value} {vs : List V} {sp : Sp} (C : Cbl X.prog X.w X.K X.mg X.base CX k f sp) (hr : Room k X.A) (hx : Passes CX X E) (I : Inv X pins σ H s) (r : Vals vs us) (q : sp vs H Q E) :
    wpAny (model X.prog X.w) X.A (call (.ref f) us) (EP X pins σ Q) X.xe s := by
  refine wpAny_call (codeAny_mono (C X.A X.stack s H us vs Q E hr I.env0 r q).2 fun r s' hq => ?_)
  cases r with
  | error e => exact hx pins σ H s e s' I hq
  | ok fl =>
    cases fl with
    | ret u => exact I.after hq
    | next => exact False.elim hq
    | brk => exact False.elim hq
    | cont => exact False.elim hq
theorem pe_callF (hr : Room k X.A) (hx : Passes CX X E) (hN : X.N[i]? = some x) (hv : Vis X.env.scope x) (ha : PA X (e :: es) t) (hd : (x == ("__debug__" : Str)) = false := by decide) (hcd : (x == ("__classdict__" : Str)) = false := by decide)
    (he : starEach (e :: es) X.env = (false, eval e X.env) :: starEach es X.env := by rfl) (hpl : (backTo pos (starEach es X.env)).any (·.1) = false := by rfl) : PE X (.Call (.Name x p) (e :: es) [] pos) (tCallF X CX k i E t) := by
  refine ⟨fun pins s σ H Q I h => ?_⟩
  obtain ⟨f, F, b, hs, hf, ht⟩ := h
  refine wpAny_Call_Name_kw (thn ((pe_var (pos := p) hN hv hd hcd).run pins s σ H (fun v H1 => v = .ref f ∧ H1 = H) I ⟨.ref f, hs, rfl, rfl⟩) fun u s1 ⟨v, H1, I1, r1, q1⟩ => ?_)
  obtain ⟨ev, eH⟩ := q1
  subst ev
  rw [eH] at I1
  obtain rfl : u = Value.ref f := r1
  refine PySem.W.callWith_F (first := []) (lam_fnAt I1 hf) (thn (ha.run pos pins s1 σ H _ I1 ht) fun us s2 ⟨vs, H2, I2, r, h1, sp, C, q⟩ => ⟨lam_fnAt I2 h1, ?_⟩) he hpl
  show wpAny _ _ (call (.ref f) us) _ _ _
  exact run_cbl C hr hx I2 r q
end
end XL

/-! defs of the text, used by their names -/
namespace UU
open PySem PySem.Spec PyProof.Rows L2
/-- the module's name x stands for a def that keeps sp -/
structure Use (P : Program) (w : World) (K : PySem.W.Frag) (mg : Str → Option Value) (base : Heap) (CX : CXT) (x : Str) (k : Nat) (ps : List Str) (sp : Sp) : Prop where
  ex : ∃ (f : Addr) (fd : FuncData), FnOk P w K mg base CX k f fd ps sp ∧ mg x = some (.ref f) ∧ PySem.W.keepIn K (.ref f) = true ∧ Binds K fd ps []
theorem Use.mono {P : Program} {w : World} {K : PySem.W.Frag} {mg : Str → Option Value} {base : Heap} {CX : CXT} {x : Str} {j k : Nat} {ps : List Str} {sp : Sp} (U : Use P w K mg base CX x j ps sp) (h : j ≤ k) : Use P w K mg base CX x k ps sp := by
  obtain ⟨f, fd, F, m, kp, b⟩ := U.ex
  exact ⟨f, fd, F.mono h, m, kp, b⟩
theorem Use.imp {P : Program} {w : World} {K : PySem.W.Frag} {mg : Str → Option Value} {base : Heap} {CX : CXT} {x : Str} {k : Nat} {ps : List Str} {sp sp' : Sp} (U : Use P w K mg base CX x k ps sp) (h : ∀ vs H Q E, sp' vs H Q E → sp vs H Q E) : Use P w K mg base CX x k ps sp' := by
  obtain ⟨f, fd, F, m, kp, b⟩ := U.ex
  exact ⟨f, fd, F.imp h, m, kp, b⟩
section
variable {X : Cx} {CX : CXT} {k j : Nat} {ps : List Str} {sp : Sp} {E : XK} {x : Str} {p pos : Pos} {e : Expr} {es : List Expr} {t : TA}
theorem pe_use (U : Use X.prog X.w X.K X.mg X.base CX x j ps sp) (hr : Room k X.A) (hj : j ≤ k) (hg : Gl X x) (hx : Passes CX X E) (ha : PA X (e :: es) t) (hdb : (x == ("__debug__" : Str)) = false := by decide)
    (he : starEach (e :: es) X.env = (false, eval e X.env) :: starEach es X.env := by rfl) (hpl : (backTo pos (starEach es X.env)).any (·.1) = false := by rfl) : PE X (.Call (.Name x p) (e :: es) [] pos) (tCall sp [] E t) := by
  obtain ⟨f, fd, F, m, kp, b⟩ := U.ex
  exact pe_call F (hr.mono hj) hg m kp b .nil hx ha hdb he hpl
end
/-- as FunD.binds for a def without defaults -/
theorem ubind {K : PySem.W.Frag} {x qual : Str} {params : Arguments} {body : List Stmt} {scope : Scope} {f : Addr} {fd : FuncData} {ps : List Str} (F : FunD K x qual params body scope [] [] f fd)
    (h : ∀ (dV kV doc pm : Value) (an : Option Addr) (cdv ct : Value) (us : List Value), us.length = ps.length → bindArgs (PySem.W.fnOf x qual params body scope dV kV doc pm an cdv ct) ⟨us, []⟩ = pure (ps.zip us)) : Binds K fd ps [] := by
  obtain ⟨oc, od, dV, kV, doc, pm, an, cdv, ct, osl, rfl, lk, hcd, _, _⟩ := F.ex
  exact .all (h dV kV doc pm an cdv ct)
end UU

/-! joining ways: a reading cut by what holds behind it -/
namespace UU
open PySem PySem.Spec PyProof.Rows L2
def tCut (te : TE) : TE := fun σ H Q => ∃ R : VK, te σ H R ∧ ∀ v H', R v H' → Q v H'
def tCutT (te : TT) : TT := fun σ H Q => ∃ R : Bool → Hp → Prop, te σ H R ∧ ∀ v H', R v H' → Q v H'
def tCutS (t : TS) : TS := fun D σ H => ∃ N : L2.St → Hp → Prop, t { D with nx := N } σ H ∧ ∀ σ' H', N σ' H' → D.nx σ' H'
section
variable {X : Cx}
theorem pe_cut {e : Expr} {te : TE} (h : PE X e te) : PE X e (tCut te) := ⟨fun pins s σ H Q I ⟨R, h1, h2⟩ => thn (h.run pins s σ H R I h1) fun u s' ⟨v, H', I', r, q⟩ => ⟨v, H', I', r, h2 v H' q⟩⟩
theorem pt_cut {e : Expr} {te : TT} (h : PT X e te) : PT X e (tCutT te) := ⟨fun pins s σ H Q I ⟨R, h1, h2⟩ => thn (h.run pins s σ H R I h1) fun u s' ⟨H', I', q⟩ => ⟨H', I', h2 _ H' q⟩⟩
theorem ps_cut {st : Stmt} {t : TS} (h : PS X st t) : PS X st (tCutS t) := ⟨fun pins s σ H D I ⟨N, h1, h2⟩ => thn (h.run pins s σ H _ I h1) fun f s' q => by
  cases f with
  | next =>
    obtain ⟨σ', H', J, q⟩ := q
    exact ⟨σ', H', J, h2 _ _ q⟩
  | brk => exact q
  | cont => exact q
  | ret u => exact q⟩
end
end UU

/-! data: None, truths, numbers, texts, lists and tuples of such -/
namespace UU
open PySem PySem.Spec PyProof.Rows L2
theorem Same.seqT {K : PySem.W.Frag} {H H' : Hp} {a : Addr} {xs : List V} (e : Same H H') (h : SqT K H a xs) : SqT K H' a xs := by
  rcases h with (h | ⟨o, h⟩) | h
  · exact .inl (.inl (e _ _ h))
  · exact .inl (.inr ⟨o, e _ _ h⟩)
  · exact .inr h
mutual
theorem dp_same {K : PySem.W.Frag} {H H' : Hp} (e : Same H H') : ∀ (d : PyData) (v : V), Dp K H v d → Dp K H' v d
  | .none, _, h => by cases h; exact .non
  | .bool b, _, h => by cases h; exact .bl _
  | .int i, _, h => by cases h; exact .int _
  | .str x, _, h => by cases h; exact .str _
  | .list ds, _, h => by
    cases h with
    | lst q ha => exact .lst (Same.seq e q) (dp_sameAll e ds _ ha)
  | .tuple ds, _, h => by
    cases h with
    | tup q ha => exact .tup (Same.seqT e q) (dp_sameAll e ds _ ha)
  | .dict kvs, _, h => by cases h
theorem dp_sameAll {K : PySem.W.Frag} {H H' : Hp} (e : Same H H') : ∀ (ds : List PyData) (vs : List V), DpAll K H vs ds → DpAll K H' vs ds
  | [], _, h => by cases h; exact .nil
  | d :: ds, _, h => by
    cases h with
    | cons h1 h2 => exact .cons (dp_same e d _ h1) (dp_sameAll e ds _ h2)
end
theorem dpa_len {K : PySem.W.Frag} {H : Hp} : ∀ {vs : List V} {ds : List PyData}, DpAll K H vs ds → vs.length = ds.length
  | _, _, .nil => rfl
  | _, _, .cons _ t => congrArg Nat.succ (dpa_len t)
theorem dpa_at {K : PySem.W.Frag} {H : Hp} : ∀ {vs : List V} {ds : List PyData} {i : Nat} {v : V}, DpAll K H vs ds → vs[i]? = some v → ∃ d, ds[i]? = some d ∧ Dp K H v d
  | _, _, _, _, .nil, e => by simp at e
  | _, _, 0, _, .cons h t, e => by simp at e; subst e; exact ⟨_, rfl, h⟩
  | _, _, i + 1, v, .cons h t, e => by
    obtain ⟨d, h1, h2⟩ := dpa_at (i := i) t (by simpa using e)
    exact ⟨d, by simpa using h1, h2⟩
/-- the built-in class of a datum -/
def tyS : PyData → String
  | .none => "NoneType" | .bool _ => "bool" | .int _ => "int" | .str _ => "str" | .list _ => "list" | .tuple _ => "tuple" | .dict _ => "dict"
theorem dp_ty {K : PySem.W.Frag} {H : Hp} {v : V} {d : PyData} (h : Dp K H v d) : TyX K H v (.type (tyS d)) := by
  cases h with
  | non => exact .base .non
  | bl b => exact .base (.bl b)
  | int i => exact .base (.int i)
  | str x => exact .base (.str x)
  | lst q _ =>
    rcases q with (q | ⟨o, q⟩) | ⟨o, its, n, h1, h2, _⟩
    · exact .base (.lst q)
    · exact .base (.frz q)
    · exact .kList h1 h2
  | tup q _ =>
    rcases q with (q | ⟨o, q⟩) | ⟨o, its, n, h1, h2, _⟩
    · exact .base (.tup q)
    · exact .fTuple q
    · exact .kTuple h1 h2
theorem same_upd {H : Hp} {a : Addr} {o : HO} (n : H a = none) : Same H (upd H a o) := fun b u e => by rw [upd_ne (ne_of_none e n)]; exact e
theorem same_trans {H H1 H2 : Hp} (a : Same H H1) (b : Same H1 H2) : Same H H2 := fun c o e => b c o (a c o e)
/-- isinstance of a datum of the class t against built-in classes -/
def isB (t : String) (cs : List String) : Bool := cs.any fun c => (kitB t c).getD false
def isKnown (t : String) (cs : List String) : Bool := cs.all fun c => (kitB t c).isSome
theorem kitAny_b {K : PySem.W.Frag} {t : String} : ∀ {cs : List String}, isKnown t cs = true → PySem.W.kitAny K (.type t) (cs.map Value.type) = some (isB t cs)
  | [], _ => kitAny_nil
  | c :: cs, h => by
    have h0 : ((kitB t c).isSome && isKnown t cs) = true := h
    obtain ⟨h1, h2⟩ := Bool.and_eq_true_iff.mp h0
    obtain ⟨b, hb⟩ := Option.isSome_iff_exists.mp h1
    have ih := kitAny_b (K := K) (t := t) (cs := cs) h2
    have e : isB t (c :: cs) = (b || isB t cs) := by
      show ((kitB t c).getD false || isB t cs) = _
      rw [hb] <;> rfl
    rw [e]
    refine kitAny_cons (b := b) (r := (b || isB t cs)) (kit_ty hb) (fun z => ?_) (fun z => ?_)
    · rw [z, Bool.false_or]
      exact ih
    · rw [z] <;> rfl
theorem clsV_all : ∀ cs : List String, Paired ClsV (cs.map V.ty) (cs.map Value.type)
  | [] => .nil
  | c :: cs => .cons (by first | exact ClsV.ty c | exact .ty | constructor) (clsV_all cs)
end UU

namespace UU
open PySem PySem.Spec PyProof.Rows L2
theorem pe_imp {X : Cx} {e : Expr} {t t' : TE} (h : PE X e t) (i : ∀ σ H Q, t' σ H Q → t σ H Q) : PE X e t' := ⟨fun pins s σ H Q I q => h.run pins s σ H Q I (i σ H Q q)⟩
theorem pt_imp {X : Cx} {e : Expr} {t t' : TT} (h : PT X e t) (i : ∀ σ H Q, t' σ H Q → t σ H Q) : PT X e t' := ⟨fun pins s σ H Q I q => h.run pins s σ H Q I (i σ H Q q)⟩
theorem ps_imp {X : Cx} {e : Stmt} {t t' : TS} (h : PS X e t) (i : ∀ D σ H, t' D σ H → t D σ H) : PS X e t' := ⟨fun pins s σ H D I q => h.run pins s σ H D I (i D σ H q)⟩
theorem callR_imp {X : Cx} {f : Value} {r r' : List V → Hp → VK → Prop} (h : CallR X f r) (i : ∀ xs H Q, r' xs H Q → r xs H Q) : CallR X f r' := fun pins s σ H xs us Q I rv q => h pins s σ H xs us Q I rv (i xs H Q q)
/-- isinstance(x, c), c a built-in class, x a datum -/
def rIsD (K : PySem.W.Frag) : List V → Hp → VK → Prop := fun xs H Q => ∃ (x : V) (n : String) (d : PyData), xs = [x, .ty n] ∧ Dp K H x d ∧ isKnown (tyS d) [n] = true ∧ Q (.bl (isB (tyS d) [n])) H
/-- isinstance(x, (c1, c2, ..)) -/
def rIsDT (K : PySem.W.Frag) : List V → Hp → VK → Prop := fun xs H Q => ∃ (x : V) (tp : Addr) (cs : List String) (d : PyData), xs = [x, .ref tp] ∧ H tp = some (.tup (cs.map V.ty)) ∧ Dp K H x d ∧ isKnown (tyS d) cs = true ∧ Q (.bl (isB (tyS d) cs)) H
theorem call_isD {X : Cx} : CallR X (.builtin "isinstance") (rIsD X.K) := callR_imp call_isi fun xs H Q ⟨x, n, d, ex, hd, hk, q⟩ =>
  ⟨x, .ty n, .type (tyS d), .type n, isB (tyS d) [n], ex, .ty n, dp_ty hd, by
    have h2 : PySem.W.kitAny X.K (.type (tyS d)) [Value.type n] = some (isB (tyS d) [n]) := kitAny_b (K := X.K) hk
    unfold PySem.W.kitAny at h2
    cases e : PySem.W.kitOne X.K (.type (tyS d)) (.type n) with
    | none => rw [e] at h2; cases h2
    | some b =>
      rw [e] at h2
      cases b with
      | true => exact h2
      | false =>
        rw [kitAny_nil] at h2
        exact h2, q⟩
theorem call_isDT {X : Cx} : CallR X (.builtin "isinstance") (rIsDT X.K) := callR_imp call_isiT fun xs H Q ⟨x, tp, cs, d, ex, ht, hd, hk, q⟩ =>
  ⟨x, tp, cs.map V.ty, .type (tyS d), cs.map Value.type, isB (tyS d) cs, ex, ht, clsV_all cs, dp_ty hd, kitAny_b hk, q⟩
end UU

namespace UU
open PySem PySem.Spec PyProof.Rows L2
/-- data nested at most n deep, each list of at most 100,000 items -/
def Sml : Nat → PyData → Prop
  | 0, .list _ => False
  | 0, .tuple _ => False
  | n + 1, .list ds => ds.length ≤ 100000 ∧ ∀ d ∈ ds, Sml n d
  | n + 1, .tuple ds => ds.length ≤ 100000 ∧ ∀ d ∈ ds, Sml n d
  | _, _ => True
/-- the promise of «whether two are equal and of the same kinds» -/
def spSame (K : PySem.W.Frag) (n : Nat) : Sp := fun vs H Q _ => ∃ (x y : V) (d e : PyData), vs = [x, y] ∧ Dp K H x d ∧ Dp K H y e ∧ Sml n e ∧ ∀ (b : Bool) (H' : Hp), (b = true ↔ d = e) → Same H H' → Q (.bl b) H'
def spSameR (K : PySem.W.Frag) : Nat → Sp
  | 0 => fun _ _ _ _ => False
  | n + 1 => spSame K n
theorem fn_false {P : Program} {w : World} {K : PySem.W.Frag} {mg : Str → Option Value} {base : Heap} {CX : CXT} {k : Nat} {f : Addr} {fd : FuncData} {ps : List Str} : FnOk P w K mg base CX k f fd ps (fun _ _ _ _ => False) :=
  ⟨fun _ _ _ _ z => z.elim, fun _ _ _ _ _ _ _ _ _ _ _ _ _ z => z.elim⟩
theorem sml_len {n : Nat} {ds : List PyData} (h : Sml (n + 1) (.list ds)) : ds.length ≤ 100000 ∧ ∀ d ∈ ds, Sml n d := h
theorem sml_lenT {n : Nat} {ds : List PyData} (h : Sml (n + 1) (.tuple ds)) : ds.length ≤ 100000 ∧ ∀ d ∈ ds, Sml n d := h
theorem seq_items {K : PySem.W.Frag} {H : Hp} {v : V} {ds : List PyData} (h : Dp K H v (.list ds)) : ∃ a vs, v = .ref a ∧ SqL K H a vs ∧ DpAll K H vs ds := by
  cases h with
  | lst q ha => exact ⟨_, _, rfl, q, ha⟩
theorem seq_itemsT {K : PySem.W.Frag} {H : Hp} {v : V} {ds : List PyData} (h : Dp K H v (.tuple ds)) : ∃ a vs, v = .ref a ∧ SqT K H a vs ∧ DpAll K H vs ds := by
  cases h with
  | tup q ha => exact ⟨_, _, rfl, q, ha⟩
/-- item by item -/
theorem all_iff {ds es : List PyData} (hl : ds.length = es.length) {bs : List Bool} (hb : bs.length = ds.length) (h : ∀ (i : Nat) (d e : PyData) (b : Bool), ds[i]? = some d → es[i]? = some e → bs[i]? = some b → (b = true ↔ d = e)) : (bs.all id = true) ↔ ds = es := by
  induction ds generalizing es bs with
  | nil =>
    cases es with
    | nil =>
      cases bs with
      | nil => exact ⟨fun _ => rfl, fun _ => rfl⟩
      | cons b bs => cases hb
    | cons e es => cases hl
  | cons d ds ih =>
    cases es with
    | nil => cases hl
    | cons e es =>
      cases bs with
      | nil => cases hb
      | cons b bs =>
        have h0 := h 0 d e b rfl rfl rfl
        have ih' := ih (es := es) (bs := bs) (Nat.succ.inj hl) (Nat.succ.inj hb) fun i d' e' b' a1 a2 a3 => h (i + 1) d' e' b' a1 a2 a3
        rw [List.all_cons]
        constructor
        · intro z
          obtain ⟨z1, z2⟩ := Bool.and_eq_true_iff.mp z
          rw [h0.mp z1, ih'.mp z2]
        · intro z
          injection z with z1 z2
          exact Bool.and_eq_true_iff.mpr ⟨h0.mpr z1, ih'.mpr z2⟩
end UU

namespace UU
open PySem PySem.Spec PyProof.Rows L2
def kL : PyData → Bool | .list _ => true | _ => false
def kT : PyData → Bool | .tuple _ => true | _ => false
def kB : PyData → Bool | .bool _ => true | _ => false
def kI : PyData → Bool | .bool _ => true | .int _ => true | _ => false
theorem isB_seq (d : PyData) : isB (tyS d) ["list", "tuple"] = (kL d || kT d) := by cases d <;> kernel_rfl
theorem isB_list (d : PyData) : isB (tyS d) ["list"] = kL d := by cases d <;> kernel_rfl
theorem isB_tup (d : PyData) : isB (tyS d) ["tuple"] = kT d := by cases d <;> kernel_rfl
theorem isB_bool (d : PyData) : isB (tyS d) ["bool"] = kB d := by cases d <;> kernel_rfl
theorem isB_int (d : PyData) : isB (tyS d) ["int"] = kI d := by cases d <;> kernel_rfl
theorem isB_bi (d : PyData) : isB (tyS d) ["bool", "int"] = kI d := by cases d <;> kernel_rfl
theorem isB_four (d : PyData) : isB (tyS d) ["bool", "int", "list", "tuple"] = (kI d || kL d || kT d) := by cases d <;> kernel_rfl
theorem kn_seq (d : PyData) : isKnown (tyS d) ["list", "tuple"] = true := by cases d <;> kernel_rfl
theorem kn_list (d : PyData) : isKnown (tyS d) ["list"] = true := by cases d <;> kernel_rfl
theorem kn_tup (d : PyData) : isKnown (tyS d) ["tuple"] = true := by cases d <;> kernel_rfl
theorem kn_bool (d : PyData) : isKnown (tyS d) ["bool"] = true := by cases d <;> kernel_rfl
theorem kn_int (d : PyData) : isKnown (tyS d) ["int"] = true := by cases d <;> kernel_rfl
theorem kn_bi (d : PyData) : isKnown (tyS d) ["bool", "int"] = true := by cases d <;> kernel_rfl
theorem kn_four (d : PyData) : isKnown (tyS d) ["bool", "int", "list", "tuple"] = true := by cases d <;> kernel_rfl
theorem int_cases {K : PySem.W.Frag} {H : Hp} {v : V} {d : PyData} (h : Dp K H v d) (k : kI d = true) : (∃ b, d = .bool b ∧ v = .bl b) ∨ ∃ i, d = .int i ∧ v = .int i := by
  cases h with
  | bl b => exact .inl ⟨b, rfl, rfl⟩
  | int i => exact .inr ⟨i, rfl, rfl⟩
  | _ => cases k
theorem flat_cases {K : PySem.W.Frag} {H : Hp} {v : V} {d : PyData} (h : Dp K H v d) (k : kI d = false) (k2 : (kL d || kT d) = false) : (d = .none ∧ v = .non) ∨ ∃ x, d = .str x ∧ v = .str x := by
  cases h with
  | non => exact .inl ⟨rfl, rfl⟩
  | str x => exact .inr ⟨x, rfl, rfl⟩
  | lst _ _ => cases k2
  | tup _ _ => cases k2
  | _ => cases k
theorem kI_ne {d e : PyData} (h1 : kI d = false) (h2 : kI e = true) : ¬ d = e := fun z => by rw [z, h2] at h1; cases h1
theorem kL_ne {d e : PyData} (h : ¬ kL d = kL e) : ¬ d = e := fun z => h (by rw [z])
theorem kT_ne {d e : PyData} (h : ¬ kT d = kT e) : ¬ d = e := fun z => h (by rw [z])
theorem ffalse {d e : PyData} (h : ¬ d = e) : (false = true ↔ d = e) := ⟨fun z => (Bool.false_ne_true z).elim, fun z => absurd z h⟩
theorem walk_zipT {K : PySem.W.Frag} {a b : Addr} {xs ys : List V} {n : Nat} (hn : n = min xs.length ys.length) : Walk (RZ.ItzT K a b) n (fun H => SqT K H a xs ∧ SqT K H b ys) (YPair (fun i => xs[i]?) (fun i => ys[i]?)) := by
  subst hn
  refine ⟨fun i H0 hi q => ?_, fun H0 q => ⟨xs, ys, q.1, q.2, by omega⟩, fun i H0 v H1 _ q z => ?_⟩
  · have g1 : i < xs.length := by omega
    have g2 : i < ys.length := by omega
    exact ⟨xs, ys, xs[i], ys[i], q.1, q.2, by simp [g1], by simp [g2]⟩
  · obtain ⟨t, x, y, e1, e2, e3, e4, e5⟩ := z
    exact ⟨t, x, y, e1, e2, e3, e4 xs q.1, e5 ys q.2⟩
/-- the turns of «item by item», over lists or tuples -/
def PvS (D : Addr) (H0 : Hp) (ds es : List PyData) (i : Nat) (H : Hp) : Prop := ∃ bs : List Bool, H D = some (.lst (bs.map V.bl)) ∧ bs.length = i ∧ (∀ (j : Nat) (d e : PyData) (b : Bool), ds[j]? = some d → es[j]? = some e → bs[j]? = some b → (b = true ↔ d = e)) ∧ Same H0 H
theorem pvS_step {D : Addr} {H0 H H1 : Hp} {ds es : List PyData} {i : Nat} {b : Bool} {d e : PyData} (hD : H0 D = none) (h : PvS D H0 ds es i H) (hs : Same H H1) (hd : ds[i]? = some d) (he : es[i]? = some e) (hb : b = true ↔ d = e) (hi : i < 100000) :
    ∃ acc, H1 D = some (.lst acc) ∧ acc.length < sizeLine ∧ PvS D H0 ds es (i + 1) (upd H1 D (.lst (acc ++ [V.bl b]))) := by
  obtain ⟨bs, e1, e2, e3, e4⟩ := h
  refine ⟨bs.map V.bl, hs _ _ e1, by rw [List.length_map, e2]; exact Nat.lt_of_lt_of_le hi (by decide), bs ++ [b], by rw [upd_same, List.map_append] <;> rfl, by rw [List.length_append, e2] <;> rfl, fun j d' e' b' h1 h2 h3 => ?_, fun c o z => ?_⟩
  · by_cases hj : j < bs.length
    · rw [List.getElem?_append_left hj] at h3
      exact e3 j d' e' b' h1 h2 h3
    · rw [List.getElem?_append_right (by omega)] at h3
      have h4 := (List.getElem?_eq_some_iff.mp h3).1
      have ej : j = i := by
        have : ([b] : List Bool).length = 1 := rfl
        omega
      subst ej
      rw [hd] at h1
      rw [he] at h2
      cases h1
      cases h2
      have : j - bs.length = 0 := by omega
      rw [this] at h3
      cases h3
      exact hb
  · rw [upd_ne (ne_of_none z hD)]
    exact hs _ _ (e4 c o z)
end UU

namespace UU
open PySem PySem.Spec PyProof.Rows L2 XV XL
section
variable {P : Program} {w : World} {K : PySem.W.Frag} {mg : Str → Option Value} {base : Heap} {x qual : Str} {params : Arguments} {body : List Stmt} {scope : Scope} {f c : Addr} {fd : FuncData} {ps ks : List Str}
/-- keywords bind behind what stands by place -/
theorem kbn_of {n : Nat} (F : FunD K x qual params body scope [] [] f fd) (h : ∀ (kV doc pm : Value) (an : Option Addr) (cdv ct : Value) (us vs : List Value), us.length = n → vs.length = ks.length →
    bindArgs (PySem.W.fnOf x qual params body scope .none kV doc pm an cdv ct) ⟨us, ks.zip vs⟩ = pure (ps.zip (us ++ vs))) : KBn K fd ps n ks (fun us vs => us ++ vs) (fun us vs => us ++ vs) := by
  obtain ⟨oc, od, dV, kV, doc, pm, an, cdv, ct, osl, rfl, lk, hcd, hD, hK⟩ := F.ex
  rcases hD with ⟨_, rfl⟩ | ⟨e, _⟩
  · exact ⟨fun s us vs _ h1 h2 => .of_eq (h kV doc pm an cdv ct us vs h1 h2), fun r1 r2 => r1.append r2⟩
  · exact absurd rfl e
/-- a def whose code object is known -/
theorem okC {CX : CXT} {N : List Str} {k : Nat} {sp : Sp} (F : FunD K x qual params body scope [] [] f fd) (hc : fd.code = .ref c) (S : FnScope N ps scope) (len : ∀ vs H Q E, sp vs H Q E → vs.length = ps.length)
    (hbody : ∀ (A : Around) (outer : List Env) (s : Shared) (H : Hp) (vs : List V) (Q : VK) (E : XK), Room k (A.deeper (envOfC qual scope s.heap.objs.size f (.ref c))) → sp vs H Q E →
      ∃ t, PSs (cxOf CX P w K mg base N qual scope f (.ref c) A outer s H E) body t ∧ t { nx := fun _ H' => Q .non H', rt := Q } (start N vs) H) : FnOk P w K mg base CX (k + 1) f fd ps sp := by
  obtain ⟨oc, od, dV, kV, doc, pm, an, cdv, ct, osl, rfl, lk, hcd, _, _⟩ := F.ex
  have e : cdv = .ref c := hc
  subst e
  exact fn_of lk hcd S len fun A outer s H vs Q E hr hsp => hbody A outer s H vs Q E hr hsp
end
/-- all but the tables stay -/
theorem extN_same {H H' : Hp} (e : Same H H') : LamX.ExtN H H' := fun b o h _ => e b o h
end UU

namespace UU
open PySem PySem.Spec PyProof.Rows L2 LamX
theorem sqL_ext {K : PySem.W.Frag} {H H' : Hp} {a : Addr} {xs : List V} (e : ExtN H H') (h : SqL K H a xs) : SqL K H' a xs := by
  rcases h with (h | ⟨o, h⟩) | h
  · exact .inl (.inl (e _ _ h fun _ z => by cases z))
  · exact .inl (.inr ⟨o, e _ _ h fun _ z => by cases z⟩)
  · exact .inr h
theorem sqT_ext {K : PySem.W.Frag} {H H' : Hp} {a : Addr} {xs : List V} (e : ExtN H H') (h : SqT K H a xs) : SqT K H' a xs := by
  rcases h with (h | ⟨o, h⟩) | h
  · exact .inl (.inl (e _ _ h fun _ z => by cases z))
  · exact .inl (.inr ⟨o, e _ _ h fun _ z => by cases z⟩)
  · exact .inr h
mutual
theorem dp_ext {K : PySem.W.Frag} {H H' : Hp} (e : ExtN H H') : ∀ (d : PyData) (v : V), Dp K H v d → Dp K H' v d
  | .none, _, h => by cases h; exact .non
  | .bool b, _, h => by cases h; exact .bl _
  | .int i, _, h => by cases h; exact .int _
  | .str x, _, h => by cases h; exact .str _
  | .list ds, _, h => by
    cases h with
    | lst q ha => exact .lst (sqL_ext e q) (dp_extAll e ds _ ha)
  | .tuple ds, _, h => by
    cases h with
    | tup q ha => exact .tup (sqT_ext e q) (dp_extAll e ds _ ha)
  | .dict kvs, _, h => by cases h
theorem dp_extAll {K : PySem.W.Frag} {H H' : Hp} (e : ExtN H H') : ∀ (ds : List PyData) (vs : List V), DpAll K H vs ds → DpAll K H' vs ds
  | [], _, h => by cases h; exact .nil
  | d :: ds, _, h => by
    cases h with
    | cons h1 h2 => exact .cons (dp_ext e d _ h1) (dp_extAll e ds _ h2)
end
end UU

/-! the head's facts: own errors' classes; a look that begins at further addresses -/
namespace HH
open PySem PySem.Spec PyProof.Rows L2 He XV
/-- an own error's class over ValueError (newId, bm0: its built-in base's) -/
def exB (K : PySem.W.Frag) (C : Addr) (newId : String) (ok : List Value → Bool) : Bool := match K.lookup C with
  | some ⟨.type "type", _, .cls cd, sl⟩ => (match cd.mro, sl.toList with
    | .ref D :: bm, [_, _, _, _, some (.builtin n), _] => D == C && (n == newId && (!cd.hasDel && (cd.hasDict && ok bm)))
    | _, _ => false)
  | _ => false
theorem exB_ok {K : PySem.W.Frag} {C : Addr} {newId : String} {ok : List Value → Bool} (h : exB K C newId ok = true) :
    ∃ nm q N bs bm sn sub ab col dd k0 k1 k2 k3 k5, K.lookup C = some (excClassObj nm q C N bs bm true sn sub ab col dd k0 k1 k2 k3 k5 newId) ∧ ok bm = true := by
  unfold exB at h
  split at h
  · rename_i dd cd sl ho
    split at h
    · rename_i D bm k0 k1 k2 k3 n k5 hm hs
      obtain ⟨h1, h⟩ := ba h
      obtain ⟨h2, h⟩ := ba h
      obtain ⟨h3, h⟩ := ba h
      obtain ⟨h4, h5⟩ := ba h
      have e1 := beq_iff_eq.mp h1
      have e2 := beq_iff_eq.mp h2
      subst e1 e2
      obtain ⟨nm, bs, mro, ns, qn, hd, sn, sub, ab, col, del⟩ := cd
      dsimp only at hm h3 h4
      have e3 : del = false := by
        cases del with
        | false => rfl
        | true => cases h3
      subst hm h4 e3
      have e4 : sl = #[k0, k1, k2, k3, some (.builtin n), k5] := by
        obtain ⟨l⟩ := sl
        simp only at hs
        rw [hs]
      subst e4
      exact ⟨nm, qn, ns, bs, bm, sn, sub, ab, col, dd, k0, k1, k2, k3, k5, ho, h5⟩
    · cases h
  · cases h
def oexB (K : PySem.W.Frag) (C : Addr) : Bool := exB K C "ValueError.__new__" PySem.HandSPX.refsVE && (decide (PySem.W.findIn K (.ref C) "__setattr__" = some (some (.builtin "object.__setattr__"))) && (decide (PySem.W.subIn K (.ref C) (.type "BaseException") = some true) && (decide (PySem.W.typeIn K (.ref C) = some (.type "type")) && PySem.W.keepIn K (.ref C))))
theorem oexB_ok {K : PySem.W.Frag} {C : Addr} (h : oexB K C = true) : OexC K C := by
  obtain ⟨h1, h⟩ := ba h
  obtain ⟨h2, h⟩ := ba h
  obtain ⟨h3, h⟩ := ba h
  obtain ⟨h4, h5⟩ := ba h
  exact ⟨exB_ok h1, of_decide_eq_true h2, of_decide_eq_true h3, of_decide_eq_true h4, h5⟩
def heldB (K : PySem.W.Frag) (C : Addr) : Bool := exB K C "Exception.__new__" (fun l => decide (l = [.type "Exception", .type "BaseException", .type "object"])) && PySem.W.keepIn K (.ref C)
theorem heldB_ok {K : PySem.W.Frag} {C : Addr} (h : heldB K C = true) : MkC K C "Exception.__init__" := by
  obtain ⟨h1, h2⟩ := ba h
  obtain ⟨nm, q, N, bs, bm, sn, sub, ab, col, dd, k0, k1, k2, k3, k5, hC, hb⟩ := exB_ok h1
  have e := of_decide_eq_true hb
  exact ⟨⟨_, _, _, PySem.F.excBase_Exception, nm, q, N, bs, bm, true, sn, sub, ab, col, dd, k0, k1, k2, k3, k5, hC, fun Y => by rw [e]⟩, h2⟩
def excCB (K : PySem.W.Frag) (D : Addr) : Bool := xfB K D && (decide (PySem.W.findIn K (.ref D) "__class__" = some (some (.builtin "object.__class__"))) && (decide (PySem.W.specialIn K (.builtin "object.__class__") "__get__" = some (some (.builtin "getset_descriptor.__get__"))) &&
  (decide (PySem.W.takesIn K (.builtin "object.__class__") = some true) && decide (PySem.W.mroIn K D (.type "object") = some true))))
theorem excCB_ok {K : PySem.W.Frag} {D : Addr} (h : excCB K D = true) : L2.ExcC K D := by
  obtain ⟨h1, h⟩ := ba h
  obtain ⟨h2, h⟩ := ba h
  obtain ⟨h3, h⟩ := ba h
  obtain ⟨h4, h5⟩ := ba h
  have x := xfB_ok h1
  exact ⟨x.ga, x.gg, x.exC, x.hdC, of_decide_eq_true h2, of_decide_eq_true h3, of_decide_eq_true h4, of_decide_eq_true h5⟩
def clsVal (r : Option PySem.W.CFound) (id : String) : Bool := match r with
  | some (.val (.builtin n)) => n == id
  | _ => false
theorem clsVal_ok {r : Option PySem.W.CFound} {id : String} (h : clsVal r id = true) : r = some (.val (.builtin id)) := by
  unfold clsVal at h
  split at h
  · rw [beq_iff_eq.mp h]
  · cases h
def iniB (K : PySem.W.Frag) (C : Addr) (id : String) : Bool := PySem.W.readsIn K C (.type "type") && (decide (PySem.W.specialIn K (.ref C) "__getattribute__" = some (some (.builtin "type.__getattribute__"))) && clsVal (PySem.W.findCls K (.ref C) (.type "type") "__init__") id)
theorem iniB_ok {K : PySem.W.Frag} {C : Addr} {id : String} (h : iniB K C id = true) : CIni K C (.type "type") id := by
  obtain ⟨h1, h⟩ := ba h
  obtain ⟨h2, h3⟩ := ba h
  exact ⟨h1, of_decide_eq_true h2, clsVal_ok h3⟩
/-! ### the Hook, the look beginning at the module's names and at roots -/
def asR (roots : List Addr) (g : Addr → Option Obj) (n : Nat) : List Addr := (asD g n ++ roots).eraseDups
def tabB (g : Addr → Option Obj) (tf : List Defn) (K : PySem.W.Frag) : Bool := tf.all fun p => PySem.W.codeHdIn K (cT K p).1 (cT K p).2 && (match g (cT K p).2 with
  | some o => emptyTab o
  | none => false)
def obsY (roots : List Addr) (n : Nat) (fa : List Fa) (fn : List DefD) (ts : List Tab) (tf : List Defn) (ex : PySem.W.Frag → Bool) (g : Addr → Option Obj) : AlX := (obsT fa fn ts (frT g (asR roots g n)), ex (frT g (asR roots g n)) && tabB g tf (frT g (asR roots g n)))
theorem saysY_of {roots : List Addr} {n : Nat} {fa : List Fa} {fn : List DefD} {ts : List Tab} {tf : List Defn} {ex : PySem.W.Frag → Bool} {w : World} {h : Heap} (e : obsY roots n fa fn ts tf ex h.get? = valX fn ts w) : SaysX fa fn ts tf ex w h (frT h.get? (asR roots h.get? n)) := by
  have e1 := congrArg (fun z : AlX => z.1) e
  have e2 : (ex (frT h.get? (asR roots h.get? n)) && tabB h.get? tf (frT h.get? (asR roots h.get? n))) = true := congrArg (fun z : AlX => z.2) e
  obtain ⟨h1, h2⟩ := ba e2
  have key : ∀ p ∈ tf, PySem.W.codeHdIn (frT h.get? (asR roots h.get? n)) (cT (frT h.get? (asR roots h.get? n)) p).1 (cT (frT h.get? (asR roots h.get? n)) p).2 = true ∧ ∃ o, h.get? (cT (frT h.get? (asR roots h.get? n)) p).2 = some o ∧ emptyTab o = true := fun p hp => by
    obtain ⟨h3, h4⟩ := ba (List.all_eq_true.mp h2 p hp)
    refine ⟨h3, ?_⟩
    cases q : h.get? (cT (frT h.get? (asR roots h.get? n)) p).2 with
    | none => rw [q] at h4; cases h4
    | some o => rw [q] at h4; exact ⟨o, rfl, h4⟩
  refine ⟨e1, h1, fun p hp => (key p hp).1, fun p hp => ?_, fun p hp => ?_⟩
  · obtain ⟨_, o, q, z⟩ := key p hp
    exact frT_none q z
  · obtain ⟨_, o, q, z⟩ := key p hp
    rw [q, emptyTab_eq z]
def hookY (roots : List Addr) (n : Nat) (fa : List Fa) (fn : List DefD) (ts : List Tab) (tf : List Defn) (ex : PySem.W.Frag → Bool) : PySem.W.Hook where
  α := AlX
  obs := fun s => obsY roots n fa fn ts tf ex s.heap.get?
  val := fun w => valX fn ts w
  says := fun w h => ∃ K : PySem.W.Frag, K.In h ∧ SaysX fa fn ts tf ex w h K
  of := fun _ _ e => ⟨_, frT_in, saysY_of e⟩
  keeps := fun _ _ _ ⟨K, hK, c⟩ k => ⟨K, PySem.W.Frag.In.keeps hK k, ⟨c.t, c.more, c.hd, c.out, fun p hp => k _ _ (c.empty p hp)⟩⟩
theorem obsY_eq {roots : List Addr} {n : Nat} {fa : List Fa} {fn : List DefD} {ts : List Tab} {tf : List Defn} {ex : PySem.W.Frag → Bool} {g : Addr → Option Obj} {s : Shared} (h : ∀ a, g a = s.heap.get? a) : obsY roots n fa fn ts tf ex g = (hookY roots n fa fn ts tf ex).obs s := by
  have e : g = s.heap.get? := funext h
  rw [e] <;> rfl
end HH

namespace K01
open PySem PySem.Spec PyProof.Rows L2 XV XL UU
def top (i : Nat) : Stmt := PySem.Challenge.pw_fallways_k01_errors_made.main.body.getD i (.Pass ⟨0, 0, 0, 0⟩)
structure Tx (mg : Str → Option Value) : Prop where
  n_len : mg "len" = none
  n_int : mg "int" = none
  n_isinstance : mg "isinstance" = none
  n_list : mg "list" = none
  n_tuple : mg "tuple" = none
  n_bool : mg "bool" = none
  n_all : mg "all" = none
  n_zip : mg "zip" = none
  n_range : mg "range" = none
  n_min : mg "min" = none
abbrev MM : Int := 2147483647
section
variable {P : Program} {w : World} {K : PySem.W.Frag} {mg : Str → Option Value} {base : Heap} {f : Addr} {fd : FuncData}
abbrev Fn (K : PySem.W.Frag) (x : Str) (st : Stmt) (f : Addr) (fd : FuncData) : Prop := FunD K x x (defArgs st) (defBody st) (defScope st) [] [] f fd
/-! ### draws -/
abbrev s_law_source : Stmt := top 14
theorem sc_law_source : FnScope ["_law_script", "_law_at", "_law_cell"] ["_law_script", "_law_at"] (defScope s_law_source) := ⟨rfl, rfl, rfl, by decide +kernel, rfl, by decide +kernel, by decide +kernel⟩
def spSource (K : PySem.W.Frag) : Sp := fun vs H Q _ => ∃ (s : Addr) (ns : List Int) (n : Nat), vs = [.ref s, .int n] ∧ SqL K H s (ns.map V.int) ∧ ns.length ≤ 63 ∧
  ∀ (p : Addr) (a b : Int), H p = none → 0 ≤ a → 0 ≤ b → b < MM → Q (.ref p) (upd H p (.lst [.int a, .int b, .int 0]))
theorem ok_source (F : Fn K "_law_source" s_law_source f fd) (T : Tx mg) : FnOk P w K mg base CX0 1 f fd ["_law_script", "_law_at"] (spSource K) := by
  refine F.ok sc_law_source (fun vs H Q E h => ?_) (fun cdv A outer s H vs Q E hr h => ?_)
  · obtain ⟨_, _, _, rfl, _⟩ := h
    rfl
  · obtain ⟨a, ns, n, rfl, hS, hl, k⟩ := h
    refine ⟨_, PSs.nox (pss_cons (ps_set (i := 2) sc_law_source.nd rfl (Or.inl rfl) (pe_cut (pe_ifExp (pt_cmpR op_lt (pv 1) (pe_callB call_len (by rfl) T.n_len (by decide +kernel) (pa_cons (pv 0) pa_nil)) (nomark _)) (pe_ix ix_list (pv 0) (pv 1) (fun _ _ => rfl)) (pe_op op_add (pe_op op_mul pe_int (pv 1)) pe_int))))
      (pss_one (ps_ret (pe_lst (pa_cons (pe_cut (pe_ifExp (pt_cmpR op_ge (pv 2) (pe_op op_pow pe_int pe_int) (nomark _)) (pv 2) pe_int)) (pa_cons (pe_op op_modN (pe_callTy call_int1 (by rfl) T.n_int (by decide +kernel) (pa_cons (pv 2) pa_nil)) pe_int) (pa_cons pe_int pa_nil))))))), ?_⟩
    refine ⟨fun v H1 => (∃ z : Int, v = .int z) ∧ H = H1, ⟨_, rfl, _, rfl, _, _, rfl, Or.inl ⟨_, hS, rfl⟩, _, _, rfl, rfl, _, rfl, ite2 (fun h => ?_) fun h => ?_⟩, ?_⟩
    · have h1 : (n : Int) < ((ns.map V.int).length : Nat) := of_decide_eq_true h
      have h2 : n < ns.length := by rw [List.length_map] at h1; omega
      exact ⟨_, rfl, _, rfl, a, _, _, .int ns[n], rfl, rfl, hS, atI_nat (by rw [List.getElem?_map, List.getElem?_eq_getElem h2] <;> rfl), ⟨_, rfl⟩, rfl⟩
    · exact ⟨_, rfl, _, _, rfl, rfl, .inl ⟨by decide, by decide⟩, _, _, rfl, rfl, ⟨_, rfl⟩, rfl⟩
    · rintro _ _ ⟨⟨z, rfl⟩, rfl⟩
      refine ⟨fun v H1 => (∃ y : Int, v = .int y ∧ 0 ≤ y) ∧ H = H1, ⟨_, rfl, _, _, rfl, rfl, ⟨by decide, by decide, by decide⟩, _, _, rfl, rfl, _, rfl, ite2 (fun h => ?_) fun h => ?_⟩, ?_⟩
      · have h1 : (10 : Int) ^ (18 : Int).toNat ≤ z := of_decide_eq_true h
        have h2 : (0 : Int) ≤ 10 ^ (18 : Int).toNat := by decide
        exact ⟨_, rfl, ⟨z, rfl, by omega⟩, rfl⟩
      · exact ⟨⟨0, rfl, by decide⟩, rfl⟩
      · rintro _ _ ⟨⟨y, rfl, hy⟩, rfl⟩
        refine ⟨_, rfl, Or.inl ⟨_, rfl, _, _, rfl, rfl, (by show (2147483647 : Int) ≠ 0; decide), ?_⟩⟩
        refine ⟨by show 3 ≤ sizeLine; decide, fun p hp => k p y _ hp hy ?_ ?_⟩
        · exact Int.fmod_nonneg_of_pos _ (by decide)
        · exact Int.fmod_lt_of_pos _ (by decide)
abbrev s_law_draw : Stmt := top 15
theorem sc_law_draw : FnScope ["_law_draws", "_law_many", "_law_found"] ["_law_draws", "_law_many"] (defScope s_law_draw) := ⟨rfl, rfl, rfl, by decide +kernel, rfl, by decide +kernel, by decide +kernel⟩
def spDraw : Sp := fun vs H Q _ => ∃ (p : Addr) (m a b c : Int), vs = [.ref p, .int m] ∧ H p = some (.lst [.int a, .int b, .int c]) ∧ 0 ≤ a ∧ 0 ≤ b ∧ b < MM ∧ 0 ≤ c ∧ c ≤ 1000000 ∧ 0 < m ∧ m ≤ 1000000 ∧
  ∀ r a' b' c' : Int, 0 ≤ r → r < m → 0 ≤ a' → 0 ≤ b' → b' < MM → 0 ≤ c' → c' ≤ c + 1 → Q (.int r) (upd H p (.lst [.int a', .int b', .int c']))
theorem ok_draw (F : Fn K "_law_draw" s_law_draw f fd) (T : Tx mg) : FnOk P w K mg base CX0 1 f fd ["_law_draws", "_law_many"] spDraw := by
  refine F.ok sc_law_draw (fun vs H Q E h => ?_) (fun cdv A outer s H vs Q E hr h => ?_)
  · obtain ⟨_, _, _, _, _, rfl, _⟩ := h
    rfl
  · obtain ⟨p, m, a, b, c, rfl, hp, ha, hb, hb2, hc, hc2, hm, hm2, k⟩ := h
    refine ⟨_, PSs.nox (pss_cons (ps_if (pt_cmpR op_gt (pe_ix ix_list (pv 0) pe_int (fun _ _ => rfl)) pe_int (nomark _)) (pss_cons (ps_set (i := 2) sc_law_draw.nd rfl (Or.inl rfl) (pe_op op_modN (pe_callTy call_int1 (by rfl) T.n_int (by decide +kernel) (pa_cons (pe_ix ix_list (pv 0) pe_int (fun _ _ => rfl)) pa_nil)) (pv 1)))
      (pss_cons (ps_asg (pe_op op_fdivN (pe_ix ix_list (pv 0) pe_int (fun _ _ => rfl)) (pv 1)) (pg_sub (pv 0) pe_int set_list))
      (pss_one (ps_ret (pv 2))))) pss_nil)
      (pss_cons (ps_asg (pe_op op_add (pe_ix ix_list (pv 0) pe_int (fun _ _ => rfl)) pe_int) (pg_sub (pv 0) pe_int set_list))
      (pss_cons (ps_asg (pe_op op_modN (pe_callTy call_int1 (by rfl) T.n_int (by decide +kernel) (pa_cons (pe_op op_add (pe_op op_add (pe_op op_mul (pe_ix ix_list (pv 0) pe_int (fun _ _ => rfl)) pe_int) (pe_op op_mul (pe_ix ix_list (pv 0) pe_int (fun _ _ => rfl)) pe_int)) pe_int) pa_nil)) pe_int) (pg_sub (pv 0) pe_int set_list))
      (pss_one (ps_ret (pe_op op_modN (pe_callTy call_int1 (by rfl) T.n_int (by decide +kernel) (pa_cons (pe_op op_add (pe_op op_fdivN (pe_ix ix_list (pv 0) pe_int (fun _ _ => rfl)) pe_int) (pe_ix ix_list (pv 0) pe_int (fun _ _ => rfl))) pa_nil)) (pv 1))))))), ?_⟩
    have i0 : ∀ {x y z : V}, atI [x, y, z] 0 = some x := rfl
    have i1 : ∀ {x y z : V}, atI [x, y, z] 1 = some y := rfl
    have i2 : ∀ {x y z : V}, atI [x, y, z] 2 = some z := rfl
    refine ⟨_, rfl, p, _, _, _, rfl, rfl, SqL.of hp, i0, _, _, rfl, rfl, _, rfl, ite2 (fun h => ?_) fun h => ?_⟩
    · refine ⟨_, rfl, p, _, _, _, rfl, rfl, SqL.of hp, i0, Or.inl ⟨a, rfl, ?_⟩⟩
      refine ⟨_, rfl, _, _, rfl, rfl, by omega, ?_⟩
      refine ⟨_, rfl, p, _, _, _, rfl, rfl, SqL.of hp, i0, _, rfl, _, _, rfl, rfl, ⟨by omega, by omega⟩, _, rfl, p, _, _, 0, rfl, rfl, hp, rfl, ?_⟩
      refine ⟨_, rfl, k _ _ b c (Int.fmod_nonneg_of_pos _ hm) (Int.fmod_lt_of_pos _ hm) ?_ hb hb2 hc (by omega)⟩
      rw [Int.fdiv_eq_ediv_of_nonneg _ (by omega)]
      exact Int.ediv_nonneg ha (by omega)
    · have u0 : ∀ o, upd H p o p = some o := fun o => upd_same
      refine ⟨_, rfl, p, _, _, _, rfl, rfl, SqL.of hp, i2, _, _, rfl, rfl, _, rfl, p, _, _, 2, rfl, rfl, hp, rfl, ?_⟩
      refine ⟨_, rfl, p, _, _, _, rfl, rfl, SqL.of (u0 _), i1, _, _, rfl, rfl, .inr ⟨by decide, by decide⟩, ?_⟩
      refine ⟨_, rfl, p, _, _, _, rfl, rfl, SqL.of (u0 _), i2, _, _, rfl, rfl, .inr ⟨by decide, by decide⟩, _, _, rfl, rfl, _, _, rfl, rfl, Or.inl ⟨_, rfl, ?_⟩⟩
      refine ⟨_, _, rfl, rfl, (by show (2147483647 : Int) ≠ 0; decide), _, rfl, p, _, _, 1, rfl, rfl, u0 _, rfl, ?_⟩
      rw [upd_upd]
      refine ⟨_, rfl, p, _, _, _, rfl, rfl, SqL.of (u0 _), i1, _, _, rfl, rfl, ⟨by decide, by decide⟩, ?_⟩
      refine ⟨_, rfl, p, _, _, _, rfl, rfl, SqL.of (u0 _), i1, _, _, rfl, rfl, Or.inl ⟨_, rfl, ?_⟩⟩
      refine ⟨_, rfl, _, _, rfl, rfl, by omega, k _ _ _ (c + 1) (Int.fmod_nonneg_of_pos _ hm) (Int.fmod_lt_of_pos _ hm) ha (Int.fmod_nonneg_of_pos _ (by decide)) (Int.fmod_lt_of_pos _ (by decide)) (by omega) (by omega)⟩
abbrev s_law_same : Stmt := top 16
theorem sc_law_same : FnScope ["_law_found", "_law_due", "_law_one", "_law_other"] ["_law_found", "_law_due"] (defScope s_law_same) := ⟨rfl, rfl, rfl, by decide +kernel, rfl, by decide +kernel, by decide +kernel⟩
theorem ok_same1 (F : Fn K "_law_same" s_law_same f fd) (T : Tx mg) (n : Nat) (U_law_same : Use P w K mg base CX0 "_law_same" n ["_law_found", "_law_due"] (spSameR K n)) : FnOk P w K mg base CX0 (n + 1) f fd ["_law_found", "_law_due"] (spSame K n) := by
  refine F.ok sc_law_same (fun vs H Q E h => ?_) (fun cdv A outer s H vs Q E hr h => ?_)
  · obtain ⟨_, _, _, _, rfl, _⟩ := h
    rfl
  · obtain ⟨x, y, d, e, rfl, hd, he, hs, k⟩ := h
    refine ⟨_, PSs.nox (pss_cons (ps_if (pt_val (pe_callB call_isDT (by rfl) T.n_isinstance (by decide +kernel) (pa_cons (pv 1) (pa_cons (pe_tup (pa_cons (pe_bltn (v := .ty "list") (by rfl) T.n_list (by decide +kernel) rfl) (pa_cons (pe_bltn (v := .ty "tuple") (by rfl) T.n_tuple (by decide +kernel) rfl) pa_nil))) pa_nil)))) (pss_cons (ps_if (PW.pt (pw_or (pt_cmpR op_ne (pe_callB call_isD (by rfl) T.n_isinstance (by decide +kernel) (pa_cons (pv 0) (pa_cons (pe_bltn (v := .ty "list") (by rfl) T.n_list (by decide +kernel) rfl) pa_nil))) (pe_callB call_isD (by rfl) T.n_isinstance (by decide +kernel) (pa_cons (pv 1) (pa_cons (pe_bltn (v := .ty "list") (by rfl) T.n_list (by decide +kernel) rfl) pa_nil))) (nomark _)) (pw_or1 (pt_cmpR op_ne (pe_callB call_isD (by rfl) T.n_isinstance (by decide +kernel) (pa_cons (pv 0) (pa_cons (pe_bltn (v := .ty "tuple") (by rfl) T.n_tuple (by decide +kernel) rfl) pa_nil))) (pe_callB call_isD (by rfl) T.n_isinstance (by decide +kernel) (pa_cons (pv 1) (pa_cons (pe_bltn (v := .ty "tuple") (by rfl) T.n_tuple (by decide +kernel) rfl) pa_nil))) (nomark _))))) (pss_one (ps_ret pe_bl)) pss_nil)
      (pss_one (ps_ret (pe_and (pe_cmpR op_eq (pe_callB call_len (by rfl) T.n_len (by decide +kernel) (pa_cons (pv 0) pa_nil)) (pe_callB call_len (by rfl) T.n_len (by decide +kernel) (pa_cons (pv 1) pa_nil)) (nomark _)) (pe_one (pe_callB (cr_all rfl) (by rfl) T.n_all (by decide +kernel) (pa_cons (pe_lc (g := (gTup K 2 (gCons (gName 2) (gCons (gName 3) gNil)))) (own := [("_law_one", 2), ("_law_other", 3)]) (tt := tYes) rfl sc_law_same.nd (RZ.pi_zipA (by rfl) T.n_zip (pa_cons (pv 0) (pa_cons (pv 1) pa_nil))) (blkOk_by (N := ["_law_found", "_law_due", "_law_one", "_law_other"]) (sc := defScope s_law_same) (by decide +kernel)) (fun _ _ _ _ _ => (pg_tup rfl (pgs_cons (pg_name (i := 2) sc_law_same.nd rfl (Or.inl rfl) (hf := .inr rfl)) (pgs_cons (pg_name (i := 3) sc_law_same.nd rfl (Or.inl rfl) (hf := .inr rfl)) pgs_nil)))) (fun _ _ _ _ _ => pts_nil) (fun _ _ _ _ _ => (pe_use U_law_same hr (by first | decide | omega) (by rfl) pass0 (pa_cons (pv 2) (pa_cons (pv 3) pa_nil))))) pa_nil))))))) pss_nil)
      (pss_cons (ps_if (pt_val (pe_callB call_isDT (by rfl) T.n_isinstance (by decide +kernel) (pa_cons (pv 1) (pa_cons (pe_tup (pa_cons (pe_bltn (v := .ty "bool") (by rfl) T.n_bool (by decide +kernel) rfl) (pa_cons (pe_bltn (v := .ty "int") (by rfl) T.n_int (by decide +kernel) rfl) pa_nil))) pa_nil)))) (pss_one (ps_ret (pe_and (pe_callB call_isD (by rfl) T.n_isinstance (by decide +kernel) (pa_cons (pv 0) (pa_cons (pe_bltn (v := .ty "int") (by rfl) T.n_int (by decide +kernel) rfl) pa_nil))) (pe_and (pe_cmpR op_eq (pe_callB call_isD (by rfl) T.n_isinstance (by decide +kernel) (pa_cons (pv 0) (pa_cons (pe_bltn (v := .ty "bool") (by rfl) T.n_bool (by decide +kernel) rfl) pa_nil))) (pe_callB call_isD (by rfl) T.n_isinstance (by decide +kernel) (pa_cons (pv 1) (pa_cons (pe_bltn (v := .ty "bool") (by rfl) T.n_bool (by decide +kernel) rfl) pa_nil))) (nomark _)) (pe_one (pe_cmpR op_eq (pv 0) (pv 1) (nomark _))))))) pss_nil)
      (pss_one (ps_ret (pe_and (pe_not (pe_callB call_isDT (by rfl) T.n_isinstance (by decide +kernel) (pa_cons (pv 0) (pa_cons (pe_tup (pa_cons (pe_bltn (v := .ty "bool") (by rfl) T.n_bool (by decide +kernel) rfl) (pa_cons (pe_bltn (v := .ty "int") (by rfl) T.n_int (by decide +kernel) rfl) (pa_cons (pe_bltn (v := .ty "list") (by rfl) T.n_list (by decide +kernel) rfl) (pa_cons (pe_bltn (v := .ty "tuple") (by rfl) T.n_tuple (by decide +kernel) rfl) pa_nil))))) pa_nil)))) (pe_one (pe_cmpR op_eq (pv 0) (pv 1) (nomark _)))))))), ?_⟩
    refine ⟨_, rfl, by show 2 ≤ sizeLine; decide, fun p hp => ?_⟩
    have S1 : Same H (upd H p (.tup [V.ty "list", V.ty "tuple"])) := same_upd hp
    have hd1 := dp_same S1 d x hd
    have he1 := dp_same S1 e y he
    refine ⟨y, p, ["list", "tuple"], e, rfl, upd_same, he1, kn_seq e, _, rfl, ?_⟩
    rw [isB_seq]
    generalize hH1 : upd H p (.tup [V.ty "list", V.ty "tuple"]) = H1 at *
    cases hz : (kL e || kT e) with
    | false =>
      refine iteF ?_
      refine ⟨_, rfl, by show 2 ≤ sizeLine; decide, fun p2 hp2 => ?_⟩
      have S2 : Same H (upd H1 p2 (.tup [V.ty "bool", V.ty "int"])) := same_trans S1 (same_upd hp2)
      have hd2 := dp_same S2 d x hd
      have he2 := dp_same S2 e y he
      refine ⟨y, p2, ["bool", "int"], e, rfl, upd_same, he2, kn_bi e, _, rfl, ?_⟩
      rw [isB_bi]
      generalize hH2 : upd H1 p2 (.tup [V.ty "bool", V.ty "int"]) = H2 at *
      cases hi : kI e with
      | true =>
        refine iteT ?_
        refine ⟨_, rfl, _, _, d, rfl, hd2, kn_int d, ?_⟩
        rw [isB_int]
        refine ⟨_, rfl, ?_⟩
        cases hdi : kI d with
        | false =>
          refine iteF ?_
          exact k false H2 (ffalse (kI_ne hdi hi)) S2
        | true =>
          refine iteT ?_
          refine ⟨_, rfl, _, _, d, rfl, hd2, kn_bool d, ?_⟩
          refine ⟨_, rfl, _, _, e, rfl, he2, kn_bool e, ?_⟩
          rw [isB_bool, isB_bool]
          rcases int_cases hd2 hdi with ⟨b, rfl, rfl⟩ | ⟨b, rfl, rfl⟩ <;> rcases int_cases he2 hi with ⟨c, rfl, rfl⟩ | ⟨c, rfl, rfl⟩
          · refine ⟨rfl, _, rfl, iteT ?_⟩
            refine ⟨_, rfl, _, rfl, rfl, k _ H2 ?_ S2⟩
            simp
          · refine ⟨rfl, _, rfl, iteF ?_⟩
            exact k false H2 (ffalse fun z => by cases z) S2
          · refine ⟨rfl, _, rfl, iteF ?_⟩
            exact k false H2 (ffalse fun z => by cases z) S2
          · refine ⟨rfl, _, rfl, iteT ?_⟩
            refine ⟨_, rfl, _, rfl, rfl, k _ H2 ?_ S2⟩
            simp
      | false =>
        refine iteF ?_
        refine ⟨_, rfl, by show 4 ≤ sizeLine; decide, fun p3 hp3 => ?_⟩
        have S3 : Same H (upd H2 p3 (.tup [V.ty "bool", V.ty "int", V.ty "list", V.ty "tuple"])) := same_trans S2 (same_upd hp3)
        have hd3 := dp_same S3 d x hd
        have he3 := dp_same S3 e y he
        refine ⟨x, p3, ["bool", "int", "list", "tuple"], d, rfl, upd_same, hd3, kn_four d, ?_⟩
        rw [isB_four]
        generalize hH3 : upd H2 p3 (.tup [V.ty "bool", V.ty "int", V.ty "list", V.ty "tuple"]) = H3 at *
        refine ⟨_, rfl, _, rfl, ?_⟩
        cases hdk : (kI d || kL d || kT d) with
        | true =>
          refine iteF ?_
          refine k false H3 (ffalse fun z => ?_) S3
          rw [z, hi, Bool.false_or] at hdk
          rw [hdk] at hz
          cases hz
        | false =>
          refine iteT ?_
          have h1 : kI d = false := by
            cases q : kI d with
            | false => rfl
            | true => rw [q] at hdk; cases hdk
          have h2 : (kL d || kT d) = false := by rw [h1, Bool.false_or] at hdk; exact hdk
          rcases flat_cases hd3 h1 h2 with ⟨rfl, rfl⟩ | ⟨a, rfl, rfl⟩ <;> rcases flat_cases he3 hi hz with ⟨rfl, rfl⟩ | ⟨c, rfl, rfl⟩ <;> refine ⟨_, rfl, _, rfl, rfl, k _ H3 ?_ S3⟩ <;> simp
    | true =>
      refine iteT ?_
      refine ⟨_, rfl, _, _, d, rfl, hd1, kn_list d, ?_⟩
      refine ⟨_, rfl, _, _, e, rfl, he1, kn_list e, rfl, _, rfl, ?_⟩
      rw [isB_list, isB_list]
      by_cases hL : kL d = kL e
      · rw [show (!decide (V.bl (kL d) = V.bl (kL e))) = false by simp [hL]]
        refine iteF ?_
        refine ⟨_, rfl, _, _, d, rfl, hd1, kn_tup d, _, rfl, _, _, e, rfl, he1, kn_tup e, rfl, _, rfl, ?_⟩
        rw [isB_tup, isB_tup]
        by_cases hT : kT d = kT e
        · rw [show (!decide (V.bl (kT d) = V.bl (kT e))) = false by simp [hT]]
          refine iteF ?_
          cases e with
          | list es =>
            cases d with
            | list ds =>
                obtain ⟨a1, xs, rfl, qx, dx⟩ := seq_items hd1
                obtain ⟨a2, ys, rfl, qy, dy⟩ := seq_items he1
                refine ⟨_, rfl, _, _, rfl, .inl ⟨_, qx, rfl⟩, _, rfl, _, _, rfl, .inl ⟨_, qy, rfl⟩, rfl, _, rfl, ite2 (fun hl => ?_) fun hl => ?_⟩
                · have hl2 : xs.length = ys.length := by
                    have z := of_decide_eq_true hl
                    injection z with z
                    exact Int.ofNat.inj z
                  have hxd := (dpa_len dx)
                  have hye := (dpa_len dy)
                  cases n with
                  | zero => exact absurd hs (by intro z; exact z)
                  | succ m =>
                    obtain ⟨hn1, hn2⟩ := sml_len hs
                    refine ⟨_, rfl, _, rfl, a1, a2, xs, ys, rfl, .inl ⟨qx, qy, fun D hD => ?_⟩⟩
                    refine lc_it (walk_zip (xs := xs) (ys := ys) (n := ds.length) (by omega)) (PvS D H1 ds es) ⟨[], upd_same, rfl, fun j d e b _ _ h3 => by simp at h3, same_upd hD⟩ (fun i H2 _ ⟨_, _, _, _, sm⟩ => ⟨sm.seq qx, sm.seq qy⟩) (fun i v H2 H3 hi hp hy => ?_) (fun H2 hp => ?_)
                    · obtain ⟨t, u1, u2, rfl, ht, rfl, g1, g2⟩ := hy
                      have sm : Same H1 (upd H2 t (.tup [u1, u2])) := same_trans hp.choose_spec.2.2.2 (same_upd ht)
                      obtain ⟨d1, gd, dd⟩ := dpa_at dx g1
                      obtain ⟨e1, ge, de⟩ := dpa_at dy g2
                      refine ⟨t, _, rfl, SqT.of upd_same, rfl, _, _, rfl, _, _, rfl, rfl, rfl, iteT (B := PvS D H1 ds es (i + 1) (upd H2 t (.tup [u1, u2]))) ?_⟩
                      refine ⟨_, rfl, _, rfl, u1, u2, d1, e1, rfl, dp_same sm d1 u1 dd, dp_same sm e1 u2 de, hn2 e1 (List.mem_of_getElem? ge), fun b H4 hb sH => ?_⟩
                      exact pvS_step hD hp (same_trans (same_upd ht) sH) gd ge hb (by omega)
                    · obtain ⟨bs, e1, e2, e3, e4⟩ := hp
                      refine ⟨_, bs, rfl, SqL.of e1, k _ H2 ?_ (same_trans S1 e4)⟩
                      rw [all_iff (ds := ds) (es := es) (by omega) e2 e3]
                      exact ⟨fun z => by rw [z], fun z => by injection z⟩
                · refine k false H1 (ffalse fun z => hl (decide_eq_true ?_)) S1
                  injection z with z
                  rw [(dpa_len dx), (dpa_len dy), z]

            | _ => cases hL
          | tuple es =>
            cases d with
            | tuple ds =>
                obtain ⟨a1, xs, rfl, qx, dx⟩ := seq_itemsT hd1
                obtain ⟨a2, ys, rfl, qy, dy⟩ := seq_itemsT he1
                refine ⟨_, rfl, _, _, rfl, .inr ⟨_, qx, rfl⟩, _, rfl, _, _, rfl, .inr ⟨_, qy, rfl⟩, rfl, _, rfl, ite2 (fun hl => ?_) fun hl => ?_⟩
                · have hl2 : xs.length = ys.length := by
                    have z := of_decide_eq_true hl
                    injection z with z
                    exact Int.ofNat.inj z
                  have hxd := (dpa_len dx)
                  have hye := (dpa_len dy)
                  cases n with
                  | zero => exact absurd hs (by intro z; exact z)
                  | succ m =>
                    obtain ⟨hn1, hn2⟩ := sml_lenT hs
                    refine ⟨_, rfl, _, rfl, a1, a2, xs, ys, rfl, .inr ⟨qx, qy, fun D hD => ?_⟩⟩
                    refine lc_it (walk_zipT (xs := xs) (ys := ys) (n := ds.length) (by omega)) (PvS D H1 ds es) ⟨[], upd_same, rfl, fun j d e b _ _ h3 => by simp at h3, same_upd hD⟩ (fun i H2 _ ⟨_, _, _, _, sm⟩ => ⟨UU.Same.seqT sm qx, UU.Same.seqT sm qy⟩) (fun i v H2 H3 hi hp hy => ?_) (fun H2 hp => ?_)
                    · obtain ⟨t, u1, u2, rfl, ht, rfl, g1, g2⟩ := hy
                      have sm : Same H1 (upd H2 t (.tup [u1, u2])) := same_trans hp.choose_spec.2.2.2 (same_upd ht)
                      obtain ⟨d1, gd, dd⟩ := dpa_at dx g1
                      obtain ⟨e1, ge, de⟩ := dpa_at dy g2
                      refine ⟨t, _, rfl, SqT.of upd_same, rfl, _, _, rfl, _, _, rfl, rfl, rfl, iteT (B := PvS D H1 ds es (i + 1) (upd H2 t (.tup [u1, u2]))) ?_⟩
                      refine ⟨_, rfl, _, rfl, u1, u2, d1, e1, rfl, dp_same sm d1 u1 dd, dp_same sm e1 u2 de, hn2 e1 (List.mem_of_getElem? ge), fun b H4 hb sH => ?_⟩
                      exact pvS_step hD hp (same_trans (same_upd ht) sH) gd ge hb (by omega)
                    · obtain ⟨bs, e1, e2, e3, e4⟩ := hp
                      refine ⟨_, bs, rfl, SqL.of e1, k _ H2 ?_ (same_trans S1 e4)⟩
                      rw [all_iff (ds := ds) (es := es) (by omega) e2 e3]
                      exact ⟨fun z => by rw [z], fun z => by injection z⟩
                · refine k false H1 (ffalse fun z => hl (decide_eq_true ?_)) S1
                  injection z with z
                  rw [(dpa_len dx), (dpa_len dy), z]

            | _ => cases hT
          | _ => cases hz
        · rw [show (!decide (V.bl (kT d) = V.bl (kT e))) = true by simp [hT]]
          refine iteT ?_
          exact k false H1 (ffalse (kT_ne hT)) S1
      · rw [show (!decide (V.bl (kL d) = V.bl (kL e))) = true by simp [hL]]
        refine iteT (iteT ?_)
        exact k false H1 (ffalse (kL_ne hL)) S1
end
end K01


namespace K01
open PySem PySem.Spec PyProof.Rows L2 XV XL UU NdefX LamX
/-! ### the errors' classes -/
abbrev CC (K : PySem.W.Frag) (x : Str) : Addr := He.ga K x
abbrev FI (K : PySem.W.Frag) (x : Str) : Addr := He.ma K (CC K x) "__init__"
def nine : List (Str × Str) := [("BadName", "name"), ("BadValue", "value"), ("BadLimit", "limit"), ("NoPage", "name"), ("NoMoment", "moment"), ("BadFall", "fall"), ("BadGuard", "step"), ("BadPlace", "place"), ("NotTruth", "value")]
def ve : List Str := ["BadName", "BadValue", "BadLimit", "NoPage", "NoMoment", "BadFall", "BadGuard", "BadPlace", "NotTruth", "Beyond"]
def eleven : List Str := ["BadFall", "BadGuard", "BadLimit", "BadName", "BadPlace", "BadValue", "Beyond", "Held", "NoMoment", "NoPage", "NotTruth"]
structure Ty (K : PySem.W.Frag) (mg : Str → Option Value) : Prop extends Tx mg where
  n_Exception : mg "Exception" = none
  n_ValueError : mg "ValueError" = none
  n_LookupError : mg "LookupError" = none
  n_RuntimeError : mg "RuntimeError" = none
  c_FallError : mg "FallError" = some (.ref (CC K "FallError"))
  oe : ∀ x ∈ ve, OexC K (CC K x)
  mh : MkC K (CC K "Held") "Exception.__init__"
  ec : ∀ x ∈ eleven, ExcC K (CC K x)
  xf : ∀ x ∈ ve, XfC K (CC K x)
  no : ∀ p ∈ nine, PySem.W.findIn K (.ref (CC K p.1)) p.2 = some none
  kit : ∀ x ∈ eleven, ∀ y ∈ eleven, PySem.W.kitOne K (.ref (CC K x)) (.ref (CC K y)) = some (decide (x = y))
  fall : ∀ x ∈ ve, PySem.W.kitOne K (.ref (CC K x)) (.ref (CC K "FallError")) = some true
  val : ∀ x ∈ ve, PySem.W.kitOne K (.ref (CC K x)) (.type "ValueError") = some true
  hfall : PySem.W.kitOne K (.ref (CC K "Held")) (.ref (CC K "FallError")) = some false
  hval : PySem.W.kitOne K (.ref (CC K "Held")) (.type "ValueError") = some false
  hexc : PySem.W.kitOne K (.ref (CC K "Held")) (.type "Exception") = some true
  hlook : PySem.W.kitOne K (.ref (CC K "Held")) (.type "LookupError") = some false
  hrun : PySem.W.kitOne K (.ref (CC K "Held")) (.type "RuntimeError") = some false
  ci : ∃ mc, CIni K (CC K "FallError") mc "ValueError.__init__"
  hi : PySem.W.findCls K (.type "Exception") (.type "type") "__init__" = some (.val (.builtin "Exception.__init__"))
  c_BadFall : mg "BadFall" = some (.ref (CC K "BadFall"))
  i_BadFall : PySem.W.findIn K (.ref (CC K "BadFall")) "__init__" = some (some (.ref (FI K "BadFall")))
  t_BadFall : PySem.W.typeIn K (.ref (FI K "BadFall")) = some (.type "function")
  c_BadGuard : mg "BadGuard" = some (.ref (CC K "BadGuard"))
  i_BadGuard : PySem.W.findIn K (.ref (CC K "BadGuard")) "__init__" = some (some (.ref (FI K "BadGuard")))
  t_BadGuard : PySem.W.typeIn K (.ref (FI K "BadGuard")) = some (.type "function")
  c_BadLimit : mg "BadLimit" = some (.ref (CC K "BadLimit"))
  i_BadLimit : PySem.W.findIn K (.ref (CC K "BadLimit")) "__init__" = some (some (.ref (FI K "BadLimit")))
  t_BadLimit : PySem.W.typeIn K (.ref (FI K "BadLimit")) = some (.type "function")
  c_BadName : mg "BadName" = some (.ref (CC K "BadName"))
  i_BadName : PySem.W.findIn K (.ref (CC K "BadName")) "__init__" = some (some (.ref (FI K "BadName")))
  t_BadName : PySem.W.typeIn K (.ref (FI K "BadName")) = some (.type "function")
  c_BadPlace : mg "BadPlace" = some (.ref (CC K "BadPlace"))
  i_BadPlace : PySem.W.findIn K (.ref (CC K "BadPlace")) "__init__" = some (some (.ref (FI K "BadPlace")))
  t_BadPlace : PySem.W.typeIn K (.ref (FI K "BadPlace")) = some (.type "function")
  c_BadValue : mg "BadValue" = some (.ref (CC K "BadValue"))
  i_BadValue : PySem.W.findIn K (.ref (CC K "BadValue")) "__init__" = some (some (.ref (FI K "BadValue")))
  t_BadValue : PySem.W.typeIn K (.ref (FI K "BadValue")) = some (.type "function")
  c_Beyond : mg "Beyond" = some (.ref (CC K "Beyond"))
  i_Beyond : PySem.W.findIn K (.ref (CC K "Beyond")) "__init__" = some (some (.ref (FI K "Beyond")))
  t_Beyond : PySem.W.typeIn K (.ref (FI K "Beyond")) = some (.type "function")
  c_Held : mg "Held" = some (.ref (CC K "Held"))
  i_Held : PySem.W.findIn K (.ref (CC K "Held")) "__init__" = some (some (.ref (FI K "Held")))
  t_Held : PySem.W.typeIn K (.ref (FI K "Held")) = some (.type "function")
  c_NoMoment : mg "NoMoment" = some (.ref (CC K "NoMoment"))
  i_NoMoment : PySem.W.findIn K (.ref (CC K "NoMoment")) "__init__" = some (some (.ref (FI K "NoMoment")))
  t_NoMoment : PySem.W.typeIn K (.ref (FI K "NoMoment")) = some (.type "function")
  c_NoPage : mg "NoPage" = some (.ref (CC K "NoPage"))
  i_NoPage : PySem.W.findIn K (.ref (CC K "NoPage")) "__init__" = some (some (.ref (FI K "NoPage")))
  t_NoPage : PySem.W.typeIn K (.ref (FI K "NoPage")) = some (.type "function")
  c_NotTruth : mg "NotTruth" = some (.ref (CC K "NotTruth"))
  i_NotTruth : PySem.W.findIn K (.ref (CC K "NotTruth")) "__init__" = some (some (.ref (FI K "NotTruth")))
  t_NotTruth : PySem.W.typeIn K (.ref (FI K "NotTruth")) = some (.type "function")
theorem Ty.k {K : PySem.W.Frag} {mg : Str → Option Value} (T : Ty K mg) {x : Str} (h : x ∈ ve) : MkC K (CC K x) "ValueError.__init__" := .ve (T.oe x h)
theorem Ty.k_BadName {K : PySem.W.Frag} {mg : Str → Option Value} (T : Ty K mg) : MkC K (CC K "BadName") "ValueError.__init__" := T.k (by decide +kernel)
theorem Ty.k_BadValue {K : PySem.W.Frag} {mg : Str → Option Value} (T : Ty K mg) : MkC K (CC K "BadValue") "ValueError.__init__" := T.k (by decide +kernel)
theorem Ty.k_BadLimit {K : PySem.W.Frag} {mg : Str → Option Value} (T : Ty K mg) : MkC K (CC K "BadLimit") "ValueError.__init__" := T.k (by decide +kernel)
theorem Ty.k_NoPage {K : PySem.W.Frag} {mg : Str → Option Value} (T : Ty K mg) : MkC K (CC K "NoPage") "ValueError.__init__" := T.k (by decide +kernel)
theorem Ty.k_NoMoment {K : PySem.W.Frag} {mg : Str → Option Value} (T : Ty K mg) : MkC K (CC K "NoMoment") "ValueError.__init__" := T.k (by decide +kernel)
theorem Ty.k_BadFall {K : PySem.W.Frag} {mg : Str → Option Value} (T : Ty K mg) : MkC K (CC K "BadFall") "ValueError.__init__" := T.k (by decide +kernel)
theorem Ty.k_BadGuard {K : PySem.W.Frag} {mg : Str → Option Value} (T : Ty K mg) : MkC K (CC K "BadGuard") "ValueError.__init__" := T.k (by decide +kernel)
theorem Ty.k_BadPlace {K : PySem.W.Frag} {mg : Str → Option Value} (T : Ty K mg) : MkC K (CC K "BadPlace") "ValueError.__init__" := T.k (by decide +kernel)
theorem Ty.k_NotTruth {K : PySem.W.Frag} {mg : Str → Option Value} (T : Ty K mg) : MkC K (CC K "NotTruth") "ValueError.__init__" := T.k (by decide +kernel)
theorem Ty.k_Beyond {K : PySem.W.Frag} {mg : Str → Option Value} (T : Ty K mg) : MkC K (CC K "Beyond") "ValueError.__init__" := T.k (by decide +kernel)
theorem Ty.k_Held {K : PySem.W.Frag} {mg : Str → Option Value} (T : Ty K mg) : MkC K (CC K "Held") "Exception.__init__" := T.mh
/-- the promise of an error's __init__: the object has its dict, with the one field -/
def spInit (C : Addr) (fld : Str) : Sp := fun vs H Q _ => ∃ (a : Addr) (v : V), vs = [.ref a, v] ∧ H a = some (exo a C none) ∧ ∀ d, H d = none → d ≠ a → Q .non (upd (upd H d (exd d [(fld, v)])) a (exo a C (some d)))
def spInit0 (C : Addr) : Sp := fun vs H Q _ => ∃ (a : Addr), vs = [.ref a] ∧ H a = some (exo a C none) ∧ Q .non H
abbrev Fi (K : PySem.W.Frag) (q : Str) (st : Stmt) (f : Addr) (fd : FuncData) : Prop := FunD K "__init__" q (defArgs st) (defBody st) (defScope st) [] [] f fd
section
variable {P : Program} {w : World} {K : PySem.W.Frag} {mg : Str → Option Value} {base : Heap} {f : Addr} {fd : FuncData}
abbrev s_BadName___init__ : Stmt := inClass (top 2) 0
theorem sc_BadName___init__ : FnScope ["self", "name"] ["self", "name"] (defScope s_BadName___init__) := ⟨rfl, rfl, rfl, by decide +kernel, rfl, by decide +kernel, by decide +kernel⟩
theorem ok_i_BadName (F : Fi K "BadName.__init__" s_BadName___init__ f fd) (T : Ty K mg) : FnOk P w K mg base CX0 1 f fd ["self", "name"] (spInit (CC K "BadName") "name") := by
  refine F.ok sc_BadName___init__ (fun vs H Q E h => ?_) (fun cdv A outer s H vs Q E hr h => ?_)
  · obtain ⟨_, _, rfl, _⟩ := h
    rfl
  · obtain ⟨a, v, rfl, ha, k⟩ := h
    obtain ⟨mc, ci⟩ := T.ci
    refine ⟨_, PSs.nox (pss_cons (ps_expr (pe_ini (by rfl) T.c_FallError ci (pa_cons (pv 0) (pa_cons pe_str pa_nil)))) (pss_one (ps_ost (pv 0) (pv 1)))), ?_⟩
    refine ⟨_, rfl, a, _, _, rfl, by decide, T.k_BadName, ha, ?_⟩
    exact ⟨_, rfl, _, rfl, a, _, rfl, T.oe "BadName" (by decide +kernel), T.no ("BadName", "name") (by decide +kernel), .inl ⟨ha, fun d hd hne => k d hd hne⟩⟩
abbrev s_BadValue___init__ : Stmt := inClass (top 3) 0
theorem sc_BadValue___init__ : FnScope ["self", "value"] ["self", "value"] (defScope s_BadValue___init__) := ⟨rfl, rfl, rfl, by decide +kernel, rfl, by decide +kernel, by decide +kernel⟩
theorem ok_i_BadValue (F : Fi K "BadValue.__init__" s_BadValue___init__ f fd) (T : Ty K mg) : FnOk P w K mg base CX0 1 f fd ["self", "value"] (spInit (CC K "BadValue") "value") := by
  refine F.ok sc_BadValue___init__ (fun vs H Q E h => ?_) (fun cdv A outer s H vs Q E hr h => ?_)
  · obtain ⟨_, _, rfl, _⟩ := h
    rfl
  · obtain ⟨a, v, rfl, ha, k⟩ := h
    obtain ⟨mc, ci⟩ := T.ci
    refine ⟨_, PSs.nox (pss_cons (ps_expr (pe_ini (by rfl) T.c_FallError ci (pa_cons (pv 0) (pa_cons pe_str pa_nil)))) (pss_one (ps_ost (pv 0) (pv 1)))), ?_⟩
    refine ⟨_, rfl, a, _, _, rfl, by decide, T.k_BadValue, ha, ?_⟩
    exact ⟨_, rfl, _, rfl, a, _, rfl, T.oe "BadValue" (by decide +kernel), T.no ("BadValue", "value") (by decide +kernel), .inl ⟨ha, fun d hd hne => k d hd hne⟩⟩
abbrev s_BadLimit___init__ : Stmt := inClass (top 4) 0
theorem sc_BadLimit___init__ : FnScope ["self", "limit"] ["self", "limit"] (defScope s_BadLimit___init__) := ⟨rfl, rfl, rfl, by decide +kernel, rfl, by decide +kernel, by decide +kernel⟩
theorem ok_i_BadLimit (F : Fi K "BadLimit.__init__" s_BadLimit___init__ f fd) (T : Ty K mg) : FnOk P w K mg base CX0 1 f fd ["self", "limit"] (spInit (CC K "BadLimit") "limit") := by
  refine F.ok sc_BadLimit___init__ (fun vs H Q E h => ?_) (fun cdv A outer s H vs Q E hr h => ?_)
  · obtain ⟨_, _, rfl, _⟩ := h
    rfl
  · obtain ⟨a, v, rfl, ha, k⟩ := h
    obtain ⟨mc, ci⟩ := T.ci
    refine ⟨_, PSs.nox (pss_cons (ps_expr (pe_ini (by rfl) T.c_FallError ci (pa_cons (pv 0) (pa_cons pe_str pa_nil)))) (pss_one (ps_ost (pv 0) (pv 1)))), ?_⟩
    refine ⟨_, rfl, a, _, _, rfl, by decide, T.k_BadLimit, ha, ?_⟩
    exact ⟨_, rfl, _, rfl, a, _, rfl, T.oe "BadLimit" (by decide +kernel), T.no ("BadLimit", "limit") (by decide +kernel), .inl ⟨ha, fun d hd hne => k d hd hne⟩⟩
abbrev s_NoPage___init__ : Stmt := inClass (top 5) 0
theorem sc_NoPage___init__ : FnScope ["self", "name"] ["self", "name"] (defScope s_NoPage___init__) := ⟨rfl, rfl, rfl, by decide +kernel, rfl, by decide +kernel, by decide +kernel⟩
theorem ok_i_NoPage (F : Fi K "NoPage.__init__" s_NoPage___init__ f fd) (T : Ty K mg) : FnOk P w K mg base CX0 1 f fd ["self", "name"] (spInit (CC K "NoPage") "name") := by
  refine F.ok sc_NoPage___init__ (fun vs H Q E h => ?_) (fun cdv A outer s H vs Q E hr h => ?_)
  · obtain ⟨_, _, rfl, _⟩ := h
    rfl
  · obtain ⟨a, v, rfl, ha, k⟩ := h
    obtain ⟨mc, ci⟩ := T.ci
    refine ⟨_, PSs.nox (pss_cons (ps_expr (pe_ini (by rfl) T.c_FallError ci (pa_cons (pv 0) (pa_cons pe_str pa_nil)))) (pss_one (ps_ost (pv 0) (pv 1)))), ?_⟩
    refine ⟨_, rfl, a, _, _, rfl, by decide, T.k_NoPage, ha, ?_⟩
    exact ⟨_, rfl, _, rfl, a, _, rfl, T.oe "NoPage" (by decide +kernel), T.no ("NoPage", "name") (by decide +kernel), .inl ⟨ha, fun d hd hne => k d hd hne⟩⟩
abbrev s_NoMoment___init__ : Stmt := inClass (top 6) 0
theorem sc_NoMoment___init__ : FnScope ["self", "moment"] ["self", "moment"] (defScope s_NoMoment___init__) := ⟨rfl, rfl, rfl, by decide +kernel, rfl, by decide +kernel, by decide +kernel⟩
theorem ok_i_NoMoment (F : Fi K "NoMoment.__init__" s_NoMoment___init__ f fd) (T : Ty K mg) : FnOk P w K mg base CX0 1 f fd ["self", "moment"] (spInit (CC K "NoMoment") "moment") := by
  refine F.ok sc_NoMoment___init__ (fun vs H Q E h => ?_) (fun cdv A outer s H vs Q E hr h => ?_)
  · obtain ⟨_, _, rfl, _⟩ := h
    rfl
  · obtain ⟨a, v, rfl, ha, k⟩ := h
    obtain ⟨mc, ci⟩ := T.ci
    refine ⟨_, PSs.nox (pss_cons (ps_expr (pe_ini (by rfl) T.c_FallError ci (pa_cons (pv 0) (pa_cons pe_str pa_nil)))) (pss_one (ps_ost (pv 0) (pv 1)))), ?_⟩
    refine ⟨_, rfl, a, _, _, rfl, by decide, T.k_NoMoment, ha, ?_⟩
    exact ⟨_, rfl, _, rfl, a, _, rfl, T.oe "NoMoment" (by decide +kernel), T.no ("NoMoment", "moment") (by decide +kernel), .inl ⟨ha, fun d hd hne => k d hd hne⟩⟩
abbrev s_BadFall___init__ : Stmt := inClass (top 7) 0
theorem sc_BadFall___init__ : FnScope ["self", "fall"] ["self", "fall"] (defScope s_BadFall___init__) := ⟨rfl, rfl, rfl, by decide +kernel, rfl, by decide +kernel, by decide +kernel⟩
theorem ok_i_BadFall (F : Fi K "BadFall.__init__" s_BadFall___init__ f fd) (T : Ty K mg) : FnOk P w K mg base CX0 1 f fd ["self", "fall"] (spInit (CC K "BadFall") "fall") := by
  refine F.ok sc_BadFall___init__ (fun vs H Q E h => ?_) (fun cdv A outer s H vs Q E hr h => ?_)
  · obtain ⟨_, _, rfl, _⟩ := h
    rfl
  · obtain ⟨a, v, rfl, ha, k⟩ := h
    obtain ⟨mc, ci⟩ := T.ci
    refine ⟨_, PSs.nox (pss_cons (ps_expr (pe_ini (by rfl) T.c_FallError ci (pa_cons (pv 0) (pa_cons pe_str pa_nil)))) (pss_one (ps_ost (pv 0) (pv 1)))), ?_⟩
    refine ⟨_, rfl, a, _, _, rfl, by decide, T.k_BadFall, ha, ?_⟩
    exact ⟨_, rfl, _, rfl, a, _, rfl, T.oe "BadFall" (by decide +kernel), T.no ("BadFall", "fall") (by decide +kernel), .inl ⟨ha, fun d hd hne => k d hd hne⟩⟩
abbrev s_BadGuard___init__ : Stmt := inClass (top 8) 0
theorem sc_BadGuard___init__ : FnScope ["self", "step"] ["self", "step"] (defScope s_BadGuard___init__) := ⟨rfl, rfl, rfl, by decide +kernel, rfl, by decide +kernel, by decide +kernel⟩
theorem ok_i_BadGuard (F : Fi K "BadGuard.__init__" s_BadGuard___init__ f fd) (T : Ty K mg) : FnOk P w K mg base CX0 1 f fd ["self", "step"] (spInit (CC K "BadGuard") "step") := by
  refine F.ok sc_BadGuard___init__ (fun vs H Q E h => ?_) (fun cdv A outer s H vs Q E hr h => ?_)
  · obtain ⟨_, _, rfl, _⟩ := h
    rfl
  · obtain ⟨a, v, rfl, ha, k⟩ := h
    obtain ⟨mc, ci⟩ := T.ci
    refine ⟨_, PSs.nox (pss_cons (ps_expr (pe_ini (by rfl) T.c_FallError ci (pa_cons (pv 0) (pa_cons pe_str pa_nil)))) (pss_one (ps_ost (pv 0) (pv 1)))), ?_⟩
    refine ⟨_, rfl, a, _, _, rfl, by decide, T.k_BadGuard, ha, ?_⟩
    exact ⟨_, rfl, _, rfl, a, _, rfl, T.oe "BadGuard" (by decide +kernel), T.no ("BadGuard", "step") (by decide +kernel), .inl ⟨ha, fun d hd hne => k d hd hne⟩⟩
abbrev s_BadPlace___init__ : Stmt := inClass (top 9) 0
theorem sc_BadPlace___init__ : FnScope ["self", "place"] ["self", "place"] (defScope s_BadPlace___init__) := ⟨rfl, rfl, rfl, by decide +kernel, rfl, by decide +kernel, by decide +kernel⟩
theorem ok_i_BadPlace (F : Fi K "BadPlace.__init__" s_BadPlace___init__ f fd) (T : Ty K mg) : FnOk P w K mg base CX0 1 f fd ["self", "place"] (spInit (CC K "BadPlace") "place") := by
  refine F.ok sc_BadPlace___init__ (fun vs H Q E h => ?_) (fun cdv A outer s H vs Q E hr h => ?_)
  · obtain ⟨_, _, rfl, _⟩ := h
    rfl
  · obtain ⟨a, v, rfl, ha, k⟩ := h
    obtain ⟨mc, ci⟩ := T.ci
    refine ⟨_, PSs.nox (pss_cons (ps_expr (pe_ini (by rfl) T.c_FallError ci (pa_cons (pv 0) (pa_cons pe_str pa_nil)))) (pss_one (ps_ost (pv 0) (pv 1)))), ?_⟩
    refine ⟨_, rfl, a, _, _, rfl, by decide, T.k_BadPlace, ha, ?_⟩
    exact ⟨_, rfl, _, rfl, a, _, rfl, T.oe "BadPlace" (by decide +kernel), T.no ("BadPlace", "place") (by decide +kernel), .inl ⟨ha, fun d hd hne => k d hd hne⟩⟩
abbrev s_NotTruth___init__ : Stmt := inClass (top 10) 0
theorem sc_NotTruth___init__ : FnScope ["self", "value"] ["self", "value"] (defScope s_NotTruth___init__) := ⟨rfl, rfl, rfl, by decide +kernel, rfl, by decide +kernel, by decide +kernel⟩
theorem ok_i_NotTruth (F : Fi K "NotTruth.__init__" s_NotTruth___init__ f fd) (T : Ty K mg) : FnOk P w K mg base CX0 1 f fd ["self", "value"] (spInit (CC K "NotTruth") "value") := by
  refine F.ok sc_NotTruth___init__ (fun vs H Q E h => ?_) (fun cdv A outer s H vs Q E hr h => ?_)
  · obtain ⟨_, _, rfl, _⟩ := h
    rfl
  · obtain ⟨a, v, rfl, ha, k⟩ := h
    obtain ⟨mc, ci⟩ := T.ci
    refine ⟨_, PSs.nox (pss_cons (ps_expr (pe_ini (by rfl) T.c_FallError ci (pa_cons (pv 0) (pa_cons pe_str pa_nil)))) (pss_one (ps_ost (pv 0) (pv 1)))), ?_⟩
    refine ⟨_, rfl, a, _, _, rfl, by decide, T.k_NotTruth, ha, ?_⟩
    exact ⟨_, rfl, _, rfl, a, _, rfl, T.oe "NotTruth" (by decide +kernel), T.no ("NotTruth", "value") (by decide +kernel), .inl ⟨ha, fun d hd hne => k d hd hne⟩⟩
abbrev s_Beyond___init__ : Stmt := inClass (top 11) 0
theorem sc_Beyond___init__ : FnScope ["self"] ["self"] (defScope s_Beyond___init__) := ⟨rfl, rfl, rfl, by decide +kernel, rfl, by decide +kernel, by decide +kernel⟩
theorem ok_i_Beyond (F : Fi K "Beyond.__init__" s_Beyond___init__ f fd) (T : Ty K mg) : FnOk P w K mg base CX0 1 f fd ["self"] (spInit0 (CC K "Beyond")) := by
  refine F.ok sc_Beyond___init__ (fun vs H Q E h => ?_) (fun cdv A outer s H vs Q E hr h => ?_)
  · obtain ⟨_, rfl, _⟩ := h
    rfl
  · obtain ⟨a, rfl, ha, k⟩ := h
    obtain ⟨mc, ci⟩ := T.ci
    refine ⟨_, PSs.nox (pss_one (ps_expr (pe_ini (by rfl) T.c_FallError ci (pa_cons (pv 0) pa_nil)))), ?_⟩
    exact ⟨_, rfl, a, _, _, rfl, by decide, T.k_Beyond, ha, k⟩
abbrev s_Held___init__ : Stmt := inClass (top 12) 0
theorem sc_Held___init__ : FnScope ["self"] ["self"] (defScope s_Held___init__) := ⟨rfl, rfl, rfl, by decide +kernel, rfl, by decide +kernel, by decide +kernel⟩
theorem ok_i_Held (F : Fi K "Held.__init__" s_Held___init__ f fd) (T : Ty K mg) : FnOk P w K mg base CX0 1 f fd ["self"] (spInit0 (CC K "Held")) := by
  refine F.ok sc_Held___init__ (fun vs H Q E h => ?_) (fun cdv A outer s H vs Q E hr h => ?_)
  · obtain ⟨_, rfl, _⟩ := h
    rfl
  · obtain ⟨a, rfl, ha, k⟩ := h
    obtain ⟨mc, ci⟩ := T.ci
    refine ⟨_, PSs.nox (pss_one (ps_expr (pe_iniB (by rfl) T.n_Exception PyProof.Rows.Boot.«Exception» (by kernel_rfl) (by decide +kernel) T.hi (pa_cons (pv 0) pa_nil)))), ?_⟩
    exact ⟨_, rfl, a, _, _, rfl, by decide, T.k_Held, ha, k⟩
end
end K01

namespace K01
open PySem PySem.Spec PyProof.Rows L2 XV XL UU NdefX LamX
section
variable {P : Program} {w : World} {K : PySem.W.Frag} {mg : Str → Option Value} {base : Heap} {f : Addr} {fd : FuncData}
abbrev s_law_object : Stmt := top 17
theorem sc_law_object : FnScope ["_law_draws", "_law_n"] ["_law_draws"] (defScope s_law_object) := ⟨rfl, rfl, rfl, by decide +kernel, rfl, by decide +kernel, by decide +kernel⟩
def spObj (K : PySem.W.Frag) : Sp := fun vs H Q _ => ∃ (p : Addr) (a b c : Int), vs = [.ref p] ∧ H p = some (.lst [.int a, .int b, .int c]) ∧ 0 ≤ a ∧ 0 ≤ b ∧ b < MM ∧ 0 ≤ c ∧ c ≤ 1000 ∧
  ∀ (v : V) (d : PyData) (H' : Hp), Dp K H' v d → Sml 2 d → (∀ q o, H q = some o → q ≠ p → H' q = some o) → Q v H'
theorem ok_object (F : Fn K "_law_object" s_law_object f fd) (U_law_draw : Use P w K mg base CX0 "_law_draw" 1 ["_law_draws", "_law_many"] spDraw) : FnOk P w K mg base CX0 2 f fd ["_law_draws"] (spObj K) := by
  refine F.ok sc_law_object (fun vs H Q E h => ?_) (fun cdv A outer s H vs Q E hr h => ?_)
  · obtain ⟨_, _, _, _, rfl, _⟩ := h
    rfl
  · obtain ⟨p, a, b, c, rfl, hp, ha, hb, hb2, hc, hc2, k⟩ := h
    refine ⟨_, PSs.nox (pss_cons (ps_set (i := 1) sc_law_object.nd rfl (Or.inl rfl) (pe_use U_law_draw hr (by first | decide | omega) (by rfl) pass0 (pa_cons (pv 0) (pa_cons pe_int pa_nil))))
      (pss_one (ps_ret (pe_ix ix_list (pe_lst (pa_cons (pe_op op_sub (pe_op op_pow pe_int pe_int) (pv 1)) (pa_cons pe_str (pa_cons (pe_tup (pa_cons (pv 1) (pa_cons pe_str pa_nil))) (pa_cons pe_non (pa_cons (pe_tup (pa_cons (pe_tup (pa_cons pe_int (pa_cons pe_bl pa_nil))) (pa_cons (pe_tup (pa_cons (pv 1) (pa_cons pe_bl pa_nil))) pa_nil))) (pa_cons (pe_op op_sub pe_int (pv 1)) pa_nil))))))) (pe_use U_law_draw hr (by first | decide | omega) (by rfl) pass0 (pa_cons (pv 0) (pa_cons pe_int pa_nil))) (fun _ _ => rfl))))), ?_⟩
    refine ⟨_, rfl, p, 5, a, b, c, rfl, hp, ha, hb, hb2, hc, by omega, by decide, by decide, fun n a1 b1 c1 hn hn5 ha1 hb1 hb3 hc1 hc3 => ?_⟩
    generalize hH1 : upd H p (.lst [.int a1, .int b1, .int c1]) = H1
    have hp1 : H1 p = some (.lst [.int a1, .int b1, .int c1]) := by rw [← hH1]; exact upd_same
    have k1 : ∀ q o, H q = some o → q ≠ p → H1 q = some o := fun q o z ne => by rw [← hH1, upd_ne ne]; exact z
    refine ⟨_, _, rfl, rfl, ⟨by decide, by decide, by decide⟩, _, rfl, _, _, rfl, rfl, ?_⟩
    refine ⟨_, rfl, by show 2 ≤ sizeLine; decide, fun p1 h1 => ?_⟩
    refine ⟨by show 2 ≤ sizeLine; decide, fun p2 h2 => ?_⟩
    refine ⟨_, rfl, by show 2 ≤ sizeLine; decide, fun p3 h3 => ?_⟩
    refine ⟨by show 2 ≤ sizeLine; decide, fun p4 h4 => ?_⟩
    refine ⟨_, rfl, _, _, rfl, rfl, by show 6 ≤ sizeLine; decide, fun p5 h5 => ?_⟩
    have t2 : Same (upd H1 p1 (.tup [V.int n, V.str "x"])) (upd (upd H1 p1 (.tup [V.int n, V.str "x"])) p2 (.tup [V.int 1, V.bl true])) := same_upd h2
    have t3 := same_upd (o := .tup [V.int n, V.bl false]) h3
    have t4 := same_upd (o := .tup [V.ref p2, V.ref p3]) h4
    have t5 := same_upd (o := .lst [.int (10 ^ Int.toNat 11 - n), .str "some", .ref p1, .non, .ref p4, .int (0 - n)]) h5
    generalize hH5 : upd _ p5 _ = H5 at *
    have s1 : Same H1 H5 := same_trans (same_upd h1) (same_trans t2 (same_trans t3 (same_trans t4 t5)))
    have e1 : H5 p1 = some (.tup [V.int n, V.str "x"]) := t5 _ _ (t4 _ _ (t3 _ _ (t2 _ _ upd_same)))
    have e2 : H5 p2 = some (.tup [V.int 1, V.bl true]) := t5 _ _ (t4 _ _ (t3 _ _ upd_same))
    have e3 : H5 p3 = some (.tup [V.int n, V.bl false]) := t5 _ _ (t4 _ _ upd_same)
    have e4 : H5 p4 = some (.tup [V.ref p2, V.ref p3]) := t5 _ _ upd_same
    have e5 : H5 p5 = some (.lst [.int (10 ^ Int.toNat 11 - n), .str "some", .ref p1, .non, .ref p4, .int (0 - n)]) := by rw [← hH5]; exact upd_same
    have e0 := s1 _ _ hp1
    have ne5 : p5 ≠ p := fun z => by
      rw [z] at e5
      rw [e0] at e5
      cases e5
    refine ⟨_, rfl, p, 6, a1, b1, c1, rfl, e0, ha1, hb1, hb3, hc1, by omega, by decide, by decide, fun r a2 b2 c2 hr0 hr6 _ _ _ _ _ => ?_⟩
    have tn : ∀ {q : Addr} {xs : List V}, H5 q = some (.tup xs) → upd H5 p (.lst [.int a2, .int b2, .int c2]) q = some (.tup xs) := fun {q xs} z => by
      rw [upd_ne (fun w => by rw [w, e0] at z; cases z)]
      exact z
    have kk : ∀ q o, H q = some o → q ≠ p → upd H5 p (.lst [.int a2, .int b2, .int c2]) q = some o := fun q o z ne => by
      rw [upd_ne ne]
      exact s1 _ _ (k1 q o z ne)
    have i5 : SqL K (upd H5 p (.lst [.int a2, .int b2, .int c2])) p5 [.int (10 ^ Int.toNat 11 - n), .str "some", .ref p1, .non, .ref p4, .int (0 - n)] := SqL.of (by rw [upd_ne ne5]; exact e5)
    have fin : ∀ (v : V) (d : PyData), atI [V.int (10 ^ Int.toNat 11 - n), .str "some", .ref p1, .non, .ref p4, .int (0 - n)] r = some v → Dp K (upd H5 p (.lst [.int a2, .int b2, .int c2])) v d → Sml 2 d →
        rIxL K (.ref p5) (.int r) (upd H5 p (.lst [.int a2, .int b2, .int c2])) Q := fun v d z hd hs => ⟨p5, _, r, v, rfl, rfl, i5, z, k v d _ hd hs kk⟩
    have cases6 : r = 0 ∨ r = 1 ∨ r = 2 ∨ r = 3 ∨ r = 4 ∨ r = 5 := by omega
    rcases cases6 with rfl | rfl | rfl | rfl | rfl | rfl
    · exact fin _ _ rfl (.int _) trivial
    · exact fin _ _ rfl (.str _) trivial
    · exact fin _ _ rfl (.tup (.of (tn e1)) (.cons (.int _) (.cons (.str _) .nil))) ⟨by show (2 : Nat) ≤ 100000; decide, by simp [Sml]⟩
    · exact fin _ _ rfl .non trivial
    · exact fin _ _ rfl (.tup (.of (tn e4)) (.cons (.tup (.of (tn e2)) (.cons (.int _) (.cons (.bl _) .nil))) (.cons (.tup (.of (tn e3)) (.cons (.int _) (.cons (.bl _) .nil))) .nil))) ⟨by show (2 : Nat) ≤ 100000; decide, by simp [Sml]⟩
    · exact fin _ _ rfl (.int _) trivial
abbrev s_law_kinds : Stmt := top 18
theorem sc_law_kinds : FnScope ["_law_e", "_law_found", "_law_is_so"] ["_law_e"] (defScope s_law_kinds) := ⟨rfl, rfl, rfl, by decide +kernel, rfl, by decide +kernel, by decide +kernel⟩
theorem exAt_same {H H' : Hp} {a C : Addr} (e : Same H H') (h : ExAt H a C) : ExAt H' a C := by
  obtain ⟨d, h1, h2⟩ := h
  refine ⟨d, e _ _ h1, fun dx z => ?_⟩
  obtain ⟨fs, q⟩ := h2 dx z
  exact ⟨fs, e _ _ q⟩
theorem exAt_upd {H : Hp} {a C l : Addr} {xs : List V} {o : HO} (h : ExAt H a C) (hl : H l = some (.lst xs)) : ExAt (upd H l o) a C := by
  obtain ⟨d, h1, h2⟩ := h
  have n1 : a ≠ l := fun z => by
    rw [z, hl] at h1
    have y := Option.some.inj h1
    unfold exo at y
    cases y
  refine ⟨d, by rw [upd_ne n1]; exact h1, fun dx z => ?_⟩
  obtain ⟨fs, q⟩ := h2 dx z
  have n2 : dx ≠ l := fun z => by
    rw [z, hl] at q
    have y := Option.some.inj q
    unfold exd at y
    cases y
  exact ⟨fs, by rw [upd_ne n2]; exact q⟩
theorem one_kind {x : Str} (h : x ∈ eleven) : ((eleven.map fun y => decide (x = y)).filter id).length = 1 := by
  have key : ∀ z ∈ eleven, ((eleven.map fun y => decide (z = y)).filter id).length = 1 := by decide +kernel
  exact key x h
def spKinds (K : PySem.W.Frag) : Sp := fun vs H Q _ => ∃ (e : Addr) (x : Str), vs = [.ref e] ∧ x ∈ eleven ∧ ExAt H e (CC K x) ∧ ∀ H', Same H H' → Q (.int 1) H'
theorem ok_kinds (F : Fn K "_law_kinds" s_law_kinds f fd) (T : Ty K mg) : FnOk P w K mg base CX0 1 f fd ["_law_e"] (spKinds K) := by
  refine F.ok sc_law_kinds (fun vs H Q E h => ?_) (fun cdv A outer s H vs Q E hr h => ?_)
  · obtain ⟨_, _, rfl, _⟩ := h
    rfl
  · obtain ⟨e, x, rfl, hx, he, k⟩ := h
    have ec := T.ec x hx
    refine ⟨_, PSs.nox (pss_cons (ps_set (i := 1) sc_law_kinds.nd rfl (Or.inl rfl) (pe_lst (pa_cons (pe_callB call_isX (by rfl) T.n_isinstance (by decide +kernel) (pa_cons (pv 0) (pa_cons (pe_glob (v := .ref _) (by rfl) T.c_BadFall rfl) pa_nil))) (pa_cons (pe_callB call_isX (by rfl) T.n_isinstance (by decide +kernel) (pa_cons (pv 0) (pa_cons (pe_glob (v := .ref _) (by rfl) T.c_BadGuard rfl) pa_nil))) (pa_cons (pe_callB call_isX (by rfl) T.n_isinstance (by decide +kernel) (pa_cons (pv 0) (pa_cons (pe_glob (v := .ref _) (by rfl) T.c_BadLimit rfl) pa_nil))) (pa_cons (pe_callB call_isX (by rfl) T.n_isinstance (by decide +kernel) (pa_cons (pv 0) (pa_cons (pe_glob (v := .ref _) (by rfl) T.c_BadName rfl) pa_nil))) pa_nil))))))
      (pss_cons (ps_expr (pe_bm PySem.F.plainAttrs_list PySem.F.slot_list_extend PySem.F.type_list_extend mt_extend (pv 1) (pa_cons (pe_lst (pa_cons (pe_callB call_isX (by rfl) T.n_isinstance (by decide +kernel) (pa_cons (pv 0) (pa_cons (pe_glob (v := .ref _) (by rfl) T.c_BadPlace rfl) pa_nil))) (pa_cons (pe_callB call_isX (by rfl) T.n_isinstance (by decide +kernel) (pa_cons (pv 0) (pa_cons (pe_glob (v := .ref _) (by rfl) T.c_BadValue rfl) pa_nil))) (pa_cons (pe_callB call_isX (by rfl) T.n_isinstance (by decide +kernel) (pa_cons (pv 0) (pa_cons (pe_glob (v := .ref _) (by rfl) T.c_Beyond rfl) pa_nil))) (pa_cons (pe_callB call_isX (by rfl) T.n_isinstance (by decide +kernel) (pa_cons (pv 0) (pa_cons (pe_glob (v := .ref _) (by rfl) T.c_Held rfl) pa_nil))) pa_nil))))) pa_nil)))
      (pss_cons (ps_expr (pe_bm PySem.F.plainAttrs_list PySem.F.slot_list_extend PySem.F.type_list_extend mt_extend (pv 1) (pa_cons (pe_lst (pa_cons (pe_callB call_isX (by rfl) T.n_isinstance (by decide +kernel) (pa_cons (pv 0) (pa_cons (pe_glob (v := .ref _) (by rfl) T.c_NoMoment rfl) pa_nil))) (pa_cons (pe_callB call_isX (by rfl) T.n_isinstance (by decide +kernel) (pa_cons (pv 0) (pa_cons (pe_glob (v := .ref _) (by rfl) T.c_NoPage rfl) pa_nil))) (pa_cons (pe_callB call_isX (by rfl) T.n_isinstance (by decide +kernel) (pa_cons (pv 0) (pa_cons (pe_glob (v := .ref _) (by rfl) T.c_NotTruth rfl) pa_nil))) pa_nil)))) pa_nil)))
      (pss_one (ps_ret (pe_callB call_len (by rfl) T.n_len (by decide +kernel) (pa_cons (pe_lc (own := [("_law_is_so", 2)]) (tt := _) rfl sc_law_kinds.nd (pi_list (pv 1)) (blkOk_by (N := ["_law_e", "_law_found", "_law_is_so"]) (sc := defScope s_law_kinds) (by decide +kernel)) (fun _ _ _ _ _ => (pg_name (i := 2) sc_law_kinds.nd rfl (Or.inl rfl) (hf := .inr rfl))) (fun _ _ _ _ _ => (pts_one (pt_val (pv 2)))) (fun _ _ _ _ _ => (pv 2))) pa_nil))))))), ?_⟩
    have kt : ∀ y, y ∈ eleven → PySem.W.kitOne K (.ref (CC K x)) (.ref (CC K y)) = some (decide (x = y)) := fun y hy => T.kit x hx y hy
    refine ⟨_, rfl, e, _, _, _, _, rfl, he, ec, .own _, kt "BadFall" (by decide +kernel), _, rfl, e, _, _, _, _, rfl, he, ec, .own _, kt "BadGuard" (by decide +kernel), _, rfl, e, _, _, _, _, rfl, he, ec, .own _, kt "BadLimit" (by decide +kernel), _, rfl, e, _, _, _, _, rfl, he, ec, .own _, kt "BadName" (by decide +kernel), by show 4 ≤ sizeLine; decide, fun l hl => ?_⟩
    have s1 := same_upd (o := .lst [.bl (decide (x = "BadFall")), .bl (decide (x = "BadGuard")), .bl (decide (x = "BadLimit")), .bl (decide (x = "BadName"))]) hl
    have l1 : upd H l (.lst [.bl (decide (x = "BadFall")), .bl (decide (x = "BadGuard")), .bl (decide (x = "BadLimit")), .bl (decide (x = "BadName"))]) l = some _ := upd_same
    refine ⟨_, rfl, .inl ⟨rfl, _, SqL.of l1⟩, ?_⟩
    have he1 := exAt_same s1 he
    generalize hH1 : upd H l _ = H1 at *
    refine ⟨_, rfl, e, _, _, _, _, rfl, he1, ec, .own _, kt "BadPlace" (by decide +kernel), _, rfl, e, _, _, _, _, rfl, he1, ec, .own _, kt "BadValue" (by decide +kernel), _, rfl, e, _, _, _, _, rfl, he1, ec, .own _, kt "Beyond" (by decide +kernel), _, rfl, e, _, _, _, _, rfl, he1, ec, .own _, kt "Held" (by decide +kernel), by show 4 ≤ sizeLine; decide, fun l2 hl2 => ?_⟩
    have s2 := same_upd (o := .lst [.bl (decide (x = "BadPlace")), .bl (decide (x = "BadValue")), .bl (decide (x = "Beyond")), .bl (decide (x = "Held"))]) hl2
    refine ⟨l, l2, _, _, rfl, rfl, s2 _ _ l1, upd_same, by show 8 ≤ sizeLine; decide, ?_⟩
    have ne2 : l2 ≠ l := fun z => by rw [z, l1] at hl2; cases hl2
    have he2 := exAt_upd (o := .lst ([.bl (decide (x = "BadFall")), .bl (decide (x = "BadGuard")), .bl (decide (x = "BadLimit")), .bl (decide (x = "BadName"))] ++ [.bl (decide (x = "BadPlace")), .bl (decide (x = "BadValue")), .bl (decide (x = "Beyond")), .bl (decide (x = "Held"))])) (exAt_same s2 he1) (s2 _ _ l1)
    have l3 : upd (upd H1 l2 (.lst [.bl (decide (x = "BadPlace")), .bl (decide (x = "BadValue")), .bl (decide (x = "Beyond")), .bl (decide (x = "Held"))])) l (.lst ([.bl (decide (x = "BadFall")), .bl (decide (x = "BadGuard")), .bl (decide (x = "BadLimit")), .bl (decide (x = "BadName"))] ++ [.bl (decide (x = "BadPlace")), .bl (decide (x = "BadValue")), .bl (decide (x = "Beyond")), .bl (decide (x = "Held"))])) l = some _ := upd_same
    have k2 : ∀ b o, H b = some o → upd (upd H1 l2 (.lst [.bl (decide (x = "BadPlace")), .bl (decide (x = "BadValue")), .bl (decide (x = "Beyond")), .bl (decide (x = "Held"))])) l (.lst ([.bl (decide (x = "BadFall")), .bl (decide (x = "BadGuard")), .bl (decide (x = "BadLimit")), .bl (decide (x = "BadName"))] ++ [.bl (decide (x = "BadPlace")), .bl (decide (x = "BadValue")), .bl (decide (x = "Beyond")), .bl (decide (x = "Held"))])) b = some o := fun b o z => by
      rw [upd_ne (ne_of_none z hl)]
      exact s2 _ _ (s1 _ _ z)
    generalize hH2 : upd (upd H1 l2 _) l _ = H2 at *
    refine ⟨_, rfl, .inl ⟨rfl, _, SqL.of l3⟩, ?_⟩
    refine ⟨_, rfl, e, _, _, _, _, rfl, he2, ec, .own _, kt "NoMoment" (by decide +kernel), _, rfl, e, _, _, _, _, rfl, he2, ec, .own _, kt "NoPage" (by decide +kernel), _, rfl, e, _, _, _, _, rfl, he2, ec, .own _, kt "NotTruth" (by decide +kernel), by show 3 ≤ sizeLine; decide, fun l4 hl4 => ?_⟩
    have s3 := same_upd (o := .lst [.bl (decide (x = "NoMoment")), .bl (decide (x = "NoPage")), .bl (decide (x = "NotTruth"))]) hl4
    refine ⟨l, l4, _, _, rfl, rfl, s3 _ _ l3, upd_same, by show 11 ≤ sizeLine; decide, ?_⟩
    generalize hH3 : upd (upd H2 l4 _) l _ = H3
    have l5 : H3 l = some (.lst ((eleven.map fun y => decide (x = y)).map V.bl)) := by rw [← hH3]; exact upd_same
    have k3 : ∀ b o, H b = some o → H3 b = some o := fun b o z => by
      rw [← hH3, upd_ne (ne_of_none z hl)]
      exact s3 _ _ (k2 _ _ z)
    clear hH3
    have q1 := one_kind hx
    generalize hbs : (eleven.map fun y => decide (x = y)) = bs at *
    refine ⟨_, rfl, l, rfl, ⟨_, SqL.of l5⟩, fun D hD => ?_⟩
    refine lc_list (K := K) (a := l) (xs := bs.map V.bl) (fun i H4 => ∃ acc : List V, H4 D = some (.lst acc) ∧ acc.length = ((bs.take i).filter id).length ∧ Same H3 H4) ⟨[], upd_same, rfl, same_upd hD⟩ (fun i H4 _ ⟨_, _, _, sm⟩ => SqL.of (sm _ _ l5)) (fun i v H4 hv ⟨acc, a1, a2, sm⟩ => ?_) (fun H4 ⟨acc, a1, a2, sm⟩ => ?_)
    · rw [List.getElem?_map] at hv
      cases hb : bs[i]? with
      | none => rw [hb] at hv; cases hv
      | some b =>
        rw [hb] at hv
        cases hv
        have hi := (List.getElem?_eq_some_iff.mp hb).1
        have tk : bs.take (i + 1) = bs.take i ++ [b] := by rw [List.take_succ, hb] <;> rfl
        have al : acc.length ≤ 63 := by
          rw [a2]
          have z1 := List.length_filter_le id (bs.take i)
          have z2 : bs.length = 11 := by rw [← hbs] <;> rfl
          rw [List.length_take] at z1
          omega
        refine ⟨rfl, _, rfl, _, rfl, ?_⟩
        cases b with
        | true =>
          refine iteT ⟨_, rfl, acc, a1, Nat.lt_of_le_of_lt al (by decide), _, upd_same, ?_, fun c o z => ?_⟩
          · rw [tk, List.filter_append, List.length_append, List.length_append, a2] <;> rfl
          · rw [upd_ne (ne_of_none z hD)]
            exact sm c o z
        | false =>
          refine iteF ⟨acc, a1, ?_, sm⟩
          rw [tk, List.filter_append, List.length_append, a2] <;> rfl
    · refine ⟨_, _, rfl, .inl ⟨_, SqL.of a1, rfl⟩, ?_⟩
      have z : acc.length = 1 := by
        rw [a2, List.take_of_length_le (by rw [List.length_map]; exact Nat.le_refl _)]
        exact q1
      rw [z]
      exact k _ fun b o y => sm _ _ (k3 b o y)
end
end K01

namespace K01
open PySem PySem.Spec PyProof.Rows L2 XV XL UU NdefX LamX
section
variable {P : Program} {w : World} {K : PySem.W.Frag} {mg : Str → Option Value} {base : Heap} {f : Addr} {fd : FuncData}
/-- the promise of a reader of the field fld -/
def spGet (K : PySem.W.Frag) (l : Addr) (F : NF) (b : Expr) (fld : Str) : Sp := fun vs H Q _ => ∃ (e C d : Addr) (v : V), vs = [.ref e] ∧ H l = some (LamO l F b) ∧ H F.c = some (CodeO F.c F.qual) ∧ XfC K C ∧ PySem.W.findIn K (.ref C) fld = some none ∧
  H e = some (exo e C (some d)) ∧ H d = some (exd d [(fld, v)]) ∧ Q v H
def spGet0 (K : PySem.W.Frag) (fld : Str) : List (Option V) → Sp := fun _ vs H Q _ => ∃ (e C d : Addr) (v : V), vs = [.ref e] ∧ XfC K C ∧ PySem.W.findIn K (.ref C) fld = some none ∧ H e = some (exo e C (some d)) ∧ H d = some (exd d [(fld, v)]) ∧ Q v H
theorem get_cbl {l : Addr} {F : NF} {fld p : Str} {pos pos2 : Pos} (hcl : F.cl = []) (S : NScope [p] [p] [] F.scope)
    (hb : ∀ (pm ctv : Value) (us : List Value), us.length = 1 → bindArgs (PySem.W.kla_fn "<lambda>" F.qual F.params (.Attribute (.Name p pos) fld pos2) F.scope F.cl pm (.ref F.c) ctv) ⟨us, []⟩ = pure ([p].zip us))
    (hat : ∀ (A : Around) (outer : List Env) (s : Shared) (H : Hp) (E : XK), attributeBase (.Name p pos) fld (ncx CX0 P w K mg base [p] F l A outer s H E).env (eval (.Name p pos) (ncx CX0 P w K mg base [p] F l A outer s H E).env) = eval (.Name p pos) (ncx CX0 P w K mg base [p] F l A outer s H E).env)
    (hd : (p == ("__debug__" : Str)) = false) (hcd : (p == ("__classdict__" : Str)) = false) (hv : Vis F.scope p) :
    Cbl P w K mg base CX0 1 l (spGet K l F (.Attribute (.Name p pos) fld pos2) fld) := by
  have L : LOk P w K mg base CX0 1 l F (.Attribute (.Name p pos) fld pos2) [p] [] (spGet0 K fld) := by
    refine lok_of S hb (fun ws vs H Q E h => ?_) fun A outer s H vs ws Q E hr h1 h2 h3 h => ?_
    · obtain ⟨_, _, _, _, rfl, _⟩ := h
      rfl
    · obtain ⟨e, C, d, v, rfl, x1, x2, x3, x4, q⟩ := h
      refine ⟨_, pe_xfv (pe_var (i := 0) rfl hv hd hcd) (hat A outer s H E), ?_⟩
      exact ⟨_, rfl, e, C, d, _, v, rfl, x1, x2, x3, x4, by simp [List.lookup], q⟩
  refine fun A outer s H us vs Q E hr e0 r h => cbl_of (fun _ _ _ _ _ z => z) L A outer s H us vs Q E hr e0 r ?_
  obtain ⟨e, C, d, v, ev, l1, l2, x1, x2, x3, x4, q⟩ := h
  refine ⟨[], ⟨l1, l2, (fun y c z => by rw [hcl] at z; cases z), (fun x y c z _ => by rw [hcl] at z; cases z), rfl, (fun i y z => by simp at z)⟩, ?_⟩
  rw [csOf_nil hcl, off_nil]
  exact ⟨e, C, d, v, ev, x1, x2, x3, x4, by show Q v (on [] H H); rw [on_nil]; exact q⟩
/-- a tuple of «pairs»: two errors of the class at C with the field fld, a reader -/
def PairOk (P : Program) (w : World) (K : PySem.W.Frag) (mg : Str → Option Value) (base : Heap) (H : Hp) (C : Addr) (fld : Str) (v : V) (t : Addr) : Prop :=
  ∃ (e1 e2 l d1 d2 : Addr) (F : NF) (b : Expr), H t = some (.tup [.ref e1, .ref e2, .ref l]) ∧ H e1 = some (exo e1 C (some d1)) ∧ H d1 = some (exd d1 [(fld, v)]) ∧ H e2 = some (exo e2 C (some d2)) ∧ H d2 = some (exd d2 [(fld, v)]) ∧
    H l = some (LamO l F b) ∧ H F.c = some (CodeO F.c F.qual) ∧ Cbl P w K mg base CX0 1 l (spGet K l F b fld)
theorem exo_nt {e C : Addr} {d : Option Addr} (ps : Array Value) : exo e C d ≠ .tbl ps := fun z => exo_tbl z
theorem exd_nt {e : Addr} {fs : List (Str × V)} (ps : Array Value) : exd e fs ≠ .tbl ps := fun z => by
  have z' : HO.ext _ = HO.tbl ps := z
  cases z'
theorem lam_nt {l : Addr} {F : NF} {b : Expr} (ps : Array Value) : LamO l F b ≠ .tbl ps := fun z => by
  unfold LamO at z
  cases z
theorem PairOk.ext {H H' : Hp} {C : Addr} {fld : Str} {v : V} {t : Addr} (e : ExtN H H') (h : PairOk P w K mg base H C fld v t) : PairOk P w K mg base H' C fld v t := by
  obtain ⟨e1, e2, l, d1, d2, F, b, h1, h2, h3, h4, h5, h6, h7, h8⟩ := h
  exact ⟨e1, e2, l, d1, d2, F, b, e _ _ h1 (fun _ z => by cases z), e _ _ h2 exo_nt, e _ _ h3 exd_nt, e _ _ h4 exo_nt, e _ _ h5 exd_nt, e _ _ h6 lam_nt, e _ _ h7 codeO_ne, h8⟩
theorem tabsN_same {T : List NTab} {H H' : Hp} (h : TabsN T H) (e : Same H H') : TabsN T H' := h.ext e
/-- a new error made -/
theorem mk_read {C : Addr} {fld : Str} {H : Hp} {v : V} {Q : Hp → Prop} {a : Addr} (ha : H a = none) (h : ∀ d H', H' a = some (exo a C (some d)) → H' d = some (exd d [(fld, v)]) → Same H H' → Q H') :
    spInit C fld [.ref a, v] (upd H a (exo a C none)) (fun u H3 => u = .non ∧ Q H3) E0 := by
  refine ⟨a, v, rfl, upd_same, fun d hd hne => ⟨rfl, h d _ upd_same (by rw [upd_ne hne]; exact upd_same) fun b o z => ?_⟩⟩
  have n1 := ne_of_none z ha
  rw [upd_ne n1]
  have n2 : b ≠ d := fun y => by
    rw [y] at z
    rw [upd_ne hne, z] at hd
    cases hd
  rw [upd_ne n2, upd_ne n1]
  exact z
theorem pair_read {C : Addr} {fld : Str} {T : List NTab} {mk : Addr → NF} {b : Expr} {σ : L2.St} {H : Hp} {v : V} (hσ : σ[0]? = some (some v)) (hT : TabsN T H) (hmk : ∀ c', (mk c').c = c') (hC : ∀ f c', Cbl P w K mg base CX0 1 f (spGet K f (mk c') b fld)) {gV : List V → List V → List V} (hg : gV = fun a b => a ++ b) :
    tTup (tCons (tMkV C 1 0 (spInit C fld) gV E0 (tCons (tVar 0) tNil) tNil) (tCons (tMkV C 0 1 (spInit C fld) gV E0 tNil (tCons (tVar 0) tNil)) (tCons (tLamV T mk b) tNil))) σ H
      (fun u H' => ∃ t, u = .ref t ∧ PairOk P w K mg base H' C fld v t ∧ ExtN H H' ∧ TabsN T H' ∧ ∀ b, H' b = none → H b = none) := by
  subst hg
  refine ⟨v, hσ, rfl, rfl, fun e1 he1 => mk_read he1 fun d1 H1 a1 a2 s1 => ?_⟩
  refine ⟨v, hσ, rfl, rfl, fun e2 he2 => mk_read he2 fun d2 H2 b1 b2 s2 => ?_⟩
  refine ⟨tabsN_same hT (same_trans s1 s2), fun l c' H3 x1 x2 x3 x4 x5 x6 => ?_⟩
  refine ⟨by show 3 ≤ sizeLine; decide, fun t ht => ⟨t, rfl, ⟨e1, e2, l, d1, d2, mk c', b, upd_same, ?_, ?_, ?_, ?_, ?_, ?_, hC l c'⟩, ?_, ?_, fun y hy => Same.free s1 (Same.free s2 (x2 y (upd_none hy)))⟩⟩
  · rw [upd_ne (ne_of_none (x1 _ _ (s2 _ _ a1) exo_nt) ht)]
    exact x1 _ _ (s2 _ _ a1) exo_nt
  · rw [upd_ne (ne_of_none (x1 _ _ (s2 _ _ a2) exd_nt) ht)]
    exact x1 _ _ (s2 _ _ a2) exd_nt
  · rw [upd_ne (ne_of_none (x1 _ _ b1 exo_nt) ht)]
    exact x1 _ _ b1 exo_nt
  · rw [upd_ne (ne_of_none (x1 _ _ b2 exd_nt) ht)]
    exact x1 _ _ b2 exd_nt
  · rw [upd_ne (ne_of_none x5 ht)]
    exact x5
  · have x7 : H3 (mk c').c = some (CodeO (mk c').c (mk c').qual) := by rw [hmk]; exact x6
    rw [upd_ne (ne_of_none x7 ht)]
    exact x7
  · exact ((extN_same s1).trans (extN_same s2)).trans (x1.trans (extN_same (same_upd ht)))
  · exact tabsN_same x3 (same_upd ht)
structure PSt (P : Program) (w : World) (K : PySem.W.Frag) (mg : Str → Option Value) (base : Heap) (T : List NTab) (v : V) (H0 H : Hp) (l : Addr) (ts : List Addr) : Prop where
  ls : H l = some (.lst (ts.map V.ref))
  ok : ∀ (i : Nat) (x : Str × Str) (t : Addr), nine[i]? = some x → ts[i]? = some t → PairOk P w K mg base H (CC K x.1) x.2 v t
  ex : ExtN H0 H
  tb : TabsN T H
  new : H0 l = none
theorem PairOk.upd {H : Hp} {C : Addr} {fld : Str} {v : V} {t l : Addr} {xs : List V} {o : HO} (hl : H l = some (.lst xs)) (h : PairOk P w K mg base H C fld v t) : PairOk P w K mg base (upd H l o) C fld v t := by
  obtain ⟨e1, e2, q, d1, d2, F, b, h1, h2, h3, h4, h5, h6, h7, h8⟩ := h
  have ne : ∀ {a : Addr} {u : HO}, H a = some u → (∀ ys, u ≠ .lst ys) → L2.upd H l o a = some u := fun {a u} z n => by
    rw [upd_ne (fun y => by rw [y, hl] at z; exact n xs (Option.some.inj z).symm)]
    exact z
  have n1 : ∀ {e C : Addr} {d : Option Addr} (ys : List V), exo e C d ≠ .lst ys := fun ys z => by
    unfold exo at z
    cases z
  have n2 : ∀ {e : Addr} {fs : List (Str × V)} (ys : List V), exd e fs ≠ .lst ys := fun ys z => by
    unfold exd at z
    cases z
  have n3 : ∀ {e : Addr} {F : NF} {b : Expr} (ys : List V), LamO e F b ≠ .lst ys := fun ys z => by
    unfold LamO at z
    cases z
  have n4 : ∀ {e : Addr} {q : Str} (ys : List V), CodeO e q ≠ .lst ys := fun ys z => by
    unfold CodeO at z
    cases z
  exact ⟨e1, e2, q, d1, d2, F, b, ne h1 (fun _ z => by cases z), ne h2 n1, ne h3 n2, ne h4 n1, ne h5 n2, ne h6 n3, ne h7 n4, h8⟩
theorem tabsN_upd {T : List NTab} {H : Hp} {l : Addr} {xs ys : List V} (hl : H l = some (.lst xs)) (h : TabsN T H) : TabsN T (upd H l (.lst ys)) := fun p hp => by
  obtain ⟨ps, h1, h2, h3⟩ := h p hp
  have ne : ∀ {a : Addr} {u : HO}, H a = some u → (∀ ys, u ≠ .lst ys) → upd H l (.lst ys) a = some u := fun {a u} z n => by
    rw [upd_ne (fun y => by rw [y, hl] at z; exact n xs (Option.some.inj z).symm)]
    exact z
  refine ⟨ps, ne h1 (fun _ z => by cases z), h2, fun pos cv hc => ?_⟩
  obtain ⟨c, e1, e2⟩ := h3 pos cv hc
  exact ⟨c, e1, ne e2 fun ys z => by
    unfold CodeO at z
    cases z⟩
theorem PSt.more {T : List NTab} {v : V} {H0 H H' : Hp} {l : Addr} {ts : List Addr} (S : PSt P w K mg base T v H0 H l ts) (e : ExtN H H') (t : TabsN T H') : PSt P w K mg base T v H0 H' l ts :=
  ⟨e _ _ S.ls (fun _ z => by cases z), fun i x t' a b => (S.ok i x t' a b).ext e, S.ex.trans e, t, S.new⟩
theorem PSt.app {T : List NTab} {v : V} {H0 H : Hp} {l : Addr} {ts : List Addr} {zs : List Addr} (S : PSt P w K mg base T v H0 H l ts) (h : ∀ (j : Nat) (x : Str × Str) (t : Addr), nine[ts.length + j]? = some x → zs[j]? = some t → PairOk P w K mg base H (CC K x.1) x.2 v t) :
    PSt P w K mg base T v H0 (upd H l (.lst (ts.map V.ref ++ zs.map V.ref))) l (ts ++ zs) := by
  refine ⟨by rw [upd_same, List.map_append], fun i x t a b => PairOk.upd S.ls ?_, fun b o z n => ?_, tabsN_upd S.ls S.tb, S.new⟩
  · by_cases hi : i < ts.length
    · rw [List.getElem?_append_left hi] at b
      exact S.ok i x t a b
    · rw [List.getElem?_append_right (by omega)] at b
      exact h (i - ts.length) x t (by rw [show ts.length + (i - ts.length) = i by omega]; exact a) b
  · rw [upd_ne (ne_of_none z S.new)]
    exact S.ex b o z n
abbrev s_law_pairs : Stmt := top 19
theorem sc_law_pairs : FnScope ["_law_a", "_law_found"] ["_law_a"] (defScope s_law_pairs) := ⟨rfl, rfl, rfl, by decide +kernel, rfl, by decide +kernel, by decide +kernel⟩
abbrev TT (P0 : Addr) : List NTab := [(P0, fun _ _ => "_law_pairs.<locals>.<lambda>")]
def spPairs (P : Program) (w : World) (K : PySem.W.Frag) (mg : Str → Option Value) (base : Heap) (P0 : Addr) : Sp := fun vs H Q _ => ∃ v : V, vs = [v] ∧ TabsN (TT P0) H ∧
  ∀ (p : Addr) (ts : List Addr) (H' : Hp), H' p = some (.lst (ts.map V.ref)) → ts.length = 9 → (∀ (i : Nat) (x : Str × Str) (t : Addr), nine[i]? = some x → ts[i]? = some t → PairOk P w K mg base H' (CC K x.1) x.2 v t) → ExtN H H' → TabsN (TT P0) H' → Q (.ref p) H'
theorem ok_pairs {c0 P0 : Addr} {fd_BadName fd_BadValue fd_BadLimit fd_NoPage fd_NoMoment fd_BadFall fd_BadGuard fd_BadPlace fd_NotTruth : FuncData} (F : Fn K "_law_pairs" s_law_pairs f fd) (hc0 : fd.code = .ref c0) (T : Ty K mg) (TB : TabB base mg c0 P0)
    (U_BadName : FnOk P w K mg base CX0 1 (FI K "BadName") fd_BadName ["self", "name"] (spInit (CC K "BadName") "name")) (B_BadName : KBn K fd_BadName ["self", "name"] 2 [] (fun a b => a ++ b) (fun a b => a ++ b)) (BK_BadName : KBn K fd_BadName ["self", "name"] 1 ["name"] (fun a b => a ++ b) (fun a b => a ++ b))
    (U_BadValue : FnOk P w K mg base CX0 1 (FI K "BadValue") fd_BadValue ["self", "value"] (spInit (CC K "BadValue") "value")) (B_BadValue : KBn K fd_BadValue ["self", "value"] 2 [] (fun a b => a ++ b) (fun a b => a ++ b)) (BK_BadValue : KBn K fd_BadValue ["self", "value"] 1 ["value"] (fun a b => a ++ b) (fun a b => a ++ b))
    (U_BadLimit : FnOk P w K mg base CX0 1 (FI K "BadLimit") fd_BadLimit ["self", "limit"] (spInit (CC K "BadLimit") "limit")) (B_BadLimit : KBn K fd_BadLimit ["self", "limit"] 2 [] (fun a b => a ++ b) (fun a b => a ++ b)) (BK_BadLimit : KBn K fd_BadLimit ["self", "limit"] 1 ["limit"] (fun a b => a ++ b) (fun a b => a ++ b))
    (U_NoPage : FnOk P w K mg base CX0 1 (FI K "NoPage") fd_NoPage ["self", "name"] (spInit (CC K "NoPage") "name")) (B_NoPage : KBn K fd_NoPage ["self", "name"] 2 [] (fun a b => a ++ b) (fun a b => a ++ b)) (BK_NoPage : KBn K fd_NoPage ["self", "name"] 1 ["name"] (fun a b => a ++ b) (fun a b => a ++ b))
    (U_NoMoment : FnOk P w K mg base CX0 1 (FI K "NoMoment") fd_NoMoment ["self", "moment"] (spInit (CC K "NoMoment") "moment")) (B_NoMoment : KBn K fd_NoMoment ["self", "moment"] 2 [] (fun a b => a ++ b) (fun a b => a ++ b)) (BK_NoMoment : KBn K fd_NoMoment ["self", "moment"] 1 ["moment"] (fun a b => a ++ b) (fun a b => a ++ b))
    (U_BadFall : FnOk P w K mg base CX0 1 (FI K "BadFall") fd_BadFall ["self", "fall"] (spInit (CC K "BadFall") "fall")) (B_BadFall : KBn K fd_BadFall ["self", "fall"] 2 [] (fun a b => a ++ b) (fun a b => a ++ b)) (BK_BadFall : KBn K fd_BadFall ["self", "fall"] 1 ["fall"] (fun a b => a ++ b) (fun a b => a ++ b))
    (U_BadGuard : FnOk P w K mg base CX0 1 (FI K "BadGuard") fd_BadGuard ["self", "step"] (spInit (CC K "BadGuard") "step")) (B_BadGuard : KBn K fd_BadGuard ["self", "step"] 2 [] (fun a b => a ++ b) (fun a b => a ++ b)) (BK_BadGuard : KBn K fd_BadGuard ["self", "step"] 1 ["step"] (fun a b => a ++ b) (fun a b => a ++ b))
    (U_BadPlace : FnOk P w K mg base CX0 1 (FI K "BadPlace") fd_BadPlace ["self", "place"] (spInit (CC K "BadPlace") "place")) (B_BadPlace : KBn K fd_BadPlace ["self", "place"] 2 [] (fun a b => a ++ b) (fun a b => a ++ b)) (BK_BadPlace : KBn K fd_BadPlace ["self", "place"] 1 ["place"] (fun a b => a ++ b) (fun a b => a ++ b))
    (U_NotTruth : FnOk P w K mg base CX0 1 (FI K "NotTruth") fd_NotTruth ["self", "value"] (spInit (CC K "NotTruth") "value")) (B_NotTruth : KBn K fd_NotTruth ["self", "value"] 2 [] (fun a b => a ++ b) (fun a b => a ++ b)) (BK_NotTruth : KBn K fd_NotTruth ["self", "value"] 1 ["value"] (fun a b => a ++ b) (fun a b => a ++ b)) : FnOk P w K mg base CX0 3 f fd ["_law_a"] (spPairs P w K mg base P0) := by
  refine okC F hc0 sc_law_pairs (fun vs H Q E h => ?_) (fun A outer s H vs Q E hr h => ?_)
  · obtain ⟨_, rfl, _⟩ := h
    rfl
  · obtain ⟨v, rfl, hT, k⟩ := h
    refine ⟨_, PSs.nox (pss_cons (ps_set (i := 1) sc_law_pairs.nd rfl (Or.inl rfl) (pe_lst (pa_cons (pe_cut (pe_tup (pa_cons (pe_mkv T.k_BadName T.i_BadName T.t_BadName U_BadName hr (by rfl) T.c_BadName B_BadName pass0 (pa_cons (pv 0) pa_nil)) (pa_cons (pe_mkvK T.k_BadName T.i_BadName T.t_BadName U_BadName hr (by rfl) T.c_BadName BK_BadName pass0 (pk_cons (pv 0) pk_nil)) (pa_cons (pe_lam (T := TT P0) (nm := fun _ _ => "_law_pairs.<locals>.<lambda>") TB rfl (List.mem_singleton.mpr rfl) rfl (fun p hp _ => by rw [List.mem_singleton.mp hp]) (fun y hy e => by cases List.mem_singleton.mp hy; cases e)) pa_nil))))) (pa_cons (pe_cut (pe_tup (pa_cons (pe_mkv T.k_BadValue T.i_BadValue T.t_BadValue U_BadValue hr (by rfl) T.c_BadValue B_BadValue pass0 (pa_cons (pv 0) pa_nil)) (pa_cons (pe_mkvK T.k_BadValue T.i_BadValue T.t_BadValue U_BadValue hr (by rfl) T.c_BadValue BK_BadValue pass0 (pk_cons (pv 0) pk_nil)) (pa_cons (pe_lam (T := TT P0) (nm := fun _ _ => "_law_pairs.<locals>.<lambda>") TB rfl (List.mem_singleton.mpr rfl) rfl (fun p hp _ => by rw [List.mem_singleton.mp hp]) (fun y hy e => by cases List.mem_singleton.mp hy; cases e)) pa_nil))))) pa_nil))))
      (pss_cons (ps_expr (pe_bm PySem.F.plainAttrs_list PySem.F.slot_list_extend PySem.F.type_list_extend mt_extend (pv 1) (pa_cons (pe_lst (pa_cons (pe_cut (pe_tup (pa_cons (pe_mkv T.k_BadLimit T.i_BadLimit T.t_BadLimit U_BadLimit hr (by rfl) T.c_BadLimit B_BadLimit pass0 (pa_cons (pv 0) pa_nil)) (pa_cons (pe_mkvK T.k_BadLimit T.i_BadLimit T.t_BadLimit U_BadLimit hr (by rfl) T.c_BadLimit BK_BadLimit pass0 (pk_cons (pv 0) pk_nil)) (pa_cons (pe_lam (T := TT P0) (nm := fun _ _ => "_law_pairs.<locals>.<lambda>") TB rfl (List.mem_singleton.mpr rfl) rfl (fun p hp _ => by rw [List.mem_singleton.mp hp]) (fun y hy e => by cases List.mem_singleton.mp hy; cases e)) pa_nil))))) (pa_cons (pe_cut (pe_tup (pa_cons (pe_mkv T.k_NoPage T.i_NoPage T.t_NoPage U_NoPage hr (by rfl) T.c_NoPage B_NoPage pass0 (pa_cons (pv 0) pa_nil)) (pa_cons (pe_mkvK T.k_NoPage T.i_NoPage T.t_NoPage U_NoPage hr (by rfl) T.c_NoPage BK_NoPage pass0 (pk_cons (pv 0) pk_nil)) (pa_cons (pe_lam (T := TT P0) (nm := fun _ _ => "_law_pairs.<locals>.<lambda>") TB rfl (List.mem_singleton.mpr rfl) rfl (fun p hp _ => by rw [List.mem_singleton.mp hp]) (fun y hy e => by cases List.mem_singleton.mp hy; cases e)) pa_nil))))) pa_nil))) pa_nil)))
      (pss_cons (ps_expr (pe_bm PySem.F.plainAttrs_list PySem.F.slot_list_append PySem.F.type_list_append mt_append (pv 1) (pa_cons (pe_cut (pe_tup (pa_cons (pe_mkv T.k_NoMoment T.i_NoMoment T.t_NoMoment U_NoMoment hr (by rfl) T.c_NoMoment B_NoMoment pass0 (pa_cons (pv 0) pa_nil)) (pa_cons (pe_mkvK T.k_NoMoment T.i_NoMoment T.t_NoMoment U_NoMoment hr (by rfl) T.c_NoMoment BK_NoMoment pass0 (pk_cons (pv 0) pk_nil)) (pa_cons (pe_lam (T := TT P0) (nm := fun _ _ => "_law_pairs.<locals>.<lambda>") TB rfl (List.mem_singleton.mpr rfl) rfl (fun p hp _ => by rw [List.mem_singleton.mp hp]) (fun y hy e => by cases List.mem_singleton.mp hy; cases e)) pa_nil))))) pa_nil)))
      (pss_cons (ps_expr (pe_bm PySem.F.plainAttrs_list PySem.F.slot_list_extend PySem.F.type_list_extend mt_extend (pv 1) (pa_cons (pe_lst (pa_cons (pe_cut (pe_tup (pa_cons (pe_mkv T.k_BadFall T.i_BadFall T.t_BadFall U_BadFall hr (by rfl) T.c_BadFall B_BadFall pass0 (pa_cons (pv 0) pa_nil)) (pa_cons (pe_mkvK T.k_BadFall T.i_BadFall T.t_BadFall U_BadFall hr (by rfl) T.c_BadFall BK_BadFall pass0 (pk_cons (pv 0) pk_nil)) (pa_cons (pe_lam (T := TT P0) (nm := fun _ _ => "_law_pairs.<locals>.<lambda>") TB rfl (List.mem_singleton.mpr rfl) rfl (fun p hp _ => by rw [List.mem_singleton.mp hp]) (fun y hy e => by cases List.mem_singleton.mp hy; cases e)) pa_nil))))) (pa_cons (pe_cut (pe_tup (pa_cons (pe_mkv T.k_BadGuard T.i_BadGuard T.t_BadGuard U_BadGuard hr (by rfl) T.c_BadGuard B_BadGuard pass0 (pa_cons (pv 0) pa_nil)) (pa_cons (pe_mkvK T.k_BadGuard T.i_BadGuard T.t_BadGuard U_BadGuard hr (by rfl) T.c_BadGuard BK_BadGuard pass0 (pk_cons (pv 0) pk_nil)) (pa_cons (pe_lam (T := TT P0) (nm := fun _ _ => "_law_pairs.<locals>.<lambda>") TB rfl (List.mem_singleton.mpr rfl) rfl (fun p hp _ => by rw [List.mem_singleton.mp hp]) (fun y hy e => by cases List.mem_singleton.mp hy; cases e)) pa_nil))))) pa_nil))) pa_nil)))
      (pss_cons (ps_expr (pe_bm PySem.F.plainAttrs_list PySem.F.slot_list_append PySem.F.type_list_append mt_append (pv 1) (pa_cons (pe_cut (pe_tup (pa_cons (pe_mkv T.k_BadPlace T.i_BadPlace T.t_BadPlace U_BadPlace hr (by rfl) T.c_BadPlace B_BadPlace pass0 (pa_cons (pv 0) pa_nil)) (pa_cons (pe_mkvK T.k_BadPlace T.i_BadPlace T.t_BadPlace U_BadPlace hr (by rfl) T.c_BadPlace BK_BadPlace pass0 (pk_cons (pv 0) pk_nil)) (pa_cons (pe_lam (T := TT P0) (nm := fun _ _ => "_law_pairs.<locals>.<lambda>") TB rfl (List.mem_singleton.mpr rfl) rfl (fun p hp _ => by rw [List.mem_singleton.mp hp]) (fun y hy e => by cases List.mem_singleton.mp hy; cases e)) pa_nil))))) pa_nil)))
      (pss_cons (ps_expr (pe_bm PySem.F.plainAttrs_list PySem.F.slot_list_append PySem.F.type_list_append mt_append (pv 1) (pa_cons (pe_cut (pe_tup (pa_cons (pe_mkv T.k_NotTruth T.i_NotTruth T.t_NotTruth U_NotTruth hr (by rfl) T.c_NotTruth B_NotTruth pass0 (pa_cons (pv 0) pa_nil)) (pa_cons (pe_mkvK T.k_NotTruth T.i_NotTruth T.t_NotTruth U_NotTruth hr (by rfl) T.c_NotTruth BK_NotTruth pass0 (pk_cons (pv 0) pk_nil)) (pa_cons (pe_lam (T := TT P0) (nm := fun _ _ => "_law_pairs.<locals>.<lambda>") TB rfl (List.mem_singleton.mpr rfl) rfl (fun p hp _ => by rw [List.mem_singleton.mp hp]) (fun y hy e => by cases List.mem_singleton.mp hy; cases e)) pa_nil))))) pa_nil)))
      (pss_one (ps_ret (pv 1))))))))), ?_⟩
    refine ⟨_, pair_read (P := P) (w := w) (K := K) (mg := mg) (base := base) rfl hT (fun _ => rfl) (fun f c' => (get_cbl rfl (nscope_by (by kernel_rfl)) (fun _ _ us hl => match us, hl with | [_], _ => rfl) (fun _ _ _ _ _ => rfl) rfl rfl (Or.inl rfl))) rfl, ?_⟩
    rintro _ H1 ⟨t1, rfl, p1, x1, T1, n1⟩
    refine ⟨_, pair_read (P := P) (w := w) (K := K) (mg := mg) (base := base) rfl T1 (fun _ => rfl) (fun f c' => (get_cbl rfl (nscope_by (by kernel_rfl)) (fun _ _ us hl => match us, hl with | [_], _ => rfl) (fun _ _ _ _ _ => rfl) rfl rfl (Or.inl rfl))) rfl, ?_⟩
    rintro _ H2 ⟨t2, rfl, p2, x2, T2, n2⟩
    refine ⟨by show 2 ≤ sizeLine; decide, fun l hl => ?_⟩
    have S2 : PSt P w K mg base (TT P0) v H (upd H2 l (.lst ([t1, t2].map V.ref))) l [t1, t2] := by
      have e2 := same_upd (o := .lst ([t1, t2].map V.ref)) hl
      refine ⟨upd_same, fun i x t a b => ?_, (x1.trans x2).trans (extN_same e2), tabsN_same T2 e2, ?_⟩
      · match i, a, b with
        | 0, a, b => cases a; cases b; exact (p1.ext x2).ext (extN_same e2)
        | 1, a, b => cases a; cases b; exact p2.ext (extN_same e2)
      · exact n1 _ (n2 _ hl)
    generalize hJ2 : upd H2 l _ = J2
    have S3 : PSt P w K mg base (TT P0) v H J2 l [t1, t2] := by
      rw [← hJ2]
      exact S2
    clear hJ2 S2
    refine ⟨_, rfl, .inl ⟨rfl, _, SqL.of S3.ls⟩, _, pair_read (P := P) (w := w) (K := K) (mg := mg) (base := base) rfl S3.tb (fun _ => rfl) (fun f c' => (get_cbl rfl (nscope_by (by kernel_rfl)) (fun _ _ us hl => match us, hl with | [_], _ => rfl) (fun _ _ _ _ _ => rfl) rfl rfl (Or.inl rfl))) rfl, ?_⟩
    rintro _ H3 ⟨t3, rfl, p3, x3, T3, n3⟩
    refine ⟨_, pair_read (P := P) (w := w) (K := K) (mg := mg) (base := base) rfl T3 (fun _ => rfl) (fun f c' => (get_cbl rfl (nscope_by (by kernel_rfl)) (fun _ _ us hl => match us, hl with | [_], _ => rfl) (fun _ _ _ _ _ => rfl) rfl rfl (Or.inl rfl))) rfl, ?_⟩
    rintro _ H4 ⟨t4, rfl, p4, x4, T4, n4⟩
    refine ⟨by show 2 ≤ sizeLine; decide, fun q4 hq4 => ?_⟩
    have e4 := same_upd (o := .lst ([t3, t4].map V.ref)) hq4
    have R4 := (S3.more (x3.trans x4) T4).more (extN_same e4) (tabsN_same T4 e4)
    refine ⟨l, q4, _, _, rfl, rfl, R4.ls, upd_same, by show 4 ≤ sizeLine; decide, ?_⟩
    generalize hJ4 : upd (upd H4 q4 _) l _ = J4
    have S4 : PSt P w K mg base (TT P0) v H J4 l ([t1, t2] ++ [t3, t4]) := by
      rw [← hJ4]
      exact R4.app (zs := [t3, t4]) (fun j x t c d => match j, c, d with
        | 0, c, d => by cases c; cases d; exact (p3.ext x4).ext (extN_same e4)
        | 1, c, d => by cases c; cases d; exact p4.ext (extN_same e4))
    clear hJ4
    refine ⟨_, rfl, .inl ⟨rfl, _, SqL.of S4.ls⟩, _, pair_read (P := P) (w := w) (K := K) (mg := mg) (base := base) rfl S4.tb (fun _ => rfl) (fun f c' => (get_cbl rfl (nscope_by (by kernel_rfl)) (fun _ _ us hl => match us, hl with | [_], _ => rfl) (fun _ _ _ _ _ => rfl) rfl rfl (Or.inl rfl))) rfl, ?_⟩
    rintro _ H5 ⟨t5, rfl, p5, x5, T5, n5⟩
    have R5 := S4.more x5 T5
    refine ⟨l, _, _, rfl, rfl, R5.ls, by show 4 < sizeLine; decide, ?_⟩
    generalize hJ5 : upd H5 l _ = J5
    have S5 : PSt P w K mg base (TT P0) v H J5 l (([t1, t2] ++ [t3, t4]) ++ [t5]) := by
      rw [← hJ5]
      exact R5.app (zs := [t5]) (fun j x t c d => match j, c, d with
        | 0, c, d => by cases c; cases d; exact p5)
    clear hJ5
    refine ⟨_, rfl, .inl ⟨rfl, _, SqL.of S5.ls⟩, _, pair_read (P := P) (w := w) (K := K) (mg := mg) (base := base) rfl S5.tb (fun _ => rfl) (fun f c' => (get_cbl rfl (nscope_by (by kernel_rfl)) (fun _ _ us hl => match us, hl with | [_], _ => rfl) (fun _ _ _ _ _ => rfl) rfl rfl (Or.inl rfl))) rfl, ?_⟩
    rintro _ H6 ⟨t6, rfl, p6, x6, T6, n6⟩
    refine ⟨_, pair_read (P := P) (w := w) (K := K) (mg := mg) (base := base) rfl T6 (fun _ => rfl) (fun f c' => (get_cbl rfl (nscope_by (by kernel_rfl)) (fun _ _ us hl => match us, hl with | [_], _ => rfl) (fun _ _ _ _ _ => rfl) rfl rfl (Or.inl rfl))) rfl, ?_⟩
    rintro _ H7 ⟨t7, rfl, p7, x7, T7, n7⟩
    refine ⟨by show 2 ≤ sizeLine; decide, fun q7 hq7 => ?_⟩
    have e7 := same_upd (o := .lst ([t6, t7].map V.ref)) hq7
    have R7 := (S5.more (x6.trans x7) T7).more (extN_same e7) (tabsN_same T7 e7)
    refine ⟨l, q7, _, _, rfl, rfl, R7.ls, upd_same, by show 7 ≤ sizeLine; decide, ?_⟩
    generalize hJ7 : upd (upd H7 q7 _) l _ = J7
    have S7 : PSt P w K mg base (TT P0) v H J7 l ((([t1, t2] ++ [t3, t4]) ++ [t5]) ++ [t6, t7]) := by
      rw [← hJ7]
      exact R7.app (zs := [t6, t7]) (fun j x t c d => match j, c, d with
        | 0, c, d => by cases c; cases d; exact (p6.ext x7).ext (extN_same e7)
        | 1, c, d => by cases c; cases d; exact p7.ext (extN_same e7))
    clear hJ7
    refine ⟨_, rfl, .inl ⟨rfl, _, SqL.of S7.ls⟩, _, pair_read (P := P) (w := w) (K := K) (mg := mg) (base := base) rfl S7.tb (fun _ => rfl) (fun f c' => (get_cbl rfl (nscope_by (by kernel_rfl)) (fun _ _ us hl => match us, hl with | [_], _ => rfl) (fun _ _ _ _ _ => rfl) rfl rfl (Or.inl rfl))) rfl, ?_⟩
    rintro _ H8 ⟨t8, rfl, p8, x8, T8, n8⟩
    have R8 := S7.more x8 T8
    refine ⟨l, _, _, rfl, rfl, R8.ls, by show 7 < sizeLine; decide, ?_⟩
    generalize hJ8 : upd H8 l _ = J8
    have S8 : PSt P w K mg base (TT P0) v H J8 l (((([t1, t2] ++ [t3, t4]) ++ [t5]) ++ [t6, t7]) ++ [t8]) := by
      rw [← hJ8]
      exact R8.app (zs := [t8]) (fun j x t c d => match j, c, d with
        | 0, c, d => by cases c; cases d; exact p8)
    clear hJ8
    refine ⟨_, rfl, .inl ⟨rfl, _, SqL.of S8.ls⟩, _, pair_read (P := P) (w := w) (K := K) (mg := mg) (base := base) rfl S8.tb (fun _ => rfl) (fun f c' => (get_cbl rfl (nscope_by (by kernel_rfl)) (fun _ _ us hl => match us, hl with | [_], _ => rfl) (fun _ _ _ _ _ => rfl) rfl rfl (Or.inl rfl))) rfl, ?_⟩
    rintro _ H9 ⟨t9, rfl, p9, x9, T9, n9⟩
    have R9 := S8.more x9 T9
    refine ⟨l, _, _, rfl, rfl, R9.ls, by show 8 < sizeLine; decide, ?_⟩
    generalize hJ9 : upd H9 l _ = J9
    have S9 : PSt P w K mg base (TT P0) v H J9 l ((((([t1, t2] ++ [t3, t4]) ++ [t5]) ++ [t6, t7]) ++ [t8]) ++ [t9]) := by
      rw [← hJ9]
      exact R9.app (zs := [t9]) (fun j x t c d => match j, c, d with
        | 0, c, d => by cases c; cases d; exact p9)
    clear hJ9
    exact ⟨_, rfl, k l ((((([t1, t2] ++ [t3, t4]) ++ [t5]) ++ [t6, t7]) ++ [t8]) ++ [t9]) J9 S9.ls rfl S9.ok S9.ex S9.tb⟩
end
end K01

namespace K01
open PySem PySem.Spec PyProof.Rows L2 XV XL UU NdefX LamX
section
variable {P : Program} {w : World} {K : PySem.W.Frag} {mg : Str → Option Value} {base : Heap} {f : Addr} {fd : FuncData}
theorem ve_nine {j : Nat} {x : Str × Str} (h : nine[j]? = some x) : x.1 ∈ ve := by
  have key : ∀ p ∈ nine, p.1 ∈ ve := by decide +kernel
  exact key x (List.mem_of_getElem? h)
theorem el_nine {j : Nat} {x : Str × Str} (h : nine[j]? = some x) : x.1 ∈ eleven := by
  have key : ∀ p ∈ nine, p.1 ∈ eleven := by decide +kernel
  exact key x (List.mem_of_getElem? h)
abbrev s_law : Stmt := top 20
theorem sc_law : FnScope ["_law_script", "_law_turn", "_law_draws", "_law_a", "_law_one", "_law_two", "_law_field", "_law_e", "_law_held", "_law_beyond"] ["_law_script"] (defScope s_law) := ⟨rfl, rfl, rfl, by decide +kernel, rfl, by decide +kernel, by decide +kernel⟩
def spLaw (K : PySem.W.Frag) (P0 : Addr) : Sp := fun vs H Q _ => ∃ (a : Addr) (ns : List Int), vs = [.ref a] ∧ SqL K H a (ns.map V.int) ∧ ns.length ≤ 63 ∧ TabsN (TT P0) H ∧ ∀ H', Q (.bl true) H'
theorem ok_law {P0 : Addr} {fd_Held fd_Beyond : FuncData} (F : Fn K "law" s_law f fd) (T : Ty K mg)
    (U_law_source : Use P w K mg base CX0 "_law_source" 1 ["_law_script", "_law_at"] (spSource K)) (U_law_object : Use P w K mg base CX0 "_law_object" 2 ["_law_draws"] (spObj K))
    (U_law_pairs : Use P w K mg base CX0 "_law_pairs" 3 ["_law_a"] (spPairs P w K mg base P0)) (U_law_kinds : Use P w K mg base CX0 "_law_kinds" 1 ["_law_e"] (spKinds K))
    (U_law_same : Use P w K mg base CX0 "_law_same" 3 ["_law_found", "_law_due"] (spSame K 2))
    (U_Held : FnOk P w K mg base CX0 1 (FI K "Held") fd_Held ["self"] (spInit0 (CC K "Held"))) (B_Held : KBn K fd_Held ["self"] 1 [] (fun a b => a ++ b) (fun a b => a ++ b))
    (U_Beyond : FnOk P w K mg base CX0 1 (FI K "Beyond") fd_Beyond ["self"] (spInit0 (CC K "Beyond"))) (B_Beyond : KBn K fd_Beyond ["self"] 1 [] (fun a b => a ++ b) (fun a b => a ++ b)) :
    FnOk P w K mg base CX0 4 f fd ["_law_script"] (spLaw K P0) := by
  refine F.ok sc_law (fun vs H Q E h => ?_) (fun cdv A outer s H vs Q E hr h => ?_)
  · obtain ⟨_, _, rfl, _⟩ := h
    rfl
  · obtain ⟨a, ns, rfl, hS, hl, hT, k⟩ := h
    refine ⟨_, PSs.nox (pss_cons (ps_for PassesOwn.never rfl (pi_range1 (by rfl) T.n_range (pa_cons (pe_op op_add pe_int (pe_callB (call_min2 rfl) (by rfl) T.n_min (by decide +kernel) (pa_cons (pe_callB call_len (by rfl) T.n_len (by decide +kernel) (pa_cons (pv 0) pa_nil)) (pa_cons pe_int pa_nil)))) pa_nil)) (pg_name (i := 1) sc_law.nd rfl (Or.inl rfl))
      (pss_cons (ps_set (i := 2) sc_law.nd rfl (Or.inl rfl) (pe_use U_law_source hr (by first | decide | omega) (by rfl) pass0 (pa_cons (pv 0) (pa_cons (pv 1) pa_nil))))
      (pss_cons (ps_set (i := 3) sc_law.nd rfl (Or.inl rfl) (pe_use U_law_object hr (by first | decide | omega) (by rfl) pass0 (pa_cons (pv 2) pa_nil)))
      (pss_one (ps_for PassesOwn.never rfl (pi_list (pe_use U_law_pairs hr (by first | decide | omega) (by rfl) pass0 (pa_cons (pv 3) pa_nil))) (pg_tup rfl (pgs_cons (pg_name (i := 4) sc_law.nd rfl (Or.inl rfl)) (pgs_cons (pg_name (i := 5) sc_law.nd rfl (Or.inl rfl)) (pgs_cons (pg_name (i := 6) sc_law.nd rfl (Or.inl rfl)) pgs_nil))))
      (pss_one (ps_for PassesOwn.never rfl (pi_tup (pe_tup (pa_cons (pv 4) (pa_cons (pv 5) pa_nil)))) (pg_name (i := 7) sc_law.nd rfl (Or.inl rfl))
      (pss_cons (ps_if (PW.pt (pw_or (pt_not (pt_val (pe_callB call_isX (by rfl) T.n_isinstance (by decide +kernel) (pa_cons (pv 7) (pa_cons (pe_glob (v := .ref _) (by rfl) T.c_FallError rfl) pa_nil))))) (pw_or (pt_not (pt_val (pe_callB call_isX (by rfl) T.n_isinstance (by decide +kernel) (pa_cons (pv 7) (pa_cons (pe_bltn (v := .ty "ValueError") (by rfl) T.n_ValueError (by decide +kernel) rfl) pa_nil))))) (pw_or1 (pt_cmpR op_ne (pe_use U_law_kinds hr (by first | decide | omega) (by rfl) pass0 (pa_cons (pv 7) pa_nil)) pe_int (nomark _)))))) (pss_one (ps_ret pe_bl)) pss_nil)
      (pss_one (ps_if (pt_not (pt_val (pe_use U_law_same hr (by first | decide | omega) (by rfl) pass0 (pa_cons (pe_callF (CX := CX0) (k := 1) (i := 6) (E := E0) (hr.mono (by decide)) pass0 rfl (Or.inl rfl) (pa_cons (pv 7) pa_nil)) (pa_cons (pv 3) pa_nil))))) (pss_one (ps_ret pe_bl)) pss_nil))))))))))
      (pss_cons (ps_par (i := 8) (j := 9) (by rfl) sc_law.nd rfl rfl (by decide) rfl rfl (pa_cons (pe_mkv0 T.k_Held T.i_Held T.t_Held U_Held (hr.mono (by first | decide | omega)) (by rfl) T.c_Held B_Held pass0) (pa_cons (pe_mkv0 T.k_Beyond T.i_Beyond T.t_Beyond U_Beyond (hr.mono (by first | decide | omega)) (by rfl) T.c_Beyond B_Beyond pass0) pa_nil)) (by rfl))
      (pss_cons (ps_if (PW.pt (pw_or (pt_val (pe_callB call_isX (by rfl) T.n_isinstance (by decide +kernel) (pa_cons (pv 8) (pa_cons (pe_glob (v := .ref _) (by rfl) T.c_FallError rfl) pa_nil)))) (pw_or (pt_val (pe_callB call_isX (by rfl) T.n_isinstance (by decide +kernel) (pa_cons (pv 8) (pa_cons (pe_bltn (v := .ty "ValueError") (by rfl) T.n_ValueError (by decide +kernel) rfl) pa_nil)))) (pw_or1 (pt_not (pt_val (pe_callB call_isX (by rfl) T.n_isinstance (by decide +kernel) (pa_cons (pv 8) (pa_cons (pe_bltn (v := .ty "Exception") (by rfl) T.n_Exception (by decide +kernel) rfl) pa_nil))))))))) (pss_one (ps_ret pe_bl)) pss_nil)
      (pss_cons (ps_if (PW.pt (pw_or (pt_val (pe_callB call_isX (by rfl) T.n_isinstance (by decide +kernel) (pa_cons (pv 8) (pa_cons (pe_bltn (v := .ty "LookupError") (by rfl) T.n_LookupError (by decide +kernel) rfl) pa_nil)))) (pw_or1 (pt_val (pe_callB call_isX (by rfl) T.n_isinstance (by decide +kernel) (pa_cons (pv 8) (pa_cons (pe_bltn (v := .ty "RuntimeError") (by rfl) T.n_RuntimeError (by decide +kernel) rfl) pa_nil))))))) (pss_one (ps_ret pe_bl)) pss_nil)
      (pss_one (ps_ret (pe_and (pe_callB call_isX (by rfl) T.n_isinstance (by decide +kernel) (pa_cons (pv 9) (pa_cons (pe_glob (v := .ref _) (by rfl) T.c_FallError rfl) pa_nil))) (pe_and (pe_cmpR op_eq (pe_use U_law_kinds hr (by first | decide | omega) (by rfl) pass0 (pa_cons (pv 9) pa_nil)) pe_int (nomark _)) (pe_one (pe_cmpR op_eq (pe_use U_law_kinds hr (by first | decide | omega) (by rfl) pass0 (pa_cons (pv 8) pa_nil)) pe_int (nomark _))))))))))), ?_⟩
    refine ⟨_, rfl, _, _, rfl, .inl ⟨_, hS, rfl⟩, _, _, rfl, _, _, rfl, rfl, _, rfl, ?_⟩
    generalize hN : (2 + if (4 : Int) < ((ns.map V.int).length : Nat) then (4 : Int) else ((ns.map V.int).length : Nat)) = N
    have hN0 : 0 ≤ N ∧ N ≤ 65 := by
      rw [← hN]
      rw [List.length_map]
      split <;> omega
    refine ⟨by omega, by omega, for_range (lo := 0) (n := N.toNat) (fun i σ H2 => (∃ o1 o2 o3 o4 o5 o6 o7 o8 o9 : Option V, σ = [some (.ref a), o1, o2, o3, o4, o5, o6, o7, o8, o9]) ∧ TabsN (TT P0) H2 ∧ SqL K H2 a (ns.map V.int)) ⟨⟨none, none, none, none, none, none, none, none, none, rfl⟩, hT, hS⟩ ?_ ?_⟩
    · rintro i σ H2 hi ⟨⟨o1, o2, o3, o4, o5, o6, o7, o8, o9, rfl⟩, hT2, hS2⟩
      refine ⟨_, rfl, _, rfl, a, ns, i, (by rw [Int.zero_add] <;> rfl), hS2, hl, fun p x y hp hx hy hy2 => ?_⟩
      refine ⟨_, rfl, p, x, y, 0, rfl, upd_same, hx, hy, hy2, by decide, by decide, fun v d0 H3 hd hs k3 => ?_⟩
      have S3 : Same H2 H3 := fun q o z => k3 q o (by rw [upd_ne (ne_of_none z hp)]; exact z) (ne_of_none z hp)
      refine ⟨_, rfl, v, rfl, tabsN_same hT2 S3, fun pl ts H4 hpl hts hok hx4 hT4 => ?_⟩
      have hd4 := dp_ext hx4 d0 v hd
      have hS4 := sqL_ext (hx4) (sqL_ext (extN_same S3) hS2)
      refine ⟨pl, rfl, ⟨_, SqL.of hpl⟩, for_list (K := K) (a := pl) (xs := ts.map V.ref) (fun j σ5 H5 => (∃ o4 o5 o6 o7 o8 o9 : Option V, σ5 = [some (.ref a), some (.int (0 + (i : Int))), some (.ref p), some v, o4, o5, o6, o7, o8, o9]) ∧ Same H4 H5) ⟨⟨o4, o5, o6, o7, o8, o9, rfl⟩, Same.refl _⟩ (fun j σ5 H5 _ hh => SqL.of (hh.2 _ _ hpl)) ?_ ?_⟩
      · rintro j u σ5 H5 hu ⟨⟨o4, o5, o6, o7, o8, o9, rfl⟩, S5⟩
        rw [List.getElem?_map] at hu
        cases ht : ts[j]? with
        | none => rw [ht] at hu; cases hu
        | some t =>
          rw [ht] at hu
          cases hu
          have hj9 : j < 9 := by rw [← hts]; exact (List.getElem?_eq_some_iff.mp ht).1
          have hx9 : nine[j]? = some (nine[j]'hj9) := List.getElem?_eq_getElem hj9
          generalize nine[j]'hj9 = xf at hx9
          obtain ⟨e1, e2, l, d1, d2, FF, bb, h1, h2, h3, h4, h5, h6, h7, h8⟩ := (hok j xf t hx9 ht).ext (extN_same S5)
          have hve : xf.1 ∈ ve := ve_nine hx9
          have hel : xf.1 ∈ eleven := el_nine hx9
          refine ⟨t, _, rfl, SqT.of h1, rfl, _, _, rfl, _, _, rfl, _, _, rfl, rfl, ?_⟩
          refine ⟨_, rfl, _, rfl, by show 2 ≤ sizeLine; decide, fun t0 ht0 => ?_⟩
          have S6 := same_trans S5 (same_upd (o := .tup [V.ref e1, V.ref e2]) ht0)
          have S7 := same_upd (o := .tup [V.ref e1, V.ref e2]) ht0
          refine ⟨t0, rfl, ⟨_, SqT.of upd_same⟩, for_tup (K := K) (a := t0) (xs := [V.ref e1, V.ref e2]) (fun q σ8 H8 => (∃ o7 o8 o9 : Option V, σ8 = [some (.ref a), some (.int (0 + (i : Int))), some (.ref p), some v, some (.ref e1), some (.ref e2), some (.ref l), o7, o8, o9]) ∧ Same (upd H5 t0 (.tup [V.ref e1, V.ref e2])) H8) ⟨⟨o7, o8, o9, rfl⟩, Same.refl _⟩ (fun q σ8 H8 _ hh => SqT.of (hh.2 _ _ upd_same)) ?_ ?_⟩
          · rintro q u σ8 H8 hq ⟨⟨o7, o8, o9, rfl⟩, S8⟩
            have SS := same_trans S7 S8
            obtain ⟨e, d, rfl, he, hdd⟩ : ∃ e d, u = V.ref e ∧ H8 e = some (exo e (CC K xf.1) (some d)) ∧ H8 d = some (exd d [(xf.2, v)]) := by
              match q, hq with
              | 0, hq => cases hq; exact ⟨e1, d1, rfl, SS _ _ h2, SS _ _ h3⟩
              | 1, hq => cases hq; exact ⟨e2, d2, rfl, SS _ _ h4, SS _ _ h5⟩
            have hex : ExAt H8 e (CC K xf.1) := ⟨some d, he, fun dx z => by cases z; exact ⟨_, hdd⟩⟩
            refine ⟨_, rfl, e, _, _, _, true, rfl, hex, T.ec _ hel, .own _, T.fall _ hve, _, rfl, iteF ?_⟩
            refine ⟨_, rfl, e, _, _, _, true, rfl, hex, T.ec _ hel, .ty _, T.val _ hve, _, rfl, iteF ?_⟩
            refine ⟨_, rfl, e, xf.1, rfl, hel, hex, fun H9 S9 => ?_⟩
            refine ⟨rfl, _, rfl, iteF ?_⟩
            have S10 := same_trans SS S9
            have hd9 := dp_same (same_trans S5 S10) d0 v hd4
            refine ⟨l, FF, bb, rfl, S10 _ _ h6, _, rfl, S10 _ _ h6, spGet K l FF bb xf.2, h8, e, CC K xf.1, d, v, rfl, S10 _ _ h6, S10 _ _ h7, T.xf _ hve, T.no xf (List.mem_of_getElem? hx9), S9 _ _ he, S9 _ _ hdd, ?_⟩
            refine ⟨_, rfl, v, v, d0, d0, rfl, hd9, hd9, hs, fun b H10 hb S11 => ?_⟩
            obtain rfl : b = true := hb.mpr rfl
            refine ⟨_, rfl, iteF ?_⟩
            exact ⟨⟨_, _, _, rfl⟩, same_trans S8 (same_trans S9 S11)⟩
          · rintro σ8 H8 ⟨⟨o7, o8, o9, rfl⟩, S8⟩
            exact ⟨⟨_, _, _, _, _, _, rfl⟩, same_trans S6 S8⟩
      · rintro σ5 H5 ⟨⟨o4, o5, o6, o7, o8, o9, rfl⟩, S5⟩
        exact ⟨⟨_, _, _, _, _, _, _, _, _, rfl⟩, tabsN_same hT4 S5, Same.seq S5 hS4⟩
    · rintro σ H2 ⟨⟨o1, o2, o3, o4, o5, o6, o7, o8, o9, rfl⟩, hT2, hS2⟩
      refine ⟨rfl, rfl, fun hh hh0 => ⟨hh, rfl, upd_same, rfl, ?_⟩⟩
      refine ⟨rfl, rfl, fun by_ hb0 => ⟨by_, rfl, upd_same, rfl, ?_⟩⟩
      have xB : ExAt (upd (upd H2 hh (exo hh (CC K "Held") none)) by_ (exo by_ (CC K "Beyond") none)) by_ (CC K "Beyond") := ⟨none, upd_same, fun _ z => by cases z⟩
      have xH : ExAt (upd (upd H2 hh (exo hh (CC K "Held") none)) by_ (exo by_ (CC K "Beyond") none)) hh (CC K "Held") := ⟨none, by rw [upd_ne (ne_of_none (upd_same) hb0)]; exact upd_same, fun _ z => by cases z⟩
      have eH := T.ec "Held" (by decide +kernel)
      refine ⟨_, _, rfl, ?_⟩
      refine ⟨_, rfl, hh, _, _, _, false, rfl, xH, eH, .own _, T.hfall, _, rfl, iteF ?_⟩
      refine ⟨_, rfl, hh, _, _, _, false, rfl, xH, eH, .ty _, T.hval, _, rfl, iteF ?_⟩
      refine ⟨_, rfl, hh, _, _, _, true, rfl, xH, eH, .ty _, T.hexc, _, rfl, iteF ?_⟩
      refine ⟨_, rfl, hh, _, _, _, false, rfl, xH, eH, .ty _, T.hlook, _, rfl, iteF ?_⟩
      refine ⟨_, rfl, hh, _, _, _, false, rfl, xH, eH, .ty _, T.hrun, _, rfl, iteF ?_⟩
      refine ⟨_, rfl, by_, _, _, _, true, rfl, xB, T.ec "Beyond" (by decide +kernel), .own _, T.fall "Beyond" (by decide +kernel), _, rfl, iteT ?_⟩
      refine ⟨_, rfl, by_, "Beyond", rfl, by decide +kernel, xB, fun H5 S5 => ?_⟩
      refine ⟨rfl, _, rfl, iteT ?_⟩
      refine ⟨_, rfl, hh, "Held", rfl, by decide +kernel, exAt_same S5 xH, fun H6 S6 => ?_⟩
      exact ⟨rfl, k H6⟩
end
end K01

namespace K01
open PySem PySem.Spec PyProof.Rows L2 XV XL UU NdefX LamX HH
/-! ### the head: facts by names, the run -/
def fn : List He.DefD := [⟨("BadFall", some "__init__"), "__init__", "BadFall.__init__", defArgs s_BadFall___init__, defBody s_BadFall___init__, defScope s_BadFall___init__, [], []⟩,
  ⟨("BadGuard", some "__init__"), "__init__", "BadGuard.__init__", defArgs s_BadGuard___init__, defBody s_BadGuard___init__, defScope s_BadGuard___init__, [], []⟩,
  ⟨("BadLimit", some "__init__"), "__init__", "BadLimit.__init__", defArgs s_BadLimit___init__, defBody s_BadLimit___init__, defScope s_BadLimit___init__, [], []⟩,
  ⟨("BadName", some "__init__"), "__init__", "BadName.__init__", defArgs s_BadName___init__, defBody s_BadName___init__, defScope s_BadName___init__, [], []⟩,
  ⟨("BadPlace", some "__init__"), "__init__", "BadPlace.__init__", defArgs s_BadPlace___init__, defBody s_BadPlace___init__, defScope s_BadPlace___init__, [], []⟩,
  ⟨("BadValue", some "__init__"), "__init__", "BadValue.__init__", defArgs s_BadValue___init__, defBody s_BadValue___init__, defScope s_BadValue___init__, [], []⟩,
  ⟨("Beyond", some "__init__"), "__init__", "Beyond.__init__", defArgs s_Beyond___init__, defBody s_Beyond___init__, defScope s_Beyond___init__, [], []⟩,
  ⟨("Held", some "__init__"), "__init__", "Held.__init__", defArgs s_Held___init__, defBody s_Held___init__, defScope s_Held___init__, [], []⟩,
  ⟨("NoMoment", some "__init__"), "__init__", "NoMoment.__init__", defArgs s_NoMoment___init__, defBody s_NoMoment___init__, defScope s_NoMoment___init__, [], []⟩,
  ⟨("NoPage", some "__init__"), "__init__", "NoPage.__init__", defArgs s_NoPage___init__, defBody s_NoPage___init__, defScope s_NoPage___init__, [], []⟩,
  ⟨("NotTruth", some "__init__"), "__init__", "NotTruth.__init__", defArgs s_NotTruth___init__, defBody s_NotTruth___init__, defScope s_NotTruth___init__, [], []⟩,
  ⟨("_law_source", none), "_law_source", "_law_source", defArgs s_law_source, defBody s_law_source, defScope s_law_source, [], []⟩,
  ⟨("_law_draw", none), "_law_draw", "_law_draw", defArgs s_law_draw, defBody s_law_draw, defScope s_law_draw, [], []⟩,
  ⟨("_law_same", none), "_law_same", "_law_same", defArgs s_law_same, defBody s_law_same, defScope s_law_same, [], []⟩,
  ⟨("_law_object", none), "_law_object", "_law_object", defArgs s_law_object, defBody s_law_object, defScope s_law_object, [], []⟩,
  ⟨("_law_kinds", none), "_law_kinds", "_law_kinds", defArgs s_law_kinds, defBody s_law_kinds, defScope s_law_kinds, [], []⟩,
  ⟨("_law_pairs", none), "_law_pairs", "_law_pairs", defArgs s_law_pairs, defBody s_law_pairs, defScope s_law_pairs, [], []⟩,
  ⟨("law", none), "law", "law", defArgs s_law, defBody s_law, defScope s_law, [], []⟩]
def fa : List He.Fa := [.free "len", .free "int", .free "isinstance", .free "list", .free "tuple", .free "bool", .free "all", .free "zip", .free "range", .free "min", .free "Exception", .free "ValueError", .free "LookupError", .free "RuntimeError", .glo "BadFall", .glo "BadGuard", .glo "BadLimit", .glo "BadName", .glo "BadPlace", .glo "BadValue", .glo "Beyond", .glo "Held", .glo "NoMoment", .glo "NoPage", .glo "NotTruth", .glo "FallError", .glo "_law_source", .glo "_law_draw", .glo "_law_same", .glo "_law_object", .glo "_law_kinds", .glo "_law_pairs", .glo "law", .meth "BadFall" "__init__", .meth "BadGuard" "__init__", .meth "BadLimit" "__init__", .meth "BadName" "__init__", .meth "BadPlace" "__init__", .meth "BadValue" "__init__", .meth "Beyond" "__init__", .meth "Held" "__init__", .meth "NoMoment" "__init__", .meth "NoPage" "__init__", .meth "NotTruth" "__init__", .noat "BadName" "name", .noat "BadValue" "value", .noat "BadLimit" "limit", .noat "NoPage" "name", .noat "NoMoment" "moment", .noat "BadFall" "fall", .noat "BadGuard" "step", .noat "BadPlace" "place", .noat "NotTruth" "value"]
def tf : List He.Defn := [("_law_pairs", none)]
def ex (K : PySem.W.Frag) : Bool :=
  (ve.all fun x => oexB K (CC K x)) && (heldB K (CC K "Held") && ((eleven.all fun x => excCB K (CC K x)) && ((ve.all fun x => xfB K (CC K x)) && ((eleven.all fun x => eleven.all fun y => decide (PySem.W.kitOne K (.ref (CC K x)) (.ref (CC K y)) = some (decide (x = y)))) &&
  ((ve.all fun x => decide (PySem.W.kitOne K (.ref (CC K x)) (.ref (CC K "FallError")) = some true)) && ((ve.all fun x => decide (PySem.W.kitOne K (.ref (CC K x)) (.type "ValueError") = some true)) &&
  (decide (PySem.W.kitOne K (.ref (CC K "Held")) (.ref (CC K "FallError")) = some false) && (decide (PySem.W.kitOne K (.ref (CC K "Held")) (.type "ValueError") = some false) && (decide (PySem.W.kitOne K (.ref (CC K "Held")) (.type "Exception") = some true) &&
  (decide (PySem.W.kitOne K (.ref (CC K "Held")) (.type "LookupError") = some false) && (decide (PySem.W.kitOne K (.ref (CC K "Held")) (.type "RuntimeError") = some false) && (iniB K (CC K "FallError") "ValueError.__init__" && clsVal (PySem.W.findCls K (.type "Exception") (.type "type") "__init__") "Exception.__init__"))))))))))))
abbrev R : PySem.W.OpenRow := PySem.W.OpenLaw.row PySem.Challenge.rw_fallways_k01_errors_made
abbrev hk : PySem.W.Hook := hookY [cStatics] 5 fa fn [] tf ex
def ob (s : PySem.W.SharedT) : He.AlX := obsY [cStatics] 5 fa fn [] tf ex (HandSHeadRun.getT s)
theorem ob_eq (s : PySem.W.SharedT) : ob s = hk.obs s.abs := obsY_eq (HandSHeadRun.getT_eq s)
def loose : List Str := ["FallError", "BadName", "BadValue", "BadLimit", "NoPage", "NoMoment", "BadFall", "BadGuard", "BadPlace", "NotTruth", "Beyond", "Held", "_law_source", "_law_draw", "_law_same", "_law_object", "_law_kinds", "_law_pairs"]
theorem run (w : World) : HandSHeadRun.RunEq R (PySem.W.view R.prog [20]) hk ob 4000 loose w := by
  intro os
  kernel_rfl
theorem all_mem {α : Type} {l : List α} {p : α → Bool} (h : l.all p = true) {x : α} (hx : x ∈ l) : p x = true := List.all_eq_true.mp h x hx
theorem facts {P : Program} {w : World} {K : PySem.W.Frag} {h : Heap} {mg : Str → Option Value} {f : Addr} (X : K.In h) (G : h.Ns mainGlobals mg) (hfa : mg ("law" : Str) = some (.ref f)) (c : He.SaysX fa fn [] tf ex w h K) :
    ∃ (fd : FuncData), (∀ (s : Shared) (v : Value), BindsTo s fd ⟨[v], []⟩ [("_law_script", v)]) ∧ ∀ base : Heap, K.In base → base.Ns mainGlobals mg → TabB base mg (He.cT K ("_law_pairs", none)).1 (He.cT K ("_law_pairs", none)).2 →
      FnOk P w K mg base CX0 4 f fd ["_law_script"] (spLaw K (He.cT K ("_law_pairs", none)).2) := by
  have d := c.t.d
  have m := c.more
  unfold ex at m
  obtain ⟨m1, m⟩ := He.ba m
  obtain ⟨m2, m⟩ := He.ba m
  obtain ⟨m3, m⟩ := He.ba m
  obtain ⟨m4, m⟩ := He.ba m
  obtain ⟨m5, m⟩ := He.ba m
  obtain ⟨m6, m⟩ := He.ba m
  obtain ⟨m7, m⟩ := He.ba m
  obtain ⟨m8, m⟩ := He.ba m
  obtain ⟨m9, m⟩ := He.ba m
  obtain ⟨m10, m⟩ := He.ba m
  obtain ⟨m11, m⟩ := He.ba m
  obtain ⟨m12, m⟩ := He.ba m
  obtain ⟨m13, m14⟩ := He.ba m
  have n_len := He.free_ok X G (d.fact 0 (f := .free "len") rfl)
  have n_int := He.free_ok X G (d.fact 1 (f := .free "int") rfl)
  have n_isinstance := He.free_ok X G (d.fact 2 (f := .free "isinstance") rfl)
  have n_list := He.free_ok X G (d.fact 3 (f := .free "list") rfl)
  have n_tuple := He.free_ok X G (d.fact 4 (f := .free "tuple") rfl)
  have n_bool := He.free_ok X G (d.fact 5 (f := .free "bool") rfl)
  have n_all := He.free_ok X G (d.fact 6 (f := .free "all") rfl)
  have n_zip := He.free_ok X G (d.fact 7 (f := .free "zip") rfl)
  have n_range := He.free_ok X G (d.fact 8 (f := .free "range") rfl)
  have n_min := He.free_ok X G (d.fact 9 (f := .free "min") rfl)
  have n_Exception := He.free_ok X G (d.fact 10 (f := .free "Exception") rfl)
  have n_ValueError := He.free_ok X G (d.fact 11 (f := .free "ValueError") rfl)
  have n_LookupError := He.free_ok X G (d.fact 12 (f := .free "LookupError") rfl)
  have n_RuntimeError := He.free_ok X G (d.fact 13 (f := .free "RuntimeError") rfl)
  have g_BadFall := He.glo_ok X G (d.fact 14 (f := .glo "BadFall") rfl)
  have g_BadGuard := He.glo_ok X G (d.fact 15 (f := .glo "BadGuard") rfl)
  have g_BadLimit := He.glo_ok X G (d.fact 16 (f := .glo "BadLimit") rfl)
  have g_BadName := He.glo_ok X G (d.fact 17 (f := .glo "BadName") rfl)
  have g_BadPlace := He.glo_ok X G (d.fact 18 (f := .glo "BadPlace") rfl)
  have g_BadValue := He.glo_ok X G (d.fact 19 (f := .glo "BadValue") rfl)
  have g_Beyond := He.glo_ok X G (d.fact 20 (f := .glo "Beyond") rfl)
  have g_Held := He.glo_ok X G (d.fact 21 (f := .glo "Held") rfl)
  have g_NoMoment := He.glo_ok X G (d.fact 22 (f := .glo "NoMoment") rfl)
  have g_NoPage := He.glo_ok X G (d.fact 23 (f := .glo "NoPage") rfl)
  have g_NotTruth := He.glo_ok X G (d.fact 24 (f := .glo "NotTruth") rfl)
  have g_FallError := He.glo_ok X G (d.fact 25 (f := .glo "FallError") rfl)
  have g_law_source := He.glo_ok X G (d.fact 26 (f := .glo "_law_source") rfl)
  have g_law_draw := He.glo_ok X G (d.fact 27 (f := .glo "_law_draw") rfl)
  have g_law_same := He.glo_ok X G (d.fact 28 (f := .glo "_law_same") rfl)
  have g_law_object := He.glo_ok X G (d.fact 29 (f := .glo "_law_object") rfl)
  have g_law_kinds := He.glo_ok X G (d.fact 30 (f := .glo "_law_kinds") rfl)
  have g_law_pairs := He.glo_ok X G (d.fact 31 (f := .glo "_law_pairs") rfl)
  have g_law := He.glo_ok X G (d.fact 32 (f := .glo "law") rfl)
  have me_BadFall := He.meth_ok (d.fact 33 (f := .meth "BadFall" "__init__") rfl)
  have me_BadGuard := He.meth_ok (d.fact 34 (f := .meth "BadGuard" "__init__") rfl)
  have me_BadLimit := He.meth_ok (d.fact 35 (f := .meth "BadLimit" "__init__") rfl)
  have me_BadName := He.meth_ok (d.fact 36 (f := .meth "BadName" "__init__") rfl)
  have me_BadPlace := He.meth_ok (d.fact 37 (f := .meth "BadPlace" "__init__") rfl)
  have me_BadValue := He.meth_ok (d.fact 38 (f := .meth "BadValue" "__init__") rfl)
  have me_Beyond := He.meth_ok (d.fact 39 (f := .meth "Beyond" "__init__") rfl)
  have me_Held := He.meth_ok (d.fact 40 (f := .meth "Held" "__init__") rfl)
  have me_NoMoment := He.meth_ok (d.fact 41 (f := .meth "NoMoment" "__init__") rfl)
  have me_NoPage := He.meth_ok (d.fact 42 (f := .meth "NoPage" "__init__") rfl)
  have me_NotTruth := He.meth_ok (d.fact 43 (f := .meth "NotTruth" "__init__") rfl)
  have na_BadName := He.noat_ok (d.fact 44 (f := .noat "BadName" "name") rfl)
  have na_BadValue := He.noat_ok (d.fact 45 (f := .noat "BadValue" "value") rfl)
  have na_BadLimit := He.noat_ok (d.fact 46 (f := .noat "BadLimit" "limit") rfl)
  have na_NoPage := He.noat_ok (d.fact 47 (f := .noat "NoPage" "name") rfl)
  have na_NoMoment := He.noat_ok (d.fact 48 (f := .noat "NoMoment" "moment") rfl)
  have na_BadFall := He.noat_ok (d.fact 49 (f := .noat "BadFall" "fall") rfl)
  have na_BadGuard := He.noat_ok (d.fact 50 (f := .noat "BadGuard" "step") rfl)
  have na_BadPlace := He.noat_ok (d.fact 51 (f := .noat "BadPlace" "place") rfl)
  have na_NotTruth := He.noat_ok (d.fact 52 (f := .noat "NotTruth" "value") rfl)
  obtain ⟨fd_BadFall___init__, F_BadFall___init__⟩ := d.def_ 0 (d := ⟨("BadFall", some "__init__"), "__init__", "BadFall.__init__", defArgs s_BadFall___init__, defBody s_BadFall___init__, defScope s_BadFall___init__, [], []⟩) rfl
  obtain ⟨fd_BadGuard___init__, F_BadGuard___init__⟩ := d.def_ 1 (d := ⟨("BadGuard", some "__init__"), "__init__", "BadGuard.__init__", defArgs s_BadGuard___init__, defBody s_BadGuard___init__, defScope s_BadGuard___init__, [], []⟩) rfl
  obtain ⟨fd_BadLimit___init__, F_BadLimit___init__⟩ := d.def_ 2 (d := ⟨("BadLimit", some "__init__"), "__init__", "BadLimit.__init__", defArgs s_BadLimit___init__, defBody s_BadLimit___init__, defScope s_BadLimit___init__, [], []⟩) rfl
  obtain ⟨fd_BadName___init__, F_BadName___init__⟩ := d.def_ 3 (d := ⟨("BadName", some "__init__"), "__init__", "BadName.__init__", defArgs s_BadName___init__, defBody s_BadName___init__, defScope s_BadName___init__, [], []⟩) rfl
  obtain ⟨fd_BadPlace___init__, F_BadPlace___init__⟩ := d.def_ 4 (d := ⟨("BadPlace", some "__init__"), "__init__", "BadPlace.__init__", defArgs s_BadPlace___init__, defBody s_BadPlace___init__, defScope s_BadPlace___init__, [], []⟩) rfl
  obtain ⟨fd_BadValue___init__, F_BadValue___init__⟩ := d.def_ 5 (d := ⟨("BadValue", some "__init__"), "__init__", "BadValue.__init__", defArgs s_BadValue___init__, defBody s_BadValue___init__, defScope s_BadValue___init__, [], []⟩) rfl
  obtain ⟨fd_Beyond___init__, F_Beyond___init__⟩ := d.def_ 6 (d := ⟨("Beyond", some "__init__"), "__init__", "Beyond.__init__", defArgs s_Beyond___init__, defBody s_Beyond___init__, defScope s_Beyond___init__, [], []⟩) rfl
  obtain ⟨fd_Held___init__, F_Held___init__⟩ := d.def_ 7 (d := ⟨("Held", some "__init__"), "__init__", "Held.__init__", defArgs s_Held___init__, defBody s_Held___init__, defScope s_Held___init__, [], []⟩) rfl
  obtain ⟨fd_NoMoment___init__, F_NoMoment___init__⟩ := d.def_ 8 (d := ⟨("NoMoment", some "__init__"), "__init__", "NoMoment.__init__", defArgs s_NoMoment___init__, defBody s_NoMoment___init__, defScope s_NoMoment___init__, [], []⟩) rfl
  obtain ⟨fd_NoPage___init__, F_NoPage___init__⟩ := d.def_ 9 (d := ⟨("NoPage", some "__init__"), "__init__", "NoPage.__init__", defArgs s_NoPage___init__, defBody s_NoPage___init__, defScope s_NoPage___init__, [], []⟩) rfl
  obtain ⟨fd_NotTruth___init__, F_NotTruth___init__⟩ := d.def_ 10 (d := ⟨("NotTruth", some "__init__"), "__init__", "NotTruth.__init__", defArgs s_NotTruth___init__, defBody s_NotTruth___init__, defScope s_NotTruth___init__, [], []⟩) rfl
  obtain ⟨fd_law_source, F_law_source⟩ := d.def_ 11 (d := ⟨("_law_source", none), "_law_source", "_law_source", defArgs s_law_source, defBody s_law_source, defScope s_law_source, [], []⟩) rfl
  obtain ⟨fd_law_draw, F_law_draw⟩ := d.def_ 12 (d := ⟨("_law_draw", none), "_law_draw", "_law_draw", defArgs s_law_draw, defBody s_law_draw, defScope s_law_draw, [], []⟩) rfl
  obtain ⟨fd_law_same, F_law_same⟩ := d.def_ 13 (d := ⟨("_law_same", none), "_law_same", "_law_same", defArgs s_law_same, defBody s_law_same, defScope s_law_same, [], []⟩) rfl
  obtain ⟨fd_law_object, F_law_object⟩ := d.def_ 14 (d := ⟨("_law_object", none), "_law_object", "_law_object", defArgs s_law_object, defBody s_law_object, defScope s_law_object, [], []⟩) rfl
  obtain ⟨fd_law_kinds, F_law_kinds⟩ := d.def_ 15 (d := ⟨("_law_kinds", none), "_law_kinds", "_law_kinds", defArgs s_law_kinds, defBody s_law_kinds, defScope s_law_kinds, [], []⟩) rfl
  obtain ⟨fd_law_pairs, F_law_pairs⟩ := d.def_ 16 (d := ⟨("_law_pairs", none), "_law_pairs", "_law_pairs", defArgs s_law_pairs, defBody s_law_pairs, defScope s_law_pairs, [], []⟩) rfl
  obtain ⟨fd_law, F_law⟩ := d.def_ 17 (d := ⟨("law", none), "law", "law", defArgs s_law, defBody s_law, defScope s_law, [], []⟩) rfl
  have e := hfa.symm.trans g_law
  cases e
  have T0 : Tx mg := ⟨n_len, n_int, n_isinstance, n_list, n_tuple, n_bool, n_all, n_zip, n_range, n_min⟩
  have T : Ty K mg := {
    toTx := T0
    n_Exception := n_Exception
    n_ValueError := n_ValueError
    n_LookupError := n_LookupError
    n_RuntimeError := n_RuntimeError
    c_FallError := g_FallError
    oe := fun x hx => oexB_ok (all_mem m1 hx)
    mh := heldB_ok m2
    ec := fun x hx => excCB_ok (all_mem m3 hx)
    xf := fun x hx => xfB_ok (all_mem m4 hx)
    no := fun p hp => by
      have key : ∀ q ∈ nine, q = p → PySem.W.findIn K (.ref (CC K q.1)) q.2 = some none := fun q hq _ => by
        simp only [nine, List.mem_cons, List.mem_nil_iff, or_false] at hq
        rcases hq with rfl | rfl | rfl | rfl | rfl | rfl | rfl | rfl | rfl
        · exact na_BadName
        · exact na_BadValue
        · exact na_BadLimit
        · exact na_NoPage
        · exact na_NoMoment
        · exact na_BadFall
        · exact na_BadGuard
        · exact na_BadPlace
        · exact na_NotTruth
      exact key p hp rfl
    kit := fun x hx y hy => of_decide_eq_true (all_mem (all_mem m5 hx) hy)
    fall := fun x hx => of_decide_eq_true (all_mem m6 hx)
    val := fun x hx => of_decide_eq_true (all_mem m7 hx)
    hfall := of_decide_eq_true m8
    hval := of_decide_eq_true m9
    hexc := of_decide_eq_true m10
    hlook := of_decide_eq_true m11
    hrun := of_decide_eq_true m12
    ci := ⟨_, iniB_ok m13⟩
    hi := clsVal_ok m14
    c_BadFall := g_BadFall
    i_BadFall := me_BadFall.at_
    t_BadFall := beq_iff_eq.mp me_BadFall.fn
    c_BadGuard := g_BadGuard
    i_BadGuard := me_BadGuard.at_
    t_BadGuard := beq_iff_eq.mp me_BadGuard.fn
    c_BadLimit := g_BadLimit
    i_BadLimit := me_BadLimit.at_
    t_BadLimit := beq_iff_eq.mp me_BadLimit.fn
    c_BadName := g_BadName
    i_BadName := me_BadName.at_
    t_BadName := beq_iff_eq.mp me_BadName.fn
    c_BadPlace := g_BadPlace
    i_BadPlace := me_BadPlace.at_
    t_BadPlace := beq_iff_eq.mp me_BadPlace.fn
    c_BadValue := g_BadValue
    i_BadValue := me_BadValue.at_
    t_BadValue := beq_iff_eq.mp me_BadValue.fn
    c_Beyond := g_Beyond
    i_Beyond := me_Beyond.at_
    t_Beyond := beq_iff_eq.mp me_Beyond.fn
    c_Held := g_Held
    i_Held := me_Held.at_
    t_Held := beq_iff_eq.mp me_Held.fn
    c_NoMoment := g_NoMoment
    i_NoMoment := me_NoMoment.at_
    t_NoMoment := beq_iff_eq.mp me_NoMoment.fn
    c_NoPage := g_NoPage
    i_NoPage := me_NoPage.at_
    t_NoPage := beq_iff_eq.mp me_NoPage.fn
    c_NotTruth := g_NotTruth
    i_NotTruth := me_NotTruth.at_
    t_NotTruth := beq_iff_eq.mp me_NotTruth.fn }
  have b_law_source := FunD.bindsN (ps := ["_law_script", "_law_at"]) F_law_source fun _ _ _ _ _ _ us hl => match us, hl with | [_, _], _ => rfl
  have b_law_draw := FunD.bindsN (ps := ["_law_draws", "_law_many"]) F_law_draw fun _ _ _ _ _ _ us hl => match us, hl with | [_, _], _ => rfl
  have b_law_same := FunD.bindsN (ps := ["_law_found", "_law_due"]) F_law_same fun _ _ _ _ _ _ us hl => match us, hl with | [_, _], _ => rfl
  have b_law_object := FunD.bindsN (ps := ["_law_draws"]) F_law_object fun _ _ _ _ _ _ us hl => match us, hl with | [_], _ => rfl
  have b_law_kinds := FunD.bindsN (ps := ["_law_e"]) F_law_kinds fun _ _ _ _ _ _ us hl => match us, hl with | [_], _ => rfl
  have b_law_pairs := FunD.bindsN (ps := ["_law_a"]) F_law_pairs fun _ _ _ _ _ _ us hl => match us, hl with | [_], _ => rfl
  have b_law := FunD.bindsN (ps := ["_law_script"]) F_law fun _ _ _ _ _ _ us hl => match us, hl with | [_], _ => rfl
  have bl := FunD.bindsA (ps := ["_law_script"]) F_law fun _ _ _ _ _ _ us hl => match us, hl with | [_], _ => rfl
  refine ⟨fd_law, fun s v => bl s [v] rfl, fun base KB GB TB => ?_⟩
  obtain ⟨c0, hc0⟩ : ∃ c0, fd_law_pairs.code = .ref c0 ∧ (He.cT K ("_law_pairs", none)).1 = c0 := by
    obtain ⟨oc, od, dV, kV, doc, pm, an, cdv, ct, osl, efd, lk, hcd, _, _⟩ := F_law_pairs.ex
    obtain ⟨c0, e0⟩ := He.codeIn_ref hcd
    have e1 : fd_law_pairs.code = .ref c0 := by rw [efd]; exact e0
    exact ⟨c0, e1, He.codeOf_eq lk e1⟩
  obtain ⟨hc0, hc1⟩ := hc0
  rw [hc1] at TB
  have I_BadFall : FnOk P w K mg base CX0 1 (FI K "BadFall") fd_BadFall___init__ ["self", "fall"] (spInit (CC K "BadFall") "fall") := ok_i_BadFall F_BadFall___init__ T
  have B_BadFall := kbn_of (ps := ["self", "fall"]) (ks := []) (n := 2) F_BadFall___init__ (fun _ _ _ _ _ _ us vs h1 h2 => match us, vs, h1, h2 with | [_, _], [], _, _ => rfl)
  have BK_BadFall := kbn_of (ps := ["self", "fall"]) (ks := ["fall"]) (n := 1) F_BadFall___init__ (fun _ _ _ _ _ _ us vs h1 h2 => match us, vs, h1, h2 with | [_], [_], _, _ => rfl)
  have I_BadGuard : FnOk P w K mg base CX0 1 (FI K "BadGuard") fd_BadGuard___init__ ["self", "step"] (spInit (CC K "BadGuard") "step") := ok_i_BadGuard F_BadGuard___init__ T
  have B_BadGuard := kbn_of (ps := ["self", "step"]) (ks := []) (n := 2) F_BadGuard___init__ (fun _ _ _ _ _ _ us vs h1 h2 => match us, vs, h1, h2 with | [_, _], [], _, _ => rfl)
  have BK_BadGuard := kbn_of (ps := ["self", "step"]) (ks := ["step"]) (n := 1) F_BadGuard___init__ (fun _ _ _ _ _ _ us vs h1 h2 => match us, vs, h1, h2 with | [_], [_], _, _ => rfl)
  have I_BadLimit : FnOk P w K mg base CX0 1 (FI K "BadLimit") fd_BadLimit___init__ ["self", "limit"] (spInit (CC K "BadLimit") "limit") := ok_i_BadLimit F_BadLimit___init__ T
  have B_BadLimit := kbn_of (ps := ["self", "limit"]) (ks := []) (n := 2) F_BadLimit___init__ (fun _ _ _ _ _ _ us vs h1 h2 => match us, vs, h1, h2 with | [_, _], [], _, _ => rfl)
  have BK_BadLimit := kbn_of (ps := ["self", "limit"]) (ks := ["limit"]) (n := 1) F_BadLimit___init__ (fun _ _ _ _ _ _ us vs h1 h2 => match us, vs, h1, h2 with | [_], [_], _, _ => rfl)
  have I_BadName : FnOk P w K mg base CX0 1 (FI K "BadName") fd_BadName___init__ ["self", "name"] (spInit (CC K "BadName") "name") := ok_i_BadName F_BadName___init__ T
  have B_BadName := kbn_of (ps := ["self", "name"]) (ks := []) (n := 2) F_BadName___init__ (fun _ _ _ _ _ _ us vs h1 h2 => match us, vs, h1, h2 with | [_, _], [], _, _ => rfl)
  have BK_BadName := kbn_of (ps := ["self", "name"]) (ks := ["name"]) (n := 1) F_BadName___init__ (fun _ _ _ _ _ _ us vs h1 h2 => match us, vs, h1, h2 with | [_], [_], _, _ => rfl)
  have I_BadPlace : FnOk P w K mg base CX0 1 (FI K "BadPlace") fd_BadPlace___init__ ["self", "place"] (spInit (CC K "BadPlace") "place") := ok_i_BadPlace F_BadPlace___init__ T
  have B_BadPlace := kbn_of (ps := ["self", "place"]) (ks := []) (n := 2) F_BadPlace___init__ (fun _ _ _ _ _ _ us vs h1 h2 => match us, vs, h1, h2 with | [_, _], [], _, _ => rfl)
  have BK_BadPlace := kbn_of (ps := ["self", "place"]) (ks := ["place"]) (n := 1) F_BadPlace___init__ (fun _ _ _ _ _ _ us vs h1 h2 => match us, vs, h1, h2 with | [_], [_], _, _ => rfl)
  have I_BadValue : FnOk P w K mg base CX0 1 (FI K "BadValue") fd_BadValue___init__ ["self", "value"] (spInit (CC K "BadValue") "value") := ok_i_BadValue F_BadValue___init__ T
  have B_BadValue := kbn_of (ps := ["self", "value"]) (ks := []) (n := 2) F_BadValue___init__ (fun _ _ _ _ _ _ us vs h1 h2 => match us, vs, h1, h2 with | [_, _], [], _, _ => rfl)
  have BK_BadValue := kbn_of (ps := ["self", "value"]) (ks := ["value"]) (n := 1) F_BadValue___init__ (fun _ _ _ _ _ _ us vs h1 h2 => match us, vs, h1, h2 with | [_], [_], _, _ => rfl)
  have I_Beyond : FnOk P w K mg base CX0 1 (FI K "Beyond") fd_Beyond___init__ ["self"] (spInit0 (CC K "Beyond")) := ok_i_Beyond F_Beyond___init__ T
  have B_Beyond := kbn_of (ps := ["self"]) (ks := []) (n := 1) F_Beyond___init__ (fun _ _ _ _ _ _ us vs h1 h2 => match us, vs, h1, h2 with | [_], [], _, _ => rfl)
  have I_Held : FnOk P w K mg base CX0 1 (FI K "Held") fd_Held___init__ ["self"] (spInit0 (CC K "Held")) := ok_i_Held F_Held___init__ T
  have B_Held := kbn_of (ps := ["self"]) (ks := []) (n := 1) F_Held___init__ (fun _ _ _ _ _ _ us vs h1 h2 => match us, vs, h1, h2 with | [_], [], _, _ => rfl)
  have I_NoMoment : FnOk P w K mg base CX0 1 (FI K "NoMoment") fd_NoMoment___init__ ["self", "moment"] (spInit (CC K "NoMoment") "moment") := ok_i_NoMoment F_NoMoment___init__ T
  have B_NoMoment := kbn_of (ps := ["self", "moment"]) (ks := []) (n := 2) F_NoMoment___init__ (fun _ _ _ _ _ _ us vs h1 h2 => match us, vs, h1, h2 with | [_, _], [], _, _ => rfl)
  have BK_NoMoment := kbn_of (ps := ["self", "moment"]) (ks := ["moment"]) (n := 1) F_NoMoment___init__ (fun _ _ _ _ _ _ us vs h1 h2 => match us, vs, h1, h2 with | [_], [_], _, _ => rfl)
  have I_NoPage : FnOk P w K mg base CX0 1 (FI K "NoPage") fd_NoPage___init__ ["self", "name"] (spInit (CC K "NoPage") "name") := ok_i_NoPage F_NoPage___init__ T
  have B_NoPage := kbn_of (ps := ["self", "name"]) (ks := []) (n := 2) F_NoPage___init__ (fun _ _ _ _ _ _ us vs h1 h2 => match us, vs, h1, h2 with | [_, _], [], _, _ => rfl)
  have BK_NoPage := kbn_of (ps := ["self", "name"]) (ks := ["name"]) (n := 1) F_NoPage___init__ (fun _ _ _ _ _ _ us vs h1 h2 => match us, vs, h1, h2 with | [_], [_], _, _ => rfl)
  have I_NotTruth : FnOk P w K mg base CX0 1 (FI K "NotTruth") fd_NotTruth___init__ ["self", "value"] (spInit (CC K "NotTruth") "value") := ok_i_NotTruth F_NotTruth___init__ T
  have B_NotTruth := kbn_of (ps := ["self", "value"]) (ks := []) (n := 2) F_NotTruth___init__ (fun _ _ _ _ _ _ us vs h1 h2 => match us, vs, h1, h2 with | [_, _], [], _, _ => rfl)
  have BK_NotTruth := kbn_of (ps := ["self", "value"]) (ks := ["value"]) (n := 1) F_NotTruth___init__ (fun _ _ _ _ _ _ us vs h1 h2 => match us, vs, h1, h2 with | [_], [_], _, _ => rfl)
  have Us : Use P w K mg base CX0 "_law_source" 1 ["_law_script", "_law_at"] (spSource K) := ⟨⟨_, _, ok_source F_law_source T0, g_law_source, F_law_source.kp, b_law_source⟩⟩
  have Ud : Use P w K mg base CX0 "_law_draw" 1 ["_law_draws", "_law_many"] spDraw := ⟨⟨_, _, ok_draw F_law_draw T0, g_law_draw, F_law_draw.kp, b_law_draw⟩⟩
  have Uo : Use P w K mg base CX0 "_law_object" 2 ["_law_draws"] (spObj K) := ⟨⟨_, _, ok_object F_law_object Ud, g_law_object, F_law_object.kp, b_law_object⟩⟩
  have Uk : Use P w K mg base CX0 "_law_kinds" 1 ["_law_e"] (spKinds K) := ⟨⟨_, _, ok_kinds F_law_kinds T, g_law_kinds, F_law_kinds.kp, b_law_kinds⟩⟩
  have S : ∀ n, Use P w K mg base CX0 "_law_same" n ["_law_found", "_law_due"] (spSameR K n) := fun n => by
    induction n with
    | zero => exact ⟨⟨_, _, fn_false, g_law_same, F_law_same.kp, b_law_same⟩⟩
    | succ n ih => exact ⟨⟨_, _, ok_same1 F_law_same T0 n ih, g_law_same, F_law_same.kp, b_law_same⟩⟩
  have Up : Use P w K mg base CX0 "_law_pairs" 3 ["_law_a"] (spPairs P w K mg base (He.cT K ("_law_pairs", none)).2) := ⟨⟨_, _, ok_pairs F_law_pairs hc0 T TB I_BadName B_BadName BK_BadName I_BadValue B_BadValue BK_BadValue I_BadLimit B_BadLimit BK_BadLimit I_NoPage B_NoPage BK_NoPage I_NoMoment B_NoMoment BK_NoMoment I_BadFall B_BadFall BK_BadFall I_BadGuard B_BadGuard BK_BadGuard I_BadPlace B_BadPlace BK_BadPlace I_NotTruth B_NotTruth BK_NotTruth, g_law_pairs, F_law_pairs.kp, b_law_pairs⟩⟩
  exact ok_law F_law T Us Uo Up Uk (S 3) I_Held B_Held I_Beyond B_Beyond
end K01
open PySem PySem.W PySem.Calls PyProof.Rows
theorem PySem.Challenge.cw_fallways_k01_errors_made_holds : PySem.Challenge.rw_fallways_k01_errors_made.Holds := by
  w_on; o_law
  refine HandSHeadRun.head_any (r := OpenLaw.row PySem.Challenge.rw_fallways_k01_errors_made) (q := view (OpenLaw.row PySem.Challenge.rw_fallways_k01_errors_made).prog [20]) (H := K01.hk) (ob := K01.ob) (M := 4000) (loose := K01.loose) (d := HandSHeadRun.topDef (OpenLaw.row PySem.Challenge.rw_fallways_k01_errors_made).prog 20) (kwd := []) K01.ob_eq
    (by kernel_rfl) (fun s => by kernel_rfl) K01.run (by kernel_rfl) (by kernel_rfl) (by kernel_rfl) (by rfl) (by first | assumption | decide +kernel) (by decide +kernel) ⟨rfl, rfl, rfl, rfl, rfl, by decide +kernel⟩ ?hw ?hc
  case hw => w_witness2
  case hc =>
    refine LamX.walk_ofTsE (l := PySem.Challenge.rw_fallways_k01_errors_made) (n := 63) (k := 4) (x := "_law_script") (CX := fun _ => L2.CX0) rfl (by decide) (by kernel_rfl) ⟨rfl, by decide, by decide⟩ ?F (fun _ _ _ _ _ z => z)
    intro w mg fa h Y G hmg0
    obtain ⟨K, KX, c⟩ := Y
    have hmg : mg ("law" : PySem.Str) = some (.ref fa) := by
      have e : (HandSHeadRun.topDef (OpenLaw.row PySem.Challenge.rw_fallways_k01_errors_made).prog 20).name = ("law" : PySem.Str) := by kernel_rfl
      rw [← e]
      exact hmg0
    obtain ⟨fd, hb, hF⟩ := K01.facts (P := (PySem.Challenge.rw_fallways_k01_errors_made).prog) (w := w) KX G hmg c
    refine ⟨K, KX, fd, [He.cT K ("_law_pairs", none)], K01.spLaw K (He.cT K ("_law_pairs", none)).2, ?_, ?_, ?_, hb, ?_, fun base KB GB TB => hF base KB GB (TB _ (List.mem_singleton.mpr rfl))⟩
    · intro p hp
      rw [List.mem_singleton.mp hp]
      exact c.empty _ (List.mem_singleton.mpr rfl)
    · intro p hp
      rw [List.mem_singleton.mp hp]
      exact c.out _ (List.mem_singleton.mpr rfl)
    · intro p hp
      rw [List.mem_singleton.mp hp]
      exact PySem.W.codeHd_of_K KX (c.hd _ (List.mem_singleton.mpr rfl))
    · intro H a ns hl _ hT hS
      refine ⟨a, ns, rfl, hS, hl, fun p hp => ?_, fun _ => rfl⟩
      rw [List.mem_singleton.mp hp]
      exact NdefX.TabN.nil (hT _ (List.mem_singleton.mpr rfl))
