import PyProof.Rows.All
import Wide.All
import OpenK.AllK
import Wide.FinOn
import HandS.ForExc
import HandS.ExcInit
import HandS.ExcField
import HandS.ExcIs
import HandS.IsInst
import HandS.Nested
import HandS.MakeKwOnly
import KE.KExcIs
import HandS.NestedK
import HandS.ForMost
import HandS.Defaults
import HandS.HeadHook2
import HandS.Zip
import HandS.Walk
import HandS.HeadHook4
import HandS.HeadWalk
import HandS.EndTab
import HandS.Head0
import HandS.Head1
import HandS.Head2
import HandS.GenList
import HandS.AnyAll
import PyProof.TupleOfGen
import HandS.CallSlots
import HandS.ExcValue
import HandS.Star
import HandS.TupAny
import HandS.TryMany
import HandS.WordsExc
import HandS.ClsMeth
import HandS.More
import KE.KDictPairs
import PyProof.TupleOfSeq
import HandS.HeadNt
import KE.GoesMore
import KE.GoesEnum
import HandS.Style
import PySem.Challenge.RW_fallways_k10_what_falls_keep
set_option Elab.async false
set_option linter.all false
set_option maxRecDepth 100000
set_option maxHeartbeats 8000000
/-! own exceptions as values: made (by place, by name, of nothing), their base's __init__ through an own class, isinstance, a field -/
namespace XV
open PySem PySem.Spec L2

/-! ### made with keywords -/
section
variable {M : Model} {A : Around} {E : Value → Shared → Prop} {h : Heap} {g : Array GenState} {d : Drawn} {t : Nat} {os : OsState}
variable {nm q : Str} {C N : Addr} {bs bm bmB : List Value} {hdct : Bool} {sn : List Str} {sub : List Value} {ab : Bool} {col : Option Bool} {dd : Option Addr} {k0 k1 k2 k3 k5 : Option Value} {B newId initId : String}
theorem chk_new (F : ExcBaseFacts B newId initId bmB) (hT : ∀ Y : String, bm.contains (.type Y) = bmB.contains (.type Y)) {us : List Value} {kw : List (Str × Value)} {Q : Unit → Shared → Prop}
    (hC : h.get? C = some (excClassObj nm q C N bs bm hdct sn sub ab col dd k0 k1 k2 k3 k5 newId)) (hq : Q () ⟨h, g, d, t, os⟩) : wpAny M A (checkBuiltinCall newId ⟨.ref C :: us, kw⟩) Q E ⟨h, g, d, t, os⟩ := by
  have c1 : (Value.ref C :: bm).contains (.type B) = true := by rw [List.contains_cons, hT, F.hasB, Bool.or_true]
  have c2 := F.noStar
  simp only [checkBuiltinCall, F.newKind, F.newSplit, F.newRow]
  repeat (first | refine wpAny_loadPart_at hC ?_ | (refine wpAny_isSubtype_exc hC ?_; rw [c1]) | refine wpAny_staticBase_exc hC ?_ | refine wpAny_madeBy_exc hC ?_ | simp only [bne_self_eq_false, Bool.false_eq_true, if_false] | wp_step)
  exact hq

end
section
variable {prog : Program} {w : World} {A : Around} {E : Value → Shared → Prop} {R : Result → Shared → Prop} {h : Heap} {g : Array GenState} {d : Drawn} {t : Nat} {os : OsState}
variable {nm q : Str} {C N : Addr} {bs bm bmB : List Value} {hdct : Bool} {sn : List Str} {sub : List Value} {ab : Bool} {col : Option Bool} {dd : Option Addr} {k0 k1 k2 k3 k5 : Option Value} {B newId initId : String}
/-- the objects of a new exception: its args, itself -/
abbrev laid (h : Heap) (C : Addr) (us : List Value) : Heap := (h.push (PySem.W.kdv_tup us)).push (PySem.HandSPX.excO C h.objs.size)
theorem new_kw (F : ExcBaseFacts B newId initId bmB) (hT : ∀ Y : String, bm.contains (.type Y) = bmB.contains (.type Y)) {us : List Value} {kw : List (Str × Value)}
    (hC : h.get? C = some (excClassObj nm q C N bs bm hdct sn sub ab col dd k0 k1 k2 k3 k5 newId))
    (hq : R (.ok (.ret (.ref (h.objs.size + 1)))) ⟨laid h C us, g, d, t, os⟩) (hus : us.length ≤ sizeLine) :
    codeAny (model prog w) A (.builtin newId ⟨.ref C :: us, kw⟩) R ⟨h, g, d, t, os⟩ := by
  have e0 := F.ends
  have c1 : (Value.ref C :: bm).contains (.type B) = true := by rw [List.contains_cons, hT, F.hasB, Bool.or_true]
  have c2 : (Value.ref C :: bm).contains (.type "AttributeError") = false := by rw [List.contains_cons, hT, F.noAttr] <;> rfl
  have c3 : (Value.ref C :: bm).contains (.type "NameError") = false := by rw [List.contains_cons, hT, F.noName] <;> rfl
  refine codeAny_builtinAt F.entry ?_
  unfold Builtin.«BaseException.__new__»
  refine PySem.wpAt_bind ?_
  show PySem.wpAt _ _ _ (stack >>= _) _ _ _
  refine PySem.wpAt_bind (wpAt_stack fun _ _ => wpAt_of_wpAny ?_)
  wp_walk
  refine wpAt_of_wpAny ?_
  rw [F.owner]
  repeat (first | with_reducible refine wpAny_madeHere_exc F.canon hC ?_ | with_reducible refine wpAny_loadPart_at hC ?_ | (with_reducible refine wpAny_isSubtype_exc hC ?_; first | rw [c1] | rw [c2] | rw [c3]) | wp_step)
  show R _ _
  rw [Heap.size_push]
  exact hq
theorem tcall_kw (F : ExcBaseFacts B newId initId bmB) (hT : ∀ Y : String, bm.contains (.type Y) = bmB.contains (.type Y)) {us : List Value} {kw : List (Str × Value)} {fI : Addr} {Q : Fin → Shared → Prop}
    (hC : h.get? C = some (excClassObj nm q C N bs bm hdct sn sub ab col dd k0 k1 k2 k3 k5 newId))
    (hi : W.Looks (model prog w) h (typeLookup (.ref C) "__init__") (some (.ref fI))) (hb : ∀ v, W.Looks (model prog w) h (bindSpecial (.ref fI) v) (.ref fI, [v])) (hus : us.length ≤ sizeLine)
    (hq : codeAny (model prog w) A (.call (.ref fI) ⟨.ref (h.objs.size + 1) :: us, kw⟩)
      (fun r s' => match r with | .ok (.ret v) => v = .none ∧ Q (.done (.ret (.ref (h.objs.size + 1)))) s' | .ok _ => False | .error e => E e s') ⟨laid h C us, g, d, t, os⟩) :
    wpAny (model prog w) A (Builtin.«type.__call__» ⟨.ref C :: us, kw⟩) Q E ⟨h, g, d, t, os⟩ := by
  repeat (first | with_reducible refine wpAny_loadPart_at hC ?_ | with_reducible refine wpAny_madeBy_exc hC ?_ | wp_step)
  refine codeAny_call_builtin_code (Code.quiet_builtin _ F.quiet) (chk_new F hT hC ?_)
  refine new_kw F hT hC ?_ hus
  show wpAny _ _ _ _ _ _
  have kk : ∀ b o, h.get? b = some o → (laid h C us).get? b = some o := fun b o e => Heap.get?_push_of_some _ (Heap.get?_push_of_some _ e)
  have g1 := kk _ _ hC
  have g2 : (laid h C us).get? (h.objs.size + 1) = some (PySem.HandSPX.excO C h.objs.size) := by heap_get
  have c1 : (Value.ref C :: bm).contains (.ref C) = true := by simp
  have i1 := hi.keeps kk
  have i2 := (hb (.ref (h.objs.size + 1))).keeps kk
  unfold isInstance
  repeat (first | with_reducible refine wpAny_loadPart_at g2 ?_ | (with_reducible refine wpAny_isSubtype_exc g1 ?_; rw [c1]) | wp_step)
  show wpAny _ _ (typeLookup (.ref C) _) _ _ _
  refine i1.at ?_
  refine wpAny_holding (wpAny_bind (i2.at ?_))
  refine wpAny_bind (wpAny_call (codeAny_mono hq fun r s' z => ?_))
  rcases r with e | (v | _ | _ | _) <;> first | exact z | exact z.elim | skip
  obtain ⟨rfl, z⟩ := z
  first
    | exact wpAny_pure (wpAny_pure z)
    | (wp_walk; exact z)
theorem call_kw (F : ExcBaseFacts B newId initId bmB) (hT : ∀ Y : String, bm.contains (.type Y) = bmB.contains (.type Y)) {us : List Value} {kw : List (Str × Value)} {fI : Addr}
    (hC : h.get? C = some (excClassObj nm q C N bs bm hdct sn sub ab col dd k0 k1 k2 k3 k5 newId))
    (hi : W.Looks (model prog w) h (typeLookup (.ref C) "__init__") (some (.ref fI))) (hb : ∀ v, W.Looks (model prog w) h (bindSpecial (.ref fI) v) (.ref fI, [v])) (hus : us.length ≤ sizeLine)
    (hq : codeAny (model prog w) (A.under (.builtin "type.__call__" ⟨.ref C :: us, kw⟩)) (.call (.ref fI) ⟨.ref (h.objs.size + 1) :: us, kw⟩) (W.InitBack (h.objs.size + 1) R) ⟨laid h C us, g, d, t, os⟩) :
    codeAny (model prog w) A (.call (.ref C) ⟨us, kw⟩) R ⟨h, g, d, t, os⟩ := by
  have f1 := PySem.tc_lookup
  have f2 := PySem.tc_bind (.ref C)
  have tt : (⟨h, g, d, t, os⟩ : Shared).TypeIs (.ref C) "type" := ⟨_, hC, rfl⟩
  refine codeAny_of_tree ?_
  show wpAny _ _ (callAny (.ref C) _) _ _ _
  repeat (any_goals (first | assumption | with_reducible refine wpAny_loadPart_at hC ?_ | wp_step))
  refine ⟨rfl, ?_⟩
  refine codeAny_call_builtin_at (Code.quiet_builtin _ (by decide +kernel)) entry_typeCall (PySem.wpAny_check_type_call_sub hC (tcall_kw F hT hC hi hb hus ?_))
  refine codeAny_mono hq fun r s' z => ?_
  rcases r with e | (v | _ | _ | _) <;> exact z
end
end XV

namespace XV
open PySem PySem.Spec PyProof.Rows L2
/-- what the making of an exception of the class at C asks of the written part -/
structure MkC (K : PySem.W.Frag) (C : Addr) (initId : String) : Prop where
  cls : ∃ (B newId : String) (bmB : List Value) (_ : ExcBaseFacts B newId initId bmB) (nm q : Str) (N : Addr) (bs bm : List Value) (hdct : Bool) (sn : List Str) (sub : List Value) (ab : Bool) (col : Option Bool) (dd : Option Addr) (k0 k1 k2 k3 k5 : Option Value),
    K.lookup C = some (excClassObj nm q C N bs bm hdct sn sub ab col dd k0 k1 k2 k3 k5 newId) ∧ ∀ Y : String, bm.contains (.type Y) = bmB.contains (.type Y)
  kC : PySem.W.keepIn K (.ref C) = true
theorem MkC.ve {K : PySem.W.Frag} {C : Addr} (T : OexC K C) : MkC K C "ValueError.__init__" := by
  obtain ⟨nm, q, N, bs, bm, sn, sub, ab, col, dd, k0, k1, k2, k3, k5, hC, hbm⟩ := T.cls
  exact ⟨⟨_, _, _, PySem.F.excBase_ValueError, nm, q, N, bs, bm, true, sn, sub, ab, col, dd, k0, k1, k2, k3, k5, hC, fun Y => PySem.HandSPX.refsVE_contains Y bm hbm⟩, T.kC⟩
/-- C(e, .., k = v, ..) as a value: a new exception, its own __init__ keeps sp -/
def tMkV (C : Addr) (n m : Nat) (sp : Sp) (gV : List V → List V → List V) (E : XK) (ta tk : TA) : TE := fun σ H Q => ta σ H fun vs H1 => tk σ H1 fun zs H2 =>
  vs.length = n ∧ zs.length = m ∧ ∀ a, H2 a = none → sp (gV (.ref a :: vs) zs) (upd H2 a (exo a C none)) (fun v H3 => v = .non ∧ Q (.ref a) H3) E
section
variable {X : Cx} {CX : CXT} {k n : Nat} {iid : String} {fI C : Addr} {fd : FuncData} {ps ks : List Str} {sp : Sp} {E : XK} {x : Str} {p pos : Pos} {e : Expr} {es : List Expr} {kws : List Keyword} {t tk : TA} {g : List Value → List Value → List Value} {gV : List V → List V → List V}
theorem run_mkv {pins : List (Addr × Obj)} {σ : L2.St} {H : Hp} {s : Shared} {Q : VK} {us ws : List Value} {vs zs : List V} (T : MkC X.K C iid) (iC : PySem.W.findIn X.K (.ref C) "__init__" = some (some (.ref fI))) (tI : PySem.W.typeIn X.K (.ref fI) = some (.type "function"))
    (F : FnOk X.prog X.w X.K X.mg X.base CX k fI fd ps sp) (hr : Room (k + 1) X.A) (hb : KBn X.K fd ps (n + 1) ks g gV) (hx : Passes CX X E) (I : Inv X pins σ H s) (r : Vals vs us) (rz : Vals zs ws) (hn : n ≤ 1000) (l1 : vs.length = n) (l2 : zs.length = ks.length)
    (h : ∀ a, H a = none → sp (gV (.ref a :: vs) zs) (upd H a (exo a C none)) (fun v H3 => v = .non ∧ Q (.ref a) H3) E) : wpAny (model X.prog X.w) X.A (call (.ref C) us (ks.zip ws)) (EP X pins σ Q) X.xe s := by
  obtain ⟨B, newId, bmB, F0, nm, q, N, bs, bm, hdct, sn, sub, ab, col, dd, k0, k1, k2, k3, k5, hC, hbm⟩ := T.cls
  obtain ⟨hp, g0, dr, tk0, os⟩ := s
  have hsz : hp.objs.size ≤ hp.objs.size + 1 := Nat.le_succ _
  have hnn : H (hp.objs.size + 1) = none := I.hok.fresh hsz
  have hq := h (hp.objs.size + 1) hnn
  have kk : ∀ b o, hp.get? b = some o → (laid hp C us).get? b = some o := fun b o z => Heap.get?_push_of_some _ (Heap.get?_push_of_some _ z)
  have hget : (laid hp C us).get? (hp.objs.size + 1) = some (PySem.HandSPX.excO C hp.objs.size) := by heap_get
  have I2 : Inv X pins σ (upd H (hp.objs.size + 1) (exo (hp.objs.size + 1) C none)) ⟨laid hp C us, g0, dr, tk0, os⟩ := I.laid (t' := tk0) (a := hp.objs.size + 1) (o := exo (hp.objs.size + 1) C none) (h' := laid hp C us) kk hsz (exo_ok hget)
  have r1 : Vals (V.ref (hp.objs.size + 1) :: vs) (Value.ref (hp.objs.size + 1) :: us) := .cons rfl r
  have r2 := hb.rel r1 rz
  have e1 : (Value.ref (hp.objs.size + 1) :: us).length = n + 1 := r1.length.symm.trans (congrArg Nat.succ l1)
  have e2 : ws.length = ks.length := rz.length.symm.trans l2
  have hus : us.length ≤ sizeLine := by
    have z := r.length
    rw [sizeLine_eq]
    omega
  refine wpAny_call (call_kw F0 hbm (I.kIn _ _ hC) (PySem.W.looks_findIn I.kIn iC) (fun v => PySem.W.bind_fn I.kIn v tI) hus
    (codeAny_mono (F.run _ X.stack _ _ ⟨Value.ref (hp.objs.size + 1) :: us, ks.zip ws⟩ (g (Value.ref (hp.objs.size + 1) :: us) ws) _ _ E (hr.make C us (ks.zip ws)) (I2.env0.make C us (ks.zip ws)) (hb.to _ (Value.ref (hp.objs.size + 1) :: us) ws I2.kIn e1 e2) r2 hq) fun rr s' hq' => ?_))
  cases rr with
  | error er => exact hx pins σ _ _ er s' I2 hq'
  | ok fl =>
    cases fl with
    | ret u =>
      obtain ⟨v, H', I3, rv, ev, q3⟩ := I2.after hq'
      subst ev
      exact ⟨rv, V.ref (hp.objs.size + 1), H', I3, rfl, q3⟩
    | next => exact False.elim hq'
    | brk => exact False.elim hq'
    | cont => exact False.elim hq'
/-- C(k = v, ..) -/
theorem pe_mkvK (T : MkC X.K C iid) (iC : PySem.W.findIn X.K (.ref C) "__init__" = some (some (.ref fI))) (tI : PySem.W.typeIn X.K (.ref fI) = some (.type "function"))
    (F : FnOk X.prog X.w X.K X.mg X.base CX k fI fd ps sp) (hr : Room (k + 1) X.A) (hg : Gl X x) (hm : X.mg x = some (.ref C)) (hb : KBn X.K fd ps 1 ks g gV) (hx : Passes CX X E) (hkw : PK X kws tk)
    (hall : (backToKw pos (keywordEach kws X.env)).all (·.1.isSome) = true := by rfl) (hks : (backToKw pos (keywordEach kws X.env)).filterMap (·.1) = ks := by rfl) (hdb : (x == ("__debug__" : Str)) = false := by decide)
    (hpl : ((backTo pos (starEach [] X.env)).any (·.1) || (backToKw pos (keywordEach kws X.env)).any (·.1.isNone)) = false := by rfl) :
    PE X (.Call (.Name x p) [] kws pos) (tMkV C 0 ks.length sp gV E tNil tk) := by
  refine ⟨fun pins s σ H Q I h => ?_⟩
  refine wpAny_Call_Name_kw (ld_glob I hg hm ?_ hdb)
  refine PySem.W.callWith_KW0 (h₀ := X.base) I.ok.mod.kin T.kC hall ?_ hpl
  refine thn (hkw.run pos pins s σ H _ I h) fun ws s2 ⟨zs, H2, I2, rz, l1, l2, q2⟩ => ⟨I2.kIn, ?_⟩
  rw [hks]
  exact run_mkv (n := 0) (us := []) (vs := []) T iC tI F hr hb hx I2 .nil rz (by decide) rfl l2 q2
/-- C(e, ..) -/
theorem pe_mkv (T : MkC X.K C iid) (iC : PySem.W.findIn X.K (.ref C) "__init__" = some (some (.ref fI))) (tI : PySem.W.typeIn X.K (.ref fI) = some (.type "function"))
    (F : FnOk X.prog X.w X.K X.mg X.base CX k fI fd ps sp) (hr : Room (k + 1) X.A) (hg : Gl X x) (hm : X.mg x = some (.ref C)) (hb : KBn X.K fd ps (n + 1) [] g gV) (hx : Passes CX X E) (ha : PA X (e :: es) t) (hn : n ≤ 1000 := by decide)
    (hdb : (x == ("__debug__" : Str)) = false := by decide) (he : starEach (e :: es) X.env = (false, eval e X.env) :: starEach es X.env := by rfl) (hpl : (backTo pos (starEach es X.env)).any (·.1) = false := by rfl) :
    PE X (.Call (.Name x p) (e :: es) [] pos) (tMkV C n 0 sp gV E t tNil) := by
  refine ⟨fun pins s σ H Q I h => ?_⟩
  refine wpAny_Call_Name_kw (ld_glob I hg hm ?_ hdb)
  refine PySem.W.callWith_K (h₀ := X.base) I.ok.mod.kin T.kC (thn (ha.run pos pins s σ H _ I h) fun us s1 ⟨vs, H1, I1, r, l1, l2, q⟩ => ⟨I1.kIn, ?_⟩) he hpl
  exact run_mkv (us := us) (ws := []) (zs := []) (ks := []) T iC tI F hr hb hx I1 r .nil hn l1 rfl q
/-- C() -/
theorem pe_mkv0 (T : MkC X.K C iid) (iC : PySem.W.findIn X.K (.ref C) "__init__" = some (some (.ref fI))) (tI : PySem.W.typeIn X.K (.ref fI) = some (.type "function"))
    (F : FnOk X.prog X.w X.K X.mg X.base CX k fI fd ps sp) (hr : Room (k + 1) X.A) (hg : Gl X x) (hm : X.mg x = some (.ref C)) (hb : KBn X.K fd ps 1 [] g gV) (hx : Passes CX X E)
    (hdb : (x == ("__debug__" : Str)) = false := by decide) : PE X (.Call (.Name x p) [] [] pos) (tMkV C 0 0 sp gV E tNil tNil) := by
  refine ⟨fun pins s σ H Q I h => ?_⟩
  obtain ⟨l1, l2, q⟩ := h
  refine wpAny_Call_Name_kw (ld_glob I hg hm ?_ hdb)
  refine PySem.W.callWith_K0 I.kIn T.kC ?_
  exact run_mkv (n := 0) (us := []) (vs := []) (ws := []) (zs := []) (ks := []) T iC tI F hr hb hx I .nil .nil (by decide) rfl rfl q
end
section
variable {X : Cx} {pins : List (Addr × Obj)} {σ : L2.St} {H : Hp} {s : Shared} {a C C0 : Addr} {iid : String} {A : Around} {E : Value → Shared → Prop} {x : Str} {e : Expr} {es : List Expr} {ta : TA} {mc : Value} {p1 p2 pos : Pos}
/-- the base's __init__ called with the object: nothing of it is told -/
theorem ini_ok {us : List Value} {Q : Value → Shared → Prop} (T : MkC X.K C iid) (I : Inv X pins σ H s) (ea : H a = some (exo a C none)) (hl : us.length ≤ sizeLine) (h : ∀ s', Inv X pins σ H s' → Q .none s') :
    wpAny (model X.prog X.w) A (call (.builtin iid) (.ref a :: us)) Q E s := by
  obtain ⟨B, newId, bmB, F0, nm, q, N, bs, bm, hdct, sn, sub, ab, col, dd, k0, k1, k2, k3, k5, hC, hbm⟩ := T.cls
  obtain ⟨t1, ho⟩ := exo_at I.hok ea
  obtain ⟨hp, g, d, t, os⟩ := s
  refine wpAny_call (PySem.HandSPX.init_base F0 hbm (I.kIn _ _ hC) ho hl fun h' t2 k hx => ?_)
  have J := I.write (t' := t) (x := a) (e := a) (o := exo a C none) (by rw [ea]; exact True.intro) (.inl rfl) k ⟨_, hx⟩ (exo_ok hx)
  have eu : upd H a (exo a C none) = H := by
    funext b
    by_cases hb : b = a
    · rw [hb, upd_same, ea]
    · rw [upd_ne hb]
  rw [eu] at J
  exact h _ J
/-- D.__init__(self, ..), D an own class or a built-in one whose __init__ is the built-in at iid -/
def tIni (K : PySem.W.Frag) (iid : String) (ta : TA) : TE := fun σ H Q => ta σ H fun vs H1 => ∃ (a C : Addr) (ws : List V), vs = .ref a :: ws ∧ ws.length ≤ 1000 ∧ MkC K C iid ∧ H1 a = some (exo a C none) ∧ Q .non H1
structure CIni (K : PySem.W.Frag) (C0 : Addr) (mc : Value) (iid : String) : Prop where
  rd : PySem.W.readsIn K C0 mc = true
  ga : PySem.W.specialIn K (.ref C0) "__getattribute__" = some (some (.builtin "type.__getattribute__"))
  val : PySem.W.findCls K (.ref C0) mc "__init__" = some (.val (.builtin iid))
theorem ini_tail {pl : List (Bool × Sem Value)} {u1 : List Value} {H1 : Hp} {s1 : Shared} {vs : List V} {Q : VK} (I1 : Inv X pins σ H1 s1) (r1 : Vals vs u1)
    (h : ∃ (a C : Addr) (ws : List V), vs = .ref a :: ws ∧ ws.length ≤ 1000 ∧ MkC X.K C iid ∧ H1 a = some (exo a C none) ∧ Q .non H1) : wpAny (model X.prog X.w) X.A (call (.builtin iid) u1) (EP X pins σ Q) X.xe s1 := by
  obtain ⟨a, C, ws, ev, hlen, T, ea, q⟩ := h
  subst ev
  cases r1 with
  | @cons _ u0 _ ur ra rw' =>
    obtain rfl : u0 = Value.ref a := ra
    have l2 : ur.length ≤ sizeLine := by
      rw [← Paired.length rw', sizeLine_eq]
      omega
    exact ini_ok T I1 ea l2 fun s' J => ⟨.non, H1, J, rfl, q⟩
theorem pe_ini {pl : Sem Bool} (hg : Gl X x) (hm : X.mg x = some (.ref C0)) (ci : CIni X.K C0 mc iid) (ha : PA X (e :: es) ta) (hh : PySem.W.handedIn (.builtin iid) = true := by decide +kernel)
    (hc : eval (.Call (.Attribute (.Name x p1) "__init__" p2) (e :: es) [] pos) X.env = (do
      let ov ← eval (.Name x p1) X.env
      standAt p2.atName
      let (f, first) ← holding [ov] (getMethod ov "__init__" pl)
      callWith pos f first (backTo pos (starEach (e :: es) X.env)) (backToKw pos (keywordEach [] X.env))) := by rfl)
    (he : starEach (e :: es) X.env = (false, eval e X.env) :: starEach es X.env := by rfl) (hpl : (backTo pos (starEach es X.env)).any (·.1) = false := by rfl) (hdb : (x == ("__debug__" : Str)) = false := by decide) :
    PE X (.Call (.Attribute (.Name x p1) "__init__" p2) (e :: es) [] pos) (tIni X.K iid ta) := by
  refine ⟨fun pins s σ H Q I h => ?_⟩
  refine PySem.W.methodCall_KW (ld_glob I hg hm ?_ hdb) hc
  refine PySem.W.method_cls I.kIn ci.ga (PySem.W.cls_value I.kIn ci.rd ci.val hh ?_)
  show wpAny _ _ (callWith pos (Value.builtin iid) [] (backTo pos (starEach (e :: es) X.env)) []) _ _ _
  exact PyProof.Rows.callWith_method1 (thn (ha.run pos pins _ σ H _ (I.tok _) h) fun us s1 ⟨vs, H1, I1, r1, q⟩ => ini_tail (pl := []) I1 r1 q) he hpl
/-- the same, D a built-in class -/
theorem pe_iniB {pl : Sem Bool} {T0 : String} (hg : Gl X x) (hm : X.mg x = none) (hbt : bootBuiltins x = some (.type T0)) (ht : typeOf (.type T0) = pure (.type "type")) (hst : Manifest.isStub T0 = false) (vV : PySem.W.findCls X.K (.type T0) (.type "type") "__init__" = some (.val (.builtin iid))) (ha : PA X (e :: es) ta)
    (hh : PySem.W.handedIn (.builtin iid) = true := by decide +kernel)
    (hc : eval (.Call (.Attribute (.Name x p1) "__init__" p2) (e :: es) [] pos) X.env = (do
      let ov ← eval (.Name x p1) X.env
      standAt p2.atName
      let (f, first) ← holding [ov] (getMethod ov "__init__" pl)
      callWith pos f first (backTo pos (starEach (e :: es) X.env)) (backToKw pos (keywordEach [] X.env))) := by rfl)
    (he : starEach (e :: es) X.env = (false, eval e X.env) :: starEach es X.env := by rfl) (hpl : (backTo pos (starEach es X.env)).any (·.1) = false := by rfl) (hnn : x ≠ "__name__" := by decide) (hdb : (x == ("__debug__" : Str)) = false := by decide) :
    PE X (.Call (.Attribute (.Name x p1) "__init__" p2) (e :: es) [] pos) (tIni X.K iid ta) := by
  refine ⟨fun pins s σ H Q I h => ?_⟩
  refine PySem.W.methodCall_KW (ld_blt I hg hm hbt ?_ hnn hdb) hc
  obtain ⟨m, fr⟩ := I.fr
  refine PySem.W.method_type fr I.ok.mod.kin ht hst vV hh ?_
  show wpAny _ _ (callWith pos (Value.builtin iid) [] (backTo pos (starEach (e :: es) X.env)) []) _ _ _
  exact PyProof.Rows.callWith_method1 (thn (ha.run pos pins _ σ H _ (I.tok _) h) fun us s1 ⟨vs, H1, I1, r1, q⟩ => ini_tail (pl := []) I1 r1 q) he hpl
end
end XV

namespace XV
open PySem PySem.Spec PyProof.Rows L2
/-- an exception of the class at C, with its dict or without one -/
def ExAt (H : Hp) (a C : Addr) : Prop := ∃ d, H a = some (exo a C d) ∧ ∀ dx, d = some dx → ∃ fs, H dx = some (exd dx fs)
theorem ExAt.inst {X : Cx} {pins : List (Addr × Obj)} {σ : L2.St} {H : Hp} {s : Shared} {a C : Addr} (I : Inv X pins σ H s) (h : ExAt H a C) : ∃ (ox : Obj) (od : Option Obj), PySem.W.InstAt s.heap a ox C od := by
  obtain ⟨d, ea, ed⟩ := h
  obtain ⟨t1, ho⟩ := exo_at I.hok ea
  cases d with
  | none => exact ⟨_, none, ⟨ho, rfl, rfl, trivial⟩⟩
  | some dx =>
    obtain ⟨fs, e2⟩ := ed dx rfl
    obtain ⟨mA, ⟨o, es, ep, h1, h2⟩, rel⟩ := exd_at I.hok e2
    exact ⟨_, some o, ⟨ho, rfl, rfl, h1⟩⟩
/-- isinstance(e, c), e such an exception -/
def rIsX (K : PySem.W.Frag) : List V → Hp → VK → Prop := fun xs H Q => ∃ (a C : Addr) (c : V) (cv : Value) (b : Bool), xs = [.ref a, c] ∧ ExAt H a C ∧ ExcC K C ∧ ClsV c cv ∧ PySem.W.kitOne K (.ref C) cv = some b ∧ Q (.bl b) H
theorem hasDict_cls {K : PySem.W.Frag} {C : Addr} (h : PySem.W.hasDictIn K C = true) : (PySem.W.clsIn K C).isSome = true := by
  unfold PySem.W.hasDictIn at h
  cases e : PySem.W.clsIn K C with
  | none => rw [e] at h; exact absurd h (by decide)
  | some c => rfl
theorem call_isX {X : Cx} : CallR X (.builtin "isinstance") (rIsX X.K) := by
  intro pins s σ H xs us Q I r h
  obtain ⟨a, C, c, cv, b, rfl, hx, T, k, e, q⟩ := h
  obtain ⟨u1, u2, rfl, r1, r2⟩ := vals2 r
  cases (show u1 = Value.ref a from r1)
  have e2 := k.eq r2
  subst e2
  obtain ⟨ox, od, J⟩ := hx.inst I
  exact PySem.W.kia_one (PySem.W.kitx_exc (hasDict_cls T.hd) T.hg T.hk T.hs T.ha T.hn T.ht T.hm) I.kIn J e (fun z => nomatch z) fun tk => ⟨.bl b, H, I.tok tk, rfl, q⟩
/-- e.f, e such an exception -/
def tXfv (K : PySem.W.Frag) (f : Str) (te : TE) : TE := fun σ H Q => te σ H fun x H1 => ∃ (a C d : Addr) (fs : List (Str × V)) (v : V), x = .ref a ∧ XfC K C ∧ PySem.W.findIn K (.ref C) f = some none ∧ H1 a = some (exo a C (some d)) ∧ H1 d = some (exd d fs) ∧ fs.lookup f = some v ∧ Q v H1
theorem pe_xfv {X : Cx} {e : Expr} {te : TE} {pos : Pos} {f : Str} (he : PE X e te) (hb : attributeBase e f X.env (eval e X.env) = eval e X.env := by rfl) : PE X (.Attribute e f pos) (tXfv X.K f te) := by
  refine ⟨fun pins s σ H Q I h => ?_⟩
  refine attr_of hb (thn (he.run pins s σ H _ I h) fun u s1 ⟨x, H1, I1, rx, a, C, d, fs, v, ex, T, hno, ea, ed, l, q⟩ => ?_)
  subst ex
  obtain rfl : u = Value.ref a := rx
  obtain ⟨t1, ho⟩ := exo_at I1.hok ea
  obtain ⟨mA, hns, rel⟩ := exd_at I1.hok ed
  obtain ⟨od, h2, hl⟩ := lookIn_ns hns
  obtain ⟨u, hu, ru⟩ := RelO.some_of (v := v) (o := mA f) (by rw [← l]; exact rel f)
  have J : PySem.W.InstAt s1.heap a ({ cls := .ref C, dict := some d, data := .fields #[.ref t1, .none, .none, .none, .bool false, .none] } : Obj) C (some od) := ⟨ho, rfl, rfl, h2⟩
  exact HandSPX.exc_get I1.kIn J T.ga T.gg T.exC (PySem.W.findObj_own T.hdC hno rfl (by rw [hl, hu])) (handed_of ru) ⟨v, H1, I1.tok _, ru, q⟩
end XV

/-! lambdas as values: made, handed on, called from anywhere; what they captured stands locked in the abstract heap -/
namespace XL
open PySem PySem.Spec PyProof.Rows L2 LamX NdefX
/-- the object at f is the lambda F with the body b -/
def LamO (f : Addr) (F : NF) (b : Expr) : HO := .ext fun h => ∃ (od : Option Addr) (sl : Array (Option Value)) (pm ctv : Value),
  h.get? f = some (⟨.type "function", od, .func (PySem.W.kla_fn "<lambda>" F.qual F.params b F.scope F.cl pm (.ref F.c) ctv), sl⟩ : Obj)
theorem lamO_at {P : Program} {w : World} {H : Hp} {h : Heap} {f : Addr} {F : NF} {b : Expr} (hok : HOk P w H h) (e : H f = some (LamO f F b)) : ∃ (od : Option Addr) (sl : Array (Option Value)) (pm ctv : Value),
    h.get? f = some (⟨.type "function", od, .func (PySem.W.kla_fn "<lambda>" F.qual F.params b F.scope F.cl pm (.ref F.c) ctv), sl⟩ : Obj) := by
  obtain ⟨z, _, _⟩ := hok f _ e
  exact z
/-- the words of a lambda that the frame X makes -/
abbrev lamF (X : Cx) (params : Arguments) (scope : Scope) (c' : Addr) : NF := ⟨"<lambda>", X.env.qual ++ "<lambda>", params, [], scope, cloFrom X.env.cells scope.names [], c'⟩
section
variable {X : Cx} {pins : List (Addr × Obj)} {σ : L2.St} {H : Hp} {s : Shared}
theorem inv_lam {F : NF} {b : Expr} {o : Obj} {t' : Nat} {pm ctv : Value} (I : Inv X pins σ H s) (ho : o = { cls := .type "function", data := .func (PySem.W.kla_fn "<lambda>" F.qual F.params b F.scope F.cl pm (.ref F.c) ctv) }) :
    Inv X pins σ (upd H s.heap.objs.size (LamO s.heap.objs.size F b)) { s with heap := s.heap.push o, toks := t' } := by
  subst ho
  refine I.laid (a := s.heap.objs.size) (fun b u e => Heap.get?_push_of_some _ e) (Nat.le_refl _) ?_
  have e : (s.heap.push ({ cls := .type "function", data := .func (PySem.W.kla_fn "<lambda>" F.qual F.params b F.scope F.cl pm (.ref F.c) ctv) } : Obj)).get? s.heap.objs.size = some _ := Heap.get?_push_size _ rfl
  exact ⟨⟨_, _, pm, ctv, e⟩, ⟨_, e⟩, fun h1 h2 ⟨od, sl, p, t, z⟩ st => ⟨od, sl, p, t, st _ z⟩⟩
theorem lam_mk {T : List NTab} {nm : Nat → Nat → Str} {c P : Addr} {params : Arguments} {body : Expr} {scope : Scope} {pos : Pos} {E : Value → Shared → Prop} {Q : Value → Shared → Prop} (I : Inv X pins σ H s) (TB : TabB X.base X.mg c P) (hcode : X.env.code = .ref c)
    (hm : (P, nm) ∈ T) (hn : nm pos.line pos.col = X.env.qual ++ "<lambda>") (hu : ∀ p ∈ T, p.1 = P → p.2 = nm) (hT : TabsN T H) (hdef : defaultsOf params X.env = ([], [])) (hfree : ∀ y ∈ scope.names, y.2 = .free → ∃ c, X.env.cells.lookup y.1 = some c)
    (h : ∀ (f c' : Addr) (H1 : Hp) (s' : Shared), Inv X pins σ H1 s' → ExtN H H1 → (∀ b, H1 b = Option.none → H b = Option.none) → TabsN T H1 → H f = none → H1 f = some (LamO f (lamF X params scope c') body) → H1 c' = some (CodeO c' (X.env.qual ++ "<lambda>")) → Q (.ref f) s') :
    wpAny (model X.prog X.w) X.A (eval (.Lambda params body scope pos) X.env) Q E s := by
  obtain ⟨ps, hP, ht, ha⟩ := (show TabN H P nm from hT _ hm)
  have bP : s.heap.BuiltinsAt X.mg P := TB.bm.keeps I.bk
  have hP' : s.heap.get? P = some { cls := .none, data := .fields ps } := I.hok P _ hP
  refine PySem.W.kla_eval hdef ?_
  cases hc : codeAmong pos ps.toList with
  | none =>
    refine PySem.W.kla_makeFunction (mg := X.mg) (c := c) (P := P) (ps := ps) (closure_ok hfree) I.ok.glob (I.mod.glob.keeps I.bk) hcode (TB.code.keeps I.bk) hP' ht hc TB.gP bP fun c' ctv h' tk hx hge hlt hrec htb => ?_
    obtain ⟨c2, oc, vs, t, e2, hoc, hd, hv⟩ := hrec
    cases e2
    have nC : H c' = none := I.hok.fresh hge
    have I1 := inv_table (t' := tk) (q := X.env.qual ++ "<lambda>") (more := #[rawInt pos.line, rawInt pos.col, .ref c']) (h' := h') I hP (fun b o hb e => hx b o hb e) htb hge ⟨oc, vs, t, hoc, hd, hv⟩
    have hE : ExtN H (upd (upd H P (.tbl (ps ++ #[rawInt pos.line, rawInt pos.col, .ref c']))) c' (CodeO c' (X.env.qual ++ "<lambda>"))) := fun b o e n => by
      rw [upd_ne (ne_of_none e nC), upd_ne (fun z => n ps (Option.some.inj (e.symm.trans (by rw [z]; exact hP))))]
      exact e
    have eL : (ps ++ #[rawInt pos.line, rawInt pos.col, .ref c']).toList = ps.toList ++ [rawInt pos.line, rawInt pos.col, .ref c'] := by simp
    have T1 : TabsN T (upd (upd H P (.tbl (ps ++ #[rawInt pos.line, rawInt pos.col, .ref c']))) c' (CodeO c' (X.env.qual ++ "<lambda>"))) := fun p hp => by
      by_cases hb : p.1 = P
      · rw [hu p hp hb, hb]
        refine ⟨_, by rw [upd_ne (ne_of_none hP nC), upd_same], by rw [eL]; exact PySem.TriplesOk_snoc _ _ _ _ ht, fun p' cv hcv => ?_⟩
        rw [eL] at hcv
        rcases among_app2 _ ht hcv with z | ⟨z, z1, z2⟩
        · obtain ⟨c0, e1, e2⟩ := ha p' cv z
          exact ⟨c0, e1, hE _ _ e2 codeO_ne⟩
        · refine ⟨c', z, ?_⟩
          rw [← z1, ← z2, hn]
          exact upd_same
      · obtain ⟨ps', a1, a2, a3⟩ := hT p hp
        refine ⟨ps', by rw [upd_ne (ne_of_none a1 nC), upd_ne hb]; exact a1, a2, fun p' cv hcv => ?_⟩
        obtain ⟨c0, e1, e2⟩ := a3 p' cv hcv
        exact ⟨c0, e1, hE _ _ e2 codeO_ne⟩
    have nF := I1.hok.fresh (Nat.le_refl _)
    have I2 := inv_lam (F := lamF X params scope c') (b := body) (t' := tk) (pm := (X.mg "__name__").getD .none) (ctv := ctv) I1 rfl
    refine h h'.objs.size c' _ _ I2 (fun b o e n => ?_) (fun b e => upd_none (upd_none (upd_none e))) (T1.ext fun b o e => ?_) (I.hok.fresh (Nat.le_trans hge (Nat.le_of_lt hlt))) upd_same ?_
    · have e1 := hE b o e n
      exact (upd_ne (ne_of_none e1 nF)).trans e1
    · exact (upd_ne (ne_of_none e nF)).trans e
    · exact (upd_ne (Nat.ne_of_lt hlt)).trans upd_same
  | some cv =>
    obtain ⟨c', e, hco⟩ := ha pos cv hc
    subst e
    rw [hn] at hco
    refine PySem.W.kla_makeFunctionHit (mg := X.mg) (c := c) (P := P) (ps := ps) (closure_ok hfree) I.ok.glob (I.mod.glob.keeps I.bk) hcode (TB.code.keeps I.bk) hP' ht hc bP fun ctv h' tk hx hsz => ?_
    have I1 : Inv X pins σ H { s with heap := h', toks := tk } := I.kept hx
    have nF : H h'.objs.size = none := I1.hok.fresh (Nat.le_refl _)
    have I2 := inv_lam (F := lamF X params scope c') (b := body) (t' := tk) (pm := (X.mg "__name__").getD .none) (ctv := ctv) I1 rfl
    refine h h'.objs.size c' _ _ I2 (fun b o e n => ?_) (fun b e => upd_none e) (hT.ext fun b o e => ?_) nF upd_same ?_
    · exact (upd_ne (ne_of_none e nF)).trans e
    · exact (upd_ne (ne_of_none e nF)).trans e
    · exact (upd_ne (ne_of_none hco nF)).trans hco
end
/-- lambda ..: e, as a value -/
def tLamV (T : List NTab) (mk : Addr → NF) (b : Expr) : TE := fun _ H Q => TabsN T H ∧ ∀ (f c' : Addr) (H1 : Hp), ExtN H H1 → (∀ x, H1 x = Option.none → H x = Option.none) → TabsN T H1 → H f = none → H1 f = some (LamO f (mk c') b) → H1 c' = some (CodeO c' (mk c').qual) → Q (.ref f) H1
theorem pe_lam {X : Cx} {T : List NTab} {nm : Nat → Nat → Str} {c P : Addr} {params : Arguments} {body : Expr} {scope : Scope} {pos : Pos} (TB : TabB X.base X.mg c P) (hcode : X.env.code = .ref c) (hm : (P, nm) ∈ T) (hn : nm pos.line pos.col = X.env.qual ++ "<lambda>") (hu : ∀ p ∈ T, p.1 = P → p.2 = nm)
    (hfree : ∀ y ∈ scope.names, y.2 = .free → X.env.scope.names.lookup y.1 = some .cell ∨ X.env.scope.names.lookup y.1 = some .free) (hdef : defaultsOf params X.env = ([], []) := by rfl) : PE X (.Lambda params body scope pos) (tLamV T (lamF X params scope) body) := by
  refine ⟨fun pins s σ H Q I ⟨hT, h⟩ => ?_⟩
  exact lam_mk I TB hcode hm hn hu hT hdef (fun y hy e => (hfree y hy e).elim (fun z => I.ok.has _ (.inl z)) fun z => I.ok.has _ (.inr z)) fun f c' H1 s' J e1 e2 e3 e4 e5 e6 => ⟨.ref f, H1, J, rfl, h f c' H1 e1 e2 e3 e4 e5 e6⟩
/-- the promise of the lambda at f: sp ws, ws what its captured cells hold at the call -/
structure LOk (P : Program) (w : World) (K : PySem.W.Frag) (mg : Str → Option Value) (base : Heap) (CX : CXT) (k : Nat) (f : Addr) (F : NF) (b : Expr) (ps fr : List Str) (sp : List (Option V) → Sp) : Prop where
  len : ∀ ws vs H Q E, sp ws vs H Q E → vs.length = ps.length
  run : ∀ (A : Around) (outer : List Env) (s : Shared) (H : Hp) (us : List Value) (vs : List V) (ws : List (Option V)) (Q : VK) (E : XK), Room k A → Env0 P w K mg base A outer s H → H f = some (LamO f F b) → H F.c = some (CodeO F.c F.qual) →
    CellsAt F.cl fr ws s.heap H → Vals vs us → sp ws vs H Q E → codeAny (model P w) A (.call (.ref f) ⟨us, []⟩) (CR CX outer P w H s Q E) s
section
variable {CX : CXT} {P : Program} {w : World} {K : PySem.W.Frag} {mg : Str → Option Value} {base : Heap} {N ps fr : List Str} {F : NF} {b : Expr} {f : Addr} {k j : Nat} {sp sp' : List (Option V) → Sp}
theorem LOk.mono (o : LOk P w K mg base CX j f F b ps fr sp) (h : j ≤ k) : LOk P w K mg base CX k f F b ps fr sp := ⟨o.len, fun A outer s H us vs ws Q E hr => o.run A outer s H us vs ws Q E (hr.mono h)⟩
theorem lok_of (S : NScope N ps fr F.scope) (hb : ∀ (pm ctv : Value) (us : List Value), us.length = ps.length → bindArgs (PySem.W.kla_fn "<lambda>" F.qual F.params b F.scope F.cl pm (.ref F.c) ctv) ⟨us, []⟩ = pure (ps.zip us)) (len : ∀ ws vs H Q E, sp ws vs H Q E → vs.length = ps.length)
    (hbody : ∀ (A : Around) (outer : List Env) (s : Shared) (H : Hp) (vs : List V) (ws : List (Option V)) (Q : VK) (E : XK), Room k (A.deeper (envF F f s.heap.objs.size)) → H f = some (LamO f F b) → H F.c = some (CodeO F.c F.qual) → ws.length = fr.length → sp ws vs H Q E →
      ∃ t, PE (ncx CX P w K mg base N F f A outer s H E) b t ∧ t (startF N vs ws) H Q) : LOk P w K mg base CX (k + 1) f F b ps fr sp := by
  refine ⟨len, fun A outer s H us vs ws Q E hr e0 hf hc C r hsp => ?_⟩
  have hl := len _ _ _ _ _ hsp
  have lim : s.heap.NoLimit := e0.mod.nolimit.keeps fun b o e => (e0.bs b o e).1
  obtain ⟨od, sl, pm, ctv, ho⟩ := lamO_at e0.hok hf
  refine PySem.W.kla_callFunE hr.depth ho rfl S.co S.gen rfl (codeO_at e0.hok hc) ?_
  rw [hb pm ctv us (by rw [← r.length]; exact hl)]
  refine wpAny_pure (wpAny_newFunctionEnv S.nocell (fun ⟨n, _⟩ hy => S.par n (List.of_mem_zip hy).1) (fun h₁ hns hsb => ⟨lim.fresh _ hsb, ?_⟩) S.kind)
  show codeAny _ _ (.expr b (envF F f s.heap.objs.size)) _ _
  have kp : ∀ b o, s.heap.get? b = some o → h₁.get? b = some o := fun b o e => hsb.extBut b o (Nat.ne_of_lt (Heap.lt_size e)) (Heap.get?_push_of_some _ e)
  obtain ⟨t, ht, hq⟩ := hbody A outer s H vs ws Q E (hr.deeper _) hf hc C.len hsp
  have I : Inv (ncx CX P w K mg base N F f A outer s H E) [] (startF N vs ws) H { s with heap := h₁, toks := s.toks + (ps.zip us).length } := inv_startN S hr.hd e0 hl r C hns kp
  refine PySem.W.kla_codeExpr (wpAny_mono (ht.run [] _ (startF N vs ws) H Q I hq) (fun v s' hs => ?_) fun e s' hs => hs)
  obtain ⟨v, H', J, rv, q⟩ := hs
  exact ⟨v, H', J.os, J.bare, J.base, J.hok, rv, q⟩
end
end XL

namespace XL
open PySem PySem.Spec PyProof.Rows L2 LamX NdefX
/-! ### locked cells -/
abbrev cellX : HO := .ext fun _ => True
/-- at c: a cell that holds v, locked -/
def CellT (H : Hp) (c : Addr) (v : V) : Prop := ∃ (o : Obj) (u : Value), H c = some (.frz o cellX) ∧ o.data = .cell (some u) ∧ RelV v u
/-- the abstract heap without the addresses cs; with them as they stand in H -/
def off (cs : List Addr) (H : Hp) : Hp := fun b => if b ∈ cs then none else H b
def on (cs : List Addr) (H H' : Hp) : Hp := fun b => if b ∈ cs then H b else H' b
theorem off_in {cs : List Addr} {H : Hp} {b : Addr} (h : b ∈ cs) : off cs H b = none := if_pos h
theorem off_out {cs : List Addr} {H : Hp} {b : Addr} (h : b ∉ cs) : off cs H b = H b := if_neg h
theorem on_in {cs : List Addr} {H H' : Hp} {b : Addr} (h : b ∈ cs) : on cs H H' b = H b := if_pos h
theorem on_out {cs : List Addr} {H H' : Hp} {b : Addr} (h : b ∉ cs) : on cs H H' b = H' b := if_neg h
theorem off_nil {H : Hp} : off [] H = H := by funext b; exact if_neg (by simp)
theorem on_nil {H H' : Hp} : on [] H H' = H' := by funext b; exact if_neg (by simp)
/-- cs are locked -/
def Lk (cs : List Addr) (H : Hp) : Prop := ∀ c ∈ cs, ∃ o, H c = some (.frz o cellX)
section
variable {cs : List Addr} {P : Program} {w : World} {K : PySem.W.Frag} {mg : Str → Option Value} {base : Heap} {A : Around} {outer : List Env} {s s' : Shared} {H H' : Hp} {h : Heap}
theorem Lk.out (l : Lk cs H) {b : Addr} {u : HO} (e : H b = some u) (n : ∀ o v, u ≠ .frz o v) : b ∉ cs := fun z => by
  obtain ⟨o, q⟩ := l b z
  rw [e] at q
  exact n _ _ (Option.some.inj q)
theorem Lk.outN (l : Lk cs H) {b : Addr} (e : H b = none) : b ∉ cs := fun z => by
  obtain ⟨o, q⟩ := l b z
  rw [e] at q
  cases q
theorem hok_off (l : Lk cs H) (x : HOk P w H h) : HOk P w (off cs H) h := fun b u e => by
  by_cases hb : b ∈ cs
  · rw [off_in hb] at e
    cases e
  · rw [off_out hb] at e
    exact (x b u e).stay (fun _ _ _ q => q) (fun c q => by rw [off_out (l.out q fun _ _ z => by cases z)]; exact q) fun c xs q => by rw [off_out (l.out q fun _ _ z => by cases z)]; exact q
theorem env_off (l : Lk cs H) (e : Env0 P w K mg base A outer s H) : Env0 P w K mg base A outer s (off cs H) :=
  ⟨e.frames, e.mod, fun b o q => ⟨(e.bs b o q).1, by rw [off_out (l.outN (e.bs b o q).2)]; exact (e.bs b o q).2⟩, e.bsz, e.funs, fun b hb => by rw [off_out (l.outN (e.frf b hb))]; exact e.frf b hb, hok_off l e.hok, e.bare⟩
theorem un_on {fs : List Addr} {hs hs' : Heap} (l : Lk cs H) (u : Un fs [] (off cs H) H' hs hs') : Un fs [] H (on cs H H') hs hs' where
  keep := fun b o q n hf hx => u.keep b o q (by rw [off_out (l.outN n)]; exact n) hf hx
  slot := fun b o q n hf hx => u.slot b o q (by rw [off_out (l.outN n)]; exact n) hf hx
  free := fun b o q n hx => by rw [on_out (l.outN n)]; exact u.free b o q (by rw [off_out (l.outN n)]; exact n) hx
  there := u.there
  tups := fun b xs q => by
    have hb := l.out q fun _ _ z => by cases z
    rw [on_out hb]
    exact u.tups b xs (by rw [off_out hb]; exact q)
  frzs := fun b o v q => by
    by_cases hb : b ∈ cs
    · rw [on_in hb]
      exact q
    · rw [on_out hb]
      exact u.frzs b o v (by rw [off_out hb]; exact q)
  tbls := fun b ps q => by
    have hb := l.out q fun _ _ z => by cases z
    rw [on_out hb]
    exact u.tbls b ps (by rw [off_out hb]; exact q)
theorem hok_on {fs : List Addr} {hs hs' : Heap} (l : Lk cs H) (x : HOk P w H hs) (u : Un fs [] (off cs H) H' hs hs') (nf : ∀ b ∈ fs, b ∉ cs) (y : HOk P w H' hs') : HOk P w (on cs H H') hs' := fun b v e => by
  have none' : ∀ {c : Addr}, c ∈ cs → H' c = none := fun {c} hc => by
    obtain ⟨o, q⟩ := l c hc
    obtain ⟨ho, _⟩ := x c _ q
    exact u.free c o ho (off_in hc) (by simp)
  by_cases hb : b ∈ cs
  · rw [on_in hb] at e
    obtain ⟨o, q⟩ := l b hb
    rw [q] at e
    cases e
    obtain ⟨ho, _⟩ := x b _ q
    have h2 := u.keep b o ho (off_in hb) (fun z => nf b z hb) (by simp)
    exact ⟨h2, True.intro, ⟨o, h2⟩, fun _ _ _ _ => True.intro⟩
  · rw [on_out hb] at e
    refine (y b v e).stay (fun _ _ _ q => q) (fun c q => ?_) fun c xs q => ?_
    · rw [on_out (fun z => by rw [none' z] at q; cases q)]
      exact q
    · rw [on_out (fun z => by rw [none' z] at q; cases q)]
      exact q
theorem ce_on (l : Lk cs H) (e : Env0 P w K mg base A outer s H) {Q : VK} {u : Value} (c : CE outer P w (off cs H) s (fun v H' => Q v (on cs H H')) u s') : CE outer P w H s Q u s' := by
  obtain ⟨v, H', os, bare, un, hok, r, q⟩ := c
  exact ⟨v, on cs H H', os, bare, un_on l un, hok_on l e.hok un (fun b hb => l.outN (e.frf b hb)) hok, r, q⟩
end
/-! ### what may be called -/
/-- the lambda F stands at f, its captured names fr hold ws, locked -/
structure LamAt (H : Hp) (f : Addr) (F : NF) (b : Expr) (fr : List Str) (ws : List V) : Prop where
  fn : H f = some (LamO f F b)
  cd : H F.c = some (CodeO F.c F.qual)
  lk : ∀ y c, F.cl.lookup y = some c → ∃ v, CellT H c v
  inj : ∀ x y c, F.cl.lookup x = some c → F.cl.lookup y = some c → x = y
  len : ws.length = fr.length
  has : ∀ (i : Nat) (y : Str), fr[i]? = some y → ∃ c, F.cl.lookup y = some c ∧ ∀ v, ws[i]? = some v → CellT H c v
/-- the addresses of its cells -/
def csOf (F : NF) : List Addr := F.cl.filterMap fun p => F.cl.lookup p.1
theorem csOf_mem {F : NF} {c : Addr} (h : c ∈ csOf F) : ∃ y, F.cl.lookup y = some c := by
  obtain ⟨p, _, e⟩ := List.mem_filterMap.mp h
  exact ⟨p.1, e⟩
theorem csOf_has {F : NF} {y : Str} {c : Addr} (e : F.cl.lookup y = some c) : c ∈ csOf F := List.mem_filterMap.mpr ⟨(y, c), PySem.mem_of_lookup e, e⟩
theorem csOf_nil {F : NF} (h : F.cl = []) : csOf F = [] := by unfold csOf; rw [h] <;> rfl
/-- a call of the object at f keeps the promise sp, by at most level k -/
def Cbl (P : Program) (w : World) (K : PySem.W.Frag) (mg : Str → Option Value) (base : Heap) (CX : CXT) (k : Nat) (f : Addr) (sp : Sp) : Prop :=
  ∀ (A : Around) (outer : List Env) (s : Shared) (H : Hp) (us : List Value) (vs : List V) (Q : VK) (E : XK), Room k A → Env0 P w K mg base A outer s H → Vals vs us → sp vs H Q E →
    PySem.W.FnAt f s.heap ∧ codeAny (model P w) A (.call (.ref f) ⟨us, []⟩) (CR CX outer P w H s Q E) s
/-- what is asked of a lambda's call, the cells locked around it -/
def spLam (f : Addr) (F : NF) (b : Expr) (fr : List Str) (sp : List (Option V) → Sp) : Sp := fun vs H Q _ => ∃ ws, LamAt H f F b fr ws ∧ sp (ws.map some) vs (off (csOf F) H) (fun v H' => Q v (on (csOf F) H H')) (fun _ _ _ => False)
theorem LamAt.locked {H : Hp} {f : Addr} {F : NF} {b : Expr} {fr : List Str} {ws : List V} (l : LamAt H f F b fr ws) : Lk (csOf F) H := fun c hc => by
  obtain ⟨y, e⟩ := csOf_mem hc
  obtain ⟨v, o, u, q, _⟩ := l.lk y c e
  exact ⟨o, q⟩
theorem lamO_ne {f : Addr} {F : NF} {b : Expr} (o : Obj) (v : HO) : LamO f F b ≠ .frz o v := fun z => by
  unfold LamO at z
  cases z
theorem codeO_nf {c : Addr} {q : Str} (o : Obj) (v : HO) : CodeO c q ≠ .frz o v := fun z => by
  unfold CodeO at z
  cases z
theorem cbl_of {P : Program} {w : World} {K : PySem.W.Frag} {mg : Str → Option Value} {base : Heap} {k : Nat} {f : Addr} {F : NF} {b : Expr} {ps fr : List Str} {sp : List (Option V) → Sp} {CX : CXT} (hX : ∀ outer H s e s', ¬ CX outer H s (fun _ _ _ => False) e s')
    (o : LOk P w K mg base CX k f F b ps fr sp) : Cbl P w K mg base CX k f (spLam f F b fr sp) := fun A outer s H us vs Q E hr e0 r ⟨ws, l, h⟩ => by
  have lk := l.locked
  obtain ⟨od, sl, pm, ctv, ho⟩ := lamO_at e0.hok l.fn
  refine ⟨⟨_, od, _, sl, ho⟩, ?_⟩
  have hC : CellsAt F.cl fr (ws.map some) s.heap (off (csOf F) H) := by
    refine ⟨by rw [List.length_map]; exact l.len, fun y c e => ?_, l.inj, fun i y e => ?_⟩
    · obtain ⟨v, o, u, q, d, _⟩ := l.lk y c e
      obtain ⟨hg, _⟩ := e0.hok c _ q
      exact ⟨off_in (csOf_has e), _, o, hg, d⟩
    · obtain ⟨c, hc, hv⟩ := l.has i y e
      refine ⟨c, hc, fun v ev => ?_⟩
      rw [List.getElem?_map] at ev
      cases ew : ws[i]? with
      | none => rw [ew] at ev; cases ev
      | some v' =>
        rw [ew] at ev
        cases ev
        obtain ⟨o, u, q, d, ru⟩ := hv v ew
        obtain ⟨hg, _⟩ := e0.hok c _ q
        exact ⟨u, ru, o, hg, d⟩
  refine codeAny_mono (o.run A outer s (off (csOf F) H) us vs (ws.map some) _ _ hr (env_off lk e0) (by rw [off_out (lk.out l.fn lamO_ne)]; exact l.fn) (by rw [off_out (lk.out l.cd codeO_nf)]; exact l.cd) hC r h) fun rr s' hq => ?_
  cases rr with
  | error e => exact absurd hq (hX _ _ _ _ _)
  | ok fl =>
    cases fl with
    | ret u => exact ce_on lk e0 hq
    | next => exact hq
    | brk => exact hq
    | cont => exact hq
/-- f(..), f the i-th name, which holds what may be called -/
def tCallF (X : Cx) (CX : CXT) (k i : Nat) (E : XK) (t : TA) : TE := fun σ H Q => ∃ (f : Addr) (F : NF) (b : Expr), σ[i]? = some (some (.ref f)) ∧ H f = some (LamO f F b) ∧ t σ H fun vs H1 => H1 f = some (LamO f F b) ∧ ∃ sp, Cbl X.prog X.w X.K X.mg X.base CX k f sp ∧ sp vs H1 Q E
section
variable {X : Cx} {CX : CXT} {i k : Nat} {x : Str} {E : XK} {t : TA} {e : Expr} {es : List Expr} {p pos : Pos}
theorem lam_fnAt {pins : List (Addr × Obj)} {σ : L2.St} {H : Hp} {s : Shared} {f : Addr} {F : NF} {b : Expr} (I : Inv X pins σ H s) (e : H f = some (LamO f F b)) : PySem.W.FnAt f s.heap := by
  obtain ⟨od, sl, pm, ctv, ho⟩ := lamO_at I.hok e
  exact ⟨_, od, _, sl, ho⟩
theorem run_cbl {pins : List (Addr × Obj)} {σ : L2.St} {H : Hp} {s : Shared} {Q : VK} {f : Addr} {us : List Value} {vs : List V} {sp : Sp} (C : Cbl X.prog X.w X.K X.mg X.base CX k f sp) (hr : Room k X.A) (hx : Passes CX X E) (I : Inv X pins σ H s) (r : Vals vs us) (q : sp vs H Q E) :
    wpAny (model X.prog X.w) X.A (call (.ref f) us) (EP X pins σ Q) X.xe s := by
  refine wpAny_call (codeAny_mono (C X.A X.stack s H us vs Q E hr I.env0 r q).2 fun r s' hq => ?_)
  cases r with
  | error e => exact hx pins σ H s e s' I hq
  | ok fl =>
    cases fl with
    | ret u => exact I.after hq
    | next => exact False.elim hq
    | brk => exact False.elim hq
    | cont => exact False.elim hq
theorem pe_callF (hr : Room k X.A) (hx : Passes CX X E) (hN : X.N[i]? = some x) (hv : Vis X.env.scope x) (ha : PA X (e :: es) t) (hd : (x == ("__debug__" : Str)) = false := by decide) (hcd : (x == ("__classdict__" : Str)) = false := by decide)
    (he : starEach (e :: es) X.env = (false, eval e X.env) :: starEach es X.env := by rfl) (hpl : (backTo pos (starEach es X.env)).any (·.1) = false := by rfl) : PE X (.Call (.Name x p) (e :: es) [] pos) (tCallF X CX k i E t) := by
  refine ⟨fun pins s σ H Q I h => ?_⟩
  obtain ⟨f, F, b, hs, hf, ht⟩ := h
  refine wpAny_Call_Name_kw (thn ((pe_var (pos := p) hN hv hd hcd).run pins s σ H (fun v H1 => v = .ref f ∧ H1 = H) I ⟨.ref f, hs, rfl, rfl⟩) fun u s1 ⟨v, H1, I1, r1, q1⟩ => ?_)
  obtain ⟨ev, eH⟩ := q1
  subst ev
  rw [eH] at I1
  obtain rfl : u = Value.ref f := r1
  refine PySem.W.callWith_F (first := []) (lam_fnAt I1 hf) (thn (ha.run pos pins s1 σ H _ I1 ht) fun us s2 ⟨vs, H2, I2, r, h1, sp, C, q⟩ => ⟨lam_fnAt I2 h1, ?_⟩) he hpl
  show wpAny _ _ (call (.ref f) us) _ _ _
  exact run_cbl C hr hx I2 r q
end
end XL

/-! defs of the text, used by their names -/
namespace UU
open PySem PySem.Spec PyProof.Rows L2
/-- the module's name x stands for a def that keeps sp -/
structure Use (P : Program) (w : World) (K : PySem.W.Frag) (mg : Str → Option Value) (base : Heap) (CX : CXT) (x : Str) (k : Nat) (ps : List Str) (sp : Sp) : Prop where
  ex : ∃ (f : Addr) (fd : FuncData), FnOk P w K mg base CX k f fd ps sp ∧ mg x = some (.ref f) ∧ PySem.W.keepIn K (.ref f) = true ∧ Binds K fd ps []
theorem Use.mono {P : Program} {w : World} {K : PySem.W.Frag} {mg : Str → Option Value} {base : Heap} {CX : CXT} {x : Str} {j k : Nat} {ps : List Str} {sp : Sp} (U : Use P w K mg base CX x j ps sp) (h : j ≤ k) : Use P w K mg base CX x k ps sp := by
  obtain ⟨f, fd, F, m, kp, b⟩ := U.ex
  exact ⟨f, fd, F.mono h, m, kp, b⟩
theorem Use.imp {P : Program} {w : World} {K : PySem.W.Frag} {mg : Str → Option Value} {base : Heap} {CX : CXT} {x : Str} {k : Nat} {ps : List Str} {sp sp' : Sp} (U : Use P w K mg base CX x k ps sp) (h : ∀ vs H Q E, sp' vs H Q E → sp vs H Q E) : Use P w K mg base CX x k ps sp' := by
  obtain ⟨f, fd, F, m, kp, b⟩ := U.ex
  exact ⟨f, fd, F.imp h, m, kp, b⟩
section
variable {X : Cx} {CX : CXT} {k j : Nat} {ps : List Str} {sp : Sp} {E : XK} {x : Str} {p pos : Pos} {e : Expr} {es : List Expr} {t : TA}
theorem pe_use (U : Use X.prog X.w X.K X.mg X.base CX x j ps sp) (hr : Room k X.A) (hj : j ≤ k) (hg : Gl X x) (hx : Passes CX X E) (ha : PA X (e :: es) t) (hdb : (x == ("__debug__" : Str)) = false := by decide)
    (he : starEach (e :: es) X.env = (false, eval e X.env) :: starEach es X.env := by rfl) (hpl : (backTo pos (starEach es X.env)).any (·.1) = false := by rfl) : PE X (.Call (.Name x p) (e :: es) [] pos) (tCall sp [] E t) := by
  obtain ⟨f, fd, F, m, kp, b⟩ := U.ex
  exact pe_call F (hr.mono hj) hg m kp b .nil hx ha hdb he hpl
end
/-- as FunD.binds for a def without defaults -/
theorem ubind {K : PySem.W.Frag} {x qual : Str} {params : Arguments} {body : List Stmt} {scope : Scope} {f : Addr} {fd : FuncData} {ps : List Str} (F : FunD K x qual params body scope [] [] f fd)
    (h : ∀ (dV kV doc pm : Value) (an : Option Addr) (cdv ct : Value) (us : List Value), us.length = ps.length → bindArgs (PySem.W.fnOf x qual params body scope dV kV doc pm an cdv ct) ⟨us, []⟩ = pure (ps.zip us)) : Binds K fd ps [] := by
  obtain ⟨oc, od, dV, kV, doc, pm, an, cdv, ct, osl, rfl, lk, hcd, _, _⟩ := F.ex
  exact .all (h dV kV doc pm an cdv ct)
end UU

/-! joining ways: a reading cut by what holds behind it -/
namespace UU
open PySem PySem.Spec PyProof.Rows L2
def tCut (te : TE) : TE := fun σ H Q => ∃ R : VK, te σ H R ∧ ∀ v H', R v H' → Q v H'
def tCutT (te : TT) : TT := fun σ H Q => ∃ R : Bool → Hp → Prop, te σ H R ∧ ∀ v H', R v H' → Q v H'
def tCutS (t : TS) : TS := fun D σ H => ∃ N : L2.St → Hp → Prop, t { D with nx := N } σ H ∧ ∀ σ' H', N σ' H' → D.nx σ' H'
section
variable {X : Cx}
theorem pe_cut {e : Expr} {te : TE} (h : PE X e te) : PE X e (tCut te) := ⟨fun pins s σ H Q I ⟨R, h1, h2⟩ => thn (h.run pins s σ H R I h1) fun u s' ⟨v, H', I', r, q⟩ => ⟨v, H', I', r, h2 v H' q⟩⟩
theorem pt_cut {e : Expr} {te : TT} (h : PT X e te) : PT X e (tCutT te) := ⟨fun pins s σ H Q I ⟨R, h1, h2⟩ => thn (h.run pins s σ H R I h1) fun u s' ⟨H', I', q⟩ => ⟨H', I', h2 _ H' q⟩⟩
theorem ps_cut {st : Stmt} {t : TS} (h : PS X st t) : PS X st (tCutS t) := ⟨fun pins s σ H D I ⟨N, h1, h2⟩ => thn (h.run pins s σ H _ I h1) fun f s' q => by
  cases f with
  | next =>
    obtain ⟨σ', H', J, q⟩ := q
    exact ⟨σ', H', J, h2 _ _ q⟩
  | brk => exact q
  | cont => exact q
  | ret u => exact q⟩
end
end UU

/-! data: None, truths, numbers, texts, lists and tuples of such -/
namespace UU
open PySem PySem.Spec PyProof.Rows L2
theorem Same.seqT {K : PySem.W.Frag} {H H' : Hp} {a : Addr} {xs : List V} (e : Same H H') (h : SqT K H a xs) : SqT K H' a xs := by
  rcases h with (h | ⟨o, h⟩) | h
  · exact .inl (.inl (e _ _ h))
  · exact .inl (.inr ⟨o, e _ _ h⟩)
  · exact .inr h
mutual
theorem dp_same {K : PySem.W.Frag} {H H' : Hp} (e : Same H H') : ∀ (d : PyData) (v : V), Dp K H v d → Dp K H' v d
  | .none, _, h => by cases h; exact .non
  | .bool b, _, h => by cases h; exact .bl _
  | .int i, _, h => by cases h; exact .int _
  | .str x, _, h => by cases h; exact .str _
  | .list ds, _, h => by
    cases h with
    | lst q ha => exact .lst (Same.seq e q) (dp_sameAll e ds _ ha)
  | .tuple ds, _, h => by
    cases h with
    | tup q ha => exact .tup (Same.seqT e q) (dp_sameAll e ds _ ha)
  | .dict kvs, _, h => by cases h
theorem dp_sameAll {K : PySem.W.Frag} {H H' : Hp} (e : Same H H') : ∀ (ds : List PyData) (vs : List V), DpAll K H vs ds → DpAll K H' vs ds
  | [], _, h => by cases h; exact .nil
  | d :: ds, _, h => by
    cases h with
    | cons h1 h2 => exact .cons (dp_same e d _ h1) (dp_sameAll e ds _ h2)
end
theorem dpa_len {K : PySem.W.Frag} {H : Hp} : ∀ {vs : List V} {ds : List PyData}, DpAll K H vs ds → vs.length = ds.length
  | _, _, .nil => rfl
  | _, _, .cons _ t => congrArg Nat.succ (dpa_len t)
theorem dpa_at {K : PySem.W.Frag} {H : Hp} : ∀ {vs : List V} {ds : List PyData} {i : Nat} {v : V}, DpAll K H vs ds → vs[i]? = some v → ∃ d, ds[i]? = some d ∧ Dp K H v d
  | _, _, _, _, .nil, e => by simp at e
  | _, _, 0, _, .cons h t, e => by simp at e; subst e; exact ⟨_, rfl, h⟩
  | _, _, i + 1, v, .cons h t, e => by
    obtain ⟨d, h1, h2⟩ := dpa_at (i := i) t (by simpa using e)
    exact ⟨d, by simpa using h1, h2⟩
/-- the built-in class of a datum -/
def tyS : PyData → String
  | .none => "NoneType" | .bool _ => "bool" | .int _ => "int" | .str _ => "str" | .list _ => "list" | .tuple _ => "tuple" | .dict _ => "dict"
theorem dp_ty {K : PySem.W.Frag} {H : Hp} {v : V} {d : PyData} (h : Dp K H v d) : TyX K H v (.type (tyS d)) := by
  cases h with
  | non => exact .base .non
  | bl b => exact .base (.bl b)
  | int i => exact .base (.int i)
  | str x => exact .base (.str x)
  | lst q _ =>
    rcases q with (q | ⟨o, q⟩) | ⟨o, its, n, h1, h2, _⟩
    · exact .base (.lst q)
    · exact .base (.frz q)
    · exact .kList h1 h2
  | tup q _ =>
    rcases q with (q | ⟨o, q⟩) | ⟨o, its, n, h1, h2, _⟩
    · exact .base (.tup q)
    · exact .fTuple q
    · exact .kTuple h1 h2
theorem same_upd {H : Hp} {a : Addr} {o : HO} (n : H a = none) : Same H (upd H a o) := fun b u e => by rw [upd_ne (ne_of_none e n)]; exact e
theorem same_trans {H H1 H2 : Hp} (a : Same H H1) (b : Same H1 H2) : Same H H2 := fun c o e => b c o (a c o e)
/-- isinstance of a datum of the class t against built-in classes -/
def isB (t : String) (cs : List String) : Bool := cs.any fun c => (kitB t c).getD false
def isKnown (t : String) (cs : List String) : Bool := cs.all fun c => (kitB t c).isSome
theorem kitAny_b {K : PySem.W.Frag} {t : String} : ∀ {cs : List String}, isKnown t cs = true → PySem.W.kitAny K (.type t) (cs.map Value.type) = some (isB t cs)
  | [], _ => kitAny_nil
  | c :: cs, h => by
    have h0 : ((kitB t c).isSome && isKnown t cs) = true := h
    obtain ⟨h1, h2⟩ := Bool.and_eq_true_iff.mp h0
    obtain ⟨b, hb⟩ := Option.isSome_iff_exists.mp h1
    have ih := kitAny_b (K := K) (t := t) (cs := cs) h2
    have e : isB t (c :: cs) = (b || isB t cs) := by
      show ((kitB t c).getD false || isB t cs) = _
      rw [hb] <;> rfl
    rw [e]
    refine kitAny_cons (b := b) (r := (b || isB t cs)) (kit_ty hb) (fun z => ?_) (fun z => ?_)
    · rw [z, Bool.false_or]
      exact ih
    · rw [z] <;> rfl
theorem clsV_all : ∀ cs : List String, Paired ClsV (cs.map V.ty) (cs.map Value.type)
  | [] => .nil
  | c :: cs => .cons (by first | exact ClsV.ty c | exact .ty | constructor) (clsV_all cs)
end UU

namespace UU
open PySem PySem.Spec PyProof.Rows L2
theorem pe_imp {X : Cx} {e : Expr} {t t' : TE} (h : PE X e t) (i : ∀ σ H Q, t' σ H Q → t σ H Q) : PE X e t' := ⟨fun pins s σ H Q I q => h.run pins s σ H Q I (i σ H Q q)⟩
theorem pt_imp {X : Cx} {e : Expr} {t t' : TT} (h : PT X e t) (i : ∀ σ H Q, t' σ H Q → t σ H Q) : PT X e t' := ⟨fun pins s σ H Q I q => h.run pins s σ H Q I (i σ H Q q)⟩
theorem ps_imp {X : Cx} {e : Stmt} {t t' : TS} (h : PS X e t) (i : ∀ D σ H, t' D σ H → t D σ H) : PS X e t' := ⟨fun pins s σ H D I q => h.run pins s σ H D I (i D σ H q)⟩
theorem callR_imp {X : Cx} {f : Value} {r r' : List V → Hp → VK → Prop} (h : CallR X f r) (i : ∀ xs H Q, r' xs H Q → r xs H Q) : CallR X f r' := fun pins s σ H xs us Q I rv q => h pins s σ H xs us Q I rv (i xs H Q q)
/-- isinstance(x, c), c a built-in class, x a datum -/
def rIsD (K : PySem.W.Frag) : List V → Hp → VK → Prop := fun xs H Q => ∃ (x : V) (n : String) (d : PyData), xs = [x, .ty n] ∧ Dp K H x d ∧ isKnown (tyS d) [n] = true ∧ Q (.bl (isB (tyS d) [n])) H
/-- isinstance(x, (c1, c2, ..)) -/
def rIsDT (K : PySem.W.Frag) : List V → Hp → VK → Prop := fun xs H Q => ∃ (x : V) (tp : Addr) (cs : List String) (d : PyData), xs = [x, .ref tp] ∧ H tp = some (.tup (cs.map V.ty)) ∧ Dp K H x d ∧ isKnown (tyS d) cs = true ∧ Q (.bl (isB (tyS d) cs)) H
theorem call_isD {X : Cx} : CallR X (.builtin "isinstance") (rIsD X.K) := callR_imp call_isi fun xs H Q ⟨x, n, d, ex, hd, hk, q⟩ =>
  ⟨x, .ty n, .type (tyS d), .type n, isB (tyS d) [n], ex, .ty n, dp_ty hd, by
    have h2 : PySem.W.kitAny X.K (.type (tyS d)) [Value.type n] = some (isB (tyS d) [n]) := kitAny_b (K := X.K) hk
    unfold PySem.W.kitAny at h2
    cases e : PySem.W.kitOne X.K (.type (tyS d)) (.type n) with
    | none => rw [e] at h2; cases h2
    | some b =>
      rw [e] at h2
      cases b with
      | true => exact h2
      | false =>
        rw [kitAny_nil] at h2
        exact h2, q⟩
theorem call_isDT {X : Cx} : CallR X (.builtin "isinstance") (rIsDT X.K) := callR_imp call_isiT fun xs H Q ⟨x, tp, cs, d, ex, ht, hd, hk, q⟩ =>
  ⟨x, tp, cs.map V.ty, .type (tyS d), cs.map Value.type, isB (tyS d) cs, ex, ht, clsV_all cs, dp_ty hd, kitAny_b hk, q⟩
end UU

namespace UU
open PySem PySem.Spec PyProof.Rows L2
/-- data nested at most n deep, each list of at most 100,000 items -/
def Sml : Nat → PyData → Prop
  | 0, .list _ => False
  | 0, .tuple _ => False
  | n + 1, .list ds => ds.length ≤ 100000 ∧ ∀ d ∈ ds, Sml n d
  | n + 1, .tuple ds => ds.length ≤ 100000 ∧ ∀ d ∈ ds, Sml n d
  | _, _ => True
/-- the promise of «whether two are equal and of the same kinds» -/
def spSame (K : PySem.W.Frag) (n : Nat) : Sp := fun vs H Q _ => ∃ (x y : V) (d e : PyData), vs = [x, y] ∧ Dp K H x d ∧ Dp K H y e ∧ Sml n e ∧ ∀ (b : Bool) (H' : Hp), (b = true ↔ d = e) → Same H H' → Q (.bl b) H'
def spSameR (K : PySem.W.Frag) : Nat → Sp
  | 0 => fun _ _ _ _ => False
  | n + 1 => spSame K n
theorem fn_false {P : Program} {w : World} {K : PySem.W.Frag} {mg : Str → Option Value} {base : Heap} {CX : CXT} {k : Nat} {f : Addr} {fd : FuncData} {ps : List Str} : FnOk P w K mg base CX k f fd ps (fun _ _ _ _ => False) :=
  ⟨fun _ _ _ _ z => z.elim, fun _ _ _ _ _ _ _ _ _ _ _ _ _ z => z.elim⟩
theorem sml_len {n : Nat} {ds : List PyData} (h : Sml (n + 1) (.list ds)) : ds.length ≤ 100000 ∧ ∀ d ∈ ds, Sml n d := h
theorem sml_lenT {n : Nat} {ds : List PyData} (h : Sml (n + 1) (.tuple ds)) : ds.length ≤ 100000 ∧ ∀ d ∈ ds, Sml n d := h
theorem seq_items {K : PySem.W.Frag} {H : Hp} {v : V} {ds : List PyData} (h : Dp K H v (.list ds)) : ∃ a vs, v = .ref a ∧ SqL K H a vs ∧ DpAll K H vs ds := by
  cases h with
  | lst q ha => exact ⟨_, _, rfl, q, ha⟩
theorem seq_itemsT {K : PySem.W.Frag} {H : Hp} {v : V} {ds : List PyData} (h : Dp K H v (.tuple ds)) : ∃ a vs, v = .ref a ∧ SqT K H a vs ∧ DpAll K H vs ds := by
  cases h with
  | tup q ha => exact ⟨_, _, rfl, q, ha⟩
/-- item by item -/
theorem all_iff {ds es : List PyData} (hl : ds.length = es.length) {bs : List Bool} (hb : bs.length = ds.length) (h : ∀ (i : Nat) (d e : PyData) (b : Bool), ds[i]? = some d → es[i]? = some e → bs[i]? = some b → (b = true ↔ d = e)) : (bs.all id = true) ↔ ds = es := by
  induction ds generalizing es bs with
  | nil =>
    cases es with
    | nil =>
      cases bs with
      | nil => exact ⟨fun _ => rfl, fun _ => rfl⟩
      | cons b bs => cases hb
    | cons e es => cases hl
  | cons d ds ih =>
    cases es with
    | nil => cases hl
    | cons e es =>
      cases bs with
      | nil => cases hb
      | cons b bs =>
        have h0 := h 0 d e b rfl rfl rfl
        have ih' := ih (es := es) (bs := bs) (Nat.succ.inj hl) (Nat.succ.inj hb) fun i d' e' b' a1 a2 a3 => h (i + 1) d' e' b' a1 a2 a3
        rw [List.all_cons]
        constructor
        · intro z
          obtain ⟨z1, z2⟩ := Bool.and_eq_true_iff.mp z
          rw [h0.mp z1, ih'.mp z2]
        · intro z
          injection z with z1 z2
          exact Bool.and_eq_true_iff.mpr ⟨h0.mpr z1, ih'.mpr z2⟩
end UU

namespace UU
open PySem PySem.Spec PyProof.Rows L2
def kL : PyData → Bool | .list _ => true | _ => false
def kT : PyData → Bool | .tuple _ => true | _ => false
def kB : PyData → Bool | .bool _ => true | _ => false
def kI : PyData → Bool | .bool _ => true | .int _ => true | _ => false
theorem isB_seq (d : PyData) : isB (tyS d) ["list", "tuple"] = (kL d || kT d) := by cases d <;> kernel_rfl
theorem isB_list (d : PyData) : isB (tyS d) ["list"] = kL d := by cases d <;> kernel_rfl
theorem isB_tup (d : PyData) : isB (tyS d) ["tuple"] = kT d := by cases d <;> kernel_rfl
theorem isB_bool (d : PyData) : isB (tyS d) ["bool"] = kB d := by cases d <;> kernel_rfl
theorem isB_int (d : PyData) : isB (tyS d) ["int"] = kI d := by cases d <;> kernel_rfl
theorem isB_bi (d : PyData) : isB (tyS d) ["bool", "int"] = kI d := by cases d <;> kernel_rfl
theorem isB_four (d : PyData) : isB (tyS d) ["bool", "int", "list", "tuple"] = (kI d || kL d || kT d) := by cases d <;> kernel_rfl
theorem kn_seq (d : PyData) : isKnown (tyS d) ["list", "tuple"] = true := by cases d <;> kernel_rfl
theorem kn_list (d : PyData) : isKnown (tyS d) ["list"] = true := by cases d <;> kernel_rfl
theorem kn_tup (d : PyData) : isKnown (tyS d) ["tuple"] = true := by cases d <;> kernel_rfl
theorem kn_bool (d : PyData) : isKnown (tyS d) ["bool"] = true := by cases d <;> kernel_rfl
theorem kn_int (d : PyData) : isKnown (tyS d) ["int"] = true := by cases d <;> kernel_rfl
theorem kn_bi (d : PyData) : isKnown (tyS d) ["bool", "int"] = true := by cases d <;> kernel_rfl
theorem kn_four (d : PyData) : isKnown (tyS d) ["bool", "int", "list", "tuple"] = true := by cases d <;> kernel_rfl
theorem int_cases {K : PySem.W.Frag} {H : Hp} {v : V} {d : PyData} (h : Dp K H v d) (k : kI d = true) : (∃ b, d = .bool b ∧ v = .bl b) ∨ ∃ i, d = .int i ∧ v = .int i := by
  cases h with
  | bl b => exact .inl ⟨b, rfl, rfl⟩
  | int i => exact .inr ⟨i, rfl, rfl⟩
  | _ => cases k
theorem flat_cases {K : PySem.W.Frag} {H : Hp} {v : V} {d : PyData} (h : Dp K H v d) (k : kI d = false) (k2 : (kL d || kT d) = false) : (d = .none ∧ v = .non) ∨ ∃ x, d = .str x ∧ v = .str x := by
  cases h with
  | non => exact .inl ⟨rfl, rfl⟩
  | str x => exact .inr ⟨x, rfl, rfl⟩
  | lst _ _ => cases k2
  | tup _ _ => cases k2
  | _ => cases k
theorem kI_ne {d e : PyData} (h1 : kI d = false) (h2 : kI e = true) : ¬ d = e := fun z => by rw [z, h2] at h1; cases h1
theorem kL_ne {d e : PyData} (h : ¬ kL d = kL e) : ¬ d = e := fun z => h (by rw [z])
theorem kT_ne {d e : PyData} (h : ¬ kT d = kT e) : ¬ d = e := fun z => h (by rw [z])
theorem ffalse {d e : PyData} (h : ¬ d = e) : (false = true ↔ d = e) := ⟨fun z => (Bool.false_ne_true z).elim, fun z => absurd z h⟩
theorem walk_zipT {K : PySem.W.Frag} {a b : Addr} {xs ys : List V} {n : Nat} (hn : n = min xs.length ys.length) : Walk (RZ.ItzT K a b) n (fun H => SqT K H a xs ∧ SqT K H b ys) (YPair (fun i => xs[i]?) (fun i => ys[i]?)) := by
  subst hn
  refine ⟨fun i H0 hi q => ?_, fun H0 q => ⟨xs, ys, q.1, q.2, by omega⟩, fun i H0 v H1 _ q z => ?_⟩
  · have g1 : i < xs.length := by omega
    have g2 : i < ys.length := by omega
    exact ⟨xs, ys, xs[i], ys[i], q.1, q.2, by simp [g1], by simp [g2]⟩
  · obtain ⟨t, x, y, e1, e2, e3, e4, e5⟩ := z
    exact ⟨t, x, y, e1, e2, e3, e4 xs q.1, e5 ys q.2⟩
/-- the turns of «item by item», over lists or tuples -/
def PvS (D : Addr) (H0 : Hp) (ds es : List PyData) (i : Nat) (H : Hp) : Prop := ∃ bs : List Bool, H D = some (.lst (bs.map V.bl)) ∧ bs.length = i ∧ (∀ (j : Nat) (d e : PyData) (b : Bool), ds[j]? = some d → es[j]? = some e → bs[j]? = some b → (b = true ↔ d = e)) ∧ Same H0 H
theorem pvS_step {D : Addr} {H0 H H1 : Hp} {ds es : List PyData} {i : Nat} {b : Bool} {d e : PyData} (hD : H0 D = none) (h : PvS D H0 ds es i H) (hs : Same H H1) (hd : ds[i]? = some d) (he : es[i]? = some e) (hb : b = true ↔ d = e) (hi : i < 100000) :
    ∃ acc, H1 D = some (.lst acc) ∧ acc.length < sizeLine ∧ PvS D H0 ds es (i + 1) (upd H1 D (.lst (acc ++ [V.bl b]))) := by
  obtain ⟨bs, e1, e2, e3, e4⟩ := h
  refine ⟨bs.map V.bl, hs _ _ e1, by rw [List.length_map, e2]; exact Nat.lt_of_lt_of_le hi (by decide), bs ++ [b], by rw [upd_same, List.map_append] <;> rfl, by rw [List.length_append, e2] <;> rfl, fun j d' e' b' h1 h2 h3 => ?_, fun c o z => ?_⟩
  · by_cases hj : j < bs.length
    · rw [List.getElem?_append_left hj] at h3
      exact e3 j d' e' b' h1 h2 h3
    · rw [List.getElem?_append_right (by omega)] at h3
      have h4 := (List.getElem?_eq_some_iff.mp h3).1
      have ej : j = i := by
        have : ([b] : List Bool).length = 1 := rfl
        omega
      subst ej
      rw [hd] at h1
      rw [he] at h2
      cases h1
      cases h2
      have : j - bs.length = 0 := by omega
      rw [this] at h3
      cases h3
      exact hb
  · rw [upd_ne (ne_of_none z hD)]
    exact hs _ _ (e4 c o z)
end UU

namespace UU
open PySem PySem.Spec PyProof.Rows L2 XV XL
section
variable {P : Program} {w : World} {K : PySem.W.Frag} {mg : Str → Option Value} {base : Heap} {x qual : Str} {params : Arguments} {body : List Stmt} {scope : Scope} {f c : Addr} {fd : FuncData} {ps ks : List Str}
/-- keywords bind behind what stands by place -/
theorem kbn_of {n : Nat} (F : FunD K x qual params body scope [] [] f fd) (h : ∀ (kV doc pm : Value) (an : Option Addr) (cdv ct : Value) (us vs : List Value), us.length = n → vs.length = ks.length →
    bindArgs (PySem.W.fnOf x qual params body scope .none kV doc pm an cdv ct) ⟨us, ks.zip vs⟩ = pure (ps.zip (us ++ vs))) : KBn K fd ps n ks (fun us vs => us ++ vs) (fun us vs => us ++ vs) := by
  obtain ⟨oc, od, dV, kV, doc, pm, an, cdv, ct, osl, rfl, lk, hcd, hD, hK⟩ := F.ex
  rcases hD with ⟨_, rfl⟩ | ⟨e, _⟩
  · exact ⟨fun s us vs _ h1 h2 => .of_eq (h kV doc pm an cdv ct us vs h1 h2), fun r1 r2 => r1.append r2⟩
  · exact absurd rfl e
/-- a def whose code object is known -/
theorem okC {CX : CXT} {N : List Str} {k : Nat} {sp : Sp} (F : FunD K x qual params body scope [] [] f fd) (hc : fd.code = .ref c) (S : FnScope N ps scope) (len : ∀ vs H Q E, sp vs H Q E → vs.length = ps.length)
    (hbody : ∀ (A : Around) (outer : List Env) (s : Shared) (H : Hp) (vs : List V) (Q : VK) (E : XK), Room k (A.deeper (envOfC qual scope s.heap.objs.size f (.ref c))) → sp vs H Q E →
      ∃ t, PSs (cxOf CX P w K mg base N qual scope f (.ref c) A outer s H E) body t ∧ t { nx := fun _ H' => Q .non H', rt := Q } (start N vs) H) : FnOk P w K mg base CX (k + 1) f fd ps sp := by
  obtain ⟨oc, od, dV, kV, doc, pm, an, cdv, ct, osl, rfl, lk, hcd, _, _⟩ := F.ex
  have e : cdv = .ref c := hc
  subst e
  exact fn_of lk hcd S len fun A outer s H vs Q E hr hsp => hbody A outer s H vs Q E hr hsp
end
/-- all but the tables stay -/
theorem extN_same {H H' : Hp} (e : Same H H') : LamX.ExtN H H' := fun b o h _ => e b o h
end UU

namespace UU
open PySem PySem.Spec PyProof.Rows L2 LamX
theorem sqL_ext {K : PySem.W.Frag} {H H' : Hp} {a : Addr} {xs : List V} (e : ExtN H H') (h : SqL K H a xs) : SqL K H' a xs := by
  rcases h with (h | ⟨o, h⟩) | h
  · exact .inl (.inl (e _ _ h fun _ z => by cases z))
  · exact .inl (.inr ⟨o, e _ _ h fun _ z => by cases z⟩)
  · exact .inr h
theorem sqT_ext {K : PySem.W.Frag} {H H' : Hp} {a : Addr} {xs : List V} (e : ExtN H H') (h : SqT K H a xs) : SqT K H' a xs := by
  rcases h with (h | ⟨o, h⟩) | h
  · exact .inl (.inl (e _ _ h fun _ z => by cases z))
  · exact .inl (.inr ⟨o, e _ _ h fun _ z => by cases z⟩)
  · exact .inr h
mutual
theorem dp_ext {K : PySem.W.Frag} {H H' : Hp} (e : ExtN H H') : ∀ (d : PyData) (v : V), Dp K H v d → Dp K H' v d
  | .none, _, h => by cases h; exact .non
  | .bool b, _, h => by cases h; exact .bl _
  | .int i, _, h => by cases h; exact .int _
  | .str x, _, h => by cases h; exact .str _
  | .list ds, _, h => by
    cases h with
    | lst q ha => exact .lst (sqL_ext e q) (dp_extAll e ds _ ha)
  | .tuple ds, _, h => by
    cases h with
    | tup q ha => exact .tup (sqT_ext e q) (dp_extAll e ds _ ha)
  | .dict kvs, _, h => by cases h
theorem dp_extAll {K : PySem.W.Frag} {H H' : Hp} (e : ExtN H H') : ∀ (ds : List PyData) (vs : List V), DpAll K H vs ds → DpAll K H' vs ds
  | [], _, h => by cases h; exact .nil
  | d :: ds, _, h => by
    cases h with
    | cons h1 h2 => exact .cons (dp_ext e d _ h1) (dp_extAll e ds _ h2)
end
end UU

/-! the head's facts: own errors' classes; a look that begins at further addresses -/
namespace HH
open PySem PySem.Spec PyProof.Rows L2 He XV
/-- an own error's class over ValueError (newId, bm0: its built-in base's) -/
def exB (K : PySem.W.Frag) (C : Addr) (newId : String) (ok : List Value → Bool) : Bool := match K.lookup C with
  | some ⟨.type "type", _, .cls cd, sl⟩ => (match cd.mro, sl.toList with
    | .ref D :: bm, [_, _, _, _, some (.builtin n), _] => D == C && (n == newId && (!cd.hasDel && (cd.hasDict && ok bm)))
    | _, _ => false)
  | _ => false
theorem exB_ok {K : PySem.W.Frag} {C : Addr} {newId : String} {ok : List Value → Bool} (h : exB K C newId ok = true) :
    ∃ nm q N bs bm sn sub ab col dd k0 k1 k2 k3 k5, K.lookup C = some (excClassObj nm q C N bs bm true sn sub ab col dd k0 k1 k2 k3 k5 newId) ∧ ok bm = true := by
  unfold exB at h
  split at h
  · rename_i dd cd sl ho
    split at h
    · rename_i D bm k0 k1 k2 k3 n k5 hm hs
      obtain ⟨h1, h⟩ := ba h
      obtain ⟨h2, h⟩ := ba h
      obtain ⟨h3, h⟩ := ba h
      obtain ⟨h4, h5⟩ := ba h
      have e1 := beq_iff_eq.mp h1
      have e2 := beq_iff_eq.mp h2
      subst e1 e2
      obtain ⟨nm, bs, mro, ns, qn, hd, sn, sub, ab, col, del⟩ := cd
      dsimp only at hm h3 h4
      have e3 : del = false := by
        cases del with
        | false => rfl
        | true => cases h3
      subst hm h4 e3
      have e4 : sl = #[k0, k1, k2, k3, some (.builtin n), k5] := by
        obtain ⟨l⟩ := sl
        simp only at hs
        rw [hs]
      subst e4
      exact ⟨nm, qn, ns, bs, bm, sn, sub, ab, col, dd, k0, k1, k2, k3, k5, ho, h5⟩
    · cases h
  · cases h
def oexB (K : PySem.W.Frag) (C : Addr) : Bool := exB K C "ValueError.__new__" PySem.HandSPX.refsVE && (decide (PySem.W.findIn K (.ref C) "__setattr__" = some (some (.builtin "object.__setattr__"))) && (decide (PySem.W.subIn K (.ref C) (.type "BaseException") = some true) && (decide (PySem.W.typeIn K (.ref C) = some (.type "type")) && PySem.W.keepIn K (.ref C))))
theorem oexB_ok {K : PySem.W.Frag} {C : Addr} (h : oexB K C = true) : OexC K C := by
  obtain ⟨h1, h⟩ := ba h
  obtain ⟨h2, h⟩ := ba h
  obtain ⟨h3, h⟩ := ba h
  obtain ⟨h4, h5⟩ := ba h
  exact ⟨exB_ok h1, of_decide_eq_true h2, of_decide_eq_true h3, of_decide_eq_true h4, h5⟩
def heldB (K : PySem.W.Frag) (C : Addr) : Bool := exB K C "Exception.__new__" (fun l => decide (l = [.type "Exception", .type "BaseException", .type "object"])) && PySem.W.keepIn K (.ref C)
theorem heldB_ok {K : PySem.W.Frag} {C : Addr} (h : heldB K C = true) : MkC K C "Exception.__init__" := by
  obtain ⟨h1, h2⟩ := ba h
  obtain ⟨nm, q, N, bs, bm, sn, sub, ab, col, dd, k0, k1, k2, k3, k5, hC, hb⟩ := exB_ok h1
  have e := of_decide_eq_true hb
  exact ⟨⟨_, _, _, PySem.F.excBase_Exception, nm, q, N, bs, bm, true, sn, sub, ab, col, dd, k0, k1, k2, k3, k5, hC, fun Y => by rw [e]⟩, h2⟩
def excCB (K : PySem.W.Frag) (D : Addr) : Bool := xfB K D && (decide (PySem.W.findIn K (.ref D) "__class__" = some (some (.builtin "object.__class__"))) && (decide (PySem.W.specialIn K (.builtin "object.__class__") "__get__" = some (some (.builtin "getset_descriptor.__get__"))) &&
  (decide (PySem.W.takesIn K (.builtin "object.__class__") = some true) && decide (PySem.W.mroIn K D (.type "object") = some true))))
theorem excCB_ok {K : PySem.W.Frag} {D : Addr} (h : excCB K D = true) : L2.ExcC K D := by
  obtain ⟨h1, h⟩ := ba h
  obtain ⟨h2, h⟩ := ba h
  obtain ⟨h3, h⟩ := ba h
  obtain ⟨h4, h5⟩ := ba h
  have x := xfB_ok h1
  exact ⟨x.ga, x.gg, x.exC, x.hdC, of_decide_eq_true h2, of_decide_eq_true h3, of_decide_eq_true h4, of_decide_eq_true h5⟩
def clsVal (r : Option PySem.W.CFound) (id : String) : Bool := match r with
  | some (.val (.builtin n)) => n == id
  | _ => false
theorem clsVal_ok {r : Option PySem.W.CFound} {id : String} (h : clsVal r id = true) : r = some (.val (.builtin id)) := by
  unfold clsVal at h
  split at h
  · rw [beq_iff_eq.mp h]
  · cases h
def iniB (K : PySem.W.Frag) (C : Addr) (id : String) : Bool := PySem.W.readsIn K C (.type "type") && (decide (PySem.W.specialIn K (.ref C) "__getattribute__" = some (some (.builtin "type.__getattribute__"))) && clsVal (PySem.W.findCls K (.ref C) (.type "type") "__init__") id)
theorem iniB_ok {K : PySem.W.Frag} {C : Addr} {id : String} (h : iniB K C id = true) : CIni K C (.type "type") id := by
  obtain ⟨h1, h⟩ := ba h
  obtain ⟨h2, h3⟩ := ba h
  exact ⟨h1, of_decide_eq_true h2, clsVal_ok h3⟩
/-! ### the Hook, the look beginning at the module's names and at roots -/
def asR (roots : List Addr) (g : Addr → Option Obj) (n : Nat) : List Addr := (asD g n ++ roots).eraseDups
def tabB (g : Addr → Option Obj) (tf : List Defn) (K : PySem.W.Frag) : Bool := tf.all fun p => PySem.W.codeHdIn K (cT K p).1 (cT K p).2 && (match g (cT K p).2 with
  | some o => emptyTab o
  | none => false)
def obsY (roots : List Addr) (n : Nat) (fa : List Fa) (fn : List DefD) (ts : List Tab) (tf : List Defn) (ex : PySem.W.Frag → Bool) (g : Addr → Option Obj) : AlX := (obsT fa fn ts (frT g (asR roots g n)), ex (frT g (asR roots g n)) && tabB g tf (frT g (asR roots g n)))
theorem saysY_of {roots : List Addr} {n : Nat} {fa : List Fa} {fn : List DefD} {ts : List Tab} {tf : List Defn} {ex : PySem.W.Frag → Bool} {w : World} {h : Heap} (e : obsY roots n fa fn ts tf ex h.get? = valX fn ts w) : SaysX fa fn ts tf ex w h (frT h.get? (asR roots h.get? n)) := by
  have e1 := congrArg (fun z : AlX => z.1) e
  have e2 : (ex (frT h.get? (asR roots h.get? n)) && tabB h.get? tf (frT h.get? (asR roots h.get? n))) = true := congrArg (fun z : AlX => z.2) e
  obtain ⟨h1, h2⟩ := ba e2
  have key : ∀ p ∈ tf, PySem.W.codeHdIn (frT h.get? (asR roots h.get? n)) (cT (frT h.get? (asR roots h.get? n)) p).1 (cT (frT h.get? (asR roots h.get? n)) p).2 = true ∧ ∃ o, h.get? (cT (frT h.get? (asR roots h.get? n)) p).2 = some o ∧ emptyTab o = true := fun p hp => by
    obtain ⟨h3, h4⟩ := ba (List.all_eq_true.mp h2 p hp)
    refine ⟨h3, ?_⟩
    cases q : h.get? (cT (frT h.get? (asR roots h.get? n)) p).2 with
    | none => rw [q] at h4; cases h4
    | some o => rw [q] at h4; exact ⟨o, rfl, h4⟩
  refine ⟨e1, h1, fun p hp => (key p hp).1, fun p hp => ?_, fun p hp => ?_⟩
  · obtain ⟨_, o, q, z⟩ := key p hp
    exact frT_none q z
  · obtain ⟨_, o, q, z⟩ := key p hp
    rw [q, emptyTab_eq z]
def hookY (roots : List Addr) (n : Nat) (fa : List Fa) (fn : List DefD) (ts : List Tab) (tf : List Defn) (ex : PySem.W.Frag → Bool) : PySem.W.Hook where
  α := AlX
  obs := fun s => obsY roots n fa fn ts tf ex s.heap.get?
  val := fun w => valX fn ts w
  says := fun w h => ∃ K : PySem.W.Frag, K.In h ∧ SaysX fa fn ts tf ex w h K
  of := fun _ _ e => ⟨_, frT_in, saysY_of e⟩
  keeps := fun _ _ _ ⟨K, hK, c⟩ k => ⟨K, PySem.W.Frag.In.keeps hK k, ⟨c.t, c.more, c.hd, c.out, fun p hp => k _ _ (c.empty p hp)⟩⟩
theorem obsY_eq {roots : List Addr} {n : Nat} {fa : List Fa} {fn : List DefD} {ts : List Tab} {tf : List Defn} {ex : PySem.W.Frag → Bool} {g : Addr → Option Obj} {s : Shared} (h : ∀ a, g a = s.heap.get? a) : obsY roots n fa fn ts tf ex g = (hookY roots n fa fn ts tf ex).obs s := by
  have e : g = s.heap.get? := funext h
  rw [e] <;> rfl
end HH

/-! the head's facts with defs at any address (static methods), and tables -/
namespace HH
open PySem PySem.Spec PyProof.Rows L2 He XV
abbrev AlZ : Type := He.AlD × Bool
def obsZ (roots : List Addr) (n : Nat) (fa : List Fa) (fn : List He5.DefA) (tf : List Defn) (ex : PySem.W.Frag → Bool) (g : Addr → Option Obj) : AlZ := (He5.obsA fa fn (frT g (asR roots g n)), ex (frT g (asR roots g n)) && tabB g tf (frT g (asR roots g n)))
def valZ (fn : List He5.DefA) : AlZ := (He5.valA fn, true)
structure SaysZ (fa : List Fa) (fn : List He5.DefA) (tf : List Defn) (ex : PySem.W.Frag → Bool) (h : Heap) (K : PySem.W.Frag) : Prop where
  d : He5.SaysA fa fn K
  more : ex K = true
  hd : ∀ p ∈ tf, PySem.W.codeHdIn K (cT K p).1 (cT K p).2 = true
  out : ∀ p ∈ tf, K.lookup (cT K p).2 = none
  empty : ∀ p ∈ tf, h.get? (cT K p).2 = some { cls := .none, data := .fields #[] }
theorem saysZ_of {roots : List Addr} {n : Nat} {fa : List Fa} {fn : List He5.DefA} {tf : List Defn} {ex : PySem.W.Frag → Bool} {h : Heap} (e : obsZ roots n fa fn tf ex h.get? = valZ fn) : SaysZ fa fn tf ex h (frT h.get? (asR roots h.get? n)) := by
  have e1 := congrArg (fun z : AlZ => z.1) e
  have e2 : (ex (frT h.get? (asR roots h.get? n)) && tabB h.get? tf (frT h.get? (asR roots h.get? n))) = true := congrArg (fun z : AlZ => z.2) e
  obtain ⟨h1, h2⟩ := ba e2
  have key : ∀ p ∈ tf, PySem.W.codeHdIn (frT h.get? (asR roots h.get? n)) (cT (frT h.get? (asR roots h.get? n)) p).1 (cT (frT h.get? (asR roots h.get? n)) p).2 = true ∧ ∃ o, h.get? (cT (frT h.get? (asR roots h.get? n)) p).2 = some o ∧ emptyTab o = true := fun p hp => by
    obtain ⟨h3, h4⟩ := ba (List.all_eq_true.mp h2 p hp)
    refine ⟨h3, ?_⟩
    cases q : h.get? (cT (frT h.get? (asR roots h.get? n)) p).2 with
    | none => rw [q] at h4; cases h4
    | some o => rw [q] at h4; exact ⟨o, rfl, h4⟩
  refine ⟨e1, h1, fun p hp => (key p hp).1, fun p hp => ?_, fun p hp => ?_⟩
  · obtain ⟨_, o, q, z⟩ := key p hp
    exact frT_none q z
  · obtain ⟨_, o, q, z⟩ := key p hp
    rw [q, emptyTab_eq z]
def hookZ (roots : List Addr) (n : Nat) (fa : List Fa) (fn : List He5.DefA) (tf : List Defn) (ex : PySem.W.Frag → Bool) : PySem.W.Hook where
  α := AlZ
  obs := fun s => obsZ roots n fa fn tf ex s.heap.get?
  val := fun _ => valZ fn
  says := fun _ h => ∃ K : PySem.W.Frag, K.In h ∧ SaysZ fa fn tf ex h K
  of := fun _ _ e => ⟨_, frT_in, saysZ_of e⟩
  keeps := fun _ _ _ ⟨K, hK, c⟩ k => ⟨K, PySem.W.Frag.In.keeps hK k, ⟨c.d, c.more, c.hd, c.out, fun p hp => k _ _ (c.empty p hp)⟩⟩
theorem obsZ_eq {roots : List Addr} {n : Nat} {fa : List Fa} {fn : List He5.DefA} {tf : List Defn} {ex : PySem.W.Frag → Bool} {g : Addr → Option Obj} {s : Shared} (h : ∀ a, g a = s.heap.get? a) : obsZ roots n fa fn tf ex g = (hookZ roots n fa fn tf ex).obs s := by
  have e : g = s.heap.get? := funext h
  rw [e] <;> rfl
/-- a static method -/
def smB (K : PySem.W.Frag) (C : Addr) (m : Str) : Bool := PySem.W.readsIn K C (.type "type") && (decide (PySem.W.specialIn K (.ref C) "__getattribute__" = some (some (.builtin "type.__getattribute__"))) && He5.wrapB K C "staticmethod" "staticmethod.__get__" m)
/-- the keyword-only default n of the def at f, an object -/
def kwdAt (f : Str × Option Str) (n : Str) (K : PySem.W.Frag) : Addr := match K.lookup (fAd K f) with
  | some ⟨_, _, .func fd, _⟩ => (match fd.kwdefaults with
    | .ref D => (match PySem.W.nsIn K D n with
      | some (some (.ref a)) => a
      | _ => 0)
    | _ => 0)
  | _ => 0
/-- an empty tuple of the head -/
def nilB (K : PySem.W.Frag) (a : Addr) : Bool := match K.lookup a with
  | some ⟨.type c, _, .seq its _, _⟩ => decide (c = "tuple") && its.toList.isEmpty
  | _ => false
theorem nilB_ok {K : PySem.W.Frag} {a : Addr} {H : Hp} (h : nilB K a = true) : SqT K H a [] := by
  unfold nilB at h
  split at h
  · rename_i c dd its n sl e
    obtain ⟨h1, h2⟩ := ba h
    have e1 := of_decide_eq_true h1
    subst e1
    have e2 : its.toList = [] := by simpa using h2
    refine .inr ⟨_, its, n, e, rfl, rfl, ?_, by rw [e2]; exact .nil⟩
    have : its.size = 0 := by rw [← Array.length_toList, e2] <;> rfl
    rw [this]
    exact Nat.zero_le _
  · cases h
end HH

/-! the head's facts over a given list of addresses; the run's equation in parts -/
namespace HH
open PySem PySem.Spec PyProof.Rows L2 He XV
def KL (as : List Addr) (g : Addr → Option Obj) : PySem.W.Frag := frT g as
def obsL (as : List Addr) (fa : List Fa) (fn : List He5.DefA) (tf : List Defn) (ex : PySem.W.Frag → Bool) (g : Addr → Option Obj) : AlZ := (He5.obsA fa fn (KL as g), ex (KL as g) && tabB g tf (KL as g))
theorem saysL_of {as : List Addr} {fa : List Fa} {fn : List He5.DefA} {tf : List Defn} {ex : PySem.W.Frag → Bool} {h : Heap} (e : obsL as fa fn tf ex h.get? = valZ fn) : SaysZ fa fn tf ex h (KL as h.get?) := by
  have e1 := congrArg (fun z : AlZ => z.1) e
  have e2 : (ex (frT h.get? as) && tabB h.get? tf (frT h.get? as)) = true := congrArg (fun z : AlZ => z.2) e
  obtain ⟨h1, h2⟩ := ba e2
  have key : ∀ p ∈ tf, PySem.W.codeHdIn (frT h.get? as) (cT (frT h.get? as) p).1 (cT (frT h.get? as) p).2 = true ∧ ∃ o, h.get? (cT (frT h.get? as) p).2 = some o ∧ emptyTab o = true := fun p hp => by
    obtain ⟨h3, h4⟩ := ba (List.all_eq_true.mp h2 p hp)
    refine ⟨h3, ?_⟩
    cases q : h.get? (cT (frT h.get? as) p).2 with
    | none => rw [q] at h4; cases h4
    | some o => rw [q] at h4; exact ⟨o, rfl, h4⟩
  refine ⟨e1, h1, fun p hp => (key p hp).1, fun p hp => ?_, fun p hp => ?_⟩
  · obtain ⟨_, o, q, z⟩ := key p hp
    exact frT_none q z
  · obtain ⟨_, o, q, z⟩ := key p hp
    show h.get? (cT (frT h.get? as) p).2 = _
    rw [q, emptyTab_eq z]
def hookL (as : List Addr) (fa : List Fa) (fn : List He5.DefA) (tf : List Defn) (ex : PySem.W.Frag → Bool) : PySem.W.Hook where
  α := AlZ
  obs := fun s => obsL as fa fn tf ex s.heap.get?
  val := fun _ => valZ fn
  says := fun _ h => ∃ K : PySem.W.Frag, K.In h ∧ SaysZ fa fn tf ex h K
  of := fun _ _ e => ⟨_, frT_in, saysL_of e⟩
  keeps := fun _ _ _ ⟨K, hK, c⟩ k => ⟨K, PySem.W.Frag.In.keeps hK k, ⟨c.d, c.more, c.hd, c.out, fun p hp => k _ _ (c.empty p hp)⟩⟩
theorem obsL_eq {as : List Addr} {fa : List Fa} {fn : List He5.DefA} {tf : List Defn} {ex : PySem.W.Frag → Bool} {g : Addr → Option Obj} {s : Shared} (h : ∀ a, g a = s.heap.get? a) : obsL as fa fn tf ex g = (hookL as fa fn tf ex).obs s := by
  have e : g = s.heap.get? := funext h
  rw [e] <;> rfl
end HH
namespace HandSHeadRun
open PySem PySem.W PySem.Calls PyProof.Rows
/-- the run's equation by its three parts -/
theorem run_parts {r : OpenRow} {q : Program} {H : Hook} {ob : SharedT → H.α} {M : Nat} {loose : List PySem.Str} {w : World}
    (h1 : ∀ os, (endF (stepQ (denQ tabQ) r.prog w) M r.prog w os).map (fun s => looksF r.prog (boot_heap w.params) s.abs) = some true)
    (h2 : ∀ os, (endF (stepQ (denQ tabQ) r.prog w) M r.prog w os).map (fun s => seenQ q loose (importedModules r.prog.main.body) (fun s => xlAt q [] s && recOk r.toRowW.records s) s.abs) = some (openGood q loose))
    (h3 : ∀ os, (endF (stepQ (denQ tabQ) r.prog w) M r.prog w os).map ob = some (H.val w)) : RunEq r q H ob M loose w := fun os => by
  have a1 := h1 os
  have a2 := h2 os
  have a3 := h3 os
  cases e : endF (stepQ (denQ tabQ) r.prog w) M r.prog w os with
  | none => rw [e] at a1; cases a1
  | some s =>
    rw [e] at a1 a2 a3
    have b1 : looksF r.prog (boot_heap w.params) s.abs = true := Option.some.inj a1
    have b2 : seenQ q loose (importedModules r.prog.main.body) (fun s => xlAt q [] s && recOk r.toRowW.records s) s.abs = openGood q loose := Option.some.inj a2
    have b3 : ob s = H.val w := Option.some.inj a3
    show some (looksF r.prog (boot_heap w.params) s.abs, seenQ q loose (importedModules r.prog.main.body) (fun s => xlAt q [] s && recOk r.toRowW.records s) s.abs, ob s) = some (true, openGood q loose, H.val w)
    rw [b1, b2, b3]
end HandSHeadRun

namespace K10
open PySem PySem.Spec PyProof.Rows L2 XV HH
def top (i : Nat) : Stmt := PySem.Challenge.pw_fallways_k10_what_falls_keep.main.body.getD i (.Pass ⟨0, 0, 0, 0⟩)
abbrev s_is_value : Stmt := top 11
abbrev s_is_integer : Stmt := top 12
abbrev s_check_value : Stmt := top 16
abbrev s_Held___init__ : Stmt := inClass (top 9) 0
abbrev s_Hand__check_free : Stmt := inClass (top 15) 7
abbrev s_Hand__check_page : Stmt := inClass (top 15) 8
abbrev s_Hand__check_room : Stmt := inClass (top 15) 9
abbrev s_Hand_look : Stmt := inClass (top 15) 1
abbrev s_Hand_put : Stmt := inClass (top 15) 2
abbrev s_Hand_barrier : Stmt := inClass (top 15) 3
abbrev s_Hand_flush : Stmt := inClass (top 15) 4
abbrev s_Hand_say : Stmt := inClass (top 15) 5
abbrev s_Hand_fail : Stmt := inClass (top 15) 6
abbrev s_Hand___init__ : Stmt := inClass (top 15) 0
abbrev s_end_of : Stmt := top 18
abbrev s_perform : Stmt := top 17
abbrev s_Moment___init__ : Stmt := inClass (top 26) 0
abbrev s_changed : Stmt := top 27
abbrev s_Moment_behind : Stmt := inClass (top 26) 2
abbrev s_moments_of : Stmt := top 28
abbrev s_NoMoment___init__ : Stmt := inClass (top 7) 0
abbrev s_Run___init__ : Stmt := inClass (top 30) 0
abbrev s_Run_of : Stmt := inClass (top 30) 1
abbrev s_Plan_start : Stmt := inClass (top 35) 2
abbrev s_Run_steps : Stmt := inClass (top 30) 3
abbrev s_Run_end : Stmt := inClass (top 30) 4
abbrev s_Run__is_moment : Stmt := inClass (top 30) 17
abbrev s_Run__check_moment : Stmt := inClass (top 30) 16
abbrev s_Run_said_by : Stmt := inClass (top 30) 8
abbrev s_Run_said : Stmt := inClass (top 30) 5
abbrev s_Run__moment : Stmt := inClass (top 30) 18
abbrev s_mark : Stmt := top 13
abbrev s_way : Stmt := top 21
abbrev s_torn_parts : Stmt := top 23
abbrev s_ways_of_page : Stmt := top 22
abbrev s_combined : Stmt := top 24
abbrev s_ways_to_fall : Stmt := top 20
abbrev s_Moment_ways : Stmt := inClass (top 26) 1
abbrev s_Run__ways_at : Stmt := inClass (top 30) 19
abbrev s_Run_kept_at : Stmt := inClass (top 30) 10
abbrev s_check_limit : Stmt := top 41
abbrev s_is_word : Stmt := top 38
abbrev s_check_names : Stmt := top 37
abbrev s_check_torn : Stmt := top 39
abbrev s_check_values : Stmt := top 40
abbrev s_Plan___init__ : Stmt := inClass (top 35) 0
abbrev s_law_source : Stmt := top 43
abbrev s_law_draw : Stmt := top 44
abbrev s_law_same : Stmt := top 46
abbrev s_law_pick : Stmt := top 45
abbrev s_law_piece : Stmt := top 59
abbrev s_law_putting : Stmt := top 60
abbrev s_law_told : Stmt := top 47
abbrev s_law_wish : Stmt := top 48
abbrev s_law_ask : Stmt := top 49
abbrev s_law_play : Stmt := top 50
abbrev s_law_run : Stmt := top 52
abbrev s_law_worked : Stmt := top 51
abbrev s_law_plan : Stmt := top 58
abbrev s_law_late : Stmt := top 53
abbrev s_law_worths : Stmt := top 54
abbrev s_law_pairs_of : Stmt := top 56
abbrev s_law_fits : Stmt := top 55
abbrev s_law_kept : Stmt := top 57
abbrev s_law : Stmt := top 61
/-! ### the head: facts by names, the run -/
def adrs : List Addr := [2, 3, 6, 4, 21, 31, 51, 70, 89, 108, 127, 146, 165, 175, 182, 189, 269, 280, 287, 294, 299, 306, 311, 316, 321, 352, 363, 370, 531, 576, 587, 594, 601, 608, 615, 622, 629, 636, 643, 648, 655, 660, 667, 674, 681, 688, 695, 700, 705, 710, 715, 722, 729, 736, 741, 0, 20, 30, 50, 69, 88, 107, 126, 145, 164, 174, 181, 188, 268, 279, 286, 293, 298, 305, 310, 315, 320, 351, 362, 369, 530, 575, 586, 593, 600, 607, 614, 621, 628, 635, 642, 647, 654, 659, 666, 673, 680, 687, 694, 699, 704, 709, 714, 721, 728, 735, 740, 15, 16, 17, 18, 19, 29, 32, 48, 49, 67, 68, 86, 87, 105, 106, 124, 125, 143, 144, 162, 163, 166, 169, 170, 171, 172, 173, 176, 177, 178, 179, 180, 183, 184, 185, 186, 187, 203, 210, 217, 224, 231, 238, 245, 252, 259, 266, 267, 270, 271, 274, 275, 276, 277, 278, 281, 282, 283, 284, 285, 288, 289, 290, 291, 292, 295, 296, 297, 300, 301, 302, 303, 304, 307, 308, 309, 312, 313, 314, 317, 318, 319, 335, 342, 349, 350, 353, 354, 357, 358, 359, 360, 361, 364, 365, 366, 367, 368, 384, 393, 403, 411, 418, 425, 432, 439, 446, 453, 458, 465, 472, 479, 486, 493, 500, 507, 514, 521, 528, 529, 532, 533, 552, 559, 566, 573, 574, 577, 578, 581, 582, 583, 584, 585, 588, 589, 590, 591, 592, 595, 596, 597, 598, 599, 602, 603, 604, 605, 606, 609, 610, 611, 612, 613, 616, 617, 618, 619, 620, 623, 624, 625, 626, 627, 630, 631, 632, 633, 634, 637, 638, 639, 640, 641, 644, 645, 646, 649, 650, 651, 652, 653, 656, 657, 658, 661, 662, 663, 664, 665, 668, 669, 670, 671, 672, 675, 676, 677, 678, 679, 682, 683, 684, 685, 686, 689, 690, 691, 692, 693, 696, 697, 698, 701, 702, 703, 706, 707, 708, 711, 712, 713, 716, 717, 718, 719, 720, 723, 724, 725, 726, 727, 730, 731, 732, 733, 734, 737, 738, 739, 47, 66, 85, 104, 123, 142, 161, 202, 209, 216, 223, 230, 237, 244, 251, 258, 265, 334, 341, 348, 383, 391, 392, 401, 402, 410, 417, 424, 431, 438, 445, 452, 457, 464, 471, 478, 485, 492, 499, 506, 513, 520, 527, 551, 544, 545, 558, 565, 572, 42, 43, 44, 45, 46, 61, 62, 63, 64, 65, 80, 81, 82, 83, 84, 99, 100, 101, 102, 103, 118, 119, 120, 121, 122, 137, 138, 139, 140, 141, 156, 157, 158, 159, 160, 197, 198, 199, 200, 201, 204, 205, 206, 207, 208, 211, 212, 213, 214, 215, 218, 219, 220, 221, 222, 225, 226, 227, 228, 229, 232, 233, 234, 235, 236, 239, 240, 241, 242, 243, 246, 247, 248, 249, 250, 253, 254, 255, 256, 257, 260, 261, 262, 263, 264, 329, 330, 331, 332, 333, 336, 337, 338, 339, 340, 343, 344, 345, 346, 347, 378, 379, 380, 381, 382, 390, 394, 400, 404, 405, 406, 407, 408, 409, 412, 413, 414, 415, 416, 419, 420, 421, 422, 423, 426, 427, 428, 429, 430, 433, 434, 435, 436, 437, 440, 441, 442, 443, 444, 447, 448, 449, 450, 451, 454, 455, 456, 459, 460, 461, 462, 463, 466, 467, 468, 469, 470, 473, 474, 475, 476, 477, 480, 481, 482, 483, 484, 487, 488, 489, 490, 491, 494, 495, 496, 497, 498, 501, 502, 503, 504, 505, 508, 509, 510, 511, 512, 515, 516, 517, 518, 519, 522, 523, 524, 525, 526, 546, 547, 548, 549, 550, 543, 553, 554, 555, 556, 557, 560, 561, 562, 563, 564, 567, 568, 569, 570, 571, 385, 386, 387, 388, 389, 395, 396, 397, 398, 399]
def fn : List He5.DefA := [⟨fun K => He.fAd K ("NoMoment", some "__init__"), "__init__", "NoMoment.__init__", defArgs s_NoMoment___init__, defBody s_NoMoment___init__, defScope s_NoMoment___init__, [], []⟩,
  ⟨fun K => He.fAd K ("Held", some "__init__"), "__init__", "Held.__init__", defArgs s_Held___init__, defBody s_Held___init__, defScope s_Held___init__, [], []⟩,
  ⟨fun K => He.fAd K ("Hand", some "__init__"), "__init__", "Hand.__init__", defArgs s_Hand___init__, defBody s_Hand___init__, defScope s_Hand___init__, [], []⟩,
  ⟨fun K => He.fAd K ("Hand", some "look"), "look", "Hand.look", defArgs s_Hand_look, defBody s_Hand_look, defScope s_Hand_look, [], []⟩,
  ⟨fun K => He.fAd K ("Hand", some "put"), "put", "Hand.put", defArgs s_Hand_put, defBody s_Hand_put, defScope s_Hand_put, [], []⟩,
  ⟨fun K => He.fAd K ("Hand", some "barrier"), "barrier", "Hand.barrier", defArgs s_Hand_barrier, defBody s_Hand_barrier, defScope s_Hand_barrier, [], []⟩,
  ⟨fun K => He.fAd K ("Hand", some "flush"), "flush", "Hand.flush", defArgs s_Hand_flush, defBody s_Hand_flush, defScope s_Hand_flush, [], []⟩,
  ⟨fun K => He.fAd K ("Hand", some "say"), "say", "Hand.say", defArgs s_Hand_say, defBody s_Hand_say, defScope s_Hand_say, [], []⟩,
  ⟨fun K => He.fAd K ("Hand", some "fail"), "fail", "Hand.fail", defArgs s_Hand_fail, defBody s_Hand_fail, defScope s_Hand_fail, [], []⟩,
  ⟨fun K => He.fAd K ("Hand", some "_check_free"), "_check_free", "Hand._check_free", defArgs s_Hand__check_free, defBody s_Hand__check_free, defScope s_Hand__check_free, [], []⟩,
  ⟨fun K => He.fAd K ("Hand", some "_check_page"), "_check_page", "Hand._check_page", defArgs s_Hand__check_page, defBody s_Hand__check_page, defScope s_Hand__check_page, [], []⟩,
  ⟨fun K => He.fAd K ("Hand", some "_check_room"), "_check_room", "Hand._check_room", defArgs s_Hand__check_room, defBody s_Hand__check_room, defScope s_Hand__check_room, [], []⟩,
  ⟨fun K => He.fAd K ("Moment", some "__init__"), "__init__", "Moment.__init__", defArgs s_Moment___init__, defBody s_Moment___init__, defScope s_Moment___init__, [], []⟩,
  ⟨fun K => He.fAd K ("Moment", some "ways"), "ways", "Moment.ways", defArgs s_Moment_ways, defBody s_Moment_ways, defScope s_Moment_ways, [], []⟩,
  ⟨fun K => He.fAd K ("Moment", some "behind"), "behind", "Moment.behind", defArgs s_Moment_behind, defBody s_Moment_behind, defScope s_Moment_behind, [], []⟩,
  ⟨fun K => He.fAd K ("Run", some "__init__"), "__init__", "Run.__init__", defArgs s_Run___init__, defBody s_Run___init__, defScope s_Run___init__, [], []⟩,
  ⟨fun K => He.fAd K ("Run", some "steps"), "steps", "Run.steps", defArgs s_Run_steps, defBody s_Run_steps, defScope s_Run_steps, [], []⟩,
  ⟨fun K => He.fAd K ("Run", some "end"), "end", "Run.end", defArgs s_Run_end, defBody s_Run_end, defScope s_Run_end, [], []⟩,
  ⟨fun K => He.fAd K ("Run", some "said"), "said", "Run.said", defArgs s_Run_said, defBody s_Run_said, defScope s_Run_said, [], []⟩,
  ⟨fun K => He.fAd K ("Run", some "said_by"), "said_by", "Run.said_by", defArgs s_Run_said_by, defBody s_Run_said_by, defScope s_Run_said_by, [], []⟩,
  ⟨fun K => He.fAd K ("Run", some "kept_at"), "kept_at", "Run.kept_at", defArgs s_Run_kept_at, defBody s_Run_kept_at, defScope s_Run_kept_at, [], []⟩,
  ⟨fun K => He.fAd K ("Run", some "_check_moment"), "_check_moment", "Run._check_moment", defArgs s_Run__check_moment, defBody s_Run__check_moment, defScope s_Run__check_moment, [], []⟩,
  ⟨fun K => He.fAd K ("Run", some "_is_moment"), "_is_moment", "Run._is_moment", defArgs s_Run__is_moment, defBody s_Run__is_moment, defScope s_Run__is_moment, [], []⟩,
  ⟨fun K => He.fAd K ("Run", some "_moment"), "_moment", "Run._moment", defArgs s_Run__moment, defBody s_Run__moment, defScope s_Run__moment, [], []⟩,
  ⟨fun K => He.fAd K ("Run", some "_ways_at"), "_ways_at", "Run._ways_at", defArgs s_Run__ways_at, defBody s_Run__ways_at, defScope s_Run__ways_at, [], []⟩,
  ⟨fun K => He.fAd K ("Plan", some "__init__"), "__init__", "Plan.__init__", defArgs s_Plan___init__, defBody s_Plan___init__, defScope s_Plan___init__, [.non], [("torn", .adr (kwdAt ("Plan", some "__init__") "torn")), ("longest", .int 40), ("most", .int 400)]⟩,
  ⟨fun K => He.fAd K ("Plan", some "start"), "start", "Plan.start", defArgs s_Plan_start, defBody s_Plan_start, defScope s_Plan_start, [], []⟩,
  ⟨fun K => He5.wf K (He.ga K "Run") "staticmethod" "of", "of", "Run.of", defArgs s_Run_of, defBody s_Run_of, defScope s_Run_of, [], []⟩,
  ⟨fun K => He.fAd K ("is_value", none), "is_value", "is_value", defArgs s_is_value, defBody s_is_value, defScope s_is_value, [], []⟩,
  ⟨fun K => He.fAd K ("is_integer", none), "is_integer", "is_integer", defArgs s_is_integer, defBody s_is_integer, defScope s_is_integer, [], []⟩,
  ⟨fun K => He.fAd K ("mark", none), "mark", "mark", defArgs s_mark, defBody s_mark, defScope s_mark, [], []⟩,
  ⟨fun K => He.fAd K ("_check_value", none), "_check_value", "_check_value", defArgs s_check_value, defBody s_check_value, defScope s_check_value, [], []⟩,
  ⟨fun K => He.fAd K ("perform", none), "perform", "perform", defArgs s_perform, defBody s_perform, defScope s_perform, [], []⟩,
  ⟨fun K => He.fAd K ("_end_of", none), "_end_of", "_end_of", defArgs s_end_of, defBody s_end_of, defScope s_end_of, [], []⟩,
  ⟨fun K => He.fAd K ("ways_to_fall", none), "ways_to_fall", "ways_to_fall", defArgs s_ways_to_fall, defBody s_ways_to_fall, defScope s_ways_to_fall, [], []⟩,
  ⟨fun K => He.fAd K ("_way", none), "_way", "_way", defArgs s_way, defBody s_way, defScope s_way, [], []⟩,
  ⟨fun K => He.fAd K ("_ways_of_page", none), "_ways_of_page", "_ways_of_page", defArgs s_ways_of_page, defBody s_ways_of_page, defScope s_ways_of_page, [], []⟩,
  ⟨fun K => He.fAd K ("_torn_parts", none), "_torn_parts", "_torn_parts", defArgs s_torn_parts, defBody s_torn_parts, defScope s_torn_parts, [], []⟩,
  ⟨fun K => He.fAd K ("_combined", none), "_combined", "_combined", defArgs s_combined, defBody s_combined, defScope s_combined, [], []⟩,
  ⟨fun K => He.fAd K ("_changed", none), "_changed", "_changed", defArgs s_changed, defBody s_changed, defScope s_changed, [], []⟩,
  ⟨fun K => He.fAd K ("moments_of", none), "moments_of", "moments_of", defArgs s_moments_of, defBody s_moments_of, defScope s_moments_of, [], []⟩,
  ⟨fun K => He.fAd K ("_check_names", none), "_check_names", "_check_names", defArgs s_check_names, defBody s_check_names, defScope s_check_names, [], []⟩,
  ⟨fun K => He.fAd K ("_is_word", none), "_is_word", "_is_word", defArgs s_is_word, defBody s_is_word, defScope s_is_word, [], []⟩,
  ⟨fun K => He.fAd K ("_check_torn", none), "_check_torn", "_check_torn", defArgs s_check_torn, defBody s_check_torn, defScope s_check_torn, [], []⟩,
  ⟨fun K => He.fAd K ("_check_values", none), "_check_values", "_check_values", defArgs s_check_values, defBody s_check_values, defScope s_check_values, [], []⟩,
  ⟨fun K => He.fAd K ("_check_limit", none), "_check_limit", "_check_limit", defArgs s_check_limit, defBody s_check_limit, defScope s_check_limit, [], []⟩,
  ⟨fun K => He.fAd K ("_law_source", none), "_law_source", "_law_source", defArgs s_law_source, defBody s_law_source, defScope s_law_source, [], []⟩,
  ⟨fun K => He.fAd K ("_law_draw", none), "_law_draw", "_law_draw", defArgs s_law_draw, defBody s_law_draw, defScope s_law_draw, [], []⟩,
  ⟨fun K => He.fAd K ("_law_pick", none), "_law_pick", "_law_pick", defArgs s_law_pick, defBody s_law_pick, defScope s_law_pick, [], []⟩,
  ⟨fun K => He.fAd K ("_law_same", none), "_law_same", "_law_same", defArgs s_law_same, defBody s_law_same, defScope s_law_same, [], []⟩,
  ⟨fun K => He.fAd K ("_law_told", none), "_law_told", "_law_told", defArgs s_law_told, defBody s_law_told, defScope s_law_told, [], []⟩,
  ⟨fun K => He.fAd K ("_law_wish", none), "_law_wish", "_law_wish", defArgs s_law_wish, defBody s_law_wish, defScope s_law_wish, [], []⟩,
  ⟨fun K => He.fAd K ("_law_ask", none), "_law_ask", "_law_ask", defArgs s_law_ask, defBody s_law_ask, defScope s_law_ask, [], []⟩,
  ⟨fun K => He.fAd K ("_law_play", none), "_law_play", "_law_play", defArgs s_law_play, defBody s_law_play, defScope s_law_play, [], []⟩,
  ⟨fun K => He.fAd K ("_law_worked", none), "_law_worked", "_law_worked", defArgs s_law_worked, defBody s_law_worked, defScope s_law_worked, [], []⟩,
  ⟨fun K => He.fAd K ("_law_run", none), "_law_run", "_law_run", defArgs s_law_run, defBody s_law_run, defScope s_law_run, [], []⟩,
  ⟨fun K => He.fAd K ("_law_late", none), "_law_late", "_law_late", defArgs s_law_late, defBody s_law_late, defScope s_law_late, [], []⟩,
  ⟨fun K => He.fAd K ("_law_worths", none), "_law_worths", "_law_worths", defArgs s_law_worths, defBody s_law_worths, defScope s_law_worths, [], []⟩,
  ⟨fun K => He.fAd K ("_law_fits", none), "_law_fits", "_law_fits", defArgs s_law_fits, defBody s_law_fits, defScope s_law_fits, [], []⟩,
  ⟨fun K => He.fAd K ("_law_pairs_of", none), "_law_pairs_of", "_law_pairs_of", defArgs s_law_pairs_of, defBody s_law_pairs_of, defScope s_law_pairs_of, [], []⟩,
  ⟨fun K => He.fAd K ("_law_kept", none), "_law_kept", "_law_kept", defArgs s_law_kept, defBody s_law_kept, defScope s_law_kept, [], []⟩,
  ⟨fun K => He.fAd K ("_law_plan", none), "_law_plan", "_law_plan", defArgs s_law_plan, defBody s_law_plan, defScope s_law_plan, [], []⟩,
  ⟨fun K => He.fAd K ("_law_piece", none), "_law_piece", "_law_piece", defArgs s_law_piece, defBody s_law_piece, defScope s_law_piece, [], []⟩,
  ⟨fun K => He.fAd K ("_law_putting", none), "_law_putting", "_law_putting", defArgs s_law_putting, defBody s_law_putting, defScope s_law_putting, [], []⟩,
  ⟨fun K => He.fAd K ("law", none), "law", "law", defArgs s_law, defBody s_law, defScope s_law, [], []⟩]
def fa : List He.Fa := [.free "len", .free "int", .free "isinstance", .free "list", .free "tuple", .free "bool", .free "all", .free "zip", .free "range", .free "min", .free "dict", .free "sorted", .free "enumerate", .free "str", .free "Exception", .int "LETTERS_OF_WORD" 8, .int "HIGHEST_LONGEST" 60, .int "HIGHEST_MOST" 2000, .glo "Held", .glo "NoMoment", .glo "Hand", .glo "Moment", .glo "Run", .glo "Plan", .glo "FallError", .glo "is_value", .glo "is_integer", .glo "mark", .glo "_check_value", .glo "perform", .glo "_end_of", .glo "ways_to_fall", .glo "_way", .glo "_ways_of_page", .glo "_torn_parts", .glo "_combined", .glo "_changed", .glo "moments_of", .glo "_check_names", .glo "_is_word", .glo "_check_torn", .glo "_check_values", .glo "_check_limit", .glo "_law_source", .glo "_law_draw", .glo "_law_pick", .glo "_law_same", .glo "_law_told", .glo "_law_wish", .glo "_law_ask", .glo "_law_play", .glo "_law_worked", .glo "_law_run", .glo "_law_late", .glo "_law_worths", .glo "_law_fits", .glo "_law_pairs_of", .glo "_law_kept", .glo "_law_plan", .glo "_law_piece", .glo "_law_putting", .glo "law", .glo "_rest", .meth "NoMoment" "__init__", .meth "Held" "__init__", .meth "Hand" "__init__", .meth "Hand" "look", .meth "Hand" "put", .meth "Hand" "barrier", .meth "Hand" "flush", .meth "Hand" "say", .meth "Hand" "fail", .meth "Hand" "_check_free", .meth "Hand" "_check_page", .meth "Hand" "_check_room", .meth "Moment" "__init__", .meth "Moment" "ways", .meth "Moment" "behind", .meth "Run" "__init__", .meth "Run" "steps", .meth "Run" "end", .meth "Run" "said", .meth "Run" "said_by", .meth "Run" "kept_at", .meth "Run" "_check_moment", .meth "Run" "_is_moment", .meth "Run" "_moment", .meth "Run" "_ways_at", .meth "Plan" "__init__", .meth "Plan" "start", .cls "Hand", .mkr "Hand", .noat "Hand" "_pages", .noat "Hand" "_longest", .noat "Hand" "_steps", .noat "Hand" "_notes", .noat "Hand" "_failure", .noat "Hand" "_held", .cls "Moment", .mkr "Moment", .noat "Moment" "pages", .noat "Moment" "synced", .noat "Moment" "epochs", .noat "Moment" "_ways", .cls "Run", .mkr "Run", .noat "Run" "_steps", .noat "Run" "_notes", .noat "Run" "_end", .noat "Run" "_moments", .noat "Run" "_torn", .cls "Plan", .mkr "Plan", .noat "Plan" "work", .noat "Plan" "mend", .noat "Plan" "torn", .noat "Plan" "longest", .noat "Plan" "most", .noat "Plan" "spared_steps", .noat "Plan" "flush_places", .noat "Plan" "_start", .noat "NoMoment" "moment", .exm "Held" "Held" true, .exm "NoMoment" "NoMoment" true]
def tf : List He.Defn := [("is_value", none), ("_changed", none), ("Run", some "said_by"), ("_is_word", none), ("Plan", some "__init__"), ("_law_worked", none)]
def ex (K : PySem.W.Frag) : Bool := heldB K (He.ga K "Held") && (decide (PySem.W.subIn K (.ref (He.ga K "Held")) (.type "BaseException") = some true) && (decide (PySem.W.typeIn K (.ref (He.ga K "Held")) = some (.type "type")) && (decide (PySem.W.subIn K (.ref (He.ga K "NoMoment")) (.type "BaseException") = some true) && (decide (PySem.W.typeIn K (.ref (He.ga K "NoMoment")) = some (.type "type")) && (clsVal (PySem.W.findCls K (.type "Exception") (.type "type") "__init__") "Exception.__init__" && (oexB K (He.ga K "NoMoment") && (xfB K (He.ga K "NoMoment") && (iniB K (He.ga K "FallError") "ValueError.__init__" && (smB K (He.ga K "Run") "of" && (nilB K (kwdAt ("Plan", some "__init__") "torn" K) && (decide ((He.cT K ("_law_worked", none)).2 ≠ (He.cT K ("is_value", none)).2) && (decide ((He.cT K ("_law_worked", none)).2 ≠ (He.cT K ("_changed", none)).2) && (decide ((He.cT K ("_law_worked", none)).2 ≠ (He.cT K ("Run", some "said_by")).2) && (decide ((He.cT K ("_law_worked", none)).2 ≠ (He.cT K ("_is_word", none)).2) && (decide ((He.cT K ("_law_worked", none)).2 ≠ (He.cT K ("Plan", some "__init__")).2))))))))))))))))
abbrev R : PySem.W.OpenRow := PySem.W.OpenLaw.row PySem.Challenge.rw_fallways_k10_what_falls_keep
abbrev hk : PySem.W.Hook := hookL adrs fa fn tf ex
def ob (s : PySem.W.SharedT) : AlZ := obsL adrs fa fn tf ex (HandSHeadRun.getT s)
theorem ob_eq (s : PySem.W.SharedT) : ob s = hk.obs s.abs := obsL_eq (HandSHeadRun.getT_eq s)
def loose : List Str := (["_wall", "FallError", "BadName", "BadValue", "BadLimit", "NoPage", "NoMoment", "Beyond", "Held", "is_value", "is_integer", "mark", "Hand", "_check_value", "perform", "_end_of", "ways_to_fall", "_way", "_ways_of_page", "_torn_parts", "_combined", "Moment", "_changed", "moments_of", "Run", "LETTERS_OF_WORD", "HIGHEST_LONGEST", "HIGHEST_MOST", "Plan", "_rest"] : List Str) ++ (["_check_names", "_is_word", "_check_torn", "_check_values", "_check_limit", "_law_source", "_law_draw", "_law_pick", "_law_same", "_law_told", "_law_wish", "_law_ask", "_law_play", "_law_worked", "_law_run", "_law_late", "_law_worths", "_law_fits", "_law_pairs_of", "_law_kept", "_law_plan", "_law_piece", "_law_putting"] : List Str)
open HandSHeadRun in
theorem run1 (w : World) (os : OsState) : (endF (stepQ (denQ tabQ) R.prog w) 20000 R.prog w os).map (fun s => looksF R.prog (PySem.W.boot_heap w.params) s.abs) = some true := by
  kernel_rfl
open HandSHeadRun PySem.W PySem.Calls PyProof.Rows in
theorem run2 (w : World) (os : OsState) : (endF (stepQ (denQ tabQ) R.prog w) 20000 R.prog w os).map (fun s => seenQ (PySem.W.view R.prog [61]) loose (importedModules R.prog.main.body) (fun s => xlAt (PySem.W.view R.prog [61]) [] s && recOk R.toRowW.records s) s.abs) = some (openGood (PySem.W.view R.prog [61]) loose) := by
  kernel_rfl
open HandSHeadRun in
theorem run3 (w : World) (os : OsState) : (endF (stepQ (denQ tabQ) R.prog w) 20000 R.prog w os).map ob = some (hk.val w) := by
  kernel_rfl
theorem run (w : World) : HandSHeadRun.RunEq R (PySem.W.view R.prog [61]) hk ob 20000 loose w := HandSHeadRun.run_parts (run1 w) (run2 w) (run3 w)


end K10
/-! generator expressions that a built-in draws at once: tuple(..), all(..), any(..), the element of any form -/
namespace GX
open PySem PySem.Spec PyProof.Rows L2 GenW
/-- the context of a generator expression's frame -/
abbrev gcx (X : Cx) (A : Around) (s : Shared) (H : Hp) (cenv : Env) (fp : List Addr) : Cx :=
  { X with A := A.deeper cenv, s_0 := s, H_0 := H, env := cenv, outer := X.stack, stack := cenv :: X.stack, ex := fp, fn := fun _ => false, pn := [], calm := true, xe := fun _ _ => False }
theorem over_loopG {A : Around} {elt : Expr} {gs : List Comprehension} {sc : Scope} {pos : Pos} {it acc : Value} {cenv : Env} : A.over (.compLoop (.GeneratorExp elt gs sc pos) 0 it acc cenv) [] = A.deeper cenv := by
  first
    | rfl
    | (obtain ⟨hd, d, fr, gs, u⟩ := A; simp [Around.over, Around.deeper, marksOver, frameCount, unitsOf, envsOf, guardsOf, pushEnvs, pushGuards, Code.envs, Code.env?, Code.isFrame, Code.guards, Code.isGuard, Code.weight, Code.frames, Code.isCreation, Code.isCaller, Code.cUnits])
theorem over_startG {A : Around} {elt : Expr} {gs : List Comprehension} {sc : Scope} {pos : Pos} {it acc : Value} {cenv : Env} : A.over (.compStart (.GeneratorExp elt gs sc pos) 0 it acc cenv) [] = A.deeper cenv := by
  first
    | rfl
    | (obtain ⟨hd, d, fr, gs, u⟩ := A; simp [Around.over, Around.deeper, marksOver, frameCount, unitsOf, envsOf, guardsOf, pushEnvs, pushGuards, Code.envs, Code.env?, Code.isFrame, Code.guards, Code.isGuard, Code.weight, Code.frames, Code.isCreation, Code.isCaller, Code.cUnits])
section
variable {X : Cx} {pins : List (Addr × Obj)} {σ : L2.St} {H : Hp} {s s2 : Shared} {A : Around}
theorem gx_start {scope : Scope} {own : List (Str × Nat)} {fp : List Addr} {code : Value} {bi : Addr} {m0 : Str → Option Value} (I : Inv X pins σ H s) (ok : BlkOk X.N X.env.scope scope own) (hN : X.N.Nodup) (hcell : ∀ y ∈ scope.names, y.2 ≠ .cell)
    (hfp : ∀ b ∈ fp, FpOk X pins H b ∧ b < s.heap.objs.size) (hA : A.handled = none) (hfr : A.frames = some X.stack) (hbi : bi = builtinsNs) (os : s2.os = s.os) (bare : AllBare s2.gens) (kp : ∀ b o, s.heap.get? b = some o → s2.heap.get? b = some o) (hns : s2.heap.Ns s.heap.objs.size m0) :
    Inv (gcx X A s H (genEnv scope (cloFrom X.env.cells scope.names []) s.heap.objs.size code bi X.env) fp) [] (wipe σ (own.map (·.2))) H s2 := by
  have hfree : ∀ y ∈ scope.names, y.2 = .free → ∃ c, X.env.cells.lookup y.1 = some c := fun y hy e => by
    rcases ok.free y hy e with k | k
    · exact I.ok.has _ (.inl k)
    · exact I.ok.has _ (.inr k)
  have cm : ∀ {y c}, (y, c) ∈ cloFrom X.env.cells scope.names [] → X.env.cells.lookup y = some c ∧ c < s.heap.objs.size := fun {y c} hm => by
    rcases cloFrom_mem hm with hm | ⟨h1, rfl⟩
    · cases hm
    · obtain ⟨c, hc⟩ := hfree _ h1 rfl
      rw [hc]
      obtain ⟨w, z⟩ := I.cell _ _ hc
      exact ⟨rfl, z.lt⟩
  generalize hcenv : genEnv scope (cloFrom X.env.cells scope.names []) s.heap.objs.size code bi X.env = cenv
  have hL : cenv.locals = s.heap.objs.size := by rw [← hcenv]; rfl
  have hcl : cenv.cells = cloFrom X.env.cells scope.names [] := by rw [← hcenv]; rfl
  have hsc : cenv.scope = scope := by rw [← hcenv]; rfl
  have hfm : cenv.frame = some cenv.locals := by rw [← hcenv]; rfl
  have look : ∀ {y}, scope.names.lookup y = some .free → ∃ c, cenv.cells.lookup y = some c ∧ X.env.cells.lookup y = some c := fun {y} hl => by
    have hy : (y, NameKind.free) ∈ scope.names := PySem.mem_of_lookup hl
    obtain ⟨c', e'⟩ := mem_lookup (cloFrom_has (cells := X.env.cells) (acc := []) hy)
    rw [← hcl] at e'
    refine ⟨c', e', ?_⟩
    rw [hcl] at e'
    exact (cm (PySem.mem_of_lookup e')).1
  have okG : (gcx X A s H cenv fp).Ok := by
    refine ⟨I.ok.mod, by show cenv.scope.kind = _; rw [hsc]; exact ok.kind, by show cenv.globals = _; rw [← hcenv]; exact I.ok.glob, by show cenv.builtins = _; rw [← hcenv]; exact hbi, by show s.heap.objs.size ≤ cenv.locals; rw [hL]; exact Nat.le_refl _,
      fun y z c e1 e2 => ?_, fun y hy => ?_, fun y c z e => ?_, fun _ => hA, Around.frames_deeper hfr, .inr ⟨rfl, hfm⟩, fun b hb => ⟨?_, fun y c e z => ?_⟩, I.bs, Nat.le_trans I.ok.bsz I.sz, fun b o e hb => ?_, fun b hb z => ?_, I.stack, I.stkFree⟩
    · have e1 : cenv.cells.lookup y = some c := e1
      have e2 : cenv.cells.lookup z = some c := e2
      rw [hcl] at e1 e2
      exact I.ok.inj y z c (cm (PySem.mem_of_lookup e1)).1 (cm (PySem.mem_of_lookup e2)).1
    · show ∃ c, cenv.cells.lookup y = some c
      have hy' : scope.names.lookup y = some .cell ∨ scope.names.lookup y = some .free := by
        rw [← hsc]
        exact hy
      rcases hy' with k | k
      · exact absurd rfl (hcell _ (PySem.mem_of_lookup k))
      · obtain ⟨c, h1, _⟩ := look k
        exact ⟨c, h1⟩
    · exact absurd (show false = true from z) Bool.false_ne_true
    · show b ≠ cenv.locals
      rw [hL]; exact Nat.ne_of_lt (hfp b hb).2
    · have e : cenv.cells.lookup y = some c := e
      rw [hcl] at e
      exact (hfp b hb).1.2.2.2.2.1 y c (cm (PySem.mem_of_lookup e)).1 z
    · rcases (hfp b hb).1.2.2.2.1 with z | z
      · exact I.ok.noex b o e z
      · exact absurd (Nat.lt_of_lt_of_le (Heap.lt_size e) (Nat.le_trans I.ok.bsz z)) (Nat.lt_irrefl _)
    · rcases List.mem_cons.mp (I.stkSub b z) with z | z
      · exact (hfp b hb).1.2.1 z
      · exact (hfp b hb).1.2.2.1 z
  refine ⟨okG, os, bare, Un.kept kp, ⟨m0, ?_, fun i y av e1 e2 e3 => ?_⟩, fun y c e => ?_, ?_, fun y c e => ?_, fun p hp => ?_, I.hok.kept kp, by rw [wipe_length]; exact I.len⟩
  · show Heap.Ns _ cenv.locals _
    rw [hL]
    exact hns
  · obtain ⟨e2, hne⟩ := wipe_some e2
    have e3' : Vis scope y := by rw [← hsc]; exact e3
    have no : ∀ k, scope.names.lookup y = some k → ¬ (k = .local ∨ k = .cell) := fun k e hh => by
      rcases ok.own _ (PySem.mem_of_lookup e) hh with e' | e'
      · obtain ⟨p, hp, hpy⟩ := List.mem_map.mp e'
        have e3 := ok.ix p hp
        have : p.1 = y := hpy
        rw [this] at e3
        exact hne (List.mem_map.mpr ⟨p, hp, nodup_ix hN e3 e1⟩)
      · exact e' (List.mem_of_getElem? e1)
    have hfr : scope.names.lookup y = some .free := by
      rcases e3' with e3 | e3 | e3
      · exact absurd (.inl rfl) (no _ e3)
      · exact absurd (.inr rfl) (no _ e3)
      · exact e3
    obtain ⟨m, hn, hl⟩ := I.loc
    have hvis : Vis X.env.scope y := (ok.free _ (PySem.mem_of_lookup hfr) rfl).elim (fun k => .inr (.inl k)) (fun k => .inr (.inr k))
    obtain ⟨w, r, q⟩ := hl i y av e1 e2 hvis
    have hk : cenv.kindOf y = some .free := by
      show cenv.scope.names.lookup y = _
      rw [hsc]
      exact hfr
    refine ⟨w, r, .inr ⟨.inr hk, ?_⟩⟩
    obtain ⟨c, h1, h2⟩ := look hfr
    rcases q with ⟨k, _⟩ | ⟨_, c', e', z⟩
    · have k : X.env.scope.names.lookup y = some .local := k
      rcases ok.free _ (PySem.mem_of_lookup hfr) rfl with k' | k' <;> rw [show X.env.scope.names.lookup y = _ from k'] at k <;> cases k
    · rw [h2] at e'; cases e'
      exact ⟨c, h1, z.keeps kp⟩
  · have e : cenv.cells.lookup y = some c := e
    rw [hcl] at e
    obtain ⟨w, z⟩ := I.cell y c (cm (PySem.mem_of_lookup e)).1
    exact ⟨w, z.keeps kp⟩
  · show H cenv.locals = none
    rw [hL]; exact I.hok.fresh (Nat.le_refl _)
  · have e : cenv.cells.lookup y = some c := e
    rw [hcl] at e
    exact I.freeC y c (cm (PySem.mem_of_lookup e)).1
  · exact absurd (show p ∈ ([] : List (Addr × Obj)) ++ [] from hp) (by simp)
end
end GX

namespace GX
open PySem PySem.Spec PyProof.Rows L2 GenW
theorem compTurn_gx (elt target iter : Expr) (ifs : List Expr) (scope : Scope) (pos : Pos) (it acc : Value) (env : Env) :
    compTurn (.GeneratorExp elt [⟨target, iter, ifs, 0⟩] scope pos) 0 it acc env = (do
      standAt iter.pos
      match ← pyNext it with
      | none => pure (.done .next)
      | some v =>
        letOwnedTupleGo target it v
        assign target env v
        let ok ← forIn ifs true fun c r => if r = true then do let ok ← isTrue c env (eval c env); pure (ForInStep.yield ok) else pure (ForInStep.yield r)
        if ok then
          (do let v ← eval elt env; standAt elt.pos; let _ ← yieldOut env v)
        again (.compLoop (.GeneratorExp elt [⟨target, iter, ifs, 0⟩] scope pos) 0 it acc env)) := by rfl
/-- while the generator sleeps: its consumer's own objects cs stand as pc, all else is kept -/
structure Slp (cs : List Addr) (pc : List (Addr × Obj)) (s s' : Shared) : Prop where
  os : s'.os = s.os
  bare : AllBare s'.gens
  keep : ∀ b o, b ∉ cs → s.heap.get? b = some o → s'.heap.get? b = some o
  pin : ∀ p ∈ pc, s'.heap.get? p.1 = some p.2 ∧ ∀ v, p.2.data ≠ .cell v
  dom : ∀ b, b ∈ cs ↔ ∃ o, (b, o) ∈ pc
/-- the consumer's objects are none of the frame's -/
def Aprt (X : Cx) (cs : List Addr) : Prop := ∀ b ∈ cs, X.s_0.heap.objs.size ≤ b ∧ b ≠ X.env.locals ∧ (∀ x c, X.env.cells.lookup x = some c → c ≠ b) ∧ ∀ p ∈ X.pn, p.1 ≠ b
theorem slp_inv {X : Cx} {cs : List Addr} {pc pc' pl : List (Addr × Obj)} {σ : L2.St} {H : Hp} {s s' : Shared} (I : Inv X (pc ++ pl) σ H s) (ap : Aprt X cs) (dom : ∀ b ∈ cs, ∃ o, (b, o) ∈ pc) (hpl : ∀ p ∈ pl, p.1 ∉ cs) (z : Slp cs pc' s s') : Inv X (pc' ++ pl) σ H s' := by
  have fact : ∀ b ∈ cs, H b = none ∧ b ≠ X.env.locals ∧ b ∉ X.fs := fun b hb => by
    obtain ⟨o, ho⟩ := dom b hb
    obtain ⟨_, h2, h3, h4, _⟩ := I.pin (b, o) (List.mem_append_right _ (List.mem_append_left _ ho))
    exact ⟨h2, h3, h4⟩
  have I0 : Inv X pl σ H s := I.pins_of fun p hp => I.pin p (List.mem_append_right _ (List.mem_append_right _ hp))
  obtain ⟨z1, z2, z3, z4, z5⟩ := z
  obtain ⟨hh, g, d, t, o⟩ := s'
  have ho : o = s.os := z1
  subst ho
  have has : ∀ b ∈ cs, ∃ o, hh.get? b = some o := fun b hb => by
    obtain ⟨o, ho⟩ := (z5 b).mp hb
    exact ⟨o, (z4 (b, o) ho).1⟩
  have J : Inv X pl σ H { s with heap := hh, gens := g, drawn := d, toks := t } := by
    refine I0.step (g' := g) (t' := t) (d' := d) (ch := cs) (fun b hb => ?_)
      (fun b ob _ _ hc q _ => z3 b ob hc q) (fun b ob _ _ hc q _ => ⟨ob.slots, z3 b ob hc q⟩) (fun _ _ _ _ n => n) (fun b ob hc q => ⟨ob, z3 b ob hc q⟩)
      (fun _ _ q => q) (fun _ _ _ q => q) (fun b ps q => ⟨#[], by rw [q]; simp⟩) (fun m hm => ?_) (fun b u q => ?_) z2
    · obtain ⟨a1, a2, a3, a4⟩ := ap b hb
      refine ⟨.inr a1, a2, a3, fun p hp => ?_⟩
      rcases List.mem_append.mp hp with hp | hp
      · exact a4 p hp
      · exact fun e => hpl p hp (by rw [e]; exact hb)
    · obtain ⟨ob, es, ep, ho, r⟩ := hm
      exact ⟨ob, es, ep, z3 _ ob (fun hb => (fact _ hb).2.1 rfl) ho, r⟩
    · refine (I0.hok b u q).stay (fun c v hc y => z3 c v (fun hb => ?_) y) (fun _ y => y) fun _ _ y => y
      have n := (fact c hb).1
      rcases hc with y | y
      · rw [y, q] at n; cases n
      · rw [y] at n; cases n
  refine J.pins_of fun p hp => ?_
  rcases List.mem_append.mp hp with hp | hp
  · obtain ⟨b, o⟩ := p
    have hb : b ∈ cs := (z5 b).mpr ⟨o, hp⟩
    obtain ⟨f1, f2, f3⟩ := fact b hb
    exact ⟨(z4 (b, o) hp).1, f1, f2, f3, (z4 (b, o) hp).2⟩
  · exact J.pin p (List.mem_append_right _ hp)
/-- the reading's turns: W by the turn, a measure and what the consumer has -/
def GxW {β : Type} (J : It) (g : TG) (tt : TT) (te : TE) (vs : List Nat) (σ : L2.St) (Fin : β → Hp → Prop) (Emit : β → V → Hp → (β → Hp → Prop) → Prop) (W : Nat → Nat → β → Hp → Prop) : Prop :=
  ∀ i m b H, W i m b H → (J.stop i H ∧ Fin b H) ∨ (J.go i H ∧ ∃ Nx : β → Hp → Prop, (∀ b' H', Nx b' H' → ∃ m', m' < m ∧ W (i + 1) m' b' H') ∧
    ∀ x H', J.yld i H x H' → g x (wipe σ vs) H' fun σ2 H2 => wipe σ2 vs = wipe σ vs ∧ tt σ2 H2 fun t H3 => if t = true then te σ2 H3 fun y H4 => Emit b y H4 Nx else Nx b H3)
section
variable {X : Cx} {A : Around} {β : Type} {elt tg iter : Expr} {ifs : List Expr} {scope : Scope} {pos : Pos} {it : Addr} {g : TG} {tt : TT} {te : TE} {vs : List Nat} {σ : L2.St} {fp cs : List Addr} {tn : Nat → Heap → Prop} {J : It}
variable {Fin : β → Hp → Prop} {Emit : β → V → Hp → (β → Hp → Prop) → Prop} {W : Nat → Nat → β → Hp → Prop} {PC : β → List (Addr × Obj) → Prop} {Bd : Nat → Nat → β → Prop} {R : GenEnd} {Y : Protocol} {pl : List (Addr × Obj)}
/-- the turns of a generator expression; X: its frame's context, A: the around of who wakes it -/
theorem seg_gx (hXA : X.A = A.deeper X.env) (hhd : X.A.handled = none) (hc : X.calm = true) (hco : X.env.scope.isCoroutine = false) (hxe : X.xe = fun _ _ => False) (hex : X.ex = fp) (hpn : X.pn = [])
    (T : Turn X.prog X.w X.K tg J fp it tn) (hg : PG X tg g) (ht : PTs X ifs tt) (he : PE X elt te) (turn : GxW J g tt te vs σ Fin Emit W) (ap : Aprt X cs)
    (hfc : ∀ b ∈ fp, b ∉ cs) (hplc : ∀ p ∈ pl, p.1 ∉ cs ∧ p.1 ∉ fp) (dom : ∀ b pc, PC b pc → ∀ c, c ∈ cs ↔ ∃ o, (c, o) ∈ pc)
    (hbm : ∀ n m m' b, Bd n m b → m' < m → Bd n m' b) (hb0 : ∀ n m b y H Nx, Bd n m b → Emit b y H Nx → 0 < n)
    (hY : ∀ (n m : Nat) (b : β) (s₀ s : Shared) (v : Value) (y : V) (σ' : L2.St) (H' : Hp) (pc pl' : List (Addr × Obj)) (Nx : β → Hp → Prop) (kap : Resume → Shared → Prop), PC b pc → Bd (n + 1) m b → Inv X (pc ++ pl') σ' H' s → (∀ p ∈ pl, p ∈ pl') → RelV y v → Emit b y H' Nx →
      (∀ b' pc' s', PC b' pc' → Slp cs pc' s s' → Nx b' H' → (∀ m', m' < m → Bd n m' b') → kap (.send .none) s') → Y n s₀ v s kap)
    (hR : ∀ (n m : Nat) (b : β) (s₀ s : Shared) (σ' : L2.St) (H' : Hp) (pc : List (Addr × Obj)), PC b pc → Bd n m b → Inv X (pc ++ pl) σ' H' s → Fin b H' → R n s₀ (.ok .next) s) :
    ∀ (m n i : Nat) (b : β) (s₀ s : Shared) (H : Hp) (pc : List (Addr × Obj)), Bd n m b → PC b pc → Inv X (pc ++ pl) (wipe σ vs) H s → tn i s.heap → (∀ b ∈ fp, H b = none) → W i m b H →
      Seg (model X.prog X.w) A R Y n s₀ (.compLoop (.GeneratorExp elt [⟨tg, iter, ifs, 0⟩] scope pos) 0 (.ref it) .none X.env)
        ((model X.prog X.w).den (.compLoop (.GeneratorExp elt [⟨tg, iter, ifs, 0⟩] scope pos) 0 (.ref it) .none X.env)) [] s := by
  have stat : ∀ {σ' : L2.St} {H' : Hp} {s' : Shared} {pc : List (Addr × Obj)}, (∀ q ∈ pc, q.1 ∈ cs) → Inv X (pc ++ pl) σ' H' s' → (∀ b ∈ fp, H' b = none) → ∀ b ∈ fp, FpOk X (pc ++ pl) H' b := fun {σ' H' s' pc} hpc I' hn b hb => by
    have hb' : b ∈ X.ex := by rw [hex]; exact hb
    refine ⟨hn b hb, (I'.ok.exf b hb').1, I'.ok.exfs b hb', .inl hb', fun x c e => (I'.ok.exf b hb').2 x c e, fun p hp e => ?_⟩
    rw [hpn, List.nil_append] at hp
    rcases List.mem_append.mp hp with hp | hp
    · exact hfc b hb (by rw [← e]; exact hpc p hp)
    · exact (hplc p hp).2 (by rw [e]; exact hb)
  intro m
  induction m using Nat.strongRecOn with
  | ind m ih =>
    intro n i b s₀ s H pc hbd hpc I st nfp w0
    have hpcs : ∀ q ∈ pc, q.1 ∈ cs := fun q hq => (dom b pc hpc q.1).mpr ⟨q.2, hq⟩
    show Seg _ A _ _ _ s₀ _ ((compTurn (.GeneratorExp elt [⟨tg, iter, ifs, 0⟩] scope pos) 0 (.ref it) .none X.env).onRaise (leaving X.env)) [] s
    rw [compTurn_gx, Sem.onRaise_eq_wrap]
    refine seg_bind_wrap (wpAny_standAt ?_)
    refine seg_bind_wrap ?_
    rw [over_loopG, ← hXA]
    rcases turn i m b H w0 with ⟨stop, qn⟩ | ⟨go, Nx, hN, step⟩
    · refine thnF (T.done X rfl rfl rfl hc i _ s _ H (fun _ _ => False) I (stat hpcs I nfp) st stop) fun r s4 ⟨hr, I4⟩ => ?_
      subst hr
      exact seg_end (.ok .next) (hR n m b s₀ s4 _ H pc hpc hbd I4 qn)
    · refine thnF (T.item X rfl rfl rfl hc i _ s _ H (fun _ _ => False) I (stat hpcs I nfp) st go) fun r s4 ⟨u, hr, h4⟩ => ?_
      subst hr
      refine seg_bind_wrap ?_
      rw [over_loopG, ← hXA]
      refine thnF h4 fun _ s5 ⟨x, H5, I5, r5, y5, st5, nf5⟩ => ?_
      have I5' := I5.pinned (stat hpcs I5 nf5) (T.obj _ _ st5)
      have xeF : ∀ {α : Type} {t : Sem α} {Q Q' : α → Shared → Prop} {E : Value → Shared → Prop} {s : Shared}, wpAny (model X.prog X.w) X.A t Q X.xe s → (∀ a s, Q a s → Q' a s) → wpAny (model X.prog X.w) X.A t Q' E s := fun {α t Q Q' E s} h hQ =>
        wpAny_mono h hQ fun _ _ z => by rw [hxe] at z; exact False.elim z
      refine seg_bind_wrap ?_
      rw [over_loopG, ← hXA]
      refine xeF (hg.run _ s5 _ H5 x u _ I5' r5 (step x H5 y5)) fun _ s6 ⟨σ6, H6, I6, hw6, q6⟩ => ?_
      refine seg_bind_wrap ?_
      rw [over_loopG, ← hXA]
      refine xeF (ht.run _ s6 σ6 H6 _ I6 q6) fun t s7 ⟨H7, I7, q7⟩ => ?_
      have hl : (wipe σ vs).length = σ6.length := by rw [← hw6, wipe_length]
      -- the next turn
      have next : ∀ {n' : Nat} {s₀' s' : Shared} {b' : β} {H' : Hp} {pc' : List (Addr × Obj)}, (∀ m', m' < m → Bd n' m' b') → PC b' pc' → Inv X (pc' ++ (pl ++ pinsAt fp s5.heap)) σ6 H' s' → Nx b' H' →
          Seg (model X.prog X.w) A R Y n' s₀' (.compLoop (.GeneratorExp elt [⟨tg, iter, ifs, 0⟩] scope pos) 0 (.ref it) .none X.env)
            ((model X.prog X.w).den (.compLoop (.GeneratorExp elt [⟨tg, iter, ifs, 0⟩] scope pos) 0 (.ref it) .none X.env)) [] s' := fun {n' s₀' s' b' H' pc'} hbd' hpc' I' nx => by
        obtain ⟨m', hm, w'⟩ := hN b' H' nx
        have pin' : ∀ c ∈ fp, ∀ o, s5.heap.get? c = some o → s'.heap.get? c = some o ∧ H' c = none := fun c hc o e =>
          let z := I'.pin (c, o) (List.mem_append_right _ (List.mem_append_right _ (List.mem_append_right _ (mem_pinsAt hc e))))
          ⟨z.1, z.2.1⟩
        have I2 : Inv X (pc' ++ pl) σ6 H' s' := I'.pins_of fun p hp => I'.pin p (List.mem_append_right _ (by
          rcases List.mem_append.mp hp with hp | hp
          · exact List.mem_append_left _ hp
          · exact List.mem_append_right _ (List.mem_append_left _ hp)))
        refine ih m' hm n' (i + 1) b' s₀' s' H' pc' (hbd' m' hm) hpc' (I2.weak hl (fun j v e => ?_)) (T.keep _ _ _ st5 fun c hc o e => (pin' c hc o e).1) (fun c hc => ?_) w'
        · rw [← hw6] at e
          exact (wipe_some e).1
        · obtain ⟨o, e, _⟩ := T.obj _ _ st5 c hc
          exact (pin' c hc o e).2
      cases t with
      | false =>
        simp only [Bool.false_eq_true, if_false] at q7 ⊢
        refine seg_again rfl (next (fun m' hm => hbm n m m' b hbd hm) hpc ?_ q7)
        rw [← List.append_assoc]
        exact I7
      | true =>
        simp only [if_true] at q7 ⊢
        have hy : ∀ v, yieldOut X.env v = yieldValue v := fun v => by simp only [yieldOut, hco, Bool.false_eq_true, if_false]
        simp only [hy]
        rw [Sem.bind_eq_wrap', Sem.bind_eq_wrap', Sem.wrap_wrap, Sem.wrap_wrap]
        refine seg_wrap ?_
        rw [over_loopG, ← hXA]
        refine xeF (he.run _ s7 σ6 H7 _ I7 q7) fun v s8 ⟨y, H8, I8, r8, q8⟩ => ?_
        have hn := hb0 n m b y H8 Nx hbd q8
        obtain ⟨n, rfl⟩ : ∃ k, n = k + 1 := ⟨n - 1, by omega⟩
        have I8' : Inv X (pc ++ (pl ++ pinsAt fp s5.heap)) σ6 H8 s8 := by
          rw [← List.append_assoc]
          exact I8
        refine seg_at (seg_yield rfl rfl rfl (hY n m b s₀ s8 v y σ6 H8 pc (pl ++ pinsAt fp s5.heap) Nx _ hpc hbd I8' (fun p hp => List.mem_append_left _ hp) r8 q8 fun b' pc' s' hpc' hsl nx hbd' => ?_))
        have I9 := slp_inv I8' ap (fun c hc => (dom b pc hpc c).mp hc) (fun p hp => by
          rcases List.mem_append.mp hp with hp | hp
          · exact (hplc p hp).1
          · exact hfc _ (of_pinsAt hp).1) hsl
        exact seg_again rfl (next hbd' hpc' I9 nx)
/-- .. from its start -/
theorem seg_gx0 (hXA : X.A = A.deeper X.env) (T : Turn X.prog X.w X.K tg J fp it tn) {n : Nat} {s₀ s : Shared} (st : tn 0 s.heap)
    (loop : Seg (model X.prog X.w) A R Y n s₀ (.compLoop (.GeneratorExp elt [⟨tg, iter, ifs, 0⟩] scope pos) 0 (.ref it) .none X.env)
        ((model X.prog X.w).den (.compLoop (.GeneratorExp elt [⟨tg, iter, ifs, 0⟩] scope pos) 0 (.ref it) .none X.env)) [] s) :
    Seg (model X.prog X.w) A R Y n s₀ (.compStart (.GeneratorExp elt [⟨tg, iter, ifs, 0⟩] scope pos) 0 (.ref it) .none X.env)
        ((model X.prog X.w).den (.compStart (.GeneratorExp elt [⟨tg, iter, ifs, 0⟩] scope pos) 0 (.ref it) .none X.env)) [] s := by
  show Seg _ A _ _ _ s₀ _ ((compStart (.GeneratorExp elt [⟨tg, iter, ifs, 0⟩] scope pos) 0 (.ref it) .none X.env).onRaise (leaving X.env)) [] s
  unfold compStart
  rw [Sem.onRaise_eq_wrap]
  show Seg _ A _ _ _ s₀ _ ((ask >>= _).wrap _ _ _ _) [] s
  refine seg_bind_wrap (wpAny_askSetting ?_)
  split
  · exact seg_again rfl loop
  · refine seg_bind_wrap (wpAny_rule ?_)
    show Seg _ A _ _ _ s₀ _ ((standAt iter.pos >>= _).wrap _ _ _ _) [] s
    exact seg_bind_wrap (wpAny_standAt (seg_bind_wrap (T.self _ 0 s _ _ st (seg_again rfl loop))))
end
end GX

namespace GX
open PySem PySem.Spec PyProof.Rows L2 GenW GxR
/-- a generator that has not begun stands at a in s5; H4: what is held (the table at P may have grown since H1) -/
structure Ready (X : Cx) (pins : List (Addr × Obj)) (σ : L2.St) (P : Addr) (H1 : Hp) (J : It) (elt tg iter : Expr) (ifs : List Expr) (scope : Scope) (gpos : Pos) (a : Addr) (s5 : Shared) (gi : Nat) (code : Value) (s4 : Shared) (H4 : Hp) (it : Addr) (fp : List Addr) (tn : Nat → Heap → Prop) (go : Obj) (m0 : Str → Option Value) : Prop where
  tab : Tabbed P H1 H4
  inv : Inv X pins σ H4 s4
  gen : ∀ h : Heap, h.get? a = some go → h.IsGen a gi
  at_ : s5.heap.get? a = some go
  noc : ∀ v, go.data ≠ .cell v
  fresh : s5.gens[gi]? = some (.fresh (.compStart (.GeneratorExp elt [⟨tg, iter, ifs, 0⟩] scope gpos) 0 (.ref it) .none (genEnv scope (cloFrom X.env.cells scope.names []) s4.heap.objs.size code builtinsNs X.env)))
  young : s4.heap.objs.size < a
  lt : a < s5.heap.objs.size
  os : s5.os = s4.os
  bare : AllBare s5.gens
  keep : ∀ b o, s4.heap.get? b = some o → s5.heap.get? b = some o
  ns : s5.heap.Ns s4.heap.objs.size m0
  lim : s5.heap.NoLimit
  turn : Turn X.prog X.w X.K tg J fp it tn
  st : tn 0 s4.heap
  fpo : ∀ b ∈ fp, FpOk X pins H4 b ∧ b < s4.heap.objs.size
section
variable {X : Cx} {pins : List (Addr × Obj)} {σ : L2.St} {H : Hp} {s : Shared}
theorem gx_make {c P : Addr} {elt tg iter : Expr} {ifs : List Expr} {gpos : Pos} {scope : Scope} {own : List (Str × Nat)} {wi : TI} {Q' : Value → Shared → Prop} {R : It → Hp → Prop} {k : Nat}
    (hr : Room k X.A) (TB : TabB X.base X.mg c P) (hcode : X.env.code = .ref c) (ok : BlkOk X.N X.env.scope scope own) (hcell : ∀ y ∈ scope.names, y.2 ≠ .cell) (hco : scope.isCoroutine = false) (hdot : scope.names.lookup (".0" : Str) = some NameKind.local)
    (hi : PI X tg iter wi) (hs : ∀ v, genFold iter X.env v = pure v) (I : Inv X pins σ H s) (h : wi σ H fun J H1 => TabG H1 P ∧ R J H1)
    (hQ : ∀ J H1 a s5 gi code s4 H4 it fp tn go m0, R J H1 → Ready X pins σ P H1 J elt tg iter ifs scope gpos a s5 gi code s4 H4 it fp tn go m0 → Q' (.ref a) s5) :
    wpAny (model X.prog X.w) X.A (eval (.GeneratorExp elt [⟨tg, iter, ifs, 0⟩] scope gpos) X.env) Q' X.xe s := by
  have hfree : ∀ y ∈ scope.names, y.2 = .free → ∃ c, X.env.cells.lookup y.1 = some c := fun y hy e => by
    rcases ok.free y hy e with k | k
    · exact I.ok.has _ (.inl k)
    · exact I.ok.has _ (.inr k)
  refine wpAny_GeneratorExp_make hco (closure_ok hfree) hcell hdot ok.kind (by have := hr.dp; omega) ?_ hs
  refine thn (hi.run pins s σ H _ I h) fun xv s1 hx => thn hx fun itv s2 h2 => ?_
  obtain ⟨it, fp, tn, J, H1, e, I2, T, st2, f2, ⟨ps, hP, htr⟩, q1⟩ := h2
  subst e
  have hPs : s2.heap.get? P = some { cls := .none, data := .fields ps } := I2.hok P _ hP
  have hPlt : P < s2.heap.objs.size := Heap.lt_size hPs
  have cd : PySem.W.CodeHd s2.heap c P := TB.code.keeps fun b u e => I2.bk b u e
  have lim2 : s2.heap.NoLimit := I2.nolimit
  have fpP : ∀ b ∈ fp, b ≠ P := fun b hb z => by
    have n := (f2 b hb).1
    rw [z, hP] at n
    cases n
  have cont : ∀ (code : Value) (h3 : Heap) (tk : Nat) (ps' : Array Value), Heap.ExtBut P s2.heap h3 → s2.heap.objs.size ≤ h3.objs.size → h3.get? P = some { cls := .none, data := .fields ps' } → (∃ more, ps' = ps ++ more) → TriplesOk ps'.toList →
      wpAny (model X.prog X.w) X.A (builtinsFor X.env.globals X.env.builtins) (fun bi s₄ =>
        ∀ h', h'.Ns s₄.heap.objs.size (fun y => if y = ".0" then some (Value.ref it) else none) → Heap.SameBut s₄.heap.objs.size (s₄.heap.push { cls := .type "frame", data := .dict #[] }) h' →
          Q' (.ref h'.objs.size) { s₄ with
            gens := s₄.gens.push (.fresh (.compStart (.GeneratorExp elt [⟨tg, iter, ifs, 0⟩] scope gpos) 0 (.ref it) .none (genEnv scope (cloFrom X.env.cells scope.names []) s₄.heap.objs.size code bi X.env))),
            toks := s₄.toks + 1 + 1 + 1,
            heap := h'.push { cls := .type "generator", data := .fields #[.int s₄.gens.size 0, .str "<genexpr>" (s₄.toks + 1), .str (X.env.qual ++ "<genexpr>") (s₄.toks + 1 + 1)] } }) X.xe { s2 with heap := h3, toks := tk } := by
    intro code h3 tk ps' hx hsz hP3 hmore ht3
    obtain ⟨bm, ob, e1, e2, e3, e4, e5, e6, e7, e8⟩ := TB.bm
    have hcP : cStatics ≠ P := fun e => by
      obtain ⟨_, hns, _⟩ := I2.nolimit
      obtain ⟨o', es, ep, ho, hd, _⟩ := hns
      rw [e, hPs] at ho
      cases ho
      cases hd
    have keep3 : ∀ b u, b ≠ P → s2.heap.get? b = some u → h3.get? b = some u := fun b u hb e => hx b u hb e
    obtain ⟨more, em⟩ := hmore
    have I4 := inv_tab (more := more) (h' := h3) (g' := s2.gens) (d' := s2.drawn) (t' := tk) I2 hP keep3 (by rw [← em]; exact hP3) I2.bare
    refine wpAny_builtinsFor (m := X.mg) (by rw [I2.ok.glob]; exact (I2.mod.glob.keeps I2.bk).extBut hx TB.gP) e1 e2 (keep3 _ _ e4 (I2.bk _ _ e5)) e6 e7 e8 ?_
    intro h' hn' hs'
    have hsz' : h'.objs.size = h3.objs.size + 1 := by rw [hs'.1, Heap.size_push]
    have keep' : ∀ b o, h3.get? b = some o → h'.get? b = some o := fun b o e => hs'.extBut b o (Nat.ne_of_lt (Heap.lt_size e)) (Heap.get?_push_of_some _ e)
    have kk : ∀ (go : Obj) (b : Addr) (o : Obj), h3.get? b = some o → (h'.push go).get? b = some o := fun go b o e => Heap.get?_push_of_some _ (keep' b o e)
    refine hQ J H1 _ _ s2.gens.size code { s2 with heap := h3, toks := tk } (upd H1 P (.tbl (ps ++ more))) it fp tn _ _ q1 ⟨⟨⟨ps ++ more, upd_same, by rw [← em]; exact ht3⟩, fun b hb => upd_ne hb⟩, I4, fun h e => ⟨_, _, _, e, rfl, rfl, rfl⟩, Heap.get?_push_size _ rfl, (fun v q => by cases q), Array.getElem?_push_size .., ?_, ?_, rfl, AllBare.push I2.bare rfl, kk _, hn'.push _, ?_, T, ?_, ?_⟩
    · show h3.objs.size < h'.objs.size
      omega
    · show h'.objs.size < (h'.push _).objs.size
      rw [Heap.size_push]
      exact Nat.lt_succ_self _
    · exact (lim2.extBut hx hcP).keeps (kk _)
    · exact T.keep _ _ _ st2 fun b hb o e => keep3 b o (fpP b hb) e
    · intro b hb
      obtain ⟨o, ho, _⟩ := T.obj _ _ st2 b hb
      refine ⟨⟨?_, (f2 b hb).2⟩, Nat.lt_of_lt_of_le (Heap.lt_size ho) hsz⟩
      rw [upd_ne (fpP b hb)]
      exact (f2 b hb).1
  refine ⟨lim2, ?_⟩
  cases hf : codeAmong gpos ps.toList with
  | none =>
    refine wpAny_genexprCodeX hcode (cd.code hPs htr) (cd.tab hPs) hf fun c' h' tk hx hge hlt hco' _ htab' _ => ?_
    obtain ⟨o1, vs, f1, tf, fl, tg, inF, tx, tt, op, _, _, _, _, _, _, _, _, _, htr2, _⟩ := hco'
    exact cont _ h' tk _ hx (Nat.le_trans hge (Nat.le_of_lt hlt)) htab'.2 ⟨_, rfl⟩ htr2
  | some cv =>
    refine wpAny_genexprCode_hit hcode (cd.code hPs htr) hf ?_
    exact cont cv s2.heap s2.toks ps (Heap.ExtBut.refl _ _) (Nat.le_refl _) hPs ⟨#[], by simp⟩ htr
/-- it is woken in s2 for the first time -/
theorem Ready.start {P : Addr} {H1 : Hp} {J : It} {elt tg iter : Expr} {ifs : List Expr} {scope : Scope} {gpos : Pos} {own : List (Str × Nat)} {a : Addr} {s5 : Shared} {gi : Nat} {code : Value} {s4 : Shared} {H4 : Hp} {it : Addr} {fp : List Addr} {tn : Nat → Heap → Prop} {go : Obj} {m0 : Str → Option Value} {A : Around} {s2 : Shared} {pc : List (Addr × Obj)}
    (r : Ready X pins σ P H1 J elt tg iter ifs scope gpos a s5 gi code s4 H4 it fp tn go m0) (ok : BlkOk X.N X.env.scope scope own) (hN : X.N.Nodup) (hcell : ∀ y ∈ scope.names, y.2 ≠ .cell) (hA : A.handled = none) (hfr : A.frames = some X.stack)
    (os : s2.os = s5.os) (bare : AllBare s2.gens) (kp : ∀ b o, s5.heap.get? b = some o → s2.heap.get? b = some o) (hpc : ∀ p ∈ pc, s5.heap.objs.size ≤ p.1 ∧ s2.heap.get? p.1 = some p.2 ∧ ∀ v, p.2.data ≠ .cell v) :
    Inv (gcx X A s4 H4 (genEnv scope (cloFrom X.env.cells scope.names []) s4.heap.objs.size code builtinsNs X.env) fp) (pc ++ [(a, go)]) (wipe σ (own.map (·.2))) H4 s2 := by
  have I := gx_start (code := code) (A := A) (s2 := s2) r.inv ok hN hcell r.fpo hA hfr rfl (os.trans r.os) bare (fun b o e => kp b o (r.keep b o e)) (r.ns.keeps kp)
  have young : ∀ b, s4.heap.objs.size < b → H4 b = none ∧ b ≠ s4.heap.objs.size ∧ b ∉ frs X.stack := fun b hb => by
    refine ⟨r.inv.hok.fresh (Nat.le_of_lt hb), Nat.ne_of_gt hb, fun hm => ?_⟩
    obtain ⟨_, o, ho, _⟩ := r.inv.stack.mem hm
    exact absurd (Nat.lt_trans (Heap.lt_size ho) hb) (Nat.lt_irrefl _)
  refine I.pins_of fun p hp => ?_
  rcases List.mem_append.mp hp with hp | hp
  · obtain ⟨h1, h2, h3⟩ := hpc p hp
    obtain ⟨y1, y2, y3⟩ := young p.1 (Nat.lt_of_lt_of_le (Nat.lt_trans r.young r.lt) h1)
    exact ⟨h2, y1, y2, y3, h3⟩
  · rw [List.mem_singleton.mp hp]
    obtain ⟨y1, y2, y3⟩ := young a r.young
    exact ⟨kp _ _ r.at_, y1, y2, y3, r.noc⟩
/-- its frame is left: back in the def's context -/
theorem Ready.back {P : Addr} {H1 : Hp} {J : It} {elt tg iter : Expr} {ifs : List Expr} {scope : Scope} {gpos : Pos} {a : Addr} {s5 : Shared} {gi : Nat} {code : Value} {s4 : Shared} {H4 : Hp} {it : Addr} {fp : List Addr} {tn : Nat → Heap → Prop} {go : Obj} {m0 : Str → Option Value} {A : Around} {s1 : Shared} {pn' : List (Addr × Obj)} {σ' : L2.St} {H' : Hp} {cenv : Env}
    (r : Ready X pins σ P H1 J elt tg iter ifs scope gpos a s5 gi code s4 H4 it fp tn go m0) (I : Inv (gcx X A s4 H4 cenv fp) pn' σ' H' s1) : Inv X pins σ H' s1 :=
  r.inv.call' (ch := fp) I.os I.base I.hok I.bare fun b hb => ⟨(r.fpo b hb).1.2.2.2.1, (r.fpo b hb).1.2.1, (r.fpo b hb).1.2.2.2.2.1, (r.fpo b hb).1.2.2.2.2.2⟩
/-- the table of generators does not matter to what is held -/
theorem inv_gens {g' : Array GenState} (I : Inv X pins σ H s) (hb : AllBare g') : Inv X pins σ H { s with gens := g' } :=
  I.step (g' := g') (t' := s.toks) (d' := s.drawn) (h' := s.heap) (H' := H) (ch := []) (fun _ z => nomatch z) (fun _ _ _ _ _ e _ => e) (fun b o _ _ _ e _ => ⟨o.slots, e⟩) (fun _ _ _ _ n => n) (fun b o _ e => ⟨o, e⟩) (fun _ _ q => q) (fun _ _ _ q => q) (fun b ps q => ⟨#[], by rw [q]; simp⟩) (fun m hm => hm) I.hok hb
end
end GX

namespace GX
open PySem PySem.Spec PyProof.Rows L2 GenW GxR
/-- a context's judgements, whoever wakes the generator -/
abbrev GCtx (X : Cx) (k : Nat) (scope : Scope) (J : Cx → Prop) : Prop := ∀ (A : Around) (s : Shared) (H : Hp) (C : Addr) (cl : List (Str × Addr)) (code : Value) (fp : List Addr), Room k (A.deeper (genEnv scope cl C code builtinsNs X.env)) → J (gcx X A s H (genEnv scope cl C code builtinsNs X.env) fp)
section
variable {X : Cx} {pins : List (Addr × Obj)} {σ : L2.St} {H1 H4 : Hp} {P a it : Addr} {J : It} {elt tg iter : Expr} {ifs : List Expr} {scope : Scope} {gpos : Pos} {own : List (Str × Nat)} {s5 s4 : Shared} {gi k : Nat} {code : Value} {fp : List Addr} {tn : Nat → Heap → Prop} {go : Obj} {m0 : Str → Option Value}
variable {g : TG} {tt : TT} {te : TE}
theorem Ready.aprt {A : Around} {S : Addr} (r : Ready X pins σ P H1 J elt tg iter ifs scope gpos a s5 gi code s4 H4 it fp tn go m0) (ok : BlkOk X.N X.env.scope scope own) (hN : X.N.Nodup) (hcell : ∀ y ∈ scope.names, y.2 ≠ .cell) (hA : A.handled = none) (hfr : A.frames = some X.stack)
    (hS : s5.heap.objs.size ≤ S) : Aprt (gcx X A s4 H4 (genEnv scope (cloFrom X.env.cells scope.names []) s4.heap.objs.size code builtinsNs X.env) fp) [S] := by
  have I := r.start (A := A) (s2 := s5) (pc := []) (own := own) ok hN hcell hA hfr rfl r.bare (fun _ _ e => e) (fun p hp => absurd hp (by simp))
  intro b hb
  rw [List.mem_singleton.mp hb]
  have h4 : s4.heap.objs.size < S := Nat.lt_of_lt_of_le (Nat.lt_trans r.young r.lt) hS
  refine ⟨Nat.le_of_lt h4, Nat.ne_of_gt h4, fun x c e z => ?_, fun p hp => absurd hp (by simp)⟩
  obtain ⟨v, q⟩ := I.cell x c e
  have := q.lt
  rw [z] at this
  exact absurd (Nat.lt_of_lt_of_le this hS) (Nat.lt_irrefl _)
/-- collect(g), as tuple(g) does -/
theorem collect_gx {A : Around} {Fin : List V → Hp → Prop} {W : Nat → Nat → List V → Hp → Prop} {Q' : List Value → Shared → Prop} {E : Value → Shared → Prop}
    (r : Ready X pins σ P H1 J elt tg iter ifs scope gpos a s5 gi code s4 H4 it fp tn go m0) (ok : BlkOk X.N X.env.scope scope own) (hN : X.N.Nodup) (hcell : ∀ y ∈ scope.names, y.2 ≠ .cell) (hco : scope.isCoroutine = false)
    (hr : Room (k + 1) A.in1.in1.in1) (hfr : A.frames = some X.stack) (hg : GCtx X k scope fun X' => PG X' tg g) (ht : GCtx X k scope fun X' => PTs X' ifs tt) (he : GCtx X k scope fun X' => PE X' elt te)
    (turn : GxW J g tt te (own.map (·.2)) σ Fin (fun b y H' Nx => b.length < sizeLine ∧ Nx (b ++ [y]) H') W) (w0 : ∃ m, W 0 m [] H4)
    (hQ : ∀ us ys H' s', Vals ys us → ys.length ≤ sizeLine → Inv X pins σ H' s' → Fin ys H' → Q' us s') : wpAny (model X.prog X.w) A (collect (.ref a)) Q' E s5 := by
  have hg5 := r.gen _ r.at_
  have hcl : cStatics < s5.heap.objs.size := let ⟨_, hn, _⟩ := r.lim; hn.lt
  have hSI : s5.heap.objs.size ≠ a := Nat.ne_of_gt r.lt
  have hSc : s5.heap.objs.size ≠ cStatics := Nat.ne_of_gt hcl
  have gty : ∀ {h : Heap}, (∀ b o, s5.heap.get? b = some o → h.get? b = some o) → h.IsGen a gi := fun {h} q => hg5.keeps q
  unfold collect
  refine wpAny_bind (wpAny_runValue (codeAny_builtin F.entry_proto_collect ?_))
  rw [Around.under_plainId F.plain_proto_collect _]
  show wpAny _ A.in1 (newList [] >>= fun l => again (.builtin "list.__iadd__" ⟨[l, .ref a], []⟩)) _ _ s5
  refine wpAny_bind (wpAny_newObj_type ?_)
  refine wpAny_pure ⟨plainId_quiet F.plain_list_iadd _, codeAny_builtin F.entry_list_iadd ?_⟩
  rw [Around.under_plainId F.plain_list_iadd _]
  have k1 : ∀ b o, s5.heap.get? b = some o → (s5.heap.push { cls := .type "list", data := .seq ([] : List Value).toArray }).get? b = some o := fun b o e => Heap.get?_push_of_some _ e
  show wpAny _ A.in1 (Builtin.List.listExtendWith (.ref s5.heap.objs.size) (.ref a) (.ref s5.heap.objs.size)) _ _ _
  unfold Builtin.List.listExtendWith
  refine wpAny_bind (wpAny_typeOf (Heap.IsGen.typeIs (s := { s5 with heap := _ }) (gty k1)) ?_)
  have h1 : Builtin.List.listSameRef (.ref s5.heap.objs.size) (.ref a) = false := by simp [Builtin.List.listSameRef, hSI]
  have h2 : (Value.type "generator" == Value.type "list") = false := by decide
  have h3 : (Value.type "generator" == Value.type "tuple") = false := by decide
  simp only [h1, h2, h3, Bool.or_false, Bool.false_eq_true, if_false]
  refine wpAny_bind (wpAny_pyIter_gen (s := { s5 with heap := _ }) (gty k1) ?_)
  refine wpAny_bind (wpAny_holding ?_)
  unfold Builtin.List.listLengthHint
  refine wpAny_bind (wpAny_specialOf (Heap.IsGen.typeIs (s := { s5 with heap := _ }) (gty k1)) F.gen_no_len ?_)
  show wpAny _ A.in1 (specialOf (Value.ref a) (Str.ofString "__length_hint__") >>= _) _ _ _
  refine wpAny_bind (wpAny_specialOf (Heap.IsGen.typeIs (s := { s5 with heap := _ }) (gty k1)) F.gen_no_hint ?_)
  refine wpAny_pure ?_
  show wpAny _ A.in1 (rule "list.extend.makes-room" >>= fun _ => Builtin.List.listTouch (.ref s5.heap.objs.size) >>= fun _ =>
    again (.builtin "list.extend.loop" ⟨[.ref s5.heap.objs.size, .ref a, .ref s5.heap.objs.size], []⟩)) _ _ _
  refine wpAny_bind (wpAny_rule ?_)
  have hS₁ : (s5.heap.push { cls := .type "list", data := .seq ([] : List Value).toArray }).get? s5.heap.objs.size = some { cls := .type "list", data := .seq ([] : List Value).toArray } := Heap.get?_push_size _ rfl
  refine wpAny_bind ?_
  show wpAny _ A.in1 (updateSeq s5.heap.objs.size (·.push .none) >>= fun _ => updateSeq s5.heap.objs.size (·.pop)) _ _ _
  refine wpAny_bind (wpAny_updateSeq hS₁ rfl ?_)
  have hS₂ := Heap.get?_update_self (Obj.mapSeq (·.push Value.none)) hS₁ rfl
  refine wpAny_updateSeq hS₂ rfl ?_
  have hS₃ := Heap.get?_update_self (Obj.mapSeq (·.pop)) hS₂ rfl
  have k4 : ∀ b o, s5.heap.get? b = some o →
      (((s5.heap.push { cls := .type "list", data := .seq ([] : List Value).toArray }).update s5.heap.objs.size (Obj.mapSeq (·.push Value.none))).update s5.heap.objs.size (Obj.mapSeq (·.pop))).get? b = some o :=
    fun b o e => (Heap.get?_update_other _ _ (Ne.symm (Nat.ne_of_lt (Heap.lt_size e)))).trans ((Heap.get?_update_other _ _ (Ne.symm (Nat.ne_of_lt (Heap.lt_size e)))).trans (k1 b o e))
  generalize hh6 : (((s5.heap.push { cls := .type "list", data := .seq ([] : List Value).toArray }).update s5.heap.objs.size (Obj.mapSeq (·.push Value.none))).update s5.heap.objs.size (Obj.mapSeq (·.pop))) = h6 at k4 hS₃ ⊢
  obtain ⟨m, w0⟩ := w0
  have rr : Room k (A.in1.in1.in1.deeper (genEnv scope (cloFrom X.env.cells scope.names []) s4.heap.objs.size code builtinsNs X.env)) := hr.deeper _
  have hbare6 : AllBare ({ s5 with heap := h6 } : Shared).gens := r.bare
  refine wpAny_pure ⟨plainId_quiet F.plain_extend_loop _, drain (P := X.prog) (w := X.w) (outer := X.stack) (H := H4) (sc := s4) (ex := fp) (Q := Fin) (EX := fun _ _ _ => False) (A := A) (S := s5.heap.objs.size) (g := gi) hr.hd (by have := hr.dp; show A.depth < _; have e : A.in1.in1.in1.depth = A.depth := rfl; omega) hSI hSc
    (fun s' acc c H' ys q1 q2 q3 q4 q5 q6 q7 q8 q9 => ?_) (fun e s' hc => ?_) sizeLine _ (gty k4) (r.lim.keeps k4) ⟨_, r.fresh, rfl, ?_⟩⟩
  · have J' : Inv X pins σ H' s' := r.inv.call' (ch := fp) q4 q6 q7 q5 fun b hb => ⟨(r.fpo b hb).1.2.2.2.1, (r.fpo b hb).1.2.1, (r.fpo b hb).1.2.2.2.2.1, (r.fpo b hb).1.2.2.2.2.2⟩
    show wpAny _ A (load s5.heap.objs.size >>= _) _ _ s'
    refine wpAny_bind (wpAny_load q1 ?_)
    exact wpAny_pure (hQ _ ys H' s' q2 q3 J' q9)
  · obtain ⟨_, _, _, _, _, _, _, _, _, _, _, _, z⟩ := hc
    exact z.elim
  · have hS6 : ∃ c, h6.get? s5.heap.objs.size = some (lstObj #[] c) := ⟨_, hS₃⟩
    obtain ⟨c0, hS6⟩ := hS6
    have hst := r.start (A := A.in1.in1) (s2 := ({ s5 with heap := h6 } : Shared).setGen gi .running) (own := own) (pc := [(s5.heap.objs.size, lstObj #[] c0)]) ok hN hcell hr.hd hfr rfl (allBare_setGen hbare6 rfl) k4 (fun p hp => by
      rw [List.mem_singleton.mp hp]
      exact ⟨Nat.le_refl _, hS6, fun v q => by cases q⟩)
    have rr2 : Room k (A.in1.in1.deeper (genEnv scope (cloFrom X.env.cells scope.names []) s4.heap.objs.size code builtinsNs X.env)) := ⟨hr.hd, by
      have := hr.dp
      have e : A.in1.in1.in1.depth = A.depth := rfl
      have e2 : (A.in1.in1.deeper (genEnv scope (cloFrom X.env.cells scope.names []) s4.heap.objs.size code builtinsNs X.env)).depth = A.depth + 1 := rfl
      omega, by
      have := hr.un
      have e : A.in1.in1.in1.units = A.units + 1 + 1 + 1 := rfl
      have e2 : (A.in1.in1.deeper (genEnv scope (cloFrom X.env.cells scope.names []) s4.heap.objs.size code builtinsNs X.env)).units = A.units + 1 + 1 + 3 := rfl
      omega⟩
    have hfs : ∀ b ∈ fp, b < s4.heap.objs.size := fun b hb => (r.fpo b hb).2
    have hy5 : s4.heap.objs.size < s5.heap.objs.size := Nat.lt_trans r.young r.lt
    have st6 : tn 0 h6 := r.turn.keep _ _ _ r.st fun b hb o e => k4 b o (r.keep b o e)
    refine seg_gx0 (X := gcx X A.in1.in1 s4 H4 (genEnv scope (cloFrom X.env.cells scope.names []) s4.heap.objs.size code builtinsNs X.env) fp) (A := A.in1.in1) rfl r.turn st6 ?_
    refine seg_gx (X := gcx X A.in1.in1 s4 H4 (genEnv scope (cloFrom X.env.cells scope.names []) s4.heap.objs.size code builtinsNs X.env) fp) (A := A.in1.in1) (β := List V) (cs := [s5.heap.objs.size]) (PC := fun b pc => ∃ acc c, pc = [(s5.heap.objs.size, lstObj acc c)] ∧ Vals b acc.toList) (Bd := fun n m b => n + b.length = sizeLine) (pl := [(a, go)])
      rfl hr.hd rfl hco rfl rfl rfl r.turn (hg _ _ _ _ _ _ _ rr2) (ht _ _ _ _ _ _ _ rr2) (he _ _ _ _ _ _ _ rr2) turn (r.aprt ok hN hcell hr.hd hfr (Nat.le_refl _))
      (fun b hb z => ?_) (fun p hp => ?_) (fun b pc hpc c => ?_) (fun n m m' b h _ => h) (fun n m b y H' Nx h1 h2 => ?_) (fun n m b s₀ s v y σ' H' pc pl' Nx kap hpc hbd I' hpl rv hem hk => ?_) (fun n m b s₀ s σ' H' pc hpc hbd I' hfin => ?_) m sizeLine 0 [] _ _ H4 _ (by show sizeLine + 0 = sizeLine; rfl) ⟨#[], c0, rfl, .nil⟩ hst st6 (fun b hb => (r.fpo b hb).1.1) w0
    · rw [List.mem_singleton.mp z] at hb
      exact absurd (Nat.lt_trans (hfs _ hb) hy5) (Nat.lt_irrefl _)
    · rw [List.mem_singleton.mp hp]
      refine ⟨fun z => ?_, fun z => ?_⟩
      · have z' : a = s5.heap.objs.size := List.mem_singleton.mp z
        exact hSI z'.symm
      · exact absurd (Nat.lt_trans (hfs _ z) r.young) (Nat.lt_irrefl _)
    · obtain ⟨acc, c1, rfl, _⟩ := hpc
      constructor
      · intro z
        rw [List.mem_singleton.mp z]
        exact ⟨_, List.mem_singleton.mpr rfl⟩
      · rintro ⟨o, z⟩
        have z' := List.mem_singleton.mp z
        rw [(Prod.mk.inj z').1]
        exact List.mem_singleton.mpr rfl
    · have h1' : n + b.length = sizeLine := h1
      have := h2.1
      omega
    · obtain ⟨acc, c1, rfl, rb⟩ := hpc
      obtain ⟨p1, p2, p3, p4, p5⟩ := I'.pin (s5.heap.objs.size, lstObj acc c1) (List.mem_append_right _ (List.mem_append_left _ (List.mem_singleton.mpr rfl)))
      have pa := (I'.pin (a, go) (List.mem_append_right _ (List.mem_append_right _ (hpl _ (List.mem_singleton.mpr rfl))))).1
      have hsz : acc.size = b.length := by
        have e1 := rb.length
        have e2 : acc.toList.length = acc.size := by simp
        omega
      have hbd' : n + 1 + b.length = sizeLine := hbd
      refine ⟨I'.os, I'.bare, I'.nolimit, r.gen _ pa, ⟨acc, c1, p1, by rw [hsz]; exact hbd'⟩, fun s' z => ?_⟩
      obtain ⟨z1, z2, z3, z4⟩ := z
      obtain ⟨c2, z5⟩ := z4 acc c1 p1
      refine hk (b ++ [y]) [(s5.heap.objs.size, lstObj (acc.push v) c2)] s' ⟨_, _, rfl, ?_⟩ ⟨z1, z2, fun d o hd e => z3 d o (fun q => hd (by rw [q]; exact List.mem_singleton.mpr rfl)) e, fun p hp => ?_, fun d => ?_⟩ hem.2 fun m' hm => ?_
      · rw [Array.toList_push]
        exact rb.append (.cons rv .nil)
      · rw [List.mem_singleton.mp hp]
        exact ⟨z5, fun v q => by cases q⟩
      · constructor
        · intro q
          rw [List.mem_singleton.mp q]
          exact ⟨_, List.mem_singleton.mpr rfl⟩
        · rintro ⟨o, q⟩
          have q' := List.mem_singleton.mp q
          rw [(Prod.mk.inj q').1]
          exact List.mem_singleton.mpr rfl
      · show n + (b ++ [y]).length = sizeLine
        rw [List.length_append, List.length_singleton]
        omega
    · obtain ⟨acc, c1, rfl, rb⟩ := hpc
      obtain ⟨p1, p2, p3, p4, p5⟩ := I'.pin (s5.heap.objs.size, lstObj acc c1) (List.mem_append_right _ (List.mem_append_left _ (List.mem_singleton.mpr rfl)))
      have hbd' : n + b.length = sizeLine := hbd
      exact .inl ⟨.inr rfl, H', b, acc, c1, I'.os, I'.bare, I'.base, I'.hok, p2, p1, rb, by omega, hfin⟩
end
end GX

namespace GX
open PySem PySem.Spec PyProof.Rows L2 GenW GxR
theorem room5 {k : Nat} {A : Around} (hr : Room (k + 2) A) : Room (k + 1) A.in1.in1.in1.in1.in1 := ⟨hr.hd, by
  have := hr.dp
  show A.depth + 3 * (k + 1) + 5 < _
  omega, by
  have := hr.un
  show A.units + 1 + 1 + 1 + 1 + 1 + 16 * (k + 1) + 200 < _
  omega⟩
/-- tuple(elt for tg in iter if ..) -/
def tTupG (P : Addr) (wi : TI) (g : TG) (tt : TT) (te : TE) (vs : List Nat) : TE := fun σ H Q => wi σ H fun J H1 => TabG H1 P ∧ ∀ H2, Tabbed P H1 H2 → ∃ W : Nat → Nat → List V → Hp → Prop, (∃ m, W 0 m [] H2) ∧
  GxW J g tt te vs σ (fun b H' => ∀ (p : Addr) (o : Obj), H' p = none → o.dict = none → Q (.ref p) (upd H' p (.frz o (.tup b)))) (fun b y H' Nx => b.length < sizeLine ∧ Nx (b ++ [y]) H') W
/-- all(..), any(..) of tests -/
def tAllG (P : Addr) (wi : TI) (g : TG) (tt : TT) (te : TE) (vs : List Nat) : TE := fun σ H Q => wi σ H fun J H1 => TabG H1 P ∧ ∀ H2, Tabbed P H1 H2 → ∃ W : Nat → Nat → Unit → Hp → Prop, (∃ m, W 0 m () H2) ∧
  GxW J g tt te vs σ (fun _ H' => Q (.bl true) H') (fun _ y H' Nx => ∃ b, y = .bl b ∧ if b = false then Q (.bl false) H' else Nx () H') W
def tAnyG (P : Addr) (wi : TI) (g : TG) (tt : TT) (te : TE) (vs : List Nat) : TE := fun σ H Q => wi σ H fun J H1 => TabG H1 P ∧ ∀ H2, Tabbed P H1 H2 → ∃ W : Nat → Nat → Unit → Hp → Prop, (∃ m, W 0 m () H2) ∧
  GxW J g tt te vs σ (fun _ H' => Q (.bl false) H') (fun _ y H' Nx => ∃ b, y = .bl b ∧ if b = true then Q (.bl true) H' else Nx () H') W
section
variable {X : Cx} {pins : List (Addr × Obj)} {σ : L2.St} {H1 H4 : Hp} {P a it : Addr} {J : It} {elt tg iter : Expr} {ifs : List Expr} {scope : Scope} {gpos : Pos} {own : List (Str × Nat)} {s5 s4 : Shared} {gi k : Nat} {code : Value} {fp : List Addr} {tn : Nat → Heap → Prop} {go : Obj} {m0 : Str → Option Value}
variable {g : TG} {tt : TT} {te : TE}
theorem code_tuple_gx {A : Around} {Fin : List V → Hp → Prop} {W : Nat → Nat → List V → Hp → Prop} {Q₁ : Value → Shared → Prop} {E : Value → Shared → Prop}
    (r : Ready X pins σ P H1 J elt tg iter ifs scope gpos a s5 gi code s4 H4 it fp tn go m0) (ok : BlkOk X.N X.env.scope scope own) (hN : X.N.Nodup) (hcell : ∀ y ∈ scope.names, y.2 ≠ .cell) (hco : scope.isCoroutine = false)
    (hr : Room (k + 1) A.in1.in1.in1.in1) (hfr : A.frames = some X.stack) (hg : GCtx X k scope fun X' => PG X' tg g) (ht : GCtx X k scope fun X' => PTs X' ifs tt) (he : GCtx X k scope fun X' => PE X' elt te)
    (turn : GxW J g tt te (own.map (·.2)) σ Fin (fun b y H' Nx => b.length < sizeLine ∧ Nx (b ++ [y]) H') W) (w0 : ∃ m, W 0 m [] H4)
    (hQ : ∀ us ys H' s', Vals ys us → ys.length ≤ sizeLine → Inv X pins σ H' s' → Fin ys H' → Q₁ (.ref s'.heap.objs.size) { s' with heap := s'.heap.push { cls := .type "tuple", data := .seq us.toArray } }) :
    codeAny (model X.prog X.w) A (.call (.builtin "tuple.__new__") ⟨[.type "tuple", .ref a], []⟩) (wants Q₁ E) s5 := by
  refine codeAny_of_tree ?_
  show wpAny _ A.in1 (do checkBuiltinCall "tuple.__new__" ⟨[.type "tuple", .ref a], []⟩; again (.builtin "tuple.__new__" ⟨[.type "tuple", .ref a], []⟩)) _ _ s5
  refine wpAny_bind (wpAny_of_eq (F.newCall_tuple_1 _) (wpAny_pure ⟨plainId_quiet F.plain_tuple_new _, codeAny_builtin F.entry_tuple_new ?_⟩))
  rw [Around.under_plainId F.plain_tuple_new _]
  have hsub := sub_tuple_self
  have hinit := init_tuple_lookup
  have hmh := madeHere_tuple
  have hTI : s5.TypeIs (.ref a) "generator" := Heap.IsGen.typeIs (r.gen _ r.at_)
  wp_walk using wpAny_typeOf hTI, collect_gx r ok hN hcell hco hr hfr hg ht he turn w0
  intro us ys H' s' rv hl I' fin
  show wpAny _ _ (Builtin.Tuple.tupleExact us.toArray >>= fun v => ret v) _ _ _
  unfold Builtin.Tuple.tupleExact
  refine wpAny_bind (wpAny_newObj_type ?_ (by show us.toArray.size ≤ sizeLine; rw [List.size_toArray, ← rv.length]; exact hl))
  refine wpAny_pure ?_
  exact hQ us ys H' s' rv hl I' fin
theorem call_tuple_gx {Fin : List V → Hp → Prop} {W : Nat → Nat → List V → Hp → Prop} {Q : Value → Shared → Prop} {E : Value → Shared → Prop}
    (r : Ready X pins σ P H1 J elt tg iter ifs scope gpos a s5 gi code s4 H4 it fp tn go m0) (ok : BlkOk X.N X.env.scope scope own) (hN : X.N.Nodup) (hcell : ∀ y ∈ scope.names, y.2 ≠ .cell) (hco : scope.isCoroutine = false)
    (hr : Room (k + 2) X.A) (hg : GCtx X k scope fun X' => PG X' tg g) (ht : GCtx X k scope fun X' => PTs X' ifs tt) (he : GCtx X k scope fun X' => PE X' elt te)
    (turn : GxW J g tt te (own.map (·.2)) σ Fin (fun b y H' Nx => b.length < sizeLine ∧ Nx (b ++ [y]) H') W) (w0 : ∃ m, W 0 m [] H4)
    (hQ : ∀ us ys H' s', Vals ys us → ys.length ≤ sizeLine → Inv X pins σ H' s' → Fin ys H' → Q (.ref s'.heap.objs.size) { s' with heap := s'.heap.push { cls := .type "tuple", data := .seq us.toArray } }) :
    wpAny (model X.prog X.w) X.A (call (.type "tuple") [.ref a]) Q E s5 := by
  have hfr := r.inv.ok.frames
  refine callType_codes (Q₁ := fun obj s₁ => s₁.TypeIs obj "tuple" ∧ Q obj s₁) F.called_tuple (F.typeCall_tuple_1 _) F.entry_object_init
    (code_tuple_gx r ok hN hcell hco (room5 hr) hfr hg ht he turn w0 fun us ys H' s' rv hl I' fin => ⟨⟨_, Heap.get?_push_size _ rfl, rfl⟩, hQ us ys H' s' rv hl I' fin⟩) fun obj s₁ h₁ => ?_
  exact ⟨h₁.1, F.args_object_init_2 obj _, object_init_meets F.called_tuple.init.lookup F.called_tuple.made (by decide) X.prog X.w X.A.in1 _ s₁ ⟨h₁.1, rfl, h₁.2⟩⟩
/-- the loop of all(g) (w = false: it stops at a False), of any(g) (w = true) -/
theorem draw_gx {A : Around} {Fin : Hp → Prop} {St : Bool → Hp → Prop} {stop : Bool} {W : Nat → Nat → Unit → Hp → Prop}
    (r : Ready X pins σ P H1 J elt tg iter ifs scope gpos a s5 gi code s4 H4 it fp tn go m0) (ok : BlkOk X.N X.env.scope scope own) (hN : X.N.Nodup) (hcell : ∀ y ∈ scope.names, y.2 ≠ .cell) (hco : scope.isCoroutine = false)
    (hr : Room (k + 1) A.in1.in1) (hfr : A.frames = some X.stack) (hg : GCtx X k scope fun X' => PG X' tg g) (ht : GCtx X k scope fun X' => PTs X' ifs tt) (he : GCtx X k scope fun X' => PE X' elt te)
    (turn : GxW J g tt te (own.map (·.2)) σ (fun _ H' => Fin H') (fun _ y H' Nx => ∃ b, y = .bl b ∧ if b = stop then St b H' else Nx () H') W) (w0 : ∃ m, W 0 m () H4)
    {lp : String} {D : Shared → Prop} (step : ∀ s, (∀ E, wpAny (model X.prog X.w) A.in1 (pyNext (.ref a)) (fun o s' => match o with
        | none => ∃ H', Inv X pins σ H' s' ∧ Fin H'
        | some v => ∃ b, v = .bool b ∧ if b = stop then (∃ H', Inv X pins σ H' s' ∧ St b H') else D s') E s) → D s) : D s5 := by
  obtain ⟨m, w0⟩ := w0
  let Rr : GenEnd := fun n s₀ r s1 => ((r = .ok (.ret .none) ∨ r = .ok .next) ∧ ∃ H', Inv X pins σ H' s1 ∧ Fin H') ∨ ∃ e, r = .error e ∧ False
  let Yy : Protocol := fun n s₀ v s kap => ∃ b H', v = .bool b ∧ Inv X pins σ H' s ∧ s.heap.IsGen a gi ∧ s.heap.NoLimit ∧ if b = stop then St b H' else ∀ s', Slp [] [] s s' → kap (.send .none) s'
  have loop : ∀ (n : Nat) (s : Shared), s.heap.IsGen a gi → s.heap.NoLimit → AllBare s.gens → (∃ gs, s.gens[gi]? = some gs ∧ gs.Goes (model X.prog X.w) A.in1.in1 Rr Yy n (.send .none) (s.setGen gi .running)) → D s := by
    intro n
    induction n with
    | zero =>
      intro s hgn hl hb ⟨gs, hgs, hgo⟩
      refine step s fun E => next_genG (A := A.in1) (F := fun _ _ s1 => ∃ H', Inv X pins σ H' s1 ∧ Fin H') (Er := fun _ _ => False) hr.hd hl (by have := hr.dp; have e : A.in1.in1.depth = A.depth := rfl; show A.depth < _; omega) hgn hgs hgo (fun v s₁ gs' hbare hv => ?_) (fun s₁ hp h' hk => ?_) fun e s₁ z => z.elim
      · obtain ⟨b, H', rfl, I', hg1, hl1, hb1⟩ := hv
        refine ⟨b, rfl, ?_⟩
        by_cases hbs : b = stop
        · rw [if_pos hbs] at hb1 ⊢
          exact ⟨H', inv_gens I' (allBare_setGen I'.bare hbare), hb1⟩
        · rw [if_neg hbs] at hb1
          exact (hb1 s₁ ⟨rfl, I'.bare, fun _ _ _ e => e, fun p hp => absurd hp (by simp), fun d => by simp⟩).elim
      · obtain ⟨H', I', hf⟩ := hp
        exact ⟨H', (inv_gens I' (allBare_setGen I'.bare rfl)).kept hk, hf⟩
    | succ n ih =>
      intro s hgn hl hb ⟨gs, hgs, hgo⟩
      have hgl : gi < s.gens.size := (Array.getElem?_eq_some_iff.mp hgs).1
      refine step s fun E => wpAny_gsz (n := gi + 1) hgl (next_genG (A := A.in1) (F := fun _ _ s1 => ∃ H', Inv X pins σ H' s1 ∧ Fin H') (Er := fun _ _ => False) hr.hd hl (by have := hr.dp; have e : A.in1.in1.depth = A.depth := rfl; show A.depth < _; omega) hgn hgs hgo (fun v s₁ gs' hbare hv => ?_) (fun s₁ hp h' hk => ?_) fun e s₁ z => z.elim)
      · intro hsz
        obtain ⟨b, H', rfl, I', hg1, hl1, hb1⟩ := hv
        refine ⟨b, rfl, ?_⟩
        by_cases hbs : b = stop
        · rw [if_pos hbs] at hb1 ⊢
          exact ⟨H', inv_gens I' (allBare_setGen I'.bare hbare), hb1⟩
        · rw [if_neg hbs] at hb1 ⊢
          have hsz1 : gi < s₁.gens.size := by
            have q : (s₁.setGen gi gs').gens.size = s₁.gens.size := setGen_size _ _ _
            have hsz' : gi + 1 ≤ (s₁.setGen gi gs').gens.size := hsz
            omega
          have hb2 := allBare_setGen (g := gi) I'.bare hbare
          exact ih (s₁.setGen gi gs') hg1 hl1 hb2 ⟨gs', setGen_at hsz1, hb1 _ ⟨rfl, allBare_setGen (s := s₁.setGen gi gs') hb2 rfl, fun _ _ _ e => e, fun p hp => absurd hp (by simp), fun d => by simp⟩⟩
      · intro hsz
        obtain ⟨H', I', hf⟩ := hp
        exact ⟨H', (inv_gens I' (allBare_setGen I'.bare rfl)).kept hk, hf⟩
  have hst := r.start (A := A.in1.in1) (s2 := s5.setGen gi .running) (own := own) (pc := []) ok hN hcell hr.hd hfr rfl (allBare_setGen r.bare rfl) (fun _ _ e => e) (fun p hp => absurd hp (by simp))
  have rr2 : Room k (A.in1.in1.deeper (genEnv scope (cloFrom X.env.cells scope.names []) s4.heap.objs.size code builtinsNs X.env)) := hr.deeper _
  have hfs : ∀ b ∈ fp, b < s4.heap.objs.size := fun b hb => (r.fpo b hb).2
  have st6 : tn 0 s5.heap := r.turn.keep _ _ _ r.st fun b hb o e => r.keep b o e
  refine loop (m + 1) s5 (r.gen _ r.at_) r.lim r.bare ⟨_, r.fresh, rfl, ?_⟩
  refine seg_gx0 (X := gcx X A.in1.in1 s4 H4 (genEnv scope (cloFrom X.env.cells scope.names []) s4.heap.objs.size code builtinsNs X.env) fp) (A := A.in1.in1) rfl r.turn st6 ?_
  refine seg_gx (X := gcx X A.in1.in1 s4 H4 (genEnv scope (cloFrom X.env.cells scope.names []) s4.heap.objs.size code builtinsNs X.env) fp) (A := A.in1.in1) (β := Unit) (cs := []) (PC := fun b pc => pc = []) (Bd := fun n m b => m < n) (pl := [(a, go)])
    rfl hr.hd rfl hco rfl rfl rfl r.turn (hg _ _ _ _ _ _ _ rr2) (ht _ _ _ _ _ _ _ rr2) (he _ _ _ _ _ _ _ rr2) turn (fun b hb => absurd hb (by simp))
    (fun b hb z => absurd z (by simp)) (fun p hp => ⟨by simp, ?_⟩) (fun b pc hpc c => by rw [hpc]; simp) (fun n m m' b h h' => Nat.lt_trans h' h) (fun n m b y H' Nx h1 h2 => Nat.lt_of_le_of_lt (Nat.zero_le _) h1) (fun n m b s₀ s v y σ' H' pc pl' Nx kap hpc hbd I' hpl rv hem hk => ?_) (fun n m b s₀ s σ' H' pc hpc hbd I' hfin => ?_) m (m + 1) 0 () _ _ H4 [] (Nat.lt_succ_self _) rfl hst st6 (fun b hb => (r.fpo b hb).1.1) w0
  · rw [List.mem_singleton.mp hp]
    exact fun z => absurd (Nat.lt_trans (hfs _ z) r.young) (Nat.lt_irrefl _)
  · obtain ⟨b', rfl, hbb⟩ := hem
    subst hpc
    obtain rfl : v = .bool b' := rv
    have pa := (I'.pin (a, go) (List.mem_append_right _ (List.mem_append_right _ (hpl _ (List.mem_singleton.mpr rfl))))).1
    refine ⟨b', H', rfl, r.back I', r.gen _ pa, I'.nolimit, ?_⟩
    by_cases hbs : b' = stop
    · rw [if_pos hbs] at hbb ⊢
      exact hbb
    · rw [if_neg hbs] at hbb ⊢
      exact fun s' z => hk () [] s' rfl z hbb fun m' hm => Nat.lt_of_lt_of_le hm (Nat.le_of_lt_succ hbd)
  · subst hpc
    exact .inl ⟨.inr rfl, H', r.back I', hfin⟩
end
section
variable {X : Cx} {P c : Addr} {elt tg iter : Expr} {ifs : List Expr} {scope : Scope} {gpos p pos : Pos} {own : List (Str × Nat)} {k : Nat} {wi : TI} {g : TG} {tt : TT} {te : TE}
theorem pe_tupG (hr : Room (k + 2) X.A) (hgl : Gl X "tuple") (hm : X.mg "tuple" = none) (TB : TabB X.base X.mg c P) (hcode : X.env.code = .ref c) (hN : X.N.Nodup) (ok : BlkOk X.N X.env.scope scope own) (hi : PI X tg iter wi)
    (hg : GCtx X k scope fun X' => PG X' tg g) (ht : GCtx X k scope fun X' => PTs X' ifs tt) (he : GCtx X k scope fun X' => PE X' elt te) (hcell : ∀ y ∈ scope.names, y.2 ≠ .cell := by decide +kernel) (hco : scope.isCoroutine = false := by rfl) (hdot : scope.names.lookup (".0" : Str) = some NameKind.local := by rfl)
    (hs : ∀ v, genFold iter X.env v = pure v := by intro _; rfl)
    (hst : starEach [.GeneratorExp elt [⟨tg, iter, ifs, 0⟩] scope gpos] X.env = (false, eval (.GeneratorExp elt [⟨tg, iter, ifs, 0⟩] scope gpos) X.env) :: starEach [] X.env := by rfl) :
    PE X (.Call (.Name "tuple" p) [.GeneratorExp elt [⟨tg, iter, ifs, 0⟩] scope gpos] [] pos) (tTupG P wi g tt te (own.map (·.2))) := by
  refine ⟨fun pins s σ H Q I h => ?_⟩
  refine wpAny_Call_Name_kw (ld_blt I hgl hm PyProof.Rows.Boot.«tuple» ?_)
  refine PyProof.Rows.callWith_type1 ?_ hst rfl
  rw [hst]
  show wpAny _ _ (spliced ((false, eval (.GeneratorExp elt [⟨tg, iter, ifs, 0⟩] scope gpos) X.env) :: backTo pos (starEach [] X.env))) _ _ s
  refine Calls.spliced_cons (gx_make hr TB hcode ok hcell hco hdot hi hs I h fun J H1 a s5 gi code s4 H4 it fp tn go m0 hR r => ?_)
  refine Calls.spliced_nil ?_
  obtain ⟨W, w0, turn⟩ := hR H4 r.tab
  refine call_tuple_gx r ok hN hcell hco hr hg ht he turn w0 fun us ys H' s' rv hl I' fin => ?_
  have hf : H' s'.heap.objs.size = none := I'.hok.fresh (Nat.le_refl _)
  exact ⟨.ref s'.heap.objs.size, upd H' s'.heap.objs.size (.frz { cls := .type "tuple", data := .seq us.toArray } (.tup ys)), I'.laid (t' := s'.toks) (fun b u e => Heap.get?_push_of_some _ e) (Nat.le_refl _) ⟨Heap.get?_push_size _ rfl, hl, us, rv, ⟨_, Heap.get?_push_size _ rfl, rfl, _, rfl⟩⟩, rfl, fin _ _ hf rfl⟩
theorem pe_allG (hr : Room (k + 2) X.A) (hgl : Gl X "all") (hm : X.mg "all" = none) (TB : TabB X.base X.mg c P) (hcode : X.env.code = .ref c) (hN : X.N.Nodup) (ok : BlkOk X.N X.env.scope scope own) (hi : PI X tg iter wi)
    (hg : GCtx X k scope fun X' => PG X' tg g) (ht : GCtx X k scope fun X' => PTs X' ifs tt) (he : GCtx X k scope fun X' => PE X' elt te) (hcell : ∀ y ∈ scope.names, y.2 ≠ .cell := by decide +kernel) (hco : scope.isCoroutine = false := by rfl) (hdot : scope.names.lookup (".0" : Str) = some NameKind.local := by rfl)
    (hs : ∀ v, genFold iter X.env v = pure v := by intro _; rfl) (hb : bootBuiltins "all" = some (.builtin "all") := by decide +kernel)
    (hst : starEach [.GeneratorExp elt [⟨tg, iter, ifs, 0⟩] scope gpos] X.env = (false, eval (.GeneratorExp elt [⟨tg, iter, ifs, 0⟩] scope gpos) X.env) :: starEach [] X.env := by rfl) :
    PE X (.Call (.Name "all" p) [.GeneratorExp elt [⟨tg, iter, ifs, 0⟩] scope gpos] [] pos) (tAllG P wi g tt te (own.map (·.2))) := by
  refine ⟨fun pins s σ H Q I h => ?_⟩
  refine wpAny_Call_Name_kw (ld_blt I hgl hm hb ?_)
  refine PyProof.Rows.callWith_builtin1 ?_ hst (by rfl)
  rw [hst]
  show wpAny _ _ (spliced ((false, eval (.GeneratorExp elt [⟨tg, iter, ifs, 0⟩] scope gpos) X.env) :: backTo pos (starEach [] X.env))) _ _ s
  refine Calls.spliced_cons (gx_make hr TB hcode ok hcell hco hdot hi hs I h fun J H1 a s5 gi code s4 H4 it fp tn go m0 hR r => ?_)
  refine Calls.spliced_nil ?_
  obtain ⟨W, w0, turn⟩ := hR H4 r.tab
  refine call_function_tree F.kind_all F.plain_all F.entry_all (F.args_all1 _) ?_
  unfold Builtin.«all»
  refine wpAny_bind (m := oneArg "all" _) (wpAny_pure ?_)
  refine wpAny_bind (wpAny_pyIter_gen (r.gen _ r.at_) ?_)
  refine wpAny_pure ⟨plainId_quiet F.plain_all_loop _, ?_⟩
  have r2 : Room (k + 1) X.A.in1.in1 := ⟨hr.hd, by
    have := hr.dp
    show X.A.depth + 3 * (k + 1) + 5 < _
    omega, by
    have := hr.un
    show X.A.units + 1 + 1 + 16 * (k + 1) + 200 < _
    omega⟩
  refine draw_gx (A := X.A) (stop := false) (Fin := fun H' => Q (.bl true) H') (St := fun _ H' => Q (.bl false) H') (W := W) (lp := "all.loop") r ok hN hcell hco r2 I.ok.frames hg ht he turn w0 fun s hs' => ?_
  · refine codeAny_builtin F.entry_all_loop ?_
    rw [Around.under_plainId F.plain_all_loop _]
    show wpAny _ X.A.in1 (pyNext (.ref a) >>= _) _ _ s
    refine wpAny_bind (wpAny_mono (hs' _) (fun o s' ho => ?_) fun _ _ e => e)
    cases o with
    | none =>
      obtain ⟨H', I', q⟩ := ho
      exact wpAny_bind (wpAny_rule (wpAny_pure ⟨.bl true, H', I', rfl, q⟩))
    | some v =>
      obtain ⟨b, rfl, hbb⟩ := ho
      refine wpAny_bind (wpAny_holding (wpAny_truthy_bool ?_))
      refine wpAny_bind (wpAny_letGo ?_)
      cases b with
      | true =>
        rw [if_neg (by decide)] at hbb
        simp only [if_true]
        exact wpAny_pure ⟨plainId_quiet F.plain_all_loop _, hbb⟩
      | false =>
        rw [if_pos rfl] at hbb
        obtain ⟨H', I', q⟩ := hbb
        simp only [Bool.false_eq_true, if_false]
        exact wpAny_bind (wpAny_rule (wpAny_pure ⟨.bl false, H', I', rfl, q⟩))
theorem pe_anyG (hr : Room (k + 2) X.A) (hgl : Gl X "any") (hm : X.mg "any" = none) (TB : TabB X.base X.mg c P) (hcode : X.env.code = .ref c) (hN : X.N.Nodup) (ok : BlkOk X.N X.env.scope scope own) (hi : PI X tg iter wi)
    (hg : GCtx X k scope fun X' => PG X' tg g) (ht : GCtx X k scope fun X' => PTs X' ifs tt) (he : GCtx X k scope fun X' => PE X' elt te) (hcell : ∀ y ∈ scope.names, y.2 ≠ .cell := by decide +kernel) (hco : scope.isCoroutine = false := by rfl) (hdot : scope.names.lookup (".0" : Str) = some NameKind.local := by rfl)
    (hs : ∀ v, genFold iter X.env v = pure v := by intro _; rfl) (hb : bootBuiltins "any" = some (.builtin "any") := by decide +kernel)
    (hst : starEach [.GeneratorExp elt [⟨tg, iter, ifs, 0⟩] scope gpos] X.env = (false, eval (.GeneratorExp elt [⟨tg, iter, ifs, 0⟩] scope gpos) X.env) :: starEach [] X.env := by rfl) :
    PE X (.Call (.Name "any" p) [.GeneratorExp elt [⟨tg, iter, ifs, 0⟩] scope gpos] [] pos) (tAnyG P wi g tt te (own.map (·.2))) := by
  refine ⟨fun pins s σ H Q I h => ?_⟩
  refine wpAny_Call_Name_kw (ld_blt I hgl hm hb ?_)
  refine PyProof.Rows.callWith_builtin1 ?_ hst (by rfl)
  rw [hst]
  show wpAny _ _ (spliced ((false, eval (.GeneratorExp elt [⟨tg, iter, ifs, 0⟩] scope gpos) X.env) :: backTo pos (starEach [] X.env))) _ _ s
  refine Calls.spliced_cons (gx_make hr TB hcode ok hcell hco hdot hi hs I h fun J H1 a s5 gi code s4 H4 it fp tn go m0 hR r => ?_)
  refine Calls.spliced_nil ?_
  obtain ⟨W, w0, turn⟩ := hR H4 r.tab
  refine call_function_tree F.kind_any F.plain_any F.entry_any (F.args_any1 _) ?_
  unfold Builtin.«any»
  refine wpAny_bind (m := oneArg "any" _) (wpAny_pure ?_)
  refine wpAny_bind (wpAny_pyIter_gen (r.gen _ r.at_) ?_)
  refine wpAny_pure ⟨plainId_quiet F.plain_any_loop _, ?_⟩
  have r2 : Room (k + 1) X.A.in1.in1 := ⟨hr.hd, by
    have := hr.dp
    show X.A.depth + 3 * (k + 1) + 5 < _
    omega, by
    have := hr.un
    show X.A.units + 1 + 1 + 16 * (k + 1) + 200 < _
    omega⟩
  refine draw_gx (A := X.A) (stop := true) (Fin := fun H' => Q (.bl false) H') (St := fun _ H' => Q (.bl true) H') (W := W) (lp := "any.loop") r ok hN hcell hco r2 I.ok.frames hg ht he turn w0 fun s hs' => ?_
  · refine codeAny_builtin F.entry_any_loop ?_
    rw [Around.under_plainId F.plain_any_loop _]
    show wpAny _ X.A.in1 (pyNext (.ref a) >>= _) _ _ s
    refine wpAny_bind (wpAny_mono (hs' _) (fun o s' ho => ?_) fun _ _ e => e)
    cases o with
    | none =>
      obtain ⟨H', I', q⟩ := ho
      exact wpAny_bind (wpAny_rule (wpAny_pure ⟨.bl false, H', I', rfl, q⟩))
    | some v =>
      obtain ⟨b, rfl, hbb⟩ := ho
      refine wpAny_bind (wpAny_holding (wpAny_truthy_bool ?_))
      refine wpAny_bind (wpAny_letGo ?_)
      cases b with
      | false =>
        rw [if_neg (by decide)] at hbb
        simp only [Bool.false_eq_true, if_false]
        exact wpAny_pure ⟨plainId_quiet F.plain_any_loop _, hbb⟩
      | true =>
        rw [if_pos rfl] at hbb
        obtain ⟨H', I', q⟩ := hbb
        simp only [if_true]
        exact wpAny_bind (wpAny_rule (wpAny_pure ⟨.bl true, H', I', rfl, q⟩))
end
end GX

/-! attribute targets, static methods, calls whose exceptions are wished for at the slots, exceptions made to be raised -/
namespace CC
open PySem PySem.Spec PyProof.Rows L2 XV XL UU
section
variable {X : Cx} {pos p apos : Pos} {o e : Expr} {es : List Expr} {ta te : TE} {t : TA}
/-- o.f = .., as a target -/
def gAttr (K : PySem.W.Frag) (ta : TE) (f : Str) : TG := fun v σ H Q => ta σ H fun x H1 => ∃ a C dx fs, x = .ref a ∧ H1 a = some (.ins C dx fs) ∧ Cls K C ∧ NoAttr K C f ∧ fs.length < 1000 ∧ Q σ (upd H1 a (.ins C dx (putF f v fs)))
theorem pg_attr {f : Str} (ho : PE X o ta) : PG X (.Attribute o f pos) (gAttr X.K ta f) := by
  refine ⟨fun pins s σ H v u Q I r h => ?_⟩
  rw [assign_Attribute]
  refine wpAny_bind (wpAny_holding (thn (ho.run pins s σ H _ I h) fun ov s1 ⟨x, H1, I1, r1, a, C, dx, fs, ex, ea, c, n, l, q⟩ => ?_))
  subst ex
  obtain rfl : ov = Value.ref a := r1
  refine wpAny_bind (wpAny_standAt (wpAny_bind (wpAny_holding (setattr_ok I1 ea c n l r fun s2 I2 => ?_))))
  exact wpAny_release ⟨σ, _, I2, q⟩
/-- C.m is a static method: its record at p, its def at f -/
structure StM (K : PySem.W.Frag) (C : Addr) (mc : Value) (m : Str) (p f : Addr) : Prop where
  rd : PySem.W.readsIn K C mc = true
  ga : PySem.W.specialIn K (.ref C) "__getattribute__" = some (some (.builtin "type.__getattribute__"))
  at_ : PySem.W.findCls K (.ref C) mc m = some (.get (.builtin "staticmethod.__get__") (.ref p) .none (.ref C))
  rc : ∃ rest, PySem.W.recIn K p "staticmethod" = some (.ref f :: rest)
  kp : PySem.W.keepIn K (.ref f) = true
variable {CX : CXT} {k : Nat} {f C q : Addr} {fd : FuncData} {ps : List Str} {sp : Sp} {E : L2.St → XK} {x m : Str} {mc : Value}
theorem getsm_ok {pins : List (Addr × Obj)} {σ : L2.St} {H : Hp} {s : Shared} {A : Around} {E : Value → Shared → Prop} {pl : Sem Bool} {Q : Value × List Value → Shared → Prop} (I : Inv X pins σ H s) (S : StM X.K C mc m q f) (h : ∀ s', Inv X pins σ H s' → Q (.ref f, []) s') :
    wpAny (model X.prog X.w) A (getMethod (.ref C) m pl) Q E s := by
  obtain ⟨rest, hp⟩ := S.rc
  refine PySem.W.method_cls I.kIn S.ga (PySem.W.cls_bind I.kIn S.rd S.at_ (wpAny_call (PySem.W.sm_get (s := { s with toks := s.toks + 1 }) I.kIn hp (PySem.W.handed_on rfl ?_))))
  exact h _ (I.tok _)
/-- C.m(e, ..), m a static method -/
theorem pe_smeth {pl : Sem Bool} (hg : Gl X x) (hm : X.mg x = some (.ref C)) (S : StM X.K C mc m q f) (F : FnOk X.prog X.w X.K X.mg X.base CX k f fd ps sp) (hr : Room k X.A) (hb : Binds X.K fd ps []) (hx : ∀ σ, PassesAt CX X σ (E σ)) (ha : PA X (e :: es) t)
    (hst : starEach (e :: es) X.env = (false, eval e X.env) :: starEach es X.env := by rfl) (hpl : (backTo pos (starEach es X.env)).any (·.1) = false := by rfl) (hdb : (x == ("__debug__" : Str)) = false := by decide)
    (ht : eval (.Call (.Attribute (.Name x p) m apos) (e :: es) [] pos) X.env = (do
      let ov ← eval (.Name x p) X.env
      standAt apos.atName
      let (f, first) ← holding [ov] (getMethod ov m pl)
      callWith pos f first (backTo pos (starEach (e :: es) X.env)) (backToKw pos (keywordEach [] X.env))) := by rfl) :
    PE X (.Call (.Attribute (.Name x p) m apos) (e :: es) [] pos) (tCallS sp E t) := by
  refine ⟨fun pins s σ H Q I h => ?_⟩
  refine PySem.W.methodCall_KW (ld_glob I hg hm ?_ hdb) ht
  refine getsm_ok I S fun s0 I0 => ?_
  refine PySem.W.callWith_K (h₀ := X.base) I0.ok.mod.kin S.kp (thn (ha.run pos pins s0 σ H _ I0 h) fun us s1 ⟨vs, H1, I1, r, q⟩ => ⟨I1.kIn, ?_⟩) hst hpl
  exact run_fnS F hr hb (hx σ) I1 r q
/-- o.m(e, ..), what is raised is wished for at the slots -/
def tMethSl (C : Addr) (m : Str) (sp : Sp) (E : L2.St → XK) (ta : TE) (t : TA) : TE := fun σ H Q => ta σ H fun x H1 => ∃ a dx fs, x = .ref a ∧ H1 a = some (.ins C dx fs) ∧ fs.lookup m = none ∧ t σ H1 fun vs H2 => sp (x :: vs) H2 Q (E σ)
theorem pe_methSl {pl : Sem Bool} (he : PE X o ta) (c : Cls X.K C) (hm : Meth X.K C m f) (F : FnOk X.prog X.w X.K X.mg X.base CX k f fd ps sp) (hr : Room k X.A) (hb : Binds X.K fd ps []) (hx : ∀ σ, PassesAt CX X σ (E σ)) (ha : PA X (e :: es) t)
    (hst : starEach (e :: es) X.env = (false, eval e X.env) :: starEach es X.env := by rfl) (hpl : (backTo pos (starEach es X.env)).any (·.1) = false := by rfl)
    (ht : eval (.Call (.Attribute o m apos) (e :: es) [] pos) X.env = (do
      let ov ← eval o X.env
      standAt apos.atName
      let (f, first) ← holding [ov] (getMethod ov m pl)
      callWith pos f first (backTo pos (starEach (e :: es) X.env)) (backToKw pos (keywordEach [] X.env))) := by rfl) :
    PE X (.Call (.Attribute o m apos) (e :: es) [] pos) (tMethSl C m sp E ta t) := by
  refine ⟨fun pins s σ H Q I h => ?_⟩
  refine PySem.W.methodCall_KW (pl := pl) (thn (he.run pins s σ H _ I h) fun u s1 ⟨x, H1, I1, rx, a, dx, fs, ex, ea, l, q⟩ => ?_) ht
  subst ex
  obtain rfl : u = Value.ref a := rx
  refine getmeth_ok I1 ea c hm l ?_
  refine PySem.W.callWith_K (first := [.ref a]) (h₀ := X.base) I.ok.mod.kin hm.kp (thn (ha.run pos pins s1 σ H1 _ I1 q) fun us s2 ⟨vs, H2, I2, r, q2⟩ => ⟨I2.kIn, ?_⟩) hst hpl
  exact run_fnS (us := .ref a :: us) (vs := .ref a :: vs) F hr hb (hx σ) I2 (.cons rfl r) q2
theorem pe_methSl0 {pl : Sem Bool} (he : PE X o ta) (c : Cls X.K C) (hm : Meth X.K C m f) (F : FnOk X.prog X.w X.K X.mg X.base CX k f fd ps sp) (hr : Room k X.A) (hb : Binds X.K fd ps []) (hx : ∀ σ, PassesAt CX X σ (E σ))
    (ht : eval (.Call (.Attribute o m apos) [] [] pos) X.env = (do
      let ov ← eval o X.env
      standAt apos.atName
      let (f, first) ← holding [ov] (getMethod ov m pl)
      callWith pos f first (backTo pos (starEach [] X.env)) (backToKw pos (keywordEach [] X.env))) := by rfl) :
    PE X (.Call (.Attribute o m apos) [] [] pos) (tMethSl C m sp E ta tNil) := by
  refine ⟨fun pins s σ H Q I h => ?_⟩
  refine PySem.W.methodCall_KW (pl := pl) (thn (he.run pins s σ H _ I h) fun u s1 ⟨x, H1, I1, rx, a, dx, fs, ex, ea, l, q⟩ => ?_) ht
  subst ex
  obtain rfl : u = Value.ref a := rx
  refine getmeth_ok I1 ea c hm l ?_
  exact PySem.W.callWith_K0 (first := [.ref a]) I1.kIn hm.kp (run_fnS (us := [.ref a]) (vs := [.ref a]) F hr hb (hx σ) I1 (.cons rfl .nil) q)
/-- a class of the text -/
structure UCls (K : PySem.W.Frag) (mg : Str → Option Value) (x : Str) : Prop where
  ex : ∃ C, mg x = some (.ref C) ∧ Cls K C
/-- a method of the class at C keeps sp -/
structure UMeth (P : Program) (w : World) (K : PySem.W.Frag) (mg : Str → Option Value) (base : Heap) (CX : CXT) (C : Addr) (m : Str) (k : Nat) (ps : List Str) (sp : Sp) : Prop where
  ex : ∃ (f : Addr) (fd : FuncData), FnOk P w K mg base CX k f fd ps sp ∧ Meth K C m f ∧ Binds K fd ps []
theorem UMeth.imp {P : Program} {w : World} {K : PySem.W.Frag} {mg : Str → Option Value} {base : Heap} {CX : CXT} {C : Addr} {m : Str} {k : Nat} {ps : List Str} {sp sp' : Sp} (U : UMeth P w K mg base CX C m k ps sp) (h : ∀ vs H Q E, sp' vs H Q E → sp vs H Q E) : UMeth P w K mg base CX C m k ps sp' := by
  obtain ⟨f, fd, F, m, b⟩ := U.ex
  exact ⟨f, fd, F.imp h, m, b⟩
theorem UMeth.mono {P : Program} {w : World} {K : PySem.W.Frag} {mg : Str → Option Value} {base : Heap} {CX : CXT} {C : Addr} {m : Str} {j k : Nat} {ps : List Str} {sp : Sp} (U : UMeth P w K mg base CX C m j ps sp) (h : j ≤ k) : UMeth P w K mg base CX C m k ps sp := by
  obtain ⟨f, fd, F, m, b⟩ := U.ex
  exact ⟨f, fd, F.mono h, m, b⟩
/-- by the tk of where one stands -/
theorem pe_um {pl : Sem Bool} {j : Nat} {W : WX} (he : PE X o ta) (c : Cls X.K C) (U : UMeth X.prog X.w X.K X.mg X.base (L2.CX X.prog X.w) C m j ps sp) (hr : Room k X.A) (hj : j ≤ k) (tk : Takes X W) (ha : PA X (e :: es) t)
    (hst : starEach (e :: es) X.env = (false, eval e X.env) :: starEach es X.env := by rfl) (hpl : (backTo pos (starEach es X.env)).any (·.1) = false := by rfl)
    (ht : eval (.Call (.Attribute o m apos) (e :: es) [] pos) X.env = (do
      let ov ← eval o X.env
      standAt apos.atName
      let (f, first) ← holding [ov] (getMethod ov m pl)
      callWith pos f first (backTo pos (starEach (e :: es) X.env)) (backToKw pos (keywordEach [] X.env))) := by rfl) :
    PE X (.Call (.Attribute o m apos) (e :: es) [] pos) (tMethSl C m sp (WE W) ta t) := by
  obtain ⟨f, fd, F, m, b⟩ := U.ex
  exact pe_methSl he c m F (hr.mono hj) b (fun σ => passAt tk σ) ha hst hpl ht
theorem pe_um0 {pl : Sem Bool} {j : Nat} {W : WX} (he : PE X o ta) (c : Cls X.K C) (U : UMeth X.prog X.w X.K X.mg X.base (L2.CX X.prog X.w) C m j ps sp) (hr : Room k X.A) (hj : j ≤ k) (tk : Takes X W)
    (ht : eval (.Call (.Attribute o m apos) [] [] pos) X.env = (do
      let ov ← eval o X.env
      standAt apos.atName
      let (f, first) ← holding [ov] (getMethod ov m pl)
      callWith pos f first (backTo pos (starEach [] X.env)) (backToKw pos (keywordEach [] X.env))) := by rfl) :
    PE X (.Call (.Attribute o m apos) [] [] pos) (tMethSl C m sp (WE W) ta tNil) := by
  obtain ⟨f, fd, F, m, b⟩ := U.ex
  exact pe_methSl0 he c m F (hr.mono hj) b (fun σ => passAt tk σ) ht
/-- nothing is let out of a call: methods in a frame of any kind -/
theorem pe_um' {pl : Sem Bool} {j : Nat} (he : PE X o ta) (c : Cls X.K C) (U : UMeth X.prog X.w X.K X.mg X.base (L2.CX X.prog X.w) C m j ps sp) (hr : Room k X.A) (hj : j ≤ k) (ha : PA X (e :: es) t)
    (hst : starEach (e :: es) X.env = (false, eval e X.env) :: starEach es X.env := by rfl) (hpl : (backTo pos (starEach es X.env)).any (·.1) = false := by rfl)
    (ht : eval (.Call (.Attribute o m apos) (e :: es) [] pos) X.env = (do
      let ov ← eval o X.env
      standAt apos.atName
      let (f, first) ← holding [ov] (getMethod ov m pl)
      callWith pos f first (backTo pos (starEach (e :: es) X.env)) (backToKw pos (keywordEach [] X.env))) := by rfl) :
    PE X (.Call (.Attribute o m apos) (e :: es) [] pos) (tMeth C m sp [] E0 ta t) := by
  obtain ⟨f, fd, F, m, b⟩ := U.ex
  exact pe_meth he c m F (hr.mono hj) b .nil passL ha hst hpl ht
theorem pe_um0' {pl : Sem Bool} {j : Nat} (he : PE X o ta) (c : Cls X.K C) (U : UMeth X.prog X.w X.K X.mg X.base (L2.CX X.prog X.w) C m j ps sp) (hr : Room k X.A) (hj : j ≤ k)
    (ht : eval (.Call (.Attribute o m apos) [] [] pos) X.env = (do
      let ov ← eval o X.env
      standAt apos.atName
      let (f, first) ← holding [ov] (getMethod ov m pl)
      callWith pos f first (backTo pos (starEach [] X.env)) (backToKw pos (keywordEach [] X.env))) := by rfl) :
    PE X (.Call (.Attribute o m apos) [] [] pos) (tMeth C m sp [] E0 ta tNil) := by
  obtain ⟨f, fd, F, m, b⟩ := U.ex
  exact pe_meth0 he c m F (hr.mono hj) b .nil passL ht
/-- a def by its name, its exceptions wished for at the slots -/
theorem pe_useS {j : Nat} {W : WX} (U : Use X.prog X.w X.K X.mg X.base (L2.CX X.prog X.w) x j ps sp) (hr : Room k X.A) (hj : j ≤ k) (hg : Gl X x) (tk : Takes X W) (ha : PA X (e :: es) t) (hdb : (x == ("__debug__" : Str)) = false := by decide)
    (he : starEach (e :: es) X.env = (false, eval e X.env) :: starEach es X.env := by rfl) (hpl : (backTo pos (starEach es X.env)).any (·.1) = false := by rfl) : PE X (.Call (.Name x p) (e :: es) [] pos) (tCallS sp (WE W) t) := by
  obtain ⟨f, fd, F, m, kp, b⟩ := U.ex
  exact pe_callS F (hr.mono hj) hg m kp b (fun σ => passAt tk σ) ha hdb he hpl
/-- a def by its name that lets nothing out here -/
theorem pe_useL {j : Nat} (U : Use X.prog X.w X.K X.mg X.base (L2.CX X.prog X.w) x j ps sp) (hr : Room k X.A) (hj : j ≤ k) (hg : Gl X x) (ha : PA X (e :: es) t) (hdb : (x == ("__debug__" : Str)) = false := by decide)
    (he : starEach (e :: es) X.env = (false, eval e X.env) :: starEach es X.env := by rfl) (hpl : (backTo pos (starEach es X.env)).any (·.1) = false := by rfl) : PE X (.Call (.Name x p) (e :: es) [] pos) (tCall sp [] E0 t) := by
  obtain ⟨f, fd, F, m, kp, b⟩ := U.ex
  exact pe_call F (hr.mono hj) hg m kp b .nil passL ha hdb he hpl
/-- the static method C.m keeps sp -/
structure UStat (P : Program) (w : World) (K : PySem.W.Frag) (mg : Str → Option Value) (base : Heap) (CX : CXT) (x m : Str) (k : Nat) (ps : List Str) (sp : Sp) : Prop where
  ex : ∃ (C : Addr) (mc : Value) (q f : Addr) (fd : FuncData), mg x = some (.ref C) ∧ StM K C mc m q f ∧ FnOk P w K mg base CX k f fd ps sp ∧ Binds K fd ps []
theorem pe_ust {pl : Sem Bool} {j : Nat} {W : WX} (U : UStat X.prog X.w X.K X.mg X.base (L2.CX X.prog X.w) x m j ps sp) (hr : Room k X.A) (hj : j ≤ k) (hg : Gl X x) (tk : Takes X W) (ha : PA X (e :: es) t)
    (hst : starEach (e :: es) X.env = (false, eval e X.env) :: starEach es X.env := by rfl) (hpl : (backTo pos (starEach es X.env)).any (·.1) = false := by rfl) (hdb : (x == ("__debug__" : Str)) = false := by decide)
    (ht : eval (.Call (.Attribute (.Name x p) m apos) (e :: es) [] pos) X.env = (do
      let ov ← eval (.Name x p) X.env
      standAt apos.atName
      let (f, first) ← holding [ov] (getMethod ov m pl)
      callWith pos f first (backTo pos (starEach (e :: es) X.env)) (backToKw pos (keywordEach [] X.env))) := by rfl) :
    PE X (.Call (.Attribute (.Name x p) m apos) (e :: es) [] pos) (tCallS sp (WE W) t) := by
  obtain ⟨C, mc, q, f, fd, hm, S, F, b⟩ := U.ex
  exact pe_smeth hg hm S F (hr.mono hj) b (fun σ => passAt tk σ) ha hst hpl hdb ht
/-- .. that lets nothing out here -/
theorem pe_ust' {pl : Sem Bool} {j : Nat} (U : UStat X.prog X.w X.K X.mg X.base (L2.CX X.prog X.w) x m j ps sp) (hr : Room k X.A) (hj : j ≤ k) (hg : Gl X x) (ha : PA X (e :: es) t)
    (hst : starEach (e :: es) X.env = (false, eval e X.env) :: starEach es X.env := by rfl) (hpl : (backTo pos (starEach es X.env)).any (·.1) = false := by rfl) (hdb : (x == ("__debug__" : Str)) = false := by decide)
    (ht : eval (.Call (.Attribute (.Name x p) m apos) (e :: es) [] pos) X.env = (do
      let ov ← eval (.Name x p) X.env
      standAt apos.atName
      let (f, first) ← holding [ov] (getMethod ov m pl)
      callWith pos f first (backTo pos (starEach (e :: es) X.env)) (backToKw pos (keywordEach [] X.env))) := by rfl) :
    PE X (.Call (.Attribute (.Name x p) m apos) (e :: es) [] pos) (tCallS sp (fun _ => E0) t) := by
  obtain ⟨C, mc, q, f, fd, hm, S, F, b⟩ := U.ex
  exact pe_smeth hg hm S F (hr.mono hj) b (fun σ pins H s e s' I z => passL pins σ H s e s' I z) ha hst hpl hdb ht
end
/-! ### exceptions made to be raised -/
section
variable {X : Cx} {pins : List (Addr × Obj)} {σ : L2.St} {H : Hp} {s : Shared}
theorem recast {dx : Addr} {fs : List (Str × V)} (I : Inv X pins σ H s) (e : H dx = some (exd dx fs)) : Inv X pins σ (upd H dx (.xd fs)) s := by
  obtain ⟨mA, hns, rel⟩ := exd_at I.hok e
  have ne : ∀ b u, H b = some u → (∀ φ, u ≠ .ext φ) → b ≠ dx := fun b u q n z => by
    rw [z, e] at q
    exact n _ (Option.some.inj q).symm
  have nn : ∀ b, H b = none → b ≠ dx := fun b q z => by
    rw [z, e] at q
    cases q
  refine (I.un (t' := s.toks) (h' := s.heap) ⟨fun b o q _ _ _ => q, fun b o q _ _ _ => ⟨o.slots, q⟩, fun b o _ n _ => by rw [upd_ne (nn b n)]; exact n, fun b o q _ => ⟨o, q⟩, fun b xs q => by rw [upd_ne (ne b _ q fun φ z => by cases z)]; exact q,
    fun b o u q => by rw [upd_ne (ne b _ q fun φ z => by cases z)]; exact q, fun b ps q => ⟨#[], by rw [upd_ne (ne b _ q fun φ z => by cases z), q]; simp⟩⟩ fun b o q => ?_)
  by_cases hb : b = dx
  · subst hb
    rw [upd_same] at q
    cases q
    exact ⟨mA, hns, rel⟩
  · rw [upd_ne hb] at q
    exact (I.hok b o q).stay (fun _ _ _ y => y) (fun c y => by rw [upd_ne (ne c _ y fun φ z => by cases z)]; exact y) fun c xs y => by rw [upd_ne (ne c _ y fun φ z => by cases z)]; exact y
/-- an exception that was made as a value, to be raised -/
def tRz (X : Cx) (te : TE) : L2.St → Hp → XK → Prop := fun σ H Q => te σ H fun x H1 => ∃ (a C : Addr) (d : Option Addr), x = .ref a ∧ H1 a = some (exo a C d) ∧ Fr0 X.H_0 a ∧ Raises X (.ref C) ∧
  ((d = none ∧ Q (.ref C) none (delH H1 a)) ∨ ∃ (dx : Addr) (fs : List (Str × V)), d = some dx ∧ dx ≠ a ∧ H1 dx = some (exd dx fs) ∧ Q (.ref C) (some dx) (upd (delH H1 a) dx (.xd fs)))
theorem pmk_rz {e : Expr} {te : TE} (hx : X.ex = []) (he : PE X e te) : PMk X e (tRz X te) := by
  intro pins s σ H Q I h
  refine wpAny_mono (he.run pins s σ H _ I h) (fun u s1 hu => ?_) fun _ _ x => x
  obtain ⟨v, H1, I1, r1, a, C, d, rfl, ha, h0, hr, q⟩ := hu
  cases r1
  obtain ⟨t1, ho⟩ := exo_at I1.hok ha
  obtain ⟨G, gs, ga, J⟩ := I1.untrack ha h0 hx
  rcases q with ⟨rfl, q⟩ | ⟨dx, fs, rfl, ne, hd, q⟩
  · exact ⟨a, _, _, { s1 with heap := G }, delH H1 a, .ref C, none, rfl, J, gs, ga, ho, ⟨rfl, rfl⟩, rfl, rfl, delH_same, rfl, I1.bare, hr, q⟩
  · have J2 := recast J (dx := dx) (fs := fs) (by rw [delH_ne ne]; exact hd)
    exact ⟨a, _, _, { s1 with heap := G }, _, .ref C, some dx, rfl, J2, gs, ga, ho, ⟨rfl, rfl⟩, rfl, rfl, by rw [upd_ne (Ne.symm ne)]; exact delH_same, rfl, I1.bare, hr, q⟩
end
end CC

/-! a frame's own cells locked around a call, or left to the caller; what may be called, with its exceptions -/
namespace CC
open PySem PySem.Spec PyProof.Rows L2 XV XL UU LamX NdefX
/-- the addresses of the frame's cells -/
def ownC (X : Cx) : List Addr := X.env.cells.filterMap fun p => X.env.cells.lookup p.1
theorem ownC_mem {X : Cx} {c : Addr} (h : c ∈ ownC X) : ∃ y, X.env.cells.lookup y = some c := by
  obtain ⟨p, _, e⟩ := List.mem_filterMap.mp h
  exact ⟨p.1, e⟩
theorem ownC_has {X : Cx} {y : Str} {c : Addr} (e : X.env.cells.lookup y = some c) : c ∈ ownC X := List.mem_filterMap.mpr ⟨(y, c), PySem.mem_of_lookup e, e⟩
/-- H with the frame's cells locked; σ tells what they hold -/
structure Lkd (X : Cx) (σ : L2.St) (H Hc : Hp) : Prop where
  out : ∀ b, b ∉ ownC X → Hc b = H b
  free : ∀ c ∈ ownC X, H c = none
  lk : Lk (ownC X) Hc
  cell : ∀ (y : Str) (c : Addr) (i : Nat) (v : V), X.env.cells.lookup y = some c → X.N[i]? = some y → σ[i]? = some (some v) → (X.env.scope.names.lookup y = some .cell) → CellT Hc c v
  tot : ∀ c ∈ ownC X, ∃ o, Hc c = some (.frz o cellX) ∧ ∃ u, o.data = .cell u
section
variable {X : Cx} {pins : List (Addr × Obj)} {σ : L2.St} {H : Hp} {s : Shared}
def lockH (cs : List Addr) (h : Heap) (H : Hp) : Hp := fun b => if b ∈ cs then (h.get? b).map fun o => HO.frz o cellX else H b
theorem lkd_of (I : Inv X pins σ H s) : Lkd X σ H (lockH (ownC X) s.heap H) := by
  have g : ∀ c ∈ ownC X, ∃ o u, s.heap.get? c = some o ∧ o.data = .cell u := fun c hc => by
    obtain ⟨y, e⟩ := ownC_mem hc
    obtain ⟨v, o, ho, hd⟩ := I.cell y c e
    exact ⟨o, v, ho, hd⟩
  refine ⟨fun b hb => if_neg hb, fun c hc => ?_, fun c hc => ?_, fun y c i v e hN hs hk => ?_, fun c hc => ?_⟩
  · obtain ⟨y, e⟩ := ownC_mem hc
    exact I.freeC y c e
  · obtain ⟨o, u, ho, _⟩ := g c hc
    exact ⟨o, by unfold lockH; rw [if_pos hc, ho] <;> rfl⟩
  · obtain ⟨m, hn, hl⟩ := I.loc
    obtain ⟨u, ru, l⟩ := hl i y v hN hs (.inr (.inl hk))
    rcases l with ⟨k, _⟩ | ⟨_, c', e', z⟩
    · have k' : X.env.scope.names.lookup y = some .local := k
      rw [hk] at k'
      cases k'
    · rw [e] at e'
      cases e'
      obtain ⟨o, ho, hd⟩ := z
      exact ⟨o, u, by unfold lockH; rw [if_pos (ownC_has e), ho] <;> rfl, hd, ru⟩
  · obtain ⟨o, u, ho, hd⟩ := g c hc
    exact ⟨o, by unfold lockH; rw [if_pos hc, ho] <;> rfl, u, hd⟩
theorem lock_hok (I : Inv X pins σ H s) : HOk X.prog X.w (lockH (ownC X) s.heap H) s.heap := fun b o e => by
  have out : ∀ c u, H c = some u → c ∉ ownC X := fun c u q hc => by
    obtain ⟨y, ey⟩ := ownC_mem hc
    rw [I.freeC y c ey] at q
    cases q
  unfold lockH at e
  by_cases hb : b ∈ ownC X
  · rw [if_pos hb] at e
    cases q : s.heap.get? b with
    | none => rw [q] at e; cases e
    | some ob =>
      rw [q] at e
      cases e
      exact ⟨q, True.intro, ⟨ob, q⟩, fun _ _ _ _ => True.intro⟩
  · rw [if_neg hb] at e
    exact (I.hok b o e).stay (fun _ _ _ y => y) (fun c y => by unfold lockH; rw [if_neg (out c _ y)]; exact y) fun c xs y => by unfold lockH; rw [if_neg (out c _ y)]; exact y
/-- the frame is a def's: its cells are its own -/
theorem lock_env (I : Inv X pins σ H s) (hfn : ∀ y, X.fn y = true) : Env0 X.prog X.w X.K X.mg X.base X.A X.stack s (lockH (ownC X) s.heap H) := by
  have e0 := I.env0
  have young : ∀ c ∈ ownC X, X.s_0.heap.objs.size ≤ c := fun c hc => by
    obtain ⟨y, e⟩ := ownC_mem hc
    exact I.ok.cab y c (hfn y) e
  have old : ∀ b, b ∈ ownC X → b < X.s_0.heap.objs.size → False := fun b hb hl => absurd (Nat.lt_of_lt_of_le hl (young b hb)) (Nat.lt_irrefl _)
  refine ⟨e0.frames, e0.mod, fun b o q => ⟨(e0.bs b o q).1, ?_⟩, e0.bsz, e0.funs, fun b hb => ?_, lock_hok I, e0.bare⟩
  · unfold lockH
    rw [if_neg fun hb => old b hb (Nat.lt_of_lt_of_le (Heap.lt_size q) I.ok.bsz)]
    exact (e0.bs b o q).2
  · unfold lockH
    rw [if_neg fun hc => ?_]
    · exact e0.frf b hb
    · rcases List.mem_cons.mp (I.stkSub b hb) with z | z
      · obtain ⟨y, e⟩ := ownC_mem hc
        exact I.cne y b e z
      · obtain ⟨_, o, ho, _⟩ := I.ok.funs.mem z
        exact old b hc (Heap.lt_size ho)
theorem un_off {fs cs : List Addr} {H Hc H' : Hp} {h h' : Heap} (out : ∀ b, b ∉ cs → Hc b = H b) (free : ∀ c ∈ cs, H c = none) (lk : ∀ c ∈ cs, ∃ o, Hc c = some (.frz o cellX) ∧ h.get? c = some o) (fr : ∀ b ∈ fs, b ∉ cs) {P : Program} {w : World} (hok : HOk P w H' h') (u : Un fs [] Hc H' h h') : Un fs [] H (off cs H') h h' where
  keep := fun b o q n hf hx => by
    by_cases hb : b ∈ cs
    · obtain ⟨ob, e1, e2⟩ := lk b hb
      obtain ⟨e3, _⟩ := hok b _ (u.frzs b ob _ e1)
      rw [e2] at q
      cases q
      exact e3
    · exact u.keep b o q (by rw [out b hb]; exact n) hf hx
  slot := fun b o q n hf hx => u.slot b o q (by rw [out b (fr b hf)]; exact n) hf hx
  free := fun b o q n hx => by
    by_cases hb : b ∈ cs
    · exact off_in hb
    · rw [off_out hb]
      exact u.free b o q (by rw [out b hb]; exact n) hx
  there := u.there
  tups := fun b xs q => by
    have hb : b ∉ cs := fun hc => by rw [free b hc] at q; cases q
    rw [off_out hb]
    exact u.tups b xs (by rw [out b hb]; exact q)
  frzs := fun b o v q => by
    have hb : b ∉ cs := fun hc => by rw [free b hc] at q; cases q
    rw [off_out hb]
    exact u.frzs b o v (by rw [out b hb]; exact q)
  tbls := fun b ps q => by
    have hb : b ∉ cs := fun hc => by rw [free b hc] at q; cases q
    rw [off_out hb]
    exact u.tbls b ps (by rw [out b hb]; exact q)
theorem lock_get (I : Inv X pins σ H s) : ∀ c ∈ ownC X, ∃ o, lockH (ownC X) s.heap H c = some (.frz o cellX) ∧ s.heap.get? c = some o := fun c hc => by
  obtain ⟨y, e⟩ := ownC_mem hc
  obtain ⟨v, o, ho, hd⟩ := I.cell y c e
  exact ⟨o, by unfold lockH; rw [if_pos hc, ho] <;> rfl, ho⟩
theorem lock_ce (I : Inv X pins σ H s) (hfn : ∀ y, X.fn y = true) {Q : VK} {u : Value} {s' : Shared} (c : CE X.stack X.prog X.w (lockH (ownC X) s.heap H) s (fun v H' => Q v (off (ownC X) H')) u s') : CE X.stack X.prog X.w H s Q u s' := by
  obtain ⟨v, H', os, bare, un, hok, r, q⟩ := c
  have L := lkd_of I
  have fr : ∀ b ∈ frs X.stack, b ∉ ownC X := fun b hb hc => by
    rcases List.mem_cons.mp (I.stkSub b hb) with z | z
    · obtain ⟨y, e⟩ := ownC_mem hc
      exact I.cne y b e z
    · obtain ⟨y, e⟩ := ownC_mem hc
      obtain ⟨_, o, ho, _⟩ := I.ok.funs.mem z
      exact absurd (Nat.lt_of_lt_of_le (Heap.lt_size ho) (I.ok.cab y b (hfn y) e)) (Nat.lt_irrefl _)
  have lk' : Lk (ownC X) H' := fun c hc => by
    obtain ⟨o, e⟩ := L.lk c hc
    exact ⟨o, un.frzs c o _ e⟩
  exact ⟨v, off (ownC X) H', os, bare, un_off L.out L.free (lock_get I) fr hok un, hok_off lk' hok, r, q⟩
variable {CX : CXT} {k j : Nat} {f : Addr} {fd : FuncData} {ps : List Str} {sp : Sp} {x m : Str} {p pos apos : Pos} {e : Expr} {es : List Expr} {t : TA}
/-- the callee runs while the frame's cells are locked; nothing leaves it but by return -/
theorem run_lock {Q : VK} {us : List Value} {vs : List V} (F : FnOk X.prog X.w X.K X.mg X.base (L2.CX X.prog X.w) k f fd ps sp) (hr : Room k X.A) (hb : Binds X.K fd ps []) (hfn : ∀ y, X.fn y = true) (I : Inv X pins σ H s) (r : Vals vs us)
    (h : ∀ Hc, Lkd X σ H Hc → sp vs Hc (fun v H' => Q v (off (ownC X) H')) E0) : wpAny (model X.prog X.w) X.A (call (.ref f) us) (EP X pins σ Q) X.xe s := by
  have h' := h _ (lkd_of I)
  have hl : us.length = ps.length := by rw [← r.length]; exact F.len _ _ _ _ h'
  have b := hb s us I.kIn (by rw [List.append_nil]; exact hl)
  rw [List.append_nil] at b
  refine wpAny_call (codeAny_mono (F.run X.A X.stack s _ ⟨us, []⟩ us vs _ E0 hr (lock_env I hfn) b r h') fun r s' hq => ?_)
  cases r with
  | error e =>
    obtain ⟨_, _, _, _, _, _, _, _, _, _, _, _, z⟩ := hq
    exact z.elim
  | ok fl =>
    cases fl with
    | ret u => exact I.after (lock_ce I hfn hq)
    | next => exact False.elim hq
    | brk => exact False.elim hq
    | cont => exact False.elim hq
/-- f(e, ..), the frame's cells locked -/
def tCallLk (X : Cx) (sp : Sp) (t : TA) : TE := fun σ H Q => t σ H fun vs H1 => ∀ Hc, Lkd X σ H1 Hc → sp vs Hc (fun v H2 => Q v (off (ownC X) H2)) E0
theorem pe_useLk (U : Use X.prog X.w X.K X.mg X.base (L2.CX X.prog X.w) x j ps sp) (hr : Room k X.A) (hj : j ≤ k) (hg : Gl X x) (hfn : ∀ y, X.fn y = true) (ha : PA X (e :: es) t) (hdb : (x == ("__debug__" : Str)) = false := by decide)
    (he : starEach (e :: es) X.env = (false, eval e X.env) :: starEach es X.env := by rfl) (hpl : (backTo pos (starEach es X.env)).any (·.1) = false := by rfl) : PE X (.Call (.Name x p) (e :: es) [] pos) (tCallLk X sp t) := by
  obtain ⟨f, fd, F, m, kp, b⟩ := U.ex
  refine ⟨fun pins s σ H Q I h => ?_⟩
  refine wpAny_Call_Name_kw (ld_glob I hg m ?_ hdb)
  refine PySem.W.callWith_K (h₀ := X.base) I.ok.mod.kin kp (thn (ha.run pos pins s σ H _ I h) fun us s1 ⟨vs, H1, I1, r, q⟩ => ⟨I1.kIn, ?_⟩) he hpl
  exact run_lock F (hr.mono hj) b hfn I1 r q
theorem pe_ustLk {pl : Sem Bool} (U : UStat X.prog X.w X.K X.mg X.base (L2.CX X.prog X.w) x m j ps sp) (hr : Room k X.A) (hj : j ≤ k) (hg : Gl X x) (hfn : ∀ y, X.fn y = true) (ha : PA X (e :: es) t)
    (hst : starEach (e :: es) X.env = (false, eval e X.env) :: starEach es X.env := by rfl) (hpl : (backTo pos (starEach es X.env)).any (·.1) = false := by rfl) (hdb : (x == ("__debug__" : Str)) = false := by decide)
    (ht : eval (.Call (.Attribute (.Name x p) m apos) (e :: es) [] pos) X.env = (do
      let ov ← eval (.Name x p) X.env
      standAt apos.atName
      let (f, first) ← holding [ov] (getMethod ov m pl)
      callWith pos f first (backTo pos (starEach (e :: es) X.env)) (backToKw pos (keywordEach [] X.env))) := by rfl) :
    PE X (.Call (.Attribute (.Name x p) m apos) (e :: es) [] pos) (tCallLk X sp t) := by
  obtain ⟨C, mc, q, f, fd, hm, S, F, b⟩ := U.ex
  refine ⟨fun pins s σ H Q I h => ?_⟩
  refine PySem.W.methodCall_KW (ld_glob I hg hm ?_ hdb) ht
  refine getsm_ok I S fun s0 I0 => ?_
  refine PySem.W.callWith_K (h₀ := X.base) I0.ok.mod.kin S.kp (thn (ha.run pos pins s0 σ H _ I0 h) fun us s1 ⟨vs, H1, I1, r, q⟩ => ⟨I1.kIn, ?_⟩) hst hpl
  exact run_lock F (hr.mono hj) b hfn I1 r q
end
/-! ### a def that hands out a closure: return e -/
section
variable {P : Program} {w : World} {K : PySem.W.Frag} {mg : Str → Option Value} {base : Heap} {x qual : Str} {params : Arguments} {scope : Scope} {f c : Addr} {fd : FuncData} {ps : List Str} {e : Expr} {rp : Pos}
/-- its cells are the caller's, locked -/
theorem okRet {CX : CXT} {N : List Str} {k : Nat} {sp : Sp} (F : FunD K x qual params [.Return (some e) rp] scope [] [] f fd) (hc : fd.code = .ref c) (S : FnScope N ps scope) (len : ∀ vs H Q E, sp vs H Q E → vs.length = ps.length)
    (hbody : ∀ (A : Around) (outer : List Env) (s : Shared) (H : Hp) (vs : List V) (Q : VK) (E : XK), Room k (A.deeper (envOfC qual scope s.heap.objs.size f (.ref c))) → sp vs H Q E →
      ∃ t, PE (cxOf CX P w K mg base N qual scope f (.ref c) A outer s H E) e t ∧ t (start N vs) H (fun v H' => ∀ Hc, Lkd (cxOf CX P w K mg base N qual scope f (.ref c) A outer s H E) (start N vs) H' Hc → Q v Hc)) : FnOk P w K mg base CX (k + 1) f fd ps sp := by
  obtain ⟨oc, od, dV, kV, doc, pm, an, cdv, ct, osl, rfl, lk, hcd, _, _⟩ := F.ex
  have ec : cdv = .ref c := hc
  subst ec
  refine ⟨len, fun A outer s H args us vs Q E hr e0 hb r hsp => ?_⟩
  have hl := len _ _ _ _ hsp
  have KX : K.In s.heap := e0.mod.kin.keeps fun b o e => (e0.bs b o e).1
  have lim : s.heap.NoLimit := e0.mod.nolimit.keeps fun b o e => (e0.bs b o e).1
  have hkind : ∀ y ∈ ps.zip us, scope.names.lookup y.1 = some .local ∨ (scope.names.lookup y.1 = some .cell ∧ ((cellsFrom (s.heap.objs.size + 1) scope.names []).lookup y.1).isSome = true) := fun ⟨n, v⟩ hy => by
    rcases S.par n (List.of_mem_zip hy).1 with q | q
    · exact .inl q
    · exact .inr ⟨q, PySem.W.cellsFrom_some _ _ _ (.inl q)⟩
  refine codeAny_call_function hr.depth (KX _ _ lk) rfl S.co S.gen rfl (PySem.W.codeRec_of KX hcd) (hb _ _ _ _ ?_)
  refine wpAny_newFunctionEnv_cells S.kind hkind fun env he s1 xx => ?_
  subst he
  refine ⟨lim.keeps xx.toInCall.keep, codeAny_func ?_⟩
  obtain ⟨t, ht, hq⟩ := hbody A outer s H vs Q E (hr.deeper _) hsp
  have I : Inv (cxOf CX P w K mg base N qual scope f (.ref c) A outer s H E) [] (start N vs) H s1 := inv_start S hr.hd e0 hl r xx
  refine wpAny_execs_cons (wpAny_Return_some (wpAny_mono (ht.run [] s1 (start N vs) H _ I hq) (fun u s' hs => ?_) fun e s' hs => hs))
  obtain ⟨v, H', J, rv, q⟩ := hs
  show CE outer P w H s Q u s'
  have L := lkd_of J
  refine ⟨v, _, J.os, J.bare, ?_, lock_hok J, rv, q _ L⟩
  have young : ∀ b o, s.heap.get? b = some o → b ∉ ownC (cxOf CX P w K mg base N qual scope f (.ref c) A outer s H E) := fun b o q hcc => by
    obtain ⟨y, ey⟩ := ownC_mem hcc
    exact absurd (Nat.lt_of_lt_of_le (Heap.lt_size q) (J.ok.cab y b rfl ey)) (Nat.lt_irrefl _)
  have fr : ∀ b u, H' b = some u → b ∉ ownC (cxOf CX P w K mg base N qual scope f (.ref c) A outer s H E) := fun b u q hcc => by
    rw [L.free b hcc] at q
    cases q
  refine ⟨J.base.keep, J.base.slot, fun b o q n hx => ?_, J.base.there, fun b xs q => ?_, fun b o u q => ?_, fun b ps q => ?_⟩
  · rw [L.out b (young b o q)]
    exact J.base.free b o q n hx
  · have z := J.base.tups b xs q
    rw [L.out b (fr b _ z)]
    exact z
  · have z := J.base.frzs b o u q
    rw [L.out b (fr b _ z)]
    exact z
  · obtain ⟨more, z⟩ := J.base.tbls b ps q
    exact ⟨more, by rw [L.out b (fr b _ z)]; exact z⟩
end
end CC

namespace CC
open PySem PySem.Spec PyProof.Rows L2 XV XL UU LamX NdefX GX GxR
/-! ### what may be called, exceptions and all -/
section
variable {cs : List Addr} {P : Program} {w : World} {K : PySem.W.Frag} {mg : Str → Option Value} {base : Heap} {A : Around} {outer : List Env} {s s' : Shared} {H H' : Hp} {h : Heap}
theorem hok_onB {fs : List Addr} {hs B hs' : Heap} (l : Lk cs H) (x : HOk P w H hs) (u : UB fs (off cs H) H' hs B hs') (nf : ∀ b ∈ fs, b ∉ cs) (y : HOk P w H' B) : HOk P w (on cs H H') B := fun b v e => by
  have none' : ∀ {c : Addr}, c ∈ cs → H' c = none := fun {c} hc => by
    obtain ⟨o, q⟩ := l c hc
    obtain ⟨ho, _⟩ := x c _ q
    exact u.free c o ho (off_in hc)
  by_cases hb : b ∈ cs
  · rw [on_in hb] at e
    obtain ⟨o, q⟩ := l b hb
    rw [q] at e
    cases e
    obtain ⟨ho, _⟩ := x b _ q
    have h2 := u.keep b o ho (off_in hb) (fun z => nf b z hb)
    exact ⟨h2, True.intro, ⟨o, h2⟩, fun _ _ _ _ => True.intro⟩
  · rw [on_out hb] at e
    refine (y b v e).stay (fun _ _ _ q => q) (fun c q => ?_) fun c xs q => ?_
    · rw [on_out (fun z => by rw [none' z] at q; cases q)]
      exact q
    · rw [on_out (fun z => by rw [none' z] at q; cases q)]
      exact q
theorem cx_on (l : Lk cs H) (e0 : Env0 P w K mg base A outer s H) {E : XK} {u : Value} (c : L2.CX P w outer (off cs H) s (fun cls d H' => E cls d (on cs H H')) u s') : L2.CX P w outer H s E u s' := by
  obtain ⟨a, B, H', cls, d, ea, fl, hok, ub, na, os, ag, q⟩ := c
  have nf : ∀ b ∈ frs outer, b ∉ cs := fun b hb => l.outN (e0.frf b hb)
  refine ⟨a, B, on cs H H', cls, d, ea, fl, hok_onB l e0.hok ub nf hok, ⟨fun b o q n hf => ub.keep b o q (by rw [off_out (l.outN n)]; exact n) hf, ub.slot, fun b o q n => ?_, ub.there, fun b xs q => ?_, fun b o v q => ?_, fun b ps q => ?_⟩, ?_, os, ag, q⟩
  · rw [on_out (l.outN n)]
    exact ub.free b o q (by rw [off_out (l.outN n)]; exact n)
  · have hb := l.out q fun _ _ z => by cases z
    rw [on_out hb]
    exact ub.tups b xs (by rw [off_out hb]; exact q)
  · by_cases hb : b ∈ cs
    · rw [on_in hb]
      exact q
    · rw [on_out hb]
      exact ub.frzs b o v (by rw [off_out hb]; exact q)
  · have hb := l.out q fun _ _ z => by cases z
    rw [on_out hb]
    exact ub.tbls b ps (by rw [off_out hb]; exact q)
  · by_cases hb : a ∈ cs
    · obtain ⟨o, q⟩ := l a hb
      obtain ⟨ho, _⟩ := e0.hok a _ q
      have z := ub.keep a o ho (off_in hb) fun z => nf a z hb
      have z2 := fl.2.1
      rw [z] at z2
      cases z2
    · rw [on_out hb]
      exact na
end
/-- what is asked of a lambda's call, the cells locked around it; an exception may leave it -/
def spLamX (f : Addr) (F : NF) (b : Expr) (fr : List Str) (sp : List (Option V) → Sp) : Sp := fun vs H Q E => ∃ ws, LamAt H f F b fr ws ∧ sp (ws.map some) vs (off (csOf F) H) (fun v H' => Q v (on (csOf F) H H')) (fun cls d H' => E cls d (on (csOf F) H H'))
theorem cbl_ofX {P : Program} {w : World} {K : PySem.W.Frag} {mg : Str → Option Value} {base : Heap} {k : Nat} {f : Addr} {F : NF} {b : Expr} {ps fr : List Str} {sp : List (Option V) → Sp}
    (o : LOk P w K mg base (L2.CX P w) k f F b ps fr sp) : Cbl P w K mg base (L2.CX P w) k f (spLamX f F b fr sp) := fun A outer s H us vs Q E hr e0 r ⟨ws, l, h⟩ => by
  have lk := l.locked
  obtain ⟨od, sl, pm, ctv, ho⟩ := lamO_at e0.hok l.fn
  refine ⟨⟨_, od, _, sl, ho⟩, ?_⟩
  have hC : CellsAt F.cl fr (ws.map some) s.heap (off (csOf F) H) := by
    refine ⟨by rw [List.length_map]; exact l.len, fun y c e => ?_, l.inj, fun i y e => ?_⟩
    · obtain ⟨v, o, u, q, d, _⟩ := l.lk y c e
      obtain ⟨hg, _⟩ := e0.hok c _ q
      exact ⟨off_in (csOf_has e), _, o, hg, d⟩
    · obtain ⟨c, hc, hv⟩ := l.has i y e
      refine ⟨c, hc, fun v ev => ?_⟩
      rw [List.getElem?_map] at ev
      cases ew : ws[i]? with
      | none => rw [ew] at ev; cases ev
      | some v' =>
        rw [ew] at ev
        cases ev
        obtain ⟨o, u, q, d, ru⟩ := hv v ew
        obtain ⟨hg, _⟩ := e0.hok c _ q
        exact ⟨u, ru, o, hg, d⟩
  refine codeAny_mono (o.run A outer s (off (csOf F) H) us vs (ws.map some) _ _ hr (env_off lk e0) (by rw [off_out (lk.out l.fn lamO_ne)]; exact l.fn) (by rw [off_out (lk.out l.cd codeO_nf)]; exact l.cd) hC r h) fun rr s' hq => ?_
  cases rr with
  | error e => exact cx_on lk e0 hq
  | ok fl =>
    cases fl with
    | ret u => exact ce_on lk e0 hq
    | next => exact hq
    | brk => exact hq
    | cont => exact hq
/-- a def of the text may be called -/
theorem cbl_fn {P : Program} {w : World} {K : PySem.W.Frag} {mg : Str → Option Value} {base : Heap} {CX : CXT} {k : Nat} {f : Addr} {fd : FuncData} {ps : List Str} {sp : Sp} (F : FnOk P w K mg base CX k f fd ps sp) (hb : Binds K fd ps []) (hk : ∃ oc od sl, K.lookup f = some ⟨oc, od, .func fd, sl⟩) : Cbl P w K mg base CX k f sp := fun A outer s H us vs Q E hr e0 r h => by
  have KX : K.In s.heap := e0.mod.kin.keeps fun b o e => (e0.bs b o e).1
  obtain ⟨oc, od, sl, lk⟩ := hk
  have hl : us.length = ps.length := by rw [← r.length]; exact F.len _ _ _ _ h
  have b := hb s us KX (by rw [List.append_nil]; exact hl)
  rw [List.append_nil] at b
  exact ⟨⟨oc, od, fd, sl, KX _ _ lk⟩, F.run A outer s H ⟨us, []⟩ us vs Q E hr e0 b r h⟩
/-- f stands there, to be called -/
def CanC (K : PySem.W.Frag) (H : Hp) (f : Addr) : Prop := (∃ F b, H f = some (LamO f F b)) ∨ ∃ oc od fd sl, K.lookup f = some ⟨oc, od, .func fd, sl⟩
theorem canC_at {X : Cx} {pins : List (Addr × Obj)} {σ : L2.St} {H : Hp} {s : Shared} {f : Addr} (I : Inv X pins σ H s) (c : CanC X.K H f) : PySem.W.FnAt f s.heap := by
  rcases c with ⟨F, b, e⟩ | ⟨oc, od, fd, sl, e⟩
  · exact lam_fnAt I e
  · exact ⟨oc, od, fd, sl, I.kIn _ _ e⟩
/-- f(..), f the i-th name, whatever may be called; what is raised is wished for at the slots -/
def tCallG (P : Program) (w : World) (K : PySem.W.Frag) (mg : Str → Option Value) (base : Heap) (k i : Nat) (E : L2.St → XK) (t : TA) : TE := fun σ H Q => ∃ f : Addr, σ[i]? = some (some (.ref f)) ∧ CanC K H f ∧ t σ H fun vs H1 => CanC K H1 f ∧ ∃ sp, Cbl P w K mg base (L2.CX P w) k f sp ∧ sp vs H1 Q (E σ)
section
variable {X : Cx} {i k : Nat} {x : Str} {W : WX} {t : TA} {e : Expr} {es : List Expr} {p pos : Pos}
/-- o.f, the reading told by K itself -/
theorem pe_fldK {o : Expr} {ta : TE} {f : Str} (K : PySem.W.Frag) (hK : X.K = K) (he : PE X o ta) (hb : attributeBase o f X.env (eval o X.env) = eval o X.env) : PE X (.Attribute o f pos) (tFld K ta f) := by
  subst hK
  exact pe_fld he hb
theorem run_cblS {pins : List (Addr × Obj)} {σ : L2.St} {H : Hp} {s : Shared} {Q : VK} {f : Addr} {us : List Value} {vs : List V} {sp : Sp} {E : XK} (C : Cbl X.prog X.w X.K X.mg X.base (L2.CX X.prog X.w) k f sp) (hr : Room k X.A) (hx : PassesAt (L2.CX X.prog X.w) X σ E) (I : Inv X pins σ H s) (r : Vals vs us) (q : sp vs H Q E) :
    wpAny (model X.prog X.w) X.A (call (.ref f) us) (EP X pins σ Q) X.xe s := by
  refine wpAny_call (codeAny_mono (C X.A X.stack s H us vs Q E hr I.env0 r q).2 fun r s' hq => ?_)
  cases r with
  | error e => exact hx pins H s e s' I hq
  | ok fl =>
    cases fl with
    | ret u => exact I.after hq
    | next => exact False.elim hq
    | brk => exact False.elim hq
    | cont => exact False.elim hq
theorem pe_callG {P : Program} {w : World} {K : PySem.W.Frag} {mg : Str → Option Value} {base : Heap} (hX : X.prog = P ∧ X.w = w ∧ X.K = K ∧ X.mg = mg ∧ X.base = base) (hr : Room k X.A) (tk : Takes X W) (hN : X.N[i]? = some x) (hv : Vis X.env.scope x) (ha : PA X (e :: es) t) (hd : (x == ("__debug__" : Str)) = false := by decide) (hcd : (x == ("__classdict__" : Str)) = false := by decide)
    (he : starEach (e :: es) X.env = (false, eval e X.env) :: starEach es X.env := by rfl) (hpl : (backTo pos (starEach es X.env)).any (·.1) = false := by rfl) : PE X (.Call (.Name x p) (e :: es) [] pos) (tCallG P w K mg base k i (WE W) t) := by
  obtain ⟨rfl, rfl, rfl, rfl, rfl⟩ := hX
  refine ⟨fun pins s σ H Q I h => ?_⟩
  obtain ⟨f, hs, hf, ht⟩ := h
  refine wpAny_Call_Name_kw (thn ((pe_var (pos := p) hN hv hd hcd).run pins s σ H (fun v H1 => v = .ref f ∧ H1 = H) I ⟨.ref f, hs, rfl, rfl⟩) fun u s1 ⟨v, H1, I1, r1, q1⟩ => ?_)
  obtain ⟨ev, eH⟩ := q1
  subst ev
  rw [eH] at I1
  obtain rfl : u = Value.ref f := r1
  refine PySem.W.callWith_F (first := []) (canC_at I1 hf) (thn (ha.run pos pins s1 σ H _ I1 ht) fun us s2 ⟨vs, H2, I2, r, h1, sp, C, q⟩ => ⟨canC_at I2 h1, ?_⟩) he hpl
  show wpAny _ _ (call (.ref f) us) _ _ _
  exact run_cblS C hr (passAt tk σ) I2 r q
theorem pe_callG0 {P : Program} {w : World} {K : PySem.W.Frag} {mg : Str → Option Value} {base : Heap} (hX : X.prog = P ∧ X.w = w ∧ X.K = K ∧ X.mg = mg ∧ X.base = base) (hr : Room k X.A) (tk : Takes X W) (hN : X.N[i]? = some x) (hv : Vis X.env.scope x) (hd : (x == ("__debug__" : Str)) = false := by decide) (hcd : (x == ("__classdict__" : Str)) = false := by decide) : PE X (.Call (.Name x p) [] [] pos) (tCallG P w K mg base k i (WE W) tNil) := by
  obtain ⟨rfl, rfl, rfl, rfl, rfl⟩ := hX
  refine ⟨fun pins s σ H Q I h => ?_⟩
  obtain ⟨f, hs, hf, h1, sp, C, q⟩ := h
  refine wpAny_Call_Name_kw (thn ((pe_var (pos := p) hN hv hd hcd).run pins s σ H (fun v H1 => v = .ref f ∧ H1 = H) I ⟨.ref f, hs, rfl, rfl⟩) fun u s1 ⟨v, H1, I1, r1, q1⟩ => ?_)
  obtain ⟨ev, eH⟩ := q1
  subst ev
  rw [eH] at I1
  obtain rfl : u = Value.ref f := r1
  refine PySem.W.callWith_F0 (first := []) (canC_at I1 hf) ?_
  exact run_cblS (us := []) C hr (passAt tk σ) I1 .nil q
end
/-! ### the turns of a drawn generator expression -/
theorem gx_it {β : Type} {J : It} {n : Nat} {G : Hp → Prop} {Y : Nat → Hp → V → Hp → Prop} (w : Walk J n G Y) {g : TG} {tt : TT} {te : TE} {vs : List Nat} {σ : L2.St} {H1 : Hp} {Fin : β → Hp → Prop} {Emit : β → V → Hp → (β → Hp → Prop) → Prop} {b0 : β} (Pv : Nat → β → Hp → Prop) (h0 : Pv 0 b0 H1) (hG : ∀ i b H, i ≤ n → Pv i b H → G H)
    (hs : ∀ i x b H H', i < n → Pv i b H → Y i H x H' → g x (wipe σ vs) H' fun σ2 H2 => wipe σ2 vs = wipe σ vs ∧ tt σ2 H2 fun t H3 => if t = true then te σ2 H3 fun y H4 => Emit b y H4 (Pv (i + 1)) else Pv (i + 1) b H3) (hd : ∀ b H, Pv n b H → Fin b H) :
    ∃ W : Nat → Nat → β → Hp → Prop, (∃ m, W 0 m b0 H1) ∧ GxW J g tt te vs σ Fin Emit W := by
  refine ⟨fun i m b H => m = n - i ∧ i ≤ n ∧ Pv i b H, ⟨n, by simp, Nat.zero_le _, h0⟩, ?_⟩
  rintro i m b H ⟨rfl, hi, p⟩
  have q := hG i b H hi p
  by_cases hlt : i < n
  · exact .inr ⟨w.goes i H hlt q, Pv (i + 1), fun b' H' p' => ⟨n - (i + 1), by omega, rfl, hlt, p'⟩, fun x H' y => hs i x b H H' hlt p (w.yields i H x H' hlt q y)⟩
  · have e : i = n := by omega
    subst e
    exact .inl ⟨w.stops H q, hd b H p⟩
end CC

/-! tuples whose object is known to have no dict; dict(t) of such a tuple of pairs -/
namespace CC
open PySem PySem.Spec PyProof.Rows L2 XV XL UU
section
variable {X : Cx} {es : List Expr} {t : TA} {pos : Pos}
/-- (a, b, ..): a new tuple, its object known -/
def tTupF (t : TA) : TE := fun σ H Q => t σ H fun xs H1 => xs.length ≤ sizeLine ∧ ∀ (p : Addr) (o : Obj), H1 p = none → o.dict = none → Q (.ref p) (upd H1 p (.frz o (.tup xs)))
theorem pe_tupF {x1} (h : PA X es t) : PE X (.Tuple es x1 pos) (tTupF t) := by
  refine ⟨fun pins s σ H Q I hq => ?_⟩
  refine wpAny_Tuple_spliced (thn (h.run pos pins s σ H _ I hq) fun us s1 ⟨xs, H1, I1, r, z, q⟩ => ⟨by rw [← r.length]; exact z, ?_⟩)
  have hf : H1 s1.heap.objs.size = none := I1.hok.fresh (Nat.le_refl _)
  refine ⟨.ref s1.heap.objs.size, upd H1 s1.heap.objs.size (.frz { cls := .type "tuple", data := .seq us.toArray } (.tup xs)), I1.laid (t' := s1.toks) (fun b u e => Heap.get?_push_of_some _ e) (Nat.le_refl _) ?_, rfl, q _ _ hf rfl⟩
  exact ⟨Heap.get?_push_size _ rfl, z, us, r, ⟨_, Heap.get?_push_size _ rfl, rfl, _, rfl⟩⟩
/-- tuple(xs) of a list, its object known -/
theorem call_tupF : CallR X (.type "tuple") (fun xs H Q => ∃ p ys, xs = [.ref p] ∧ SqL X.K H p ys ∧ ∀ (l : Addr) (o : Obj), H l = none → o.dict = none → Q (.ref l) (upd H l (.frz o (.tup ys)))) := by
  intro pins s σ H xs us Q I r h
  obtain ⟨p, ys, rfl, hq, q⟩ := h
  obtain ⟨u, rfl, rx⟩ := vals1 r
  cases rx
  obtain ⟨its, r', pl, hz⟩ := I.list hq
  have hlen := r'.length
  refine call_tuple_list pl.isList (fun h' kp => ?_) (by simp only [List.size_toArray] <;> omega)
  have I1 : Inv X pins σ H { s with heap := h' } := I.kept (t' := s.toks) kp
  have I2 : Inv X pins σ (upd H h'.objs.size (.frz { cls := .type "tuple", data := .seq its.toArray } (.tup ys))) { s with heap := h'.push { cls := .type "tuple", data := .seq its.toArray } } :=
    I1.laid (t' := s.toks) (fun b o e => Heap.get?_push_of_some _ e) (Nat.le_refl _) (show ObjOk X.prog X.w _ _ _ (.frz { cls := .type "tuple", data := .seq its.toArray } (.tup ys)) from ⟨Heap.get?_push_size _ rfl, hz, its, r', IsTup.new _ _⟩)
  exact ⟨.ref h'.objs.size, _, I2, rfl, q _ _ (I1.hok.fresh (Nat.le_refl _)) rfl⟩
theorem pairs_of2 {pins : List (Addr × Obj)} {σ : L2.St} {H : Hp} {s : Shared} (I : Inv X pins σ H s) : ∀ {ps : List Addr} {kvs : List (Key × V)}, Paired (fun p kv => SqT X.K H p [kV kv.1, kv.2]) ps kvs →
    ∃ (prs : List (Key × Value)) (kv : List (Value × Value)), KV kvs prs ∧ prs.length = ps.length ∧ kv.length = ps.length ∧ ∀ (j : Nat) (q : Key × Value), prs[j]? = some q → ∃ (b : Addr) (u : Value), ps[j]? = some b ∧ IsTup s.heap b #[u, q.2] ∧ keyIs q.1 u = true ∧ kv[j]? = some (u, q.2)
  | _, _, .nil => ⟨[], [], .nil, rfl, rfl, fun j q e => by simp at e⟩
  | _, _, .cons (a := p) (b := kv) h t => by
    obtain ⟨prs, kvv, r, hl, hl2, hp⟩ := pairs_of2 I t
    obtain ⟨its, rv, ht, _⟩ := I.tuple h
    obtain ⟨u, y, ei, ru, ry⟩ := vals2 rv
    subst ei
    refine ⟨(kv.1, y) :: prs, (u, y) :: kvv, .cons ⟨rfl, ry⟩ r, by rw [List.length_cons, List.length_cons, hl], by rw [List.length_cons, List.length_cons, hl2], fun j q e => ?_⟩
    cases j with
    | zero =>
      have e' : (kv.1, y) = q := Option.some.inj e
      subst e'
      exact ⟨p, u, rfl, ht, kV_is (P := X.prog) (w := X.w) ru, rfl⟩
    | succ j =>
      obtain ⟨b, u', e1, e2, e3, e4⟩ := hp j q (by simpa using e)
      exact ⟨b, u', by simpa using e1, e2, e3, by simpa using e4⟩
/-- dict(t), t a tuple of pairs (key, value) -/
theorem call_dictT (hcalm : X.calm = true) : CallR X (.type "dict") (fun xs H Q => ∃ (a : Addr) (o : Obj) (ps : List Addr) (kvs : List (Key × V)), xs = [.ref a] ∧ H a = some (.frz o (.tup (ps.map V.ref))) ∧ o.dict = none ∧ Paired (fun p kv => SqT X.K H p [kV kv.1, kv.2]) ps kvs ∧
    ∀ p, H p = none → Q (.ref p) (upd H p (.dK (mergeK [] kvs)))) := by
  intro pins s σ H xs us Q I r q
  obtain ⟨a, o, ps, kvs, ex, hq, hod, hp, q⟩ := q
  subst ex
  obtain ⟨u, eu, rx⟩ := vals1 r
  subst eu
  cases rx
  obtain ⟨ho, hz, its, rv, hit⟩ := I.hok a _ hq
  have ei := refs_at rv
  subst ei
  rw [List.length_map] at hz
  obtain ⟨prs, kv, rel, hl, hl2, hpr⟩ := pairs_of2 I hp
  obtain ⟨o', ho', hc, n, hdat⟩ := hit
  rw [ho] at ho'
  cases ho'
  have back : ∀ (i : Nat) (key v : Value), kv[i]? = some (key, v) → ∃ (k : Key) (b : Addr), prs[i]? = some (k, v) ∧ keyIs k key = true ∧ ps[i]? = some b ∧ IsTup s.heap b #[key, v] := fun i key v e => by
    have hi : i < prs.length := by
      have := (List.getElem?_eq_some_iff.mp e).1
      omega
    obtain ⟨b, u, e1, e2, e3, e4⟩ := hpr i prs[i] (List.getElem?_eq_getElem hi)
    rw [e] at e4
    have e5 := Option.some.inj e4
    have e6 := (Prod.mk.inj e5).1
    have e7 := (Prod.mk.inj e5).2
    refine ⟨prs[i].1, b, ?_, by rw [e6]; exact e3, e1, by rw [e6, e7]; exact e2⟩
    rw [List.getElem?_eq_getElem hi, e7]
  refine call_dict_pairs (knd := mixKind X.prog X.w) (kvs := prs) (PairArg.tuple a (ps.map Value.ref).toArray (fun j => (ps[j]?).getD 0) kv) (I.ok.hd hcalm) ⟨⟨o, n, ho, hc, hod, hdat⟩, by simp [hl2], fun j key v e => ?_⟩ ⟨by rw [hl, hl2], fun i key v e => ?_⟩ (by rw [hl2]; exact hz) fun h' tk hd' k => ?_
  · obtain ⟨k, b, e1, e2, e3, e4⟩ := back j key v e
    refine ⟨by simp [e3], .inl ?_⟩
    show s.heap.IsTuple (ps[j]?.getD 0) #[key, v]
    rw [e3]
    exact e4
  · obtain ⟨k, b, e1, e2, e3, e4⟩ := back i key v e
    exact ⟨k, e1, e2⟩
  · have hm : (s.heap.objs.size == sysModules) = false := beq_eq_false_iff_ne.mpr (Nat.ne_of_gt I.big)
    have hlen : (mergeK [] kvs).length ≤ sizeLine := by
      refine Nat.le_trans (length_mergeK kvs []) ?_
      rw [List.length_nil, Nat.zero_add, rel.length, hl]
      exact hz
    exact ⟨.ref s.heap.objs.size, upd H s.heap.objs.size (.dK (mergeK [] kvs)), I.laid (t' := tk) (fun b o e => k b o (by simp) e) (Nat.le_refl _) (show ObjOk X.prog X.w _ _ _ (.dK (mergeK [] kvs)) from ⟨hlen, hm, merged [] prs, KV.merge rel .nil, hd'⟩), rfl, q _ (I.hok.fresh (Nat.le_refl _))⟩
end
end CC

/-! values as data; what stays of a heap; tables -/
namespace FW
open PySem PySem.Spec PyProof.Rows L2 XV XL UU LamX NdefX GX GxR CC
/-- a value: no list, no dict in it -/
def isVal : PyData → Bool
  | .list _ => false
  | .dict _ => false
  | .tuple ds => isVals ds
  | _ => true
where isVals : List PyData → Bool
  | [] => true
  | d :: ds => isVal d && isVals ds
theorem isVals_all : ∀ ds : List PyData, isVal.isVals ds = ds.all isVal
  | [] => rfl
  | d :: ds => by
    show (isVal d && isVal.isVals ds) = _
    rw [isVals_all ds, List.all_cons]
theorem isVal_tup (ds : List PyData) : isVal (.tuple ds) = ds.all isVal := isVals_all ds
/-- all that stands outside fp stays, but for tables -/
def Keep (fp : List Addr) (H H' : Hp) : Prop := ∀ b o, H b = some o → b ∉ fp → (∀ ps, o ≠ .tbl ps) → H' b = some o
theorem Keep.refl {fp : List Addr} {H : Hp} : Keep fp H H := fun _ _ e _ _ => e
theorem Keep.trans {fp : List Addr} {H H1 H2 : Hp} (a : Keep fp H H1) (b : Keep fp H1 H2) : Keep fp H H2 := fun c o e hc n => b c o (a c o e hc n) hc n
theorem Keep.mono {fp fp' : List Addr} {H H' : Hp} (a : Keep fp H H') (h : ∀ b ∈ fp, b ∈ fp') : Keep fp' H H' := fun c o e hc n => a c o e (fun z => hc (h c z)) n
theorem Keep.of_ext {fp : List Addr} {H H' : Hp} (a : ExtN H H') : Keep fp H H' := fun c o e _ n => a c o e n
theorem Keep.ext {H H' : Hp} (a : Keep [] H H') : ExtN H H' := fun c o e n => a c o e (by simp) n
theorem Keep.same {fp : List Addr} {H H' : Hp} (a : Same H H') : Keep fp H H' := fun c o e _ _ => a c o e
theorem Keep.new {fp : List Addr} {H : Hp} {a : Addr} {o : HO} (n : H a = none) : Keep fp H (upd H a o) := .same (same_upd n)
theorem Keep.put {fp : List Addr} {H : Hp} {a : Addr} {o : HO} (h : a ∈ fp) : Keep fp H (upd H a o) := fun c o' e hc _ => by rw [upd_ne (fun z => hc (by rw [z]; exact h))]; exact e
/-- the footprint holds no tuple -/
def NoT (fp : List Addr) (H : Hp) : Prop := ∀ b ∈ fp, (∀ xs, H b ≠ some (.tup xs)) ∧ (∀ o u, H b ≠ some (.frz o u))
theorem keep_sqT {K : PySem.W.Frag} {fp : List Addr} {H H' : Hp} {a : Addr} {xs : List V} (nt : NoT fp H) (e : Keep fp H H') (h : SqT K H a xs) : SqT K H' a xs := by
  rcases h with (h | ⟨o, h⟩) | h
  · exact .inl (.inl (e _ _ h (fun z => (nt a z).1 xs h) fun _ z => by cases z))
  · exact .inl (.inr ⟨o, e _ _ h (fun z => (nt a z).2 o _ h) fun _ z => by cases z⟩)
  · exact .inr h
mutual
/-- values stay -/
theorem dp_keep {K : PySem.W.Frag} {fp : List Addr} {H H' : Hp} (nt : NoT fp H) (e : Keep fp H H') : ∀ (d : PyData) (v : V), isVal d = true → Dp K H v d → Dp K H' v d
  | .none, _, _, h => by cases h; exact .non
  | .bool b, _, _, h => by cases h; exact .bl _
  | .int i, _, _, h => by cases h; exact .int _
  | .str x, _, _, h => by cases h; exact .str _
  | .list ds, _, z, h => by cases z
  | .tuple ds, _, z, h => by
    cases h with
    | tup q ha => exact .tup (keep_sqT nt e q) (dp_keeps nt e ds _ z ha)
  | .dict kvs, _, z, h => by cases z
theorem dp_keeps {K : PySem.W.Frag} {fp : List Addr} {H H' : Hp} (nt : NoT fp H) (e : Keep fp H H') : ∀ (ds : List PyData) (vs : List V), isVal.isVals ds = true → DpAll K H vs ds → DpAll K H' vs ds
  | [], _, _, h => by cases h; exact .nil
  | d :: ds, _, z, h => by
    have z' : (isVal d && isVal.isVals ds) = true := z
    obtain ⟨z1, z2⟩ := Bool.and_eq_true_iff.mp z'
    cases h with
    | cons h1 h2 => exact .cons (dp_keep nt e d _ z1 h1) (dp_keeps nt e ds _ z2 h2)
end
/-- a value d stands at v -/
structure Vd (K : PySem.W.Frag) (H : Hp) (v : V) (d : PyData) : Prop where
  dp : Dp K H v d
  val : isVal d = true
def Vds (K : PySem.W.Frag) (H : Hp) : List V → List PyData → Prop := Paired (Vd K H)
theorem Vds.dpa {K : PySem.W.Frag} {H : Hp} : ∀ {vs : List V} {ds : List PyData}, Vds K H vs ds → DpAll K H vs ds
  | _, _, .nil => .nil
  | _, _, .cons h t => .cons h.dp (Vds.dpa t)
theorem Vds.vals {K : PySem.W.Frag} {H : Hp} : ∀ {vs : List V} {ds : List PyData}, Vds K H vs ds → ds.all isVal = true
  | _, _, .nil => rfl
  | _, _, .cons h t => by rw [List.all_cons, h.val, Vds.vals t]; rfl
theorem Vds.of {K : PySem.W.Frag} {H : Hp} : ∀ {vs : List V} {ds : List PyData}, DpAll K H vs ds → ds.all isVal = true → Vds K H vs ds
  | _, _, .nil, _ => .nil
  | _, _, .cons h t, z => by
    rw [List.all_cons] at z
    obtain ⟨z1, z2⟩ := Bool.and_eq_true_iff.mp z
    exact .cons ⟨h, z1⟩ (Vds.of t z2)
theorem Vd.keep {K : PySem.W.Frag} {fp : List Addr} {H H' : Hp} {v : V} {d : PyData} (nt : NoT fp H) (e : Keep fp H H') (h : Vd K H v d) : Vd K H' v d := ⟨dp_keep nt e d v h.val h.dp, h.val⟩
theorem Vds.keep {K : PySem.W.Frag} {fp : List Addr} {H H' : Hp} {vs : List V} {ds : List PyData} (nt : NoT fp H) (e : Keep fp H H') (h : Vds K H vs ds) : Vds K H' vs ds := Paired.mapP h fun _ _ => Vd.keep nt e
theorem noT_nil {H : Hp} : NoT [] H := fun b hb => by cases hb
theorem Vd.ext {K : PySem.W.Frag} {H H' : Hp} {v : V} {d : PyData} (e : Keep [] H H') (h : Vd K H v d) : Vd K H' v d := h.keep noT_nil e
theorem Vds.ext {K : PySem.W.Frag} {H H' : Hp} {vs : List V} {ds : List PyData} (e : Keep [] H H') (h : Vds K H vs ds) : Vds K H' vs ds := h.keep noT_nil e
theorem Vd.tup {K : PySem.W.Frag} {H : Hp} {a : Addr} {vs : List V} {ds : List PyData} (q : SqT K H a vs) (h : Vds K H vs ds) : Vd K H (.ref a) (.tuple ds) := ⟨.tup q h.dpa, by rw [isVal_tup]; exact h.vals⟩
theorem Vd.untup {K : PySem.W.Frag} {H : Hp} {v : V} {ds : List PyData} (h : Vd K H v (.tuple ds)) : ∃ a vs, v = .ref a ∧ SqT K H a vs ∧ Vds K H vs ds := by
  obtain ⟨a, vs, e, q, hd⟩ := seq_itemsT h.dp
  exact ⟨a, vs, e, q, .of hd (by rw [← isVal_tup]; exact h.val)⟩
theorem Vds.at {K : PySem.W.Frag} {H : Hp} : ∀ {vs : List V} {ds : List PyData} {i : Nat} {v : V}, Vds K H vs ds → vs[i]? = some v → ∃ d, ds[i]? = some d ∧ Vd K H v d
  | _, _, _, _, .nil, e => by simp at e
  | _, _, 0, _, .cons h t, e => by simp at e; subst e; exact ⟨_, rfl, h⟩
  | _, _, i + 1, v, .cons h t, e => by
    obtain ⟨d, h1, h2⟩ := Vds.at (i := i) t (by simpa using e)
    exact ⟨d, by simpa using h1, h2⟩
theorem Vds.at' {K : PySem.W.Frag} {H : Hp} : ∀ {vs : List V} {ds : List PyData} {i : Nat} {d : PyData}, Vds K H vs ds → ds[i]? = some d → ∃ v, vs[i]? = some v ∧ Vd K H v d
  | _, _, _, _, .nil, e => by simp at e
  | _, _, 0, _, .cons h t, e => by simp at e; subst e; exact ⟨_, rfl, h⟩
  | _, _, i + 1, d, .cons h t, e => by
    obtain ⟨v, h1, h2⟩ := Vds.at' (i := i) t (by simpa using e)
    exact ⟨v, by simpa using h1, h2⟩
theorem Vds.len {K : PySem.W.Frag} {H : Hp} {vs : List V} {ds : List PyData} (h : Vds K H vs ds) : vs.length = ds.length := Paired.length h
theorem Paired.app {α β : Type} {F : α → β → Prop} : ∀ {a : List α} {b : List β} {a' : List α} {b' : List β}, Paired F a b → Paired F a' b' → Paired F (a ++ a') (b ++ b')
  | _, _, _, _, .nil, h => h
  | _, _, _, _, .cons r t, h => .cons r (Paired.app t h)
theorem Vds.snoc {K : PySem.W.Frag} {H : Hp} {vs : List V} {ds : List PyData} {v : V} {d : PyData} (h : Vds K H vs ds) (h' : Vd K H v d) : Vds K H (vs ++ [v]) (ds ++ [d]) := Paired.app h (.cons h' .nil)
/-- the tables: those where generator expressions lie, those of lambdas -/
structure Tb where
  gp : List Addr
  lt : List NTab
/-- all tables are well -/
structure Tbs (G : Tb) (H : Hp) : Prop where
  g : ∀ P ∈ G.gp, TabG H P
  l : TabsN G.lt H
/-- a step: all outside fp stays, the tables are well -/
structure Stp (G : Tb) (fp : List Addr) (H H' : Hp) : Prop where
  k : Keep fp H H'
  t : Tbs G H'
theorem Tbs.keep {G : Tb} {H H' : Hp} (t : Tbs G H) (h : ∀ b ps, H b = some (.tbl ps) → H' b = some (.tbl ps)) (hc : ∀ b c q, H b = some (CodeO c q) → H' b = some (CodeO c q)) : Tbs G H' := by
  refine ⟨fun P hP => ?_, fun p hp => ?_⟩
  · obtain ⟨ps, e, tr⟩ := t.g P hP
    exact ⟨ps, h P ps e, tr⟩
  · obtain ⟨ps, e, tr, ha⟩ := (show TabN H p.1 p.2 from t.l p hp)
    refine ⟨ps, h _ _ e, tr, fun p' cv hcv => ?_⟩
    obtain ⟨c', e1, e2⟩ := ha p' cv hcv
    exact ⟨c', e1, hc _ _ _ e2⟩
theorem Tbs.new {G : Tb} {H : Hp} {a : Addr} {o : HO} (t : Tbs G H) (n : H a = none) : Tbs G (upd H a o) :=
  t.keep (fun b ps e => by rw [upd_ne (ne_of_none e n)]; exact e) fun b c q e => by rw [upd_ne (ne_of_none e n)]; exact e
/-- at a stands no table and no code object -/
def NoTC (o : HO) : Prop := (∀ ps, o ≠ .tbl ps) ∧ ∀ φ, o ≠ .ext φ
theorem Tbs.put {G : Tb} {H : Hp} {a : Addr} {o u : HO} (t : Tbs G H) (e : H a = some u) (n : NoTC u) : Tbs G (upd H a o) :=
  t.keep (fun b ps q => by rw [upd_ne (fun z => by rw [z, e] at q; exact n.1 ps (Option.some.inj q))]; exact q) fun b c qn q => by
    rw [upd_ne (fun z => by
      rw [z, e] at q
      have q' := Option.some.inj q
      unfold CodeO at q'
      exact n.2 _ q')]
    exact q
theorem Stp.refl {G : Tb} {fp : List Addr} {H : Hp} (t : Tbs G H) : Stp G fp H H := ⟨.refl, t⟩
theorem Stp.trans {G : Tb} {fp : List Addr} {H H1 H2 : Hp} (a : Stp G fp H H1) (b : Stp G fp H1 H2) : Stp G fp H H2 := ⟨a.k.trans b.k, b.t⟩
theorem Stp.mono {G : Tb} {fp fp' : List Addr} {H H1 : Hp} (a : Stp G fp H H1) (h : ∀ b ∈ fp, b ∈ fp') : Stp G fp' H H1 := ⟨a.k.mono h, a.t⟩
theorem Stp.up {G : Tb} {fp : List Addr} {H H1 : Hp} (a : Stp G [] H H1) : Stp G fp H H1 := a.mono fun b hb => by cases hb
theorem Stp.new {G : Tb} {fp : List Addr} {H : Hp} {a : Addr} {o : HO} (t : Tbs G H) (n : H a = none) : Stp G fp H (upd H a o) := ⟨.new n, t.new n⟩
theorem Stp.put {G : Tb} {fp : List Addr} {H : Hp} {a : Addr} {o u : HO} (t : Tbs G H) (h : a ∈ fp) (e : H a = some u) (n : NoTC u) : Stp G fp H (upd H a o) := ⟨.put h, t.put e n⟩
theorem Stp.snew {G : Tb} {fp : List Addr} {H H1 : Hp} {a : Addr} {o : HO} (s : Stp G fp H H1) (n : H1 a = none) : Stp G fp H (upd H1 a o) := s.trans (.new s.t n)
/-- a table has grown -/
theorem Stp.tab {G : Tb} {fp : List Addr} {H H' : Hp} {P : Addr} (t : Tbs G H) (hP : P ∈ G.gp) (hl : ∀ p ∈ G.lt, p.1 ≠ P) (h : Tabbed P H H') : Stp G fp H H' := by
  obtain ⟨h1, h2⟩ := h
  obtain ⟨ps0, e0, tr0⟩ := t.g P hP
  refine ⟨fun b o e _ n => ?_, fun p hp => ?_, fun p hp => ?_⟩
  · rw [h2 b (fun z => by rw [z, e0] at e; exact n ps0 (Option.some.inj e).symm)]
    exact e
  · by_cases hb : p = P
    · rw [hb]; exact h1
    · obtain ⟨ps, e, tr⟩ := t.g p hp
      exact ⟨ps, by rw [h2 p hb]; exact e, tr⟩
  · obtain ⟨ps, e, tr, ha⟩ := (show TabN H p.1 p.2 from t.l p hp)
    refine ⟨ps, by rw [h2 _ (hl p hp)]; exact e, tr, fun p' cv hcv => ?_⟩
    obtain ⟨c', e1, e2⟩ := ha p' cv hcv
    refine ⟨c', e1, ?_⟩
    rw [h2 _ (fun z => by rw [z, e0] at e2; exact codeO_ne _ (Option.some.inj e2).symm)]
    exact e2
theorem notc_lst {xs : List V} : NoTC (.lst xs) := ⟨(fun _ z => by cases z), (fun _ z => by cases z)⟩
theorem notc_dK {xs : List (Key × V)} : NoTC (.dK xs) := ⟨(fun _ z => by cases z), (fun _ z => by cases z)⟩
theorem notc_ins {C dx : Addr} {fs : List (Str × V)} : NoTC (.ins C dx fs) := ⟨(fun _ z => by cases z), (fun _ z => by cases z)⟩
theorem notc_own {x : Addr} : NoTC (.own x) := ⟨(fun _ z => by cases z), (fun _ z => by cases z)⟩
end FW

/-! instances made by a class's name -/
namespace CC
open PySem PySem.Spec PyProof.Rows L2 XV XL UU
/-- C(..) by its name: its __init__ keeps sp -/
structure UMake (P : Program) (w : World) (K : PySem.W.Frag) (mg : Str → Option Value) (base : Heap) (CX : CXT) (x : Str) (k : Nat) (ps : List Str) (sp : Sp) (C : Addr) : Prop where
  g : mg x = some (.ref C)
  ex : ∃ (f : Addr) (fd : FuncData), FnOk P w K mg base CX k f fd ps sp ∧ Mk K C f ∧ Binds K fd ps []
section
variable {X : Cx} {k j : Nat} {C : Addr} {ps : List Str} {sp : Sp} {x : Str} {p pos : Pos} {e : Expr} {es : List Expr} {t : TA} {W : WX}
/-- nothing is let out here -/
theorem pe_umk (U : UMake X.prog X.w X.K X.mg X.base (L2.CX X.prog X.w) x j ps sp C) (hr : Room k X.A) (hj : j + 1 ≤ k) (hg : Gl X x) (ha : PA X (e :: es) t) (hdb : (x == ("__debug__" : Str)) = false := by decide)
    (he : starEach (e :: es) X.env = (false, eval e X.env) :: starEach es X.env := by rfl) (hpl : (backTo pos (starEach es X.env)).any (·.1) = false := by rfl) : PE X (.Call (.Name x p) (e :: es) [] pos) (tMake C sp [] E0 t) := by
  obtain ⟨f, fd, F, m, b⟩ := U.ex
  exact pe_make m F (hr.mono hj) hg U.g b .nil passL ha hdb he hpl
/-- in a def's own body, that lets out what its __init__ lets out -/
theorem pe_umkS {E : XK} (U : UMake X.prog X.w X.K X.mg X.base (L2.CX X.prog X.w) x j ps sp C) (hr : Room k X.A) (hj : j + 1 ≤ k) (hg : Gl X x) (tk : Takes X (fun cls d _ H => E cls d H)) (ha : PA X (e :: es) t) (hdb : (x == ("__debug__" : Str)) = false := by decide)
    (he : starEach (e :: es) X.env = (false, eval e X.env) :: starEach es X.env := by rfl) (hpl : (backTo pos (starEach es X.env)).any (·.1) = false := by rfl) : PE X (.Call (.Name x p) (e :: es) [] pos) (tMake C sp [] E t) := by
  obtain ⟨f, fd, F, m, b⟩ := U.ex
  exact pe_make m F (hr.mono hj) hg U.g b .nil (passes_call tk fun _ _ _ _ h => h) ha hdb he hpl
end
/-- no test in a comprehension -/
theorem yesI {σ : L2.St} {H : Hp} {A : Hp → Prop} {B : Hp → Prop} (h : A H) : tYes σ H (fun t H3 => if t = true then A H3 else B H3) := iteT (B := B H) h
theorem allT {A B : Prop} (h : B) : if true = false then A else B := by rw [if_neg (by decide)]; exact h
theorem allF {A B : Prop} (h : A) : if false = false then A else B := by rw [if_pos rfl]; exact h
end CC

/-! hands as data -/
namespace FW
open PySem PySem.Spec PyProof.Rows L2 XV XL UU LamX NdefX GX GxR CC
/-- pages by name, in the dict's order -/
abbrev Pgs := List (Str × PyData)
def pgGet (ps : Pgs) (n : Str) : Option PyData := ps.lookup n
def pgSet : Pgs → Str → PyData → Pgs
  | [], _, _ => []
  | (m, d) :: r, n, e => if m = n then (m, e) :: pgSet r n e else (m, d) :: pgSet r n e
/-- the dict's pairs are the pages -/
def KvD (K : PySem.W.Frag) (H : Hp) : List (Key × V) → Pgs → Prop := Paired fun p q => p.1 = .inr q.1 ∧ Vd K H p.2 q.2
structure HS where
  pages : Pgs
  longest : Int
  steps : List PyData
  notes : List PyData
  fail : PyData
  held : Bool
structure HA where
  h : Addr
  dx : Addr
  d : Addr
  l : Addr
  m : Addr
def HA.fp (A : HA) : List Addr := [A.h, A.d, A.l, A.m]
abbrev hFs (A : HA) (st : HS) (fv : V) : List (Str × V) := [("_pages", .ref A.d), ("_longest", .int st.longest), ("_steps", .ref A.l), ("_notes", .ref A.m), ("_failure", fv), ("_held", .bl st.held)]
structure HandAt (K : PySem.W.Frag) (C : Addr) (H : Hp) (A : HA) (st : HS) : Prop where
  ex : ∃ (kvs : List (Key × V)) (sv nv : List V) (fv : V), H A.h = some (.ins C A.dx (hFs A st fv)) ∧ H A.d = some (.dK kvs) ∧ KvD K H kvs st.pages ∧ H A.l = some (.lst sv) ∧ Vds K H sv st.steps ∧ H A.m = some (.lst nv) ∧ Vds K H nv st.notes ∧ Vd K H fv st.fail
  own : H A.dx = some (.own A.h)
  lm : A.l ≠ A.m
theorem HandAt.noT {K : PySem.W.Frag} {C : Addr} {H : Hp} {A : HA} {st : HS} (h : HandAt K C H A st) : NoT A.fp H := by
  obtain ⟨kvs, sv, nv, fv, e1, e2, _, e3, _, e4, _⟩ := h.ex
  intro b hb
  simp only [HA.fp, List.mem_cons, List.mem_nil_iff, or_false] at hb
  rcases hb with rfl | rfl | rfl | rfl
  · exact ⟨(fun xs z => by rw [e1] at z; cases z), (fun o u z => by rw [e1] at z; cases z)⟩
  · exact ⟨(fun xs z => by rw [e2] at z; cases z), (fun o u z => by rw [e2] at z; cases z)⟩
  · exact ⟨(fun xs z => by rw [e3] at z; cases z), (fun o u z => by rw [e3] at z; cases z)⟩
  · exact ⟨(fun xs z => by rw [e4] at z; cases z), (fun o u z => by rw [e4] at z; cases z)⟩
theorem KvD.keep {K : PySem.W.Frag} {fp : List Addr} {H H' : Hp} {kvs : List (Key × V)} {ps : Pgs} (nt : NoT fp H) (e : Keep fp H H') (h : KvD K H kvs ps) : KvD K H' kvs ps := Paired.mapP h fun _ _ z => ⟨z.1, z.2.keep nt e⟩
/-- nothing of the hand is touched -/
theorem HandAt.keep {K : PySem.W.Frag} {C : Addr} {H H' : Hp} {A : HA} {st : HS} (h : HandAt K C H A st) (e : Keep [] H H') : HandAt K C H' A st := by
  obtain ⟨kvs, sv, nv, fv, e1, e2, k, e3, s, e4, n, f⟩ := h.ex
  have kk : ∀ b o, H b = some o → (∀ ps, o ≠ .tbl ps) → H' b = some o := fun b o q n => e b o q (by simp) n
  exact ⟨⟨kvs, sv, nv, fv, kk _ _ e1 (fun _ z => by cases z), kk _ _ e2 (fun _ z => by cases z), k.keep noT_nil e, kk _ _ e3 (fun _ z => by cases z), s.ext e, kk _ _ e4 (fun _ z => by cases z), n.ext e, f.ext e⟩, kk _ _ h.own (fun _ z => by cases z), h.lm⟩
theorem kvD_get {K : PySem.W.Frag} {H : Hp} {n : Str} : ∀ {kvs : List (Key × V)} {ps : Pgs}, KvD K H kvs ps → (∀ d, pgGet ps n = some d → ∃ v, valV kvs (.inr n) = some v ∧ Vd K H v d) ∧ (pgGet ps n = none → valV kvs (.inr n) = none)
  | _, _, .nil => ⟨(fun d z => by cases z), fun _ => rfl⟩
  | _, _, .cons (a := p) (b := q) h t => by
    obtain ⟨k, v⟩ := p
    obtain ⟨m, d⟩ := q
    obtain ⟨h1, h2⟩ := h
    have ih := kvD_get (n := n) t
    dsimp only at h1 h2
    subst h1
    by_cases e : n = m
    · subst e
      refine ⟨fun d' z => ?_, fun z => ?_⟩
      · have z' : some d = some d' := by
          have : pgGet ((n, d) :: _) n = some d' := z
          unfold pgGet at this
          rw [List.lookup_cons] at this
          simpa using this
        cases z'
        exact ⟨v, valV_pos rfl, h2⟩
      · unfold pgGet at z
        rw [List.lookup_cons] at z
        simp at z
    · have eb : (n == m) = false := by simpa using e
      have e' : ¬ (Sum.inr m : Key) = Sum.inr n := fun z => e (Sum.inr.inj z).symm
      refine ⟨fun d' z => ?_, fun z => ?_⟩
      · unfold pgGet at z
        rw [List.lookup_cons, eb] at z
        rw [valV_neg e']
        exact ih.1 d' z
      · unfold pgGet at z
        rw [List.lookup_cons, eb] at z
        rw [valV_neg e']
        exact ih.2 z
theorem kvD_map {K : PySem.W.Frag} {H : Hp} {n : Str} {v : V} {d : PyData} (hv : Vd K H v d) : ∀ {kvs : List (Key × V)} {ps : Pgs}, KvD K H kvs ps → KvD K H (kvs.map fun kv => if kv.1 = .inr n then (kv.1, v) else kv) (pgSet ps n d)
  | _, _, .nil => .nil
  | _, _, .cons (a := p) (b := q) h t => by
    obtain ⟨k, u⟩ := p
    obtain ⟨m, e⟩ := q
    obtain ⟨h1, h2⟩ := h
    dsimp only at h1 h2
    subst h1
    rw [List.map_cons]
    unfold pgSet
    by_cases hm : m = n
    · subst hm
      rw [if_pos rfl, if_pos rfl]
      exact .cons ⟨rfl, hv⟩ (kvD_map hv t)
    · rw [if_neg fun z => hm (Sum.inr.inj z), if_neg hm]
      exact .cons ⟨rfl, h2⟩ (kvD_map hv t)
/-- a page that is there is put anew in its place -/
theorem kvD_put {K : PySem.W.Frag} {H : Hp} {n : Str} {v : V} {d d0 : PyData} {kvs : List (Key × V)} {ps : Pgs} (hv : Vd K H v d) (h : KvD K H kvs ps) (hg : pgGet ps n = some d0) : KvD K H (putK kvs (.inr n) v) (pgSet ps n d) := by
  obtain ⟨u, hu, _⟩ := (kvD_get (n := n) h).1 d0 hg
  unfold putK
  rw [if_pos (by rw [valV_any, hu]; rfl)]
  exact kvD_map hv h
theorem KvD.len {K : PySem.W.Frag} {H : Hp} {kvs : List (Key × V)} {ps : Pgs} (h : KvD K H kvs ps) : kvs.length = ps.length := Paired.length h
def HS.look (st : HS) (n : Str) : HS := { st with steps := st.steps ++ [.tuple [.tuple [.str "look", .str n], (pgGet st.pages n).getD .none]] }
def HS.put (st : HS) (n : Str) (d : PyData) : HS := { st with pages := pgSet st.pages n d, steps := st.steps ++ [.tuple [.tuple [.str "put", .str n, d], .none]] }
def HS.barrier (st : HS) : HS := { st with steps := st.steps ++ [.tuple [.tuple [.str "barrier"], .none]] }
def HS.flush (st : HS) : HS := { st with steps := st.steps ++ [.tuple [.tuple [.str "flush"], .none]] }
def HS.say (st : HS) (d : PyData) : HS := { st with notes := st.notes ++ [.tuple [.int st.steps.length, d]] }
def HS.failed (st : HS) (d : PyData) : HS := { st with fail := .tuple [.str "failed", d], held := true }
/-- the hand's steps grown by one -/
theorem HandAt.step {K : PySem.W.Frag} {C : Addr} {H : Hp} {A : HA} {st : HS} (h : HandAt K C H A st) {sv : List V} {v : V} {d : PyData} (e : H A.l = some (.lst sv)) (hv : Vd K H v d) : HandAt K C (upd H A.l (.lst (sv ++ [v]))) A { st with steps := st.steps ++ [d] } := by
  obtain ⟨kvs, sv', nv, fv, e1, e2, k, e3, s, e4, n, f⟩ := h.ex
  rw [e] at e3
  cases e3
  have nt : NoT [A.l] H := fun b hb => h.noT b (by rw [List.mem_singleton.mp hb]; simp [HA.fp])
  have kp : Keep [A.l] H (upd H A.l (.lst (sv ++ [v]))) := .put (by simp)
  have ne : ∀ b u, H b = some u → (∀ xs, u ≠ .lst xs) → b ≠ A.l := fun b u q n z => by rw [z, e] at q; exact n _ (Option.some.inj q).symm
  refine ⟨⟨kvs, sv ++ [v], nv, fv, by rw [upd_ne (ne _ _ e1 fun _ z => by cases z)]; exact e1, by rw [upd_ne (ne _ _ e2 fun _ z => by cases z)]; exact e2, k.keep nt kp, upd_same, (s.snoc hv).keep nt kp, by rw [upd_ne (Ne.symm h.lm)]; exact e4, n.keep nt kp, f.keep nt kp⟩, by rw [upd_ne (ne _ _ h.own fun _ z => by cases z)]; exact h.own, h.lm⟩
theorem HandAt.note {K : PySem.W.Frag} {C : Addr} {H : Hp} {A : HA} {st : HS} (h : HandAt K C H A st) {nv : List V} {v : V} {d : PyData} (e : H A.m = some (.lst nv)) (hv : Vd K H v d) : HandAt K C (upd H A.m (.lst (nv ++ [v]))) A { st with notes := st.notes ++ [d] } := by
  obtain ⟨kvs, sv, nv', fv, e1, e2, k, e3, s, e4, n, f⟩ := h.ex
  rw [e] at e4
  cases e4
  have nt : NoT [A.m] H := fun b hb => h.noT b (by rw [List.mem_singleton.mp hb]; simp [HA.fp])
  have kp : Keep [A.m] H (upd H A.m (.lst (nv ++ [v]))) := .put (by simp)
  have ne : ∀ b u, H b = some u → (∀ xs, u ≠ .lst xs) → b ≠ A.m := fun b u q n z => by rw [z, e] at q; exact n _ (Option.some.inj q).symm
  refine ⟨⟨kvs, sv, nv ++ [v], fv, by rw [upd_ne (ne _ _ e1 fun _ z => by cases z)]; exact e1, by rw [upd_ne (ne _ _ e2 fun _ z => by cases z)]; exact e2, k.keep nt kp, by rw [upd_ne h.lm]; exact e3, s.keep nt kp, upd_same, (n.snoc hv).keep nt kp, f.keep nt kp⟩, by rw [upd_ne (ne _ _ h.own fun _ z => by cases z)]; exact h.own, h.lm⟩
theorem HandAt.page {K : PySem.W.Frag} {C : Addr} {H : Hp} {A : HA} {st : HS} (h : HandAt K C H A st) {kvs : List (Key × V)} {n : Str} {v : V} {d d0 : PyData} (e : H A.d = some (.dK kvs)) (hg : pgGet st.pages n = some d0) (hv : Vd K H v d) : HandAt K C (upd H A.d (.dK (putK kvs (.inr n) v))) A { st with pages := pgSet st.pages n d } := by
  obtain ⟨kvs', sv, nv, fv, e1, e2, k, e3, s, e4, nn, f⟩ := h.ex
  rw [e] at e2
  cases e2
  have nt : NoT [A.d] H := fun b hb => h.noT b (by rw [List.mem_singleton.mp hb]; simp [HA.fp])
  have kp : Keep [A.d] H (upd H A.d (.dK (putK kvs (.inr n) v))) := .put (by simp)
  have ne : ∀ b u, H b = some u → (∀ xs, u ≠ .dK xs) → b ≠ A.d := fun b u q nq z => by rw [z, e] at q; exact nq _ (Option.some.inj q).symm
  refine ⟨⟨_, sv, nv, fv, by rw [upd_ne (ne _ _ e1 fun _ z => by cases z)]; exact e1, upd_same, (kvD_put hv k hg).keep nt kp, by rw [upd_ne (ne _ _ e3 fun _ z => by cases z)]; exact e3, s.keep nt kp, by rw [upd_ne (ne _ _ e4 fun _ z => by cases z)]; exact e4, nn.keep nt kp, f.keep nt kp⟩, by rw [upd_ne (ne _ _ h.own fun _ z => by cases z)]; exact h.own, h.lm⟩
theorem HandAt.fld {K : PySem.W.Frag} {C : Addr} {H : Hp} {A : HA} {st st' : HS} (h : HandAt K C H A st) {fv' : V} (hp : st'.pages = st.pages) (hs : st'.steps = st.steps) (hn : st'.notes = st.notes) (hv : Vd K H fv' st'.fail) : HandAt K C (upd H A.h (.ins C A.dx (hFs A st' fv'))) A st' := by
  obtain ⟨kvs, sv, nv, fv, e1, e2, k, e3, s, e4, n, f⟩ := h.ex
  have nt : NoT [A.h] H := fun b hb => h.noT b (by rw [List.mem_singleton.mp hb]; simp [HA.fp])
  have kp : Keep [A.h] H (upd H A.h (.ins C A.dx (hFs A st' fv'))) := .put (by simp)
  have ne : ∀ b u, H b = some u → (∀ C dx fs, u ≠ .ins C dx fs) → b ≠ A.h := fun b u q n z => by rw [z, e1] at q; exact n _ _ _ (Option.some.inj q).symm
  refine ⟨⟨kvs, sv, nv, fv', upd_same, by rw [upd_ne (ne _ _ e2 fun _ _ _ z => by cases z)]; exact e2, by rw [hp]; exact k.keep nt kp, by rw [upd_ne (ne _ _ e3 fun _ _ _ z => by cases z)]; exact e3, by rw [hs]; exact s.keep nt kp, by rw [upd_ne (ne _ _ e4 fun _ _ _ z => by cases z)]; exact e4, by rw [hn]; exact n.keep nt kp, hv.keep nt kp⟩, by rw [upd_ne (ne _ _ h.own fun _ _ _ z => by cases z)]; exact h.own, h.lm⟩
end FW

/-! what a raised error's address was before; fresh hands -/
namespace FW
open PySem PySem.Spec PyProof.Rows L2 XV XL UU LamX NdefX GX GxR CC
theorem HandAt.some {K : PySem.W.Frag} {C : Addr} {H : Hp} {A : HA} {st : HS} (h : HandAt K C H A st) : ∀ b ∈ A.fp, H b ≠ none := by
  obtain ⟨kvs, sv, nv, fv, e1, e2, _, e3, _, e4, _⟩ := h.ex
  intro b hb
  simp only [HA.fp, List.mem_cons, List.mem_nil_iff, or_false] at hb
  rcases hb with rfl | rfl | rfl | rfl
  · rw [e1]; exact fun z => by cases z
  · rw [e2]; exact fun z => by cases z
  · rw [e3]; exact fun z => by cases z
  · rw [e4]; exact fun z => by cases z
theorem fr0_keep {fp : List Addr} {H H' : Hp} {a : Addr} (k : Keep fp H H') (hs : ∀ b ∈ fp, H' b ≠ none) (ha : H' a = none) : Fr0 H a := fun o e => by
  by_cases ht : ∃ ps, o = .tbl ps
  · exact ht
  · exfalso
    by_cases hb : a ∈ fp
    · exact hs a hb ha
    · have z := k a o e hb fun ps q => ht ⟨ps, q⟩
      rw [ha] at z
      cases z

/-! ### the own things of a call are new to the caller -/
theorem Stp.fresh {G : Tb} {fp : List Addr} {H H1 H2 : Hp} (a : Keep [] H H1) (b : Stp G fp H1 H2) (n : ∀ x ∈ fp, Fr0 H x) : Stp G [] H H2 :=
  ⟨fun c o e _ nt => b.k c o (a c o e (by simp) nt) (fun hc => by
    obtain ⟨ps, z⟩ := n c hc o e
    exact nt ps z) nt, b.t⟩
theorem Keep.fr0 {fp : List Addr} {H H' : Hp} {a : Addr} (k : Keep fp H H') (hb : a ∉ fp) (ha : Fr0 H' a) : Fr0 H a := fun o e => by
  by_cases ht : ∃ ps, o = .tbl ps
  · exact ht
  · exact ha o (k a o e hb fun ps z => ht ⟨ps, z⟩)
theorem Fr0.ne {H : Hp} {a b : Addr} {o : HO} (h : Fr0 H a) (e : H b = some o) (n : ∀ ps, o ≠ .tbl ps) : b ≠ a := fun z => by
  rw [z] at e
  obtain ⟨ps, q⟩ := h o e
  exact n ps q
/-- a disk stands there: a tuple of pairs (name, value) -/
structure DiskAt (K : PySem.W.Frag) (H : Hp) (a : Addr) (ps : Pgs) : Prop where
  ex : ∃ (o : Obj) (vs : List V), H a = some (.frz o (.tup vs)) ∧ o.dict = none ∧ Vds K H vs (ps.map fun p => .tuple [.str p.1, p.2])
  nd : (ps.map (·.1)).Nodup
theorem DiskAt.keep {K : PySem.W.Frag} {fp : List Addr} {H H' : Hp} {a : Addr} {ps : Pgs} (h : DiskAt K H a ps) (nt : NoT fp H) (k : Keep fp H H') : DiskAt K H' a ps := by
  obtain ⟨o, vs, e, d, v⟩ := h.ex
  exact ⟨⟨o, vs, k _ _ e (fun z => (nt a z).2 o _ e) (fun _ z => by cases z), d, v.keep nt k⟩, h.nd⟩
theorem DiskAt.ext {K : PySem.W.Frag} {H H' : Hp} {a : Addr} {ps : Pgs} (h : DiskAt K H a ps) (k : Keep [] H H') : DiskAt K H' a ps := h.keep noT_nil k
theorem disk_pairs {K : PySem.W.Frag} {H : Hp} : ∀ {vs : List V} {ps : Pgs}, Vds K H vs (ps.map fun p => .tuple [.str p.1, p.2]) → ∃ (as : List Addr) (kvs : List (Key × V)), vs = as.map V.ref ∧ Paired (fun p kv => SqT K H p [kV kv.1, kv.2]) as kvs ∧ KvD K H kvs ps
  | [], [], _ => ⟨[], [], rfl, .nil, .nil⟩
  | v :: vs, p :: ps, h => by
    cases h with
    | cons h t =>
      obtain ⟨as, kvs, e, r, q⟩ := disk_pairs (ps := ps) t
      obtain ⟨a, us, ev, hq, hd⟩ := h.untup
      cases hd with
      | cons h1 hd =>
        cases hd with
        | cons h2 hd =>
          cases hd with
          | nil =>
            subst ev e
            have e1 := h1.dp
            cases e1
            exact ⟨a :: as, (.inr p.1, _) :: kvs, rfl, .cons hq r, .cons ⟨rfl, h2⟩ q⟩
theorem kvD_keys {K : PySem.W.Frag} {H : Hp} : ∀ {kvs : List (Key × V)} {ps : Pgs}, KvD K H kvs ps → kvs.map (·.1) = ps.map fun p => Sum.inr p.1
  | _, _, .nil => rfl
  | _, _, .cons h t => by rw [List.map_cons, List.map_cons, kvD_keys t, h.1]
theorem mergeK_new : ∀ (more kvs : List (Key × V)), (kvs.map (·.1) ++ more.map (·.1)).Nodup → mergeK kvs more = kvs ++ more
  | [], kvs, _ => by rw [List.append_nil] <;> rfl
  | p :: more, kvs, h => by
    have hp : putK kvs p.1 p.2 = kvs ++ [p] := by
      unfold putK
      rw [if_neg]
      intro z
      obtain ⟨q, hq, e⟩ := List.any_eq_true.mp z
      have e' := of_decide_eq_true e
      rw [List.nodup_append] at h
      exact h.2.2 q.1 (List.mem_map_of_mem hq) p.1 (by simp) e'
    have : mergeK kvs (p :: more) = mergeK (putK kvs p.1 p.2) more := rfl
    rw [this, hp, mergeK_new more (kvs ++ [p]) (by simpa using h), List.append_assoc] <;> rfl
theorem kvD_merge {K : PySem.W.Frag} {H : Hp} {kvs : List (Key × V)} {ps : Pgs} (h : KvD K H kvs ps) (nd : (ps.map (·.1)).Nodup) : mergeK [] kvs = kvs := by
  refine mergeK_new kvs [] ?_
  rw [List.map_nil, List.nil_append, kvD_keys h]
  have : (ps.map fun p => (Sum.inr p.1 : Key)) = (ps.map (·.1)).map Sum.inr := by rw [List.map_map] <;> rfl
  rw [this]
  exact List.Pairwise.map _ (fun a b hab z => hab (Sum.inr.inj z)) nd
end FW

/-! readings told by K itself; moments as data -/
namespace CC
open PySem PySem.Spec PyProof.Rows L2 XV XL UU
theorem ix_tupK {X : Cx} (K : PySem.W.Frag) (hK : X.K = K) : IxR X (rIxT K) := by
  subst hK
  exact ix_tup
end CC
namespace FW
open PySem PySem.Spec PyProof.Rows L2 XV XL UU LamX NdefX GX GxR CC
def pgD (ps : Pgs) : PyData := .tuple (ps.map fun p => .tuple [.str p.1, p.2])
theorem pgSet_map (n : Str) (d : PyData) : ∀ ps : Pgs, pgSet ps n d = ps.map fun q => if q.1 = n then (q.1, d) else q
  | [] => rfl
  | (m, e) :: r => by
    unfold pgSet
    rw [List.map_cons, ← pgSet_map n d r]
    dsimp only
    by_cases h : m = n
    · rw [if_pos h, if_pos h]
    · rw [if_neg h, if_neg h]
theorem pgSet_keys (n : Str) (d : PyData) (ps : Pgs) : (pgSet ps n d).map (·.1) = ps.map (·.1) := by
  rw [pgSet_map, List.map_map]
  refine List.map_congr_left fun q _ => ?_
  show (if q.1 = n then (q.1, d) else q).1 = q.1
  by_cases h : q.1 = n
  · rw [if_pos h]
  · rw [if_neg h]
theorem pgSet_len (n : Str) (d : PyData) (ps : Pgs) : (pgSet ps n d).length = ps.length := by rw [pgSet_map, List.length_map]
theorem take_succ' {α : Type} {xs : List α} {i : Nat} {x : α} (h : xs[i]? = some x) : xs.take (i + 1) = xs.take i ++ [x] := by
  rw [List.take_add_one, h] <;> rfl
theorem Vd.pair {K : PySem.W.Frag} {H : Hp} {v : V} {n : Str} {d : PyData} (h : Vd K H v (.tuple [.str n, d])) : ∃ a u, v = .ref a ∧ SqT K H a [.str n, u] ∧ Vd K H u d := by
  obtain ⟨a, us, e, q, hd⟩ := h.untup
  cases hd with
  | cons h1 hd =>
    cases hd with
    | cons h2 hd =>
      cases hd with
      | nil =>
        have e1 := h1.dp
        cases e1
        exact ⟨a, _, e, q, h2⟩
/-- a wish -/
inductive Wi where
  | look (n : Str)
  | put (n : Str) (d : PyData)
  | bar
  | flu
def Wi.data : Wi → PyData
  | .look n => .tuple [.str "look", .str n]
  | .put n d => .tuple [.str "put", .str n, d]
  | .bar => .tuple [.str "barrier"]
  | .flu => .tuple [.str "flush"]
/-- a moment -/
structure Mo where
  pages : Pgs
  sync : Pgs
  eps : List Pgs
def Mo.after (m : Mo) : Wi → Mo
  | .look _ => m
  | .put n d => ⟨pgSet m.pages n d, m.sync, m.eps.dropLast ++ [m.eps.getLastD [] ++ [(n, d)]]⟩
  | .bar => ⟨m.pages, m.sync, m.eps ++ [[]]⟩
  | .flu => ⟨m.pages, m.pages, [[]]⟩
def epD (es : List Pgs) : PyData := .tuple (es.map pgD)
structure MoFew (m : Mo) (n : Nat) : Prop where
  pg : m.pages.length < 100000
  ne : m.eps ≠ []
  ep : m.eps.length ≤ n
  la : ∀ e ∈ m.eps, e.length ≤ n
theorem MoFew.after {m : Mo} {n : Nat} (h : MoFew m n) (hn : 1 ≤ n) (w : Wi) : MoFew (m.after w) (n + 1) := by
  have h1 := h.ep
  have h2 := h.la
  have h3 := h.ne
  cases w with
  | look _ => exact ⟨h.pg, h.ne, Nat.le_succ_of_le h1, fun e he => Nat.le_succ_of_le (h2 e he)⟩
  | put k d =>
    refine ⟨by show (pgSet m.pages k d).length < _; rw [pgSet_len]; exact h.pg, by show _ ++ [_] ≠ []; simp, ?_, fun e he => ?_⟩
    · show (m.eps.dropLast ++ [_]).length ≤ n + 1
      rw [List.length_append, List.length_dropLast, List.length_singleton]
      omega
    · rcases List.mem_append.mp (show e ∈ m.eps.dropLast ++ [_] from he) with z | z
      · exact Nat.le_succ_of_le (h2 e (List.dropLast_subset _ z))
      · rw [List.mem_singleton.mp z, List.length_append, List.length_singleton]
        have : m.eps.getLastD [] ∈ m.eps := by
          rw [List.getLastD_eq_getLast?, List.getLast?_eq_some_getLast h3]
          exact List.getLast_mem h3
        have := h2 _ this
        omega
  | bar =>
    refine ⟨h.pg, by show _ ++ [_] ≠ []; simp, ?_, fun e he => ?_⟩
    · show (m.eps ++ [_]).length ≤ n + 1
      rw [List.length_append, List.length_singleton]
      omega
    · rcases List.mem_append.mp (show e ∈ m.eps ++ [_] from he) with z | z
      · exact Nat.le_succ_of_le (h2 e z)
      · rw [List.mem_singleton.mp z]
        exact Nat.zero_le _
  | flu =>
    refine ⟨h.pg, by show [[]] ≠ []; simp, by show 1 ≤ n + 1; omega, fun e he => ?_⟩
    rw [List.mem_singleton.mp (show e ∈ [[]] from he)]
    exact Nat.zero_le _
abbrev mFs (pgv syv epv wav : V) : List (Str × V) := [("pages", pgv), ("synced", syv), ("epochs", epv), ("_ways", wav)]
/-- the moment m stands there -/
def MomAt (K : PySem.W.Frag) (C : Addr) (H : Hp) (a : Addr) (m : Mo) : Prop := ∃ dx pgv syv epv wav, H a = some (.ins C dx (mFs pgv syv epv wav)) ∧ Vd K H pgv (pgD m.pages) ∧ Vd K H syv (pgD m.sync) ∧ Vd K H epv (epD m.eps)
theorem MomAt.keep {K : PySem.W.Frag} {C : Addr} {fp : List Addr} {H H' : Hp} {a : Addr} {m : Mo} (h : MomAt K C H a m) (nt : NoT fp H) (hf : a ∉ fp) (k : Keep fp H H') : MomAt K C H' a m := by
  obtain ⟨dx, p, s, e, wv, q, h1, h2, h3⟩ := h
  exact ⟨dx, p, s, e, wv, k _ _ q hf (fun _ z => by cases z), h1.keep nt k, h2.keep nt k, h3.keep nt k⟩
theorem MomAt.ext {K : PySem.W.Frag} {C : Addr} {H H' : Hp} {a : Addr} {m : Mo} (h : MomAt K C H a m) (k : Keep [] H H') : MomAt K C H' a m := h.keep noT_nil (by simp) k
/-- the moment m stands there, its ways not yet told -/
def MomN (K : PySem.W.Frag) (C : Addr) (H : Hp) (a : Addr) (m : Mo) : Prop := ∃ dx pgv syv epv, H a = some (.ins C dx (mFs pgv syv epv .non)) ∧ Vd K H pgv (pgD m.pages) ∧ Vd K H syv (pgD m.sync) ∧ Vd K H epv (epD m.eps)
theorem MomN.keep {K : PySem.W.Frag} {C : Addr} {fp : List Addr} {H H' : Hp} {a : Addr} {m : Mo} (h : MomN K C H a m) (nt : NoT fp H) (hf : a ∉ fp) (k : Keep fp H H') : MomN K C H' a m := by
  obtain ⟨dx, p, s, e, q, h1, h2, h3⟩ := h
  exact ⟨dx, p, s, e, k _ _ q hf (fun _ z => by cases z), h1.keep nt k, h2.keep nt k, h3.keep nt k⟩
theorem MomN.ext {K : PySem.W.Frag} {C : Addr} {H H' : Hp} {a : Addr} {m : Mo} (h : MomN K C H a m) (k : Keep [] H H') : MomN K C H' a m := h.keep noT_nil (by simp) k
theorem MomN.at {K : PySem.W.Frag} {C : Addr} {H : Hp} {a : Addr} {m : Mo} (h : MomN K C H a m) : MomAt K C H a m := by
  obtain ⟨dx, p, s, e, q, h1, h2, h3⟩ := h
  exact ⟨dx, p, s, e, .non, q, h1, h2, h3⟩
theorem cutV_init {xs : List V} (h : xs ≠ []) : cutV xs none (some (-1)) = xs.dropLast ∧ ¬ (HT.sIx xs.length 0 none = 0 ∧ HT.sIx xs.length xs.length (some (-1)) = xs.length) := by
  have hl : 0 < xs.length := List.length_pos_iff.mpr h
  have e : HT.sIx xs.length xs.length (some (-1)) = xs.length - 1 := by
    show (if (-1 : Int) < 0 then ((-1 : Int) + (xs.length : Int)).toNat else min ((-1 : Int)).toNat xs.length) = _
    rw [if_pos (by decide)]
    omega
  refine ⟨?_, fun z => ?_⟩
  · unfold cutV
    rw [HT.sIx_none, e, List.drop_zero, Nat.sub_zero, List.dropLast_eq_take]
  · rw [e] at z
    omega
theorem atI_last {α : Type} {xs : List α} (h : xs ≠ []) : atI xs (-1) = xs.getLast? := by
  have hl : 0 < xs.length := List.length_pos_iff.mpr h
  unfold atI ixN
  rw [if_neg (by decide)]
  have : ¬ ((-1 : Int) + (xs.length : Int) < 0) := by omega
  rw [List.getLast?_eq_getElem?]
  first
    | (rw [if_pos (by omega)]; show xs[((-1 : Int) + (xs.length : Int)).toNat]? = _; congr 1; omega)
    | simp
theorem vds_last {K : PySem.W.Frag} {H : Hp} {vs : List V} {ds : List PyData} (h : Vds K H vs ds) (hne : ds ≠ []) : vs ≠ [] ∧ ∃ v d, vs.getLast? = some v ∧ ds.getLast? = some d ∧ Vd K H v d ∧ Vds K H vs.dropLast ds.dropLast := by
  induction h with
  | nil => exact absurd rfl hne
  | @cons a b as bs h t ih =>
    refine ⟨by simp, ?_⟩
    cases t with
    | nil => exact ⟨a, b, rfl, rfl, h, .nil⟩
    | @cons a' b' as' bs' h' t' =>
      obtain ⟨_, v, d, e1, e2, hv, hd⟩ := ih (by simp)
      refine ⟨v, d, by rw [List.getLast?_cons_cons]; exact e1, by rw [List.getLast?_cons_cons]; exact e2, hv, ?_⟩
      rw [List.dropLast_cons_cons, List.dropLast_cons_cons]
      exact .cons h hd
/-- the moments of a run: the first one, then one behind each wish -/
def momsFrom (sp fl : List V) : Nat → Mo → List Wi → List Mo
  | _, _, [] => []
  | i, m, w :: ws =>
    let m1 := if inV (.int (i : Nat)) sp then m else m.after w
    let m2 := if inV (.int (i : Nat)) fl then m1.after .flu else m1
    m2 :: momsFrom sp fl (i + 1) m2 ws
theorem momsFrom_cons (sp fl : List V) (i : Nat) (m : Mo) (w : Wi) (ws : List Wi) : momsFrom sp fl i m (w :: ws) =
    (if inV (.int (i : Nat)) fl then (if inV (.int (i : Nat)) sp then m else m.after w).after .flu else (if inV (.int (i : Nat)) sp then m else m.after w)) ::
      momsFrom sp fl (i + 1) (if inV (.int (i : Nat)) fl then (if inV (.int (i : Nat)) sp then m else m.after w).after .flu else (if inV (.int (i : Nat)) sp then m else m.after w)) ws := rfl
theorem momsFrom_len (sp fl : List V) : ∀ (ws : List Wi) (i : Nat) (m : Mo), (momsFrom sp fl i m ws).length = ws.length
  | [], _, _ => rfl
  | w :: ws, i, m => by
    unfold momsFrom
    rw [List.length_cons, List.length_cons, momsFrom_len sp fl ws]
end FW

/-! plans and runs as data -/
namespace FW
open PySem PySem.Spec PyProof.Rows L2 XV XL UU LamX NdefX GX GxR CC
theorem lamO_nt {f : Addr} {F : NF} {b : Expr} {ps : Array Value} : LamO f F b ≠ .tbl ps := fun z => by
  unfold LamO at z
  cases z
theorem ins_fs {C dx C' dx' : Addr} {fs fs' : List (Str × V)} (h : some (HO.ins C dx fs) = some (HO.ins C' dx' fs')) : fs = fs' := by
  injection h with h
  injection h
structure PLd where
  work : Addr
  mend : Addr
  torn : Addr
  longest : Int
  most : Int
  spa : Addr
  fla : Addr
  start : Addr
/-- the plan p stands at a -/
def PlanAt (C : Addr) (H : Hp) (a : Addr) (p : PLd) : Prop := ∃ dx, H a = some (.ins C dx [("work", .ref p.work), ("mend", .ref p.mend), ("torn", .ref p.torn), ("longest", .int p.longest), ("most", .int p.most), ("spared_steps", .ref p.spa), ("flush_places", .ref p.fla), ("_start", .ref p.start)])
theorem PlanAt.keep {C : Addr} {fp : List Addr} {H H' : Hp} {a : Addr} {p : PLd} (h : PlanAt C H a p) (hf : a ∉ fp) (k : Keep fp H H') : PlanAt C H' a p := by
  obtain ⟨dx, e⟩ := h
  exact ⟨dx, k _ _ e hf fun _ z => by cases z⟩
theorem PlanAt.ext {C : Addr} {H H' : Hp} {a : Addr} {p : PLd} (h : PlanAt C H a p) (k : Keep [] H H') : PlanAt C H' a p := h.keep (by simp) k
def stD (p : Wi × PyData) : PyData := .tuple [p.1.data, p.2]
def ntD (p : Nat × PyData) : PyData := .tuple [.int p.1, p.2]
structure RnD where
  steps : List (Wi × PyData)
  notes : List (Nat × PyData)
  fin : PyData
  ms : List Mo
/-- a run stands at a -/
def RunAt (K : PySem.W.Frag) (RC MC : Addr) (H : Hp) (a : Addr) (r : RnD) : Prop := ∃ (dx l nl mp : Addr) (ev tv : V) (sv nv : List V) (as : List Addr), H a = some (.ins RC dx [("_steps", .ref l), ("_notes", .ref nl), ("_end", ev), ("_moments", .ref mp), ("_torn", tv)]) ∧
  H l = some (.lst sv) ∧ Vds K H sv (r.steps.map stD) ∧ H nl = some (.lst nv) ∧ Vds K H nv (r.notes.map ntD) ∧ Vd K H ev r.fin ∧ H mp = some (.lst (as.map V.ref)) ∧ Paired (MomAt K MC H) as r.ms
theorem RunAt.ext {K : PySem.W.Frag} {RC MC : Addr} {H H' : Hp} {a : Addr} {r : RnD} (h : RunAt K RC MC H a r) (k : Keep [] H H') : RunAt K RC MC H' a r := by
  obtain ⟨dx, l, nl, mp, ev, tv, sv, nv, as, e1, e2, h2, e3, h3, h4, e5, h5⟩ := h
  have kk : ∀ {b o}, H b = some o → (∀ ps, o ≠ .tbl ps) → H' b = some o := fun q n => k _ _ q (by simp) n
  exact ⟨dx, l, nl, mp, ev, tv, sv, nv, as, kk e1 (fun _ z => by cases z), kk e2 (fun _ z => by cases z), h2.ext k, kk e3 (fun _ z => by cases z), h3.ext k, h4.ext k, kk e5 (fun _ z => by cases z), Paired.mapP h5 fun _ _ z => z.ext k⟩
/-- one object, one moment -/
def Fun2 (as : List Addr) (ms : List Mo) : Prop := ∀ (i j : Nat) (a : Addr) (m m' : Mo), as[i]? = some a → ms[i]? = some m → as[j]? = some a → ms[j]? = some m' → m = m'
theorem snoc_get {α : Type} {xs : List α} {x y : α} {i : Nat} (h : (xs ++ [x])[i]? = some y) : xs[i]? = some y ∨ (i = xs.length ∧ y = x) := by
  by_cases hi : i < xs.length
  · rw [List.getElem?_append_left hi] at h
    exact .inl h
  · rw [List.getElem?_append_right (by omega)] at h
    have hz : i - xs.length = 0 := by
      cases e : i - xs.length with
      | zero => rfl
      | succ n => rw [e] at h; simp at h
    rw [hz] at h
    exact .inr ⟨by omega, (Option.some.inj h).symm⟩
theorem get_lt {α : Type} {xs : List α} {i : Nat} {y : α} (h : xs[i]? = some y) : i < xs.length := (List.getElem?_eq_some_iff.mp h).1
theorem Fun2.push {as : List Addr} {ms : List Mo} {a : Addr} {m : Mo} (h : Fun2 as ms) (hl : as.length = ms.length) (u : ∀ (i : Nat) (m' : Mo), as[i]? = some a → ms[i]? = some m' → m' = m) : Fun2 (as ++ [a]) (ms ++ [m]) := by
  intro i j b k k' h1 h2 h3 h4
  rcases snoc_get h1 with g1 | ⟨e1, f1⟩
  · rcases snoc_get h2 with g2 | ⟨e2, f2⟩
    · rcases snoc_get h3 with g3 | ⟨e3, f3⟩
      · rcases snoc_get h4 with g4 | ⟨e4, f4⟩
        · exact h i j b k k' g1 g2 g3 g4
        · have := get_lt g3; omega
      · rcases snoc_get h4 with g4 | ⟨e4, f4⟩
        · have := get_lt g4; omega
        · subst f3
          rw [f4]
          exact u i k g1 g2
    · have := get_lt g1; omega
  · rcases snoc_get h2 with g2 | ⟨e2, f2⟩
    · have := get_lt g2; omega
    · subst f1
      rcases snoc_get h3 with g3 | ⟨e3, f3⟩
      · rcases snoc_get h4 with g4 | ⟨e4, f4⟩
        · rw [f2]
          exact (u j k' g3 g4).symm
        · have := get_lt g3; omega
      · rcases snoc_get h4 with g4 | ⟨e4, f4⟩
        · have := get_lt g4; omega
        · rw [f2, f4]
theorem upush {as : List Addr} {ms : List Mo} {a : Addr} {m : Mo} (hl : as.length = ms.length) (u : ∀ (i : Nat) (m' : Mo), as[i]? = some a → ms[i]? = some m' → m' = m) : ∀ (i : Nat) (m' : Mo), (as ++ [a])[i]? = some a → (ms ++ [m])[i]? = some m' → m' = m := by
  intro i m' h1 h2
  rcases snoc_get h2 with g2 | ⟨e2, f2⟩
  · rcases snoc_get h1 with g1 | ⟨e1, f1⟩
    · exact u i m' g1 g2
    · have := get_lt g2; omega
  · exact f2
/-- .. with the tuple of its torn pages -/
def RunAtT (K : PySem.W.Frag) (RC MC : Addr) (H : Hp) (a : Addr) (r : RnD) (ta : Addr) : Prop := ∃ (dx l nl mp : Addr) (ev : V) (sv nv : List V) (as : List Addr), H a = some (.ins RC dx [("_steps", .ref l), ("_notes", .ref nl), ("_end", ev), ("_moments", .ref mp), ("_torn", .ref ta)]) ∧
  H l = some (.lst sv) ∧ Vds K H sv (r.steps.map stD) ∧ H nl = some (.lst nv) ∧ Vds K H nv (r.notes.map ntD) ∧ Vd K H ev r.fin ∧ H mp = some (.lst (as.map V.ref)) ∧ Paired (MomN K MC H) as r.ms ∧ Fun2 as r.ms
theorem RunAtT.at {K : PySem.W.Frag} {RC MC : Addr} {H : Hp} {a : Addr} {r : RnD} {ta : Addr} (h : RunAtT K RC MC H a r ta) : RunAt K RC MC H a r := by
  obtain ⟨dx, l, nl, mp, ev, sv, nv, as, e1, e2, h2, e3, h3, h4, e5, h5, _⟩ := h
  exact ⟨dx, l, nl, mp, ev, .ref ta, sv, nv, as, e1, e2, h2, e3, h3, h4, e5, Paired.mapP h5 fun _ _ z => z.at⟩
theorem RunAtT.ext {K : PySem.W.Frag} {RC MC : Addr} {H H' : Hp} {a : Addr} {r : RnD} {ta : Addr} (h : RunAtT K RC MC H a r ta) (k : Keep [] H H') : RunAtT K RC MC H' a r ta := by
  obtain ⟨dx, l, nl, mp, ev, sv, nv, as, e1, e2, h2, e3, h3, h4, e5, h5, h6⟩ := h
  have kk : ∀ {b : Addr} {o : HO}, H b = some o → (∀ ps, o ≠ .tbl ps) → H' b = some o := fun e n => k _ _ e (by simp) n
  exact ⟨dx, l, nl, mp, ev, sv, nv, as, kk e1 (fun _ z => by cases z), kk e2 (fun _ z => by cases z), h2.ext k, kk e3 (fun _ z => by cases z), h3.ext k, h4.ext k, kk e5 (fun _ z => by cases z), Paired.mapP h5 (fun _ _ z => z.ext k), h6⟩
/-- what was said by k steps -/
def saidBy (ns : List (Nat × PyData)) (k : Int) : List PyData := (ns.filter fun p => decide ((p.1 : Int) ≤ k)).map (·.2)
theorem filter_take {α : Type} {xs : List α} {i : Nat} {x : α} {q : α → Bool} (h : xs[i]? = some x) : (xs.take (i + 1)).filter q = (xs.take i).filter q ++ (if q x = true then [x] else []) := by
  rw [take_succ' h, List.filter_append]
  congr 1
  rw [List.filter_cons, List.filter_nil]
theorem Vd.note {K : PySem.W.Frag} {H : Hp} {v : V} {n : Nat} {d : PyData} (h : Vd K H v (.tuple [.int n, d])) : ∃ a u, v = .ref a ∧ SqT K H a [.int n, u] ∧ Vd K H u d := by
  obtain ⟨a, us, e, q, hd⟩ := h.untup
  cases hd with
  | cons h1 hd =>
    cases hd with
    | cons h2 hd =>
      cases hd with
      | nil =>
        have e1 := h1.dp
        cases e1
        exact ⟨a, _, e, q, h2⟩
end FW

/-! sorted of a tuple of texts; instances made with keywords -/
namespace CC
open PySem PySem.Spec PyProof.Rows L2 XV XL UU
section
variable {X : Cx}
theorem cr_sortedST : CallR X (.builtin "sorted") (fun vs H Q => ∃ (a : Addr) (xs : List Str), vs = [V.ref a] ∧ (SqL X.K H a (xs.map V.str) ∨ SqT X.K H a (xs.map V.str)) ∧ xs.length < 64 ∧
    ∀ (ys : List Str) (p : Addr), ys.Perm xs → sortedS ys = true → H p = none → Q (.ref p) (upd H p (.lst (ys.map V.str)))) := by
  intro pins s σ H vs us Q I r h
  obtain ⟨a, xs, rfl, hs, h64, q⟩ := h
  obtain ⟨T, its, rv, hT, o, n, ho, hc, hd⟩ : ∃ (T : String) (its : List Value), Vals (xs.map V.str) its ∧ (T = "list" ∨ T = "tuple") ∧ ∃ (o : Obj) (n : Nat), s.heap.get? a = some o ∧ o.cls = .type T ∧ o.data = .seq its.toArray n := by
    rcases hs with hs | hs
    · obtain ⟨its, rv, pl, _⟩ := I.list hs
      obtain ⟨o, ho, hc, n, hd⟩ := pl.isList
      exact ⟨"list", its, rv, .inl rfl, o, n, ho, hc, hd⟩
    · obtain ⟨its, rv, pl, _⟩ := I.tuple hs
      obtain ⟨o, ho, hc, n, hd⟩ := pl
      exact ⟨"tuple", its, rv, .inr rfl, o, n, ho, hc, hd⟩
  rw [Vals.ref1 r]
  have hlen0 := rv.length
  rw [List.length_map] at hlen0
  have hS := rv.strs
  refine Calls.call_function_entry PyProof.Rows.kind_sorted PyProof.Rows.plain_sorted PyProof.Rows.entry_sorted (PyProof.Rows.args_sorted1 _) ?_
  unfold Builtin.«sorted»
  refine wpAny_bind (m := checkCount "sorted" 1 1 _) (wpAny_pure ?_)
  refine wpAny_bind (wpAny_collect_seq a hT ho hc hd (fun h' hk => ?_) (by rw [List.size_toArray, ← hlen0]; exact Nat.le_trans (Nat.le_of_lt h64) (by decide)))
  have I1 : Inv X pins σ H { s with heap := h' } := I.kept (t' := s.toks) hk
  show wpAny _ _ _ _ _ _
  rw [show its.toArray.toList = its by simp]
  refine wpAny_bind (wpAny_newList ?_ (by rw [← hlen0]; exact Nat.le_trans (Nat.le_of_lt h64) (by decide)))
  have hoL : (h'.push (seqObj "list" its.toArray 0)).get? h'.objs.size = some (seqObj "list" its.toArray 0) := Heap.get?_push_size _ rfl
  show wpAny _ _ _ _ _ { s with heap := h'.push (seqObj "list" its.toArray 0) }
  refine wpAny_bind (wpAny_holding (wpAny_call_entry PyProof.Rows.slot_list_sort ⟨_, hoL, rfl⟩ PyProof.Rows.entry_list_sort
    (list_sort_treeK strKind_oneLt (s := { s with heap := h'.push (seqObj "list" its.toArray 0) }) hoL hS.keysOf (fun v₁ v₂ rest e => keyKind_strs (by rw [← e]; exact hS)) (by rw [← hlen0]; exact h64) fun st' hp hs => ⟨_, rfl, ?_⟩)
    (PyProof.Rows.args_list_sort _)))
  obtain ⟨ys, g1, g2, g3⟩ := sorted_out_str hS hp hs
  obtain ⟨e', he'⟩ := PyProof.Rows.sortedHeap_at (vs := its) (out := (arrOf st').map (·.2)) hoL
  have hlen : (ys.map V.str).length ≤ sizeLine := by
    rw [List.length_map, g2.length_eq]
    exact Nat.le_trans (Nat.le_of_lt h64) (by decide)
  refine wpAny_pure ⟨_, rfl, .ref h'.objs.size, upd H h'.objs.size (.lst (ys.map V.str)), I1.laid (t' := s.toks) (fun b u e => ?_) (Nat.le_refl _)
    (show ObjOk X.prog X.w _ _ _ (.lst (ys.map V.str)) from ⟨hlen, ((arrOf st').map (·.2)).toList, e', vals_of_strs g1, by rw [Array.toArray_toList]; exact he'⟩), rfl, q ys _ g2 g3 (I1.hok.fresh (Nat.le_refl _))⟩
  have hb : b < h'.objs.size := Heap.lt_size e
  rw [PyProof.Rows.sortedHeap_old (Nat.ne_of_lt hb) (by rw [size_push']; exact Nat.lt_succ_of_lt hb)]
  exact Heap.get?_push_of_some _ e
/-- either way to go through it -/
theorem pi_or {tg e : Expr} {w1 w2 : TI} (h1 : PI X tg e w1) (h2 : PI X tg e w2) : PI X tg e (fun σ H R => w1 σ H R ∨ w2 σ H R) := ⟨fun pins s σ H R I h => h.elim (h1.run pins s σ H R I) (h2.run pins s σ H R I)⟩
end
section
variable {P : Program} {w : World} {K : PySem.W.Frag} {mg : Str → Option Value} {base : Heap} {x qual : Str} {params : Arguments} {body : List Stmt} {scope : Scope} {f c : Addr} {fd : FuncData} {ps ks : List Str} {dvs : List V} {kws : List (Str × V)}
/-- a def with defaults whose code object is known -/
theorem okD {CX : CXT} {N : List Str} {k : Nat} {sp : Sp} (F : FunD K x qual params body scope dvs kws f fd) (hc : fd.code = .ref c) (S : FnScope N ps scope) (len : ∀ vs H Q E, sp vs H Q E → vs.length = ps.length)
    (hbody : ∀ (A : Around) (outer : List Env) (s : Shared) (H : Hp) (vs : List V) (Q : VK) (E : XK), Room k (A.deeper (envOfC qual scope s.heap.objs.size f (.ref c))) → sp vs H Q E →
      ∃ t, PSs (cxOf CX P w K mg base N qual scope f (.ref c) A outer s H E) body t ∧ t { nx := fun _ H' => Q .non H', rt := Q } (start N vs) H) : FnOk P w K mg base CX (k + 1) f fd ps sp := by
  obtain ⟨oc, od, dV, kV, doc, pm, an, cdv, ct, osl, rfl, lk, hcd, _, _⟩ := F.ex
  have e : cdv = .ref c := hc
  subst e
  exact fn_of lk hcd S len fun A outer s H vs Q E hr hsp => hbody A outer s H vs Q E hr hsp
end
end CC
namespace FW
open PySem PySem.Spec PyProof.Rows L2 XV XL UU LamX NdefX GX GxR CC
/-- a thing was locked for a while -/
theorem lock_stp {G : Tb} {H H' : Hp} {d : Addr} {u : HO} {od : Obj} (hd : H d = some u) (nu : NoTC u) (S : Stp G [] (upd H d (.frz od u)) H') (e : H' d = some (.frz od u)) : Stp G [] H (upd H' d u) := by
  refine ⟨fun b o q hb n => ?_, S.t.put e ⟨(fun _ z => by cases z), (fun _ z => by cases z)⟩⟩
  by_cases h : b = d
  · subst h
    rw [hd] at q
    cases q
    exact upd_same
  · rw [upd_ne h]
    exact S.k b o (by rw [upd_ne h]; exact q) hb n
theorem lock_tbs {G : Tb} {H : Hp} {d : Addr} {u : HO} {od : Obj} (t : Tbs G H) (hd : H d = some u) (nu : NoTC u) : Tbs G (upd H d (.frz od u)) := t.put hd nu
/-- a data dict locked: values stay -/
theorem lock_kv {K : PySem.W.Frag} {H : Hp} {d : Addr} {u : HO} {od : Obj} (hd : H d = some u) (n1 : ∀ xs, u ≠ .tup xs) (n2 : ∀ o v, u ≠ .frz o v) {kvs : List (Key × V)} {ps : Pgs} (h : KvD K H kvs ps) : KvD K (upd H d (.frz od u)) kvs ps :=
  h.keep (fp := [d]) (fun b hb => by
    rw [List.mem_singleton.mp hb, hd]
    exact ⟨(fun xs z => n1 xs (Option.some.inj z)), fun o v z => n2 o v (Option.some.inj z)⟩) (.put (by simp))
def leS (i j : Str) : Bool := !decide (j.cps.toList < i.cps.toList)
def chS (c : Nat) : Str := ⟨#[c]⟩
/-- a word: one to eight small letters -/
def wordB (n : Str) : Bool := decide (1 ≤ n.length) && decide (n.length ≤ 8) && n.cps.toList.all fun c => leS "a" ⟨#[c]⟩ && leS ⟨#[c]⟩ "z"
end FW

/-! steps with the heap behind them named -/
namespace FW
open PySem PySem.Spec PyProof.Rows L2 XV XL UU LamX NdefX GX GxR CC
section
variable {G : Tb} {H : Hp} {Q : Hp → Prop}
/-- a field of an object is written -/
theorem stepW {r C dx : Addr} {fs : List (Str × V)} {f : Str} {v : V} (t : Tbs G H) (e : H r = some (.ins C dx fs)) (k : ∀ H', Stp G [r] H H' → H' r = some (.ins C dx (putF f v fs)) → Q H') : Q (upd H r (.ins C dx (putF f v fs))) :=
  k _ (.put t (by simp) e notc_ins) upd_same
/-- a new object -/
theorem stepN {p : Addr} {o : HO} (t : Tbs G H) (n : H p = none) (k : ∀ H', Stp G [] H H' → H' p = some o → Q H') : Q (upd H p o) := k _ (.new t n) upd_same
/-- a new instance and its dict -/
theorem stepI {x dx C : Addr} (t : Tbs G H) (hx : H x = none) (hdx : H dx = none) (hne : dx ≠ x) (k : ∀ H', Stp G [] H H' → H' x = some (.ins C dx []) → H' dx = some (.own x) → Q H') : Q (upd (upd H dx (.own x)) x (.ins C dx [])) :=
  k _ ((Stp.new t hdx).snew (by rw [upd_ne (Ne.symm hne)]; exact hx)) upd_same (by rw [upd_ne hne]; exact upd_same)
/-- a list grows -/
theorem stepL {l : Addr} {xs ys : List V} {fp : List Addr} (t : Tbs G H) (hl : l ∈ fp) (e : H l = some (.lst xs)) (k : ∀ H', Stp G fp H H' → H' l = some (.lst ys) → Q H') : Q (upd H l (.lst ys)) := k _ (.put t hl e notc_lst) upd_same
end
theorem noT_ins {H : Hp} {r C dx : Addr} {fs : List (Str × V)} (e : H r = some (.ins C dx fs)) : NoT [r] H := fun b hb => by
  rw [List.mem_singleton.mp hb, e]
  exact ⟨(fun _ z => by cases z), fun _ _ z => by cases z⟩
theorem noT_lst {H : Hp} {r : Addr} {xs : List V} (e : H r = some (.lst xs)) : NoT [r] H := fun b hb => by
  rw [List.mem_singleton.mp hb, e]
  exact ⟨(fun _ z => by cases z), fun _ _ z => by cases z⟩
/-- pages by sorted names -/
structure SortedOf (ps sps : Pgs) : Prop where
  get : ∀ n, pgGet sps n = pgGet ps n
  perm : (sps.map (·.1)).Perm (ps.map (·.1))
  srt : sortedS (sps.map (·.1)) = true
theorem pgGet_none {n : Str} : ∀ {ps : Pgs}, n ∉ ps.map (·.1) → pgGet ps n = none
  | [], _ => rfl
  | q :: r, h => by
    rw [List.map_cons, List.mem_cons, not_or] at h
    unfold pgGet
    rw [List.lookup_cons, show (n == q.1) = false by simpa using h.1]
    exact pgGet_none h.2
theorem pgGet_map {g : Str → PyData} {n : Str} : ∀ {ys : List Str}, n ∈ ys → pgGet (ys.map fun y => (y, g y)) n = some (g n)
  | y :: ys, h => by
    unfold pgGet
    rw [List.map_cons, List.lookup_cons]
    by_cases e : n = y
    · subst e
      simp
    · rw [show (n == y) = false by simpa using e]
      exact pgGet_map ((List.mem_cons.mp h).resolve_left e)
theorem sorted_of {ps : Pgs} {ys : List Str} (nd : (ps.map (·.1)).Nodup) (hp : ys.Perm (ps.map (·.1))) (hs : sortedS ys = true) : SortedOf ps (ys.map fun y => (y, (pgGet ps y).getD .none)) := by
  have hk : (ys.map fun y => (y, (pgGet ps y).getD PyData.none)).map (·.1) = ys := by
    rw [List.map_map]
    exact (List.map_congr_left fun y _ => rfl).trans (List.map_id ys)
  refine ⟨fun n => ?_, by rw [hk]; exact hp, by rw [hk]; exact hs⟩
  by_cases h : n ∈ ps.map (·.1)
  · rw [pgGet_map (g := fun y => (pgGet ps y).getD .none) (hp.mem_iff.mpr h)]
    obtain ⟨p, hp1, rfl⟩ := List.mem_map.mp h
    have e : (ps.map (·.1)).Nodup := nd
    cases q : pgGet ps p.1 with
    | some d => rfl
    | none =>
      exfalso
      clear hp hs hk nd
      induction ps with
      | nil => cases hp1
      | cons a r ih =>
        unfold pgGet at q
        rw [List.lookup_cons] at q
        by_cases ee : p.1 = a.1
        · rw [ee] at q; simp at q
        · rw [show (p.1 == a.1) = false by simpa using ee] at q
          rcases List.mem_cons.mp hp1 with rfl | hp2
          · exact ee rfl
          · rw [List.map_cons, List.nodup_cons] at e
            exact ih hp2 (List.mem_map_of_mem hp2) e.2 q
  · rw [pgGet_none h, pgGet_none (by rw [hk]; exact fun z => h (hp.mem_iff.mp z))]
end FW


/-! rows that a function goes through -/
namespace FW
open PySem PySem.Spec PyProof.Rows L2 XV XL UU LamX NdefX GX GxR CC
/-- a value of scalars, or a tuple of scalars -/
structure Flat (d : PyData) : Prop where
  val : isVal d = true
  sml : Sml 4 d
theorem flat_int (i : Int) : Flat (.int i) := ⟨rfl, True.intro⟩
theorem flat_none : Flat .none := ⟨rfl, True.intro⟩
theorem flat_bool (b : Bool) : Flat (.bool b) := ⟨rfl, True.intro⟩
theorem flat_str (b : Str) : Flat (.str b) := ⟨rfl, True.intro⟩
theorem sml_up {n : Nat} {d : PyData} (h : Sml n d) : Sml (n + 1) d := by
  induction n generalizing d with
  | zero => cases d <;> first | exact True.intro | exact h.elim
  | succ n ih =>
    cases d with
    | list ds => exact ⟨h.1, fun e he => ih (h.2 e he)⟩
    | tuple ds => exact ⟨h.1, fun e he => ih (h.2 e he)⟩
    | _ => exact True.intro
/-- what was noted, by a number -/
abbrev Nts := List (Int × PyData)
def ntGet (ns : Nts) (k : Int) : PyData := (ns.lookup k).getD (.int 0)
def ntSet (ns : Nts) (k : Int) (d : PyData) : Nts := if (ns.any fun p => decide (p.1 = k)) = true then ns.map (fun p => if p.1 = k then (p.1, d) else p) else ns ++ [(k, d)]
def NtD (K : PySem.W.Frag) (H : Hp) : List (Key × V) → Nts → Prop := Paired fun p q => p.1 = .inl q.1 ∧ Vd K H p.2 q.2
theorem NtD.keep {K : PySem.W.Frag} {fp : List Addr} {H H' : Hp} {kvs : List (Key × V)} {ps : Nts} (nt : NoT fp H) (e : Keep fp H H') (h : NtD K H kvs ps) : NtD K H' kvs ps := Paired.mapP h fun _ _ z => ⟨z.1, z.2.keep nt e⟩
theorem NtD.len {K : PySem.W.Frag} {H : Hp} {kvs : List (Key × V)} {ps : Nts} (h : NtD K H kvs ps) : kvs.length = ps.length := Paired.length h
theorem ntD_get {K : PySem.W.Frag} {H : Hp} {n : Int} : ∀ {kvs : List (Key × V)} {ps : Nts}, NtD K H kvs ps → Vd K H ((valV kvs (.inl n)).getD (.int 0)) (ntGet ps n)
  | _, _, .nil => ⟨.int _, rfl⟩
  | _, _, .cons (a := p) (b := q) h t => by
    obtain ⟨k, v⟩ := p
    obtain ⟨m, d⟩ := q
    obtain ⟨h1, h2⟩ := h
    dsimp only at h1 h2
    subst h1
    unfold ntGet
    rw [List.lookup_cons]
    by_cases e : n = m
    · subst e
      rw [valV_pos rfl]
      simpa using h2
    · rw [valV_neg (fun z => e (Sum.inl.inj z).symm), show (n == m) = false by simpa using e]
      exact ntD_get t
theorem ntD_any {K : PySem.W.Frag} {H : Hp} {n : Int} : ∀ {kvs : List (Key × V)} {ps : Nts}, NtD K H kvs ps → (kvs.any fun kv => decide (kv.1 = .inl n)) = (ps.any fun p => decide (p.1 = n))
  | _, _, .nil => rfl
  | _, _, .cons (a := p) (b := q) h t => by
    rw [List.any_cons, List.any_cons, ntD_any t, h.1]
    congr 1
    by_cases e : q.1 = n
    · rw [decide_eq_true e, decide_eq_true (by rw [e])]
    · rw [decide_eq_false e, decide_eq_false (fun z => e (Sum.inl.inj z))]
theorem ntD_map {K : PySem.W.Frag} {H : Hp} {n : Int} {v : V} {d : PyData} (hv : Vd K H v d) : ∀ {kvs : List (Key × V)} {ps : Nts}, NtD K H kvs ps → NtD K H (kvs.map fun kv => if kv.1 = .inl n then (kv.1, v) else kv) (ps.map fun p => if p.1 = n then (p.1, d) else p)
  | _, _, .nil => .nil
  | _, _, .cons (a := p) (b := q) h t => by
    obtain ⟨k, u⟩ := p
    obtain ⟨m, e⟩ := q
    obtain ⟨h1, h2⟩ := h
    dsimp only at h1 h2
    subst h1
    rw [List.map_cons, List.map_cons]
    dsimp only
    by_cases hm : m = n
    · subst hm
      rw [if_pos rfl, if_pos rfl]
      exact .cons ⟨rfl, hv⟩ (ntD_map hv t)
    · rw [if_neg fun z => hm (Sum.inl.inj z), if_neg hm]
      exact .cons ⟨rfl, h2⟩ (ntD_map hv t)
theorem ntD_put {K : PySem.W.Frag} {H : Hp} {n : Int} {v : V} {d : PyData} {kvs : List (Key × V)} {ps : Nts} (hv : Vd K H v d) (h : NtD K H kvs ps) : NtD K H (putK kvs (.inl n) v) (ntSet ps n d) := by
  unfold putK ntSet
  rw [ntD_any h]
  by_cases e : (ps.any fun p => decide (p.1 = n)) = true
  · rw [if_pos e, if_pos e]
    exact ntD_map hv h
  · rw [if_neg e, if_neg e]
    exact Paired.app h (.cons ⟨rfl, hv⟩ .nil)
theorem ntSet_len (ns : Nts) (k : Int) (d : PyData) : (ntSet ns k d).length ≤ ns.length + 1 := by
  unfold ntSet
  split
  · rw [List.length_map]; omega
  · rw [List.length_append, List.length_singleton]; omega
/-- an expression of a row -/
inductive Part where
  | value (d : PyData)
  | note (n : Int)
  | plus
def Part.data : Part → PyData
  | .value d => .tuple [.str "value", d]
  | .note n => .tuple [.str "note", .int n]
  | .plus => .tuple [.str "plus", .int 0, .int 1]
def plus1 : PyData → PyData
  | .int i => .int (i + 1)
  | d => d
def Part.val (ns : Nts) : Part → PyData
  | .value d => d
  | .note n => ntGet ns n
  | .plus => plus1 (ntGet ns 0)
inductive RowD where
  | skip (n : Int) (d : PyData) (k : Nat)
  | say (p : Part)
  | put (nm : Str) (p : Part)
  | look (nm : Str) (n : Int)
  | bar
  | flu
  | fail (p : Part)
  | back (p : Part)
def RowD.data : RowD → PyData
  | .skip n d k => .tuple [.str "skip", .int n, d, .int (k : Nat)]
  | .say p => .tuple [.str "say", p.data]
  | .put nm p => .tuple [.str "put", .str nm, .tuple [p.data], .int 9]
  | .look nm n => .tuple [.str "look", .str nm, .tuple [], .int n]
  | .bar => .tuple [.str "barrier", .none, .tuple [], .int 9]
  | .flu => .tuple [.str "flush", .none, .tuple [], .int 9]
  | .fail p => .tuple [.str "fail", p.data]
  | .back p => .tuple [.str "back", p.data]
def Part.flat : Part → Prop
  | .value d => Flat d
  | _ => True
/-- a row over the names ks -/
def RowD.ok (ks : List Str) : RowD → Prop
  | .skip _ d _ => Flat d
  | .say p => p.flat
  | .put nm p => nm ∈ ks ∧ p.flat
  | .look nm _ => nm ∈ ks
  | .bar => True
  | .flu => True
  | .fail p => p.flat
  | .back p => p.flat
/-- what a run has done -/
structure ES where
  pages : Pgs
  steps : List (Wi × PyData)
  said : List (Nat × PyData)
def ES.ans (es : ES) : Wi → PyData
  | .look n => (pgGet es.pages n).getD .none
  | _ => .none
def ES.go (es : ES) (w : Wi) : ES := ⟨match w with | .put n d => pgSet es.pages n d | _ => es.pages, es.steps ++ [(w, es.ans w)], es.said⟩
def ES.say (es : ES) (d : PyData) : ES := ⟨es.pages, es.steps, es.said ++ [(es.steps.length, d)]⟩
open Classical in
/-- rows gone through: what was done, whether it has told, and what -/
noncomputable def execR : List RowD → Nts → ES → ES × Bool × PyData
  | [], _, es => (es, true, .none)
  | .skip n d k :: rs, ns, es => if ntGet ns n = d then execR (rs.drop k) ns es else execR rs ns es
  | .say p :: rs, ns, es => execR rs ns (es.say (p.val ns))
  | .put nm p :: rs, ns, es => execR rs (ntSet ns 9 (es.ans (.put nm (p.val ns)))) (es.go (.put nm (p.val ns)))
  | .look nm n :: rs, ns, es => execR rs (ntSet ns n (es.ans (.look nm))) (es.go (.look nm))
  | .bar :: rs, ns, es => execR rs (ntSet ns 9 (es.ans .bar)) (es.go .bar)
  | .flu :: rs, ns, es => execR rs (ntSet ns 9 (es.ans .flu)) (es.go .flu)
  | .fail p :: _, ns, es => (es, false, p.val ns)
  | .back p :: _, ns, es => (es, true, p.val ns)
termination_by rs => rs.length
decreasing_by
  all_goals simp_wf
  all_goals (try rw [List.length_drop])
  all_goals omega
/-- nothing but what the pages hold counts -/
structure ESim (a b : ES) : Prop where
  pg : ∀ n, pgGet a.pages n = pgGet b.pages n
  st : a.steps = b.steps
  sd : a.said = b.said
theorem pgGet_set (ps : Pgs) (n m : Str) (d : PyData) : pgGet (pgSet ps n d) m = if m = n then (pgGet ps m).map (fun _ => d) else pgGet ps m := by
  induction ps with
  | nil =>
    show Option.none = _
    by_cases e : m = n
    · rw [if_pos e] <;> rfl
    · rw [if_neg e] <;> rfl
  | cons q r ih =>
    obtain ⟨k, x⟩ := q
    unfold pgSet
    by_cases hk : k = n
    · rw [if_pos hk]
      unfold pgGet at *
      rw [List.lookup_cons, List.lookup_cons]
      by_cases e : m = k
      · rw [show (m == k) = true by simpa using e]
        rw [if_pos (e.trans hk)] <;> rfl
      · rw [show (m == k) = false by simpa using e]
        exact ih
    · rw [if_neg hk]
      unfold pgGet at *
      rw [List.lookup_cons, List.lookup_cons]
      by_cases e : m = k
      · rw [show (m == k) = true by simpa using e]
        rw [if_neg (fun z => hk (e.symm.trans z))]
      · rw [show (m == k) = false by simpa using e]
        exact ih
theorem ESim.ans {a b : ES} (h : ESim a b) (w : Wi) : a.ans w = b.ans w := by
  cases w with
  | look n => show (pgGet a.pages n).getD .none = _; rw [h.pg] <;> rfl
  | _ => rfl
theorem ESim.go {a b : ES} (h : ESim a b) (w : Wi) : ESim (a.go w) (b.go w) := by
  refine ⟨fun m => ?_, ?_, h.sd⟩
  · cases w with
    | put n d =>
      show pgGet (pgSet a.pages n d) m = pgGet (pgSet b.pages n d) m
      rw [pgGet_set, pgGet_set, h.pg]
    | _ => exact h.pg m
  · show a.steps ++ [(w, a.ans w)] = b.steps ++ [(w, b.ans w)]
    rw [h.st, h.ans]
theorem ESim.say {a b : ES} (h : ESim a b) (d : PyData) : ESim (a.say d) (b.say d) := by
  refine ⟨h.pg, h.st, ?_⟩
  show a.said ++ [(a.steps.length, d)] = b.said ++ [(b.steps.length, d)]
  rw [h.st, h.sd]
theorem exec_sim : ∀ (n : Nat) (rs : List RowD) (ns : Nts) (a b : ES), rs.length ≤ n → ESim a b → ESim (execR rs ns a).1 (execR rs ns b).1 ∧ (execR rs ns a).2 = (execR rs ns b).2 := by
  intro n
  induction n with
  | zero =>
    intro rs ns a b hn h
    obtain rfl : rs = [] := List.length_eq_zero_iff.mp (by omega)
    rw [execR, execR]
    exact ⟨h, rfl⟩
  | succ n ih =>
    intro rs ns a b hn h
    cases rs with
    | nil =>
      rw [execR, execR]
      exact ⟨h, rfl⟩
    | cons r rs =>
      have hn' : rs.length ≤ n := by rw [List.length_cons] at hn; omega
      cases r with
      | skip m d k =>
        rw [execR, execR]
        by_cases e : ntGet ns m = d
        · rw [if_pos e, if_pos e]
          exact ih _ ns a b (by rw [List.length_drop]; omega) h
        · rw [if_neg e, if_neg e]
          exact ih _ ns a b hn' h
      | say p => rw [execR, execR]; exact ih _ _ _ _ hn' (h.say _)
      | put nm p => rw [execR, execR, h.ans]; exact ih _ _ _ _ hn' (h.go _)
      | look nm m => rw [execR, execR, h.ans]; exact ih _ _ _ _ hn' (h.go _)
      | bar => rw [execR, execR, h.ans]; exact ih _ _ _ _ hn' (h.go _)
      | flu => rw [execR, execR, h.ans]; exact ih _ _ _ _ hn' (h.go _)
      | fail p => rw [execR, execR]; exact ⟨h, rfl⟩
      | back p => rw [execR, execR]; exact ⟨h, rfl⟩
end FW

namespace FW
open PySem PySem.Spec PyProof.Rows L2 XV XL UU LamX NdefX GX GxR CC
/-- a hand of what was done -/
def hsOf (L : Int) (es : ES) : HS := ⟨es.pages, L, es.steps.map stD, es.said.map ntD, .none, false⟩
theorem hs_go (L : Int) (es : ES) (n : Str) (d d0 : PyData) (hg : pgGet es.pages n = some d0) : (hsOf L es).look n = hsOf L (es.go (.look n)) ∧ (hsOf L es).put n d = hsOf L (es.go (.put n d)) := by
  refine ⟨?_, ?_⟩
  · unfold hsOf HS.look ES.go
    simp [stD, Wi.data, ES.ans]
  · unfold hsOf HS.put ES.go
    simp [stD, Wi.data, ES.ans]
theorem hs_bar (L : Int) (es : ES) : (hsOf L es).barrier = hsOf L (es.go .bar) := by
  unfold hsOf HS.barrier ES.go
  simp [stD, Wi.data, ES.ans]
theorem hs_flu (L : Int) (es : ES) : (hsOf L es).flush = hsOf L (es.go .flu) := by
  unfold hsOf HS.flush ES.go
  simp [stD, Wi.data, ES.ans]
theorem hs_say (L : Int) (es : ES) (d : PyData) : (hsOf L es).say d = hsOf L (es.say d) := by
  unfold hsOf HS.say ES.say
  simp [ntD]
theorem HandAt.keepF {K : PySem.W.Frag} {C : Addr} {fp : List Addr} {H H' : Hp} {A : HA} {st : HS} (h : HandAt K C H A st) (hf : ∀ b ∈ A.fp, b ∉ fp) (hx : A.dx ∉ fp) (nt : NoT fp H) (e : Keep fp H H') : HandAt K C H' A st := by
  obtain ⟨kvs, sv, nv, fv, e1, e2, k, e3, s, e4, n, f⟩ := h.ex
  have kk : ∀ (b : Addr) (o : HO), b ∈ A.fp → H b = Option.some o → (∀ ps, o ≠ HO.tbl ps) → H' b = Option.some o := fun b o hb q n => e b o q (hf b hb) n
  exact ⟨⟨kvs, sv, nv, fv, kk _ _ (by simp [HA.fp]) e1 (fun _ z => by cases z), kk _ _ (by simp [HA.fp]) e2 (fun _ z => by cases z), k.keep nt e, kk _ _ (by simp [HA.fp]) e3 (fun _ z => by cases z), s.keep nt e, kk _ _ (by simp [HA.fp]) e4 (fun _ z => by cases z), n.keep nt e, f.keep nt e⟩, e _ _ h.own hx (fun _ z => by cases z), h.lm⟩
/-- the wish of a row, and where its answer is noted -/
def RowD.wi (ns : Nts) : RowD → Option (Wi × Int)
  | .put nm p => Option.some (.put nm (p.val ns), 9)
  | .look nm n => Option.some (.look nm, n)
  | .bar => Option.some (.bar, 9)
  | .flu => Option.some (.flu, 9)
  | _ => Option.none
theorem wi_cases {r : RowD} {ns : Nts} {wi : Wi} {m : Int} (h : r.wi ns = Option.some (wi, m)) :
    (∃ wd : Str, (wd = "barrier" ∨ wd = "flush") ∧ r.data = .tuple [.str wd, .none, .tuple [], .int m] ∧ wi.data = .tuple [.str wd]) ∨
    ∃ (wd nm : Str) (ps : List Part), ps.length ≤ 1 ∧ inV (V.str wd) [V.str "barrier", V.str "flush"] = false ∧ r.data = .tuple [.str wd, .str nm, .tuple (ps.map Part.data), .int m] ∧ wi.data = .tuple ([.str wd, .str nm] ++ ps.map (Part.val ns)) := by
  cases r with
  | bar => cases h; exact .inl ⟨"barrier", .inl rfl, rfl, rfl⟩
  | flu => cases h; exact .inl ⟨"flush", .inr rfl, rfl, rfl⟩
  | look nm n => cases h; exact .inr ⟨"look", nm, [], by decide, rfl, rfl, rfl⟩
  | put nm p => cases h; exact .inr ⟨"put", nm, [p], Nat.le_refl 1, rfl, rfl, rfl⟩
  | _ => cases h
theorem wi_tag {r : RowD} {ns : Nts} {wi : Wi} {m : Int} (h : r.wi ns = Option.some (wi, m)) : ∃ (wd : Str) (d1 d2 : PyData), r.data = .tuple [.str wd, d1, d2, .int m] ∧ ¬ wd = "say" ∧ ¬ wd = "fail" ∧ ¬ wd = "back" ∧ ¬ wd = "skip" := by
  cases r with
  | bar => cases h; exact ⟨"barrier", _, _, rfl, by decide, by decide, by decide, by decide⟩
  | flu => cases h; exact ⟨"flush", _, _, rfl, by decide, by decide, by decide, by decide⟩
  | look nm n => cases h; exact ⟨"look", _, _, rfl, by decide, by decide, by decide, by decide⟩
  | put nm p => cases h; exact ⟨"put", _, _, rfl, by decide, by decide, by decide, by decide⟩
  | _ => cases h
/-- a wish over the names ks -/
def Wi.ok (ks : List Str) : Wi → Prop
  | .look n => n ∈ ks
  | .put n d => n ∈ ks ∧ Flat d
  | _ => True
/-- all values are flat -/
def PgF (ps : Pgs) : Prop := ∀ p ∈ ps, Flat p.2
def NtF (ns : Nts) : Prop := ∀ p ∈ ns, Flat p.2
theorem PgF.get {ps : Pgs} (h : PgF ps) {n : Str} {d : PyData} (e : pgGet ps n = some d) : Flat d := by
  induction ps with
  | nil => cases e
  | cons q r ih =>
    unfold pgGet at e
    rw [List.lookup_cons] at e
    by_cases hn : n = q.1
    · rw [show (n == q.1) = true by simpa using hn] at e
      cases e
      exact h q (by simp)
    · rw [show (n == q.1) = false by simpa using hn] at e
      exact ih (fun p hp => h p (by simp [hp])) e
theorem PgF.set {ps : Pgs} (h : PgF ps) {n : Str} {d : PyData} (hd : Flat d) : PgF (pgSet ps n d) := by
  rw [pgSet_map]
  intro p hp
  obtain ⟨q, hq, rfl⟩ := List.mem_map.mp hp
  by_cases e : q.1 = n
  · rw [if_pos e]; exact hd
  · rw [if_neg e]; exact h q hq
theorem NtF.get {ns : Nts} (h : NtF ns) (n : Int) : Flat (ntGet ns n) := by
  induction ns with
  | nil => exact flat_int 0
  | cons q r ih =>
    unfold ntGet
    rw [List.lookup_cons]
    by_cases hn : n = q.1
    · rw [show (n == q.1) = true by simpa using hn]
      exact h q (by simp)
    · rw [show (n == q.1) = false by simpa using hn]
      exact ih fun p hp => h p (by simp [hp])
theorem NtF.set {ns : Nts} (h : NtF ns) {n : Int} {d : PyData} (hd : Flat d) : NtF (ntSet ns n d) := by
  unfold ntSet
  intro p hp
  split at hp
  · obtain ⟨q, hq, rfl⟩ := List.mem_map.mp hp
    by_cases e : q.1 = n
    · rw [if_pos e]; exact hd
    · rw [if_neg e]; exact h q hq
  · rcases List.mem_append.mp hp with z | z
    · exact h p z
    · rw [List.mem_singleton.mp z]; exact hd
theorem plus1_flat {d : PyData} (h : Flat d) : Flat (plus1 d) := by
  cases d with
  | int i => exact flat_int _
  | _ => exact h
theorem Part.flatV {p : Part} (h : p.flat) {ns : Nts} (hn : NtF ns) : Flat (p.val ns) := by
  cases p with
  | value d => exact h
  | note n => exact hn.get n
  | plus => exact plus1_flat (hn.get 0)
theorem ES.ansF {es : ES} (h : PgF es.pages) (w : Wi) : Flat (es.ans w) := by
  cases w with
  | look n =>
    show Flat ((pgGet es.pages n).getD .none)
    cases e : pgGet es.pages n with
    | none => exact flat_none
    | some d => exact h.get e
  | _ => exact flat_none
theorem ES.goF {es : ES} (h : PgF es.pages) (w : Wi) (hw : ∀ n d, w = .put n d → Flat d) : PgF (es.go w).pages := by
  cases w with
  | put n d => exact h.set (hw n d rfl)
  | _ => exact h
theorem ES.goK (es : ES) (w : Wi) : (es.go w).pages.map (·.1) = es.pages.map (·.1) := by
  cases w with
  | put n d => exact pgSet_keys n d es.pages
  | _ => rfl
theorem pgGet_in {ps : Pgs} {n : Str} (h : n ∈ ps.map (·.1)) : ∃ d, pgGet ps n = some d := by
  induction ps with
  | nil => cases h
  | cons q r ih =>
    unfold pgGet
    rw [List.lookup_cons]
    by_cases hn : n = q.1
    · rw [show (n == q.1) = true by simpa using hn]
      exact ⟨_, rfl⟩
    · rw [show (n == q.1) = false by simpa using hn]
      exact ih ((List.mem_cons.mp (by simpa using h)).resolve_left hn)
theorem wi_ok {r : RowD} {ns : Nts} {wi : Wi} {m : Int} {ks : List Str} (h : r.wi ns = Option.some (wi, m)) (hr : r.ok ks) (hn : NtF ns) : wi.ok ks := by
  cases r with
  | bar => cases h; exact True.intro
  | flu => cases h; exact True.intro
  | look nm n => cases h; exact hr
  | put nm p => cases h; exact ⟨hr.1, Part.flatV hr.2 hn⟩
  | _ => cases h
theorem execR_wi {r : RowD} {ns : Nts} {wi : Wi} {m : Int} (h : r.wi ns = Option.some (wi, m)) (rs : List RowD) (es : ES) : execR (r :: rs) ns es = execR rs (ntSet ns m (es.ans wi)) (es.go wi) := by
  cases r with
  | bar => cases h; rw [execR]
  | flu => cases h; rw [execR]
  | look nm n => cases h; rw [execR]
  | put nm p => cases h; rw [execR]
  | _ => cases h
end FW

/-! a lambda called: the heap without its locked cells, and with them again -/
namespace FW
open PySem PySem.Spec PyProof.Rows L2 XV XL UU LamX NdefX GX GxR CC
section
variable {cs : List Addr} {P : Program} {w : World} {K : PySem.W.Frag} {mg : Str → Option Value} {base : Heap} {A : Around} {outer : List Env} {s s' : Shared} {H H' : Hp} {h : Heap}
theorem ce_onY (l : Lk cs H) (e : Env0 P w K mg base A outer s H) {Q : VK} {u : Value} (c : CE outer P w (off cs H) s (fun v H' => (∀ c ∈ cs, H' c = none) → Q v (on cs H H')) u s') : CE outer P w H s Q u s' := by
  obtain ⟨v, H', os, bare, un, hok, r, q⟩ := c
  refine ⟨v, on cs H H', os, bare, un_on l un, hok_on l e.hok un (fun b hb => l.outN (e.frf b hb)) hok, r, q fun c hc => ?_⟩
  obtain ⟨o, z⟩ := l c hc
  obtain ⟨ho, _⟩ := e.hok c _ z
  exact un.free c o ho (off_in hc) (by simp)
theorem cx_onY (l : Lk cs H) (e0 : Env0 P w K mg base A outer s H) {E : XK} {u : Value} (c : L2.CX P w outer (off cs H) s (fun cls d H' => (∀ c ∈ cs, H' c = none) → E cls d (on cs H H')) u s') : L2.CX P w outer H s E u s' := by
  refine cx_on l e0 ?_
  obtain ⟨a, B, H', cls, d, ea, fl, hok, ub, na, os, ag, q⟩ := c
  refine ⟨a, B, H', cls, d, ea, fl, hok, ub, na, os, ag, q fun c hc => ?_⟩
  obtain ⟨o, z⟩ := l c hc
  obtain ⟨ho, _⟩ := e0.hok c _ z
  exact ub.free c o ho (off_in hc)
end
/-- what is asked of a lambda's call; an exception may leave it -/
def spLamY (f : Addr) (F : NF) (b : Expr) (fr : List Str) (sp : List (Option V) → Sp) : Sp := fun vs H Q E => ∃ ws, LamAt H f F b fr ws ∧ sp (ws.map some) vs (off (csOf F) H) (fun v H' => (∀ c ∈ csOf F, H' c = none) → Q v (on (csOf F) H H')) (fun cls d H' => (∀ c ∈ csOf F, H' c = none) → E cls d (on (csOf F) H H'))
theorem cbl_ofY {P : Program} {w : World} {K : PySem.W.Frag} {mg : Str → Option Value} {base : Heap} {k : Nat} {f : Addr} {F : NF} {b : Expr} {ps fr : List Str} {sp : List (Option V) → Sp}
    (o : LOk P w K mg base (L2.CX P w) k f F b ps fr sp) : Cbl P w K mg base (L2.CX P w) k f (spLamY f F b fr sp) := fun A outer s H us vs Q E hr e0 r ⟨ws, l, h⟩ => by
  have lk := l.locked
  obtain ⟨od, sl, pm, ctv, ho⟩ := lamO_at e0.hok l.fn
  refine ⟨⟨_, od, _, sl, ho⟩, ?_⟩
  have hC : CellsAt F.cl fr (ws.map some) s.heap (off (csOf F) H) := by
    refine ⟨by rw [List.length_map]; exact l.len, fun y c e => ?_, l.inj, fun i y e => ?_⟩
    · obtain ⟨v, o, u, q, d, _⟩ := l.lk y c e
      obtain ⟨hg, _⟩ := e0.hok c _ q
      exact ⟨off_in (csOf_has e), _, o, hg, d⟩
    · obtain ⟨c, hc, hv⟩ := l.has i y e
      refine ⟨c, hc, fun v ev => ?_⟩
      rw [List.getElem?_map] at ev
      cases ew : ws[i]? with
      | none => rw [ew] at ev; cases ev
      | some v' =>
        rw [ew] at ev
        cases ev
        obtain ⟨o, u, q, d, ru⟩ := hv v ew
        obtain ⟨hg, _⟩ := e0.hok c _ q
        exact ⟨u, ru, o, hg, d⟩
  refine codeAny_mono (o.run A outer s (off (csOf F) H) us vs (ws.map some) _ _ hr (env_off lk e0) (by rw [off_out (lk.out l.fn lamO_ne)]; exact l.fn) (by rw [off_out (lk.out l.cd codeO_nf)]; exact l.cd) hC r h) fun rr s' hq => ?_
  cases rr with
  | error e => exact cx_onY lk e0 hq
  | ok fl =>
    cases fl with
    | ret u => exact ce_onY lk e0 hq
    | next => exact hq
    | brk => exact hq
    | cont => exact hq
theorem LamAt.ext {H H' : Hp} {f : Addr} {F : NF} {b : Expr} {fr : List Str} {ws : List V} (l : LamAt H f F b fr ws) (k : Keep [] H H') : LamAt H' f F b fr ws :=
  ⟨k _ _ l.fn (by simp) (fun _ => lamO_nt), k _ _ l.cd (by simp) (fun _ z => codeO_ne _ z), fun y c e => by
    obtain ⟨v, o, u, q, d⟩ := l.lk y c e
    exact ⟨v, o, u, k _ _ q (by simp) (fun _ z => by cases z), d⟩, l.inj, l.len, fun i y e => by
    obtain ⟨c, hc, hv⟩ := l.has i y e
    refine ⟨c, hc, fun v ev => ?_⟩
    obtain ⟨o, u, q, d⟩ := hv v ev
    exact ⟨o, u, k _ _ q (by simp) (fun _ z => by cases z), d⟩⟩
/-! what is neither a table nor a locked cell stays -/
def Good (o : HO) : Prop := (∀ ps, o ≠ .tbl ps) ∧ ∀ ob, o ≠ .frz ob cellX
def KeepG (H H' : Hp) : Prop := ∀ b o, H b = some o → Good o → H' b = some o
theorem keepG_off {cs : List Addr} {H : Hp} (l : Lk cs H) : KeepG H (off cs H) := fun b o e g => by
  rw [off_out]
  · exact e
  · intro z
    obtain ⟨ob, q⟩ := l b z
    rw [e] at q
    exact g.2 ob (Option.some.inj q)
theorem keepG_on {cs : List Addr} {H H' : Hp} (n : ∀ c ∈ cs, H' c = none) : KeepG H' (on cs H H') := fun b o e _ => by
  rw [on_out]
  · exact e
  · intro z
    rw [n b z] at e
    cases e
theorem good_tup {xs : List V} : Good (.tup xs) := ⟨(fun _ z => by cases z), fun _ z => by cases z⟩
theorem good_ftup {o : Obj} {xs : List V} : Good (.frz o (.tup xs)) := ⟨(fun _ z => by cases z), fun _ z => by cases z⟩
theorem good_lst {xs : List V} : Good (.lst xs) := ⟨(fun _ z => by cases z), fun _ z => by cases z⟩
theorem good_dK {xs : List (Key × V)} : Good (.dK xs) := ⟨(fun _ z => by cases z), fun _ z => by cases z⟩
theorem good_ins {C dx : Addr} {xs : List (Str × V)} : Good (.ins C dx xs) := ⟨(fun _ z => by cases z), fun _ z => by cases z⟩
theorem good_own {x : Addr} : Good (.own x) := ⟨(fun _ z => by cases z), fun _ z => by cases z⟩
section
variable {K : PySem.W.Frag} {H H' : Hp}
theorem sqT_g (k : KeepG H H') {a : Addr} {xs : List V} (h : SqT K H a xs) : SqT K H' a xs := by
  rcases h with (h | ⟨o, h⟩) | h
  · exact .inl (.inl (k _ _ h good_tup))
  · exact .inl (.inr ⟨o, k _ _ h good_ftup⟩)
  · exact .inr h
mutual
theorem dp_g (k : KeepG H H') : ∀ (d : PyData) (v : V), isVal d = true → Dp K H v d → Dp K H' v d
  | .none, _, _, h => by cases h; exact .non
  | .bool b, _, _, h => by cases h; exact .bl _
  | .int i, _, _, h => by cases h; exact .int _
  | .str x, _, _, h => by cases h; exact .str _
  | .list ds, _, z, h => by cases z
  | .tuple ds, _, z, h => by
    cases h with
    | tup q ha => exact .tup (sqT_g k q) (dps_g k ds _ z ha)
  | .dict kvs, _, z, h => by cases z
theorem dps_g (k : KeepG H H') : ∀ (ds : List PyData) (vs : List V), isVal.isVals ds = true → DpAll K H vs ds → DpAll K H' vs ds
  | [], _, _, h => by cases h; exact .nil
  | d :: ds, _, z, h => by
    have z' : (isVal d && isVal.isVals ds) = true := z
    obtain ⟨z1, z2⟩ := Bool.and_eq_true_iff.mp z'
    cases h with
    | cons h1 h2 => exact .cons (dp_g k d _ z1 h1) (dps_g k ds _ z2 h2)
end
theorem Vd.g {v : V} {d : PyData} (k : KeepG H H') (h : Vd K H v d) : Vd K H' v d := ⟨dp_g k d v h.val h.dp, h.val⟩
theorem Vds.g {vs : List V} {ds : List PyData} (k : KeepG H H') (h : Vds K H vs ds) : Vds K H' vs ds := Paired.mapP h fun _ _ => Vd.g k
theorem HandAt.g {C : Addr} {A : HA} {st : HS} (k : KeepG H H') (h : HandAt K C H A st) : HandAt K C H' A st := by
  obtain ⟨kvs, sv, nv, fv, e1, e2, kv, e3, s, e4, n, f⟩ := h.ex
  exact ⟨⟨kvs, sv, nv, fv, k _ _ e1 good_ins, k _ _ e2 good_dK, Paired.mapP kv (fun _ _ z => ⟨z.1, z.2.g k⟩), k _ _ e3 good_lst, s.g k, k _ _ e4 good_lst, n.g k, f.g k⟩, k _ _ h.own good_own, h.lm⟩
theorem tbs_off {G : Tb} {cs : List Addr} (l : Lk cs H) (t : Tbs G H) : Tbs G (off cs H) :=
  t.keep (fun b ps e => by rw [off_out (l.out e fun _ _ z => by cases z)]; exact e) fun b c q e => by rw [off_out (l.out e codeO_nf)]; exact e
/-- a step without the cells is one with them -/
theorem stp_on {G : Tb} {fp cs : List Addr} (n : ∀ c ∈ cs, H' c = none) (S : Stp G fp (off cs H) H') : Stp G fp H (on cs H H') := by
  refine ⟨fun b o e hb nt => ?_, S.t.keep (fun b ps e => ?_) fun b c q e => ?_⟩
  · by_cases hc : b ∈ cs
    · rw [on_in hc]; exact e
    · rw [on_out hc]
      exact S.k b o (by rw [off_out hc]; exact e) hb nt
  · rw [on_out fun z => by rw [n b z] at e; cases e]; exact e
  · rw [on_out fun z => by rw [n b z] at e; cases e]; exact e
end
end FW
/-! ### a lambda made: no other table is touched -/
namespace XL
open PySem PySem.Spec PyProof.Rows L2 LamX NdefX
section
variable {X : Cx} {pins : List (Addr × Obj)} {σ : L2.St} {H : Hp} {s : Shared}
theorem lam_mkT {T : List NTab} {nm : Nat → Nat → Str} {c P : Addr} {params : Arguments} {body : Expr} {scope : Scope} {pos : Pos} {E : Value → Shared → Prop} {Q : Value → Shared → Prop} (I : Inv X pins σ H s) (TB : TabB X.base X.mg c P) (hcode : X.env.code = .ref c)
    (hm : (P, nm) ∈ T) (hn : nm pos.line pos.col = X.env.qual ++ "<lambda>") (hu : ∀ p ∈ T, p.1 = P → p.2 = nm) (hT : TabsN T H) (hdef : defaultsOf params X.env = ([], [])) (hfree : ∀ y ∈ scope.names, y.2 = .free → ∃ c, X.env.cells.lookup y.1 = some c)
    (h : ∀ (f c' : Addr) (H1 : Hp) (s' : Shared), Inv X pins σ H1 s' → (∀ b o, H b = some o → b ≠ P → H1 b = some o) → ExtN H H1 → (∀ b, H1 b = Option.none → H b = Option.none) → TabsN T H1 → H f = none → H1 f = some (LamO f (lamF X params scope c') body) → H1 c' = some (CodeO c' (X.env.qual ++ "<lambda>")) → Q (.ref f) s') :
    wpAny (model X.prog X.w) X.A (eval (.Lambda params body scope pos) X.env) Q E s := by
  obtain ⟨ps, hP, ht, ha⟩ := (show TabN H P nm from hT _ hm)
  have bP : s.heap.BuiltinsAt X.mg P := TB.bm.keeps I.bk
  have hP' : s.heap.get? P = some { cls := .none, data := .fields ps } := I.hok P _ hP
  refine PySem.W.kla_eval hdef ?_
  cases hc : codeAmong pos ps.toList with
  | none =>
    refine PySem.W.kla_makeFunction (mg := X.mg) (c := c) (P := P) (ps := ps) (closure_ok hfree) I.ok.glob (I.mod.glob.keeps I.bk) hcode (TB.code.keeps I.bk) hP' ht hc TB.gP bP fun c' ctv h' tk hx hge hlt hrec htb => ?_
    obtain ⟨c2, oc, vs, t, e2, hoc, hd, hv⟩ := hrec
    cases e2
    have nC : H c' = none := I.hok.fresh hge
    have I1 := inv_table (t' := tk) (q := X.env.qual ++ "<lambda>") (more := #[rawInt pos.line, rawInt pos.col, .ref c']) (h' := h') I hP (fun b o hb e => hx b o hb e) htb hge ⟨oc, vs, t, hoc, hd, hv⟩
    have hE : ExtN H (upd (upd H P (.tbl (ps ++ #[rawInt pos.line, rawInt pos.col, .ref c']))) c' (CodeO c' (X.env.qual ++ "<lambda>"))) := fun b o e n => by
      rw [upd_ne (ne_of_none e nC), upd_ne (fun z => n ps (Option.some.inj (e.symm.trans (by rw [z]; exact hP))))]
      exact e
    have eL : (ps ++ #[rawInt pos.line, rawInt pos.col, .ref c']).toList = ps.toList ++ [rawInt pos.line, rawInt pos.col, .ref c'] := by simp
    have T1 : TabsN T (upd (upd H P (.tbl (ps ++ #[rawInt pos.line, rawInt pos.col, .ref c']))) c' (CodeO c' (X.env.qual ++ "<lambda>"))) := fun p hp => by
      by_cases hb : p.1 = P
      · rw [hu p hp hb, hb]
        refine ⟨_, by rw [upd_ne (ne_of_none hP nC), upd_same], by rw [eL]; exact PySem.TriplesOk_snoc _ _ _ _ ht, fun p' cv hcv => ?_⟩
        rw [eL] at hcv
        rcases among_app2 _ ht hcv with z | ⟨z, z1, z2⟩
        · obtain ⟨c0, e1, e2⟩ := ha p' cv z
          exact ⟨c0, e1, hE _ _ e2 codeO_ne⟩
        · refine ⟨c', z, ?_⟩
          rw [← z1, ← z2, hn]
          exact upd_same
      · obtain ⟨ps', a1, a2, a3⟩ := hT p hp
        refine ⟨ps', by rw [upd_ne (ne_of_none a1 nC), upd_ne hb]; exact a1, a2, fun p' cv hcv => ?_⟩
        obtain ⟨c0, e1, e2⟩ := a3 p' cv hcv
        exact ⟨c0, e1, hE _ _ e2 codeO_ne⟩
    have nF := I1.hok.fresh (Nat.le_refl _)
    have I2 := inv_lam (F := lamF X params scope c') (b := body) (t' := tk) (pm := (X.mg "__name__").getD .none) (ctv := ctv) I1 rfl
    refine h h'.objs.size c' _ _ I2 (fun b o e nP => by
      have e0 : upd (upd H P (.tbl (ps ++ #[rawInt pos.line, rawInt pos.col, .ref c']))) c' (CodeO c' (X.env.qual ++ "<lambda>")) b = some o := by
        rw [upd_ne (ne_of_none e nC), upd_ne nP]
        exact e
      exact (upd_ne (ne_of_none e0 nF)).trans e0) (fun b o e n => ?_) (fun b e => upd_none (upd_none (upd_none e))) (T1.ext fun b o e => ?_) (I.hok.fresh (Nat.le_trans hge (Nat.le_of_lt hlt))) upd_same ?_
    · have e1 := hE b o e n
      exact (upd_ne (ne_of_none e1 nF)).trans e1
    · exact (upd_ne (ne_of_none e nF)).trans e
    · exact (upd_ne (Nat.ne_of_lt hlt)).trans upd_same
  | some cv =>
    obtain ⟨c', e, hco⟩ := ha pos cv hc
    subst e
    rw [hn] at hco
    refine PySem.W.kla_makeFunctionHit (mg := X.mg) (c := c) (P := P) (ps := ps) (closure_ok hfree) I.ok.glob (I.mod.glob.keeps I.bk) hcode (TB.code.keeps I.bk) hP' ht hc bP fun ctv h' tk hx hsz => ?_
    have I1 : Inv X pins σ H { s with heap := h', toks := tk } := I.kept hx
    have nF : H h'.objs.size = none := I1.hok.fresh (Nat.le_refl _)
    have I2 := inv_lam (F := lamF X params scope c') (b := body) (t' := tk) (pm := (X.mg "__name__").getD .none) (ctv := ctv) I1 rfl
    refine h h'.objs.size c' _ _ I2 (fun b o e _ => (upd_ne (ne_of_none e nF)).trans e) (fun b o e n => ?_) (fun b e => upd_none e) (hT.ext fun b o e => ?_) nF upd_same ?_
    · exact (upd_ne (ne_of_none e nF)).trans e
    · exact (upd_ne (ne_of_none e nF)).trans e
    · exact (upd_ne (ne_of_none hco nF)).trans hco
end
/-- lambda ..: e, as a value -/
def tLamT (T : List NTab) (P : Addr) (mk : Addr → NF) (b : Expr) : TE := fun _ H Q => TabsN T H ∧ ∀ (f c' : Addr) (H1 : Hp), (∀ b o, H b = some o → b ≠ P → H1 b = some o) → ExtN H H1 → (∀ x, H1 x = Option.none → H x = Option.none) → TabsN T H1 → H f = none → H1 f = some (LamO f (mk c') b) → H1 c' = some (CodeO c' (mk c').qual) → Q (.ref f) H1
theorem pe_lamT {X : Cx} {T : List NTab} {nm : Nat → Nat → Str} {c P : Addr} {params : Arguments} {body : Expr} {scope : Scope} {pos : Pos} (TB : TabB X.base X.mg c P) (hcode : X.env.code = .ref c) (hm : (P, nm) ∈ T) (hn : nm pos.line pos.col = X.env.qual ++ "<lambda>") (hu : ∀ p ∈ T, p.1 = P → p.2 = nm)
    (hfree : ∀ y ∈ scope.names, y.2 = .free → X.env.scope.names.lookup y.1 = some .cell ∨ X.env.scope.names.lookup y.1 = some .free) (hdef : defaultsOf params X.env = ([], []) := by rfl) : PE X (.Lambda params body scope pos) (tLamT T P (lamF X params scope) body) := by
  refine ⟨fun pins s σ H Q I ⟨hT, h⟩ => ?_⟩
  exact lam_mkT I TB hcode hm hn hu hT hdef (fun y hy e => (hfree y hy e).elim (fun z => I.ok.has _ (.inl z)) fun z => I.ok.has _ (.inr z)) fun f c' H1 s' J e0 e1 e2 e3 e4 e5 e6 => ⟨.ref f, H1, J, rfl, h f c' H1 e0 e1 e2 e3 e4 e5 e6⟩
end XL

namespace CC
open PySem PySem.Spec PyProof.Rows L2 XV XL UU
/-- C(.., k = v): its __init__ keeps sp -/
structure UMakeK (P : Program) (w : World) (K : PySem.W.Frag) (mg : Str → Option Value) (base : Heap) (CX : CXT) (x : Str) (k : Nat) (sp : Sp) (C : Addr) (n : Nat) (ks : List Str) (gV : List V → List V → List V) : Prop where
  g : mg x = some (.ref C)
  ex : ∃ (f : Addr) (fd : FuncData) (ps : List Str) (g : List Value → List Value → List Value), FnOk P w K mg base CX k f fd ps sp ∧ Mk K C f ∧ KBn K fd ps (n + 1) ks g gV
section
variable {X : Cx} {k j n : Nat} {C : Addr} {sp : Sp} {x : Str} {p pos : Pos} {e : Expr} {es : List Expr} {t tk : TA} {ks : List Str} {gV : List V → List V → List V} {kws : List Keyword}
theorem pe_umkK (U : UMakeK X.prog X.w X.K X.mg X.base (L2.CX X.prog X.w) x j sp C n ks gV) (hr : Room k X.A) (hj : j + 1 ≤ k) (hg : Gl X x) (ha : PA X (e :: es) t) (hkw : PK X kws tk)
    (hall : (backToKw pos (keywordEach kws X.env)).all (·.1.isSome) = true := by rfl) (hks : (backToKw pos (keywordEach kws X.env)).filterMap (·.1) = ks := by rfl) (hdb : (x == ("__debug__" : Str)) = false := by decide)
    (he : starEach (e :: es) X.env = (false, eval e X.env) :: starEach es X.env := by rfl) (hpl : ((backTo pos (starEach (e :: es) X.env)).any (·.1) || (backToKw pos (keywordEach kws X.env)).any (·.1.isNone)) = false := by rfl) :
    PE X (.Call (.Name x p) (e :: es) kws pos) (tMakeK C n ks.length sp gV E0 t tk) := by
  obtain ⟨f, fd, ps, g, F, m, b⟩ := U.ex
  exact pe_makeK m F (hr.mono hj) hg U.g b passL ha hkw hall hks hdb he hpl
end
theorem kwnil {α : Type} {D : Addr} {t : Sem α} {r : α} (h : t = pure r) : KwChain D [] t r := h
end CC

/-! what rows come to: sizes, flat values -/
namespace FW
open PySem PySem.Spec PyProof.Rows L2 XV XL UU LamX NdefX GX GxR CC
def Wi.fl : Wi → Prop
  | .put _ d => Flat d
  | _ => True
structure ExOk (es : ES) : Prop where
  st : ∀ p ∈ es.steps, Wi.fl p.1 ∧ Flat p.2
  sd : ∀ p ∈ es.said, Flat p.2 ∧ p.1 ≤ es.steps.length
theorem ExOk.go {es : ES} {w : Wi} (h : ExOk es) (hp : PgF es.pages) (hw : w.fl) : ExOk (es.go w) := by
  refine ⟨fun p hp' => ?_, fun p hp' => ?_⟩
  · rcases List.mem_append.mp (show p ∈ es.steps ++ [(w, es.ans w)] from hp') with z | z
    · exact h.st p z
    · rw [List.mem_singleton.mp z]
      exact ⟨hw, ES.ansF hp w⟩
  · obtain ⟨h1, h2⟩ := h.sd p hp'
    refine ⟨h1, Nat.le_trans h2 ?_⟩
    show _ ≤ (es.steps ++ [_]).length
    rw [List.length_append]
    exact Nat.le_add_right _ _
theorem ExOk.say {es : ES} {d : PyData} (h : ExOk es) (hd : Flat d) : ExOk (es.say d) := by
  refine ⟨h.st, fun p hp => ?_⟩
  rcases List.mem_append.mp (show p ∈ es.said ++ [(es.steps.length, d)] from hp) with z | z
  · exact h.sd p z
  · rw [List.mem_singleton.mp z]
    exact ⟨hd, Nat.le_refl _⟩
structure ExAll (es : ES) (n : Nat) (R : ES × Bool × PyData) : Prop where
  ok : ExOk R.1
  fl : Flat R.2.2
  sl : R.1.steps.length ≤ es.steps.length + n
  tl : R.1.said.length ≤ es.said.length + n
theorem ExAll.go {es : ES} {w : Wi} {n : Nat} {R : ES × Bool × PyData} (h : ExAll (es.go w) n R) : ExAll es (n + 1) R := by
  refine ⟨h.ok, h.fl, Nat.le_trans h.sl ?_, Nat.le_trans h.tl ?_⟩
  · show (es.steps ++ [_]).length + n ≤ _
    rw [List.length_append, List.length_singleton]; omega
  · show es.said.length + n ≤ _; omega
theorem ExAll.say {es : ES} {d : PyData} {n : Nat} {R : ES × Bool × PyData} (h : ExAll (es.say d) n R) : ExAll es (n + 1) R := by
  refine ⟨h.ok, h.fl, Nat.le_trans h.sl ?_, Nat.le_trans h.tl ?_⟩
  · show es.steps.length + n ≤ _; omega
  · show (es.said ++ [_]).length + n ≤ _
    rw [List.length_append, List.length_singleton]; omega
theorem ExAll.up {es : ES} {n m : Nat} {R : ES × Bool × PyData} (h : ExAll es n R) (hn : n ≤ m) : ExAll es m R := ⟨h.ok, h.fl, Nat.le_trans h.sl (by omega), Nat.le_trans h.tl (by omega)⟩
theorem execR_ok {ks : List Str} : ∀ (n : Nat) (rs : List RowD) (ns : Nts) (es : ES), rs.length ≤ n → (∀ r ∈ rs, r.ok ks) → NtF ns → PgF es.pages → ExOk es → ExAll es rs.length (execR rs ns es) := by
  intro n
  induction n with
  | zero =>
    intro rs ns es hn _ _ _ h
    obtain rfl : rs = [] := List.length_eq_zero_iff.mp (by omega)
    rw [execR]
    exact ⟨h, flat_none, Nat.le_refl _, Nat.le_refl _⟩
  | succ n ih =>
    intro rs ns es hn hr hns hp h
    cases rs with
    | nil =>
      rw [execR]
      exact ⟨h, flat_none, Nat.le_refl _, Nat.le_refl _⟩
    | cons r rs =>
      have hn' : rs.length ≤ n := by rw [List.length_cons] at hn; omega
      have hr' : ∀ r ∈ rs, r.ok ks := fun q hq => hr q (List.mem_cons_of_mem _ hq)
      have h0 := hr r (by simp)
      rw [List.length_cons]
      cases r with
      | skip m d k =>
        rw [execR]
        split
        · exact (ih _ ns es (by rw [List.length_drop]; omega) (fun q hq => hr' q (List.mem_of_mem_drop hq)) hns hp h).up (by rw [List.length_drop]; omega)
        · exact (ih _ ns es hn' hr' hns hp h).up (by omega)
      | say p => rw [execR]; exact (ih _ ns (es.say _) hn' hr' hns hp (h.say (Part.flatV h0 hns))).say
      | put nm p =>
        rw [execR]
        have hf := Part.flatV h0.2 hns
        exact (ih _ _ (es.go _) hn' hr' (hns.set (ES.ansF hp _)) (ES.goF hp _ fun n d e => by cases e; exact hf) (h.go (w := .put nm (p.val ns)) hp hf)).go
      | look nm m => rw [execR]; exact (ih _ _ (es.go _) hn' hr' (hns.set (ES.ansF hp _)) (ES.goF hp _ fun n d e => by cases e) (h.go (w := .look nm) hp True.intro)).go
      | bar => rw [execR]; exact (ih _ _ (es.go _) hn' hr' (hns.set (ES.ansF hp _)) (ES.goF hp _ fun n d e => by cases e) (h.go (w := .bar) hp True.intro)).go
      | flu => rw [execR]; exact (ih _ _ (es.go _) hn' hr' (hns.set (ES.ansF hp _)) (ES.goF hp _ fun n d e => by cases e) (h.go (w := .flu) hp True.intro)).go
      | fail p => rw [execR]; exact ⟨h, Part.flatV h0 hns, Nat.le_add_right _ _, Nat.le_add_right _ _⟩
      | back p => rw [execR]; exact ⟨h, Part.flatV h0 hns, Nat.le_add_right _ _, Nat.le_add_right _ _⟩
theorem sml_two {n : Nat} {a b : PyData} (ha : Sml n a) (hb : Sml n b) : Sml (n + 1) (.tuple [a, b]) := ⟨by show 2 ≤ 100000; decide, fun d hd => by
  rcases List.mem_cons.mp hd with rfl | hd
  · exact ha
  · rw [List.mem_singleton.mp hd]; exact hb⟩
theorem sml_wi {w : Wi} (h : w.fl) : Sml 5 w.data := by
  cases w with
  | look n => exact sml_two True.intro True.intro
  | put n d => exact ⟨by show 3 ≤ 100000; decide, fun e he => by
      rcases List.mem_cons.mp he with rfl | he
      · exact True.intro
      · rcases List.mem_cons.mp he with rfl | he
        · exact True.intro
        · rw [List.mem_singleton.mp he]; exact Flat.sml h⟩
  | bar => exact ⟨by show 1 ≤ 100000; decide, fun e he => by rw [List.mem_singleton.mp he]; exact True.intro⟩
  | flu => exact ⟨by show 1 ≤ 100000; decide, fun e he => by rw [List.mem_singleton.mp he]; exact True.intro⟩
/-- the data of steps, small -/
theorem sml_steps {st : List (Wi × PyData)} (h : ∀ p ∈ st, Wi.fl p.1 ∧ Flat p.2) (hl : st.length ≤ 1000) : Sml 7 (.list (st.map stD)) := ⟨by rw [List.length_map]; exact Nat.le_trans hl (by decide), fun d hd => by
  obtain ⟨p, hp, rfl⟩ := List.mem_map.mp hd
  exact sml_two (sml_wi (h p hp).1) (sml_up (h p hp).2.sml)⟩
theorem said_all {ns : List (Nat × PyData)} {k : Nat} (h : ∀ p ∈ ns, p.1 ≤ k) : saidBy ns k = ns.map (·.2) := by
  unfold saidBy
  rw [List.filter_eq_self.mpr fun p hp => by have := h p hp; exact decide_eq_true (by omega)]
/-- what is new is no one's -/
theorem Stp.hide {G : Tb} {fp : List Addr} {D : Addr} {H H1 H2 : Hp} (a : Keep [] H H1) (b : Stp G (D :: fp) H1 H2) (n : Fr0 H D) : Stp G fp H H2 :=
  ⟨fun c o e hb nt => b.k c o (a c o e (by simp) nt) (fun hc => by
    rcases List.mem_cons.mp hc with z | z
    · rw [z] at e
      obtain ⟨ps, q⟩ := n o e
      exact nt ps q
    · exact hb z) nt, b.t⟩
theorem stp_same {G : Tb} {H H' : Hp} (t : Tbs G H) (s : Same H H') : Stp G [] H H' := ⟨.same s, t.keep (fun b ps e => s _ _ e) fun b c q e => s _ _ e⟩
theorem RowD.ok_mono {ks ks' : List Str} (h : ∀ n ∈ ks, n ∈ ks') {r : RowD} (hr : r.ok ks) : r.ok ks' := by
  cases r with
  | put nm p => exact ⟨h _ hr.1, hr.2⟩
  | look nm n => exact h _ hr
  | _ => exact hr
theorem PgF.sorted {ps sps : Pgs} (h : PgF ps) (so : SortedOf ps sps) (nd : (sps.map (·.1)).Nodup) : PgF sps := fun p hp => by
  have e : pgGet sps p.1 = Option.some p.2 := by
    clear so
    induction sps with
    | nil => cases hp
    | cons q r ih =>
      rw [List.map_cons, List.nodup_cons] at nd
      unfold pgGet
      rcases List.mem_cons.mp hp with rfl | hp
      · rw [List.lookup_cons]; simp
      · have : ¬ p.1 = q.1 := fun z => nd.1 (by rw [← z]; exact List.mem_map_of_mem hp)
        rw [List.lookup_cons, show (p.1 == q.1) = false by simpa using this]
        exact ih nd.2 hp
  rw [so.get] at e
  exact h.get e
end FW

namespace HH
open PySem PySem.Spec PyProof.Rows L2 He XV
theorem smB_ok {K : PySem.W.Frag} {C : Addr} {m : Str} (h : smB K C m = true) (kp : PySem.W.keepIn K (.ref (He5.wf K C "staticmethod" m)) = true) : CC.StM K C (.type "type") m (ma K C m) (He5.wf K C "staticmethod" m) := by
  obtain ⟨h1, h⟩ := ba h
  obtain ⟨h2, h3⟩ := ba h
  obtain ⟨h4, h5⟩ := He5.wrapB_ok h3
  exact ⟨h1, of_decide_eq_true h2, h4, h5, kp⟩
end HH

/-! own errors with a field, raised -/
namespace FW
open PySem PySem.Spec PyProof.Rows L2 XV XL UU LamX NdefX GX GxR CC
/-- what an own error's __init__ asks: the object has its dict, with the one field -/
def spInit (C : Addr) (fld : Str) : Sp := fun vs H Q _ => ∃ (a : Addr) (v : V), vs = [.ref a, v] ∧ H a = some (exo a C none) ∧ ∀ d, H d = none → d ≠ a → Q .non (upd (upd H d (exd d [(fld, v)])) a (exo a C (some d)))
/-- the heap behind an own error made and raised -/
theorem raised_stp {G : Tb} {H : Hp} {a d C : Addr} {fs : List (Str × V)} (t : Tbs G H) (ha : H a = none) (hd : H d = none) (hne : d ≠ a) :
    Stp G [] H (upd (delH (upd (upd (upd H a (exo a C none)) d (exd d fs)) a (exo a C (some d))) a) d (.xd fs)) := by
  have old : ∀ b o, H b = some o → upd (delH (upd (upd (upd H a (exo a C none)) d (exd d fs)) a (exo a C (some d))) a) d (.xd fs) b = some o := fun b o e => by
    have n1 : b ≠ a := fun z => by rw [z, ha] at e; cases e
    have n2 : b ≠ d := fun z => by rw [z, hd] at e; cases e
    rw [upd_ne n2, delH_ne n1, upd_ne n1, upd_ne n2, upd_ne n1]
    exact e
  exact ⟨fun b o e _ _ => old b o e, t.keep (fun b ps e => old b _ e) fun b c q e => old b _ e⟩
theorem upd_free {H : Hp} {a d : Addr} {o : HO} (h : upd H a o d = none) (hne : d ≠ a) : H d = none := by
  rw [upd_ne hne] at h
  exact h
/-- an int within 0 .. n - 1 -/
def isMomB (d : PyData) (n : Nat) : Bool := match d with
  | .int i => decide (0 ≤ i) && decide (i < n)
  | _ => false
theorem isMomB_nat {i n : Nat} : isMomB (.int i) n = decide (i < n) := by
  show (decide ((0 : Int) ≤ i) && decide ((i : Int) < n)) = _
  rw [show decide ((0 : Int) ≤ i) = true from decide_eq_true (Int.natCast_nonneg i), Bool.true_and]
  by_cases h : i < n
  · rw [decide_eq_true h, decide_eq_true (Int.ofNat_lt.mpr h)]
  · rw [decide_eq_false h, decide_eq_false fun z => h (Int.ofNat_lt.mp z)]
theorem isMomB_true {d : PyData} {n : Nat} (h : isMomB d n = true) : ∃ i : Nat, d = .int i ∧ i < n := by
  cases d with
  | int i =>
    obtain ⟨h1, h2⟩ := Bool.and_eq_true_iff.mp (show (decide (0 ≤ i) && decide (i < n)) = true from h)
    have h1 := of_decide_eq_true h1
    have h2 := of_decide_eq_true h2
    refine ⟨i.toNat, ?_, by omega⟩
    congr 1
    omega
  | _ => cases h
end FW
namespace FW
open PySem PySem.Spec PyProof.Rows L2 XV XL UU LamX NdefX GX GxR CC
section
variable {α β : Type} {F G : α → β → Prop}
theorem Paired.get : ∀ {as : List α} {bs : List β} {i : Nat} {a : α} {b : β}, Paired F as bs → as[i]? = some a → bs[i]? = some b → F a b
  | _, _, _, _, _, .nil, e, _ => by simp at e
  | _, _, 0, _, _, .cons h _, e, e' => by
    simp at e e'
    subst e e'
    exact h
  | _, _, i + 1, _, _, .cons _ t, e, e' => Paired.get (i := i) t (by simpa using e) (by simpa using e')
theorem Paired.at1 : ∀ {as : List α} {bs : List β} {i : Nat} {a : α}, Paired F as bs → as[i]? = some a → ∃ b, bs[i]? = some b ∧ F a b
  | _, _, _, _, .nil, e => by simp at e
  | _, _, 0, _, .cons h _, e => by
    simp at e
    subst e
    exact ⟨_, rfl, h⟩
  | _, _, i + 1, _, .cons _ t, e => by
    obtain ⟨b, h1, h2⟩ := Paired.at1 (i := i) t (by simpa using e)
    exact ⟨b, by simpa using h1, h2⟩
theorem Paired.mapM : ∀ {as : List α} {bs : List β}, Paired F as bs → (∀ a b, a ∈ as → F a b → G a b) → Paired G as bs
  | _, _, .nil, _ => .nil
  | _, _, .cons h t, k => .cons (k _ _ (by simp) h) (Paired.mapM t fun a b ha => k a b (by simp [ha]))
end
end FW
namespace CC
open PySem PySem.Spec PyProof.Rows L2 XV XL UU
/-- list(e), the reading told by K itself -/
theorem call_list_ofK {X : Cx} (K : PySem.W.Frag) (hK : X.K = K) : CallR X (.type "list") (fun xs H Q => ∃ (p : Addr) (ys : List V), xs = [V.ref p] ∧ (SqL K H p ys ∨ SqT K H p ys) ∧ ∀ l : Addr, H l = none → Q (V.ref l) (upd H l (.lst ys))) := by
  subst hK
  exact call_list_of
end CC

/-! the law's own walk over wishes, and the moments of a run -/
namespace FW
open PySem PySem.Spec PyProof.Rows L2 XV XL UU LamX NdefX GX GxR CC
/-! ### sorted pages are one -/
theorem leStr_trans {a b c : Str} (h1 : a.cps.toList ≤ b.cps.toList) (h2 : b.cps.toList ≤ c.cps.toList) : a.cps.toList ≤ c.cps.toList := List.le_trans h1 h2
theorem rising_pw : ∀ (l : List Str) (p : Str), risingS p l = true → (∀ x ∈ l, p.cps.toList ≤ x.cps.toList) ∧ l.Pairwise (fun a b => a.cps.toList ≤ b.cps.toList)
  | [], _, _ => ⟨(fun _ h => by cases h), .nil⟩
  | x :: r, p, h => by
    have h' : (!ltCps x.cps.toList p.cps.toList && risingS x r) = true := h
    obtain ⟨h1, h2⟩ := Bool.and_eq_true_iff.mp h'
    obtain ⟨h3, h4⟩ := rising_pw r x h2
    have h5 : p.cps.toList ≤ x.cps.toList := by
      rw [ltCps_eq] at h1
      have : decide (x.cps.toList < p.cps.toList) = false := by simpa using h1
      exact of_decide_eq_false this
    refine ⟨fun y hy => ?_, .cons h3 h4⟩
    rcases List.mem_cons.mp hy with rfl | hy
    · exact h5
    · exact leStr_trans h5 (h3 y hy)
theorem sorted_pw {l : List Str} (h : sortedS l = true) : l.Pairwise (fun a b => a.cps.toList ≤ b.cps.toList) := by
  cases l with
  | nil => exact .nil
  | cons x r => exact .cons (rising_pw r x h).1 (rising_pw r x h).2
theorem sorted_eq {a b : List Str} (ha : sortedS a = true) (hb : sortedS b = true) (hp : a.Perm b) : a = b := by
  refine List.Perm.eq_of_pairwise (fun x y _ _ h1 h2 => ?_) (sorted_pw ha) (sorted_pw hb) hp
  have e := List.le_antisymm h1 h2
  obtain ⟨⟨x⟩⟩ := x
  obtain ⟨⟨y⟩⟩ := y
  have e' : x = y := e
  rw [e']
theorem pgs_ext : ∀ {a b : Pgs}, a.map (·.1) = b.map (·.1) → (a.map (·.1)).Nodup → (∀ n, pgGet a n = pgGet b n) → a = b
  | [], b, h, _, _ => by
    have : b = [] := by simpa using h.symm
    rw [this]
  | (m, d) :: r, b, h, nd, g => by
    cases b with
    | nil => cases h
    | cons q t =>
      obtain ⟨m', d'⟩ := q
      have h1 : m = m' := (List.cons.inj h).1
      have h2 := (List.cons.inj h).2
      subst h1
      have nd' := List.nodup_cons.mp nd
      have g0 := g m
      have e1 : pgGet ((m, d) :: r) m = some d := by unfold pgGet; rw [List.lookup_cons]; simp
      have e2 : pgGet ((m, d') :: t) m = some d' := by unfold pgGet; rw [List.lookup_cons]; simp
      rw [e1, e2] at g0
      have hd : d = d' := Option.some.inj g0
      subst hd
      have := pgs_ext (a := r) (b := t) h2 nd'.2 (fun n => by
        by_cases e : n = m
        · subst e
          rw [pgGet_none nd'.1, pgGet_none (by rw [← h2]; exact nd'.1)]
        · have gn := g n
          unfold pgGet at gn ⊢
          rw [List.lookup_cons, List.lookup_cons, show (n == m) = false by simpa using e] at gn
          exact gn)
      rw [this]
/-- the sorted form of pages is one, by what they hold -/
theorem sorted_one_of {ps x y : Pgs} {qs : Pgs} (hx : SortedOf ps x) (nd : (ps.map (·.1)).Nodup) (hk : (qs.map (·.1)).Perm (ps.map (·.1))) (hy : SortedOf qs y) {m : Pgs} (hm : m.map (·.1) = x.map (·.1)) (hg : ∀ n, pgGet m n = pgGet qs n) : m = y := by
  have e : x.map (·.1) = y.map (·.1) := sorted_eq hx.srt hy.srt (hx.perm.trans (hk.symm.trans hy.perm.symm))
  refine pgs_ext (by rw [hm, e]) (by rw [hm]; exact hx.perm.nodup_iff.mpr nd) (fun n => by rw [hg, hy.get])
/-! ### the walk -/
structure La where
  fd : Pgs
  ep : List Pgs
def pgPuts (fd : Pgs) (e : Pgs) : Pgs := e.foldl (fun a p => pgSet a p.1 p.2) fd
theorem pgPuts_keys : ∀ (e fd : Pgs), (pgPuts fd e).map (·.1) = fd.map (·.1)
  | [], _ => rfl
  | p :: e, fd => by
    show (pgPuts (pgSet fd p.1 p.2) e).map (·.1) = _
    rw [pgPuts_keys e, pgSet_keys]
theorem pgPuts_len (e fd : Pgs) : (pgPuts fd e).length = fd.length := by
  rw [← List.length_map (f := (·.1)), pgPuts_keys, List.length_map]
theorem pgPuts_snoc (fd e : Pgs) (p : Str × PyData) : pgPuts fd (e ++ [p]) = pgSet (pgPuts fd e) p.1 p.2 := by
  unfold pgPuts
  rw [List.foldl_append] <;> rfl
theorem pgPuts_app (fd e e' : Pgs) : pgPuts fd (e ++ e') = pgPuts (pgPuts fd e) e' := by
  unfold pgPuts
  rw [List.foldl_append]
theorem pgPuts_cong : ∀ (e x y : Pgs), (∀ n, pgGet x n = pgGet y n) → ∀ n, pgGet (pgPuts x e) n = pgGet (pgPuts y e) n
  | [], _, _, h, n => h n
  | p :: e, x, y, h, n => pgPuts_cong e (pgSet x p.1 p.2) (pgSet y p.1 p.2) (fun n => by rw [pgGet_set, pgGet_set, h n]) n
def Wi.isBar : Wi → Bool
  | .bar => true
  | _ => false
def Wi.isFlu : Wi → Bool
  | .flu => true
  | _ => false
def La.put (a : La) : Wi → La
  | .put n d => ⟨a.fd, a.ep.dropLast ++ [a.ep.getLastD [] ++ [(n, d)]]⟩
  | _ => a
def La.bar (a : La) (b : Bool) : La := if b = true then ⟨a.fd, a.ep ++ [[]]⟩ else a
def La.flu (a : La) (b : Bool) : La := if b = true then ⟨pgPuts a.fd a.ep.flatten, [[]]⟩ else a
def La.step (sp fl : List V) (i : Nat) (a : La) (w : Wi) : La :=
  ((a.put w).bar (w.isBar && !inV (.int (i : Nat)) sp)).flu ((w.isFlu && !inV (.int (i : Nat)) sp) || inV (.int (i : Nat)) fl)
def La.walk (sp fl : List V) : Nat → La → List Wi → La
  | _, a, [] => a
  | i, a, w :: ws => La.walk sp fl (i + 1) (a.step sp fl i w) ws
theorem La.walk_snoc (sp fl : List V) : ∀ (ws : List Wi) (i : Nat) (a : La) (w : Wi), La.walk sp fl i a (ws ++ [w]) = (La.walk sp fl i a ws).step sp fl (i + ws.length) w
  | [], _, _, _ => rfl
  | v :: ws, i, a, w => by
    show La.walk sp fl (i + 1) (a.step sp fl i v) (ws ++ [w]) = (La.walk sp fl (i + 1) (a.step sp fl i v) ws).step sp fl (i + (ws.length + 1)) w
    rw [La.walk_snoc sp fl ws (i + 1), Nat.add_right_comm i 1 ws.length] <;> rfl
theorem flat_last {ep : List Pgs} (h : ep ≠ []) (p : Str × PyData) : (ep.dropLast ++ [ep.getLastD [] ++ [p]]).flatten = ep.flatten ++ [p] := by
  have e : ep = ep.dropLast ++ [ep.getLastD []] := by
    rw [List.getLastD_eq_getLast?, List.getLast?_eq_some_getLast h]
    exact (List.dropLast_concat_getLast h).symm
  have e2 : ep.flatten = ep.dropLast.flatten ++ ep.getLastD [] := by
    have := congrArg List.flatten e
    rw [List.flatten_append] at this
    simpa using this
  rw [List.flatten_append, e2]
  simp
/-- the moment m, as the law's own walk finds it -/
structure LaOk (ks : List Str) (m : Mo) (a : La) : Prop where
  ep : m.eps = a.ep
  ne : a.ep ≠ []
  sy : ∀ n, pgGet m.sync n = pgGet a.fd n
  pg : ∀ n, pgGet m.pages n = pgGet (pgPuts a.fd a.ep.flatten) n
  kp : m.pages.map (·.1) = ks
  ks' : m.sync.map (·.1) = ks
theorem Mo.after_keys {m : Mo} {ks : List Str} (h1 : m.pages.map (·.1) = ks) (h2 : m.sync.map (·.1) = ks) (w : Wi) : (m.after w).pages.map (·.1) = ks ∧ (m.after w).sync.map (·.1) = ks := by
  cases w with
  | look n => exact ⟨h1, h2⟩
  | put n d => exact ⟨by show (pgSet m.pages n d).map (·.1) = ks; rw [pgSet_keys, h1], h2⟩
  | bar => exact ⟨h1, h2⟩
  | flu => exact ⟨h1, h1⟩
theorem LaOk.put {ks : List Str} {m : Mo} {a : La} (h : LaOk ks m a) (n : Str) (d : PyData) : LaOk ks (m.after (.put n d)) (a.put (.put n d)) := by
  have kk := Mo.after_keys h.kp h.ks' (.put n d)
  refine ⟨?_, ?_, h.sy, fun k => ?_, kk.1, kk.2⟩
  · show m.eps.dropLast ++ [m.eps.getLastD [] ++ [(n, d)]] = _
    rw [h.ep] <;> rfl
  · show a.ep.dropLast ++ [a.ep.getLastD [] ++ [(n, d)]] ≠ []
    simp
  · show pgGet (pgSet m.pages n d) k = pgGet (pgPuts a.fd (a.ep.dropLast ++ [a.ep.getLastD [] ++ [(n, d)]]).flatten) k
    rw [flat_last h.ne, pgPuts_snoc, pgGet_set, pgGet_set, h.pg]
theorem LaOk.bar {ks : List Str} {m : Mo} {a : La} (h : LaOk ks m a) : LaOk ks (m.after .bar) (a.bar true) := by
  have kk := Mo.after_keys h.kp h.ks' .bar
  refine ⟨?_, ?_, h.sy, fun k => ?_, kk.1, kk.2⟩
  · show m.eps ++ [[]] = a.ep ++ [[]]
    rw [h.ep]
  · show a.ep ++ [[]] ≠ []
    simp
  · show pgGet m.pages k = pgGet (pgPuts a.fd (a.ep ++ [[]]).flatten) k
    rw [List.flatten_append, h.pg k]
    simp
theorem LaOk.flu {ks : List Str} {m : Mo} {a : La} (h : LaOk ks m a) : LaOk ks (m.after .flu) (a.flu true) := by
  have kk := Mo.after_keys h.kp h.ks' .flu
  exact ⟨rfl, by show ([[]] : List Pgs) ≠ []; simp, h.pg, h.pg, kk.1, kk.2⟩
/-- a step whose number is spared is a guard -/
def SpOk (sp : List V) (i : Nat) (ws : List Wi) : Prop := ∀ j w, ws[j]? = some w → inV (.int ((i + j : Nat) : Int)) sp = true → w = .bar ∨ w = .flu
theorem LaOk.step {ks : List Str} {m : Mo} {a : La} (h : LaOk ks m a) (sp fl : List V) (i : Nat) (w : Wi) (hs : inV (.int (i : Nat)) sp = true → w = .bar ∨ w = .flu) :
    LaOk ks (if inV (.int (i : Nat)) fl then (if inV (.int (i : Nat)) sp then m else m.after w).after .flu else (if inV (.int (i : Nat)) sp then m else m.after w)) (a.step sp fl i w) := by
  have key : ∀ (m1 : Mo) (a1 : La), LaOk ks m1 a1 → ∀ b, LaOk ks (if b = true then m1.after .flu else m1) (a1.flu b) := fun m1 a1 h1 b => by
    cases b with
    | true => exact h1.flu
    | false => exact h1
  unfold La.step
  cases hb : inV (V.int (i : Nat)) sp with
  | true =>
    rcases hs hb with rfl | rfl
    · exact key m a h _
    · exact key m a h _
  | false =>
    cases w with
    | look n => exact key m a h _
    | put n d => exact key _ _ (h.put n d) _
    | bar => exact key _ _ h.bar _
    | flu =>
      cases hf : inV (V.int (i : Nat)) fl with
      | true =>
        refine ⟨rfl, by show ([[]] : List Pgs) ≠ []; simp, h.pg, h.pg, h.kp, h.kp⟩
      | false => exact h.flu
theorem momsFrom_walk (sp fl : List V) {ks : List Str} : ∀ (ws : List Wi) (i : Nat) (m : Mo) (a : La), LaOk ks m a → SpOk sp i ws → ∀ k, k ≤ ws.length → ∃ m', (m :: momsFrom sp fl i m ws)[k]? = some m' ∧ LaOk ks m' (La.walk sp fl i a (ws.take k))
  | ws, i, m, a, h, _, 0, _ => ⟨m, rfl, by rw [List.take_zero]; exact h⟩
  | [], i, m, a, h, _, k + 1, hk => by simp at hk
  | w :: ws, i, m, a, h, hs, k + 1, hk => by
    have h1 := h.step sp fl i w (fun z => hs 0 w rfl z)
    have hs1 : SpOk sp (i + 1) ws := fun j v hj hv => hs (j + 1) v hj (by rw [show i + (j + 1) = i + 1 + j by omega]; exact hv)
    obtain ⟨m', e, h2⟩ := momsFrom_walk sp fl ws (i + 1) _ _ h1 hs1 k (by simp at hk; omega)
    refine ⟨m', ?_, by rw [List.take_succ_cons]; exact h2⟩
    rw [momsFrom_cons, List.getElem?_cons_succ]
    exact e
end FW

namespace FW
open PySem PySem.Spec PyProof.Rows L2 XV XL UU LamX NdefX GX GxR CC
/-- what stands at a wish -/
theorem wi_open {K : PySem.W.Frag} {H : Hp} {wv : V} {wi : Wi} (h : Vd K H wv wi.data) : ∃ (b : Addr) (tag : Str) (ts : List V), wv = .ref b ∧ SqT K H b (.str tag :: ts) ∧
    ((∃ n, tag = "look" ∧ wi = .look n ∧ ts = [.str n]) ∨ (∃ n d u, tag = "put" ∧ wi = .put n d ∧ ts = [.str n, u] ∧ Vd K H u d) ∨ (tag = "barrier" ∧ wi = .bar ∧ ts = []) ∨ (tag = "flush" ∧ wi = .flu ∧ ts = [])) := by
  cases wi with
  | look n =>
    obtain ⟨b, u, rfl, q, hu⟩ := Vd.pair (n := "look") (d := .str n) h
    have e := hu.dp
    cases e
    exact ⟨b, _, _, rfl, q, .inl ⟨n, rfl, rfl, rfl⟩⟩
  | put n d =>
    obtain ⟨b, us, rfl, q, hd⟩ := Vd.untup (ds := [.str "put", .str n, d]) h
    cases hd with
    | cons h1 hd =>
      cases hd with
      | cons h2 hd =>
        cases hd with
        | cons h3 hd =>
          cases hd with
          | nil =>
            have e1 := h1.dp
            cases e1
            have e2 := h2.dp
            cases e2
            exact ⟨b, _, _, rfl, q, .inr (.inl ⟨n, d, _, rfl, rfl, rfl, h3⟩)⟩
  | bar =>
    obtain ⟨b, us, rfl, q, hd⟩ := Vd.untup (ds := [.str "barrier"]) h
    cases hd with
    | cons h1 hd =>
      cases hd with
      | nil =>
        have e1 := h1.dp
        cases e1
        exact ⟨b, _, _, rfl, q, .inr (.inr (.inl ⟨rfl, rfl, rfl⟩))⟩
  | flu =>
    obtain ⟨b, us, rfl, q, hd⟩ := Vd.untup (ds := [.str "flush"]) h
    cases hd with
    | cons h1 hd =>
      cases hd with
      | nil =>
        have e1 := h1.dp
        cases e1
        exact ⟨b, _, _, rfl, q, .inr (.inr (.inr ⟨rfl, rfl, rfl⟩))⟩
theorem dec_str {a b : Str} (h : a ≠ b) : decide (V.str a = V.str b) = false := decide_eq_false fun z => h (V.str.inj z)
theorem dec_strT (a : Str) : decide (V.str a = V.str a) = true := decide_eq_true rfl
/-- what stands at a wish, and what its word tells -/
theorem wi_open2 {K : PySem.W.Frag} {H : Hp} {wv : V} {wi : Wi} (h : Vd K H wv wi.data) : ∃ (b : Addr) (tag : Str) (ts : List V), wv = .ref b ∧ SqT K H b (.str tag :: ts) ∧
    ((∃ n d u, tag = "put" ∧ wi = .put n d ∧ ts = [.str n, u] ∧ Vd K H u d) ∨ (decide (V.str tag = V.str "put") = false ∧ ∀ a : La, a.put wi = a)) ∧ decide (V.str tag = V.str "barrier") = wi.isBar ∧ decide (V.str tag = V.str "flush") = wi.isFlu := by
  obtain ⟨b, tag, ts, e, q, ⟨n, rfl, rfl, rfl⟩ | ⟨n, d, u, rfl, rfl, rfl, hu⟩ | ⟨rfl, rfl, rfl⟩ | ⟨rfl, rfl, rfl⟩⟩ := wi_open h
  · exact ⟨b, _, _, e, q, .inr ⟨dec_str (by decide), fun a => rfl⟩, dec_str (by decide), dec_str (by decide)⟩
  · exact ⟨b, _, _, e, q, .inl ⟨n, d, u, rfl, rfl, rfl, hu⟩, dec_str (by decide), dec_str (by decide)⟩
  · exact ⟨b, _, _, e, q, .inr ⟨dec_str (by decide), fun a => rfl⟩, dec_strT _, dec_str (by decide)⟩
  · exact ⟨b, _, _, e, q, .inr ⟨dec_str (by decide), fun a => rfl⟩, dec_str (by decide), dec_strT _⟩
/-- the walk's names and sizes -/
structure LaFine (ks : List Str) (a : La) (n : Nat) : Prop where
  kf : a.fd.map (·.1) = ks
  nm : ∀ e ∈ a.ep, ∀ p ∈ e, p.1 ∈ ks
  ne : a.ep ≠ []
  el : a.ep.length ≤ n
  pl : ∀ e ∈ a.ep, e.length ≤ n
section
variable {ks : List Str} {a : La} {n : Nat}
theorem LaFine.up (h : LaFine ks a n) {m : Nat} (hm : n ≤ m) : LaFine ks a m := ⟨h.kf, h.nm, h.ne, Nat.le_trans h.el hm, fun e he => Nat.le_trans (h.pl e he) hm⟩
theorem last_mem {ep : List Pgs} (h : ep ≠ []) : ep.getLastD [] ∈ ep := by
  rw [List.getLastD_eq_getLast?, List.getLast?_eq_some_getLast h]
  exact List.getLast_mem h
theorem LaFine.put (h : LaFine ks a n) {w : Wi} (hw : ∀ m d, w = .put m d → m ∈ ks) : LaFine ks (a.put w) (n + 1) := by
  cases w with
  | put m d =>
    refine ⟨h.kf, fun e he p hp => ?_, ?_, ?_, fun e he => ?_⟩
    · have he' : e ∈ a.ep.dropLast ++ [a.ep.getLastD [] ++ [(m, d)]] := he
      rcases List.mem_append.mp he' with z | z
      · exact h.nm e ((List.dropLast_sublist _).subset z) p hp
      · rw [List.mem_singleton.mp z] at hp
        rcases List.mem_append.mp hp with z | z
        · exact h.nm _ (last_mem h.ne) p z
        · rw [List.mem_singleton.mp z]; exact hw m d rfl
    · show a.ep.dropLast ++ [a.ep.getLastD [] ++ [(m, d)]] ≠ []
      simp
    · show (a.ep.dropLast ++ [a.ep.getLastD [] ++ [(m, d)]]).length ≤ n + 1
      rw [List.length_append, List.length_dropLast, List.length_singleton]
      have := h.el
      omega
    · have he' : e ∈ a.ep.dropLast ++ [a.ep.getLastD [] ++ [(m, d)]] := he
      rcases List.mem_append.mp he' with z | z
      · exact Nat.le_succ_of_le (h.pl e ((List.dropLast_sublist _).subset z))
      · rw [List.mem_singleton.mp z, List.length_append, List.length_singleton]
        have := h.pl _ (last_mem h.ne)
        omega
  | _ => exact h.up (Nat.le_succ _)
theorem LaFine.bar (h : LaFine ks a n) (b : Bool) : LaFine ks (a.bar b) (n + 1) := by
  cases b with
  | false => exact h.up (Nat.le_succ _)
  | true =>
    refine ⟨h.kf, fun e he p hp => ?_, ?_, ?_, fun e he => ?_⟩
    · have he' : e ∈ a.ep ++ [[]] := he
      rcases List.mem_append.mp he' with z | z
      · exact h.nm e z p hp
      · rw [List.mem_singleton.mp z] at hp
        cases hp
    · show a.ep ++ [[]] ≠ []
      simp
    · show (a.ep ++ [[]]).length ≤ n + 1
      rw [List.length_append, List.length_singleton]
      exact Nat.succ_le_succ h.el
    · have he' : e ∈ a.ep ++ [[]] := he
      rcases List.mem_append.mp he' with z | z
      · exact Nat.le_succ_of_le (h.pl e z)
      · rw [List.mem_singleton.mp z]; exact Nat.zero_le _
theorem LaFine.flu (h : LaFine ks a n) (hn : 1 ≤ n) (b : Bool) : LaFine ks (a.flu b) n := by
  cases b with
  | false => exact h
  | true =>
    refine ⟨by show (pgPuts a.fd a.ep.flatten).map (·.1) = ks; rw [pgPuts_keys, h.kf], fun e he p hp => ?_, by show ([[]] : List Pgs) ≠ []; simp, hn, fun e he => ?_⟩
    · rw [List.mem_singleton.mp (show e ∈ [[]] from he)] at hp
      cases hp
    · rw [List.mem_singleton.mp (show e ∈ [[]] from he)]; exact Nat.zero_le _
theorem LaFine.step (h : LaFine ks a n) (sp fl : List V) (i : Nat) {w : Wi} (hw : ∀ m d, w = .put m d → m ∈ ks) : LaFine ks (a.step sp fl i w) (n + 2) := ((h.put hw).bar _).flu (by omega) _
theorem walk_fine (sp fl : List V) (hks : a.fd.map (·.1) = ks) (hep : a.ep = [[]]) {ws : List Wi} (hp : ∀ m d, .put m d ∈ ws → m ∈ ks) : ∀ i, i ≤ ws.length → LaFine ks (La.walk sp fl 0 a (ws.take i)) (2 * i + 1)
  | 0, _ => by
    rw [List.take_zero]
    have z : LaFine ks a 1 := by
      refine ⟨hks, fun e he p hp => ?_, ?_, ?_, fun e he => ?_⟩
      · rw [hep] at he
        rw [List.mem_singleton.mp he] at hp
        cases hp
      · rw [hep]; simp
      · rw [hep]; exact Nat.le_refl _
      · rw [hep] at he
        rw [List.mem_singleton.mp he]; exact Nat.zero_le _
    exact z
  | i + 1, hi => by
    have hi' : i < ws.length := hi
    rw [take_succ' (List.getElem?_eq_getElem hi'), La.walk_snoc]
    exact (walk_fine sp fl hks hep hp i (by omega)).step sp fl _ fun m d e => hp m d (by rw [← e]; exact List.getElem_mem hi')
end
/-- a pair of a step -/
theorem st_open {K : PySem.W.Frag} {H : Hp} {v : V} {p : Wi × PyData} (h : Vd K H v (stD p)) : ∃ (a : Addr) (wv av : V), v = .ref a ∧ SqT K H a [wv, av] ∧ Vd K H wv p.1.data ∧ Vd K H av p.2 := by
  obtain ⟨a, us, rfl, q, hd⟩ := Vd.untup (ds := [p.1.data, p.2]) h
  cases hd with
  | cons h1 hd =>
    cases hd with
    | cons h2 hd =>
      cases hd with
      | nil => exact ⟨a, _, _, rfl, q, h1, h2⟩
/-! ### lists of the epochs -/
/-- a list of the pairs of an epoch -/
def EpAt (K : PySem.W.Frag) (H : Hp) (b : Addr) (e : Pgs) : Prop := ∃ vs, H b = some (.lst vs) ∧ Vds K H vs (e.map fun p => .tuple [.str p.1, p.2])
theorem EpAt.keep {K : PySem.W.Frag} {fp : List Addr} {H H' : Hp} {b : Addr} {e : Pgs} (h : EpAt K H b e) (nt : NoT fp H) (hb : b ∉ fp) (k : Keep fp H H') : EpAt K H' b e := by
  obtain ⟨vs, e1, h1⟩ := h
  exact ⟨vs, k _ _ e1 hb (fun _ z => by cases z), h1.keep nt k⟩
/-- the law's own walk on the heap: the disk at fd, the epochs at el -/
structure LtInv (K : PySem.W.Frag) (G : Tb) (pr : List (Addr × List V)) (H0 H : Hp) (fd el : Addr) (as : List Addr) (a : La) : Prop where
  s : Stp G [] H0 H
  w : ∃ kvs, H fd = some (.dK kvs) ∧ KvD K H kvs a.fd
  l : H el = some (.lst (as.map V.ref))
  p : Paired (EpAt K H) as a.ep
  ffd : Fr0 H0 fd
  fel : Fr0 H0 el
  fas : ∀ b ∈ as, Fr0 H0 b
  nd : as.Nodup
  ne : el ∉ as
  pl : ∀ p ∈ pr, H p.1 = some (.lst p.2) ∧ p.1 ≠ el ∧ p.1 ∉ as
section
variable {K : PySem.W.Frag} {G : Tb} {pr : List (Addr × List V)} {H0 H H' : Hp} {fd el : Addr} {as : List Addr} {a : La}
theorem LtInv.new (h : LtInv K G pr H0 H fd el as a) (S : Stp G [] H H') : LtInv K G pr H0 H' fd el as a := by
  obtain ⟨kvs, e, hk⟩ := h.w
  exact ⟨h.s.trans S, ⟨kvs, S.k _ _ e (by simp) (fun _ z => by cases z), hk.keep noT_nil S.k⟩, S.k _ _ h.l (by simp) (fun _ z => by cases z), Paired.mapP h.p fun _ _ z => z.keep noT_nil (by simp) S.k, h.ffd, h.fel, h.fas, h.nd, h.ne, fun p hp => ⟨S.k _ _ (h.pl p hp).1 (by simp) (fun _ z => by cases z), (h.pl p hp).2⟩⟩
theorem LtInv.len (h : LtInv K G pr H0 H fd el as a) : as.length = a.ep.length := Paired.length h.p
theorem LtInv.fdn (h : LtInv K G pr H0 H fd el as a) : fd ≠ el ∧ fd ∉ as := by
  obtain ⟨kvs, e, hk⟩ := h.w
  refine ⟨fun z => ?_, fun z => ?_⟩
  · rw [z, h.l] at e
    cases e
  · obtain ⟨i, hi, he⟩ := List.getElem_of_mem z
    obtain ⟨b, _, ⟨vs, q, _⟩⟩ := Paired.at1 h.p (List.getElem?_eq_getElem hi)
    rw [he, e] at q
    cases q
/-- the disk's page is put -/
theorem LtInv.setFd (h : LtInv K G pr H0 H fd el as a) {kvs : List (Key × V)} (e : H fd = some (.dK kvs)) {n : Str} {v : V} {d d0 : PyData} (hg : pgGet a.fd n = some d0) (hv : Vd K H v d) : LtInv K G pr H0 (upd H fd (.dK (putK kvs (.inr n) v))) fd el as ⟨pgSet a.fd n d, a.ep⟩ := by
  obtain ⟨kvs', e', hk⟩ := h.w
  rw [e] at e'
  cases e'
  obtain ⟨n1, n2⟩ := h.fdn
  have S : Stp G [fd] H (upd H fd (.dK (putK kvs (.inr n) v))) := .put h.s.t (by simp) e notc_dK
  have nt : NoT [fd] H := fun b hb => by
    rw [List.mem_singleton.mp hb, e]
    exact ⟨(fun _ z => by cases z), fun _ _ z => by cases z⟩
  refine ⟨Stp.fresh h.s.k S (fun x hx => by rw [List.mem_singleton.mp hx]; exact h.ffd), ⟨_, upd_same, (kvD_put hv hk hg).keep nt S.k⟩, S.k _ _ h.l (by simp; exact Ne.symm n1) (fun _ z => by cases z), ?_, h.ffd, h.fel, h.fas, h.nd, h.ne, fun p hp => ⟨S.k _ _ (h.pl p hp).1 (by simp; intro z; have := (h.pl p hp).1; rw [z, e] at this; cases this) (fun _ z => by cases z), (h.pl p hp).2⟩⟩
  exact Paired.mapM h.p fun b q hb z => z.keep nt (fun y => n2 (by rw [← List.mem_singleton.mp y]; exact hb)) S.k
theorem ep_split {a : La} (hne : a.ep ≠ []) : a.ep = a.ep.dropLast ++ [a.ep.getLastD []] := by
  rw [List.getLastD_eq_getLast?, List.getLast?_eq_some_getLast hne]
  exact (List.dropLast_concat_getLast hne).symm
theorem paired_split {α β : Type} {F : α → β → Prop} : ∀ {x y : List α} {u w : List β}, x.length = u.length → Paired F (x ++ y) (u ++ w) → Paired F x u ∧ Paired F y w := by
  intro x
  induction x with
  | nil => intro y u w hlen hq; cases u with
    | nil => exact ⟨.nil, hq⟩
    | cons _ _ => cases hlen
  | cons c x ih => intro y u w hlen hq; cases u with
    | nil => cases hlen
    | cons q u =>
      cases hq with
      | cons h1 h2 =>
        obtain ⟨i1, i2⟩ := ih (by simpa using hlen) h2
        exact ⟨.cons h1 i1, i2⟩
/-- the last epoch's list -/
theorem LtInv.last (h : LtInv K G pr H0 H fd el as a) (hne : a.ep ≠ []) : ∃ as0 b, as = as0 ++ [b] ∧ ∃ vs, H b = some (.lst vs) ∧ vs.length = (a.ep.getLastD []).length := by
  have hl := h.len
  have has : as ≠ [] := fun z => by
    rw [z] at hl
    exact hne (List.length_eq_zero_iff.mp hl.symm)
  have e1 : as = as.dropLast ++ [as.getLast has] := (List.dropLast_concat_getLast has).symm
  have e2 := ep_split hne
  have hp := h.p
  generalize as.dropLast = as0 at *
  generalize as.getLast has = b at *
  rw [e1, e2] at hp
  have hl0 : as0.length = a.ep.dropLast.length := by
    rw [e1, e2] at hl
    simpa using hl
  obtain ⟨_, hp2⟩ := paired_split hl0 hp
  cases hp2 with
  | cons hb _ =>
    obtain ⟨vs, eb, hvs⟩ := hb
    exact ⟨as0, b, e1, vs, eb, by rw [hvs.len, List.length_map]⟩
/-- the last epoch grows -/
theorem LtInv.push (h : LtInv K G pr H0 H fd el as a) (hne : a.ep ≠ []) {as0 : List Addr} {b : Addr} (e1 : as = as0 ++ [b]) {vs : List V} (eb : H b = some (.lst vs)) {n : Str} {v : V} {d : PyData} (hv : Vd K H v (.tuple [.str n, d])) :
    LtInv K G pr H0 (upd H b (.lst (vs ++ [v]))) fd el as ⟨a.fd, a.ep.dropLast ++ [a.ep.getLastD [] ++ [(n, d)]]⟩ := by
  have hl := h.len
  have e2 := ep_split hne
  have hp := h.p
  generalize a.ep.getLastD [] = ep1 at *
  generalize a.ep.dropLast = ep0 at *
  rw [e1, e2] at hp
  have hl0 : as0.length = ep0.length := by
    rw [e1, e2] at hl
    simpa using hl
  obtain ⟨hp0, hp2⟩ := paired_split hl0 hp
  have hnd := h.nd
  rw [e1] at hnd
  have hb0 : b ∉ as0 := fun z => by
    rw [List.nodup_append] at hnd
    exact hnd.2.2 b z b (by simp) rfl
  obtain ⟨n1, n2⟩ := h.fdn
  have S : Stp G [b] H (upd H b (.lst (vs ++ [v]))) := .put h.s.t (by simp) eb notc_lst
  have nt : NoT [b] H := noT_lst eb
  have hbas : b ∈ as := by rw [e1]; simp
  have nbl : el ≠ b := fun z => h.ne (by rw [z]; exact hbas)
  have nbf : fd ≠ b := fun z => n2 (by rw [z]; exact hbas)
  obtain ⟨kvs, e, hk⟩ := h.w
  refine ⟨Stp.fresh h.s.k S (fun x hx => by rw [List.mem_singleton.mp hx]; exact h.fas b hbas), ⟨kvs, S.k _ _ e (by simp; exact nbf) (fun _ z => by cases z), hk.keep nt S.k⟩, S.k _ _ h.l (by simp; exact nbl) (fun _ z => by cases z), ?_, h.ffd, h.fel, h.fas, h.nd, h.ne, fun p hp => ⟨S.k _ _ (h.pl p hp).1 (by simp; intro z; exact (h.pl p hp).2.2 (by rw [z]; exact hbas)) (fun _ z => by cases z), (h.pl p hp).2⟩⟩
  rw [e1]
  cases hp2 with
  | cons hb _ =>
    obtain ⟨vs', eb', hvs⟩ := hb
    rw [eb] at eb'
    cases eb'
    refine Paired.app (Paired.mapM hp0 fun c q hc z => z.keep nt (fun y => hb0 (by rw [← List.mem_singleton.mp y]; exact hc)) S.k) (.cons ⟨_, upd_same, ?_⟩ .nil)
    rw [List.map_append]
    exact (hvs.snoc (d := .tuple [.str n, d]) hv).keep nt S.k
/-- an epoch more -/
theorem LtInv.more (h : LtInv K G pr H0 H fd el as a) {q : Addr} (hq : H q = none) : LtInv K G pr H0 (upd (upd H q (.lst [])) el (.lst (as.map V.ref ++ [.ref q]))) fd el (as ++ [q]) ⟨a.fd, a.ep ++ [[]]⟩ := by
  have S1 : Stp G [] H (upd H q (.lst [])) := .new h.s.t hq
  have h1 := h.new S1
  have eq1 : upd H q (.lst []) q = some (.lst []) := upd_same
  have nq : q ∉ as := fun z => by
    obtain ⟨i, hi, he⟩ := List.getElem_of_mem z
    obtain ⟨b, _, ⟨vs, e, _⟩⟩ := Paired.at1 h.p (List.getElem?_eq_getElem hi)
    rw [he, hq] at e
    cases e
  have nel : el ≠ q := fun z => by
    have := h.l
    rw [z, hq] at this
    cases this
  have fq : Fr0 H0 q := h.s.k.fr0 (by simp) (fr0_none hq)
  generalize upd H q (.lst []) = H1 at *
  have S2 : Stp G [el] H1 (upd H1 el (.lst (as.map V.ref ++ [.ref q]))) := .put h1.s.t (by simp) h1.l notc_lst
  have nt := noT_lst h1.l
  obtain ⟨n1, n2⟩ := h1.fdn
  obtain ⟨kvs, e, hk⟩ := h1.w
  refine ⟨Stp.fresh h1.s.k S2 (fun x hx => by rw [List.mem_singleton.mp hx]; exact h.fel), ⟨kvs, S2.k _ _ e (by simp; exact n1) (fun _ z => by cases z), hk.keep nt S2.k⟩, by rw [upd_same, List.map_append] <;> rfl, ?_, h.ffd, h.fel, fun b hb => ?_, ?_, fun z => ?_, fun p hp => ⟨S2.k _ _ (h1.pl p hp).1 (by simp; exact (h1.pl p hp).2.1) (fun _ z => by cases z), (h1.pl p hp).2.1, fun z => ?_⟩⟩
  · refine Paired.app (Paired.mapM h1.p fun c q hc z => z.keep nt (fun y => h.ne (by rw [← List.mem_singleton.mp y]; exact hc)) S2.k) (.cons ⟨[], S2.k _ _ eq1 (by simp; exact Ne.symm nel) (fun _ z => by cases z), .nil⟩ .nil)
  · rcases List.mem_append.mp hb with hb | hb
    · exact h.fas b hb
    · rw [List.mem_singleton.mp hb]; exact fq
  · rw [List.nodup_append]
    exact ⟨h.nd, by simp, fun x hx y hy => by rw [List.mem_singleton.mp hy]; exact fun z => nq (by rw [← z]; exact hx)⟩
  · rcases List.mem_append.mp z with z | z
    · exact h.ne z
    · exact nel (List.mem_singleton.mp z)
  · rcases List.mem_append.mp z with z | z
    · exact (h.pl p hp).2.2 z
    · have := (h.pl p hp).1
      rw [List.mem_singleton.mp z, hq] at this
      cases this
/-- the epochs anew -/
theorem LtInv.reset (h : LtInv K G pr H0 H fd el as a) {q r : Addr} (hq : H q = none) (hr : upd H q (.lst []) r = none) : LtInv K G pr H0 (upd (upd H q (.lst [])) r (.lst [.ref q])) fd r [q] ⟨a.fd, [[]]⟩ := by
  have S1 : Stp G [] H (upd H q (.lst [])) := .new h.s.t hq
  have fq : Fr0 H0 q := h.s.k.fr0 (by simp) (fr0_none hq)
  have fr : Fr0 H0 r := (h.s.trans S1).k.fr0 (by simp) (fr0_none hr)
  have h2 := h.new (S1.snew (o := .lst [.ref q]) hr)
  have nqr : q ≠ r := ne_of_none upd_same hr
  refine ⟨h2.s, h2.w, upd_same, .cons ⟨[], by rw [upd_ne nqr]; exact upd_same, .nil⟩ .nil, h.ffd, fr, fun b hb => by rw [List.mem_singleton.mp hb]; exact fq, by simp, fun z => nqr (List.mem_singleton.mp z).symm, fun p hp => ⟨(h2.pl p hp).1, fun z => ?_, fun z => ?_⟩⟩
  · have := (h.pl p hp).1
    have := S1.k _ _ this (by simp) (fun _ z => by cases z)
    rw [z, hr] at this
    cases this
  · have := (h.pl p hp).1
    rw [List.mem_singleton.mp z, hq] at this
    cases this
end
end FW
namespace FW
open PySem PySem.Spec PyProof.Rows L2
theorem at0 {α : Type} {x : α} {xs : List α} : atI (x :: xs) 0 = some x := atI_nat (j := 0) rfl
theorem at1 {α : Type} {x y : α} {xs : List α} : atI (x :: y :: xs) 1 = some y := atI_nat (j := 1) rfl
theorem at2 {α : Type} {x y z : α} {xs : List α} : atI (x :: y :: z :: xs) 2 = some z := atI_nat (j := 2) rfl
end FW
namespace FW
open PySem PySem.Spec PyProof.Rows L2
/-- the puts among wishes -/
def putsOf : List Wi → Pgs
  | [] => []
  | .put n d :: r => (n, d) :: putsOf r
  | .look _ :: r => putsOf r
  | .bar :: r => putsOf r
  | .flu :: r => putsOf r
theorem putsOf_app : ∀ (a b : List Wi), putsOf (a ++ b) = putsOf a ++ putsOf b
  | [], _ => rfl
  | .put n d :: r, b => by
    show (n, d) :: putsOf (r ++ b) = (n, d) :: putsOf r ++ putsOf b
    rw [putsOf_app r b] <;> rfl
  | .look _ :: r, b => putsOf_app r b
  | .bar :: r, b => putsOf_app r b
  | .flu :: r, b => putsOf_app r b
end FW

namespace CC
open PySem PySem.Spec PyProof.Rows L2 XV XL UU
/-- e.f, e the exception that the suite holds (at a; its class cls, its dict d) -/
def tByX (K : PySem.W.Frag) (f : Str) (a : Addr) (cls : Value) (d : Option Addr) (te : TE) : TE := fun σ H Q => te σ H fun x H1 => x = .ref a ∧ ∃ (C dd : Addr) (fs : List (Str × V)) (v : V), cls = .ref C ∧ XfC K C ∧ PySem.W.findIn K (.ref C) f = some none ∧ d = some dd ∧ H1 dd = some (.xd fs) ∧ fs.lookup f = some v ∧ Q v H1
theorem pe_byX {X : Cx} {a : Addr} {oe : Obj} {cls : Value} {d : Option Addr} {pn : List (Addr × Obj)} {e : Expr} {te : TE} {pos : Pos} {f : Str} (hz : Zc cls d oe) (hf : ∃ vs, oe.data = .fields vs) (he : PE (X.suite a ((a, oe) :: pn)) e te)
    (hb : attributeBase e f X.env (eval e X.env) = eval e X.env := by rfl) :
    PE (X.suite a ((a, oe) :: pn)) (.Attribute e f pos) (tByX X.K f a cls d te) := by
  refine ⟨fun pins s σ H Q I h => ?_⟩
  refine attr_of hb (thn (he.run pins s σ H _ I h) fun u s1 hh => ?_)
  obtain ⟨x, H1, I1, rx, ex, C, dd, fs, v, ec, T, hno, ed, ea, l, q⟩ := hh
  subst ex
  obtain rfl : u = Value.ref a := rx
  subst ec
  subst ed
  obtain ⟨ha, _⟩ := I1.pin (a, oe) (List.mem_append_left _ List.mem_cons_self)
  obtain ⟨vs, hd⟩ := hf
  have hx : ObjOk X.prog X.w H1 s1.heap dd (.xd fs) := I1.hok dd _ ea
  obtain ⟨mA, hns, hr⟩ := hx
  obtain ⟨od, ho, hl⟩ := lookIn_ns hns
  obtain ⟨u, hu, ru⟩ := RelO.some_of (v := v) (o := mA f) (by rw [← l]; exact hr f)
  have J : PySem.W.InstAt s1.heap a oe C (some od) := ⟨ha, hz.1, by unfold PySem.W.notCls; rw [hd] <;> rfl, by rw [hz.2]; exact ho⟩
  exact HandSPX.exc_get I1.kIn J T.ga T.gg T.exC (PySem.W.findObj_own T.hdC hno rfl (by rw [hl, hu])) (handed_of ru) ⟨v, H1, I1.tok _, ru, q⟩
end CC

namespace FW
open PySem PySem.Spec PyProof.Rows L2 XV XL UU LamX NdefX GX GxR CC
/-! ### the way to a lambda's expression in a text -/
def nvE : Expr := .Constant .none 0 ⟨0, 0, 0, 0⟩
def nvS : Stmt := .Pass ⟨0, 0, 0, 0⟩
def nvAt (l : List Stmt) (i : Nat) : Stmt := l.getD i nvS
def nvFor : Stmt → List Stmt
  | .For _ _ b _ _ => b
  | _ => []
def nvIf : Stmt → List Stmt
  | .If _ b _ _ => b
  | _ => []
def nvTest : Stmt → Expr
  | .If t _ _ _ => t
  | _ => nvE
def nvVal : Stmt → Expr
  | .Assign _ v _ => v
  | .Expr v _ => v
  | .Return (some v) _ => v
  | _ => nvE
def nvNot : Expr → Expr
  | .UnaryOp _ e _ => e
  | _ => nvE
def nvArg : Expr → Nat → Expr
  | .Call _ as _ _, i => as.getD i nvE
  | _, _ => nvE
def nvEl : Expr → Nat → Expr
  | .List es _, i => es.getD i nvE
  | .Tuple es _ _, i => es.getD i nvE
  | _, _ => nvE
def lmP : Expr → Arguments
  | .Lambda p _ _ _ => p
  | _ => ⟨[], [], none, [], [], none, []⟩
def lmB : Expr → Expr
  | .Lambda _ b _ _ => b
  | e => e
def lmS : Expr → Scope
  | .Lambda _ _ s _ => s
  | _ => ⟨.function, [], false, false, []⟩
/-- the lambda e of a def, its cells given -/
def lmF (e : Expr) (q : Str) (cl : List (Str × Addr)) (c' : Addr) : NF := ⟨"<lambda>", q, lmP e, [], lmS e, cl, c'⟩
/-! ### a lambda over cells that are locked -/
theorem zip_lookup : ∀ {fr : List Str} {cs : List Addr} {y : Str} {c : Addr}, (fr.zip cs).lookup y = some c → ∃ i : Nat, fr[i]? = some y ∧ cs[i]? = some c
  | [], _, _, _, h => by simp at h
  | _ :: _, [], _, _, h => by simp at h
  | x :: fr, d :: cs, y, c, h => by
    rw [List.zip_cons_cons, List.lookup_cons] at h
    by_cases e : y = x
    · subst e
      simp at h
      subst h
      exact ⟨0, rfl, rfl⟩
    · rw [show (y == x) = false by simpa using e] at h
      obtain ⟨i, h1, h2⟩ := zip_lookup (fr := fr) (cs := cs) h
      exact ⟨i + 1, by simpa using h1, by simpa using h2⟩
theorem lookup_zip : ∀ {fr : List Str} {cs : List Addr} {i : Nat} {y : Str} {c : Addr}, fr.Nodup → fr[i]? = some y → cs[i]? = some c → (fr.zip cs).lookup y = some c
  | [], _, _, _, _, _, h, _ => by simp at h
  | _ :: _, [], _, _, _, _, _, h => by simp at h
  | x :: fr, d :: cs, 0, y, c, _, h1, h2 => by
    simp at h1 h2
    subst h1 h2
    rw [List.zip_cons_cons, List.lookup_cons]
    simp
  | x :: fr, d :: cs, i + 1, y, c, nd, h1, h2 => by
    obtain ⟨n1, n2⟩ := List.nodup_cons.mp nd
    have h1' : fr[i]? = some y := by simpa using h1
    have h2' : cs[i]? = some c := by simpa using h2
    rw [List.zip_cons_cons, List.lookup_cons]
    have e : y ≠ x := fun z => n1 (by rw [← z]; exact List.mem_of_getElem? h1')
    rw [show (y == x) = false by simpa using e]
    exact lookup_zip n2 h1' h2'
theorem lamAt_of {H : Hp} {f : Addr} {F : NF} {b : Expr} {fr : List Str} {cs : List Addr} {ws : List V} (fn : H f = some (LamO f F b)) (cd : H F.c = some (CodeO F.c F.qual)) (e : F.cl = fr.zip cs) (hl : cs.length = fr.length) (lw : ws.length = fr.length) (nd : cs.Nodup) (ndf : fr.Nodup)
    (hc : ∀ (i : Nat) (c : Addr) (v : V), cs[i]? = some c → ws[i]? = some v → CellT H c v) : LamAt H f F b fr ws := by
  refine ⟨fn, cd, fun y c h => ?_, fun x y c h1 h2 => ?_, lw, fun i y h => ?_⟩
  · rw [e] at h
    obtain ⟨i, h1, h2⟩ := zip_lookup h
    have hi : i < ws.length := by rw [lw]; exact (List.getElem?_eq_some_iff.mp h1).1
    exact ⟨ws[i], hc i c _ h2 (List.getElem?_eq_getElem hi)⟩
  · rw [e] at h1 h2
    obtain ⟨i, a1, a2⟩ := zip_lookup h1
    obtain ⟨j, b1, b2⟩ := zip_lookup h2
    have hij : i = j := by
      obtain ⟨p1, p2⟩ := List.getElem?_eq_some_iff.mp a2
      obtain ⟨q1, q2⟩ := List.getElem?_eq_some_iff.mp b2
      exact (List.getElem_inj nd).mp (by rw [p2, q2])
    subst hij
    rw [a1] at b1
    exact Option.some.inj b1
  · have hi : i < cs.length := by rw [hl]; exact (List.getElem?_eq_some_iff.mp h).1
    exact ⟨cs[i], by rw [e]; exact lookup_zip ndf h (List.getElem?_eq_getElem hi), fun v hv => hc i _ v (List.getElem?_eq_getElem hi) hv⟩
/-! ### behind a call with the frame's cells locked -/
section
variable {X : Cx} {σ : L2.St} {H Hc H2 : Hp} {G : Tb}
theorem lkd_keep (L : Lkd X σ H Hc) : Keep [] H Hc := fun b o e _ _ => by
  rw [L.out b fun z => by rw [L.free b z] at e; cases e]
  exact e
theorem lkd_own (L : Lkd X σ H Hc) {b : Addr} {o : HO} (e : H b = some o) : Hc b = some o := by
  rw [L.out b fun z => by rw [L.free b z] at e; cases e]
  exact e
theorem lkd_tbs (L : Lkd X σ H Hc) (t : Tbs G H) : Tbs G Hc := t.keep (fun b ps e => lkd_own L e) (fun b c q e => lkd_own L e)
theorem lk_keep {cs : List Addr} (l : Lk cs Hc) (k : Keep [] Hc H2) : Lk cs H2 := fun c hc => by
  obtain ⟨o, e⟩ := l c hc
  exact ⟨o, k _ _ e (by simp) fun _ z => by cases z⟩
theorem lkd_stp (L : Lkd X σ H Hc) (S : Stp G [] Hc H2) : Stp G [] H (off (ownC X) H2) := by
  refine ⟨fun b o e _ nt => ?_, tbs_off (lk_keep L.lk S.k) S.t⟩
  have nb : b ∉ ownC X := fun z => by rw [L.free b z] at e; cases e
  show (if b ∈ ownC X then none else H2 b) = some o
  rw [if_neg nb]
  exact S.k _ _ (lkd_own L e) (by simp) nt
theorem off_at {cs : List Addr} {H : Hp} {b : Addr} {o : HO} (l : Lk cs H) (e : H b = some o) (n : ∀ u v, o ≠ .frz u v) : off cs H b = some o := by
  show (if b ∈ cs then none else H b) = some o
  rw [if_neg (l.out e n)]
  exact e
end
end FW

namespace FW
open PySem PySem.Spec PyProof.Rows L2 XV XL UU LamX NdefX GX GxR CC
/-! ### the names of wishes; the sizes of moments -/
def Wi.nm (ks : List Str) : Wi → Prop
  | .put n _ => n ∈ ks
  | .look n => n ∈ ks
  | _ => True
theorem go_nm {ks : List Str} {es : ES} {w : Wi} (h : ∀ p ∈ es.steps, Wi.nm ks p.1) (hw : w.nm ks) : ∀ p ∈ (es.go w).steps, Wi.nm ks p.1 := fun p hp => by
  have hp' : p ∈ es.steps ++ [(w, es.ans w)] := hp
  rcases List.mem_append.mp hp' with z | z
  · exact h p z
  · rw [List.mem_singleton.mp z]; exact hw
theorem execR_nm {ks : List Str} : ∀ (n : Nat) (rs : List RowD) (ns : Nts) (es : ES), rs.length ≤ n → (∀ r ∈ rs, r.ok ks) → (∀ p ∈ es.steps, Wi.nm ks p.1) → ∀ p ∈ (execR rs ns es).1.steps, Wi.nm ks p.1 := by
  intro n
  induction n with
  | zero =>
    intro rs ns es hn _ h
    obtain rfl : rs = [] := List.length_eq_zero_iff.mp (by omega)
    rw [execR]
    exact h
  | succ n ih =>
    intro rs ns es hn hr h
    cases rs with
    | nil =>
      rw [execR]
      exact h
    | cons r rs =>
      have hn' : rs.length ≤ n := by rw [List.length_cons] at hn; omega
      have hr' : ∀ r ∈ rs, r.ok ks := fun q hq => hr q (List.mem_cons_of_mem _ hq)
      have h0 := hr r (by simp)
      cases r with
      | skip m d k =>
        rw [execR]
        split
        · exact ih _ ns es (by rw [List.length_drop]; omega) (fun q hq => hr' q (List.mem_of_mem_drop hq)) h
        · exact ih _ ns es hn' hr' h
      | say p => rw [execR]; exact ih _ ns (es.say _) hn' hr' h
      | put nm p => rw [execR]; exact ih _ _ (es.go _) hn' hr' (go_nm h h0.1)
      | look nm m => rw [execR]; exact ih _ _ (es.go _) hn' hr' (go_nm h h0)
      | bar => rw [execR]; exact ih _ _ (es.go _) hn' hr' (go_nm h True.intro)
      | flu => rw [execR]; exact ih _ _ (es.go _) hn' hr' (go_nm h True.intro)
      | fail p => rw [execR]; exact h
      | back p => rw [execR]; exact h
theorem MoFew.up {m : Mo} {n k : Nat} (h : MoFew m n) (hk : n ≤ k) : MoFew m k := ⟨h.pg, h.ne, Nat.le_trans h.ep hk, fun e he => Nat.le_trans (h.la e he) hk⟩
theorem momsFrom_few (sp fl : List V) : ∀ (ws : List Wi) (i : Nat) (m : Mo) (n : Nat), MoFew m n → 1 ≤ n → ∀ m' ∈ momsFrom sp fl i m ws, MoFew m' (n + 2 * ws.length)
  | [], _, _, _, _, _, m', h => by cases h
  | w :: ws, i, m, n, h, hn, m', hm => by
    have h1 : MoFew (if inV (.int (i : Nat)) sp then m else m.after w) (n + 1) := by
      split
      · exact h.up (Nat.le_succ _)
      · exact h.after hn w
    have h2 : MoFew (if inV (.int (i : Nat)) fl then (if inV (.int (i : Nat)) sp then m else m.after w).after .flu else (if inV (.int (i : Nat)) sp then m else m.after w)) (n + 2) := by
      split
      · exact h1.after (by omega) .flu
      · exact h1.up (Nat.le_succ _)
    rw [momsFrom_cons] at hm
    rcases List.mem_cons.mp hm with rfl | hm
    · exact h2.up (by rw [List.length_cons]; omega)
    · exact (momsFrom_few sp fl ws (i + 1) _ (n + 2) h2 (by omega) m' hm).up (by rw [List.length_cons]; omega)
/-! ### the walk tells the pages -/
theorem walk_puts (sp fl : List V) : ∀ (ws : List Wi) (i : Nat) (a : La), a.ep ≠ [] → (La.walk sp fl i a ws).ep ≠ [] ∧ pgPuts (La.walk sp fl i a ws).fd (La.walk sp fl i a ws).ep.flatten = pgPuts a.fd (a.ep.flatten ++ putsOf ws)
  | [], i, a, h => ⟨h, by show pgPuts a.fd a.ep.flatten = pgPuts a.fd (a.ep.flatten ++ []); rw [List.append_nil]⟩
  | w :: ws, i, a, h => by
    have hp : (a.put w).ep ≠ [] ∧ pgPuts (a.put w).fd (a.put w).ep.flatten = pgPuts a.fd (a.ep.flatten ++ putsOf [w]) := by
      cases w with
      | put n d =>
        refine ⟨by show a.ep.dropLast ++ [a.ep.getLastD [] ++ [(n, d)]] ≠ []; simp, ?_⟩
        show pgPuts a.fd (a.ep.dropLast ++ [a.ep.getLastD [] ++ [(n, d)]]).flatten = _
        rw [flat_last h] <;> rfl
      | look n => exact ⟨h, by show pgPuts a.fd a.ep.flatten = pgPuts a.fd (a.ep.flatten ++ []); rw [List.append_nil]⟩
      | bar => exact ⟨h, by show pgPuts a.fd a.ep.flatten = pgPuts a.fd (a.ep.flatten ++ []); rw [List.append_nil]⟩
      | flu => exact ⟨h, by show pgPuts a.fd a.ep.flatten = pgPuts a.fd (a.ep.flatten ++ []); rw [List.append_nil]⟩
    have hb : ∀ (c : La) (b : Bool), c.ep ≠ [] → (c.bar b).ep ≠ [] ∧ pgPuts (c.bar b).fd (c.bar b).ep.flatten = pgPuts c.fd c.ep.flatten := fun c b hc => by
      cases b with
      | false => exact ⟨hc, rfl⟩
      | true =>
        refine ⟨by show c.ep ++ [[]] ≠ []; simp, ?_⟩
        show pgPuts c.fd (c.ep ++ [[]]).flatten = _
        rw [List.flatten_append]
        simp
    have hf : ∀ (c : La) (b : Bool), c.ep ≠ [] → (c.flu b).ep ≠ [] ∧ pgPuts (c.flu b).fd (c.flu b).ep.flatten = pgPuts c.fd c.ep.flatten := fun c b hc => by
      cases b with
      | false => exact ⟨hc, rfl⟩
      | true => exact ⟨by show ([[]] : List Pgs) ≠ []; simp, rfl⟩
    have h1 := hb _ (w.isBar && !inV (.int (i : Nat)) sp) hp.1
    have h2 := hf _ ((w.isFlu && !inV (.int (i : Nat)) sp) || inV (.int (i : Nat)) fl) h1.1
    have h3 := walk_puts sp fl ws (i + 1) (a.step sp fl i w) h2.1
    refine ⟨h3.1, ?_⟩
    show pgPuts (La.walk sp fl (i + 1) (a.step sp fl i w) ws).fd (La.walk sp fl (i + 1) (a.step sp fl i w) ws).ep.flatten = _
    rw [h3.2, pgPuts_app]
    show pgPuts (pgPuts (a.step sp fl i w).fd (a.step sp fl i w).ep.flatten) (putsOf ws) = _
    have e : pgPuts (a.step sp fl i w).fd (a.step sp fl i w).ep.flatten = pgPuts a.fd (a.ep.flatten ++ putsOf [w]) := h2.2.trans (h1.2.trans hp.2)
    rw [e, ← pgPuts_app, List.append_assoc, ← putsOf_app] <;> rfl
/-! ### flat values -/
theorem pgF_puts : ∀ (e fd : Pgs), PgF fd → PgF e → PgF (pgPuts fd e)
  | [], _, h, _ => h
  | p :: e, fd, h, he => pgF_puts e _ (PgF.set h (he p (by simp))) fun q hq => he q (List.mem_cons_of_mem _ hq)
theorem putsOf_flat : ∀ (ws : List Wi), (∀ w ∈ ws, Wi.fl w) → PgF (putsOf ws)
  | [], _ => fun _ h => by cases h
  | .put n d :: r, h => fun p hp => by
    rcases List.mem_cons.mp hp with rfl | hp
    · exact h (.put n d) (by simp)
    · exact putsOf_flat r (fun w hw => h w (List.mem_cons_of_mem _ hw)) p hp
  | .look _ :: r, h => putsOf_flat r fun w hw => h w (List.mem_cons_of_mem _ hw)
  | .bar :: r, h => putsOf_flat r fun w hw => h w (List.mem_cons_of_mem _ hw)
  | .flu :: r, h => putsOf_flat r fun w hw => h w (List.mem_cons_of_mem _ hw)
structure LaFl (a : La) : Prop where
  f : PgF a.fd
  e : ∀ e ∈ a.ep, PgF e
theorem LaFl.step {a : La} (h : LaFl a) (sp fl : List V) (i : Nat) {w : Wi} (hw : w.fl) : LaFl (a.step sp fl i w) := by
  have h1 : LaFl (a.put w) := by
    cases w with
    | put n d =>
      refine ⟨h.f, fun e he => ?_⟩
      have he' : e ∈ a.ep.dropLast ++ [a.ep.getLastD [] ++ [(n, d)]] := he
      rcases List.mem_append.mp he' with z | z
      · exact h.e e ((List.dropLast_sublist _).subset z)
      · rw [List.mem_singleton.mp z]
        intro p hp
        rcases List.mem_append.mp hp with y | y
        · by_cases hne : a.ep = []
          · rw [hne] at y; cases y
          · exact h.e _ (last_mem hne) p y
        · rw [List.mem_singleton.mp y]; exact hw
    | _ => exact h
  have h2 : ∀ b, LaFl ((a.put w).bar b) := fun b => by
    cases b with
    | false => exact h1
    | true =>
      refine ⟨h1.f, fun e he => ?_⟩
      have he' : e ∈ (a.put w).ep ++ [[]] := he
      rcases List.mem_append.mp he' with z | z
      · exact h1.e e z
      · rw [List.mem_singleton.mp z]; intro p hp; cases hp
  have h3 : ∀ b c, LaFl (((a.put w).bar b).flu c) := fun b c => by
    cases c with
    | false => exact h2 b
    | true =>
      refine ⟨pgF_puts _ _ (h2 b).f fun p hp => ?_, fun e he => ?_⟩
      · obtain ⟨e, he, hpe⟩ := List.mem_flatten.mp hp
        exact (h2 b).e e he p hpe
      · rw [List.mem_singleton.mp (show e ∈ [[]] from he)]; intro p hp; cases hp
  exact h3 _ _
theorem walk_fl (sp fl : List V) : ∀ (ws : List Wi) (i : Nat) (a : La), LaFl a → (∀ w ∈ ws, Wi.fl w) → LaFl (La.walk sp fl i a ws)
  | [], _, _, h, _ => h
  | w :: ws, i, a, h, hw => walk_fl sp fl ws (i + 1) _ (h.step sp fl i (hw w (by simp))) fun v hv => hw v (List.mem_cons_of_mem _ hv)
/-! ### what stands at epochs' lists, as data -/
def epL (es : List Pgs) : PyData := .list (es.map fun e => .list (e.map fun p => .tuple [.str p.1, p.2]))
theorem eps_dp {K : PySem.W.Frag} {H : Hp} : ∀ {as : List Addr} {es : List Pgs}, Paired (EpAt K H) as es → DpAll K H (as.map V.ref) (es.map fun e => .list (e.map fun p => .tuple [.str p.1, p.2]))
  | _, _, .nil => .nil
  | _, _, .cons ⟨vs, e, h⟩ t => .cons (.lst (SqL.of e) h.dpa) (eps_dp t)
theorem sml_pairs {e : Pgs} (h : PgF e) {x : PyData} (hx : x ∈ e.map fun p => PyData.tuple [.str p.1, p.2]) : Sml 5 x := by
  obtain ⟨p, hp, rfl⟩ := List.mem_map.mp hx
  exact sml_two True.intro (h p hp).sml
theorem sml_pgD {e : Pgs} (h : PgF e) (hl : e.length ≤ 100000) : Sml 6 (pgD e) := ⟨by rw [List.length_map]; exact hl, fun x hx => sml_pairs h hx⟩
theorem sml_epL {es : List Pgs} (h : ∀ e ∈ es, PgF e) (hl : es.length ≤ 100000) (hle : ∀ e ∈ es, e.length ≤ 100000) : Sml 7 (epL es) := ⟨by rw [List.length_map]; exact hl, fun x hx => by
  obtain ⟨e, he, rfl⟩ := List.mem_map.mp hx
  exact ⟨by rw [List.length_map]; exact hle e he, fun y hy => sml_pairs (h e he) hy⟩⟩
end FW
namespace FW
open PySem PySem.Spec PyProof.Rows L2 XV XL UU
theorem valV_none_any {kvs : List (Key × V)} {k : Key} (h : valV kvs k = none) : (kvs.any fun kv => decide (kv.1 = k)) = false := by
  rw [valV_any, h] <;> rfl
/-- a new page is put behind the others -/
theorem kvD_new {K : PySem.W.Frag} {H : Hp} {n : Str} {v : V} {d : PyData} {kvs : List (Key × V)} {ps : Pgs} (hv : Vd K H v d) (h : KvD K H kvs ps) (hg : pgGet ps n = none) : KvD K H (putK kvs (.inr n) v) (ps ++ [(n, d)]) := by
  have e := (kvD_get (n := n) h).2 hg
  unfold putK
  rw [if_neg (by rw [valV_none_any e]; simp)]
  exact Paired.app h (.cons ⟨rfl, hv⟩ .nil)
end FW

/-! what falls can keep, as numbers: the program's blocks and the law's trying of all counts -/
namespace FW
open PySem
abbrev Kp : Type := Nat × Nat
def ltK (a b : Kp) : Prop := a.1 < b.1 ∨ (a.1 = b.1 ∧ a.2 < b.2)
def ltC : List Kp → List Kp → Prop
  | x :: xs, y :: ys => ltK x y ∨ (x = y ∧ ltC xs ys)
  | _, _ => False
theorem ltK_irr {a : Kp} : ¬ ltK a a := fun h => by unfold ltK at h; omega
theorem ltK_tr {a b c : Kp} (h1 : ltK a b) (h2 : ltK b c) : ltK a c := by unfold ltK at *; omega
theorem ltC_irr : ∀ {a : List Kp}, ¬ ltC a a
  | [], h => h
  | x :: xs, h => by
    rcases h with h | ⟨_, h⟩
    · exact ltK_irr h
    · exact ltC_irr h
theorem ltC_tr : ∀ {a b c : List Kp}, ltC a b → ltC b c → ltC a c
  | x :: xs, y :: ys, z :: zs, h1, h2 => by
    rcases h1 with h1 | ⟨e1, h1⟩
    · rcases h2 with h2 | ⟨e2, h2⟩
      · exact .inl (ltK_tr h1 h2)
      · subst e2; exact .inl h1
    · subst e1
      rcases h2 with h2 | ⟨e2, h2⟩
      · exact .inl h2
      · exact .inr ⟨e2, ltC_tr h1 h2⟩
  | [], _, _, h, _ => h.elim
  | _ :: _, [], _, h, _ => h.elim
  | _ :: _, _ :: _, [], _, h => h.elim
/-- two strictly ascending lists of the same things are one -/
theorem asc_eq {l m : List (List Kp)} (hl : l.Pairwise ltC) (hm : m.Pairwise ltC) (h : ∀ x, x ∈ l ↔ x ∈ m) : l = m := by
  have n1 : l.Nodup := hl.imp fun h e => by subst e; exact ltC_irr h
  have n2 : m.Nodup := hm.imp fun h e => by subst e; exact ltC_irr h
  exact List.Perm.eq_of_pairwise (le := ltC) (fun a b _ _ h1 h2 => (ltC_irr (ltC_tr h1 h2)).elim) hl hm ((List.perm_ext_iff_of_nodup n1 n2).mpr h)
/-! ### products -/
def prodR {α : Type} : List (List α) → List (List α)
  | [] => [[]]
  | r :: rs => r.flatMap fun x => (prodR rs).map (x :: ·)
/-- each thing is in its row -/
inductive Each {α β : Type} (F : α → β → Prop) : List α → List β → Prop where
  | nil : Each F [] []
  | cons {a : α} {b : β} {as : List α} {bs : List β} : F a b → Each F as bs → Each F (a :: as) (b :: bs)
theorem mem_prod {α : Type} : ∀ {rs : List (List α)} {c : List α}, c ∈ prodR rs ↔ Each (fun x r => x ∈ r) c rs
  | [], c => by
    constructor
    · intro h
      rw [List.mem_singleton.mp (show c ∈ [[]] from h)]
      exact .nil
    · intro h
      cases h
      exact List.mem_singleton.mpr rfl
  | r :: rs, c => by
    constructor
    · intro h
      obtain ⟨x, hx, hc⟩ := List.mem_flatMap.mp h
      obtain ⟨d, hd, rfl⟩ := List.mem_map.mp hc
      exact .cons hx (mem_prod.mp hd)
    · intro h
      cases h with
      | cons hx ht => exact List.mem_flatMap.mpr ⟨_, hx, List.mem_map.mpr ⟨_, mem_prod.mpr ht, rfl⟩⟩
theorem prod_asc : ∀ {rs : List (List Kp)}, (∀ r ∈ rs, r.Pairwise ltK) → (prodR rs).Pairwise ltC
  | [], _ => .cons (fun _ h => by cases h) .nil
  | r :: rs, h => by
    have ih := prod_asc (rs := rs) fun q hq => h q (List.mem_cons_of_mem _ hq)
    have hr := h r (List.mem_cons_self ..)
    show (r.flatMap fun x => (prodR rs).map (x :: ·)).Pairwise ltC
    clear h
    induction r with
    | nil => exact .nil
    | cons x r ihr =>
      rw [List.flatMap_cons, List.pairwise_append]
      obtain ⟨h1, h2⟩ := List.pairwise_cons.mp hr
      refine ⟨?_, ihr h2, fun a ha b hb => ?_⟩
      · rw [List.pairwise_map]
        exact ih.imp fun z => .inr ⟨rfl, z⟩
      · obtain ⟨c, _, rfl⟩ := List.mem_map.mp ha
        obtain ⟨y, hy, hb⟩ := List.mem_flatMap.mp hb
        obtain ⟨d, _, rfl⟩ := List.mem_map.mp hb
        exact .inl (h1 y hy)
/-- the product made by the last row first, as the program does -/
theorem prod_snoc {α : Type} : ∀ (rs : List (List α)) (r : List α), prodR (rs ++ [r]) = (prodR rs).flatMap fun c => r.map fun w => c ++ [w]
  | [], r => by
    show (r.flatMap fun x => [[x]]) = _
    rw [show prodR ([] : List (List α)) = [[]] from rfl, List.flatMap_singleton]
    induction r with
    | nil => rfl
    | cons x r ih => rw [List.flatMap_cons, ih]; rfl
  | q :: rs, r => by
    show (q.flatMap fun x => (prodR (rs ++ [r])).map (x :: ·)) = (q.flatMap fun x => (prodR rs).map (x :: ·)).flatMap fun c => r.map fun w => c ++ [w]
    rw [prod_snoc rs r, List.flatMap_assoc]
    congr 1
    funext x
    rw [List.map_flatMap, List.flatMap_map]
    congr 1
    funext c
    rw [List.map_map] <;> rfl
theorem prod_map {α β : Type} (f : α → β) : ∀ (rs : List (List α)), prodR (rs.map (List.map f)) = (prodR rs).map (List.map f)
  | [] => rfl
  | r :: rs => by
    show ((r.map f).flatMap fun x => (prodR (rs.map (List.map f))).map (x :: ·)) = (r.flatMap fun x => (prodR rs).map (x :: ·)).map (List.map f)
    rw [prod_map f rs, List.flatMap_map, List.map_flatMap]
    congr 1
    funext x
    rw [List.map_map, List.map_map] <;> rfl
/-! ### one page -/
/-- the places at which a value d may be torn over v -/
def tornJ : PyData → PyData → List Nat
  | .tuple vs, .tuple ds => if vs.length = ds.length then List.range' 1 (ds.length - 1) else []
  | _, _ => []
def partJ (t : Bool) (v d : PyData) : List Nat := if t = true then tornJ v d else []
def lastV (v : PyData) (ds : List PyData) : PyData := ds.getLastD v
/-- all that can be kept of a page, from the n-th put on -/
def pairsFrom (t : Bool) : Nat → PyData → List PyData → List Kp
  | n, _, [] => [(n, 0)]
  | n, v, d :: ds => (n, 0) :: ((partJ t v d).map (fun j => (n, j)) ++ pairsFrom t (n + 1) d ds)
theorem partJ_pos {t : Bool} {v d : PyData} {j : Nat} (h : j ∈ partJ t v d) : 1 ≤ j := by
  unfold partJ at h
  split at h
  · unfold tornJ at h
    split at h
    · split at h
      · exact (List.mem_range'_1.mp h).1
      · cases h
    · cases h
  · cases h
theorem partJ_asc (t : Bool) (v d : PyData) : (partJ t v d).Pairwise (· < ·) := by
  unfold partJ
  split
  · unfold tornJ
    split
    · split
      · exact List.pairwise_lt_range'
      · exact .nil
    · exact .nil
  · exact .nil
/-- n and whether more is kept -/
def up (x : Kp) : Nat := x.1 + (if x.2 = 0 then 0 else 1)
theorem pairs_low {t : Bool} : ∀ {ds : List PyData} {n : Nat} {v : PyData} {x : Kp}, x ∈ pairsFrom t n v ds → n ≤ x.1 ∧ up x ≤ n + ds.length
  | [], n, v, x, h => by
    rw [List.mem_singleton.mp (show x ∈ [(n, 0)] from h)]
    exact ⟨Nat.le_refl _, Nat.le_refl _⟩
  | d :: ds, n, v, x, h => by
    rcases List.mem_cons.mp (show x ∈ (n, 0) :: ((partJ t v d).map (fun j => (n, j)) ++ pairsFrom t (n + 1) d ds) from h) with rfl | h
    · exact ⟨Nat.le_refl _, Nat.le_add_right _ _⟩
    · rcases List.mem_append.mp h with h | h
      · obtain ⟨j, _, rfl⟩ := List.mem_map.mp h
        refine ⟨Nat.le_refl _, ?_⟩
        unfold up
        rw [List.length_cons]
        split <;> dsimp only <;> omega
      · have := pairs_low h
        rw [List.length_cons]
        omega
theorem pairs_asc (t : Bool) : ∀ (ds : List PyData) (n : Nat) (v : PyData), (pairsFrom t n v ds).Pairwise ltK
  | [], n, v => .cons (fun _ h => by cases h) .nil
  | d :: ds, n, v => by
    show ((n, 0) :: ((partJ t v d).map (fun j => (n, j)) ++ pairsFrom t (n + 1) d ds)).Pairwise ltK
    refine .cons (fun x hx => ?_) (List.pairwise_append.mpr ⟨?_, pairs_asc t ds (n + 1) d, fun a ha b hb => ?_⟩)
    · rcases List.mem_append.mp hx with h | h
      · obtain ⟨j, hj, rfl⟩ := List.mem_map.mp h
        exact .inr ⟨rfl, partJ_pos hj⟩
      · exact .inl (pairs_low h).1
    · rw [List.pairwise_map]
      exact (partJ_asc t v d).imp fun h => .inr ⟨rfl, h⟩
    · obtain ⟨j, _, rfl⟩ := List.mem_map.mp ha
      exact .inl (pairs_low hb).1
theorem lastV_app (v : PyData) (ds : List PyData) (d : PyData) : lastV v (ds ++ [d]) = d := by unfold lastV; simp
theorem lastV_cons (v d : PyData) (ds : List PyData) : lastV v (d :: ds) = lastV d ds := by unfold lastV; cases ds <;> rfl
theorem pairs_head (t : Bool) (n : Nat) (v : PyData) (ds : List PyData) : ∃ r, pairsFrom t n v ds = (n, 0) :: r := by
  cases ds with
  | nil => exact ⟨_, rfl⟩
  | cons d ds => exact ⟨_, rfl⟩
theorem pairs_app (t : Bool) : ∀ (ds es : List PyData) (n : Nat) (v : PyData), pairsFrom t n v (ds ++ es) = pairsFrom t n v ds ++ (pairsFrom t (n + ds.length) (lastV v ds) es).tail
  | [], es, n, v => by
    obtain ⟨r, e⟩ := pairs_head t n v es
    show pairsFrom t n v es = [(n, 0)] ++ (pairsFrom t n v es).tail
    rw [e] <;> rfl
  | d :: ds, es, n, v => by
    show (n, 0) :: ((partJ t v d).map (fun j => (n, j)) ++ pairsFrom t (n + 1) d (ds ++ es)) = (n, 0) :: ((partJ t v d).map (fun j => (n, j)) ++ pairsFrom t (n + 1) d ds) ++ _
    rw [pairs_app t ds es (n + 1) d, lastV_cons, List.length_cons, show n + 1 + ds.length = n + (ds.length + 1) by omega, List.cons_append, List.append_assoc]
theorem tail_up {t : Bool} {n : Nat} {v : PyData} {ds : List PyData} {x : Kp} (h : x ∈ (pairsFrom t n v ds).tail) : n < up x ∧ n ≤ x.1 := by
  obtain ⟨r, e⟩ := pairs_head t n v ds
  have hx : x ∈ pairsFrom t n v ds := by
    rw [e] at h ⊢
    exact List.mem_cons_of_mem _ h
  have h1 := (pairs_low hx).1
  have ha := pairs_asc t ds n v
  rw [e] at ha h
  have h2 := (List.pairwise_cons.mp ha).1 x h
  refine ⟨?_, h1⟩
  unfold up
  unfold ltK at h2
  split <;> omega
/-- what is kept within the first puts -/
theorem pairs_in {t : Bool} {n : Nat} {v : PyData} {ds es : List PyData} {x : Kp} : (x ∈ pairsFrom t n v (ds ++ es) ∧ up x ≤ n + ds.length) ↔ x ∈ pairsFrom t n v ds := by
  rw [pairs_app]
  constructor
  · rintro ⟨h, hu⟩
    rcases List.mem_append.mp h with h | h
    · exact h
    · have := (tail_up h).1
      omega
  · exact fun h => ⟨List.mem_append_left _ h, (pairs_low h).2⟩
/-- what is kept behind them -/
theorem pairs_out {t : Bool} {n : Nat} {v : PyData} {ds es : List PyData} {x : Kp} : (x ∈ pairsFrom t n v (ds ++ es) ∧ n + ds.length ≤ x.1) ↔ x ∈ pairsFrom t (n + ds.length) (lastV v ds) es := by
  obtain ⟨r, e⟩ := pairs_head t (n + ds.length) (lastV v ds) es
  have hlast : (n + ds.length, 0) ∈ pairsFrom t n v ds := by
    clear e
    induction ds generalizing n v with
    | nil => exact List.mem_singleton.mpr rfl
    | cons d ds ih =>
      refine List.mem_cons_of_mem _ (List.mem_append_right _ ?_)
      have := @ih (n + 1) d
      rw [show n + 1 + ds.length = n + (d :: ds).length by rw [List.length_cons]; omega] at this
      exact this
  rw [pairs_app]
  constructor
  · rintro ⟨h, hu⟩
    rcases List.mem_append.mp h with h | h
    · have h1 := pairs_low h
      have h2 : x = (n + ds.length, 0) := by
        obtain ⟨a, b⟩ := x
        unfold up at h1
        dsimp only at h1 hu ⊢
        have hb : b = 0 := by
          by_cases hb : b = 0
          · exact hb
          · rw [if_neg hb] at h1; omega
        rw [if_pos hb] at h1
        rw [hb, show a = n + ds.length by omega]
      rw [h2, e]
      exact List.mem_cons_self ..
    · exact List.mem_of_mem_tail h
  · intro h
    refine ⟨?_, (pairs_low h).1⟩
    rw [e] at h ⊢
    rcases List.mem_cons.mp h with rfl | h
    · exact List.mem_append_left _ hlast
    · exact List.mem_append_right _ h
end FW

/-! ways to fall: pages together -/
namespace FW
open PySem
/-- a page on the way: whether it may be torn, its name, how many puts are kept, the value so far -/
structure Cur where
  t : Bool
  nm : Str
  n : Nat
  v : PyData
def pageVals (nm : Str) (ep : Pgs) : List PyData := (ep.filter fun p => decide (p.1 = nm)).map (·.2)
def Cur.keys (c : Cur) (ep : Pgs) : List Kp := pairsFrom c.t c.n c.v (pageVals c.nm ep)
def Cur.next (c : Cur) (ep : Pgs) : Cur := ⟨c.t, c.nm, c.n + (pageVals c.nm ep).length, lastV c.v (pageVals c.nm ep)⟩
/-- all the values to come -/
def Cur.rest (c : Cur) (eps : List Pgs) : List PyData := eps.flatMap (pageVals c.nm)
def startK (cs : List Cur) : List Kp := cs.map fun c => (c.n, 0)
/-- what the program finds behind the first one -/
def progK : List Cur → List Pgs → List (List Kp)
  | _, [] => []
  | cs, ep :: r => (prodR (cs.map fun c => c.keys ep)).tail ++ progK (cs.map fun c => c.next ep) r
/-- all the counts fit -/
def okAll : List Nat → List Kp → List Nat → Bool
  | a :: as, x :: xs, b :: bs => decide (a ≤ x.1) && decide (up x ≤ b) && okAll as xs bs
  | _, _, _ => true
def aheadOf (names : List Str) (ep : Pgs) : List Nat → List Nat := fun as => as.zipWith (fun a nm => a + (pageVals nm ep).length) names
def fitsR (names : List Str) : List Nat → List Pgs → List Kp → Bool
  | _, [], _ => false
  | as, ep :: r, c => okAll as c (aheadOf names ep as) || fitsR names (aheadOf names ep as) r c
/-- in one of the blocks -/
def inProg : List Cur → List Pgs → List Kp → Prop
  | _, [], _ => False
  | cs, ep :: r, c => Each (fun x c => x ∈ c.keys ep) c cs ∨ inProg (cs.map fun c => c.next ep) r c
theorem each_map {α β γ : Type} {F : α → β → Prop} (f : γ → β) : ∀ {as : List α} {cs : List γ}, Each F as (cs.map f) ↔ Each (fun a c => F a (f c)) as cs
  | as, [] => by
    constructor <;> (intro h; cases h; exact .nil)
  | as, c :: cs => by
    constructor
    · intro h
      cases h with
      | cons h1 h2 => exact .cons h1 ((each_map f).mp h2)
    · intro h
      cases h with
      | cons h1 h2 => exact .cons h1 ((each_map f).mpr h2)
theorem each_imp {α β : Type} {F G : α → β → Prop} (h : ∀ a b, F a b → G a b) : ∀ {as : List α} {bs : List β}, Each F as bs → Each G as bs
  | _, _, .nil => .nil
  | _, _, .cons h1 h2 => .cons (h _ _ h1) (each_imp h h2)
theorem mem_block {cs : List Cur} {ep : Pgs} {c : List Kp} : c ∈ prodR (cs.map fun c => c.keys ep) ↔ Each (fun x c => x ∈ c.keys ep) c cs := by
  rw [mem_prod, each_map]
theorem keys_head (c : Cur) (ep : Pgs) : ∃ r, c.keys ep = (c.n, 0) :: r := pairs_head _ _ _ _
theorem block_head : ∀ (cs : List Cur) (ep : Pgs), ∃ r, prodR (cs.map fun c => c.keys ep) = startK cs :: r
  | [], _ => ⟨[], rfl⟩
  | c :: cs, ep => by
    obtain ⟨r, e⟩ := block_head cs ep
    obtain ⟨q, e2⟩ := keys_head c ep
    refine ⟨r.map ((c.n, 0) :: ·) ++ q.flatMap fun x => (prodR (cs.map fun c => c.keys ep)).map (x :: ·), ?_⟩
    show ((c.keys ep).flatMap fun x => (prodR (cs.map fun c => c.keys ep)).map (x :: ·)) = _
    rw [e2, List.flatMap_cons]
    rw [show (prodR (cs.map fun c => c.keys ep)).map ((c.n, 0) :: ·) = ((c.n, 0) :: startK cs) :: r.map ((c.n, 0) :: ·) by rw [e, List.map_cons]] <;> rfl
theorem last_in (t : Bool) : ∀ (ds : List PyData) (n : Nat) (v : PyData), (n + ds.length, 0) ∈ pairsFrom t n v ds
  | [], n, v => List.mem_singleton.mpr rfl
  | d :: ds, n, v => by
    have := last_in t ds (n + 1) d
    rw [show n + 1 + ds.length = n + (d :: ds).length by rw [List.length_cons]; omega] at this
    exact List.mem_cons_of_mem _ (List.mem_append_right _ this)
theorem next_in : ∀ (cs : List Cur) (ep : Pgs), Each (fun x c => x ∈ c.keys ep) (startK (cs.map fun c => c.next ep)) cs
  | [], _ => .nil
  | c :: cs, ep => .cons (last_in _ _ _ _) (next_in cs ep)
theorem mem_prog : ∀ (eps : List Pgs) (cs : List Cur) (c : List Kp), (c = startK cs ∨ c ∈ progK cs eps) ↔ (c = startK cs ∨ inProg cs eps c)
  | [], cs, c => by
    constructor
    · rintro (h | h)
      · exact .inl h
      · cases h
    · rintro (h | h)
      · exact .inl h
      · exact h.elim
  | ep :: r, cs, c => by
    obtain ⟨q, e⟩ := block_head cs ep
    have ih := mem_prog r (cs.map fun c => c.next ep) c
    have hb : c ∈ prodR (cs.map fun c => c.keys ep) ↔ (c = startK cs ∨ c ∈ (prodR (cs.map fun c => c.keys ep)).tail) := by
      rw [e, List.tail_cons, List.mem_cons]
    have hn : startK (cs.map fun c => c.next ep) ∈ prodR (cs.map fun c => c.keys ep) := mem_block.mpr (next_in cs ep)
    constructor
    · rintro (h | h)
      · exact .inl h
      · rcases List.mem_append.mp h with h | h
        · exact .inr (.inl (mem_block.mp (hb.mpr (.inr h))))
        · rcases ih.mp (.inr h) with h | h
          · exact .inr (.inl (mem_block.mp (by rw [h]; exact hn)))
          · exact .inr (.inr h)
    · rintro (h | h | h)
      · exact .inl h
      · rcases hb.mp (mem_block.mpr h) with h | h
        · exact .inl h
        · exact .inr (List.mem_append_left _ h)
      · rcases ih.mpr (.inr h) with h | h
        · rw [← h] at hn
          rcases hb.mp hn with h | h
          · exact .inl h
          · exact .inr (List.mem_append_left _ h)
        · exact .inr (List.mem_append_right _ h)
/-! ### the law's fitting -/
theorem ahead_next : ∀ (cs : List Cur) (ep : Pgs), aheadOf (cs.map (·.nm)) ep (cs.map (·.n)) = (cs.map fun c => c.next ep).map (·.n)
  | [], _ => rfl
  | c :: cs, ep => by
    show (c.n + (pageVals c.nm ep).length) :: aheadOf (cs.map (·.nm)) ep (cs.map (·.n)) = _
    rw [ahead_next cs ep] <;> rfl
theorem names_next (cs : List Cur) (ep : Pgs) : (cs.map fun c => c.next ep).map (·.nm) = cs.map (·.nm) := by
  rw [List.map_map]
  rfl
theorem ok_each : ∀ {cs : List Cur} {ep : Pgs} {c : List Kp}, c.length = cs.length → (okAll (cs.map (·.n)) c ((cs.map fun c => c.next ep).map (·.n)) = true ↔ Each (fun x (c : Cur) => c.n ≤ x.1 ∧ up x ≤ c.n + (pageVals c.nm ep).length) c cs)
  | [], ep, c, h => by
    have : c = [] := List.length_eq_zero_iff.mp h
    subst this
    exact ⟨fun _ => .nil, fun _ => rfl⟩
  | d :: cs, ep, [], h => by cases h
  | d :: cs, ep, x :: c, h => by
    have hl : c.length = cs.length := by simpa using h
    have ih := ok_each (cs := cs) (ep := ep) (c := c) hl
    show ((decide (d.n ≤ x.1) && decide (up x ≤ d.n + (pageVals d.nm ep).length)) && okAll (cs.map (·.n)) c ((cs.map fun c => c.next ep).map (·.n))) = true ↔ _
    rw [Bool.and_eq_true, Bool.and_eq_true, decide_eq_true_eq, decide_eq_true_eq, ih]
    constructor
    · rintro ⟨h1, h2⟩
      exact .cons h1 h2
    · intro h
      cases h with
      | cons h1 h2 => exact ⟨h1, h2⟩
theorem each_len {α β : Type} {F : α → β → Prop} : ∀ {as : List α} {bs : List β}, Each F as bs → as.length = bs.length
  | _, _, .nil => rfl
  | _, _, .cons _ h => by rw [List.length_cons, List.length_cons, each_len h]
theorem each_and {α β : Type} {F G : α → β → Prop} : ∀ {as : List α} {bs : List β}, Each F as bs → Each G as bs → Each (fun a b => F a b ∧ G a b) as bs
  | _, _, .nil, .nil => .nil
  | _, _, .cons h1 h2, .cons g1 g2 => .cons ⟨h1, g1⟩ (each_and h2 g2)
theorem rest_cons (c : Cur) (ep : Pgs) (r : List Pgs) : c.rest (ep :: r) = pageVals c.nm ep ++ (c.next ep).rest r := rfl
/-- what fits is ahead of nothing -/
theorem fits_low : ∀ {eps : List Pgs} {cs : List Cur} {c : List Kp}, c.length = cs.length → fitsR (cs.map (·.nm)) (cs.map (·.n)) eps c = true → Each (fun x (c : Cur) => c.n ≤ x.1) c cs
  | [], _, _, _, h => by cases h
  | ep :: r, cs, c, hl, h => by
    have h' : (okAll (cs.map (·.n)) c (aheadOf (cs.map (·.nm)) ep (cs.map (·.n))) || fitsR (cs.map (·.nm)) (aheadOf (cs.map (·.nm)) ep (cs.map (·.n))) r c) = true := h
    rw [ahead_next, Bool.or_eq_true] at h'
    rcases h' with h' | h'
    · exact each_imp (fun _ _ z => z.1) ((ok_each hl).mp h')
    · rw [← names_next cs ep] at h'
      have := fits_low (cs := cs.map fun c => c.next ep) (by rw [List.length_map]; exact hl) h'
      rw [each_map] at this
      exact each_imp (fun x d z => Nat.le_trans (Nat.le_add_right _ _) z) this
/-- the law's fitting counts are those in the blocks -/
theorem fits_in : ∀ {eps : List Pgs} {cs : List Cur} {c : List Kp}, (Each (fun x (d : Cur) => x ∈ pairsFrom d.t d.n d.v (d.rest eps)) c cs ∧ fitsR (cs.map (·.nm)) (cs.map (·.n)) eps c = true) ↔ inProg cs eps c
  | [], cs, c => by
    constructor
    · rintro ⟨_, h⟩
      cases h
    · exact fun h => h.elim
  | ep :: r, cs, c => by
    have e0 : fitsR (cs.map (·.nm)) (cs.map (·.n)) (ep :: r) c = (okAll (cs.map (·.n)) c ((cs.map fun c => c.next ep).map (·.n)) || fitsR ((cs.map fun c => c.next ep).map (·.nm)) ((cs.map fun c => c.next ep).map (·.n)) r c) := by
      show (okAll (cs.map (·.n)) c (aheadOf (cs.map (·.nm)) ep (cs.map (·.n))) || fitsR (cs.map (·.nm)) (aheadOf (cs.map (·.nm)) ep (cs.map (·.n))) r c) = _
      rw [ahead_next, names_next]
    have ih := fits_in (eps := r) (cs := cs.map fun c => c.next ep) (c := c)
    constructor
    · rintro ⟨h1, h2⟩
      have hl := each_len h1
      rw [e0, Bool.or_eq_true] at h2
      rcases h2 with h2 | h2
      · refine .inl (each_imp (fun x d z => ?_) (each_and h1 ((ok_each hl).mp h2)))
        exact pairs_in.mp ⟨z.1, z.2.2⟩
      · refine .inr (ih.mp ⟨?_, h2⟩)
        rw [each_map]
        have hlow := fits_low (cs := cs.map fun c => c.next ep) (by rw [List.length_map]; exact hl) h2
        rw [each_map] at hlow
        exact each_imp (fun x d z => pairs_out.mp ⟨z.1, z.2⟩) (each_and h1 hlow)
    · rintro (h | h)
      · refine ⟨each_imp (fun x d z => (pairs_in.mpr z).1) h, ?_⟩
        rw [e0, Bool.or_eq_true]
        refine .inl ((ok_each (each_len h)).mpr (each_imp (fun x d z => ?_) h))
        exact ⟨(pairs_low z).1, (pairs_low z).2⟩
      · obtain ⟨h1, h2⟩ := ih.mpr h
        refine ⟨?_, by rw [e0, Bool.or_eq_true]; exact .inr h2⟩
        rw [each_map] at h1
        exact each_imp (fun x d z => (pairs_out.mpr z).1) h1
/-! ### the program's list ascends -/
theorem start_low : ∀ (eps : List Pgs) (cs : List Cur) (c : List Kp), inProg cs eps c → Each (fun x (c : Cur) => c.n ≤ x.1) c cs
  | [], _, _, h => h.elim
  | ep :: r, cs, c, h => by
    rcases h with h | h
    · exact each_imp (fun x d z => (pairs_low z).1) h
    · have := start_low r _ c h
      rw [each_map] at this
      exact each_imp (fun x d z => Nat.le_trans (Nat.le_add_right _ _) z) this
/-- what is nowhere less is the same or behind -/
theorem low_lt : ∀ {cs : List Cur} {c : List Kp}, Each (fun x (c : Cur) => c.n ≤ x.1) c cs → c = startK cs ∨ ltC (startK cs) c
  | [], _, .nil => .inl rfl
  | d :: cs, _, .cons (a := x) h1 h2 => by
    rcases low_lt h2 with h | h
    · by_cases e : x = (d.n, 0)
      · subst e
        exact .inl (by rw [h] <;> rfl)
      · refine .inr (.inl ?_)
        obtain ⟨a, b⟩ := x
        show d.n < a ∨ (d.n = a ∧ 0 < b)
        dsimp only at h1
        by_cases e2 : d.n = a
        · refine .inr ⟨e2, ?_⟩
          by_cases hb : b = 0
          · subst e2 hb; exact (e rfl).elim
          · omega
        · exact .inl (by omega)
    · by_cases e : x = (d.n, 0)
      · subst e
        exact .inr (.inr ⟨rfl, h⟩)
      · refine .inr (.inl ?_)
        obtain ⟨a, b⟩ := x
        show d.n < a ∨ (d.n = a ∧ 0 < b)
        dsimp only at h1
        by_cases e2 : d.n = a
        · refine .inr ⟨e2, ?_⟩
          by_cases hb : b = 0
          · subst e2 hb; exact (e rfl).elim
          · omega
        · exact .inl (by omega)
/-- in a block, nothing is behind its last -/
theorem high_lt : ∀ {cs : List Cur} {ep : Pgs} {c : List Kp}, Each (fun x (c : Cur) => x ∈ c.keys ep) c cs → c = startK (cs.map fun c => c.next ep) ∨ ltC c (startK (cs.map fun c => c.next ep))
  | [], _, _, .nil => .inl rfl
  | d :: cs, ep, _, .cons (a := x) h1 h2 => by
    have hu := (pairs_low h1).2
    rcases Nat.lt_or_ge x.1 (d.n + (pageVals d.nm ep).length) with hx | hx
    · exact .inr (.inl (.inl hx))
    · have e : x = (d.n + (pageVals d.nm ep).length, 0) := by
        obtain ⟨a, b⟩ := x
        unfold up at hu
        dsimp only at hu hx
        have hb : b = 0 := by
          by_cases hb : b = 0
          · exact hb
          · rw [if_neg hb] at hu; omega
        rw [if_pos hb] at hu
        rw [hb, show a = d.n + (pageVals d.nm ep).length by omega]
      rcases high_lt h2 with h | h
      · exact .inl (by rw [h, e] <;> rfl)
      · exact .inr (.inr ⟨e, h⟩)
theorem prog_asc : ∀ (eps : List Pgs) (cs : List Cur), (startK cs :: progK cs eps).Pairwise ltC
  | [], cs => .cons (fun _ h => by cases h) .nil
  | ep :: r, cs => by
    obtain ⟨q, e⟩ := block_head cs ep
    have hb : (prodR (cs.map fun c => c.keys ep)).Pairwise ltC := prod_asc fun row hrow => by
      obtain ⟨c, _, rfl⟩ := List.mem_map.mp hrow
      exact pairs_asc _ _ _ _
    have ih := prog_asc r (cs.map fun c => c.next ep)
    rw [e] at hb
    have e1 : startK cs :: progK cs (ep :: r) = (startK cs :: q) ++ progK (cs.map fun c => c.next ep) r := by
      show startK cs :: ((prodR (cs.map fun c => c.keys ep)).tail ++ _) = _
      rw [e] <;> rfl
    rw [e1, List.pairwise_append]
    refine ⟨hb, (List.pairwise_cons.mp ih).2, fun a ha b hb' => ?_⟩
    have h1 : ltC (startK (cs.map fun c => c.next ep)) b := (List.pairwise_cons.mp ih).1 b hb'
    have ha' : a ∈ prodR (cs.map fun c => c.keys ep) := by rw [e]; exact ha
    rcases high_lt (mem_block.mp ha') with h | h
    · rw [h]; exact h1
    · exact ltC_tr h h1
/-- what the program tells is what the law finds by trying all counts -/
theorem kept_eq {eps : List Pgs} (cs : List Cur) (hne : eps ≠ []) : startK cs :: progK cs eps = (prodR (cs.map fun c => pairsFrom c.t c.n c.v (c.rest eps))).filter (fitsR (cs.map (·.nm)) (cs.map (·.n)) eps) := by
  refine asc_eq (prog_asc eps cs) ?_ fun c => ?_
  · refine List.Pairwise.filter _ (prod_asc fun row hrow => ?_)
    obtain ⟨d, _, rfl⟩ := List.mem_map.mp hrow
    exact pairs_asc _ _ _ _
  · rw [List.mem_cons, mem_prog, List.mem_filter, mem_prod, each_map]
    have hs : inProg cs eps (startK cs) := by
      cases eps with
      | nil => exact (hne rfl).elim
      | cons ep r =>
        refine .inl (mem_block.mp ?_)
        obtain ⟨q, e⟩ := block_head cs ep
        rw [e]
        exact List.mem_cons_self ..
    rw [← fits_in] at hs ⊢
    constructor
    · rintro (h | h)
      · subst h; exact hs
      · exact h
    · exact fun h => .inr h
end FW

/-! what falls can keep, as data -/
namespace FW
open PySem PySem.Spec PyProof.Rows L2 XV XL UU LamX NdefX GX GxR CC
mutual
/-- the mark of a value -/
def markL : PyData → List PyData
  | .tuple ds => .str "tuple" :: .int (ds.length : Nat) :: marksL ds
  | .bool b => [.str "truth", .int (if b = true then 1 else 0)]
  | .int i => [.str "integer", .int i]
  | .str x => [.str "string", .str x]
  | _ => [.str "none"]
def marksL : List PyData → List PyData
  | [] => []
  | d :: ds => markL d ++ marksL ds
end
def sgnD (d : PyData) : PyData := .tuple (markL d)
theorem marksL_snoc : ∀ (ds : List PyData) (d : PyData), marksL (ds ++ [d]) = marksL ds ++ markL d
  | [], d => by
    show markL d ++ [] = [] ++ markL d
    simp
  | e :: ds, d => by
    show markL e ++ marksL (ds ++ [d]) = (markL e ++ marksL ds) ++ markL d
    rw [marksL_snoc ds d, List.append_assoc]
/-- a way: n puts kept, j things of the next one; the page's name, its value -/
structure Wy where
  n : Nat
  j : Nat
  nm : Str
  v : PyData
def Wy.key (x : Wy) : Kp := (x.n, x.j)
def kpD (x : Kp) : PyData := .tuple [.int (x.1 : Nat), .int (x.2 : Nat)]
def Wy.pg (x : Wy) : PyData := .tuple [.str x.nm, x.v]
def Wy.data (x : Wy) : PyData := .tuple [kpD x.key, x.pg, sgnD x.v]
/-- j things of the new row over the old one -/
def tornV (j : Nat) : PyData → PyData → PyData
  | .tuple vs, .tuple ds => .tuple (ds.take j ++ vs.drop j)
  | _, _ => .none
def partW (t : Bool) (n : Nat) (nm : Str) (v d : PyData) : List Wy := (partJ t v d).map fun j => ⟨n, j, nm, tornV j v d⟩
/-- all ways of a page, from the n-th put on -/
def waysFrom (t : Bool) (nm : Str) : Nat → PyData → List PyData → List Wy
  | n, v, [] => [⟨n, 0, nm, v⟩]
  | n, v, d :: ds => ⟨n, 0, nm, v⟩ :: (partW t n nm v d ++ waysFrom t nm (n + 1) d ds)
theorem waysFrom_keys (t : Bool) (nm : Str) : ∀ (ds : List PyData) (n : Nat) (v : PyData), (waysFrom t nm n v ds).map Wy.key = pairsFrom t n v ds
  | [], _, _ => rfl
  | d :: ds, n, v => by
    show (n, 0) :: ((partW t n nm v d ++ waysFrom t nm (n + 1) d ds).map Wy.key) = (n, 0) :: ((partJ t v d).map (fun j => (n, j)) ++ pairsFrom t (n + 1) d ds)
    rw [List.map_append, waysFrom_keys t nm ds]
    unfold partW
    rw [List.map_map] <;> rfl
theorem waysFrom_snoc (t : Bool) (nm : Str) : ∀ (ds : List PyData) (n : Nat) (v d : PyData), waysFrom t nm n v (ds ++ [d]) = waysFrom t nm n v ds ++ (partW t (n + ds.length) nm (lastV v ds) d ++ [⟨n + ds.length + 1, 0, nm, d⟩])
  | [], n, v, d => rfl
  | e :: ds, n, v, d => by
    show ⟨n, 0, nm, v⟩ :: (partW t n nm v e ++ waysFrom t nm (n + 1) e (ds ++ [d])) = ⟨n, 0, nm, v⟩ :: ((partW t n nm v e ++ waysFrom t nm (n + 1) e ds) ++ _)
    rw [waysFrom_snoc t nm ds (n + 1) e d, lastV_cons, List.length_cons, List.append_assoc, show n + 1 + ds.length = n + (ds.length + 1) from by omega]
theorem waysFrom_last (t : Bool) (nm : Str) (ds : List PyData) (n : Nat) (v : PyData) : (waysFrom t nm n v ds).getLast? = some ⟨n + ds.length, 0, nm, lastV v ds⟩ := by
  rcases List.eq_nil_or_concat ds with rfl | ⟨es, d, rfl⟩
  · rfl
  · rw [List.concat_eq_append, waysFrom_snoc, lastV_app, ← List.append_assoc, List.getLast?_append, List.length_append]
    rfl
/-- the way that keeps all so far -/
def Cur.wy (c : Cur) : Wy := ⟨c.n, 0, c.nm, c.v⟩
def Cur.ways (c : Cur) (ep : Pgs) : List Wy := waysFrom c.t c.nm c.n c.v (pageVals c.nm ep)
theorem cur_last (c : Cur) (ep : Pgs) : (c.ways ep).getLast? = some (c.next ep).wy := waysFrom_last c.t c.nm _ c.n c.v
def progW : List Cur → List Pgs → List (List Wy)
  | _, [] => []
  | cs, ep :: r => (prodR (cs.map fun c => c.ways ep)).tail ++ progW (cs.map fun c => c.next ep) r
/-- all that the program finds -/
def waysR (cs : List Cur) (eps : List Pgs) : List (List Wy) := cs.map Cur.wy :: progW cs eps
theorem progW_keys : ∀ (eps : List Pgs) (cs : List Cur), (progW cs eps).map (List.map Wy.key) = progK cs eps
  | [], _ => rfl
  | ep :: r, cs => by
    show ((prodR (cs.map fun c => c.ways ep)).tail ++ progW (cs.map fun c => c.next ep) r).map _ = (prodR (cs.map fun c => c.keys ep)).tail ++ progK (cs.map fun c => c.next ep) r
    rw [List.map_append, progW_keys r, List.map_tail, ← prod_map, List.map_map]
    congr 3
    refine List.map_congr_left fun c _ => ?_
    exact waysFrom_keys c.t c.nm _ c.n c.v
theorem waysR_keys (cs : List Cur) (eps : List Pgs) : (waysR cs eps).map (List.map Wy.key) = startK cs :: progK cs eps := by
  show (cs.map Cur.wy).map Wy.key :: (progW cs eps).map (List.map Wy.key) = _
  rw [progW_keys, List.map_map] <;> rfl
/-- a choice, as the program tells it -/
def chD (c : List Wy) : PyData := .tuple [.tuple (c.map fun x => kpD x.key), .tuple (c.map Wy.pg), .tuple (c.map fun x => sgnD x.v)]
def curs (tn : List Str) (ps : Pgs) : List Cur := ps.map fun p => ⟨decide (p.1 ∈ tn), p.1, 0, p.2⟩
def waysM (tn : List Str) (m : Mo) : List (List Wy) := waysR (curs tn m.sync) m.eps
theorem pageVals_take {ep : Pgs} {i : Nat} {p : Str × PyData} {nm : Str} (h : ep[i]? = some p) : pageVals nm (ep.take (i + 1)) = pageVals nm (ep.take i) ++ (if p.1 = nm then [p.2] else []) := by
  unfold pageVals
  rw [filter_take h, List.map_append]
  by_cases e : p.1 = nm
  · rw [if_pos e, if_pos (by simpa using e)] <;> rfl
  · rw [if_neg e, if_neg (by simpa using e)] <;> rfl
mutual
theorem markL_val : ∀ d : PyData, isVal.isVals (markL d) = true
  | .tuple ds => by
    show isVal.isVals (.str "tuple" :: .int (ds.length : Nat) :: marksL ds) = true
    exact marksL_val ds
  | .bool _ => rfl
  | .int _ => rfl
  | .str _ => rfl
  | .none => rfl
  | .list _ => rfl
  | .dict _ => rfl
theorem marksL_val : ∀ ds : List PyData, isVal.isVals (marksL ds) = true
  | [] => rfl
  | d :: ds => by
    show isVal.isVals (markL d ++ marksL ds) = true
    have app : ∀ xs ys : List PyData, isVal.isVals xs = true → isVal.isVals ys = true → isVal.isVals (xs ++ ys) = true := fun xs ys h1 h2 => by
      induction xs with
      | nil => exact h2
      | cons x xs ih =>
        have h1' : (isVal x && isVal.isVals xs) = true := h1
        rw [Bool.and_eq_true] at h1'
        show (isVal x && isVal.isVals (xs ++ ys)) = true
        rw [h1'.1, ih h1'.2] <;> rfl
    exact app _ _ (markL_val d) (marksL_val ds)
end
end FW

/-! rules told by K; a list grown by a tuple -/
namespace CC
open PySem PySem.Spec PyProof.Rows L2 XV XL UU
theorem extend_tupG (l : Addr) (items : Array Value) (n : Nat) (b : Addr) (items2 : Array Value) (n2 : Nat) (dd2 : Option Addr) (sl2 : Array (Option Value)) (hs0 : ¬(!items.isEmpty && Builtin.List.listTooLong (items.size + items2.size)) = true) (hs1 : items.size ≤ sizeLine) (hs2 : items.size + items2.size ≤ sizeLine + 1) :
    Meets (Builtin.«list.extend» ⟨[.ref l, .ref b], []⟩) (fun _ R s => s.heap.get? l = some { cls := .type "list", dict := none, data := .seq items n, slots := #[] } ∧ s.heap.get? b = some { cls := .type "tuple", dict := dd2, data := .seq items2 n2, slots := sl2 } ∧ R (.ok (.ret Value.none)) { s with heap := s.heap.update l (Obj.mapSeq fun x => x ++ items2), toks := s.toks }) :=
  .of_wp fun prog w A R s h => by
    obtain ⟨hp, g, d, tk, os⟩ := s; obtain ⟨hl, hb, h⟩ := h; have f1 := PySem.AutoSeq1.idx_int; have f2 := PySem.AutoSeq1.sub_tuple_tuple; have f3 := PySem.AutoSeq1.sub_list_list; have f4 := PySem.AutoSeq1.sub_tuple_list; have f5 := PySem.AutoSeq1.sub_list_tuple;
    have hz' : (items ++ items2).size ≤ sizeLine + 1 := by rw [Array.size_append]; exact hs2
    wp_walk using (PySem.wpAny_updateSeq hl rfl (hz := hs1) (_hz' := hz')), PySem.AutoSeq1.wpAny_loadPart' hl, PySem.AutoSeq1.wpAny_loadPart' hb; exact ⟨_, rfl, h⟩
def rExtendT (K : PySem.W.Frag) : V → List V → Hp → VK → Prop := fun x vs H Q => ∃ l b xs zs, x = .ref l ∧ vs = [.ref b] ∧ H l = some (.lst xs) ∧ SqT K H b zs ∧ xs.length + zs.length ≤ sizeLine ∧ Q .non (upd H l (.lst (xs ++ zs)))
theorem mt_extendT {X : Cx} : MtM X "list.extend" (rExtendT X.K) := by
  intro pins s σ H x vs v us Q I rx rv h
  obtain ⟨l, b, xs, zs, rfl, rfl, hH, hB, hz, q⟩ := h
  cases rx
  obtain ⟨u, rfl, ru⟩ := rv.one
  cases ru
  obtain ⟨z, its, n, r, hl, e⟩ := I.lstM hH
  obtain ⟨its2, r2, p2, _⟩ := I.tuple hB
  obtain ⟨⟨cls2, dd2, data2, sl2⟩, ho2, hc2, n2, hd2⟩ := id p2
  simp only at hc2 hd2
  subst hc2 hd2
  have e1 := r.length
  have e2 := r2.length
  have hsz : its.toArray.size + its2.toArray.size ≤ sizeLine := by rw [List.size_toArray, List.size_toArray]; omega
  refine call_meets PySem.F.slot_list_extend ⟨_, e, rfl⟩ PySem.F.entry_list_extend (PySem.F.args_list_extend_2 _ _)
    (extend_tupG l its.toArray n b its2.toArray n2 dd2 sl2 (extend_door hsz) (by rw [List.size_toArray]; omega) (by omega)) ⟨e, ho2, ?_⟩
  refine ⟨.non, _, I.lset (its' := its ++ its2) hH e (by simp) (r.append r2) ?_, rfl, q⟩
  rw [List.length_append]
  omega
theorem sl_tupK {X : Cx} (K : PySem.W.Frag) (hK : X.K = K) : SlR X (rSlT K) := by
  subst hK
  exact sl_tup
theorem sl_listK {X : Cx} (K : PySem.W.Frag) (hK : X.K = K) : SlR X (rSlL K) := by
  subst hK
  exact sl_list
theorem ix_listK {X : Cx} (K : PySem.W.Frag) (hK : X.K = K) : IxR X (rIxL K) := by
  subst hK
  exact ix_list
theorem op_catTK {X : Cx} (K : PySem.W.Frag) (hK : X.K = K) : OpR X (binaryOp .Add) (rCatT K) := by
  subst hK
  exact op_catT
theorem op_catAK {X : Cx} (K : PySem.W.Frag) (hK : X.K = K) : OpR X (binaryOp .Add) (rCatA K) := by
  subst hK
  exact op_catA
end CC
namespace FW
open PySem PySem.Spec PyProof.Rows L2 XV XL UU LamX NdefX GX GxR CC
theorem paired_take {α β : Type} {F : α → β → Prop} : ∀ {as : List α} {bs : List β} (n : Nat), Paired F as bs → Paired F (as.take n) (bs.take n)
  | _, _, 0, _ => .nil
  | _, _, n + 1, .nil => .nil
  | _, _, n + 1, .cons h t => .cons h (paired_take n t)
theorem paired_drop {α β : Type} {F : α → β → Prop} : ∀ {as : List α} {bs : List β} (n : Nat), Paired F as bs → Paired F (as.drop n) (bs.drop n)
  | _, _, 0, h => h
  | _, _, n + 1, .nil => .nil
  | _, _, n + 1, .cons h t => paired_drop n t
theorem vds_take {K : PySem.W.Frag} {H : Hp} {vs : List V} {ds : List PyData} (n : Nat) (h : Vds K H vs ds) : Vds K H (vs.take n) (ds.take n) := paired_take n h
theorem vds_drop {K : PySem.W.Frag} {H : Hp} {vs : List V} {ds : List PyData} (n : Nat) (h : Vds K H vs ds) : Vds K H (vs.drop n) (ds.drop n) := paired_drop n h
theorem vds_app {K : PySem.W.Frag} {H : Hp} {vs vs' : List V} {ds ds' : List PyData} (h : Vds K H vs ds) (h' : Vds K H vs' ds') : Vds K H (vs ++ vs') (ds ++ ds') := Paired.app h h'
/-- a value that a page may hold: four deep, its mark not too long -/
structure VOk (d : PyData) : Prop where
  s : Sml 4 d
  l : (markL d).length < 40000
theorem marksL_app : ∀ (ds es : List PyData), marksL (ds ++ es) = marksL ds ++ marksL es
  | [], es => rfl
  | d :: ds, es => by
    show markL d ++ marksL (ds ++ es) = (markL d ++ marksL ds) ++ marksL es
    rw [marksL_app ds es, List.append_assoc]
theorem marksL_take (n : Nat) (ds : List PyData) : (marksL (ds.take n)).length ≤ (marksL ds).length := by
  conv => rhs; rw [← List.take_append_drop n ds, marksL_app]
  rw [List.length_append]
  exact Nat.le_add_right _ _
theorem marksL_drop (n : Nat) (ds : List PyData) : (marksL (ds.drop n)).length ≤ (marksL ds).length := by
  conv => rhs; rw [← List.take_append_drop n ds, marksL_app]
  rw [List.length_append]
  exact Nat.le_add_left _ _
theorem mem_tornJ {v d : PyData} {j : Nat} (h : j ∈ tornJ v d) : ∃ vs ds, v = .tuple vs ∧ d = .tuple ds ∧ vs.length = ds.length ∧ 1 ≤ j ∧ j < ds.length := by
  unfold tornJ at h
  split at h
  · rename_i vs ds
    split at h
    · rename_i e
      obtain ⟨h1, h2⟩ := List.mem_range'_1.mp h
      exact ⟨vs, ds, rfl, rfl, e, h1, by omega⟩
    · cases h
  · cases h
theorem torn_ok {v d : PyData} {j : Nat} (hv : VOk v) (hd : VOk d) (h : j ∈ tornJ v d) : Sml 4 (tornV j v d) ∧ (markL (tornV j v d)).length < 100000 := by
  obtain ⟨vs, ds, rfl, rfl, e, h1, h2⟩ := mem_tornJ h
  obtain ⟨s1, t1⟩ := sml_lenT hv.s
  obtain ⟨s2, t2⟩ := sml_lenT hd.s
  refine ⟨⟨?_, fun x hx => ?_⟩, ?_⟩
  · rw [List.length_append, List.length_take, List.length_drop]
    omega
  · rcases List.mem_append.mp hx with z | z
    · exact t2 x (List.mem_of_mem_take z)
    · exact t1 x (List.mem_of_mem_drop z)
  · show (PyData.str "tuple" :: .int ((ds.take j ++ vs.drop j).length : Nat) :: marksL (ds.take j ++ vs.drop j)).length < _
    have l1 : (marksL vs).length + 2 < 40000 := hv.l
    have l2 : (marksL ds).length + 2 < 40000 := hd.l
    have := marksL_take j ds
    have := marksL_drop j vs
    rw [List.length_cons, List.length_cons, marksL_app, List.length_append]
    omega
theorem pageVals_split {nm : Str} (ep : Pgs) (i : Nat) : pageVals nm ep = pageVals nm (ep.take i) ++ pageVals nm (ep.drop i) := by
  conv => lhs; rw [← List.take_append_drop i ep]
  unfold pageVals
  rw [List.filter_append, List.map_append]
theorem pageVals_mem {nm : Str} {ep : Pgs} {d : PyData} (h : d ∈ pageVals nm ep) : (nm, d) ∈ ep := by
  unfold pageVals at h
  obtain ⟨p, hp, rfl⟩ := List.mem_map.mp h
  obtain ⟨h1, h2⟩ := List.mem_filter.mp hp
  rw [← of_decide_eq_true h2]
  exact h1
theorem lastV_mem (v : PyData) (ds : List PyData) : lastV v ds = v ∨ lastV v ds ∈ ds := by
  rcases List.eq_nil_or_concat ds with rfl | ⟨es, d, rfl⟩
  · exact .inl rfl
  · rw [List.concat_eq_append, lastV_app]
    exact .inr (by simp)
theorem ways_len (t : Bool) (nm : Str) : ∀ (ds es : List PyData) (n : Nat) (v : PyData), (waysFrom t nm n v ds).length ≤ (waysFrom t nm n v (ds ++ es)).length
  | [], [], n, v => Nat.le_refl _
  | [], e :: es, n, v => by
    show 1 ≤ (_ :: _ : List Wy).length
    rw [List.length_cons]
    omega
  | d :: ds, es, n, v => by
    have ih := ways_len t nm ds es (n + 1) d
    show (_ :: (partW t n nm v d ++ waysFrom t nm (n + 1) d ds) : List Wy).length ≤ (_ :: (partW t n nm v d ++ waysFrom t nm (n + 1) d (ds ++ es)) : List Wy).length
    rw [List.length_cons, List.length_cons, List.length_append, List.length_append]
    omega
theorem all_flat_str : ∀ tn : List Str, (tn.map V.str).all flatV = true
  | [] => rfl
  | x :: tn => by rw [List.map_cons, List.all_cons, all_flat_str tn] <;> rfl
theorem inV_str (x : Str) : ∀ tn : List Str, inV (.str x) (tn.map V.str) = decide (x ∈ tn)
  | [] => by simp [inV]
  | y :: tn => by
    have ih := inV_str x tn
    by_cases e : y = x
    · subst e
      simp [inV, eqV]
    · unfold inV at ih ⊢
      rw [List.map_cons, List.any_cons, ih]
      have : (eqV (V.str y) (V.str x)) = false := by
        show (y == x) = false
        simpa using e
      first
        | (rw [this]; simp [Ne.symm e])
        | (rw [show eqV (V.str x) (V.str y) = false from by show (x == y) = false; simpa using Ne.symm e]; simp [Ne.symm e])
end FW

/-! comprehensions of two clauses; choices as data -/
namespace CC
open PySem PySem.Spec PyProof.Rows L2 XV XL UU
theorem pi_listK {X : Cx} {tg l : Expr} {tl : TE} (K : PySem.W.Frag) (hK : X.K = K) (hl : PE X l tl) : PI X tg l (iList K tl) := by
  subst hK
  exact pi_list hl
theorem pi_tupK {X : Cx} {tg l : Expr} {tl : TE} (K : PySem.W.Frag) (hK : X.K = K) (hl : PE X l tl) : PI X tg l (iTup K tl) := by
  subst hK
  exact pi_tup hl
end CC
namespace FW
open PySem PySem.Spec PyProof.Rows L2 XV XL UU LamX NdefX GX GxR CC
section
variable {J : It} {n : Nat} {G : Hp → Prop} {Y : Nat → Hp → V → Hp → Prop}
theorem lc2_it (w : Walk J n G Y) {g g1 : TG} {tt tt1 : TT} {te : TE} {wi1 : TI} {vs vs1 : List Nat} {σ : L2.St} {H1 : Hp} {D : Addr} {Qd : Hp → Prop} (Pv : Nat → Hp → Prop) (h0 : Pv 0 (upd H1 D (.lst []))) (hG : ∀ i H, i ≤ n → Pv i H → G H)
    (hs : ∀ i x H H', i < n → Pv i H → Y i H x H' → g x (wipe σ vs) H' fun σ2 H2 => wipe σ2 vs = wipe σ vs ∧ tt σ2 H2 fun b H3 =>
      if b = true then wi1 σ2 H3 fun J1 H4 => ∃ W1 : Nat → Nat → Hp → Prop, (∃ m, W1 0 m H4) ∧ ∀ j k H, W1 j k H →
        (J1.stop j H ∧ Pv (i + 1) H) ∨ (J1.go j H ∧ ∃ Nx1 : Hp → Prop, (∀ H', Nx1 H' → ∃ k', k' < k ∧ W1 (j + 1) k' H') ∧ ∀ x H', J1.yld j H x H' → g1 x (wipe σ2 vs1) H' fun σ3 H5 => wipe σ3 vs1 = wipe σ2 vs1 ∧ tt1 σ3 H5 fun b H6 =>
          if b = true then te σ3 H6 fun y H7 => ∃ acc, H7 D = some (.lst acc) ∧ acc.length < sizeLine ∧ Nx1 (upd H7 D (.lst (acc ++ [y]))) else Nx1 H6)
      else Pv (i + 1) H3) (hd : ∀ H, Pv n H → Qd H) :
    ∃ W : Nat → Nat → Hp → Prop, (∃ m, W 0 m (upd H1 D (.lst []))) ∧ ∀ i m H, W i m H →
      (J.stop i H ∧ Qd H) ∨ (J.go i H ∧ ∃ Nx : Hp → Prop, (∀ H', Nx H' → ∃ m', m' < m ∧ W (i + 1) m' H') ∧ ∀ x H', J.yld i H x H' → g x (wipe σ vs) H' fun σ2 H2 => wipe σ2 vs = wipe σ vs ∧ tt σ2 H2 fun b H3 =>
        if b = true then wi1 σ2 H3 fun J1 H4 => ∃ W1 : Nat → Nat → Hp → Prop, (∃ m, W1 0 m H4) ∧ ∀ j k H, W1 j k H →
          (J1.stop j H ∧ Nx H) ∨ (J1.go j H ∧ ∃ Nx1 : Hp → Prop, (∀ H', Nx1 H' → ∃ k', k' < k ∧ W1 (j + 1) k' H') ∧ ∀ x H', J1.yld j H x H' → g1 x (wipe σ2 vs1) H' fun σ3 H5 => wipe σ3 vs1 = wipe σ2 vs1 ∧ tt1 σ3 H5 fun b H6 =>
            if b = true then te σ3 H6 fun y H7 => ∃ acc, H7 D = some (.lst acc) ∧ acc.length < sizeLine ∧ Nx1 (upd H7 D (.lst (acc ++ [y]))) else Nx1 H6)
        else Nx H3) := by
  refine ⟨fun i m H => m = n - i ∧ i ≤ n ∧ Pv i H, ⟨n, by simp, Nat.zero_le _, h0⟩, ?_⟩
  rintro i m H ⟨rfl, hi, p⟩
  have q := hG i H hi p
  by_cases hlt : i < n
  · refine .inr ⟨w.goes i H hlt q, Pv (i + 1), fun H' p' => ⟨n - (i + 1), by omega, rfl, hlt, p'⟩, fun x H' y => hs i x H H' hlt p (w.yields i H x H' hlt q y)⟩
  · have e : i = n := by omega
    subst e
    exact .inl ⟨w.stops H q, hd H p⟩
theorem lc2_in (w : Walk J n G Y) {g1 : TG} {tt1 : TT} {te : TE} {vs1 : List Nat} {σ2 : L2.St} {H4 : Hp} {D : Addr} {Nx : Hp → Prop} (Pv : Nat → Hp → Prop) (h0 : Pv 0 H4) (hG : ∀ i H, i ≤ n → Pv i H → G H)
    (hs : ∀ j x H H', j < n → Pv j H → Y j H x H' → g1 x (wipe σ2 vs1) H' fun σ3 H5 => wipe σ3 vs1 = wipe σ2 vs1 ∧ tt1 σ3 H5 fun b H6 =>
      if b = true then te σ3 H6 fun y H7 => ∃ acc, H7 D = some (.lst acc) ∧ acc.length < sizeLine ∧ Pv (j + 1) (upd H7 D (.lst (acc ++ [y]))) else Pv (j + 1) H6) (hd : ∀ H, Pv n H → Nx H) :
    ∃ W1 : Nat → Nat → Hp → Prop, (∃ m, W1 0 m H4) ∧ ∀ j k H, W1 j k H →
      (J.stop j H ∧ Nx H) ∨ (J.go j H ∧ ∃ Nx1 : Hp → Prop, (∀ H', Nx1 H' → ∃ k', k' < k ∧ W1 (j + 1) k' H') ∧ ∀ x H', J.yld j H x H' → g1 x (wipe σ2 vs1) H' fun σ3 H5 => wipe σ3 vs1 = wipe σ2 vs1 ∧ tt1 σ3 H5 fun b H6 =>
        if b = true then te σ3 H6 fun y H7 => ∃ acc, H7 D = some (.lst acc) ∧ acc.length < sizeLine ∧ Nx1 (upd H7 D (.lst (acc ++ [y]))) else Nx1 H6) := by
  refine ⟨fun i m H => m = n - i ∧ i ≤ n ∧ Pv i H, ⟨n, by simp, Nat.zero_le _, h0⟩, ?_⟩
  rintro i m H ⟨rfl, hi, p⟩
  have q := hG i H hi p
  by_cases hlt : i < n
  · refine .inr ⟨w.goes i H hlt q, Pv (i + 1), fun H' p' => ⟨n - (i + 1), by omega, rfl, hlt, p'⟩, fun x H' y => hs i x H H' hlt p (w.yields i H x H' hlt q y)⟩
  · have e : i = n := by omega
    subst e
    exact .inl ⟨w.stops H q, hd H p⟩
end
/-- t + (u,) -/
theorem cat_one {K : PySem.W.Frag} {G : Tb} {H : Hp} {a : Addr} {u : V} {ds : List PyData} {d : PyData} (ht : Tbs G H) (hk : Vd K H (.ref a) (.tuple ds)) (hd : Vd K H u d) (hl : ds.length < 1000) {t : Addr} (htn : H t = none) :
    rCatA K (.ref a) (.ref t) (upd H t (.tup [u])) (fun v H' => Stp G [] H H' ∧ Vd K H' v (.tuple (ds ++ [d]))) := by
  have S1 : Stp G [] H (upd H t (.tup [u])) := .new ht htn
  have e1 : upd H t (.tup [u]) t = some (.tup [u]) := upd_same
  generalize upd H t (.tup [u]) = H1 at *
  obtain ⟨b, xs, eb, q, hxs⟩ := hk.untup
  obtain rfl := V.ref.inj eb
  have hlen := hxs.len
  refine ⟨a, t, xs, [u], rfl, rfl, sqT_ext S1.k.ext q, .of e1, Nat.le_trans (show xs.length + 1 ≤ 1000 by omega) (by decide), fun z => ?_, fun _ z => (by cases z), fun hx _ p hp => ?_⟩
  · subst z
    cases hxs
    exact ⟨S1, .tup (.of e1) (.cons (hd.ext S1.k) .nil)⟩
  · have S2 := S1.snew (o := .tup (xs ++ [u])) hp
    exact ⟨S2, .tup (.of upd_same) ((hxs.ext S2.k).snoc (hd.ext S2.k))⟩
/-- a list of ways stands at b -/
def RowWy (K : PySem.W.Frag) (H : Hp) (b : Addr) (r : List Wy) : Prop := ∃ us, H b = some (.lst us) ∧ Vds K H us (r.map Wy.data)
theorem RowWy.keep {K : PySem.W.Frag} {fp : List Addr} {H H' : Hp} {b : Addr} {r : List Wy} (h : RowWy K H b r) (nt : NoT fp H) (hf : b ∉ fp) (k : Keep fp H H') : RowWy K H' b r := by
  obtain ⟨us, e, v⟩ := h
  exact ⟨us, k _ _ e hf (fun _ z => by cases z), v.keep nt k⟩
theorem RowWy.ext {K : PySem.W.Frag} {H H' : Hp} {b : Addr} {r : List Wy} (h : RowWy K H b r) (k : Keep [] H H') : RowWy K H' b r := h.keep noT_nil (by simp) k
/-- the choices by one row more -/
def moreR {α : Type} (cs : List (List α)) (r : List α) : List (List α) := cs.flatMap fun c => r.map fun w => c ++ [w]
theorem more_take {α : Type} {cs : List (List α)} {r : List α} {i : Nat} {c : List α} (h : cs[i]? = some c) : moreR (cs.take (i + 1)) r = moreR (cs.take i) r ++ r.map fun w => c ++ [w] := by
  unfold moreR
  rw [take_succ' h, List.flatMap_append, List.flatMap_singleton]
theorem more_len {α : Type} (cs : List (List α)) (r : List α) (i : Nat) : (moreR (cs.take i) r).length ≤ (moreR cs r).length := by
  unfold moreR
  conv => rhs; rw [← List.take_append_drop i cs, List.flatMap_append]
  rw [List.length_append]
  exact Nat.le_add_right _ _
theorem prod_take {α : Type} {rs : List (List α)} {i : Nat} {r : List α} (h : rs[i]? = some r) : prodR (rs.take (i + 1)) = moreR (prodR (rs.take i)) r := by
  rw [take_succ' h, prod_snoc] <;> rfl
theorem chD_snoc (c : List Wy) (w : Wy) : chD (c ++ [w]) = .tuple [.tuple (c.map (fun x => kpD x.key) ++ [kpD w.key]), .tuple (c.map Wy.pg ++ [w.pg]), .tuple (c.map (fun x => sgnD x.v) ++ [sgnD w.v])] := by
  unfold chD
  rw [List.map_append, List.map_append, List.map_append] <;> rfl
theorem prod_width {α : Type} : ∀ {rs : List (List α)} {c : List α}, c ∈ prodR rs → c.length = rs.length := fun h => each_len (mem_prod.mp h)
end FW

/-! how many ways there are -/
namespace FW
open PySem PySem.Spec PyProof.Rows L2 XV XL UU LamX NdefX GX GxR CC
theorem paired_ix {α β : Type} {F G : α → β → Prop} : ∀ {as : List α} {bs : List β}, Paired F as bs → (∀ (j : Nat) a b, as[j]? = some a → bs[j]? = some b → F a b → G a b) → Paired G as bs
  | _, _, .nil, _ => .nil
  | _, _, .cons h t, k => .cons (k 0 _ _ rfl rfl h) (paired_ix t fun j a b h1 h2 => k (j + 1) a b (by simpa using h1) (by simpa using h2))
structure StageOk (cs : List Cur) (ep : Pgs) : Prop where
  p : ∀ i, (prodR ((cs.map fun c => c.ways ep).take i)).length < 1000000
  r : ∀ c ∈ cs, (c.ways ep).length < 1000000
def StagesOk : List Cur → List Pgs → Prop
  | _, [] => True
  | cs, ep :: r => StageOk cs ep ∧ StagesOk (cs.map fun c => c.next ep) r
/-- all values of a page on its way are fine -/
structure CurOk (c : Cur) : Prop where
  v : VOk c.v
theorem CurOk.next {c : Cur} {ep : Pgs} (h : CurOk c) (he : ∀ p ∈ ep, VOk p.2) : CurOk (c.next ep) := by
  refine ⟨?_⟩
  show VOk (lastV c.v (pageVals c.nm ep))
  rcases lastV_mem c.v (pageVals c.nm ep) with e | e
  · rw [e]; exact h.v
  · exact he _ (pageVals_mem e)
theorem prod_one : ∀ cs : List Cur, prodR (cs.map fun c => [c.wy]) = [cs.map Cur.wy]
  | [] => rfl
  | c :: cs => by
    show ([c.wy].flatMap fun x => (prodR (cs.map fun c => [c.wy])).map (x :: ·)) = _
    rw [prod_one cs] <;> rfl
/-- how many things a tuple has -/
def tupLen : PyData → Nat
  | .tuple ds => ds.length
  | _ => 0
/-- a value that is drawn: flat, fit for pages, of at most b things -/
structure PcOk (b : Nat) (d : PyData) : Prop where
  f : Flat d
  k : VOk d
  t : tupLen d ≤ b
/-- a row of a put of such a value, or a guard -/
def PutRow (b : Nat) (ks : List Str) : RowD → Prop
  | .put nm (.value d) => nm ∈ ks ∧ PcOk b d
  | .bar => True
  | .flu => True
  | _ => False
theorem PutRow.ok {b : Nat} {ks : List Str} {r : RowD} (h : PutRow b ks r) : r.ok ks := by
  cases r with
  | put nm p =>
    cases p with
    | value d => exact ⟨h.1, h.2.f⟩
    | _ => cases h
  | bar => exact True.intro
  | flu => exact True.intro
  | _ => cases h
end FW

/-! zip of a list, a tuple and a list -/
namespace CC
open PySem PySem.Spec PyProof.Rows L2 XV XL UU
def Itz3 (K : PySem.W.Frag) (a b c : Addr) : It :=
  ⟨fun i H => ∃ (xs ys zs : List V) (x y z : V), SqL K H a xs ∧ SqT K H b ys ∧ SqL K H c zs ∧ xs[i]? = some x ∧ ys[i]? = some y ∧ zs[i]? = some z,
    fun i H v H' => ∃ T x y z, v = .ref T ∧ H T = none ∧ H' = upd H T (.tup [x, y, z]) ∧ (∀ xs, SqL K H a xs → xs[i]? = some x) ∧ (∀ ys, SqT K H b ys → ys[i]? = some y) ∧ ∀ zs, SqL K H c zs → zs[i]? = some z,
    fun i H => ∃ xs ys zs : List V, SqL K H a xs ∧ SqT K H b ys ∧ SqL K H c zs ∧ (i ≤ xs.length ∧ i ≤ ys.length ∧ i ≤ zs.length) ∧ (i = xs.length ∨ i = ys.length ∨ i = zs.length)⟩
theorem turn_zip3 {P : Program} {w : World} {K : PySem.W.Frag} {elts : List Expr} {kk : Nat} {tpos : Pos} {a b c z TI TO i1 i2 i3 : Addr} (S : ZipSep3 z TI TO i1 i2 i3 [i1, a] [i2, b] [i3, c]) (n1 : a ≠ i1) (n2 : b ≠ i2) (n3 : c ≠ i3) :
    Turn P w K (.Tuple elts kk tpos) (Itz3 K a b c) [z, TI, TO, i1, i2, i3] z (fun i h => IsZip h z TI TO .none ∧ IsTupOf3 h TI (.ref i1) (.ref i2) (.ref i3) ∧ (∃ x y u, IsTupOf3 h TO x y u) ∧ h.IsListIter i1 a i ∧ h.IsTupleIter i2 b i ∧ h.IsListIter i3 c i) where
  mem := by simp
  obj := fun i h st q hq => by
    obtain ⟨hz, hTI, ⟨x, y, u, hTO⟩, ⟨o1, e1, _, d1⟩, ⟨o2, e2, _, d2⟩, ⟨o3, e3, _, d3⟩⟩ := st
    have e' : q = z ∨ q = TI ∨ q = TO ∨ q = i1 ∨ q = i2 ∨ q = i3 := by simpa using hq
    rcases e' with r | r | r | r | r | r
    · rw [r]; exact ⟨_, hz, fun v r => nomatch r⟩
    · rw [r]; exact ⟨_, hTI, fun v r => nomatch r⟩
    · rw [r]; exact ⟨_, hTO, fun v r => nomatch r⟩
    · rw [r]; exact ⟨o1, e1, fun v r => by rw [d1] at r; cases r⟩
    · rw [r]; exact ⟨o2, e2, fun v r => by rw [d2] at r; cases r⟩
    · rw [r]; exact ⟨o3, e3, fun v r => by rw [d3] at r; cases r⟩
  keep := fun i h h' st k => by
    obtain ⟨hz, hTI, ⟨x, y, u, hTO⟩, h1, h2, h3⟩ := st
    exact ⟨k z (by simp) _ hz, k TI (by simp) _ hTI, ⟨x, y, u, k TO (by simp) _ hTO⟩, h1.at fun o q => k i1 (by simp) o q, h2.at fun o q => k i2 (by simp) o q, h3.at fun o q => k i3 (by simp) o q⟩
  item := by
    intro X hP hw hK hc i pins s σ H E I hf st hg
    subst hP hw hK
    obtain ⟨hz, hTI, ⟨x0, y0, u0, hTO⟩, h1, h2, h3⟩ := st
    obtain ⟨xs, ys, zs, x, y, zz, hqx, hqy, hqz, hx, hy, hzz⟩ := hg
    obtain ⟨its, rv, p, _⟩ := I.list hqx
    obtain ⟨its2, rv2, p2, _⟩ := I.tuple hqy
    obtain ⟨its3, rv3, p3, _⟩ := I.list hqz
    obtain ⟨u, hu, ru⟩ := rv.get hx
    obtain ⟨u2, hu2, ru2⟩ := rv2.get hy
    obtain ⟨u3, hu3, ru3⟩ := rv3.get hzz
    have hh : X.A.in1.handled = none := I.ok.hd hc
    have hzl : z < s.heap.objs.size := Heap.lt_size hz
    have l1 : i < its.toArray.size := by simpa using (List.getElem?_eq_some_iff.mp hu).1
    have l2 : i < its2.toArray.size := by simpa using (List.getElem?_eq_some_iff.mp hu2).1
    have l3 : i < its3.toArray.size := by simpa using (List.getElem?_eq_some_iff.mp hu3).1
    refine wpAny_pyNext_zipD3_item S (Draws.list hh i1 a n1 its.toArray) (Draws.tuple hh i2 b n2 its2.toArray) (Draws.list hh i3 c n3 its3.toArray) hz hTI hTO ⟨h1, p.isList⟩ ⟨h2, p2⟩ ⟨h3, p3.isList⟩ l1 l2 l3 fun x1 x2 x3 h' tk y1 y2 y3 z' TO' st1 st2 st3 hT hsz hk => ?_
    have hu' : its.toArray[i]? = some u := by simpa using hu
    have hu2' : its2.toArray[i]? = some u2 := by simpa using hu2
    have hu3' : its3.toArray[i]? = some u3 := by simpa using hu3
    obtain rfl : u = x1 := by rw [hu'] at y1; exact Option.some.inj y1
    obtain rfl : u2 = x2 := by rw [hu2'] at y2; exact Option.some.inj y2
    obtain rfl : u3 = x3 := by rw [hu3'] at y3; exact Option.some.inj y3
    refine ⟨_, rfl, wpAny_letOwnedTupleGo_zip (s := { s with heap := h', toks := tk }) z' fun h'' z'' sb => ?_⟩
    have hT2 : h''.get? s.heap.objs.size = some { cls := .type "tuple", data := .seq #[u, u2, u3] } := (sb.2 _ (Nat.ne_of_gt hzl)).trans hT
    have new : ObjOk X.prog X.w (upd H s.heap.objs.size (.tup [x, y, zz])) h'' s.heap.objs.size (.tup [x, y, zz]) :=
      ⟨by show 3 ≤ sizeLine; decide, [u, u2, u3], .cons ru (.cons ru2 (.cons ru3 .nil)), ⟨_, hT2, rfl, _, rfl⟩⟩
    have I1 : Inv X pins σ (upd H s.heap.objs.size (.tup [x, y, zz])) { s with heap := h'', toks := tk } :=
      I.turnedNew (t' := tk) (ch := [z, TI, TO, i1, i2, i3]) (fun q o hb e => (sb.2 q (fun q' => hb (by simp [q']))).trans (hk q o (fun q' => hb (by simp [q'])) (fun q' => hb (by simp [q'])) (fun q' => hb (by simp [q'])) (fun q' => hb (by simp [q'])) (fun q' => hb (by simp [q'])) e)) hf (Nat.le_refl _) new
    have ti1 : i1 ≠ z := fun e => S.zi1 e.symm
    have ti2 : i2 ≠ z := fun e => S.zi2 e.symm
    have ti3 : i3 ≠ z := fun e => S.zi3 e.symm
    refine ⟨.ref s.heap.objs.size, _, I1, rfl, ⟨_, x, y, zz, rfl, I.hok.fresh (Nat.le_refl _), rfl, fun l hl => by rw [I.list_inj hl hqx]; exact hx, fun l hl => by rw [I.tuple_inj hl hqy]; exact hy, fun l hl => by rw [I.list_inj hl hqz]; exact hzz⟩, ⟨z'', ?_, ⟨u, u2, u3, ?_⟩, ?_, ?_, ?_⟩, fun q hq => ?_⟩
    · exact (sb.2 _ S.TIz).trans (hk _ _ S.TIz S.TITO S.TIi1 S.TIi2 S.TIi3 hTI)
    · exact (sb.2 _ S.TOz).trans TO'
    · exact st1.1.at fun o q => (sb.2 _ ti1).trans q
    · exact st2.1.at fun o q => (sb.2 _ ti2).trans q
    · exact st3.1.at fun o q => (sb.2 _ ti3).trans q
    · have hlt : q < s.heap.objs.size := by
        have e' : q = z ∨ q = TI ∨ q = TO ∨ q = i1 ∨ q = i2 ∨ q = i3 := by simpa using hq
        rcases e' with r | r | r | r | r | r
        · rw [r]; exact hzl
        · rw [r]; exact Heap.lt_size hTI
        · rw [r]; exact Heap.lt_size hTO
        · rw [r]; obtain ⟨_, e1, _⟩ := h1; exact Heap.lt_size e1
        · rw [r]; obtain ⟨_, e2, _⟩ := h2; exact Heap.lt_size e2
        · rw [r]; obtain ⟨_, e3, _⟩ := h3; exact Heap.lt_size e3
      rw [upd_ne (Nat.ne_of_lt hlt)]
      exact (hf q hq).1
  done := by
    intro X hP hw hK hc i pins s σ H E I hf st hg
    subst hP hw hK
    obtain ⟨hz, hTI, ⟨x0, y0, u0, hTO⟩, h1, h2, h3⟩ := st
    obtain ⟨xs, ys, zs, hqx, hqy, hqz, ⟨hl1, hl2, hl3⟩, hend⟩ := hg
    obtain ⟨its, rv, p, _⟩ := I.list hqx
    obtain ⟨its2, rv2, p2, _⟩ := I.tuple hqy
    obtain ⟨its3, rv3, p3, _⟩ := I.list hqz
    have m1 : its.toArray.size = xs.length := by rw [List.size_toArray]; exact rv.length.symm
    have m2 : its2.toArray.size = ys.length := by rw [List.size_toArray]; exact rv2.length.symm
    have m3 : its3.toArray.size = zs.length := by rw [List.size_toArray]; exact rv3.length.symm
    have hh : X.A.in1.handled = none := I.ok.hd hc
    exact wpAny_pyNext_zipD3_end S (Draws.list hh i1 a n1 its.toArray) (Draws.tuple hh i2 b n2 its2.toArray) (Draws.list hh i3 c n3 its3.toArray) hz hTI hTO ⟨h1, p.isList⟩ ⟨h2, p2⟩ ⟨h3, p3.isList⟩ (by omega) (by omega) (by omega) (by omega)
      fun h' tk hk => ⟨rfl, I.turnedL (t' := tk) (ch := [z, TI, TO, i1, i2, i3]) (fun q o hb e => hk q o (fun q' => hb (by simp [q'])) (fun q' => hb (by simp [q'])) (fun q' => hb (by simp [q'])) (fun q' => hb (by simp [q'])) (fun q' => hb (by simp [q'])) e) hf⟩
  self := fun A i s Q E st h => wpAny_pyIter_zip st.1 h
def iZip3 (K : PySem.W.Frag) (ta : TA) : TI := fun σ H R => ta σ H fun vs H1 => ∃ a b c xs ys zs, vs = [.ref a, .ref b, .ref c] ∧ SqL K H1 a xs ∧ SqT K H1 b ys ∧ SqL K H1 c zs ∧ R (Itz3 K a b c) H1
theorem pi_zip3 {X : Cx} {e e2 e3 : Expr} {ta : TA} {p pos tpos : Pos} {elts : List Expr} {kk : Nat} (hg : Gl X "zip") (hm : X.mg "zip" = none) (ha : PA X [e, e2, e3] ta)
    (hs : starEach [e, e2, e3] X.env = (false, eval e X.env) :: starEach [e2, e3] X.env := by rfl) (hpl : (backTo pos (starEach [e2, e3] X.env)).any (·.1) = false := by rfl) :
    PI X (.Tuple elts kk tpos) (.Call (.Name "zip" p) [e, e2, e3] [] pos) (iZip3 X.K ta) := by
  refine ⟨fun pins s σ H R I h => ?_⟩
  refine Call_ (ld_blt I hg hm PyProof.Rows.boot_zip (PyProof.Rows.callWith_type1 (thn (ha.run pos pins s σ H _ I h) fun us s1 ⟨vs, H1, I1, r1, q1⟩ => ?_) hs hpl))
  obtain ⟨a, b, c, xs, ys, zs, ex, hqx, hqy, hqz, q⟩ := q1
  subst ex
  cases r1 with
  | cons r rr =>
    cases rr with
    | cons r' rr =>
      cases rr with
      | cons r'' rr =>
        cases rr
        cases r
        cases r'
        cases r''
        obtain ⟨its, rv, p1, _⟩ := I1.list hqx
        obtain ⟨its2, rv2, p2, _⟩ := I1.tuple hqy
        obtain ⟨its3, rv3, p3, _⟩ := I1.list hqz
        obtain ⟨o2, ho2, _⟩ := id p2
        have b1 : a < s1.heap.objs.size := p1.lt
        have b2 : b < s1.heap.objs.size := Heap.lt_size ho2
        have b3 : c < s1.heap.objs.size := p3.lt
        refine zip_begins3 (begins_list a its.toArray) (begins_tuple b its2.toArray) (begins_list c its3.toArray) p1.isList p2 p3.isList fun h' hz hTI hTO g1 g2 g3 hsz hk => wpAny_pyIter_zip hz ?_
        have I2 : Inv X pins σ H1 { s1 with heap := h' } := I1.kept (t' := s1.toks) hk
        have hfr : ∀ k, k < 6 → FpOk X pins H1 (s1.heap.objs.size + k) := fun k _ => I1.fpOk (Nat.le_add_right _ _) (I1.hok.fresh (Nat.le_add_right _ _))
        refine ⟨s1.heap.objs.size + 5, [s1.heap.objs.size + 5, s1.heap.objs.size + 3, s1.heap.objs.size + 4, s1.heap.objs.size, s1.heap.objs.size + 1, s1.heap.objs.size + 2], _, _, H1, rfl, I2,
          turn_zip3 (zip_sep3 (fp1 := [a]) (fp2 := [b]) (fp3 := [c]) (fun q hq => by rw [List.mem_singleton.mp hq]; exact b1) (fun q hq => by rw [List.mem_singleton.mp hq]; exact b2) (fun q hq => by rw [List.mem_singleton.mp hq]; exact b3)) (Nat.ne_of_lt b1) (Nat.ne_of_lt (Nat.lt_succ_of_lt b2)) (Nat.ne_of_lt (Nat.lt_succ_of_lt (Nat.lt_succ_of_lt b3))), ⟨hz, hTI, ⟨_, _, _, hTO⟩, ⟨_, g1, rfl, rfl⟩, ⟨_, g2, rfl, rfl⟩, ⟨_, g3, rfl, rfl⟩⟩, fun q hq => ?_, q⟩
        have e' : q = s1.heap.objs.size + 5 ∨ q = s1.heap.objs.size + 3 ∨ q = s1.heap.objs.size + 4 ∨ q = s1.heap.objs.size ∨ q = s1.heap.objs.size + 1 ∨ q = s1.heap.objs.size + 2 := by simpa using hq
        rcases e' with r | r | r | r | r | r <;> rw [r]
        · exact hfr 5 (by decide)
        · exact hfr 3 (by decide)
        · exact hfr 4 (by decide)
        · exact hfr 0 (by decide)
        · exact hfr 1 (by decide)
        · exact hfr 2 (by decide)
/-- a new triple of the i-th things -/
def YTrip (xs ys zs : Nat → Option V) : Nat → Hp → V → Hp → Prop := fun i H v H' => ∃ T x y z, v = .ref T ∧ H T = none ∧ H' = upd H T (.tup [x, y, z]) ∧ xs i = some x ∧ ys i = some y ∧ zs i = some z
theorem walk_zip3 {K : PySem.W.Frag} {a b c : Addr} {xs ys zs : List V} {n : Nat} (h1 : xs.length = n) (h2 : ys.length = n) (h3 : zs.length = n) : Walk (Itz3 K a b c) n (fun H => SqL K H a xs ∧ SqT K H b ys ∧ SqL K H c zs) (YTrip (fun i => xs[i]?) (fun i => ys[i]?) (fun i => zs[i]?)) :=
  ⟨fun i H hi ⟨q1, q2, q3⟩ => ⟨xs, ys, zs, xs[i], ys[i], zs[i], q1, q2, q3, List.getElem?_eq_getElem (by omega), List.getElem?_eq_getElem (by omega), List.getElem?_eq_getElem (by omega)⟩,
   fun H ⟨q1, q2, q3⟩ => ⟨xs, ys, zs, q1, q2, q3, ⟨by omega, by omega, by omega⟩, .inl (by omega)⟩,
   fun i H v H' hi ⟨q1, q2, q3⟩ ⟨T, x, y, z, e, ht, e', g1, g2, g3⟩ => ⟨T, x, y, z, e, ht, e', g1 xs q1, g2 ys q2, g3 zs q3⟩⟩
end CC

/-! the law's own trying of all counts -/
namespace CC
open PySem PySem.Spec PyProof.Rows L2 XV XL UU
/-- a list == [] -/
def rEqL0 (K : PySem.W.Frag) : R2 := fun x y H Q => ∃ a b xs, x = .ref a ∧ y = .ref b ∧ SqL K H a xs ∧ SqL K H b [] ∧ Q (.bl xs.isEmpty) H
theorem op_eqL0 {X : Cx} (hu0 : X.A.units + 64 < cLine) : OpR X (compareOp .Eq) (rEqL0 X.K) := by
  have hu : X.A.units < cLine := Nat.lt_of_le_of_lt (Nat.le_add_right _ 64) hu0
  intro pins s σ H x y v u Q I rx ry h
  obtain ⟨a, b, xs, rfl, rfl, ha, hb, q⟩ := h
  cases (show v = Value.ref a from rx)
  cases (show u = Value.ref b from ry)
  obtain ⟨us, r1, p1, _⟩ := I.list ha
  obtain ⟨ws, r2, p2, _⟩ := I.list hb
  cases r2
  cases r1 with
  | nil =>
    refine SeqAt.RcAt.lists (e := fun _ => true) p1.isList p2.isList rfl hu (fun j h1 => absurd h1 (Nat.not_lt_zero j)) X.prog X.w _ _ ⟨.bl true, H, I, ?_, q⟩
    rfl
  | cons r t =>
    exact SeqAt.RcAt.lists_lengths p1.isList p2.isList (by simp) hu X.prog X.w _ _ ⟨.bl false, H, I, rfl, q⟩
end CC
namespace FW
open PySem PySem.Spec PyProof.Rows L2 XV XL UU LamX NdefX GX GxR CC
theorem pairs_snoc (t : Bool) (ds : List PyData) (n : Nat) (v d : PyData) : pairsFrom t n v (ds ++ [d]) = pairsFrom t n v ds ++ ((partJ t (lastV v ds) d).map (fun j => (n + ds.length, j)) ++ [(n + ds.length + 1, 0)]) := by
  rw [← waysFrom_keys t "" (ds ++ [d]), ← waysFrom_keys t "" ds, waysFrom_snoc, List.map_append, List.map_append]
  unfold partW
  rw [List.map_map] <;> rfl
/-- the parts of the put behind the i-th value -/
def tornAt (t : Bool) (v : PyData) (ds : List PyData) (i : Nat) : List Kp := match ds[i]? with
  | some d => (partJ t (lastV v (ds.take i)) d).map (fun j => (i, j))
  | none => []
theorem tornAt_some {t : Bool} {v d : PyData} {ds : List PyData} {i : Nat} (h : ds[i]? = some d) : tornAt t v ds i = (partJ t (lastV v (ds.take i)) d).map (fun j => (i, j)) := by
  unfold tornAt
  rw [h]
theorem tornAt_none {t : Bool} {v : PyData} {ds : List PyData} {i : Nat} (h : ds[i]? = none) : tornAt t v ds i = [] := by
  unfold tornAt
  rw [h]
theorem tornAt_false {v : PyData} {ds : List PyData} {i : Nat} : tornAt false v ds i = [] := by
  unfold tornAt
  cases ds[i]? <;> rfl
/-- what the law has found ahead of its turn i -/
def prefP (t : Bool) (v : PyData) (ds : List PyData) : Nat → List Kp
  | 0 => []
  | i + 1 => pairsFrom t 0 v (ds.take i) ++ tornAt t v ds i
theorem pref_succ (t : Bool) (v : PyData) (ds : List PyData) (i : Nat) : prefP t v ds (i + 1) = pairsFrom t 0 v (ds.take i) ++ tornAt t v ds i := rfl
theorem pref_next {t : Bool} {v : PyData} {ds : List PyData} : ∀ {i : Nat}, i ≤ ds.length → prefP t v ds i ++ [(i, 0)] = pairsFrom t 0 v (ds.take i)
  | 0, _ => rfl
  | i + 1, h => by
    have hi : i < ds.length := h
    have e := List.getElem?_eq_getElem hi
    rw [take_succ' e, pairs_snoc]
    rw [pref_succ, tornAt_some e]
    rw [List.append_assoc, List.length_take, Nat.min_eq_left (Nat.le_of_lt hi), Nat.zero_add]
theorem pref_end {t : Bool} {v : PyData} {ds : List PyData} : prefP t v ds (ds.length + 1) = pairsFrom t 0 v ds := by
  rw [pref_succ, tornAt_none (List.getElem?_eq_none (Nat.le_refl _)), List.take_length]
  exact List.append_nil _
theorem val_at {v : PyData} {ds : List PyData} : ∀ {i : Nat}, i ≤ ds.length → (v :: ds)[i]? = some (lastV v (ds.take i))
  | 0, _ => rfl
  | i + 1, h => by
    have hi : i < ds.length := h
    have e := List.getElem?_eq_getElem hi
    rw [take_succ' e, lastV_app, List.getElem?_cons_succ, e]
theorem pairs_le (t : Bool) : ∀ (ds es : List PyData) (n : Nat) (v : PyData), (pairsFrom t n v ds).length ≤ (pairsFrom t n v (ds ++ es)).length := fun ds es n v => by
  rw [← waysFrom_keys t "" ds, ← waysFrom_keys t "" (ds ++ es), List.length_map, List.length_map]
  exact ways_len t "" ds es n v
theorem pairs_ge (t : Bool) : ∀ (ds : List PyData) (n : Nat) (v : PyData), ds.length + 1 ≤ (pairsFrom t n v ds).length
  | [], _, _ => Nat.le_refl _
  | d :: ds, n, v => by
    have ih := pairs_ge t ds (n + 1) d
    show (d :: ds).length + 1 ≤ (_ :: (_ ++ pairsFrom t (n + 1) d ds) : List Kp).length
    rw [List.length_cons, List.length_cons, List.length_append]
    omega
theorem pref_len {t : Bool} {v : PyData} {ds : List PyData} : ∀ {i : Nat}, i ≤ ds.length + 1 → (prefP t v ds i).length ≤ (pairsFrom t 0 v ds).length
  | 0, _ => Nat.zero_le _
  | i + 1, h => by
    by_cases hi : i < ds.length
    · have h1 := pref_next (t := t) (v := v) (ds := ds) (i := i + 1) hi
      have h2 := pairs_le t (ds.take (i + 1)) (ds.drop (i + 1)) 0 v
      rw [List.take_append_drop, ← h1, List.length_append] at h2
      omega
    · have e : i = ds.length := by omega
      rw [e, pref_end]
      exact Nat.le_refl _
/-! ### whether counts fit -/
theorem ok_snoc : ∀ {as hs : List Nat} {c : List Kp} {i : Nat} {a h : Nat} {x : Kp}, as[i]? = some a → c[i]? = some x → hs[i]? = some h → okAll (as.take (i + 1)) (c.take (i + 1)) (hs.take (i + 1)) = (okAll (as.take i) (c.take i) (hs.take i) && (decide (a ≤ x.1) && decide (up x ≤ h)))
  | a0 :: as, h0 :: hs, x0 :: c, 0, a, h, x, e1, e2, e3 => by
    obtain rfl : a0 = a := by simpa using e1
    obtain rfl : x0 = x := by simpa using e2
    obtain rfl : h0 = h := by simpa using e3
    show (decide (a0 ≤ x0.1) && decide (up x0 ≤ h0) && okAll [] [] []) = (true && _)
    rw [Bool.true_and, show okAll [] [] [] = true from rfl, Bool.and_true]
  | a0 :: as, h0 :: hs, x0 :: c, i + 1, a, h, x, e1, e2, e3 => by
    have ih := ok_snoc (as := as) (hs := hs) (c := c) (i := i) (a := a) (h := h) (x := x) (by simpa using e1) (by simpa using e2) (by simpa using e3)
    show (decide (a0 ≤ x0.1) && decide (up x0 ≤ h0) && okAll (as.take (i + 1)) (c.take (i + 1)) (hs.take (i + 1))) = ((decide (a0 ≤ x0.1) && decide (up x0 ≤ h0) && okAll (as.take i) (c.take i) (hs.take i)) && _)
    rw [ih]
    simp only [Bool.and_assoc]
theorem ahead_len {names : List Str} {ep : Pgs} {as : List Nat} (h : as.length = names.length) : (aheadOf names ep as).length = names.length := by
  unfold aheadOf
  rw [List.length_zipWith, h, Nat.min_self]
theorem ahead_at {names : List Str} {ep : Pgs} {as : List Nat} {i a : Nat} {nm : Str} (h1 : as[i]? = some a) (h2 : names[i]? = some nm) : (aheadOf names ep as)[i]? = some (a + (pageVals nm ep).length) := by
  unfold aheadOf
  rw [List.getElem?_zipWith, h1, h2]
def vN (n : Nat) : V := .int (n : Nat)
end FW

/-! what the program keeps is what the law finds; how much there is -/
namespace FW
open PySem PySem.Spec PyProof.Rows L2 XV XL UU LamX NdefX GX GxR CC
/-- not too many of them -/
structure LaSmall (a : La) : Prop where
  n : a.ep.length < 1000
  e : ∀ e ∈ a.ep, e.length < 1000
def restV (nm : Str) (eps : List Pgs) : List PyData := eps.flatMap (pageVals nm)
def keptL (c : List Kp) : PyData := .tuple (c.map kpD)
/-- a page's value on the law's disk -/
def laV (a : La) (nm : Str) : PyData := (pgGet a.fd nm).getD .none
def laPairs (tn : List Str) (a : La) (nm : Str) : List Kp := pairsFrom (decide (nm ∈ tn)) 0 (laV a nm) (restV nm a.ep)
/-- all that the law finds by trying -/
def laKept (tn ks : List Str) (a : La) : List (List Kp) := (prodR (ks.map (laPairs tn a))).filter (fitsR ks (ks.map fun _ => 0) a.ep)
structure LaFit (tn ks : List Str) (a : La) : Prop where
  sm : LaSmall a
  inn : ∀ nm ∈ ks, ∃ d, pgGet a.fd nm = some d
  s : ∀ nm ∈ ks, ∀ d ∈ laV a nm :: restV nm a.ep, Sml 4 d
  p : ∀ nm ∈ ks, (laPairs tn a nm).length < 1000000
  q : ∀ i, (prodR ((ks.map (laPairs tn a)).take i)).length < 1000000

theorem pgGet_nd' {ps : Pgs} {p : Str × PyData} (nd : (ps.map (·.1)).Nodup) (h : p ∈ ps) : pgGet ps p.1 = some p.2 := by
  induction ps with
  | nil => cases h
  | cons q r ih =>
    rw [List.map_cons, List.nodup_cons] at nd
    unfold pgGet
    rcases List.mem_cons.mp h with rfl | h
    · rw [List.lookup_cons]; simp
    · have : ¬ p.1 = q.1 := fun z => nd.1 (by rw [← z]; exact List.mem_map_of_mem h)
      rw [List.lookup_cons, show (p.1 == q.1) = false by simpa using this]
      exact ih nd.2 h
def keptD (c : List Wy) : PyData := .tuple (c.map fun x => kpD x.key)
theorem kept_law {tn tn' : List Str} {m : Mo} {a : La} (hp : tn'.Perm tn) (he : m.eps = a.ep) (hne : a.ep ≠ []) (hg : ∀ n, pgGet m.sync n = pgGet a.fd n) (nd : (m.sync.map (·.1)).Nodup) : (waysM tn' m).map keptD = (laKept tn (m.sync.map (·.1)) a).map keptL := by
  have e1 : (waysM tn' m).map keptD = ((waysM tn' m).map (List.map Wy.key)).map keptL := by
    rw [List.map_map]
    refine List.map_congr_left fun c _ => ?_
    show PyData.tuple (c.map fun x => kpD x.key) = .tuple ((c.map Wy.key).map kpD)
    rw [List.map_map] <;> rfl
  rw [e1]
  congr 1
  unfold waysM
  rw [waysR_keys, kept_eq _ (by rw [he]; exact hne)]
  have c1 : (curs tn' m.sync).map (·.nm) = m.sync.map (·.1) := by
    unfold curs
    rw [List.map_map] <;> rfl
  have c2 : (curs tn' m.sync).map (·.n) = (m.sync.map (·.1)).map fun _ => 0 := by
    unfold curs
    rw [List.map_map, List.map_map] <;> rfl
  have c3 : (curs tn' m.sync).map (fun c => pairsFrom c.t c.n c.v (c.rest m.eps)) = (m.sync.map (·.1)).map (laPairs tn a) := by
    unfold curs
    rw [List.map_map, List.map_map]
    refine List.map_congr_left fun p hp' => ?_
    show pairsFrom (decide (p.1 ∈ tn')) 0 p.2 (m.eps.flatMap (pageVals p.1)) = pairsFrom (decide (p.1 ∈ tn)) 0 (laV a p.1) (restV p.1 a.ep)
    have hv : laV a p.1 = p.2 := by
      unfold laV
      rw [← hg, pgGet_nd' nd hp'] <;> rfl
    rw [hv, he, show decide (p.1 ∈ tn') = decide (p.1 ∈ tn) from by
      by_cases q : p.1 ∈ tn
      · rw [decide_eq_true q, decide_eq_true (hp.mem_iff.mpr q)]
      · rw [decide_eq_false q, decide_eq_false fun z => q (hp.mem_iff.mp z)]] <;> rfl
  rw [c1, c2, c3, he] <;> rfl
/-! ### sizes -/
theorem flat_len {α : Type} (r : List α) (ps : List (List α)) : (r.flatMap fun x => ps.map (x :: ·)).length = r.length * ps.length := by
  induction r with
  | nil => simp
  | cons x r ih => rw [List.flatMap_cons, List.length_append, List.length_map, ih, List.length_cons, Nat.succ_mul, Nat.add_comm]
theorem prod_bound {α β : Type} {f : β → List α} {g : β → Nat} : ∀ {xs : List β}, (∀ x ∈ xs, (f x).length ≤ 4 ^ g x) → (prodR (xs.map f)).length ≤ 4 ^ (xs.map g).sum
  | [], _ => Nat.le_refl _
  | x :: xs, h => by
    show ((f x).flatMap fun y => (prodR (xs.map f)).map (y :: ·)).length ≤ 4 ^ (g x + (xs.map g).sum)
    rw [flat_len, Nat.pow_add]
    exact Nat.mul_le_mul (h x (by simp)) (prod_bound fun y hy => h y (List.mem_cons_of_mem _ hy))
theorem sum_zero {β : Type} {g : β → Nat} : ∀ {xs : List β}, (∀ x ∈ xs, g x = 0) → (xs.map g).sum = 0
  | [], _ => rfl
  | x :: xs, h => by
    show g x + (xs.map g).sum = 0
    rw [h x (by simp), sum_zero fun y hy => h y (List.mem_cons_of_mem _ hy)]
theorem sum_one {β : Type} {nmf : β → Str} {k : Str} : ∀ {xs : List β}, (xs.map nmf).Nodup → (xs.map fun c => if k = nmf c then 1 else 0).sum ≤ 1
  | [], _ => Nat.zero_le _
  | x :: xs, h => by
    rw [List.map_cons, List.nodup_cons] at h
    show (if k = nmf x then 1 else 0) + (xs.map fun c => if k = nmf c then 1 else 0).sum ≤ 1
    by_cases e : k = nmf x
    · rw [if_pos e, sum_zero fun y hy => if_neg fun z => h.1 (by rw [← e, z]; exact List.mem_map_of_mem hy)]
      exact Nat.le_refl _
    · rw [if_neg e, Nat.zero_add]
      exact sum_one h.2
theorem sum_add {β : Type} {g h : β → Nat} : ∀ (xs : List β), (xs.map fun x => g x + h x).sum = (xs.map g).sum + (xs.map h).sum
  | [] => rfl
  | x :: xs => by
    show (g x + h x) + (xs.map fun x => g x + h x).sum = (g x + (xs.map g).sum) + (h x + (xs.map h).sum)
    rw [sum_add xs]
    omega
theorem vals_cons (nm : Str) (p : Str × PyData) (ep : Pgs) : (pageVals nm (p :: ep)).length = (if p.1 = nm then 1 else 0) + (pageVals nm ep).length := by
  unfold pageVals
  by_cases e : p.1 = nm
  · rw [List.filter_cons_of_pos (by simpa using e), if_pos e, List.map_cons, List.length_cons, Nat.add_comm]
  · rw [List.filter_cons_of_neg (by simpa using e), if_neg e, Nat.zero_add]
theorem sum_vals {β : Type} {nmf : β → Str} {xs : List β} (nd : (xs.map nmf).Nodup) : ∀ ep : Pgs, (xs.map fun c => (pageVals (nmf c) ep).length).sum ≤ ep.length
  | [] => by
    rw [sum_zero (g := fun c => (pageVals (nmf c) []).length) fun x _ => rfl]
    exact Nat.le_refl _
  | p :: ep => by
    have ih := sum_vals nd ep
    have h1 := sum_one (k := p.1) nd
    have e : (xs.map fun c => (pageVals (nmf c) (p :: ep)).length) = xs.map fun c => (if p.1 = nmf c then 1 else 0) + (pageVals (nmf c) ep).length := List.map_congr_left fun c _ => vals_cons _ _ _
    rw [e, sum_add, List.length_cons]
    omega
theorem torn_le {v d : PyData} (h : tupLen d ≤ 3) : (tornJ v d).length ≤ 2 := by
  unfold tornJ
  split
  · rename_i vs ds
    have h' : ds.length ≤ 3 := h
    split
    · rw [List.length_range']
      omega
    · exact Nat.zero_le _
  · exact Nat.zero_le _
theorem pairs_len4 (t : Bool) : ∀ (ds : List PyData) (n : Nat) (v : PyData), (∀ d ∈ ds, tupLen d ≤ 3) → (pairsFrom t n v ds).length ≤ 4 ^ ds.length
  | [], _, _, _ => Nat.le_refl _
  | d :: ds, n, v, h => by
    have ih := pairs_len4 t ds (n + 1) d fun x hx => h x (List.mem_cons_of_mem _ hx)
    have h1 := torn_le (v := v) (h d (by simp))
    have h2 : (partJ t v d).length ≤ 2 := by
      unfold partJ
      split
      · exact h1
      · exact Nat.zero_le _
    have h3 : 1 ≤ 4 ^ ds.length := Nat.one_le_pow _ _ (by decide)
    show (_ :: ((partJ t v d).map _ ++ pairsFrom t (n + 1) d ds) : List Kp).length ≤ 4 ^ (ds.length + 1)
    rw [List.length_cons, List.length_append, List.length_map, Nat.pow_succ]
    omega
theorem rest_flat (nm : Str) : ∀ eps : List Pgs, restV nm eps = pageVals nm eps.flatten
  | [] => rfl
  | e :: r => by
    show (e :: r).flatMap (pageVals nm) = pageVals nm (e ++ r.flatten)
    rw [List.flatMap_cons, show r.flatMap (pageVals nm) = pageVals nm r.flatten from rest_flat nm r]
    unfold pageVals
    rw [List.filter_append, List.map_append]
theorem pow7s {n : Nat} (h : n ≤ 7) : 4 ^ n < 100000 := Nat.lt_of_le_of_lt (Nat.pow_le_pow_right (by decide) h) (by decide)
theorem pow7 {n : Nat} (h : n ≤ 7) : 4 ^ n < 1000000 := Nat.lt_of_le_of_lt (Nat.pow_le_pow_right (by decide) h) (by decide)
/-- few puts, of small values -/
structure EpsFew (eps : List Pgs) : Prop where
  n : eps.flatten.length ≤ 7
  e : ∀ e ∈ eps, ∀ p ∈ e, PcOk 3 p.2
theorem EpsFew.tail {e : Pgs} {r : List Pgs} (h : EpsFew (e :: r)) : e.length ≤ 7 ∧ EpsFew r := by
  have h1 := h.n
  rw [List.flatten_cons, List.length_append] at h1
  exact ⟨by omega, ⟨by omega, fun x hx => h.e x (List.mem_cons_of_mem _ hx)⟩⟩
theorem vals_few {e : Pgs} (h : ∀ p ∈ e, PcOk 3 p.2) {nm : Str} : ∀ d ∈ pageVals nm e, tupLen d ≤ 3 := fun d hd => (h _ (pageVals_mem hd)).t
theorem stages_ok : ∀ (eps : List Pgs) (cs : List Cur), (cs.map (·.nm)).Nodup → EpsFew eps → StagesOk cs eps
  | [], _, _, _ => True.intro
  | e :: r, cs, nd, h => by
    obtain ⟨h1, h2⟩ := h.tail
    have hw : ∀ c : Cur, (c.ways e).length ≤ 4 ^ (pageVals c.nm e).length := fun c => by
      unfold Cur.ways
      rw [← List.length_map (f := Wy.key), waysFrom_keys]
      exact pairs_len4 _ _ _ _ (vals_few (h.e e (by simp)))
    have hk : ∀ c : Cur, (pageVals c.nm e).length ≤ 7 := fun c => by
      refine Nat.le_trans ?_ h1
      unfold pageVals
      rw [List.length_map]
      exact List.length_filter_le _ _
    refine ⟨⟨fun i => ?_, fun c _ => Nat.lt_of_le_of_lt (hw c) (pow7 (hk c))⟩, stages_ok r _ (by rw [names_next]; exact nd) h2⟩
    rw [← List.map_take]
    refine Nat.lt_of_le_of_lt (prod_bound (g := fun c => (pageVals c.nm e).length) fun c _ => hw c) (pow7 (Nat.le_trans (sum_vals (nmf := Cur.nm) ?_ e) h1))
    rw [List.map_take]
    exact nd.sublist (List.take_sublist _ _)
theorem la_bound {tn ks : List Str} {a : La} (h : EpsFew a.ep) (nd : ks.Nodup) : (∀ nm, (laPairs tn a nm).length < 1000000) ∧ ∀ i, (prodR ((ks.map (laPairs tn a)).take i)).length < 100000 := by
  have hv : ∀ nm, ∀ d ∈ restV nm a.ep, tupLen d ≤ 3 := fun nm d hd => by
    obtain ⟨e, he, hde⟩ := List.mem_flatMap.mp hd
    exact vals_few (h.e e he) d hde
  have hw : ∀ nm, (laPairs tn a nm).length ≤ 4 ^ (pageVals nm a.ep.flatten).length := fun nm => by
    unfold laPairs
    rw [← rest_flat]
    exact pairs_len4 _ _ _ _ (hv nm)
  have hk : ∀ nm, (pageVals nm a.ep.flatten).length ≤ 7 := fun nm => by
    refine Nat.le_trans ?_ h.n
    unfold pageVals
    rw [List.length_map]
    exact List.length_filter_le _ _
  refine ⟨fun nm => Nat.lt_of_le_of_lt (hw nm) (pow7 (hk nm)), fun i => ?_⟩
  rw [← List.map_take]
  refine Nat.lt_of_le_of_lt (prod_bound (g := fun nm => (pageVals nm a.ep.flatten).length) fun c _ => hw c) (pow7s (Nat.le_trans (sum_vals (nmf := id) ?_ a.ep.flatten) h.n))
  rw [List.map_id]
  exact nd.sublist (List.take_sublist _ _)
/-! ### the law's walk over small puts -/
structure LaPc (a : La) : Prop where
  f : ∀ p ∈ a.fd, PcOk 3 p.2
  e : ∀ e ∈ a.ep, ∀ p ∈ e, PcOk 3 p.2
def Wi.pc : Wi → Prop
  | .put _ d => PcOk 3 d
  | _ => True
theorem pc_set {ps : Pgs} (h : ∀ p ∈ ps, PcOk 3 p.2) {n : Str} {d : PyData} (hd : PcOk 3 d) : ∀ p ∈ pgSet ps n d, PcOk 3 p.2 := by
  rw [pgSet_map]
  intro p hp
  obtain ⟨q, hq, rfl⟩ := List.mem_map.mp hp
  by_cases e : q.1 = n
  · rw [if_pos e]; exact hd
  · rw [if_neg e]; exact h q hq
theorem pc_puts : ∀ (e fd : Pgs), (∀ p ∈ fd, PcOk 3 p.2) → (∀ p ∈ e, PcOk 3 p.2) → ∀ p ∈ pgPuts fd e, PcOk 3 p.2
  | [], _, h, _ => h
  | p :: e, fd, h, he => pc_puts e _ (pc_set h (he p (by simp))) fun q hq => he q (List.mem_cons_of_mem _ hq)
theorem LaPc.step {a : La} (h : LaPc a) (sp fl : List V) (i : Nat) {w : Wi} (hw : w.pc) : LaPc (a.step sp fl i w) := by
  have h1 : LaPc (a.put w) := by
    cases w with
    | put n d =>
      refine ⟨h.f, fun e he => ?_⟩
      have he' : e ∈ a.ep.dropLast ++ [a.ep.getLastD [] ++ [(n, d)]] := he
      rcases List.mem_append.mp he' with z | z
      · exact h.e e ((List.dropLast_sublist _).subset z)
      · rw [List.mem_singleton.mp z]
        intro p hp
        rcases List.mem_append.mp hp with y | y
        · by_cases hne : a.ep = []
          · rw [hne] at y; cases y
          · exact h.e _ (last_mem hne) p y
        · rw [List.mem_singleton.mp y]; exact hw
    | _ => exact h
  have h2 : ∀ b, LaPc ((a.put w).bar b) := fun b => by
    cases b with
    | false => exact h1
    | true =>
      refine ⟨h1.f, fun e he => ?_⟩
      have he' : e ∈ (a.put w).ep ++ [[]] := he
      rcases List.mem_append.mp he' with z | z
      · exact h1.e e z
      · rw [List.mem_singleton.mp z]; intro p hp; cases hp
  have h3 : ∀ b c, LaPc (((a.put w).bar b).flu c) := fun b c => by
    cases c with
    | false => exact h2 b
    | true =>
      refine ⟨pc_puts _ _ (h2 b).f fun p hp => ?_, fun e he => ?_⟩
      · obtain ⟨e, he, hpe⟩ := List.mem_flatten.mp hp
        exact (h2 b).e e he p hpe
      · rw [List.mem_singleton.mp (show e ∈ [[]] from he)]; intro p hp; cases hp
  exact h3 _ _
theorem walk_pc (sp fl : List V) : ∀ (ws : List Wi) (i : Nat) (a : La), LaPc a → (∀ w ∈ ws, Wi.pc w) → LaPc (La.walk sp fl i a ws)
  | [], _, _, h, _ => h
  | w :: ws, i, a, h, hw => walk_pc sp fl ws (i + 1) _ (h.step sp fl i (hw w (by simp))) fun v hv => hw v (List.mem_cons_of_mem _ hv)
theorem step_n (sp fl : List V) (i : Nat) (a : La) (w : Wi) (hne : a.ep ≠ []) : (a.step sp fl i w).ep ≠ [] ∧ (a.step sp fl i w).ep.flatten.length ≤ a.ep.flatten.length + 1 := by
  have hp : (a.put w).ep ≠ [] ∧ (a.put w).ep.flatten.length ≤ a.ep.flatten.length + 1 := by
    cases w with
    | put n d =>
      refine ⟨by show a.ep.dropLast ++ [a.ep.getLastD [] ++ [(n, d)]] ≠ []; simp, ?_⟩
      show (a.ep.dropLast ++ [a.ep.getLastD [] ++ [(n, d)]]).flatten.length ≤ _
      rw [flat_last hne, List.length_append, List.length_singleton]
      exact Nat.le_refl _
    | _ => exact ⟨hne, Nat.le_succ _⟩
  have hb : ∀ (c : La) (b : Bool), c.ep ≠ [] → (c.bar b).ep ≠ [] ∧ (c.bar b).ep.flatten.length ≤ c.ep.flatten.length := fun c b hc => by
    cases b with
    | false => exact ⟨hc, Nat.le_refl _⟩
    | true =>
      refine ⟨by show c.ep ++ [[]] ≠ []; simp, ?_⟩
      show (c.ep ++ [[]]).flatten.length ≤ _
      rw [List.flatten_append]
      simp
  have hf : ∀ (c : La) (b : Bool), c.ep ≠ [] → (c.flu b).ep ≠ [] ∧ (c.flu b).ep.flatten.length ≤ c.ep.flatten.length := fun c b hc => by
    cases b with
    | false => exact ⟨hc, Nat.le_refl _⟩
    | true => exact ⟨by show ([[]] : List Pgs) ≠ []; simp, Nat.zero_le _⟩
  have h1 := hb (a.put w) (w.isBar && !inV (.int (i : Nat)) sp) hp.1
  have h2 := hf _ ((w.isFlu && !inV (.int (i : Nat)) sp) || inV (.int (i : Nat)) fl) h1.1
  exact ⟨h2.1, Nat.le_trans h2.2 (Nat.le_trans h1.2 hp.2)⟩
theorem walk_n (sp fl : List V) : ∀ (ws : List Wi) (i : Nat) (a : La), a.ep ≠ [] → (La.walk sp fl i a ws).ep.flatten.length ≤ a.ep.flatten.length + ws.length
  | [], _, _, _ => Nat.le_refl _
  | w :: ws, i, a, h => by
    obtain ⟨h1, h2⟩ := step_n sp fl i a w h
    have ih := walk_n sp fl ws (i + 1) (a.step sp fl i w) h1
    show (La.walk sp fl (i + 1) (a.step sp fl i w) ws).ep.flatten.length ≤ _
    rw [List.length_cons]
    omega
theorem execR_pc {ks : List Str} : ∀ (n : Nat) (rs : List RowD) (ns : Nts) (es : ES), rs.length ≤ n → (∀ r ∈ rs, PutRow 3 ks r) → (∀ p ∈ es.steps, Wi.pc p.1) → (∀ p ∈ (execR rs ns es).1.steps, Wi.pc p.1) := by
  intro n
  induction n with
  | zero =>
    intro rs ns es hn _ h
    obtain rfl : rs = [] := List.length_eq_zero_iff.mp (by omega)
    rw [execR]
    exact h
  | succ n ih =>
    intro rs ns es hn hr h
    cases rs with
    | nil =>
      rw [execR]
      exact h
    | cons r rs =>
      have hn' : rs.length ≤ n := by rw [List.length_cons] at hn; omega
      have hr' : ∀ r ∈ rs, PutRow 3 ks r := fun q hq => hr q (List.mem_cons_of_mem _ hq)
      have h0 := hr r (by simp)
      have go : ∀ w : Wi, w.pc → ∀ p ∈ (es.go w).steps, Wi.pc p.1 := fun w hw p hp => by
        have hp' : p ∈ es.steps ++ [(w, es.ans w)] := hp
        rcases List.mem_append.mp hp' with z | z
        · exact h p z
        · rw [List.mem_singleton.mp z]; exact hw
      cases r with
      | put nm p =>
        cases p with
        | value d =>
          rw [execR]
          exact ih _ _ (es.go _) hn' hr' (go _ h0.2)
        | _ => cases h0
      | bar => rw [execR]; exact ih _ _ (es.go _) hn' hr' (go _ True.intro)
      | flu => rw [execR]; exact ih _ _ (es.go _) hn' hr' (go _ True.intro)
      | _ => cases h0
/-- a step within fp0, then one within what is new -/
theorem stp_in {G : Tb} {fp0 fp1 : List Addr} {H H1 H2 : Hp} (a : Keep fp0 H H1) (b : Stp G fp1 H1 H2) (n : ∀ x ∈ fp1, Fr0 H x) : Stp G fp0 H H2 :=
  ⟨fun c o e h0 nt => b.k c o (a c o e h0 nt) (fun hc => by
    obtain ⟨ps, z⟩ := n c hc o e
    exact nt ps z) nt, b.t⟩
end FW

namespace K10
open PySem PySem.Spec PyProof.Rows L2 XV XL UU CC FW
abbrev KC (K : PySem.W.Frag) (x : Str) : Addr := He.ga K x
structure Tx (K : PySem.W.Frag) (mg : Str → Option Value) : Prop where
  n_len : mg "len" = none
  n_int : mg "int" = none
  n_isinstance : mg "isinstance" = none
  n_list : mg "list" = none
  n_tuple : mg "tuple" = none
  n_bool : mg "bool" = none
  n_all : mg "all" = none
  n_zip : mg "zip" = none
  n_range : mg "range" = none
  n_min : mg "min" = none
  n_dict : mg "dict" = none
  n_sorted : mg "sorted" = none
  n_enumerate : mg "enumerate" = none
  n_str : mg "str" = none
  n_Exception : mg "Exception" = none
  m_LETTERS_OF_WORD : ∃ t, mg "LETTERS_OF_WORD" = some (.int 8 t)
  m_HIGHEST_LONGEST : ∃ t, mg "HIGHEST_LONGEST" = some (.int 60 t)
  m_HIGHEST_MOST : ∃ t, mg "HIGHEST_MOST" = some (.int 2000 t)
  K_Hand : Cls K (KC K "Hand")
  a_Hand__pages : NoAttr K (KC K "Hand") "_pages"
  a_Hand__longest : NoAttr K (KC K "Hand") "_longest"
  a_Hand__steps : NoAttr K (KC K "Hand") "_steps"
  a_Hand__notes : NoAttr K (KC K "Hand") "_notes"
  a_Hand__failure : NoAttr K (KC K "Hand") "_failure"
  a_Hand__held : NoAttr K (KC K "Hand") "_held"
  K_Moment : Cls K (KC K "Moment")
  a_Moment_pages : NoAttr K (KC K "Moment") "pages"
  a_Moment_synced : NoAttr K (KC K "Moment") "synced"
  a_Moment_epochs : NoAttr K (KC K "Moment") "epochs"
  a_Moment__ways : NoAttr K (KC K "Moment") "_ways"
  K_Run : Cls K (KC K "Run")
  a_Run__steps : NoAttr K (KC K "Run") "_steps"
  a_Run__notes : NoAttr K (KC K "Run") "_notes"
  a_Run__end : NoAttr K (KC K "Run") "_end"
  a_Run__moments : NoAttr K (KC K "Run") "_moments"
  a_Run__torn : NoAttr K (KC K "Run") "_torn"
  K_Plan : Cls K (KC K "Plan")
  a_Plan_work : NoAttr K (KC K "Plan") "work"
  a_Plan_mend : NoAttr K (KC K "Plan") "mend"
  a_Plan_torn : NoAttr K (KC K "Plan") "torn"
  a_Plan_longest : NoAttr K (KC K "Plan") "longest"
  a_Plan_most : NoAttr K (KC K "Plan") "most"
  a_Plan_spared_steps : NoAttr K (KC K "Plan") "spared_steps"
  a_Plan_flush_places : NoAttr K (KC K "Plan") "flush_places"
  a_Plan__start : NoAttr K (KC K "Plan") "_start"
  c_Held : mg "Held" = some (.ref (KC K "Held"))
  i_Held : PySem.W.findIn K (.ref (KC K "Held")) "__init__" = some (some (.ref (He.ma K (KC K "Held") "__init__")))
  t_Held : PySem.W.typeIn K (.ref (He.ma K (KC K "Held") "__init__")) = some (.type "function")
  k_Held : MkC K (KC K "Held") "Exception.__init__"
  s_Held : PySem.W.subIn K (.ref (KC K "Held")) (.type "BaseException") = some true
  y_Held : PySem.W.typeIn K (.ref (KC K "Held")) = some (.type "type")
  e_Held : PySem.W.exmOne K (.ref (KC K "Held")) (.ref (KC K "Held")) = some true
  c_NoMoment : mg "NoMoment" = some (.ref (KC K "NoMoment"))
  i_NoMoment : PySem.W.findIn K (.ref (KC K "NoMoment")) "__init__" = some (some (.ref (He.ma K (KC K "NoMoment") "__init__")))
  t_NoMoment : PySem.W.typeIn K (.ref (He.ma K (KC K "NoMoment") "__init__")) = some (.type "function")
  k_NoMoment : MkC K (KC K "NoMoment") "ValueError.__init__"
  s_NoMoment : PySem.W.subIn K (.ref (KC K "NoMoment")) (.type "BaseException") = some true
  y_NoMoment : PySem.W.typeIn K (.ref (KC K "NoMoment")) = some (.type "type")
  e_NoMoment : PySem.W.exmOne K (.ref (KC K "NoMoment")) (.ref (KC K "NoMoment")) = some true
  hi : PySem.W.findCls K (.type "Exception") (.type "type") "__init__" = some (.val (.builtin "Exception.__init__"))
  c_FallError : mg "FallError" = some (.ref (KC K "FallError"))
  ci : ∃ mc, CIni K (KC K "FallError") mc "ValueError.__init__"
  o_NoMoment : OexC K (KC K "NoMoment")
  x_NoMoment : XfC K (KC K "NoMoment")
  no_NoMoment : PySem.W.findIn K (.ref (KC K "NoMoment")) "moment" = some none
/-- a def without defaults -/
abbrev Fn (K : PySem.W.Frag) (x : Str) (st : Stmt) (f : Addr) (fd : FuncData) : Prop := FunD K x x (defArgs st) (defBody st) (defScope st) [] [] f fd
/-- a method -/
abbrev Fm (K : PySem.W.Frag) (c x : Str) (st : Stmt) (f : Addr) (fd : FuncData) : Prop := FunD K x (c ++ "." ++ x) (defArgs st) (defBody st) (defScope st) [] [] f fd
abbrev MM : Int := 2147483647
end K10

namespace K10
open PySem PySem.Spec PyProof.Rows L2 XV XL UU CC FW GX GxR
section
variable {P : Program} {w : World} {K : PySem.W.Frag} {mg : Str → Option Value} {base : Heap} {f c0 P0 : Addr} {fd : FuncData} {G : Tb}
/-! ### values -/
theorem sc_is_value : FnScope ["thing", "part"] ["thing"] (defScope s_is_value) := ⟨rfl, rfl, rfl, by decide +kernel, rfl, by decide +kernel, by decide +kernel⟩
def spIsValue (K : PySem.W.Frag) (G : Tb) (n : Nat) : Sp := fun vs H Q _ => ∃ (v : V) (d : PyData), vs = [v] ∧ Dp K H v d ∧ Sml n d ∧ Tbs G H ∧ ∀ H', Stp G [] H H' → Q (.bl (isVal d)) H'
def spIsValueR (K : PySem.W.Frag) (G : Tb) : Nat → Sp
  | 0 => fun _ _ _ _ => False
  | n + 1 => spIsValue K G n
theorem isVals_at {ds : List PyData} {i : Nat} {d : PyData} (h : ds[i]? = some d) : isVal.isVals (ds.drop i) = (isVal d && isVal.isVals (ds.drop (i + 1))) := by
  have hi := (List.getElem?_eq_some_iff.mp h).1
  rw [List.drop_eq_getElem_cons hi]
  have e : ds[i] = d := by
    have := List.getElem?_eq_getElem hi
    rw [this] at h
    exact Option.some.inj h
  rw [e] <;> rfl
theorem ok_is_value (F : Fn K "is_value" s_is_value f fd) (hc : fd.code = .ref c0) (TB : TabB base mg c0 P0) (hP : P0 ∈ G.gp) (hl : ∀ p ∈ G.lt, p.1 ≠ P0) (T : Tx K mg) (n N0 : Nat) (hn : N0 = 3 * n) (U_is_value : Use P w K mg base (L2.CX P w) "is_value" N0 ["thing"] (spIsValueR K G n)) :
    FnOk P w K mg base (L2.CX P w) (N0 + 3) f fd ["thing"] (spIsValue K G n) := by
  refine okC F hc sc_is_value (fun vs H Q E h => ?_) (fun A outer s H vs Q E hr h => ?_)
  · obtain ⟨_, _, rfl, _⟩ := h
    rfl
  · obtain ⟨v, d, rfl, hd, hs, ht, k⟩ := h
    refine ⟨_, PSs.nox (pss_cons (ps_if (pt_val (pe_callB call_isD (by rfl) T.n_isinstance (by decide +kernel) (pa_cons (pv 0) (pa_cons (pe_bltn (v := .ty "tuple") (by rfl) T.n_tuple (by decide +kernel) rfl) pa_nil)))) (pss_one (ps_ret (GX.pe_allG (own := [("part", 1)]) (tt := tYes) (k := N0) (hr.mono (by first | decide | omega)) (by rfl) T.n_all TB rfl sc_is_value.nd (blkOk_by (N := ["thing", "part"]) (sc := defScope s_is_value) (by decide +kernel)) (pi_tup (pv 0)) (fun _ _ _ _ _ _ _ hr => (pg_name (i := 1) sc_is_value.nd rfl (Or.inl rfl) (hf := .inr rfl))) (fun _ _ _ _ _ _ _ hr => pts_nil) (fun _ _ _ _ _ _ _ hr => (pe_useL U_is_value hr (by first | decide | omega) (by rfl) (pa_cons (pv 1) pa_nil)))))) pss_nil)
      (pss_one (ps_ret (pe_or (pe_cmpR op_isN (pv 0) pe_non (nomark _)) (pe_one (pe_callB call_isDT (by rfl) T.n_isinstance (by decide +kernel) (pa_cons (pv 0) (pa_cons (pe_tup (pa_cons (pe_bltn (v := .ty "int") (by rfl) T.n_int (by decide +kernel) rfl) (pa_cons (pe_bltn (v := .ty "str") (by rfl) T.n_str (by decide +kernel) rfl) pa_nil))) pa_nil)))))))), ?_⟩
    refine ⟨_, rfl, _, _, d, rfl, hd, kn_tup d, _, rfl, ?_⟩
    rw [isB_tup]
    cases hk : kT d with
    | true =>
      refine iteT ?_
      cases d with
      | tuple ds =>
        obtain ⟨a, vs, rfl, q, hda⟩ := seq_itemsT hd
        refine ⟨_, rfl, a, rfl, ⟨_, q⟩, ht.g _ hP, fun H2 hT => ?_⟩
        have S2 : Stp G [] H H2 := .tab ht hP hl hT
        have hlen := dpa_len hda
        refine gx_it (walk_tup (xs := vs)) (fun i _ H' => Stp G [] H H' ∧ isVal (.tuple ds) = isVal.isVals (ds.drop i)) ⟨S2, rfl⟩ (fun i _ H' _ h => sqT_ext h.1.k.ext q) (fun i x _ H3 H4 hi h hy => ?_) (fun _ H' h => ?_)
        · obtain ⟨rfl, hx⟩ := hy
          obtain ⟨d1, hd1, hdd⟩ := dpa_at hda hx
          refine ⟨rfl, yesI ?_⟩
          cases n with
          | zero => exact absurd hs (by intro z; exact z)
          | succ m =>
            refine ⟨_, rfl, _, d1, rfl, dp_ext h.1.k.ext d1 _ hdd, hs.2 d1 (List.mem_of_getElem? hd1), h.1.t, fun H5 S5 => ⟨isVal d1, rfl, ?_⟩⟩
            have e := isVals_at hd1
            cases hv : isVal d1 with
            | true =>
              refine allT ?_
              rw [hv, Bool.true_and] at e
              exact ⟨h.1.trans S5, h.2.trans e⟩
            | false =>
              refine allF ?_
              rw [hv, Bool.false_and] at e
              rw [show false = isVal (.tuple ds) from (h.2.trans e).symm]
              exact k H5 (h.1.trans S5)
        · have e : ds.drop vs.length = [] := by rw [hlen]; exact List.drop_length
          have e2 := h.2
          rw [e] at e2
          show Q (.bl true) H'
          rw [show true = isVal (.tuple ds) from e2.symm]
          exact k H' h.1
      | _ => cases hk
    | false =>
      refine iteF ?_
      have go : v ≠ .non → ∀ b, isB (tyS d) ["int", "str"] = b → isVal d = b → isKnown (tyS d) ["int", "str"] = true → tRet (tOrV (tOp (fun x y H Q => y = V.non ∧ Q (V.bl (decide (x = V.non))) H) (tVar 0) (tC V.non)) (tCB (rIsDT K) (tCons (tVar 0) (tCons (tTup (tCons (tC (V.ty "int")) (tCons (tC (V.ty "str")) tNil))) tNil)))) { nx := fun _ H' => Q .non H', rt := Q } (L2.start ["thing", "part"] [v]) H := fun hv b hb he hkn => by
        refine ⟨v, rfl, rfl, _, rfl, ?_⟩
        rw [show decide (v = V.non) = false from decide_eq_false hv]
        refine ⟨_, rfl, by show 2 ≤ sizeLine; decide, fun p hp => ?_⟩
        refine ⟨_, p, ["int", "str"], d, rfl, upd_same, dp_same (same_upd hp) d v hd, hkn, ?_⟩
        rw [hb, ← he]
        exact k _ (.new ht hp)
      cases hd with
      | non => exact ⟨_, rfl, rfl, _, rfl, k H (.refl ht)⟩
      | bl b => exact go (by intro z; cases z) true (by cases b <;> kernel_rfl) rfl (by kernel_rfl)
      | int i => exact go (by intro z; cases z) true (by kernel_rfl) rfl (by kernel_rfl)
      | str x => exact go (by intro z; cases z) true (by kernel_rfl) rfl (by kernel_rfl)
      | lst q ha => exact go (by intro z; cases z) false (by kernel_rfl) rfl (by kernel_rfl)
      | tup q ha => cases hk
theorem sc_is_integer : FnScope ["thing"] ["thing"] (defScope s_is_integer) := ⟨rfl, rfl, rfl, by decide +kernel, rfl, by decide +kernel, by decide +kernel⟩
def isInt : PyData → Bool | .int _ => true | _ => false
def spIsInteger (K : PySem.W.Frag) : Sp := fun vs H Q _ => ∃ (v : V) (d : PyData), vs = [v] ∧ Dp K H v d ∧ Q (.bl (isInt d)) H
theorem ok_is_integer (F : Fn K "is_integer" s_is_integer f fd) (T : Tx K mg) : FnOk P w K mg base (L2.CX P w) 1 f fd ["thing"] (spIsInteger K) := by
  refine F.ok sc_is_integer (fun vs H Q E h => ?_) (fun cdv A outer s H vs Q E hr h => ?_)
  · obtain ⟨_, _, rfl, _⟩ := h
    rfl
  · obtain ⟨v, d, rfl, hd, k⟩ := h
    refine ⟨_, PSs.nox (pss_one (ps_ret (pe_and (pe_callB call_isD (by rfl) T.n_isinstance (by decide +kernel) (pa_cons (pv 0) (pa_cons (pe_bltn (v := .ty "int") (by rfl) T.n_int (by decide +kernel) rfl) pa_nil))) (pe_one (pe_not (pe_callB call_isD (by rfl) T.n_isinstance (by decide +kernel) (pa_cons (pv 0) (pa_cons (pe_bltn (v := .ty "bool") (by rfl) T.n_bool (by decide +kernel) rfl) pa_nil)))))))), ?_⟩
    refine ⟨_, rfl, _, _, d, rfl, hd, kn_int d, _, rfl, ?_⟩
    rw [isB_int]
    cases hk : kI d with
    | false =>
      refine iteF ?_
      have e : isInt d = false := by cases d <;> first | rfl | cases hk
      rw [e] at k
      exact k
    | true =>
      refine iteT ?_
      refine ⟨_, rfl, _, _, d, rfl, hd, kn_bool d, _, rfl, ?_⟩
      rw [isB_bool]
      have e : isInt d = !kB d := by cases d <;> first | rfl | cases hk
      rw [e] at k
      exact k
theorem sc_check_value : FnScope ["value"] ["value"] (defScope s_check_value) := ⟨rfl, rfl, rfl, by decide +kernel, rfl, by decide +kernel, by decide +kernel⟩
/-- of a value -/
def spCheckValue (K : PySem.W.Frag) (G : Tb) (n : Nat) : Sp := fun vs H Q _ => ∃ (v : V) (d : PyData), vs = [v] ∧ Dp K H v d ∧ Sml n d ∧ isVal d = true ∧ Tbs G H ∧ ∀ H', Stp G [] H H' → Q .non H'
theorem ok_check_value (F : Fn K "_check_value" s_check_value f fd) (n N0 : Nat) (U_is_value : Use P w K mg base (L2.CX P w) "is_value" N0 ["thing"] (spIsValue K G n)) : FnOk P w K mg base (L2.CX P w) (N0 + 1) f fd ["value"] (spCheckValue K G n) := by
  refine F.ok sc_check_value (fun vs H Q E h => ?_) (fun cdv A outer s H vs Q E hr h => ?_)
  · obtain ⟨_, _, rfl, _⟩ := h
    rfl
  · obtain ⟨v, d, rfl, hd, hs, hv, ht, k⟩ := h
    refine ⟨_, PSs.nox (pss_one (ps_if (pt_not (pt_val (pe_useL U_is_value hr (by first | decide | omega) (by rfl) (pa_cons (pv 0) pa_nil)))) (pss_one ps_never) pss_nil)), ?_⟩
    refine ⟨_, rfl, _, d, rfl, hd, hs, ht, fun H' S => ⟨_, rfl, ?_⟩⟩
    rw [hv]
    exact iteF (k H' S)
theorem sc_Held___init__ : FnScope ["self"] ["self"] (defScope s_Held___init__) := ⟨rfl, rfl, rfl, by decide +kernel, rfl, by decide +kernel, by decide +kernel⟩
def spHeld0 (C : Addr) : Sp := fun vs H Q _ => ∃ a : Addr, vs = [.ref a] ∧ H a = some (exo a C none) ∧ Q .non H
theorem ok_held (F : Fm K "Held" "__init__" s_Held___init__ f fd) (T : Tx K mg) : FnOk P w K mg base (L2.CX P w) 1 f fd ["self"] (spHeld0 (KC K "Held")) := by
  refine F.ok sc_Held___init__ (fun vs H Q E h => ?_) (fun cdv A outer s H vs Q E hr h => ?_)
  · obtain ⟨_, rfl, _⟩ := h
    rfl
  · obtain ⟨a, rfl, ha, k⟩ := h
    refine ⟨_, PSs.nox (pss_one (ps_expr (pe_iniB (by rfl) T.n_Exception (by decide +kernel) (by kernel_rfl) (by decide +kernel) T.hi (pa_cons (pv 0) pa_nil)))), ?_⟩
    exact ⟨_, rfl, a, KC K "Held", [], rfl, by decide, T.k_Held, ha, k⟩
end
end K10

namespace K10
open PySem PySem.Spec PyProof.Rows L2 XV XL UU CC FW GX GxR
section
variable {P : Program} {w : World} {K : PySem.W.Frag} {mg : Str → Option Value} {base : Heap} {f c0 P0 : Addr} {fd : FuncData} {G : Tb}
abbrev HC (K : PySem.W.Frag) : Addr := KC K "Hand"
theorem sc_Hand__check_free : FnScope ["self"] ["self"] (defScope s_Hand__check_free) := ⟨rfl, rfl, rfl, by decide +kernel, rfl, by decide +kernel, by decide +kernel⟩
def spFree (K : PySem.W.Frag) : Sp := fun vs H Q _ => ∃ (A : HA) (st : HS), vs = [.ref A.h] ∧ HandAt K (HC K) H A st ∧ st.held = false ∧ Q .non H
theorem ok_free (F : Fm K "Hand" "_check_free" s_Hand__check_free f fd) (T : Tx K mg) : FnOk P w K mg base (L2.CX P w) 1 f fd ["self"] (spFree K) := by
  refine F.ok sc_Hand__check_free (fun vs H Q E h => ?_) (fun cdv A outer s H vs Q E hr h => ?_)
  · obtain ⟨_, _, rfl, _⟩ := h
    rfl
  · obtain ⟨A, st, rfl, hh, hf, k⟩ := h
    refine ⟨_, PSs.nox (pss_one (ps_if (pt_val (pe_fld (pv 0) rfl)) (pss_one ps_never) pss_nil)), ?_⟩
    obtain ⟨kvs, sv, nv, fv, e1, _⟩ := hh.ex
    refine ⟨_, rfl, A.h, HC K, A.dx, _, _, rfl, e1, T.K_Hand, T.a_Hand__held, rfl, _, rfl, ?_⟩
    rw [hf]
    exact iteF k
theorem sc_Hand__check_page : FnScope ["self", "page"] ["self", "page"] (defScope s_Hand__check_page) := ⟨rfl, rfl, rfl, by decide +kernel, rfl, by decide +kernel, by decide +kernel⟩
def spPage (K : PySem.W.Frag) : Sp := fun vs H Q _ => ∃ (A : HA) (st : HS) (n : Str) (d : PyData), vs = [.ref A.h, .str n] ∧ HandAt K (HC K) H A st ∧ pgGet st.pages n = some d ∧ Q .non H
theorem ok_page (F : Fm K "Hand" "_check_page" s_Hand__check_page f fd) (T : Tx K mg) : FnOk P w K mg base (L2.CX P w) 1 f fd ["self", "page"] (spPage K) := by
  refine F.ok sc_Hand__check_page (fun vs H Q E h => ?_) (fun cdv A outer s H vs Q E hr h => ?_)
  · obtain ⟨_, _, _, _, rfl, _⟩ := h
    rfl
  · obtain ⟨A, st, n, d, rfl, hh, hg, k⟩ := h
    refine ⟨_, PSs.nox (pss_one (ps_if (PW.pt (pw_or (pt_not (pt_val (pe_callB call_isD (by rfl) T.n_isinstance (by decide +kernel) (pa_cons (pv 1) (pa_cons (pe_bltn (v := .ty "str") (by rfl) T.n_str (by decide +kernel) rfl) pa_nil))))) (pw_or1 (pt_cmp (pc_dnotin (hu_of hr) (pv 1) (pe_fld (pv 0) rfl)))))) (pss_one ps_never) pss_nil)), ?_⟩
    obtain ⟨kvs, sv, nv, fv, e1, e2, kk, _⟩ := hh.ex
    obtain ⟨v, hv, _⟩ := (kvD_get (n := n) kk).1 d hg
    refine ⟨_, rfl, _, _, .str n, rfl, .str n, by kernel_rfl, ?_⟩
    rw [show isB (tyS (.str n)) ["str"] = true from by kernel_rfl]
    refine ⟨_, rfl, ?_⟩
    refine iteF ?_
    refine ⟨_, rfl, _, rfl, A.h, HC K, A.dx, _, _, rfl, e1, T.K_Hand, T.a_Hand__pages, rfl, A.d, _, rfl, DGet.k (k := Sum.inr n) e2, ?_⟩
    rw [hv]
    exact ⟨_, rfl, iteF k⟩
theorem sc_Hand__check_room : FnScope ["self"] ["self"] (defScope s_Hand__check_room) := ⟨rfl, rfl, rfl, by decide +kernel, rfl, by decide +kernel, by decide +kernel⟩
def spRoom (K : PySem.W.Frag) : Sp := fun vs H Q _ => ∃ (A : HA) (st : HS), vs = [.ref A.h] ∧ HandAt K (HC K) H A st ∧ (st.steps.length : Int) < st.longest ∧ Q .non H
theorem ok_room (F : Fm K "Hand" "_check_room" s_Hand__check_room f fd) (T : Tx K mg) : FnOk P w K mg base (L2.CX P w) 1 f fd ["self"] (spRoom K) := by
  refine F.ok sc_Hand__check_room (fun vs H Q E h => ?_) (fun cdv A outer s H vs Q E hr h => ?_)
  · obtain ⟨_, _, rfl, _⟩ := h
    rfl
  · obtain ⟨A, st, rfl, hh, hl, k⟩ := h
    refine ⟨_, PSs.nox (pss_one (ps_if (pt_cmpR op_ge (pe_callB call_len (by rfl) T.n_len (by decide +kernel) (pa_cons (pe_fld (pv 0) rfl) pa_nil)) (pe_fld (pv 0) rfl) (nomark _)) (pss_cons (ps_fld (pv 0) pe_bl rfl)
      (pss_one ps_never)) pss_nil)), ?_⟩
    obtain ⟨kvs, sv, nv, fv, e1, e2, kk, e3, hs, _⟩ := hh.ex
    refine ⟨_, rfl, A.h, HC K, A.dx, _, _, rfl, e1, T.K_Hand, T.a_Hand__steps, rfl, _, _, rfl, .inl ⟨_, SqL.of e3, rfl⟩, ?_⟩
    refine ⟨_, rfl, A.h, HC K, A.dx, _, _, rfl, e1, T.K_Hand, T.a_Hand__longest, rfl, _, _, rfl, rfl, _, rfl, ?_⟩
    rw [show decide ((sv.length : Int) ≥ st.longest) = false from decide_eq_false (by rw [hs.len]; omega)]
    exact iteF k
/-- a wish that may be done -/
structure WishOk (st : HS) : Prop where
  free : st.held = false
  room : (st.steps.length : Int) < st.longest
  few : st.steps.length < 100000
theorem sc_Hand_look : FnScope ["self", "page", "answer"] ["self", "page"] (defScope s_Hand_look) := ⟨rfl, rfl, rfl, by decide +kernel, rfl, by decide +kernel, by decide +kernel⟩
def spLook (K : PySem.W.Frag) (G : Tb) : Sp := fun vs H Q _ => ∃ (A : HA) (st : HS) (n : Str) (d : PyData), vs = [.ref A.h, .str n] ∧ HandAt K (HC K) H A st ∧ WishOk st ∧ pgGet st.pages n = some d ∧ Tbs G H ∧
  ∀ v H', Vd K H' v d → HandAt K (HC K) H' A (st.look n) → Stp G A.fp H H' → Q v H'
theorem ok_look (F : Fm K "Hand" "look" s_Hand_look f fd) (T : Tx K mg) (U_Hand__check_free : UMeth P w K mg base (L2.CX P w) (HC K) "_check_free" 1 ["self"] (spFree K)) (U_Hand__check_page : UMeth P w K mg base (L2.CX P w) (HC K) "_check_page" 1 ["self", "page"] (spPage K))
    (U_Hand__check_room : UMeth P w K mg base (L2.CX P w) (HC K) "_check_room" 1 ["self"] (spRoom K)) : FnOk P w K mg base (L2.CX P w) 2 f fd ["self", "page"] (spLook K G) := by
  refine F.ok sc_Hand_look (fun vs H Q E h => ?_) (fun cdv A outer s H vs Q E hr h => ?_)
  · obtain ⟨_, _, _, _, rfl, _⟩ := h
    rfl
  · obtain ⟨A, st, n, d, rfl, hh, ok, hg, ht, k⟩ := h
    refine ⟨_, PSs.nox (pss_cons (ps_expr (pe_um0' (pv 0) T.K_Hand U_Hand__check_free hr (by first | decide | omega)))
      (pss_cons (ps_expr (pe_um' (pv 0) T.K_Hand U_Hand__check_page hr (by first | decide | omega) (pa_cons (pv 1) pa_nil)))
      (pss_cons (ps_expr (pe_um0' (pv 0) T.K_Hand U_Hand__check_room hr (by first | decide | omega)))
      (pss_cons (ps_set (i := 2) sc_Hand_look.nd rfl (Or.inl rfl) (pe_dget (hu_of hr) (pe_fld (pv 0) rfl) (pv 1) (fun _ _ => rfl)))
      (pss_cons (ps_expr (pe_bm PySem.F.plainAttrs_list PySem.F.slot_list_append PySem.F.type_list_append mt_append (pe_fld (pv 0) rfl) (pa_cons (pe_tup (pa_cons (pe_tup (pa_cons pe_str (pa_cons (pv 1) pa_nil))) (pa_cons (pv 2) pa_nil))) pa_nil)))
      (pss_one (ps_ret (pv 2)))))))), ?_⟩
    obtain ⟨kvs, sv, nv, fv, e1, e2, kk, e3, hs, _⟩ := hh.ex
    obtain ⟨v, hv, vd⟩ := (kvD_get (n := n) kk).1 d hg
    refine ⟨_, rfl, A.h, A.dx, _, rfl, e1, rfl, A, st, rfl, hh, ok.free, ?_⟩
    refine ⟨_, rfl, A.h, A.dx, _, rfl, e1, rfl, _, rfl, A, st, n, d, rfl, hh, hg, ?_⟩
    refine ⟨_, rfl, A.h, A.dx, _, rfl, e1, rfl, A, st, rfl, hh, ok.room, ?_⟩
    refine ⟨_, rfl, A.h, HC K, A.dx, _, _, rfl, e1, T.K_Hand, T.a_Hand__pages, rfl, _, rfl, A.d, v, rfl, (by have z := DGet.k (k := Sum.inr n) e2; rw [hv] at z; exact z), ?_⟩
    refine ⟨_, rfl, A.h, HC K, A.dx, _, _, rfl, e1, T.K_Hand, T.a_Hand__steps, rfl, .inl ⟨rfl, _, SqL.of e3⟩, ?_⟩
    refine ⟨_, rfl, by show 2 ≤ sizeLine; decide, fun p hp => ?_⟩
    refine ⟨_, rfl, by show 2 ≤ sizeLine; decide, fun q hq => ?_⟩
    have S1 : Stp G [] H (upd H p (.tup [.str "look", .str n])) := .new ht hp
    have S2 := S1.snew (o := .tup [.ref p, v]) hq
    generalize hH2 : upd (upd H p (.tup [.str "look", .str n])) q (.tup [.ref p, v]) = H2 at *
    have hq2 : H2 q = some (.tup [.ref p, v]) := by rw [← hH2]; exact upd_same
    have hp2 : H2 p = some (.tup [.str "look", .str n]) := by rw [← hH2, upd_ne (ne_of_none upd_same hq)]; exact upd_same
    have h2 := hh.keep S2.k
    have e32 : H2 A.l = some (.lst sv) := S2.k _ _ e3 (by simp) fun _ z => by cases z
    have wv : Vd K H2 (.ref q) (.tuple [.tuple [.str "look", .str n], d]) := .tup (.of hq2) (.cons (.tup (.of hp2) (.cons ⟨.str _, rfl⟩ (.cons ⟨.str _, rfl⟩ .nil))) (.cons (vd.ext S2.k) .nil))
    refine ⟨A.l, sv, _, rfl, rfl, e32, Nat.lt_of_lt_of_le (by rw [hs.len]; exact ok.few) (by decide), ?_⟩
    have S3 : Stp G A.fp H2 (upd H2 A.l (.lst (sv ++ [.ref q]))) := .put S2.t (by simp [HA.fp]) e32 notc_lst
    have h3 := h2.step e32 wv
    refine ⟨_, rfl, k v _ ((vd.ext S2.k).keep h2.noT S3.k) ?_ (S2.up.trans S3)⟩
    unfold HS.look
    rw [hg]
    exact h3
theorem sc_Hand_put : FnScope ["self", "page", "value"] ["self", "page", "value"] (defScope s_Hand_put) := ⟨rfl, rfl, rfl, by decide +kernel, rfl, by decide +kernel, by decide +kernel⟩
def spPut (K : PySem.W.Frag) (G : Tb) (m : Nat) : Sp := fun vs H Q _ => ∃ (A : HA) (st : HS) (n : Str) (d0 d : PyData) (v : V), vs = [.ref A.h, .str n, v] ∧ HandAt K (HC K) H A st ∧ WishOk st ∧ pgGet st.pages n = some d0 ∧ st.pages.length < 100000 ∧ Vd K H v d ∧ Sml m d ∧ Tbs G H ∧
  ∀ H', HandAt K (HC K) H' A (st.put n d) → Stp G A.fp H H' → Q .non H'
theorem ok_put (F : Fm K "Hand" "put" s_Hand_put f fd) (T : Tx K mg) (m N0 : Nat) (U_Hand__check_free : UMeth P w K mg base (L2.CX P w) (HC K) "_check_free" 1 ["self"] (spFree K)) (U_Hand__check_page : UMeth P w K mg base (L2.CX P w) (HC K) "_check_page" 1 ["self", "page"] (spPage K))
    (U_Hand__check_room : UMeth P w K mg base (L2.CX P w) (HC K) "_check_room" 1 ["self"] (spRoom K)) (U_check_value : Use P w K mg base (L2.CX P w) "_check_value" N0 ["value"] (spCheckValue K G m)) : FnOk P w K mg base (L2.CX P w) (N0 + 2) f fd ["self", "page", "value"] (spPut K G m) := by
  refine F.ok sc_Hand_put (fun vs H Q E h => ?_) (fun cdv A outer s H vs Q E hr h => ?_)
  · obtain ⟨_, _, _, _, _, _, rfl, _⟩ := h
    rfl
  · obtain ⟨A, st, n, d0, d, v, rfl, hh, ok, hg, hfew, vd, hs, ht, k⟩ := h
    refine ⟨_, PSs.nox (pss_cons (ps_expr (pe_um0' (pv 0) T.K_Hand U_Hand__check_free hr (by first | decide | omega)))
      (pss_cons (ps_expr (pe_um' (pv 0) T.K_Hand U_Hand__check_page hr (by first | decide | omega) (pa_cons (pv 1) pa_nil)))
      (pss_cons (ps_expr (pe_useL U_check_value hr (by first | decide | omega) (by rfl) (pa_cons (pv 2) pa_nil)))
      (pss_cons (ps_expr (pe_um0' (pv 0) T.K_Hand U_Hand__check_room hr (by first | decide | omega)))
      (pss_cons (ps_dput (hu_of hr) (pe_fld (pv 0) rfl) (pv 1) (pv 2) rfl)
      (pss_one (ps_expr (pe_bm PySem.F.plainAttrs_list PySem.F.slot_list_append PySem.F.type_list_append mt_append (pe_fld (pv 0) rfl) (pa_cons (pe_tup (pa_cons (pe_tup (pa_cons pe_str (pa_cons (pv 1) (pa_cons (pv 2) pa_nil)))) (pa_cons pe_non pa_nil))) pa_nil))))))))), ?_⟩
    obtain ⟨kvs, sv, nv, fv, e1, _⟩ := id hh.ex
    refine ⟨_, rfl, A.h, A.dx, _, rfl, e1, rfl, A, st, rfl, hh, ok.free, ?_⟩
    refine ⟨_, rfl, A.h, A.dx, _, rfl, e1, rfl, _, rfl, A, st, n, d0, rfl, hh, hg, ?_⟩
    refine ⟨_, rfl, v, d, rfl, vd.dp, hs, vd.val, ht, fun H1 S1 => ?_⟩
    have hh1 := hh.keep S1.k
    have vd1 := vd.ext S1.k
    obtain ⟨kvs, sv, nv, fv, e1, e2, kk, e3, hs, _⟩ := id hh1.ex
    refine ⟨_, rfl, A.h, A.dx, _, rfl, e1, rfl, A, st, rfl, hh1, ok.room, ?_⟩
    refine ⟨_, rfl, _, rfl, A.h, HC K, A.dx, _, _, rfl, e1, T.K_Hand, T.a_Hand__pages, rfl, _, rfl, A.d, _, rfl, DPut.k (k := Sum.inr n) e2 (by rw [kk.len]; exact Nat.lt_of_lt_of_le hfew (by decide)), ?_⟩
    have S2 : Stp G A.fp H1 (upd H1 A.d (.dK (putK kvs (.inr n) v))) := .put S1.t (by simp [HA.fp]) e2 notc_dK
    have hh2 := hh1.page e2 hg vd1
    have vd2 := vd1.keep hh1.noT S2.k
    generalize upd H1 A.d (.dK (putK kvs (.inr n) v)) = H2 at *
    obtain ⟨kvs, sv, nv, fv, e1, e2, kk, e3, hs, _⟩ := id hh2.ex
    refine ⟨_, rfl, A.h, HC K, A.dx, _, _, rfl, e1, T.K_Hand, T.a_Hand__steps, rfl, .inl ⟨rfl, _, SqL.of e3⟩, ?_⟩
    refine ⟨_, rfl, _, rfl, by show 3 ≤ sizeLine; decide, fun p hp => ?_⟩
    refine ⟨by show 2 ≤ sizeLine; decide, fun q hq => ?_⟩
    have S3 : Stp G [] H2 (upd H2 p (.tup [.str "put", .str n, v])) := .new S2.t hp
    have S4 := S3.snew (o := .tup [.ref p, .non]) hq
    generalize hH4 : upd (upd H2 p (.tup [.str "put", .str n, v])) q (.tup [.ref p, .non]) = H4 at *
    have hq2 : H4 q = some (.tup [.ref p, .non]) := by rw [← hH4]; exact upd_same
    have hp2 : H4 p = some (.tup [.str "put", .str n, v]) := by rw [← hH4, upd_ne (ne_of_none upd_same hq)]; exact upd_same
    have h4 := hh2.keep S4.k
    have e34 : H4 A.l = some (.lst sv) := S4.k _ _ e3 (by simp) fun _ z => by cases z
    have wv : Vd K H4 (.ref q) (.tuple [.tuple [.str "put", .str n, d], .none]) := .tup (.of hq2) (.cons (.tup (.of hp2) (.cons ⟨.str _, rfl⟩ (.cons ⟨.str _, rfl⟩ (.cons (vd2.ext S4.k) .nil)))) (.cons ⟨.non, rfl⟩ .nil))
    refine ⟨A.l, sv, _, rfl, rfl, e34, Nat.lt_of_lt_of_le (by rw [hs.len]; exact ok.few) (by decide), ?_⟩
    have S5 : Stp G A.fp H4 (upd H4 A.l (.lst (sv ++ [.ref q]))) := .put S4.t (by simp [HA.fp]) e34 notc_lst
    exact k _ (h4.step e34 wv) (S1.up.trans (S2.trans (S4.up.trans S5)))
theorem sc_Hand_barrier : FnScope ["self"] ["self"] (defScope s_Hand_barrier) := ⟨rfl, rfl, rfl, by decide +kernel, rfl, by decide +kernel, by decide +kernel⟩
def spGuard (K : PySem.W.Frag) (G : Tb) (g : HS → HS) : Sp := fun vs H Q _ => ∃ (A : HA) (st : HS), vs = [.ref A.h] ∧ HandAt K (HC K) H A st ∧ WishOk st ∧ Tbs G H ∧ ∀ H', HandAt K (HC K) H' A (g st) → Stp G A.fp H H' → Q .non H'
theorem ok_barrier (F : Fm K "Hand" "barrier" s_Hand_barrier f fd) (T : Tx K mg) (U_Hand__check_free : UMeth P w K mg base (L2.CX P w) (HC K) "_check_free" 1 ["self"] (spFree K)) (U_Hand__check_room : UMeth P w K mg base (L2.CX P w) (HC K) "_check_room" 1 ["self"] (spRoom K)) :
    FnOk P w K mg base (L2.CX P w) 2 f fd ["self"] (spGuard K G HS.barrier) := by
  refine F.ok sc_Hand_barrier (fun vs H Q E h => ?_) (fun cdv A outer s H vs Q E hr h => ?_)
  · obtain ⟨_, _, rfl, _⟩ := h
    rfl
  · obtain ⟨A, st, rfl, hh, ok, ht, k⟩ := h
    refine ⟨_, PSs.nox (pss_cons (ps_expr (pe_um0' (pv 0) T.K_Hand U_Hand__check_free hr (by first | decide | omega)))
      (pss_cons (ps_expr (pe_um0' (pv 0) T.K_Hand U_Hand__check_room hr (by first | decide | omega)))
      (pss_one (ps_expr (pe_bm PySem.F.plainAttrs_list PySem.F.slot_list_append PySem.F.type_list_append mt_append (pe_fld (pv 0) rfl) (pa_cons (pe_tup (pa_cons (pe_tup (pa_cons pe_str pa_nil)) (pa_cons pe_non pa_nil))) pa_nil)))))), ?_⟩
    obtain ⟨kvs, sv, nv, fv, e1, e2, kk, e3, hs, _⟩ := hh.ex
    refine ⟨_, rfl, A.h, A.dx, _, rfl, e1, rfl, A, st, rfl, hh, ok.free, ?_⟩
    refine ⟨_, rfl, A.h, A.dx, _, rfl, e1, rfl, A, st, rfl, hh, ok.room, ?_⟩
    refine ⟨_, rfl, A.h, HC K, A.dx, _, _, rfl, e1, T.K_Hand, T.a_Hand__steps, rfl, .inl ⟨rfl, _, SqL.of e3⟩, ?_⟩
    refine ⟨by show 1 ≤ sizeLine; decide, fun p hp => ?_⟩
    refine ⟨by show 2 ≤ sizeLine; decide, fun q hq => ?_⟩
    have S1 : Stp G [] H (upd H p (.tup [.str "barrier"])) := .new ht hp
    have S2 := S1.snew (o := .tup [.ref p, .non]) hq
    generalize hH2 : upd (upd H p (.tup [.str "barrier"])) q (.tup [.ref p, .non]) = H2 at *
    have hq2 : H2 q = some (.tup [.ref p, .non]) := by rw [← hH2]; exact upd_same
    have hp2 : H2 p = some (.tup [.str "barrier"]) := by rw [← hH2, upd_ne (ne_of_none upd_same hq)]; exact upd_same
    have h2 := hh.keep S2.k
    have e32 : H2 A.l = some (.lst sv) := S2.k _ _ e3 (by simp) fun _ z => by cases z
    have wv : Vd K H2 (.ref q) (.tuple [.tuple [.str "barrier"], .none]) := .tup (.of hq2) (.cons (.tup (.of hp2) (.cons ⟨.str _, rfl⟩ .nil)) (.cons ⟨.non, rfl⟩ .nil))
    refine ⟨A.l, sv, _, rfl, rfl, e32, Nat.lt_of_lt_of_le (by rw [hs.len]; exact ok.few) (by decide), ?_⟩
    have S3 : Stp G A.fp H2 (upd H2 A.l (.lst (sv ++ [.ref q]))) := .put S2.t (by simp [HA.fp]) e32 notc_lst
    exact k _ (h2.step e32 wv) (S2.up.trans S3)
theorem sc_Hand_flush : FnScope ["self"] ["self"] (defScope s_Hand_flush) := ⟨rfl, rfl, rfl, by decide +kernel, rfl, by decide +kernel, by decide +kernel⟩
theorem ok_flush (F : Fm K "Hand" "flush" s_Hand_flush f fd) (T : Tx K mg) (U_Hand__check_free : UMeth P w K mg base (L2.CX P w) (HC K) "_check_free" 1 ["self"] (spFree K)) (U_Hand__check_room : UMeth P w K mg base (L2.CX P w) (HC K) "_check_room" 1 ["self"] (spRoom K)) :
    FnOk P w K mg base (L2.CX P w) 2 f fd ["self"] (spGuard K G HS.flush) := by
  refine F.ok sc_Hand_flush (fun vs H Q E h => ?_) (fun cdv A outer s H vs Q E hr h => ?_)
  · obtain ⟨_, _, rfl, _⟩ := h
    rfl
  · obtain ⟨A, st, rfl, hh, ok, ht, k⟩ := h
    refine ⟨_, PSs.nox (pss_cons (ps_expr (pe_um0' (pv 0) T.K_Hand U_Hand__check_free hr (by first | decide | omega)))
      (pss_cons (ps_expr (pe_um0' (pv 0) T.K_Hand U_Hand__check_room hr (by first | decide | omega)))
      (pss_one (ps_expr (pe_bm PySem.F.plainAttrs_list PySem.F.slot_list_append PySem.F.type_list_append mt_append (pe_fld (pv 0) rfl) (pa_cons (pe_tup (pa_cons (pe_tup (pa_cons pe_str pa_nil)) (pa_cons pe_non pa_nil))) pa_nil)))))), ?_⟩
    obtain ⟨kvs, sv, nv, fv, e1, e2, kk, e3, hs, _⟩ := hh.ex
    refine ⟨_, rfl, A.h, A.dx, _, rfl, e1, rfl, A, st, rfl, hh, ok.free, ?_⟩
    refine ⟨_, rfl, A.h, A.dx, _, rfl, e1, rfl, A, st, rfl, hh, ok.room, ?_⟩
    refine ⟨_, rfl, A.h, HC K, A.dx, _, _, rfl, e1, T.K_Hand, T.a_Hand__steps, rfl, .inl ⟨rfl, _, SqL.of e3⟩, ?_⟩
    refine ⟨by show 1 ≤ sizeLine; decide, fun p hp => ?_⟩
    refine ⟨by show 2 ≤ sizeLine; decide, fun q hq => ?_⟩
    have S1 : Stp G [] H (upd H p (.tup [.str "flush"])) := .new ht hp
    have S2 := S1.snew (o := .tup [.ref p, .non]) hq
    generalize hH2 : upd (upd H p (.tup [.str "flush"])) q (.tup [.ref p, .non]) = H2 at *
    have hq2 : H2 q = some (.tup [.ref p, .non]) := by rw [← hH2]; exact upd_same
    have hp2 : H2 p = some (.tup [.str "flush"]) := by rw [← hH2, upd_ne (ne_of_none upd_same hq)]; exact upd_same
    have h2 := hh.keep S2.k
    have e32 : H2 A.l = some (.lst sv) := S2.k _ _ e3 (by simp) fun _ z => by cases z
    have wv : Vd K H2 (.ref q) (.tuple [.tuple [.str "flush"], .none]) := .tup (.of hq2) (.cons (.tup (.of hp2) (.cons ⟨.str _, rfl⟩ .nil)) (.cons ⟨.non, rfl⟩ .nil))
    refine ⟨A.l, sv, _, rfl, rfl, e32, Nat.lt_of_lt_of_le (by rw [hs.len]; exact ok.few) (by decide), ?_⟩
    have S3 : Stp G A.fp H2 (upd H2 A.l (.lst (sv ++ [.ref q]))) := .put S2.t (by simp [HA.fp]) e32 notc_lst
    exact k _ (h2.step e32 wv) (S2.up.trans S3)
theorem sc_Hand_say : FnScope ["self", "value"] ["self", "value"] (defScope s_Hand_say) := ⟨rfl, rfl, rfl, by decide +kernel, rfl, by decide +kernel, by decide +kernel⟩
def spSay (K : PySem.W.Frag) (G : Tb) (m : Nat) : Sp := fun vs H Q _ => ∃ (A : HA) (st : HS) (d : PyData) (v : V), vs = [.ref A.h, v] ∧ HandAt K (HC K) H A st ∧ st.held = false ∧ st.notes.length < 100000 ∧ Vd K H v d ∧ Sml m d ∧ Tbs G H ∧
  ∀ H', HandAt K (HC K) H' A (st.say d) → Stp G A.fp H H' → Q .non H'
theorem ok_say (F : Fm K "Hand" "say" s_Hand_say f fd) (T : Tx K mg) (m N0 : Nat) (U_Hand__check_free : UMeth P w K mg base (L2.CX P w) (HC K) "_check_free" 1 ["self"] (spFree K)) (U_check_value : Use P w K mg base (L2.CX P w) "_check_value" N0 ["value"] (spCheckValue K G m)) :
    FnOk P w K mg base (L2.CX P w) (N0 + 2) f fd ["self", "value"] (spSay K G m) := by
  refine F.ok sc_Hand_say (fun vs H Q E h => ?_) (fun cdv A outer s H vs Q E hr h => ?_)
  · obtain ⟨_, _, _, _, rfl, _⟩ := h
    rfl
  · obtain ⟨A, st, d, v, rfl, hh, hf, hfew, vd, hs, ht, k⟩ := h
    refine ⟨_, PSs.nox (pss_cons (ps_expr (pe_um0' (pv 0) T.K_Hand U_Hand__check_free hr (by first | decide | omega)))
      (pss_cons (ps_expr (pe_useL U_check_value hr (by first | decide | omega) (by rfl) (pa_cons (pv 1) pa_nil)))
      (pss_one (ps_expr (pe_bm PySem.F.plainAttrs_list PySem.F.slot_list_append PySem.F.type_list_append mt_append (pe_fld (pv 0) rfl) (pa_cons (pe_tup (pa_cons (pe_callB call_len (by rfl) T.n_len (by decide +kernel) (pa_cons (pe_fld (pv 0) rfl) pa_nil)) (pa_cons (pv 1) pa_nil))) pa_nil)))))), ?_⟩
    obtain ⟨kvs, sv, nv, fv, e1, _⟩ := id hh.ex
    refine ⟨_, rfl, A.h, A.dx, _, rfl, e1, rfl, A, st, rfl, hh, hf, ?_⟩
    refine ⟨_, rfl, v, d, rfl, vd.dp, hs, vd.val, ht, fun H1 S1 => ?_⟩
    have hh1 := hh.keep S1.k
    have vd1 := vd.ext S1.k
    obtain ⟨kvs, sv, nv, fv, e1, e2, kk, e3, hs, e4, hn, _⟩ := id hh1.ex
    refine ⟨_, rfl, A.h, HC K, A.dx, _, _, rfl, e1, T.K_Hand, T.a_Hand__notes, rfl, .inl ⟨rfl, _, SqL.of e4⟩, ?_⟩
    refine ⟨_, rfl, A.h, HC K, A.dx, _, _, rfl, e1, T.K_Hand, T.a_Hand__steps, rfl, _, _, rfl, .inl ⟨_, SqL.of e3, rfl⟩, ?_⟩
    refine ⟨_, rfl, by show 2 ≤ sizeLine; decide, fun q hq => ?_⟩
    have S2 : Stp G [] H1 (upd H1 q (.tup [.int sv.length, v])) := .new S1.t hq
    generalize hH2 : upd H1 q (.tup [.int sv.length, v]) = H2 at *
    have hq2 : H2 q = some (.tup [.int sv.length, v]) := by rw [← hH2]; exact upd_same
    have h2 := hh1.keep S2.k
    have e42 : H2 A.m = some (.lst nv) := S2.k _ _ e4 (by simp) fun _ z => by cases z
    have wv : Vd K H2 (.ref q) (.tuple [.int st.steps.length, d]) := .tup (.of hq2) (.cons (by rw [hs.len]; exact ⟨.int _, rfl⟩) (.cons (vd1.ext S2.k) .nil))
    refine ⟨A.m, nv, _, rfl, rfl, e42, Nat.lt_of_lt_of_le (by rw [hn.len]; exact hfew) (by decide), ?_⟩
    have S3 : Stp G A.fp H2 (upd H2 A.m (.lst (nv ++ [.ref q]))) := .put S2.t (by simp [HA.fp]) e42 notc_lst
    exact k _ (h2.note e42 wv) (S1.up.trans (S2.up.trans S3))
theorem sc_Hand_fail : FnScope ["self", "value"] ["self", "value"] (defScope s_Hand_fail) := ⟨rfl, rfl, rfl, by decide +kernel, rfl, by decide +kernel, by decide +kernel⟩
/-- it raises Held, the hand is held -/
def spFail (K : PySem.W.Frag) (G : Tb) (m : Nat) : Sp := fun vs H _ E => ∃ (A : HA) (st : HS) (d : PyData) (v : V), vs = [.ref A.h, v] ∧ HandAt K (HC K) H A st ∧ st.held = false ∧ Vd K H v d ∧ Sml m d ∧ Tbs G H ∧
  ∀ H', HandAt K (HC K) H' A (st.failed d) → Stp G A.fp H H' → E (.ref (KC K "Held")) none H'
theorem ok_fail (F : Fm K "Hand" "fail" s_Hand_fail f fd) (T : Tx K mg) (m N0 : Nat) (U_Hand__check_free : UMeth P w K mg base (L2.CX P w) (HC K) "_check_free" 1 ["self"] (spFree K)) (U_check_value : Use P w K mg base (L2.CX P w) "_check_value" N0 ["value"] (spCheckValue K G m))
    {fh : FuncData} (U_Held : FnOk P w K mg base (L2.CX P w) 1 (He.ma K (KC K "Held") "__init__") fh ["self"] (spHeld0 (KC K "Held"))) (B_Held : KBn K fh ["self"] 1 [] (fun us vs => us ++ vs) (fun us vs => us ++ vs)) :
    FnOk P w K mg base (L2.CX P w) (N0 + 3) f fd ["self", "value"] (spFail K G m) := by
  refine F.ok sc_Hand_fail (fun vs H Q E h => ?_) (fun cdv A outer s H vs Q E hr h => ?_)
  · obtain ⟨_, _, _, _, rfl, _⟩ := h
    rfl
  · obtain ⟨A, st, d, v, rfl, hh, hf, vd, hs, ht, k⟩ := h
    refine ⟨_, (pss_cons (ps_expr (pe_um0' (pv 0) T.K_Hand U_Hand__check_free hr (by first | decide | omega)))
      (pss_cons (ps_expr (pe_useL U_check_value hr (by first | decide | omega) (by rfl) (pa_cons (pv 1) pa_nil)))
      (pss_cons (ps_fld (pv 0) (pe_tup (pa_cons pe_str (pa_cons (pv 1) pa_nil))) rfl)
      (pss_cons (ps_fld (pv 0) pe_bl rfl)
      (pss_one (ps_raise rfl (takes_of rfl rfl rfl rfl) (CC.pmk_rz rfl (pe_mkv0 T.k_Held T.i_Held T.t_Held U_Held (hr.mono (by first | decide | omega)) (by rfl) T.c_Held B_Held passL)))))))), ?_⟩
    obtain ⟨kvs, sv, nv, fv, e1, _⟩ := id hh.ex
    refine ⟨_, rfl, A.h, A.dx, _, rfl, e1, rfl, A, st, rfl, hh, hf, ?_⟩
    refine ⟨_, rfl, v, d, rfl, vd.dp, hs, vd.val, ht, fun H1 S1 => ?_⟩
    have hh1 := hh.keep S1.k
    have vd1 := vd.ext S1.k
    obtain ⟨kvs, sv, nv, fv, e1, e2, kk, e3, hs, e4, hn, _⟩ := id hh1.ex
    refine ⟨_, rfl, by show 2 ≤ sizeLine; decide, fun q hq => ?_⟩
    have S2 : Stp G [] H1 (upd H1 q (.tup [.str "failed", v])) := .new S1.t hq
    generalize hH2 : upd H1 q (.tup [.str "failed", v]) = H2 at *
    have hq2 : H2 q = some (.tup [.str "failed", v]) := by rw [← hH2]; exact upd_same
    have h2 := hh1.keep S2.k
    have e12 : H2 A.h = some (.ins (HC K) A.dx (hFs A st fv)) := S2.k _ _ e1 (by simp) fun _ z => by cases z
    have wv : Vd K H2 (.ref q) (.tuple [.str "failed", d]) := .tup (.of hq2) (.cons ⟨.str _, rfl⟩ (.cons (vd1.ext S2.k) .nil))
    refine ⟨_, rfl, A.h, HC K, A.dx, _, rfl, e12, T.K_Hand, T.a_Hand__failure, (by show 6 < 1000; decide), ?_⟩
    have h3 := h2.fld (st' := { st with fail := .tuple [.str "failed", d] }) (fv' := .ref q) rfl rfl rfl wv
    have S3 : Stp G A.fp H2 (upd H2 A.h (.ins (HC K) A.dx (hFs A { st with fail := .tuple [.str "failed", d] } (.ref q)))) := .put S2.t (by simp [HA.fp]) e12 notc_ins
    have e13 : upd H2 A.h (.ins (HC K) A.dx (hFs A { st with fail := .tuple [.str "failed", d] } (.ref q))) A.h = _ := upd_same
    have wv3 := wv.keep h2.noT S3.k
    show ∃ _, _
    refine ⟨_, rfl, A.h, HC K, A.dx, _, rfl, e13, T.K_Hand, T.a_Hand__held, (by show 6 < 1000; decide), ?_⟩
    have h4 := h3.fld (st' := st.failed d) (fv' := .ref q) rfl rfl rfl wv3
    have S4 : Stp G A.fp _ (upd (upd H2 A.h (.ins (HC K) A.dx (hFs A { st with fail := .tuple [.str "failed", d] } (.ref q)))) A.h (.ins (HC K) A.dx (hFs A (st.failed d) (.ref q)))) := .put S3.t (by simp [HA.fp]) e13 notc_ins
    have SS := S1.up.trans (S2.up.trans (S3.trans S4))
    refine ⟨rfl, rfl, fun a ha => ⟨a, rfl, upd_same, rfl, a, KC K "Held", none, rfl, upd_same, ?_, raises_own T.s_Held T.y_Held, .inl ⟨rfl, ?_⟩⟩⟩
    · exact fr0_keep SS.k h4.some ha
    · rw [delH_new ha]
      exact k _ h4 SS
end
end K10

namespace K10
open PySem PySem.Spec PyProof.Rows L2 XV XL UU CC FW GX GxR
section
variable {P : Program} {w : World} {K : PySem.W.Frag} {mg : Str → Option Value} {base : Heap} {f c0 P0 : Addr} {fd : FuncData} {G : Tb}
theorem sc_Hand___init__ : FnScope ["self", "disk", "longest"] ["self", "disk", "longest"] (defScope s_Hand___init__) := ⟨rfl, rfl, rfl, by decide +kernel, rfl, by decide +kernel, by decide +kernel⟩
def st0 (ps : Pgs) (L : Int) : HS := ⟨ps, L, [], [], .none, false⟩
def spHand0 (K : PySem.W.Frag) (G : Tb) : Sp := fun vs H Q _ => ∃ (h dx da : Addr) (L : Int) (ps : Pgs), vs = [.ref h, .ref da, .int L] ∧ H h = some (.ins (HC K) dx []) ∧ H dx = some (.own h) ∧ DiskAt K H da ps ∧ Tbs G H ∧
  ∀ A H', A.h = h → HandAt K (HC K) H' A (st0 ps L) → Stp G [h] H H' → Fr0 H A.d → Fr0 H A.l → Fr0 H A.m → Q .non H'
theorem ok_hand0 (F : Fm K "Hand" "__init__" s_Hand___init__ f fd) (T : Tx K mg) : FnOk P w K mg base (L2.CX P w) 1 f fd ["self", "disk", "longest"] (spHand0 K G) := by
  refine F.ok sc_Hand___init__ (fun vs H Q E h => ?_) (fun cdv A outer s H vs Q E hr h => ?_)
  · obtain ⟨_, _, _, _, _, rfl, _⟩ := h
    rfl
  · obtain ⟨h, dx, da, L, ps, rfl, e1, e2, hd, ht, k⟩ := h
    refine ⟨_, PSs.nox (pss_cons (ps_fld (pv 0) (pe_callTy (CC.call_dictT rfl) (by rfl) T.n_dict (by decide +kernel) (pa_cons (pv 1) pa_nil)) rfl)
      (pss_cons (ps_fld (pv 0) (pv 2) rfl)
      (pss_cons (ps_fld (pv 0) (pe_lst pa_nil) rfl)
      (pss_cons (ps_fld (pv 0) (pe_lst pa_nil) rfl)
      (pss_cons (ps_fld (pv 0) pe_non rfl)
      (pss_one (ps_fld (pv 0) pe_bl rfl))))))), ?_⟩
    obtain ⟨o, dvs, ed, eod, vds⟩ := hd.ex
    obtain ⟨as, kvs, rfl, hpr, hkv⟩ := disk_pairs vds
    have hmk := kvD_merge hkv hd.nd
    refine ⟨_, rfl, da, o, as, kvs, rfl, ed, eod, hpr, fun d hd0 => ?_⟩
    rw [hmk]
    have nhd : h ≠ d := ne_of_none e1 hd0
    refine ⟨_, rfl, h, HC K, dx, _, rfl, (by rw [upd_ne nhd]; exact e1), T.K_Hand, T.a_Hand__pages, (by show 0 < 1000; decide), ?_⟩
    rw [show putF "_pages" (V.ref d) [] = ([("_pages", .ref d)] : List (Str × V)) from rfl]
    have S1 : Stp G [h] H (upd H d (.dK kvs)) := .new ht hd0
    have S2 : Stp G [h] (upd H d (.dK kvs)) (upd (upd H d (.dK kvs)) h (.ins (HC K) dx [("_pages", .ref d)])) := .put S1.t (by simp) (by rw [upd_ne nhd]; exact e1) notc_ins
    have kv2 : KvD K (upd (upd H d (.dK kvs)) h (.ins (HC K) dx [("_pages", .ref d)])) kvs ps := hkv.keep (fp := [h]) (fun b hb => by
      rw [List.mem_singleton.mp hb]
      exact ⟨(fun xs z => by rw [e1] at z; cases z), fun o u z => by rw [e1] at z; cases z⟩) (S1.trans S2).k
    have ed2 : upd (upd H d (.dK kvs)) h (.ins (HC K) dx [("_pages", .ref d)]) d = some (.dK kvs) := by rw [upd_ne (Ne.symm nhd)]; exact upd_same
    have eo2 : upd (upd H d (.dK kvs)) h (.ins (HC K) dx [("_pages", .ref d)]) dx = some (.own h) := (S1.trans S2).k _ _ e2 (by simp; intro z; rw [z, e1] at e2; cases e2) fun _ z => by cases z
    have S02 := S1.trans S2
    have eh2 : upd (upd H d (.dK kvs)) h (.ins (HC K) dx [("_pages", .ref d)]) h = some (.ins (HC K) dx [("_pages", .ref d)]) := upd_same
    generalize upd (upd H d (.dK kvs)) h (.ins (HC K) dx [("_pages", .ref d)]) = H2 at *
    refine ⟨_, rfl, _, rfl, h, HC K, dx, _, rfl, eh2, T.K_Hand, T.a_Hand__longest, (by show 1 < 1000; decide), ?_⟩
    rw [show putF "_longest" (V.int L) ([("_pages", .ref d)] : List (Str × V)) = ([("_pages", .ref d), ("_longest", .int L)] : List (Str × V)) from rfl]
    have S3 : Stp G [h] H2 (upd H2 h (.ins (HC K) dx [("_pages", .ref d), ("_longest", .int L)])) := .put S02.t (by simp) eh2 notc_ins
    have nt2 : NoT [h] H2 := fun b hb => by
      rw [List.mem_singleton.mp hb]
      exact ⟨(fun xs z => by rw [eh2] at z; cases z), fun o u z => by rw [eh2] at z; cases z⟩
    have S03 := S02.trans S3
    have kv3 := kv2.keep nt2 S3.k
    have ed3 : upd H2 h (.ins (HC K) dx [("_pages", .ref d), ("_longest", .int L)]) d = some (.dK kvs) := by rw [upd_ne (Ne.symm nhd)]; exact ed2
    have eo3 : upd H2 h (.ins (HC K) dx [("_pages", .ref d), ("_longest", .int L)]) dx = some (.own h) := S3.k _ _ eo2 (by simp; intro z; rw [z, eh2] at eo2; cases eo2) fun _ z => by cases z
    have eh3 : upd H2 h (.ins (HC K) dx [("_pages", .ref d), ("_longest", .int L)]) h = some (.ins (HC K) dx [("_pages", .ref d), ("_longest", .int L)]) := upd_same
    generalize upd H2 h (.ins (HC K) dx [("_pages", .ref d), ("_longest", .int L)]) = H3 at *
    refine ⟨by show 0 ≤ sizeLine; decide, fun l hl => ?_⟩
    have nhl : h ≠ l := ne_of_none eh3 hl
    have S4 : Stp G [h] H3 (upd H3 l (.lst [])) := .new S03.t hl
    have eh4 : upd H3 l (.lst []) h = some (.ins (HC K) dx [("_pages", .ref d), ("_longest", .int L)]) := by rw [upd_ne nhl]; exact eh3
    refine ⟨_, rfl, h, HC K, dx, _, rfl, eh4, T.K_Hand, T.a_Hand__steps, (by show 2 < 1000; decide), ?_⟩
    rw [show putF "_steps" (V.ref l) ([("_pages", .ref d), ("_longest", .int L)] : List (Str × V)) = ([("_pages", .ref d), ("_longest", .int L), ("_steps", .ref l)] : List (Str × V)) from rfl]
    have S5 : Stp G [h] (upd H3 l (.lst [])) (upd (upd H3 l (.lst [])) h (.ins (HC K) dx [("_pages", .ref d), ("_longest", .int L), ("_steps", .ref l)])) := .put S4.t (by simp) eh4 notc_ins
    have nt3 : NoT [h] H3 := fun b hb => by
      rw [List.mem_singleton.mp hb]
      exact ⟨(fun xs z => by rw [eh3] at z; cases z), fun o u z => by rw [eh3] at z; cases z⟩
    have S35 := S4.trans S5
    have S05 := S03.trans S35
    have kv5 := kv3.keep nt3 S35.k
    have nhd' : d ∉ [h] := by simp; exact Ne.symm nhd
    have ndx' : dx ∉ [h] := by simp; intro z; rw [z, eh3] at eo3; cases eo3
    have ed5 := S35.k _ _ ed3 nhd' fun _ z => by cases z
    have eo5 := S35.k _ _ eo3 ndx' fun _ z => by cases z
    have el5 : upd (upd H3 l (.lst [])) h (.ins (HC K) dx [("_pages", .ref d), ("_longest", .int L), ("_steps", .ref l)]) l = some (.lst []) := by rw [upd_ne (Ne.symm nhl)]; exact upd_same
    have eh5 : upd (upd H3 l (.lst [])) h (.ins (HC K) dx [("_pages", .ref d), ("_longest", .int L), ("_steps", .ref l)]) h = some (.ins (HC K) dx [("_pages", .ref d), ("_longest", .int L), ("_steps", .ref l)]) := upd_same
    generalize upd (upd H3 l (.lst [])) h (.ins (HC K) dx [("_pages", .ref d), ("_longest", .int L), ("_steps", .ref l)]) = H5 at *
    refine ⟨by show 0 ≤ sizeLine; decide, fun m hm => ?_⟩
    have nhm : h ≠ m := ne_of_none eh5 hm
    have S6 : Stp G [h] H5 (upd H5 m (.lst [])) := .new S05.t hm
    have eh6 : upd H5 m (.lst []) h = some (.ins (HC K) dx [("_pages", .ref d), ("_longest", .int L), ("_steps", .ref l)]) := by rw [upd_ne nhm]; exact eh5
    refine ⟨_, rfl, h, HC K, dx, _, rfl, eh6, T.K_Hand, T.a_Hand__notes, (by show 3 < 1000; decide), ?_⟩
    rw [show putF "_notes" (V.ref m) ([("_pages", .ref d), ("_longest", .int L), ("_steps", .ref l)] : List (Str × V)) = ([("_pages", .ref d), ("_longest", .int L), ("_steps", .ref l), ("_notes", .ref m)] : List (Str × V)) from rfl]
    have S7 : Stp G [h] (upd H5 m (.lst [])) (upd (upd H5 m (.lst [])) h (.ins (HC K) dx [("_pages", .ref d), ("_longest", .int L), ("_steps", .ref l), ("_notes", .ref m)])) := .put S6.t (by simp) eh6 notc_ins
    have eh7 : upd (upd H5 m (.lst [])) h (.ins (HC K) dx [("_pages", .ref d), ("_longest", .int L), ("_steps", .ref l), ("_notes", .ref m)]) h = some (.ins (HC K) dx [("_pages", .ref d), ("_longest", .int L), ("_steps", .ref l), ("_notes", .ref m)]) := upd_same
    have em7 : upd (upd H5 m (.lst [])) h (.ins (HC K) dx [("_pages", .ref d), ("_longest", .int L), ("_steps", .ref l), ("_notes", .ref m)]) m = some (.lst []) := by rw [upd_ne (Ne.symm nhm)]; exact upd_same
    have S57 := S6.trans S7
    refine ⟨_, rfl, h, HC K, dx, _, rfl, eh7, T.K_Hand, T.a_Hand__failure, (by show 4 < 1000; decide), ?_⟩
    rw [show putF "_failure" V.non ([("_pages", .ref d), ("_longest", .int L), ("_steps", .ref l), ("_notes", .ref m)] : List (Str × V)) = ([("_pages", .ref d), ("_longest", .int L), ("_steps", .ref l), ("_notes", .ref m), ("_failure", .non)] : List (Str × V)) from rfl, upd_upd]
    refine ⟨_, rfl, h, HC K, dx, _, rfl, upd_same, T.K_Hand, T.a_Hand__held, (by show 5 < 1000; decide), ?_⟩
    rw [show putF "_held" (V.bl false) ([("_pages", .ref d), ("_longest", .int L), ("_steps", .ref l), ("_notes", .ref m), ("_failure", .non)] : List (Str × V)) = ([("_pages", .ref d), ("_longest", .int L), ("_steps", .ref l), ("_notes", .ref m), ("_failure", .non), ("_held", .bl false)] : List (Str × V)) from rfl, upd_upd]
    have S8 : Stp G [h] (upd H5 m (.lst [])) (upd (upd H5 m (.lst [])) h (.ins (HC K) dx [("_pages", .ref d), ("_longest", .int L), ("_steps", .ref l), ("_notes", .ref m), ("_failure", .non), ("_held", .bl false)])) := .put S6.t (by simp) eh6 notc_ins
    have S58 := S6.trans S8
    have nt5 : NoT [h] H5 := fun b hb => by
      rw [List.mem_singleton.mp hb]
      exact ⟨(fun xs z => by rw [eh5] at z; cases z), fun o u z => by rw [eh5] at z; cases z⟩
    have S08 := S05.trans S58
    have nm : m ∉ [h] := by simp; exact Ne.symm nhm
    have nl : l ∉ [h] := by simp; exact Ne.symm nhl
    have em8 : upd (upd H5 m (.lst [])) h (.ins (HC K) dx [("_pages", .ref d), ("_longest", .int L), ("_steps", .ref l), ("_notes", .ref m), ("_failure", .non), ("_held", .bl false)]) m = some (.lst []) := by rw [upd_ne (Ne.symm nhm)]; exact upd_same
    refine k ⟨h, dx, d, l, m⟩ _ rfl ⟨⟨kvs, [], [], .non, upd_same, S58.k _ _ ed5 nhd' (fun _ z => by cases z), kv5.keep nt5 S58.k, S58.k _ _ el5 nl (fun _ z => by cases z), .nil, em8, .nil, ⟨.non, rfl⟩⟩, S58.k _ _ eo5 ndx' (fun _ z => by cases z), fun z => ?_⟩ S08 (fr0_none hd0) (S03.k.fr0 nl (fr0_none hl)) (S05.k.fr0 nm (fr0_none hm))
    · have z' : l = m := z
      rw [z', hm] at el5
      cases el5
theorem sc_end_of : FnScope ["hand", "told"] ["hand", "told"] (defScope s_end_of) := ⟨rfl, rfl, rfl, by decide +kernel, rfl, by decide +kernel, by decide +kernel⟩
def spEndOf (K : PySem.W.Frag) (G : Tb) (m : Nat) : Sp := fun vs H Q _ => ∃ (A : HA) (st : HS) (tv : V), vs = [.ref A.h, tv] ∧ HandAt K (HC K) H A st ∧ Tbs G H ∧
  ((st.held = false ∧ ∃ d, Vd K H tv d ∧ Sml m d ∧ ∀ v H', Stp G [] H H' → Vd K H' v (.tuple [.str "told", d]) → Q v H') ∨ (st.held = true ∧ (∃ ds, st.fail = .tuple ds) ∧ ∀ v, Vd K H v st.fail → Q v H))
theorem ok_end_of (F : Fn K "_end_of" s_end_of f fd) (T : Tx K mg) (m N0 : Nat) (U_check_value : Use P w K mg base (L2.CX P w) "_check_value" N0 ["value"] (spCheckValue K G m)) :
    FnOk P w K mg base (L2.CX P w) (N0 + 2) f fd ["hand", "told"] (spEndOf K G m) := by
  refine F.ok sc_end_of (fun vs H Q E h => ?_) (fun cdv A outer s H vs Q E hr h => ?_)
  · obtain ⟨_, _, _, rfl, _⟩ := h
    rfl
  · obtain ⟨A, st, tv, rfl, hh, ht, k⟩ := h
    refine ⟨_, PSs.nox (pss_cons (ps_if (pt_not (pt_val (pe_fld (pv 0) rfl))) (pss_cons (ps_expr (pe_useL U_check_value hr (by first | decide | omega) (by rfl) (pa_cons (pv 1) pa_nil)))
      (pss_one (ps_ret (pe_tup (pa_cons pe_str (pa_cons (pv 1) pa_nil)))))) pss_nil)
      (pss_cons (ps_if (pt_cmpR op_isN (pe_fld (pv 0) rfl) pe_non (nomark _)) (pss_one ps_never) pss_nil)
      (pss_one (ps_ret (pe_fld (pv 0) rfl))))), ?_⟩
    obtain ⟨kvs, sv, nv, fv, e1, _, _, _, _, _, _, hf⟩ := id hh.ex
    refine ⟨_, rfl, A.h, HC K, A.dx, _, _, rfl, e1, T.K_Hand, T.a_Hand__held, rfl, _, rfl, ?_⟩
    rcases k with ⟨hz, d, hv, hs, k⟩ | ⟨hz, ⟨ds, hds⟩, k⟩
    · rw [hz]
      refine iteT ?_
      refine ⟨_, rfl, tv, d, rfl, hv.dp, hs, hv.val, ht, fun H1 S1 => ?_⟩
      refine ⟨_, rfl, by show 2 ≤ sizeLine; decide, fun p hp => ?_⟩
      have S2 := S1.snew (o := .tup [.str "told", tv]) hp
      exact k _ _ S2 (.tup (.of upd_same) (.cons ⟨.str _, rfl⟩ (.cons (hv.ext S2.k) .nil)))
    · rw [hz]
      refine iteF ?_
      refine ⟨_, rfl, A.h, HC K, A.dx, _, _, rfl, e1, T.K_Hand, T.a_Hand__failure, rfl, rfl, _, rfl, ?_⟩
      have hfn : fv ≠ .non := fun z => by
        rw [hds, z] at hf
        have := hf.dp
        cases this
      rw [show decide (fv = V.non) = false from decide_eq_false hfn]
      refine iteF ?_
      exact ⟨_, rfl, A.h, HC K, A.dx, _, _, rfl, e1, T.K_Hand, T.a_Hand__failure, rfl, k _ hf⟩
theorem sc_perform : FnScope ["function", "disk", "longest", "hand", "told"] ["function", "disk", "longest"] (defScope s_perform) := ⟨rfl, rfl, rfl, by decide +kernel, rfl, by decide +kernel, by decide +kernel⟩
/-- at the end of a run: its steps, its notes, its end -/
structure Done where
  steps : List PyData
  notes : List PyData
  fin : PyData
/-- f is a work: on the pages ps, with a new hand, it comes to st1, and returns r, or fails -/
def WorkOk (P : Program) (w : World) (K : PySem.W.Frag) (mg : Str → Option Value) (base : Heap) (G : Tb) (m k : Nat) (H : Hp) (f : Addr) (ps : Pgs) (L : Int) (D : Done) : Prop :=
  ∀ H1 A, Stp G [] H H1 → HandAt K (HC K) H1 A (st0 ps L) → (∀ b ∈ A.fp, Fr0 H b) → CanC K H1 f ∧ ∃ sp, Cbl P w K mg base (L2.CX P w) k f sp ∧ ∀ (Q : VK) (E : XK),
    (∀ v d H2 st, HandAt K (HC K) H2 A st → Stp G A.fp H1 H2 → st.held = false → st.steps = D.steps → st.notes = D.notes → D.fin = .tuple [.str "told", d] → Vd K H2 v d → Sml m d → Q v H2) →
    (∀ d H2 st, HandAt K (HC K) H2 A st → Stp G A.fp H1 H2 → st.held = true → st.steps = D.steps → st.notes = D.notes → D.fin = .tuple [.str "failed", d] → st.fail = D.fin → E (.ref (KC K "Held")) none H2) → sp [.ref A.h] H1 Q E
def spPerform (P : Program) (w : World) (K : PySem.W.Frag) (mg : Str → Option Value) (base : Heap) (G : Tb) (m k : Nat) : Sp := fun vs H Q _ => ∃ (f da : Addr) (L : Int) (ps : Pgs) (D : Done), vs = [.ref f, .ref da, .int L] ∧ DiskAt K H da ps ∧ Tbs G H ∧ CanC K H f ∧ WorkOk P w K mg base G m k H f ps L D ∧
  ∀ H' p l mm sv nv ev, Stp G [] H H' → H' p = some (.tup [.ref l, .ref mm, ev]) → H' l = some (.lst sv) → Vds K H' sv D.steps → H' mm = some (.lst nv) → Vds K H' nv D.notes → Vd K H' ev D.fin → Fr0 H l → Fr0 H mm → l ≠ mm → Q (.ref p) H'
theorem ok_perform (F : Fn K "perform" s_perform f fd) (T : Tx K mg) (m N0 N1 : Nat) (U_Hand : UMake P w K mg base (L2.CX P w) "Hand" 1 ["self", "disk", "longest"] (spHand0 K G) (HC K)) (U_end_of : Use P w K mg base (L2.CX P w) "_end_of" N0 ["hand", "told"] (spEndOf K G m)) :
    FnOk P w K mg base (L2.CX P w) (N0 + N1 + 4) f fd ["function", "disk", "longest"] (spPerform P w K mg base G m N1) := by
  refine F.ok sc_perform (fun vs H Q E h => ?_) (fun cdv A outer s H vs Q E hr h => ?_)
  · obtain ⟨_, _, _, _, _, rfl, _⟩ := h
    rfl
  · obtain ⟨g, da, L, ps, D, rfl, hd, ht, hc, hw, k⟩ := h
    refine' ⟨_, PSs.nox (pss_cons _ (pss_cons _ (pss_cons _ (pss_one _)))), _⟩
    rotate_left
    · exact (ps_set (i := 3) sc_perform.nd rfl (Or.inl rfl) (pe_umk U_Hand hr (by first | decide | omega) (by rfl) (pa_cons (pv 1) (pa_cons (pv 2) pa_nil))))
    rotate_left
    · exact (ps_set (i := 4) sc_perform.nd rfl (Or.inl rfl) pe_non)
    rotate_left
    · exact (ps_try_only rfl rfl ⟨by rfl, by decide, .inl T.c_Held⟩ takes0 (fun W pn xe tk po => (pss_one (ps_set (i := 4) sc_perform.nd rfl (Or.inl rfl) (pe_callG (k := N1) (i := 0) (P := P) (w := w) (K := K) (mg := mg) (base := base) ⟨rfl, rfl, rfl, rfl, rfl⟩ (hr.mono (by first | decide | omega)) tk rfl (Or.inl rfl) (pa_cons (pv 3) pa_nil))))) (fun a oe cls d pn hz hf => (pss_one (ps_if (pt_not (pt_val (CC.pe_fldK K rfl (pv 3) rfl))) (pss_one ps_never) pss_nil))))
    rotate_left
    · exact (ps_ret (pe_tup (pa_cons (pe_fld (pv 3) rfl) (pa_cons (pe_fld (pv 3) rfl) (pa_cons (pe_useL U_end_of hr (by first | decide | omega) (by rfl) (pa_cons (pv 3) (pa_cons (pv 4) pa_nil))) pa_nil)))))
    refine ⟨_, rfl, _, rfl, fun h dx hh hdx hne => ?_⟩
    have S0 : Stp G [] H (upd (upd H dx (.own h)) h (.ins (HC K) dx [])) := (Stp.new ht hdx).snew (by rw [upd_ne (Ne.symm hne)]; exact hh)
    refine ⟨h, dx, da, L, ps, rfl, upd_same, (by rw [upd_ne hne]; exact upd_same), hd.ext S0.k, S0.t, fun A' H2 eh hh2 S1 fd fl fm => ⟨rfl, ?_⟩⟩
    have S02 : Stp G [] H H2 := Stp.fresh S0.k S1 (fun x hx => by rw [List.mem_singleton.mp hx]; exact fr0_none hh)
    have fp0 : ∀ x ∈ A'.fp, Fr0 H x := fun x hx => by
      simp only [HA.fp, List.mem_cons, List.mem_nil_iff, or_false] at hx
      rcases hx with rfl | rfl | rfl | rfl
      · rw [eh]; exact fr0_none hh
      · exact S0.k.fr0 (by simp) fd
      · exact S0.k.fr0 (by simp) fl
      · exact S0.k.fr0 (by simp) fm
    subst eh
    obtain ⟨hc2, sp, hcb, hsp⟩ := hw H2 A' S02 hh2 fp0
    have fin : ∀ (st : HS) (H3 : Hp) (ev : V) (H4 : Hp) (p : Addr), HandAt K (HC K) H3 A' st → Stp G A'.fp H2 H3 → st.steps = D.steps → st.notes = D.notes → Stp G [] H3 H4 → Vd K H4 ev D.fin → H4 p = none → Q (.ref p) (upd H4 p (.tup [.ref A'.l, .ref A'.m, ev])) := fun st H3 ev H4 p hh3 S3 e1 e2 S4 hv hp => by
      have S03 := Stp.fresh S02.k S3 fp0
      have S5 : Stp G [] H3 (upd H4 p (.tup [.ref A'.l, .ref A'.m, ev])) := S4.snew hp
      have h5 := hh3.keep S5.k
      obtain ⟨kvs, sv, nv, fv, _, _, _, q3, s3, q4, s4, _⟩ := h5.ex
      rw [e1] at s3
      rw [e2] at s4
      exact k _ p A'.l A'.m sv nv ev (S03.trans S5) upd_same q3 s3 q4 s4 (hv.ext (Keep.new hp)) (fp0 _ (by simp [HA.fp])) (fp0 _ (by simp [HA.fp])) hh2.lm
    refine ⟨g, rfl, hc2, _, rfl, hc2, sp, hcb, hsp _ _ (fun v d H3 st hh3 S3 e0 e1 e2 e3 hv hs => ?_) (fun d H3 st hh3 S3 e0 e1 e2 e3 e4 => ?_)⟩
    · obtain ⟨kvs, sv, nv, fv, q1, _⟩ := id hh3.ex
      refine ⟨_, rfl, A'.h, HC K, A'.dx, _, _, rfl, q1, T.K_Hand, T.a_Hand__steps, rfl, _, rfl, A'.h, HC K, A'.dx, _, _, rfl, q1, T.K_Hand, T.a_Hand__notes, rfl, _, rfl, _, rfl, A', st, v, rfl, hh3, S3.t, .inl ⟨e0, d, hv, hs, fun ev H4 S4 hev => ?_⟩⟩
      exact ⟨by show 3 ≤ sizeLine; decide, fun p hp => fin st H3 ev H4 p hh3 S3 e1 e2 S4 (by rw [e3]; exact hev) hp⟩
    · refine ⟨true, T.e_Held, fun _ a ha => ?_, fun z => by cases z⟩
      obtain ⟨kvs, sv, nv, fv, q1, _⟩ := id hh3.ex
      refine ⟨_, rfl, A'.h, HC K, A'.dx, _, _, rfl, q1, T.K_Hand, T.a_Hand__held, rfl, _, rfl, ?_⟩
      rw [e0]
      refine iteF ?_
      refine ⟨_, rfl, A'.h, HC K, A'.dx, _, _, rfl, q1, T.K_Hand, T.a_Hand__steps, rfl, _, rfl, A'.h, HC K, A'.dx, _, _, rfl, q1, T.K_Hand, T.a_Hand__notes, rfl, _, rfl, _, rfl, A', st, _, rfl, hh3, S3.t, .inr ⟨e0, ⟨_, e4.trans e3⟩, fun ev hev => ?_⟩⟩
      exact ⟨by show 3 ≤ sizeLine; decide, fun p hp => fin st H3 ev H3 p hh3 S3 e1 e2 (.refl S3.t) (by rw [← e4]; exact hev) hp⟩
end
end K10

namespace K10
open PySem PySem.Spec PyProof.Rows L2 XV XL UU CC FW GX GxR
section
variable {P : Program} {w : World} {K : PySem.W.Frag} {mg : Str → Option Value} {base : Heap} {f c0 P0 : Addr} {fd : FuncData} {G : Tb}
abbrev MC (K : PySem.W.Frag) : Addr := KC K "Moment"
theorem sc_Moment___init__ : FnScope ["self", "pages", "synced", "epochs"] ["self", "pages", "synced", "epochs"] (defScope s_Moment___init__) := ⟨rfl, rfl, rfl, by decide +kernel, rfl, by decide +kernel, by decide +kernel⟩
def spMom0 (K : PySem.W.Frag) : Sp := fun vs H Q _ => ∃ (a dx : Addr) (pgv syv epv : V), vs = [.ref a, pgv, syv, epv] ∧ H a = some (.ins (MC K) dx []) ∧ Q .non (upd H a (.ins (MC K) dx (mFs pgv syv epv .non)))
theorem ok_mom0 (F : Fm K "Moment" "__init__" s_Moment___init__ f fd) (T : Tx K mg) : FnOk P w K mg base (L2.CX P w) 1 f fd ["self", "pages", "synced", "epochs"] (spMom0 K) := by
  refine F.ok sc_Moment___init__ (fun vs H Q E h => ?_) (fun cdv A outer s H vs Q E hr h => ?_)
  · obtain ⟨_, _, _, _, _, rfl, _⟩ := h
    rfl
  · obtain ⟨a, dx, pgv, syv, epv, rfl, e1, k⟩ := h
    refine ⟨_, PSs.nox (pss_cons (ps_fld (pv 0) (pv 1) rfl)
      (pss_cons (ps_fld (pv 0) (pv 2) rfl)
      (pss_cons (ps_fld (pv 0) (pv 3) rfl)
      (pss_one (ps_fld (pv 0) pe_non rfl))))), ?_⟩
    refine ⟨_, rfl, _, rfl, a, MC K, dx, _, rfl, e1, T.K_Moment, T.a_Moment_pages, (by show 0 < 1000; decide), ?_⟩
    refine ⟨_, rfl, _, rfl, a, MC K, dx, _, rfl, upd_same, T.K_Moment, T.a_Moment_synced, (by show 1 < 1000; decide), ?_⟩
    rw [upd_upd]
    refine ⟨_, rfl, _, rfl, a, MC K, dx, _, rfl, upd_same, T.K_Moment, T.a_Moment_epochs, (by show 2 < 1000; decide), ?_⟩
    rw [upd_upd]
    refine ⟨_, rfl, a, MC K, dx, _, rfl, upd_same, T.K_Moment, T.a_Moment__ways, (by show 3 < 1000; decide), ?_⟩
    rw [upd_upd]
    exact k
theorem sc_changed : FnScope ["pages", "name", "value", "pair"] ["pages", "name", "value"] (defScope s_changed) := ⟨rfl, rfl, rfl, by decide +kernel, rfl, by decide +kernel, by decide +kernel⟩
def spChanged (K : PySem.W.Frag) (G : Tb) : Sp := fun vs H Q _ => ∃ (pgv v : V) (ps : Pgs) (n : Str) (d : PyData), vs = [pgv, .str n, v] ∧ Vd K H pgv (pgD ps) ∧ Vd K H v d ∧ Tbs G H ∧ ps.length < 100000 ∧ ∀ u H', Stp G [] H H' → Vd K H' u (pgD (pgSet ps n d)) → Q u H'
theorem ok_changed (F : Fn K "_changed" s_changed f fd) (hc : fd.code = .ref c0) (TB : TabB base mg c0 P0) (hP : P0 ∈ G.gp) (hl : ∀ p ∈ G.lt, p.1 ≠ P0) (T : Tx K mg) : FnOk P w K mg base (L2.CX P w) 4 f fd ["pages", "name", "value"] (spChanged K G) := by
  refine okC F hc sc_changed (fun vs H Q E h => ?_) (fun A outer s H vs Q E hr h => ?_)
  · obtain ⟨_, _, _, _, _, rfl, _⟩ := h
    rfl
  · obtain ⟨pgv, v, ps, n, d, rfl, hp, hv, ht, hlen, k⟩ := h
    refine ⟨_, PSs.nox (pss_one (ps_ret (GX.pe_tupG (own := [("pair", 3)]) (tt := tYes) (k := 0) (hr.mono (by first | decide | omega)) (by rfl) T.n_tuple TB rfl sc_changed.nd (blkOk_by (N := ["pages", "name", "value", "pair"]) (sc := defScope s_changed) (by decide +kernel)) (pi_tup (pv 0)) (fun _ _ _ _ _ _ _ hr => (pg_name (i := 3) sc_changed.nd rfl (Or.inl rfl) (hf := .inr rfl))) (fun _ _ _ _ _ _ _ hr => pts_nil) (fun _ _ _ _ _ _ _ hr => (pe_ifExp (pt_cmpR op_eq (pe_ix (CC.ix_tupK K rfl) (pv 3) pe_int (fun _ _ => rfl)) (pv 1) (nomark _)) (pe_tup (pa_cons (pv 1) (pa_cons (pv 2) pa_nil))) (pv 3)))))), ?_⟩
    obtain ⟨a, us, rfl, q, hda⟩ := hp.untup
    have hlen2 := hda.len
    rw [List.length_map] at hlen2
    refine ⟨_, rfl, a, rfl, ⟨_, q⟩, ht.g _ hP, fun H2 hT => ?_⟩
    have S2 : Stp G [] H H2 := .tab ht hP hl hT
    refine gx_it (walk_tup (xs := us)) (fun i b H' => Stp G [] H H' ∧ Vds K H' b (((pgSet ps n d).map fun p => .tuple [.str p.1, p.2]).take i)) ⟨S2, .nil⟩ (fun i _ H' _ h => sqT_ext h.1.k.ext q) (fun i x b H3 H4 hi h hy => ?_) (fun b H' h => ?_)
    · obtain ⟨rfl, hx⟩ := hy
      obtain ⟨dd, hdd, vd⟩ := hda.at hx
      have hpi : i < ps.length := by rw [← hlen2]; exact hi
      rw [List.getElem?_map, List.getElem?_eq_getElem hpi] at hdd
      have edd : PyData.tuple [.str ps[i].1, ps[i].2] = dd := Option.some.inj hdd
      subst edd
      obtain ⟨pa, u, rfl, qp, hu⟩ := (vd.ext h.1.k).pair
      have hv3 := hv.ext h.1.k
      have hset : ((pgSet ps n d).map fun p => PyData.tuple [.str p.1, p.2])[i]? = some (if ps[i].1 = n then .tuple [.str ps[i].1, d] else .tuple [.str ps[i].1, ps[i].2]) := by
        rw [pgSet_map, List.map_map, List.getElem?_map, List.getElem?_eq_getElem hpi]
        show some _ = some _
        congr 1
        show PyData.tuple [.str (if ps[i].1 = n then (ps[i].1, d) else ps[i]).1, (if ps[i].1 = n then (ps[i].1, d) else ps[i]).2] = _
        by_cases e : ps[i].1 = n
        · rw [if_pos e, if_pos e]
        · rw [if_neg e, if_neg e]
      have hbl : b.length < sizeLine := by
        rw [h.2.len]
        refine Nat.lt_of_le_of_lt (List.length_take_le _ _) ?_
        exact Nat.lt_of_lt_of_le (Nat.lt_trans hpi hlen) (by decide)
      refine ⟨rfl, yesI ?_⟩
      refine ⟨_, rfl, pa, _, 0, _, rfl, rfl, qp, rfl, _, rfl, rfl, _, rfl, ?_⟩
      by_cases e : ps[i].1 = n
      · rw [show decide (V.str ps[i].1 = V.str n) = true from decide_eq_true (by rw [e])]
        refine iteT ?_
        refine ⟨_, rfl, _, rfl, by show 2 ≤ sizeLine; decide, fun p hp => ?_⟩
        rw [if_pos e] at hset
        have S3 := h.1.snew (o := .tup [.str n, v]) hp
        have kk : Keep [] H4 (upd H4 p (.tup [.str n, v])) := .new hp
        refine ⟨hbl, S3, ?_⟩
        rw [take_succ' hset]
        exact (h.2.ext kk).snoc (.tup (.of upd_same) (.cons (by rw [e]; exact ⟨.str _, rfl⟩) (.cons (hv3.ext kk) .nil)))
      · rw [show decide (V.str ps[i].1 = V.str n) = false from decide_eq_false (fun z => e (V.str.inj z))]
        refine iteF ?_
        refine ⟨_, rfl, hbl, h.1, ?_⟩
        rw [if_neg e] at hset
        rw [take_succ' hset]
        exact h.2.snoc (.tup qp (.cons ⟨.str _, rfl⟩ (.cons hu .nil)))
    · intro p o hp ho
      refine k _ _ (h.1.snew hp) ?_
      have h2 := h.2
      rw [List.take_of_length_le (by rw [List.length_map, pgSet_len, hlen2]; exact Nat.le_refl _)] at h2
      exact .tup (.inl (.inr ⟨o, upd_same⟩)) (h2.ext (.new hp))
theorem sc_Moment_behind : FnScope ["self", "wish", "late"] ["self", "wish"] (defScope s_Moment_behind) := ⟨rfl, rfl, rfl, by decide +kernel, rfl, by decide +kernel, by decide +kernel⟩
def spBehind (K : PySem.W.Frag) (G : Tb) : Sp := fun vs H Q _ => ∃ (a : Addr) (m : Mo) (wv : V) (wi : Wi) (n : Nat), vs = [.ref a, wv] ∧ MomN K (MC K) H a m ∧ Vd K H wv wi.data ∧ Tbs G H ∧ MoFew m n ∧ n < 100000 ∧
  ∀ a' H', Stp G [] H H' → MomN K (MC K) H' a' (m.after wi) → ((a' = a ∧ m.after wi = m) ∨ Fr0 H a') → Q (.ref a') H'
theorem mom_new {H : Hp} {x dx : Addr} {pgv syv epv : V} {m : Mo} (t : Tbs G H) (hx : H x = none) (hd : H dx = none) (hne : dx ≠ x) (h1 : Vd K H pgv (pgD m.pages)) (h2 : Vd K H syv (pgD m.sync)) (h3 : Vd K H epv (epD m.eps)) :
    Stp G [] H (upd (upd (upd H dx (.own x)) x (.ins (MC K) dx [])) x (.ins (MC K) dx (mFs pgv syv epv .non))) ∧ MomN K (MC K) (upd (upd (upd H dx (.own x)) x (.ins (MC K) dx [])) x (.ins (MC K) dx (mFs pgv syv epv .non))) x m := by
  rw [upd_upd]
  have S : Stp G [] H (upd (upd H dx (.own x)) x (.ins (MC K) dx (mFs pgv syv epv .non))) := (Stp.new t hd).snew (by rw [upd_ne (Ne.symm hne)]; exact hx)
  exact ⟨S, dx, pgv, syv, epv, upd_same, h1.ext S.k, h2.ext S.k, h3.ext S.k⟩
theorem ok_behind (F : Fm K "Moment" "behind" s_Moment_behind f fd) (T : Tx K mg) (U_Moment : UMake P w K mg base (L2.CX P w) "Moment" 1 ["self", "pages", "synced", "epochs"] (spMom0 K) (MC K)) (U_changed : Use P w K mg base (L2.CX P w) "_changed" 4 ["pages", "name", "value"] (spChanged K G)) :
    FnOk P w K mg base (L2.CX P w) 6 f fd ["self", "wish"] (spBehind K G) := by
  refine F.ok sc_Moment_behind (fun vs H Q E h => ?_) (fun cdv A outer s H vs Q E hr h => ?_)
  · obtain ⟨_, _, _, _, _, rfl, _⟩ := h
    rfl
  · obtain ⟨a, m, wv, wi, n, rfl, hm, hw, ht, few, hn, k⟩ := h
    refine ⟨_, PSs.nox (pss_cons (ps_if (pt_cmpR op_eq (pe_ix ix_tup (pv 1) pe_int (fun _ _ => rfl)) pe_str (nomark _)) (pss_cons (ps_set (i := 2) sc_Moment_behind.nd rfl (Or.inl rfl) (pe_tup (StX.pa_star (pe_ix ix_tup (pe_fld (pv 0) rfl) (pe_un un_neg pe_int) (fun _ _ => rfl)) (pa_cons (pe_tup (pa_cons (pe_ix ix_tup (pv 1) pe_int (fun _ _ => rfl)) (pa_cons (pe_ix ix_tup (pv 1) pe_int (fun _ _ => rfl)) pa_nil))) pa_nil))))
      (pss_one (ps_ret (pe_umk U_Moment hr (by first | decide | omega) (by rfl) (pa_cons (pe_useL U_changed hr (by first | decide | omega) (by rfl) (pa_cons (pe_fld (pv 0) rfl) (pa_cons (pe_ix ix_tup (pv 1) pe_int (fun _ _ => rfl)) (pa_cons (pe_ix ix_tup (pv 1) pe_int (fun _ _ => rfl)) pa_nil)))) (pa_cons (pe_fld (pv 0) rfl) (pa_cons (pe_tup (StX.pa_star (pe_slice sl_tup (pe_fld (pv 0) rfl) po_none (po_some (pe_un un_neg pe_int))) (pa_cons (pv 2) pa_nil))) pa_nil))))))) pss_nil)
      (pss_cons (ps_if (pt_cmpR op_eq (pe_ix ix_tup (pv 1) pe_int (fun _ _ => rfl)) pe_str (nomark _)) (pss_one (ps_ret (pe_umk U_Moment hr (by first | decide | omega) (by rfl) (pa_cons (pe_fld (pv 0) rfl) (pa_cons (pe_fld (pv 0) rfl) (pa_cons (pe_tup (StX.pa_star (pe_fld (pv 0) rfl) (pa_cons (pe_tup pa_nil) pa_nil))) pa_nil)))))) pss_nil)
      (pss_cons (ps_if (pt_cmpR op_eq (pe_ix ix_tup (pv 1) pe_int (fun _ _ => rfl)) pe_str (nomark _)) (pss_one (ps_ret (pe_umk U_Moment hr (by first | decide | omega) (by rfl) (pa_cons (pe_fld (pv 0) rfl) (pa_cons (pe_fld (pv 0) rfl) (pa_cons (pe_tup (pa_cons (pe_tup pa_nil) pa_nil)) pa_nil)))))) pss_nil)
      (pss_one (ps_ret (pv 0)))))), ?_⟩
    obtain ⟨dx, pgv, syv, epv, em, hpg, hsy, hep⟩ := id hm
    have ins : ∀ {Hx : Hp}, Keep [] H Hx → Hx a = some (.ins (MC K) dx (mFs pgv syv epv .non)) := fun kk => kk _ _ em (by simp) fun _ z => by cases z
    cases wi with
    | look z =>
      obtain ⟨b, us, rfl, q, hd⟩ := Vd.untup (ds := [.str "look", .str z]) hw
      have e0 : us[0]? = some (.str "look") := by
        cases hd with
        | cons h1 _ =>
          have e1 := h1.dp
          cases e1
          rfl
      have at0 : atI us 0 = some (.str "look") := atI_nat e0
      refine ⟨_, rfl, b, us, 0, _, rfl, rfl, q, at0, rfl, _, rfl, iteF ?_⟩
      refine ⟨_, rfl, b, us, 0, _, rfl, rfl, q, at0, rfl, _, rfl, iteF ?_⟩
      refine ⟨_, rfl, b, us, 0, _, rfl, rfl, q, at0, rfl, _, rfl, iteF ?_⟩
      exact ⟨_, rfl, k a H (.refl ht) hm (.inl ⟨rfl, rfl⟩)⟩
    | bar =>
      obtain ⟨b, us, rfl, q, hd⟩ := Vd.untup (ds := [.str "barrier"]) hw
      have e0 : us[0]? = some (.str "barrier") := by
        cases hd with
        | cons h1 _ =>
          have e1 := h1.dp
          cases e1
          rfl
      have at0 : atI us 0 = some (.str "barrier") := atI_nat e0
      refine ⟨_, rfl, b, us, 0, _, rfl, rfl, q, at0, rfl, _, rfl, iteF ?_⟩
      refine ⟨_, rfl, b, us, 0, _, rfl, rfl, q, at0, rfl, _, rfl, iteT ?_⟩
      refine ⟨_, rfl, a, MC K, dx, _, _, rfl, em, T.K_Moment, T.a_Moment_pages, rfl, ?_⟩
      refine ⟨_, rfl, a, MC K, dx, _, _, rfl, em, T.K_Moment, T.a_Moment_synced, rfl, ?_⟩
      refine ⟨_, rfl, a, MC K, dx, _, _, rfl, em, T.K_Moment, T.a_Moment_epochs, rfl, ?_⟩
      obtain ⟨ea, es, rfl, qe, he⟩ := hep.untup
      refine ⟨ea, es, rfl, .inl qe, ?_⟩
      refine ⟨by show 0 ≤ sizeLine; decide, fun p hp => ?_⟩
      have S1 : Stp G [] H (upd H p (.tup [])) := .new ht hp
      have hlen : es.length = m.eps.length := by rw [he.len, List.length_map]
      have hep1 := few.ep
      refine ⟨by rw [List.length_append, hlen, List.length_singleton]; exact Nat.le_trans (show m.eps.length + 1 ≤ 100000 by omega) (by decide), fun p2 hp2 => ?_⟩
      have S2 := S1.snew (o := .tup (es ++ [.ref p])) hp2
      have he2 : Vd K (upd (upd H p (.tup [])) p2 (.tup (es ++ [.ref p]))) (.ref p2) (epD (m.after .bar).eps) := by
        have e1 : (epD (m.after .bar).eps) = .tuple (m.eps.map pgD ++ [.tuple []]) := by
          show PyData.tuple ((m.eps ++ [[]]).map pgD) = _
          rw [List.map_append] <;> rfl
        rw [e1]
        refine .tup (.of upd_same) ((he.ext S2.k).snoc (.tup (.of (by rw [upd_ne (ne_of_none upd_same hp2)]; exact upd_same)) .nil))
      intro x dx2 hx hdx hne
      refine ⟨x, dx2, pgv, syv, .ref p2, rfl, upd_same, rfl, ?_⟩
      obtain ⟨S3, hm3⟩ := mom_new (G := G) (K := K) (m := m.after .bar) S2.t hx hdx hne (hpg.ext S2.k) (hsy.ext S2.k) he2
      exact k x _ (S2.trans S3) hm3 (.inr (S2.k.fr0 (by simp) (fr0_none hx)))
    | flu =>
      obtain ⟨b, us, rfl, q, hd⟩ := Vd.untup (ds := [.str "flush"]) hw
      have e0 : us[0]? = some (.str "flush") := by
        cases hd with
        | cons h1 _ =>
          have e1 := h1.dp
          cases e1
          rfl
      have at0 : atI us 0 = some (.str "flush") := atI_nat e0
      refine ⟨_, rfl, b, us, 0, _, rfl, rfl, q, at0, rfl, _, rfl, iteF ?_⟩
      refine ⟨_, rfl, b, us, 0, _, rfl, rfl, q, at0, rfl, _, rfl, iteF ?_⟩
      refine ⟨_, rfl, b, us, 0, _, rfl, rfl, q, at0, rfl, _, rfl, iteT ?_⟩
      refine ⟨_, rfl, a, MC K, dx, _, _, rfl, em, T.K_Moment, T.a_Moment_pages, rfl, ?_⟩
      refine ⟨_, rfl, a, MC K, dx, _, _, rfl, em, T.K_Moment, T.a_Moment_pages, rfl, ?_⟩
      refine ⟨by show 0 ≤ sizeLine; decide, fun p hp => ?_⟩
      have S1 : Stp G [] H (upd H p (.tup [])) := .new ht hp
      refine ⟨by show 1 ≤ sizeLine; decide, fun p2 hp2 => ?_⟩
      have S2 := S1.snew (o := .tup [.ref p]) hp2
      have he2 : Vd K (upd (upd H p (.tup [])) p2 (.tup [.ref p])) (.ref p2) (epD (m.after .flu).eps) := .tup (.of upd_same) (.cons (.tup (.of (by rw [upd_ne (ne_of_none upd_same hp2)]; exact upd_same)) .nil) .nil)
      intro x dx2 hx hdx hne
      refine ⟨x, dx2, pgv, pgv, .ref p2, rfl, upd_same, ?_⟩
      obtain ⟨S3, hm3⟩ := mom_new (G := G) (K := K) (m := m.after .flu) S2.t hx hdx hne (hpg.ext S2.k) (hpg.ext S2.k) he2
      exact ⟨rfl, k x _ (S2.trans S3) hm3 (.inr (S2.k.fr0 (by simp) (fr0_none hx)))⟩
    | put z d =>
      obtain ⟨b, us, rfl, q, hd⟩ := Vd.untup (ds := [.str "put", .str z, d]) hw
      obtain ⟨v, rfl, hv⟩ : ∃ v, us = [.str "put", .str z, v] ∧ Vd K H v d := by
        cases hd with
        | cons h1 hd =>
          cases hd with
          | cons h2 hd =>
            cases hd with
            | cons h3 hd =>
              cases hd with
              | nil =>
                have e1 := h1.dp
                cases e1
                have e2 := h2.dp
                cases e2
                exact ⟨_, rfl, h3⟩
      have at0 : atI [V.str "put", .str z, v] 0 = some (.str "put") := rfl
      have at1 : atI [V.str "put", .str z, v] 1 = some (.str z) := rfl
      have at2 : atI [V.str "put", .str z, v] 2 = some v := rfl
      refine ⟨_, rfl, b, _, 0, _, rfl, rfl, q, at0, rfl, _, rfl, iteT ?_⟩
      obtain ⟨ea, es, rfl, qe, he⟩ := hep.untup
      have hne : m.eps.map pgD ≠ [] := fun z => few.ne (List.map_eq_nil_iff.mp z)
      obtain ⟨ne1, lv, ld, l1, l2, hlv, hini⟩ := vds_last he hne
      rw [List.getLast?_map] at l2
      obtain ⟨le, l3, rfl⟩ := Option.map_eq_some_iff.mp l2
      have hleM : le ∈ m.eps := List.mem_of_getLast? l3
      have hle : le.length ≤ n := few.la le hleM
      have hld : m.eps.getLastD [] = le := by rw [List.getLastD_eq_getLast?, l3] <;> rfl
      obtain ⟨la, ls, rfl, ql, hls⟩ := hlv.untup
      refine ⟨_, rfl, a, MC K, dx, _, _, rfl, em, T.K_Moment, T.a_Moment_epochs, rfl, 1, rfl, ea, es, -1, .ref la, rfl, rfl, qe, (by rw [atI_last ne1]; exact l1), la, ls, rfl, .inl ql, ?_⟩
      refine ⟨_, rfl, b, _, 1, _, rfl, rfl, q, at1, _, rfl, b, _, 2, _, rfl, rfl, q, at2, by show 2 ≤ sizeLine; decide, fun p hp => ?_⟩
      have S1 : Stp G [] H (upd H p (.tup [.str z, v])) := .new ht hp
      have hll : ls.length = le.length := by rw [hls.len, List.length_map]
      refine ⟨by rw [List.length_append, hll, List.length_singleton]; exact Nat.le_trans (show le.length + 1 ≤ 100000 by omega) (by decide), fun p2 hp2 => ?_⟩
      have S2 := S1.snew (o := .tup (ls ++ [.ref p])) hp2
      have hlate : Vd K (upd (upd H p (.tup [.str z, v])) p2 (.tup (ls ++ [.ref p]))) (.ref p2) (pgD (le ++ [(z, d)])) := by
        have e1 : pgD (le ++ [(z, d)]) = .tuple (le.map (fun p => .tuple [.str p.1, p.2]) ++ [.tuple [.str z, d]]) := by
          unfold pgD
          rw [List.map_append] <;> rfl
        rw [e1]
        exact .tup (.of upd_same) ((hls.ext S2.k).snoc (.tup (.of (by rw [upd_ne (ne_of_none upd_same hp2)]; exact upd_same)) (.cons ⟨.str _, rfl⟩ (.cons (hv.ext S2.k) .nil))))
      generalize upd (upd H p (.tup [.str z, v])) p2 (.tup (ls ++ [.ref p])) = H2 at *
      have q2 : SqT K H2 b [.str "put", .str z, v] := sqT_ext S2.k.ext q
      refine ⟨_, rfl, a, MC K, dx, _, _, rfl, ins S2.k, T.K_Moment, T.a_Moment_pages, rfl, ?_⟩
      refine ⟨_, rfl, b, _, 1, _, rfl, rfl, q2, at1, _, rfl, b, _, 2, _, rfl, rfl, q2, at2, ?_⟩
      refine ⟨pgv, v, m.pages, z, d, rfl, hpg.ext S2.k, hv.ext S2.k, S2.t, few.pg, fun u H3 S3 hu => ?_⟩
      have S03 := S2.trans S3
      refine ⟨_, rfl, a, MC K, dx, _, _, rfl, ins S03.k, T.K_Moment, T.a_Moment_synced, rfl, ?_⟩
      refine ⟨_, rfl, a, MC K, dx, _, _, rfl, ins S03.k, T.K_Moment, T.a_Moment_epochs, rfl, ?_⟩
      obtain ⟨cv, cn⟩ := cutV_init ne1
      refine ⟨1, rfl, _, rfl, ea, es, rfl, sqT_ext S03.k.ext qe, cn, fun p3 hp3 => ?_⟩
      rw [cv]
      have S4 := S03.snew (o := .tup es.dropLast) hp3
      refine ⟨p3, _, rfl, .inl (.of upd_same), _, rfl, ?_⟩
      have hlen : es.length = m.eps.length := by rw [he.len, List.length_map]
      have hep1 := few.ep
      refine ⟨by rw [List.length_append, List.length_dropLast, hlen, List.length_singleton]; exact Nat.le_trans (show m.eps.length - 1 + 1 ≤ 100000 by omega) (by decide), fun p4 hp4 => ?_⟩
      have S5 := S4.snew (o := .tup (es.dropLast ++ [.ref p2])) hp4
      have K35 : Keep [] H3 (upd (upd H3 p3 (.tup es.dropLast)) p4 (.tup (es.dropLast ++ [.ref p2]))) := (Keep.new hp3).trans (.new hp4)
      have he5 : Vd K (upd (upd H3 p3 (.tup es.dropLast)) p4 (.tup (es.dropLast ++ [.ref p2]))) (.ref p4) (epD (m.after (.put z d)).eps) := by
        have e1 : epD (m.after (.put z d)).eps = .tuple ((m.eps.map pgD).dropLast ++ [pgD (le ++ [(z, d)])]) := by
          show PyData.tuple ((m.eps.dropLast ++ [m.eps.getLastD [] ++ [(z, d)]]).map pgD) = _
          rw [List.map_append, hld, List.map_dropLast] <;> rfl
        rw [e1]
        exact .tup (.of upd_same) ((hini.ext S5.k).snoc (hlate.ext (S3.k.trans K35)))
      intro x dx2 hx hdx hne2
      refine ⟨x, dx2, u, syv, .ref p4, rfl, upd_same, rfl, ?_⟩
      obtain ⟨S6, hm6⟩ := mom_new (G := G) (K := K) (m := m.after (.put z d)) S5.t hx hdx hne2 (hu.ext K35) (hsy.ext S5.k) he5
      exact k x _ (S5.trans S6) hm6 (.inr (S5.k.fr0 (by simp) (fr0_none hx)))
theorem sc_moments_of : FnScope ["disk", "steps", "spared_steps", "flush_places", "moment", "moments", "number", "wish", "_"] ["disk", "steps", "spared_steps", "flush_places"] (defScope s_moments_of) := ⟨rfl, rfl, rfl, by decide +kernel, rfl, by decide +kernel, by decide +kernel⟩
def mo0 (ps : Pgs) : Mo := ⟨ps, ps, [[]]⟩
def moms (ps : Pgs) (sp fl : List V) (ws : List Wi) : List Mo := mo0 ps :: momsFrom sp fl 0 (mo0 ps) ws
theorem moms_len (ps : Pgs) (sp fl : List V) (ws : List Wi) : (moms ps sp fl ws).length = ws.length + 1 := by
  unfold moms
  rw [List.length_cons, momsFrom_len]
def spMoments (K : PySem.W.Frag) (G : Tb) : Sp := fun vs H Q _ => ∃ (dv : V) (sl spa fla : Addr) (svs spv flv : List V) (ps : Pgs) (st : List (Wi × PyData)), vs = [dv, .ref sl, .ref spa, .ref fla] ∧ Vd K H dv (pgD ps) ∧ H sl = some (.lst svs) ∧ Vds K H svs (st.map stD) ∧
  SqT K H spa spv ∧ spv.all flatV = true ∧ SqT K H fla flv ∧ flv.all flatV = true ∧ Tbs G H ∧ st.length < 1000 ∧ ps.length < 100000 ∧
  ∀ mp H' as, Stp G [] H H' → H' mp = some (.lst (as.map V.ref)) → Paired (MomN K (MC K) H') as (moms ps spv flv (st.map (·.1))) → Fun2 as (moms ps spv flv (st.map (·.1))) → Fr0 H mp → Q (.ref mp) H'
def mSt (dv : V) (sl spa fla a mp : Addr) (x6 x7 x8 : Option V) : L2.St := [some dv, some (.ref sl), some (.ref spa), some (.ref fla), some (.ref a), some (.ref mp), x6, x7, x8]
structure MInv (K : PySem.W.Frag) (G : Tb) (H0 H' : Hp) (mp a : Addr) (as : List Addr) (m : Mo) (done : List Mo) (n : Nat) : Prop where
  s : Stp G [mp] H0 H'
  l : H' mp = some (.lst (as.map V.ref))
  d : Paired (MomN K (MC K) H') as done
  c : MomN K (MC K) H' a m
  f : MoFew m n
  q : Fun2 as done
  u : ∀ (i : Nat) (m' : Mo), as[i]? = some a → done[i]? = some m' → m' = m
theorem MInv.go {H0 H' H2 : Hp} {mp a a2 : Addr} {as : List Addr} {m m2 : Mo} {done : List Mo} {n n2 : Nat} (h : MInv K G H0 H' mp a as m done n) (s : Stp G [] H' H2) (c : MomN K (MC K) H2 a2 m2) (f : MoFew m2 n2) (w : (a2 = a ∧ m2 = m) ∨ Fr0 H' a2) : MInv K G H0 H2 mp a2 as m2 done n2 :=
  ⟨h.s.trans s.up, s.k _ _ h.l (by simp) (fun _ z => by cases z), Paired.mapP h.d fun _ _ z => z.ext s.k, c, f, h.q, fun i m' h1 h2 => by
    rcases w with ⟨rfl, rfl⟩ | w
    · exact h.u i m' h1 h2
    · obtain ⟨m3, _, _, _, _, _, e, _⟩ := Paired.at1 h.d h1
      exact (FW.Fr0.ne w e (fun _ z => by cases z) rfl).elim⟩
theorem MInv.push {H0 H' : Hp} {mp a : Addr} {as : List Addr} {m : Mo} {done : List Mo} {n : Nat} (h : MInv K G H0 H' mp a as m done n) : MInv K G H0 (upd H' mp (.lst ((as ++ [a]).map V.ref))) mp a (as ++ [a]) m (done ++ [m]) n := by
  have nt : NoT [mp] H' := fun b hb => by
    rw [List.mem_singleton.mp hb, h.l]
    exact ⟨(fun _ z => by cases z), fun _ _ z => by cases z⟩
  have S : Stp G [mp] H' (upd H' mp (.lst ((as ++ [a]).map V.ref))) := .put h.s.t (by simp) h.l notc_lst
  have ne : ∀ {b : Addr} {k : Mo}, MomN K (MC K) H' b k → b ∉ [mp] := fun ⟨_, _, _, _, q, _⟩ z => by
    rw [List.mem_singleton.mp z, h.l] at q
    cases q
  exact ⟨h.s.trans S, upd_same, Paired.app (Paired.mapP h.d fun _ _ z => z.keep nt (ne z) S.k) (.cons (h.c.keep nt (ne h.c) S.k) .nil), h.c.keep nt (ne h.c) S.k, h.f, h.q.push (Paired.length h.d) h.u, upush (Paired.length h.d) h.u⟩
theorem ok_moments_of (F : Fn K "moments_of" s_moments_of f fd) (T : Tx K mg) (U_Moment : UMake P w K mg base (L2.CX P w) "Moment" 1 ["self", "pages", "synced", "epochs"] (spMom0 K) (MC K)) (U_Moment_behind : UMeth P w K mg base (L2.CX P w) (MC K) "behind" 6 ["self", "wish"] (spBehind K G)) :
    FnOk P w K mg base (L2.CX P w) 7 f fd ["disk", "steps", "spared_steps", "flush_places"] (spMoments K G) := by
  refine F.ok sc_moments_of (fun vs H Q E h => ?_) (fun cdv A outer s H vs Q E hr h => ?_)
  · obtain ⟨_, _, _, _, _, _, _, _, _, rfl, _⟩ := h
    rfl
  · obtain ⟨dv, sl, spa, fla, svs, spv, flv, ps, st, rfl, hd, hsl, hst, hsp, fsp, hfl, ffl, ht, hlen, hpl, k⟩ := h
    refine ⟨_, PSs.nox (pss_cons (ps_set (i := 4) sc_moments_of.nd rfl (Or.inl rfl) (pe_umk U_Moment hr (by first | decide | omega) (by rfl) (pa_cons (pv 0) (pa_cons (pv 0) (pa_cons (pe_tup (pa_cons (pe_tup pa_nil) pa_nil)) pa_nil)))))
      (pss_cons (ps_set (i := 5) sc_moments_of.nd rfl (Or.inl rfl) (pe_lst (pa_cons (pv 4) pa_nil)))
      (pss_cons (ps_for PassesOwn.never rfl (pi_enum (by rfl) T.n_enumerate (pa_cons (pv 1) pa_nil)) (pg_tup rfl (pgs_cons (pg_name (i := 6) sc_moments_of.nd rfl (Or.inl rfl)) (pgs_cons (pg_tup rfl (pgs_cons (pg_name (i := 7) sc_moments_of.nd rfl (Or.inl rfl)) (pgs_cons (pg_name (i := 8) sc_moments_of.nd rfl (Or.inl rfl)) pgs_nil))) pgs_nil)))
      (pss_cons (ps_cut (ps_if (pt_cmpR op_notIn_seq (pv 6) (pv 2) (by rfl)) (pss_one (ps_set (i := 4) sc_moments_of.nd rfl (Or.inl rfl) (pe_um' (pv 4) T.K_Moment U_Moment_behind hr (by first | decide | omega) (pa_cons (pv 7) pa_nil)))) pss_nil))
      (pss_cons (ps_cut (ps_if (pt_cmpR op_in_seq (pv 6) (pv 3) (by rfl)) (pss_one (ps_set (i := 4) sc_moments_of.nd rfl (Or.inl rfl) (pe_um' (pv 4) T.K_Moment U_Moment_behind hr (by first | decide | omega) (pa_cons (pe_tup (pa_cons pe_str pa_nil)) pa_nil)))) pss_nil))
      (pss_one (ps_expr (pe_bm PySem.F.plainAttrs_list PySem.F.slot_list_append PySem.F.type_list_append mt_append (pv 5) (pa_cons (pv 4) pa_nil)))))))
      (pss_one (ps_ret (pv 5)))))), ?_⟩
    refine ⟨_, rfl, _, rfl, by show 0 ≤ sizeLine; decide, fun p hp => ?_⟩
    have S1 : Stp G [] H (upd H p (.tup [])) := .new ht hp
    refine ⟨by show 1 ≤ sizeLine; decide, fun p2 hp2 => ?_⟩
    have S2 := S1.snew (o := .tup [.ref p]) hp2
    have he2 : Vd K (upd (upd H p (.tup [])) p2 (.tup [.ref p])) (.ref p2) (epD (mo0 ps).eps) := .tup (.of upd_same) (.cons (.tup (.of (by rw [upd_ne (ne_of_none upd_same hp2)]; exact upd_same)) .nil) .nil)
    intro a dx ha hdx hne
    refine ⟨a, dx, dv, dv, .ref p2, rfl, upd_same, rfl, ?_⟩
    obtain ⟨S3, hm3⟩ := mom_new (G := G) (K := K) (m := mo0 ps) S2.t ha hdx hne (hd.ext S2.k) (hd.ext S2.k) he2
    have S03 := S2.trans S3
    generalize upd (upd (upd (upd (upd H p (.tup [])) p2 (.tup [.ref p])) dx (.own a)) a (.ins (MC K) dx [])) a (.ins (MC K) dx (mFs dv dv (.ref p2) .non)) = H3 at *
    refine ⟨_, rfl, by show 1 ≤ sizeLine; decide, fun mp hmp => ?_⟩
    have S4 := S03.snew (o := .lst [.ref a]) hmp
    have K4 : Keep [] H3 (upd H3 mp (.lst [.ref a])) := .new hmp
    have fmp : Fr0 H mp := S03.k.fr0 (by simp) (fr0_none hmp)
    have n1 : ∀ {b : Addr} {o : HO}, H b = some o → (∀ ps, o ≠ .tbl ps) → b ∉ [mp] := fun e nt z => by
      rw [List.mem_singleton.mp z] at e
      obtain ⟨ps, q⟩ := fmp _ e
      exact nt ps q
    have hl4 : upd H3 mp (.lst [.ref a]) mp = some (.lst ([a].map V.ref)) := upd_same
    generalize upd H3 mp (.lst [.ref a]) = H4 at *
    have e4 : H4 sl = some (.lst svs) := S4.k _ _ hsl (by simp) fun _ z => by cases z
    have sp4 : SqT K H4 spa spv := sqT_ext S4.k.ext hsp
    have fl4 : SqT K H4 fla flv := sqT_ext S4.k.ext hfl
    have st4 := hst.ext S4.k
    have nt4 : NoT [mp] H4 := fun b hb => by
      rw [List.mem_singleton.mp hb, hl4]
      exact ⟨(fun _ z => by cases z), fun _ _ z => by cases z⟩
    have nsl : sl ∉ [mp] := n1 hsl fun _ z => by cases z
    have hsl' : ∀ {H'}, Stp G [mp] H4 H' → H' sl = some (.lst svs) := fun S => S.k _ _ e4 nsl fun _ z => by cases z
    have hle : svs.length = st.length := by rw [hst.len, List.length_map]
    refine ⟨_, rfl, sl, svs, rfl, SqL.of e4, ?_⟩
    refine for_it walk_enum (fun i σ H' => ∃ (b : Addr) (m : Mo) (as : List Addr) (done : List Mo) (x6 x7 x8 : Option V), σ = mSt dv sl spa fla b mp x6 x7 x8 ∧ MInv K G H4 H' mp b as m done (2 * i + 1) ∧ as.length = i + 1 ∧ moms ps spv flv (st.map (·.1)) = done ++ momsFrom spv flv i m ((st.map (·.1)).drop i))
      ⟨a, mo0 ps, [a], [mo0 ps], none, none, none, rfl, ⟨.refl S4.t, hl4, .cons (hm3.ext K4) .nil, hm3.ext K4, ⟨hpl, by show [[]] ≠ []; simp, by show 1 ≤ 1; omega, fun e he => by rw [List.mem_singleton.mp (show e ∈ [[]] from he)]; exact Nat.zero_le _⟩, Fun2.push (as := []) (ms := []) (fun _ _ _ _ _ h => by simp at h) rfl (fun _ _ h => by simp at h), upush (as := []) (ms := []) rfl (fun _ _ h => by simp at h)⟩, rfl, rfl⟩
      (fun i σ H' _ ⟨_, _, _, _, _, _, _, _, h, _⟩ => SqL.of (hsl' h.s)) (fun i x σ H5 H6 hi h hy => ?_) (fun σ H5 h => ?_)
    · obtain ⟨b, m, as, done, x6, x7, x8, rfl, inv, hasl, heq⟩ := h
      obtain ⟨t, y1, y2, rfl, ht0, rfl, e1, e2⟩ := hy
      cases e1
      have hi' : i < st.length := by rw [← hle]; exact hi
      obtain ⟨dd, hdd, vd⟩ := st4.at e2
      rw [List.getElem?_map, List.getElem?_eq_getElem hi'] at hdd
      have edd : stD st[i] = dd := Option.some.inj hdd
      subst edd
      have S5 : Stp G [] H5 (upd H5 t (.tup [.int (i : Nat), y2])) := .new inv.s.t ht0
      have vd6 := (vd.keep nt4 inv.s.k).ext S5.k
      obtain ⟨sa, us, rfl, qs, hus⟩ := vd6.untup
      have inv6 := inv.go S5 (inv.c.ext S5.k) inv.f (.inl ⟨rfl, rfl⟩)
      have qt : SqT K (upd H5 t (.tup [.int (i : Nat), .ref sa])) t [.int (i : Nat), .ref sa] := .of upd_same
      generalize upd H5 t (.tup [.int (i : Nat), .ref sa]) = H6 at *
      cases hus with
      | cons hw hus =>
        cases hus with
        | cons hans hus =>
          cases hus with
          | nil =>
            rename_i wv ansv
            have hdrop : (st.map (·.1)).drop i = st[i].1 :: (st.map (·.1)).drop (i + 1) := by
              rw [List.drop_eq_getElem_cons (by rw [List.length_map]; exact hi'), List.getElem_map]
            rw [hdrop] at heq
            have hn : 2 * i + 1 < 100000 := by omega
            refine ⟨t, _, rfl, qt, rfl, _, _, rfl, _, _, rfl, sa, _, rfl, qs, rfl, _, _, rfl, _, _, rfl, rfl, rfl, ?_⟩
            refine ⟨fun σ' H' => ∃ (b : Addr) (m : Mo), σ' = mSt dv sl spa fla b mp (some (.int (i : Nat))) (some wv) (some ansv) ∧ MInv K G H4 H' mp b as m done (2 * i + 2) ∧ moms ps spv flv (st.map (·.1)) = done ++ ((if inV (.int (i : Nat)) flv then m.after .flu else m) :: momsFrom spv flv (i + 1) (if inV (.int (i : Nat)) flv then m.after .flu else m) ((st.map (·.1)).drop (i + 1))), ?_, ?_⟩
            · refine ⟨_, rfl, _, rfl, spa, spv, rfl, .inr (keep_sqT nt4 inv6.s.k sp4), rfl, fsp, _, rfl, ?_⟩
              cases hin : inV (.int (i : Nat)) spv with
              | true =>
                refine iteF ?_
                refine ⟨b, m, rfl, ⟨inv6.s, inv6.l, inv6.d, inv6.c, ⟨inv6.f.pg, inv6.f.ne, Nat.le_succ_of_le inv6.f.ep, fun e he => Nat.le_succ_of_le (inv6.f.la e he)⟩, inv6.q, inv6.u⟩, ?_⟩
                rw [heq]
                rw [momsFrom_cons, hin] <;> rfl
              | false =>
                refine iteT ?_
                obtain ⟨dxb, pgv, syv, epv, eb, _⟩ := id inv6.c
                refine ⟨_, rfl, b, dxb, _, rfl, eb, rfl, _, rfl, b, m, wv, st[i].1, 2 * i + 1, rfl, inv6.c, hw, inv6.s.t, inv6.f, hn, fun b' H7 S7 hb' wb' => ?_⟩
                refine ⟨b', m.after st[i].1, rfl, inv6.go S7 hb' (inv6.f.after (by omega) _) wb', ?_⟩
                rw [heq]
                rw [momsFrom_cons, hin] <;> rfl
            · rintro σ7 H7 ⟨b7, m7, rfl, inv7, heq7⟩
              refine ⟨fun σ' H' => ∃ (b : Addr) (m : Mo), σ' = mSt dv sl spa fla b mp (some (.int (i : Nat))) (some wv) (some ansv) ∧ MInv K G H4 H' mp b as m done (2 * i + 3) ∧ moms ps spv flv (st.map (·.1)) = done ++ (m :: momsFrom spv flv (i + 1) m ((st.map (·.1)).drop (i + 1))), ?_, ?_⟩
              · refine ⟨_, rfl, _, rfl, fla, flv, rfl, .inr (keep_sqT nt4 inv7.s.k fl4), rfl, ffl, _, rfl, ?_⟩
                cases hin : inV (.int (i : Nat)) flv with
                | false =>
                  refine iteF ?_
                  refine ⟨b7, m7, rfl, ⟨inv7.s, inv7.l, inv7.d, inv7.c, ⟨inv7.f.pg, inv7.f.ne, Nat.le_succ_of_le inv7.f.ep, fun e he => Nat.le_succ_of_le (inv7.f.la e he)⟩, inv7.q, inv7.u⟩, ?_⟩
                  rw [heq7, hin] <;> rfl
                | true =>
                  refine iteT ?_
                  obtain ⟨dxb, pgv, syv, epv, eb, _⟩ := id inv7.c
                  refine ⟨_, rfl, b7, dxb, _, rfl, eb, rfl, by show 1 ≤ sizeLine; decide, fun p8 hp8 => ?_⟩
                  have S8 : Stp G [] H7 (upd H7 p8 (.tup [.str "flush"])) := .new inv7.s.t hp8
                  refine ⟨b7, m7, .ref p8, .flu, 2 * i + 2, rfl, inv7.c.ext S8.k, .tup (.of upd_same) (.cons ⟨.str _, rfl⟩ .nil), S8.t, inv7.f, by omega, fun b' H9 S9 hb' wb' => ?_⟩
                  refine ⟨b', m7.after .flu, rfl, inv7.go (S8.trans S9) hb' (inv7.f.after (by omega) _) (wb'.imp id (fun z => S8.k.fr0 (by simp) z)), ?_⟩
                  rw [heq7, hin] <;> rfl
              · rintro σ8 H8 ⟨b8, m8, rfl, inv8, heq8⟩
                refine ⟨_, rfl, .inl ⟨rfl, _, SqL.of inv8.l⟩, _, rfl, mp, _, _, rfl, rfl, inv8.l, ?_, ?_⟩
                · rw [List.length_map, hasl]
                  exact Nat.lt_of_lt_of_le (show i + 1 < 100000 by omega) (by decide)
                · have z := inv8.push
                  rw [List.map_append] at z
                  refine ⟨b8, m8, as ++ [b8], done ++ [m8], _, _, _, rfl, ?_, by rw [List.length_append, hasl] <;> rfl, ?_⟩
                  · rw [show 2 * (i + 1) + 1 = 2 * i + 3 by omega]
                    exact z
                  · rw [heq8, List.append_assoc] <;> rfl
    · obtain ⟨b, m, as, done, x6, x7, x8, rfl, inv, hasl, heq⟩ := h
      refine ⟨_, rfl, k mp H5 as (Stp.fresh S4.k inv.s fun x hx => by rw [List.mem_singleton.mp hx]; exact fmp) inv.l ?_ ?_ fmp⟩
      all_goals
        rw [List.drop_of_length_le (by rw [List.length_map, hle]; exact Nat.le_refl _)] at heq
        have e0 : momsFrom spv flv svs.length m [] = [] := rfl
        rw [e0, List.append_nil] at heq
      · rw [heq]
        exact inv.d
      · rw [heq]
        exact inv.q
end
end K10

namespace K10
open PySem PySem.Spec PyProof.Rows L2 XV XL UU CC FW GX GxR
section
variable {P : Program} {w : World} {K : PySem.W.Frag} {mg : Str → Option Value} {base : Heap} {f c0 P0 : Addr} {fd : FuncData} {G : Tb}
theorem sc_NoMoment___init__ : FnScope ["self", "moment"] ["self", "moment"] (defScope s_NoMoment___init__) := ⟨rfl, rfl, rfl, by decide +kernel, rfl, by decide +kernel, by decide +kernel⟩
theorem ok_i_NoMoment (F : Fm K "NoMoment" "__init__" s_NoMoment___init__ f fd) (T : Tx K mg) : FnOk P w K mg base (L2.CX P w) 1 f fd ["self", "moment"] (spInit (KC K "NoMoment") "moment") := by
  refine F.ok sc_NoMoment___init__ (fun vs H Q E h => ?_) (fun cdv A outer s H vs Q E hr h => ?_)
  · obtain ⟨_, _, rfl, _⟩ := h
    rfl
  · obtain ⟨a, v, rfl, ha, k⟩ := h
    obtain ⟨mc, ci⟩ := T.ci
    refine ⟨_, PSs.nox (pss_cons (ps_expr (pe_ini (by rfl) T.c_FallError ci (pa_cons (pv 0) (pa_cons pe_str pa_nil)))) (pss_one (ps_ost (pv 0) (pv 1)))), ?_⟩
    refine ⟨_, rfl, a, _, _, rfl, by decide, T.k_NoMoment, ha, ?_⟩
    exact ⟨_, rfl, _, rfl, a, _, rfl, T.o_NoMoment, T.no_NoMoment, .inl ⟨ha, fun d hd hne => k d hd hne⟩⟩
/-- a moment that is none is refused with itself -/
def NoMom (K : PySem.W.Frag) (G : Tb) (v : V) (H : Hp) (E : XK) : Prop := ∀ dx H', Stp G [] H H' → H' dx = some (.xd [("moment", v)]) → E (.ref (KC K "NoMoment")) (some dx) H'
end
end K10

namespace K10
open PySem PySem.Spec PyProof.Rows L2 XV XL UU CC FW GX GxR
section
variable {P : Program} {w : World} {K : PySem.W.Frag} {mg : Str → Option Value} {base : Heap} {f c0 P0 : Addr} {fd : FuncData} {G : Tb}
abbrev RC (K : PySem.W.Frag) : Addr := KC K "Run"
abbrev PC' (K : PySem.W.Frag) : Addr := KC K "Plan"
theorem sc_Run___init__ : FnScope ["self", "function", "disk", "plan", "spared_steps", "flush_places"] ["self", "function", "disk", "plan", "spared_steps", "flush_places"] (defScope s_Run___init__) := ⟨rfl, rfl, rfl, by decide +kernel, rfl, by decide +kernel, by decide +kernel⟩
abbrev RunH (K : PySem.W.Frag) (H : Hp) (a : Addr) (r : RnD) : Prop := RunAt K (RC K) (MC K) H a r
abbrev RunHT (K : PySem.W.Frag) (H : Hp) (a : Addr) (r : RnD) (ta : Addr) : Prop := RunAtT K (RC K) (MC K) H a r ta
def spRun0 (P : Program) (w : World) (K : PySem.W.Frag) (mg : Str → Option Value) (base : Heap) (G : Tb) (m k : Nat) : Sp := fun vs H Q _ => ∃ (r dx f da pl spa fla : Addr) (p : PLd) (ps : Pgs) (spv flv : List V) (st : List (Wi × PyData)) (nt : List (Nat × PyData)) (fin : PyData), vs = [.ref r, .ref f, .ref da, .ref pl, .ref spa, .ref fla] ∧
  H r = some (.ins (RC K) dx []) ∧ PlanAt (PC' K) H pl p ∧ DiskAt K H da ps ∧ SqT K H spa spv ∧ spv.all flatV = true ∧ SqT K H fla flv ∧ flv.all flatV = true ∧ Tbs G H ∧ ps.length < 100000 ∧ st.length < 1000 ∧ CanC K H f ∧
  WorkOk P w K mg base G m k H f ps p.longest ⟨st.map stD, nt.map ntD, fin⟩ ∧ ∀ H', Stp G [r] H H' → RunHT K H' r ⟨st, nt, fin, moms ps spv flv (st.map (·.1))⟩ p.torn → Q .non H'
theorem ok_run0 (F : Fm K "Run" "__init__" s_Run___init__ f fd) (T : Tx K mg) (m N1 N2 : Nat) (hN : 7 ≤ N1) (U_perform : Use P w K mg base (L2.CX P w) "perform" N1 ["function", "disk", "longest"] (spPerform P w K mg base G m N2)) (U_moments_of : Use P w K mg base (L2.CX P w) "moments_of" 7 ["disk", "steps", "spared_steps", "flush_places"] (spMoments K G)) :
    FnOk P w K mg base (L2.CX P w) (N1 + 1) f fd ["self", "function", "disk", "plan", "spared_steps", "flush_places"] (spRun0 P w K mg base G m N2) := by
  refine F.ok sc_Run___init__ (fun vs H Q E h => ?_) (fun cdv A outer s H vs Q E hr h => ?_)
  · obtain ⟨_, _, _, _, _, _, _, _, _, _, _, _, _, _, rfl, _⟩ := h
    rfl
  · obtain ⟨r, dx, g, da, pl, spa, fla, p, ps, spv, flv, st, nt, fin, rfl, er, hpl, hd, hsp, fsp, hfl, ffl, ht, hlen, hst, hcan, hw, k⟩ := h
    refine ⟨_, PSs.nox (pss_cons (ps_asg (pe_useL U_perform hr (by first | decide | omega) (by rfl) (pa_cons (pv 1) (pa_cons (pv 2) (pa_cons (pe_fld (pv 3) rfl) pa_nil)))) (pg_tup rfl (pgs_cons (CC.pg_attr (pv 0)) (pgs_cons (CC.pg_attr (pv 0)) (pgs_cons (CC.pg_attr (pv 0)) pgs_nil)))))
      (pss_cons (ps_fld (pv 0) (pe_useL U_moments_of hr (by first | decide | omega) (by rfl) (pa_cons (pv 2) (pa_cons (pe_fld (pv 0) rfl) (pa_cons (pv 4) (pa_cons (pv 5) pa_nil))))) rfl)
      (pss_one (ps_fld (pv 0) (pe_fld (pv 3) rfl) rfl)))), ?_⟩
    obtain ⟨pdx, ep⟩ := id hpl
    refine ⟨_, rfl, _, rfl, _, rfl, pl, PC' K, pdx, _, _, rfl, ep, T.K_Plan, T.a_Plan_longest, rfl, ?_⟩
    refine ⟨g, da, p.longest, ps, _, rfl, hd, ht, hcan, hw, fun H1 q l nl sv nv ev S1 eq1 el hsv enl hnv hev fl fnl hne => ?_⟩
    have er1 : H1 r = some (.ins (RC K) dx []) := S1.k _ _ er (by simp) fun _ z => by cases z
    have nrl : r ≠ l := FW.Fr0.ne fl er fun _ z => by cases z
    have nrn : r ≠ nl := FW.Fr0.ne fnl er fun _ z => by cases z
    refine ⟨q, _, rfl, .of eq1, rfl, _, _, rfl, ?_⟩
    refine ⟨_, rfl, r, RC K, dx, _, rfl, er1, T.K_Run, T.a_Run__steps, (by show 0 < 1000; decide), ?_⟩
    refine ⟨_, _, rfl, _, rfl, r, RC K, dx, _, rfl, upd_same, T.K_Run, T.a_Run__notes, (by show 1 < 1000; decide), ?_⟩
    rw [upd_upd]
    refine ⟨_, _, rfl, _, rfl, r, RC K, dx, _, rfl, upd_same, T.K_Run, T.a_Run__end, (by show 2 < 1000; decide), rfl, ?_⟩
    rw [upd_upd]
    rw [show putF "_end" ev (putF "_notes" (V.ref nl) (putF "_steps" (V.ref l) [])) = ([("_steps", .ref l), ("_notes", .ref nl), ("_end", ev)] : List (Str × V)) from rfl]
    have nt1 : NoT [r] H1 := fun b hb => by
      rw [List.mem_singleton.mp hb, er1]
      exact ⟨(fun _ z => by cases z), fun _ _ z => by cases z⟩
    have S2 : Stp G [r] H1 (upd H1 r (.ins (RC K) dx [("_steps", .ref l), ("_notes", .ref nl), ("_end", ev)])) := .put S1.t (by simp) er1 notc_ins
    have er2 : upd H1 r (.ins (RC K) dx [("_steps", .ref l), ("_notes", .ref nl), ("_end", ev)]) r = some (.ins (RC K) dx [("_steps", .ref l), ("_notes", .ref nl), ("_end", ev)]) := upd_same
    generalize upd H1 r (.ins (RC K) dx [("_steps", .ref l), ("_notes", .ref nl), ("_end", ev)]) = H2 at *
    have npl : pl ≠ r := fun z => by
      rw [z, er] at ep
      cases ins_fs ep
    have nda : da ∉ [r] := fun z => by
      obtain ⟨o, vs, e, _⟩ := hd.ex
      rw [List.mem_singleton.mp z, er] at e
      cases e
    have S02 : Stp G [r] H H2 := S1.up.trans S2
    have nt0 : NoT [r] H := fun b hb => by
      rw [List.mem_singleton.mp hb, er]
      exact ⟨(fun _ z => by cases z), fun _ _ z => by cases z⟩
    have hd2 := hd.keep nt0 S02.k
    obtain ⟨o, dvs, ed, _, hdv⟩ := hd2.ex
    have hdd : Vd K H2 (.ref da) (pgD ps) := .tup (.inl (.inr ⟨o, ed⟩)) hdv
    have nl' : l ∉ [r] := by simp; exact Ne.symm nrl
    have nnl' : nl ∉ [r] := by simp; exact Ne.symm nrn
    have el2 := S2.k _ _ el nl' fun _ z => by cases z
    have enl2 := S2.k _ _ enl nnl' fun _ z => by cases z
    refine ⟨_, rfl, _, rfl, r, RC K, dx, _, _, rfl, er2, T.K_Run, T.a_Run__steps, rfl, _, rfl, _, rfl, ?_⟩
    refine ⟨.ref da, l, spa, fla, sv, spv, flv, ps, st, rfl, hdd, el2, hsv.keep nt1 S2.k, keep_sqT nt0 S02.k hsp, fsp, keep_sqT nt0 S02.k hfl, ffl, S02.t, hst, hlen, fun mp H3 as S3 emp hms hfu fmp => ?_⟩
    have er3 := S3.k _ _ er2 (by simp) fun _ z => by cases z
    have nrm : r ≠ mp := FW.Fr0.ne fmp er2 fun _ z => by cases z
    refine ⟨_, rfl, r, RC K, dx, _, rfl, er3, T.K_Run, T.a_Run__moments, (by show 3 < 1000; decide), ?_⟩
    refine ⟨_, rfl, pl, PC' K, pdx, _, _, rfl, (by rw [upd_ne npl]; exact (S02.trans S3.up).k _ _ ep (by simp; exact npl) fun _ z => by cases z), T.K_Plan, T.a_Plan_torn, rfl, ?_⟩
    refine ⟨_, rfl, r, RC K, dx, _, rfl, upd_same, T.K_Run, T.a_Run__torn, (by show 4 < 1000; decide), ?_⟩
    rw [upd_upd, show putF "_torn" (V.ref p.torn) (putF "_moments" (V.ref mp) ([("_steps", .ref l), ("_notes", .ref nl), ("_end", ev)] : List (Str × V))) = ([("_steps", .ref l), ("_notes", .ref nl), ("_end", ev), ("_moments", .ref mp), ("_torn", .ref p.torn)] : List (Str × V)) from rfl]
    have nt3 : NoT [r] H3 := fun b hb => by
      rw [List.mem_singleton.mp hb, er3]
      exact ⟨(fun _ z => by cases z), fun _ _ z => by cases z⟩
    have S4 : Stp G [r] H3 (upd H3 r (.ins (RC K) dx [("_steps", .ref l), ("_notes", .ref nl), ("_end", ev), ("_moments", .ref mp), ("_torn", .ref p.torn)])) := .put S3.t (by simp) er3 notc_ins
    have S24 := S3.up.trans S4
    refine k _ (S02.trans S24) ⟨dx, l, nl, mp, ev, sv, nv, as, upd_same, S24.k _ _ el2 nl' (fun _ z => by cases z), ?_, S24.k _ _ enl2 nnl' (fun _ z => by cases z), ?_, ?_, S4.k _ _ emp (by simp; exact Ne.symm nrm) (fun _ z => by cases z), ?_, hfu⟩
    · exact ((hsv.keep nt1 S2.k).ext S3.k).keep nt3 S4.k
    · exact ((hnv.keep nt1 S2.k).ext S3.k).keep nt3 S4.k
    · exact ((hev.keep nt1 S2.k).ext S3.k).keep nt3 S4.k
    · refine Paired.mapP hms fun b m hm => hm.keep nt3 (fun z => ?_) S4.k
      obtain ⟨_, _, _, _, e, _⟩ := hm
      rw [List.mem_singleton.mp z, er3] at e
      cases congrArg List.length (ins_fs e)
theorem sc_Run_of : FnScope ["plan"] ["plan"] (defScope s_Run_of) := ⟨rfl, rfl, rfl, by decide +kernel, rfl, by decide +kernel, by decide +kernel⟩
/-- a run of a work -/
structure RunJob (P : Program) (w : World) (K : PySem.W.Frag) (mg : Str → Option Value) (base : Heap) (G : Tb) (m k : Nat) (H : Hp) (f da : Addr) (L : Int) (spv flv : List V) (r : RnD) : Prop where
  ex : ∃ ps, DiskAt K H da ps ∧ ps.length < 100000 ∧ r.ms = moms ps spv flv (r.steps.map (·.1)) ∧ WorkOk P w K mg base G m k H f ps L ⟨r.steps.map stD, r.notes.map ntD, r.fin⟩
  few : r.steps.length < 1000
  can : CanC K H f
def spOf (P : Program) (w : World) (K : PySem.W.Frag) (mg : Str → Option Value) (base : Heap) (G : Tb) (m k : Nat) : Sp := fun vs H Q _ => ∃ (pl : Addr) (p : PLd) (spv flv : List V) (r : RnD), vs = [.ref pl] ∧ PlanAt (PC' K) H pl p ∧ SqT K H p.spa spv ∧ spv.all flatV = true ∧ SqT K H p.fla flv ∧ flv.all flatV = true ∧ Tbs G H ∧
  RunJob P w K mg base G m k H p.work p.start p.longest spv flv r ∧ ∀ a H', Stp G [] H H' → RunHT K H' a r p.torn → Q (.ref a) H'
theorem sc_Plan_start : FnScope ["self"] ["self"] (defScope s_Plan_start) := ⟨rfl, rfl, rfl, by decide +kernel, rfl, by decide +kernel, by decide +kernel⟩
def spStart (K : PySem.W.Frag) : Sp := fun vs H Q _ => ∃ (pl : Addr) (p : PLd), vs = [.ref pl] ∧ PlanAt (PC' K) H pl p ∧ Q (.ref p.start) H
theorem ok_start (F : Fm K "Plan" "start" s_Plan_start f fd) (T : Tx K mg) : FnOk P w K mg base (L2.CX P w) 1 f fd ["self"] (spStart K) := by
  refine F.ok sc_Plan_start (fun vs H Q E h => ?_) (fun cdv A outer s H vs Q E hr h => ?_)
  · obtain ⟨_, _, rfl, _⟩ := h
    rfl
  · obtain ⟨pl, p, rfl, ⟨dx, e⟩, k⟩ := h
    refine ⟨_, PSs.nox (pss_one (ps_ret (pe_fld (pv 0) rfl))), ?_⟩
    exact ⟨_, rfl, pl, PC' K, dx, _, _, rfl, e, T.K_Plan, T.a_Plan__start, rfl, k⟩
theorem run_made {H : Hp} {x dx : Addr} {f da pl spa fla : Addr} {p : PLd} {m k : Nat} {spv flv : List V} {r : RnD} {Q : VK} {E : XK} (t : Tbs G H) (hx : H x = none) (hdx : H dx = none) (hne : dx ≠ x) (hpl : PlanAt (PC' K) H pl p) (hsp : SqT K H spa spv) (fsp : spv.all flatV = true) (hfl : SqT K H fla flv) (ffl : flv.all flatV = true)
    (hj : RunJob P w K mg base G m k H f da p.longest spv flv r) (k' : ∀ a H', Stp G [] H H' → RunHT K H' a r p.torn → Q (.ref a) H') :
    spRun0 P w K mg base G m k [.ref x, .ref f, .ref da, .ref pl, .ref spa, .ref fla] (upd (upd H dx (.own x)) x (.ins (RC K) dx [])) (fun v H2 => v = .non ∧ Q (.ref x) H2) E := by
  have S : Stp G [] H (upd (upd H dx (.own x)) x (.ins (RC K) dx [])) := (Stp.new t hdx).snew (by rw [upd_ne (Ne.symm hne)]; exact hx)
  obtain ⟨ps, hd, hl, hms, hw⟩ := hj.ex
  have hc : CanC K (upd (upd H dx (.own x)) x (.ins (RC K) dx [])) f := by
    rcases hj.can with ⟨Fr, b, e⟩ | e
    · exact .inl ⟨Fr, b, S.k _ _ e (by simp) fun _ => lamO_nt⟩
    · exact .inr e
  refine ⟨x, dx, f, da, pl, spa, fla, p, ps, spv, flv, r.steps, r.notes, r.fin, rfl, upd_same, hpl.ext S.k, hd.ext S.k, sqT_ext S.k.ext hsp, fsp, sqT_ext S.k.ext hfl, ffl, S.t, hl, hj.few, hc, fun H1 A S1 hh fr => hw H1 A (S.trans S1) hh fun b hb => S.k.fr0 (by simp) (fr b hb), fun H' S' hr => ⟨rfl, k' x H' (Stp.fresh S.k S' fun b hb => by rw [List.mem_singleton.mp hb]; exact fr0_none hx) ?_⟩⟩
  rw [← hms] at hr
  exact hr
theorem ok_of (F : Fm K "Run" "of" s_Run_of f fd) (T : Tx K mg) (m k N : Nat) (U_Run : UMake P w K mg base (L2.CX P w) "Run" N ["self", "function", "disk", "plan", "spared_steps", "flush_places"] (spRun0 P w K mg base G m k) (RC K)) (U_Plan_start : UMeth P w K mg base (L2.CX P w) (KC K "Plan") "start" 1 ["self"] (spStart K)) :
    FnOk P w K mg base (L2.CX P w) (N + 2) f fd ["plan"] (spOf P w K mg base G m k) := by
  refine F.ok sc_Run_of (fun vs H Q E h => ?_) (fun cdv A outer s H vs Q E hr h => ?_)
  · obtain ⟨_, _, _, _, _, rfl, _⟩ := h
    rfl
  · obtain ⟨pl, p, spv, flv, r, rfl, hpl, hsp, fsp, hfl, ffl, ht, hj, k'⟩ := h
    refine ⟨_, PSs.nox (pss_one (ps_ret (pe_umk U_Run hr (by first | decide | omega) (by rfl) (pa_cons (pe_fld (pv 0) rfl) (pa_cons (pe_um0' (pv 0) T.K_Plan U_Plan_start hr (by first | decide | omega)) (pa_cons (pv 0) (pa_cons (pe_fld (pv 0) rfl) (pa_cons (pe_fld (pv 0) rfl) pa_nil)))))))), ?_⟩
    obtain ⟨pdx, ep⟩ := id hpl
    refine ⟨_, rfl, pl, PC' K, pdx, _, _, rfl, ep, T.K_Plan, T.a_Plan_work, rfl, ?_⟩
    refine ⟨_, rfl, pl, pdx, _, rfl, ep, rfl, pl, p, rfl, hpl, _, rfl, ?_⟩
    refine ⟨_, rfl, pl, PC' K, pdx, _, _, rfl, ep, T.K_Plan, T.a_Plan_spared_steps, rfl, ?_⟩
    refine ⟨_, rfl, pl, PC' K, pdx, _, _, rfl, ep, T.K_Plan, T.a_Plan_flush_places, rfl, ?_⟩
    exact fun x dx hx hdx hne => run_made ht hx hdx hne hpl hsp fsp hfl ffl hj k'
theorem sc_Run_steps : FnScope ["self"] ["self"] (defScope s_Run_steps) := ⟨rfl, rfl, rfl, by decide +kernel, rfl, by decide +kernel, by decide +kernel⟩
def spSteps (K : PySem.W.Frag) (G : Tb) : Sp := fun vs H Q _ => ∃ (a : Addr) (r : RnD), vs = [.ref a] ∧ RunH K H a r ∧ Tbs G H ∧ ∀ q H' sv, Stp G [] H H' → H' q = some (.lst sv) → Vds K H' sv (r.steps.map stD) → H q = none → Q (.ref q) H'
theorem ok_steps (F : Fm K "Run" "steps" s_Run_steps f fd) (T : Tx K mg) : FnOk P w K mg base (L2.CX P w) 1 f fd ["self"] (spSteps K G) := by
  refine F.ok sc_Run_steps (fun vs H Q E h => ?_) (fun cdv A outer s H vs Q E hr h => ?_)
  · obtain ⟨_, _, rfl, _⟩ := h
    rfl
  · obtain ⟨a, r, rfl, ⟨dx, l, nl, mp, ev, tv, sv, nv, as, e1, e2, h2, _⟩, ht, k⟩ := h
    refine ⟨_, PSs.nox (pss_one (ps_ret (pe_callTy call_list_of (by rfl) T.n_list (by decide +kernel) (pa_cons (pe_fld (pv 0) rfl) pa_nil)))), ?_⟩
    refine ⟨_, rfl, a, RC K, dx, _, _, rfl, e1, T.K_Run, T.a_Run__steps, rfl, l, sv, rfl, .inl (SqL.of e2), fun q hq => ?_⟩
    exact k q _ sv (.new ht hq) upd_same (h2.ext (.new hq)) hq
theorem sc_Run_end : FnScope ["self"] ["self"] (defScope s_Run_end) := ⟨rfl, rfl, rfl, by decide +kernel, rfl, by decide +kernel, by decide +kernel⟩
def spEnd (K : PySem.W.Frag) : Sp := fun vs H Q _ => ∃ (a : Addr) (r : RnD), vs = [.ref a] ∧ RunH K H a r ∧ ∀ v, Vd K H v r.fin → Q v H
theorem ok_end (F : Fm K "Run" "end" s_Run_end f fd) (T : Tx K mg) : FnOk P w K mg base (L2.CX P w) 1 f fd ["self"] (spEnd K) := by
  refine F.ok sc_Run_end (fun vs H Q E h => ?_) (fun cdv A outer s H vs Q E hr h => ?_)
  · obtain ⟨_, _, rfl, _⟩ := h
    rfl
  · obtain ⟨a, r, rfl, ⟨dx, l, nl, mp, ev, tv, sv, nv, as, e1, e2, h2, e3, h3, h4, _⟩, k⟩ := h
    refine ⟨_, PSs.nox (pss_one (ps_ret (pe_fld (pv 0) rfl))), ?_⟩
    exact ⟨_, rfl, a, RC K, dx, _, _, rfl, e1, T.K_Run, T.a_Run__end, rfl, k _ h4⟩
theorem sc_Run__is_moment : FnScope ["self", "thing"] ["self", "thing"] (defScope s_Run__is_moment) := ⟨rfl, rfl, rfl, by decide +kernel, rfl, by decide +kernel, by decide +kernel⟩
def spIsMoment (K : PySem.W.Frag) : Sp := fun vs H Q _ => ∃ (a : Addr) (r : RnD) (v : V) (d : PyData), vs = [.ref a, v] ∧ RunH K H a r ∧ Dp K H v d ∧ Q (.bl (isMomB d r.ms.length)) H
theorem ok_is_moment (F : Fm K "Run" "_is_moment" s_Run__is_moment f fd) (T : Tx K mg) (U_is_integer : Use P w K mg base (L2.CX P w) "is_integer" 1 ["thing"] (spIsInteger K)) : FnOk P w K mg base (L2.CX P w) 2 f fd ["self", "thing"] (spIsMoment K) := by
  refine F.ok sc_Run__is_moment (fun vs H Q E h => ?_) (fun cdv A outer s H vs Q E hr h => ?_)
  · obtain ⟨_, _, _, _, rfl, _⟩ := h
    rfl
  · obtain ⟨a, r, v, d, rfl, ⟨dx, l, nl, mp, ev, tv, sv, nv, as, e1, e2, h2, e3, h3, h4, e5, h5⟩, hd, k⟩ := h
    refine ⟨_, PSs.nox (pss_one (ps_ret (pe_and (pe_useL U_is_integer hr (by first | decide | omega) (by rfl) (pa_cons (pv 1) pa_nil)) (pe_one (pe_chain op_le op_lt pe_int (pv 1) (pe_callB call_len (by rfl) T.n_len (by decide +kernel) (pa_cons (pe_fld (pv 0) rfl) pa_nil))))))), ?_⟩
    have hlen : as.length = r.ms.length := Paired.length h5
    refine ⟨_, rfl, v, d, rfl, hd, _, rfl, ?_⟩
    cases hi : isInt d with
    | false =>
      have e : isMomB d r.ms.length = false := by cases d <;> first | rfl | cases hi
      rw [e] at k
      exact iteF k
    | true =>
      obtain ⟨i, rfl⟩ : ∃ i, d = .int i := by cases d <;> first | exact ⟨_, rfl⟩ | cases hi
      cases hd
      refine iteT ?_
      refine ⟨_, rfl, _, _, rfl, rfl, _, rfl, ?_⟩
      have k' : Q (.bl (decide (0 ≤ i) && decide (i < r.ms.length))) H := k
      cases h0 : decide ((0 : Int) ≤ i) with
      | false =>
        rw [h0] at k'
        exact iteF k'
      | true =>
        rw [h0] at k'
        refine iteT ?_
        refine ⟨_, rfl, a, RC K, dx, _, _, rfl, e1, T.K_Run, T.a_Run__moments, rfl, _, _, rfl, .inl ⟨_, SqL.of e5, rfl⟩, ?_⟩
        refine ⟨_, _, rfl, rfl, ?_⟩
        rw [List.length_map, hlen]
        exact k'
theorem sc_Run__check_moment : FnScope ["self", "moment"] ["self", "moment"] (defScope s_Run__check_moment) := ⟨rfl, rfl, rfl, by decide +kernel, rfl, by decide +kernel, by decide +kernel⟩
def spCheckMoment (K : PySem.W.Frag) (G : Tb) : Sp := fun vs H Q E => ∃ (a : Addr) (r : RnD) (v : V) (d : PyData), vs = [.ref a, v] ∧ RunH K H a r ∧ Vd K H v d ∧ Tbs G H ∧ (isMomB d r.ms.length = true → Q .non H) ∧ (isMomB d r.ms.length = false → NoMom K G v H E)
theorem ok_check_moment (F : Fm K "Run" "_check_moment" s_Run__check_moment f fd) (T : Tx K mg) (U_Run__is_moment : UMeth P w K mg base (L2.CX P w) (RC K) "_is_moment" 2 ["self", "thing"] (spIsMoment K))
    {fh : FuncData} (U_NoMoment : FnOk P w K mg base (L2.CX P w) 1 (He.ma K (KC K "NoMoment") "__init__") fh ["self", "moment"] (spInit (KC K "NoMoment") "moment")) (B_NoMoment : KBn K fh ["self", "moment"] 2 [] (fun us vs => us ++ vs) (fun us vs => us ++ vs)) : FnOk P w K mg base (L2.CX P w) 3 f fd ["self", "moment"] (spCheckMoment K G) := by
  refine F.ok sc_Run__check_moment (fun vs H Q E h => ?_) (fun cdv A outer s H vs Q E hr h => ?_)
  · obtain ⟨_, _, _, _, rfl, _⟩ := h
    rfl
  · obtain ⟨a, r, v, d, rfl, hrun, hv, ht, k, kx⟩ := h
    refine ⟨_, (pss_one (ps_if (pt_not (pt_val (pe_um' (pv 0) T.K_Run U_Run__is_moment hr (by first | decide | omega) (pa_cons (pv 1) pa_nil)))) (pss_one (ps_raise rfl (takes_of rfl rfl rfl rfl) (CC.pmk_rz rfl (pe_mkv T.k_NoMoment T.i_NoMoment T.t_NoMoment U_NoMoment (hr.mono (by first | decide | omega)) (by rfl) T.c_NoMoment B_NoMoment passL (pa_cons (pv 1) pa_nil))))) pss_nil)), ?_⟩
    obtain ⟨dx, l, nl, mp, ev, tv, sv, nv, as, e1, _⟩ := id hrun
    refine ⟨_, rfl, a, dx, _, rfl, e1, rfl, _, rfl, a, r, v, d, rfl, hrun, hv.dp, _, rfl, ?_⟩
    cases hb : isMomB d r.ms.length with
    | true => exact iteF (k hb)
    | false =>
      refine iteT ?_
      refine ⟨_, rfl, rfl, rfl, fun x hx => ⟨x, v, rfl, upd_same, fun d' hd hne => ⟨rfl, x, KC K "NoMoment", some d', rfl, upd_same, fr0_none hx, raises_own T.s_NoMoment T.y_NoMoment, .inr ⟨d', [("moment", v)], rfl, hne, (by rw [upd_ne hne]; exact upd_same), ?_⟩⟩⟩⟩
      exact kx hb d' _ (raised_stp ht hx (upd_free hd hne) hne) upd_same
/-- few notes, few epochs -/
structure RunFew (r : RnD) : Prop where
  nt : r.notes.length < 100000
  mo : ∀ m ∈ r.ms, MoFew m 100000
/-- asked at a moment: what R tells; refused at what is none -/
def spAt (K : PySem.W.Frag) (G : Tb) (R : RnD → Nat → Hp → V → Hp → Prop) : Sp := fun vs H Q E => ∃ (a : Addr) (r : RnD) (v : V) (d : PyData), vs = [.ref a, v] ∧ RunH K H a r ∧ RunFew r ∧ Vd K H v d ∧ Tbs G H ∧
  (∀ i : Nat, d = .int i → i < r.ms.length → ∀ u H', R r i H u H' → Q u H') ∧ (isMomB d r.ms.length = false → NoMom K G v H E)
theorem sc_Run_said_by : FnScope ["self", "moment", "done", "value"] ["self", "moment"] (defScope s_Run_said_by) := ⟨rfl, rfl, rfl, by decide +kernel, rfl, by decide +kernel, by decide +kernel⟩
abbrev RSaid (K : PySem.W.Frag) (G : Tb) : RnD → Nat → Hp → V → Hp → Prop := fun r i H u H' => Stp G [] H H' ∧ Vd K H' u (.tuple (saidBy r.notes i))
theorem ok_said_by (F : Fm K "Run" "said_by" s_Run_said_by f fd) (hc : fd.code = .ref c0) (TB : TabB base mg c0 P0) (hP : P0 ∈ G.gp) (hl : ∀ p ∈ G.lt, p.1 ≠ P0) (T : Tx K mg) (U_Run__check_moment : UMeth P w K mg base (L2.CX P w) (RC K) "_check_moment" 3 ["self", "moment"] (spCheckMoment K G)) : FnOk P w K mg base (L2.CX P w) 4 f fd ["self", "moment"] (spAt K G (RSaid K G)) := by
  refine okC F hc sc_Run_said_by (fun vs H Q E h => ?_) (fun A outer s H vs Q E hr h => ?_)
  · obtain ⟨_, _, _, _, rfl, _⟩ := h
    rfl
  · obtain ⟨a, r, v, d, rfl, hrun, few, hv, ht, k, kx⟩ := h
    have hnl := few.nt
    refine ⟨_, (pss_cons (ps_expr (pe_um (pv 0) T.K_Run U_Run__check_moment hr (by first | decide | omega) (takes_of rfl rfl rfl rfl) (pa_cons (pv 1) pa_nil)))
      (pss_one (ps_ret (GX.pe_tupG (own := [("done", 2), ("value", 3)]) (tt := _) (g := (gTup K 2 (gCons (gName 2) (gCons (gName 3) gNil)))) (k := 0) (hr.mono (by first | decide | omega)) (by rfl) T.n_tuple TB rfl sc_Run_said_by.nd (blkOk_by (N := ["self", "moment", "done", "value"]) (sc := defScope s_Run_said_by) (by decide +kernel)) (pi_list (pe_fld (pv 0) rfl)) (fun _ _ _ _ _ _ _ hr => (pg_tup rfl (pgs_cons (pg_name (i := 2) sc_Run_said_by.nd rfl (Or.inl rfl) (hf := .inr rfl)) (pgs_cons (pg_name (i := 3) sc_Run_said_by.nd rfl (Or.inl rfl) (hf := .inr rfl)) pgs_nil)))) (fun _ _ _ _ _ _ _ hr => (pts_one (pt_cmpR op_le (pv 2) (pv 1) (nomark _)))) (fun _ _ _ _ _ _ _ hr => (pv 3)))))), ?_⟩
    obtain ⟨dx, l, nl, mp, ev, tv, sv, nv, as, e1, e2, h2, e3, h3, _⟩ := id hrun
    refine ⟨_, rfl, a, dx, _, rfl, e1, rfl, _, rfl, a, r, v, d, rfl, hrun, hv, ht, fun hb => ?_, kx⟩
    obtain ⟨i, rfl, hi⟩ := isMomB_true hb
    have k := k i rfl hi
    have hvd := hv.dp
    cases hvd
    refine ⟨_, rfl, a, RC K, dx, _, _, rfl, e1, T.K_Run, T.a_Run__notes, rfl, nl, rfl, ⟨_, SqL.of e3⟩, ht.g _ hP, fun H2 hT => ?_⟩
    have S2 : Stp G [] H H2 := .tab ht hP hl hT
    have hlen2 : nv.length = r.notes.length := by rw [h3.len, List.length_map]
    refine gx_it (walk_list (xs := nv)) (fun j b H' => Stp G [] H H' ∧ Vds K H' b (saidBy (r.notes.take j) i)) ⟨S2, .nil⟩ (fun j _ H' _ h => SqL.of (h.1.k _ _ e3 (by simp) fun _ z => by cases z)) (fun j x b H3 H4 hi h hy => ?_) (fun b H' h => ?_)
    · obtain ⟨rfl, hx⟩ := hy
      obtain ⟨dd, hdd, vd⟩ := h3.at hx
      have hpi : j < r.notes.length := by rw [← hlen2]; exact hi
      rw [List.getElem?_map, List.getElem?_eq_getElem hpi] at hdd
      have edd : ntD r.notes[j] = dd := Option.some.inj hdd
      subst edd
      obtain ⟨pa, u, rfl, qp, hu⟩ := (vd.ext h.1.k).note
      have hft : saidBy (r.notes.take (j + 1)) i = saidBy (r.notes.take j) i ++ (if decide ((r.notes[j].1 : Int) ≤ i) = true then [r.notes[j].2] else []) := by
        unfold saidBy
        rw [filter_take (List.getElem?_eq_getElem hpi), List.map_append]
        congr 1
        cases decide ((r.notes[j].1 : Int) ≤ i) <;> rfl
      refine ⟨pa, _, rfl, qp, rfl, _, _, rfl, _, _, rfl, rfl, rfl, ?_⟩
      refine ⟨_, rfl, _, rfl, _, _, rfl, rfl, _, rfl, ?_⟩
      cases hd : decide ((r.notes[j].1 : Int) ≤ i) with
      | true =>
        refine iteT ?_
        refine ⟨_, rfl, ?_, h.1, ?_⟩
        · rw [h.2.len]
          refine Nat.lt_of_le_of_lt (?_ : _ ≤ r.notes.length) (Nat.lt_of_lt_of_le hnl (by decide))
          unfold saidBy
          rw [List.length_map]
          exact Nat.le_trans (List.length_filter_le _ _) (List.length_take_le' _ _)
        · rw [hft, hd]
          exact h.2.snoc hu
      | false =>
        refine iteF ⟨h.1, ?_⟩
        rw [hft, hd]
        show Vds K _ b (_ ++ [])
        rw [List.append_nil]
        exact h.2
    · intro p o hp ho
      refine k _ _ ⟨h.1.snew hp, ?_⟩
      have h2 := h.2
      rw [List.take_of_length_le (by rw [hlen2]; exact Nat.le_refl _)] at h2
      exact .tup (.inl (.inr ⟨o, upd_same⟩)) (h2.ext (.new hp))
theorem sc_Run_said : FnScope ["self"] ["self"] (defScope s_Run_said) := ⟨rfl, rfl, rfl, by decide +kernel, rfl, by decide +kernel, by decide +kernel⟩
def spSaid (K : PySem.W.Frag) (G : Tb) : Sp := fun vs H Q _ => ∃ (a : Addr) (r : RnD), vs = [.ref a] ∧ RunH K H a r ∧ RunFew r ∧ r.ms.length = r.steps.length + 1 ∧ Tbs G H ∧ ∀ v H', Stp G [] H H' → Vd K H' v (.tuple (saidBy r.notes r.steps.length)) → Q v H'
theorem ok_said (F : Fm K "Run" "said" s_Run_said f fd) (T : Tx K mg) (U_Run_said_by : UMeth P w K mg base (L2.CX P w) (RC K) "said_by" 4 ["self", "moment"] (spAt K G (RSaid K G))) : FnOk P w K mg base (L2.CX P w) 5 f fd ["self"] (spSaid K G) := by
  refine F.ok sc_Run_said (fun vs H Q E h => ?_) (fun cdv A outer s H vs Q E hr h => ?_)
  · obtain ⟨_, _, rfl, _⟩ := h
    rfl
  · obtain ⟨a, r, rfl, hrun, few, hms, ht, k⟩ := h
    refine ⟨_, PSs.nox (pss_one (ps_ret (pe_um' (pv 0) T.K_Run U_Run_said_by hr (by first | decide | omega) (pa_cons (pe_callB call_len (by rfl) T.n_len (by decide +kernel) (pa_cons (pe_fld (pv 0) rfl) pa_nil)) pa_nil)))), ?_⟩
    obtain ⟨dx, l, nl, mp, ev, tv, sv, nv, as, e1, e2, h2, _⟩ := id hrun
    have hl : sv.length = r.steps.length := by rw [h2.len, List.length_map]
    refine ⟨_, rfl, a, dx, _, rfl, e1, rfl, _, rfl, a, RC K, dx, _, _, rfl, e1, T.K_Run, T.a_Run__steps, rfl, _, _, rfl, .inl ⟨_, SqL.of e2, rfl⟩, ?_⟩
    rw [hl]
    refine ⟨a, r, .int (r.steps.length : Nat), .int (r.steps.length : Nat), rfl, hrun, few, ⟨.int _, rfl⟩, ht, fun i e hi u H' hR => ?_, fun hb => ?_⟩
    · have e' : r.steps.length = i := Int.ofNat.inj (PyData.int.inj e)
      subst e'
      exact k u H' hR.1 hR.2
    · rw [isMomB_nat, hms] at hb
      exact absurd (Nat.lt_succ_self _) (of_decide_eq_false hb)
end
end K10

namespace K10
open PySem PySem.Spec PyProof.Rows L2 XV XL UU CC FW GX GxR
section
variable {P : Program} {w : World} {K : PySem.W.Frag} {mg : Str → Option Value} {base : Heap} {f c0 P0 : Addr} {fd : FuncData} {G : Tb}
abbrev UAt (P : Program) (w : World) (K : PySem.W.Frag) (mg : Str → Option Value) (base : Heap) (G : Tb) (x : Str) (n : Nat) (R : RnD → Nat → Hp → V → Hp → Prop) : Prop := UMeth P w K mg base (L2.CX P w) (RC K) x n ["self", "moment"] (spAt K G R)
theorem sc_Run__moment : FnScope ["self", "moment"] ["self", "moment"] (defScope s_Run__moment) := ⟨rfl, rfl, rfl, by decide +kernel, rfl, by decide +kernel, by decide +kernel⟩
abbrev RMom (K : PySem.W.Frag) : RnD → Nat → Hp → V → Hp → Prop := fun r i H u H' => H' = H ∧ ∃ b m, u = .ref b ∧ r.ms[i]? = some m ∧ MomAt K (MC K) H b m
theorem ok_moment (F : Fm K "Run" "_moment" s_Run__moment f fd) (T : Tx K mg) (U_Run__check_moment : UMeth P w K mg base (L2.CX P w) (RC K) "_check_moment" 3 ["self", "moment"] (spCheckMoment K G)) : FnOk P w K mg base (L2.CX P w) 4 f fd ["self", "moment"] (spAt K G (RMom K)) := by
  refine F.ok sc_Run__moment (fun vs H Q E h => ?_) (fun cdv A outer s H vs Q E hr h => ?_)
  · obtain ⟨_, _, _, _, rfl, _⟩ := h
    rfl
  · obtain ⟨a, r, v, d, rfl, hrun, few, hv, ht, k, kx⟩ := h
    refine ⟨_, (pss_cons (ps_expr (pe_um (pv 0) T.K_Run U_Run__check_moment hr (by first | decide | omega) (takes_of rfl rfl rfl rfl) (pa_cons (pv 1) pa_nil)))
      (pss_one (ps_ret (pe_ix ix_list (pe_fld (pv 0) rfl) (pv 1) (fun _ _ => rfl))))), ?_⟩
    obtain ⟨dx, l, nl, mp, ev, tv, sv, nv, as, e1, e2, h2, e3, h3, h4, e5, h5⟩ := id hrun
    refine ⟨_, rfl, a, dx, _, rfl, e1, rfl, _, rfl, a, r, v, d, rfl, hrun, hv, ht, fun hb => ?_, kx⟩
    obtain ⟨i, rfl, hi⟩ := isMomB_true hb
    have k := k i rfl hi
    have hvd := hv.dp
    cases hvd
    have hlen : as.length = r.ms.length := Paired.length h5
    have hi' : i < as.length := by rw [hlen]; exact hi
    have hm : MomAt K (MC K) H as[i] r.ms[i] := Paired.get h5 (List.getElem?_eq_getElem hi') (List.getElem?_eq_getElem hi)
    refine ⟨_, rfl, a, RC K, dx, _, _, rfl, e1, T.K_Run, T.a_Run__moments, rfl, _, rfl, mp, _, (i : Int), .ref as[i], rfl, rfl, SqL.of e5, atI_nat (by rw [List.getElem?_map, List.getElem?_eq_getElem hi'] <;> rfl), ?_⟩
    exact k _ _ ⟨rfl, as[i], r.ms[i], rfl, List.getElem?_eq_getElem hi, hm⟩
end
end K10

namespace K10
open PySem PySem.Spec PyProof.Rows L2 XV XL UU CC FW GX GxR
section
variable {P : Program} {w : World} {K : PySem.W.Frag} {mg : Str → Option Value} {base : Heap} {f c0 P0 : Addr} {fd : FuncData} {G : Tb}
theorem sc_mark : FnScope ["value", "parts", "part"] ["value"] (defScope s_mark) := ⟨rfl, rfl, rfl, by decide +kernel, rfl, by decide +kernel, by decide +kernel⟩
def spMark (K : PySem.W.Frag) (G : Tb) (n : Nat) : Sp := fun vs H Q _ => ∃ (v : V) (d : PyData), vs = [v] ∧ Vd K H v d ∧ Sml n d ∧ (markL d).length < 100000 ∧ Tbs G H ∧ ∀ u H', Stp G [] H H' → Vd K H' u (sgnD d) → Q u H'
def spMarkR (K : PySem.W.Frag) (G : Tb) : Nat → Sp
  | 0 => fun _ _ _ _ => False
  | n + 1 => spMark K G n
theorem ok_mark (F : Fn K "mark" s_mark f fd) (T : Tx K mg) (n : Nat) (U_mark : Use P w K mg base (L2.CX P w) "mark" n ["value"] (spMarkR K G n)) : FnOk P w K mg base (L2.CX P w) (n + 1) f fd ["value"] (spMark K G n) := by
  refine F.ok sc_mark (fun vs H Q E h => ?_) (fun cdv A outer s H vs Q E hr h => ?_)
  · obtain ⟨_, _, rfl, _⟩ := h
    rfl
  · obtain ⟨v, d, rfl, hv, hs, hml, ht, k⟩ := h
    refine ⟨_, PSs.nox (pss_cons (ps_if (pt_val (pe_callB call_isD (by rfl) T.n_isinstance (by decide +kernel) (pa_cons (pv 0) (pa_cons (pe_bltn (v := .ty "tuple") (by rfl) T.n_tuple (by decide +kernel) rfl) pa_nil)))) (pss_cons (ps_set (i := 1) sc_mark.nd rfl (Or.inl rfl) (pe_lst (pa_cons pe_str (pa_cons (pe_callB call_len (by rfl) T.n_len (by decide +kernel) (pa_cons (pv 0) pa_nil)) pa_nil))))
      (pss_cons (ps_for PassesOwn.never rfl (pi_tup (pv 0)) (pg_name (i := 2) sc_mark.nd rfl (Or.inl rfl))
      (pss_one (ps_expr (pe_bm PySem.F.plainAttrs_list PySem.F.slot_list_extend PySem.F.type_list_extend CC.mt_extendT (pv 1) (pa_cons (pe_useL U_mark hr (by first | decide | omega) (by rfl) (pa_cons (pv 2) pa_nil)) pa_nil)))))
      (pss_one (ps_ret (pe_callTy call_tuple_of (by rfl) T.n_tuple (by decide +kernel) (pa_cons (pv 1) pa_nil)))))) pss_nil)
      (pss_cons (ps_if (pt_val (pe_callB call_isD (by rfl) T.n_isinstance (by decide +kernel) (pa_cons (pv 0) (pa_cons (pe_bltn (v := .ty "bool") (by rfl) T.n_bool (by decide +kernel) rfl) pa_nil)))) (pss_one (ps_ret (pe_tup (pa_cons pe_str (pa_cons (pe_callTy call_int1 (by rfl) T.n_int (by decide +kernel) (pa_cons (pv 0) pa_nil)) pa_nil))))) pss_nil)
      (pss_cons (ps_if (pt_val (pe_callB call_isD (by rfl) T.n_isinstance (by decide +kernel) (pa_cons (pv 0) (pa_cons (pe_bltn (v := .ty "int") (by rfl) T.n_int (by decide +kernel) rfl) pa_nil)))) (pss_one (ps_ret (pe_tup (pa_cons pe_str (pa_cons (pv 0) pa_nil))))) pss_nil)
      (pss_cons (ps_if (pt_val (pe_callB call_isD (by rfl) T.n_isinstance (by decide +kernel) (pa_cons (pv 0) (pa_cons (pe_bltn (v := .ty "str") (by rfl) T.n_str (by decide +kernel) rfl) pa_nil)))) (pss_one (ps_ret (pe_tup (pa_cons pe_str (pa_cons (pv 0) pa_nil))))) pss_nil)
      (pss_one (ps_ret (pe_tup (pa_cons pe_str pa_nil)))))))), ?_⟩
    refine ⟨_, rfl, _, _, d, rfl, hv.dp, kn_tup d, _, rfl, ?_⟩
    rw [isB_tup]
    have two : ∀ (x : Str) (y : V) (e : PyData) (p : Addr), Vd K H y e → H p = none → markL d = [.str x, e] → Q (.ref p) (upd H p (.tup [V.str x, y])) := fun x y e p hy hp he => by
      refine k _ _ (.new ht hp) ?_
      unfold sgnD
      rw [he]
      exact .tup (.of upd_same) (.cons ⟨.str _, rfl⟩ (.cons (hy.ext (.new hp)) .nil))
    cases hk : kT d with
    | true =>
      refine iteT ?_
      cases d with
      | tuple ds =>
        obtain ⟨a, vs, rfl, q, hvs⟩ := hv.untup
        have hlen := hvs.len
        have hml' : (marksL ds).length + 2 < 100000 := hml
        refine ⟨_, rfl, _, _, rfl, .inr ⟨_, q, rfl⟩, by show 2 ≤ sizeLine; decide, fun l hl => ?_⟩
        have S1 := FW.Stp.new (fp := []) (o := (.lst [V.str "tuple", V.int (vs.length : Nat)])) ht hl
        have e1 : L2.upd H l (.lst [V.str "tuple", V.int (vs.length : Nat)]) l = some (.lst [V.str "tuple", V.int (vs.length : Nat)]) := L2.upd_same
        generalize L2.upd H l (.lst [V.str "tuple", V.int (vs.length : Nat)]) = H1 at *
        refine ⟨_, rfl, a, rfl, ⟨_, sqT_ext S1.k.ext q⟩, ?_⟩
        refine for_it (walk_tup (xs := vs)) (fun i σ H' => (∃ x, σ = [some (.ref a), some (.ref l), x]) ∧ Stp G [] H H' ∧ ∃ acc, H' l = some (.lst acc) ∧ Vds K H' acc (.str "tuple" :: .int (ds.length : Nat) :: marksL (ds.take i)))
          ⟨⟨_, rfl⟩, S1, _, e1, .cons ⟨.str _, rfl⟩ (.cons (by rw [hlen]; exact ⟨.int _, rfl⟩) .nil)⟩ (fun i σ H' _ h => sqT_ext h.2.1.k.ext q) (fun i x σ H3 H4 hi h hy => ?_) (fun σ H' h => ?_)
        · obtain ⟨⟨x0, rfl⟩, S3, acc, ea, hacc⟩ := h
          obtain ⟨rfl, hx⟩ := hy
          obtain ⟨d1, hd1, vd1⟩ := hvs.at hx
          cases n with
          | zero => exact absurd hs (by intro z; exact z)
          | succ m =>
            have htk : marksL (ds.take (i + 1)) = marksL (ds.take i) ++ markL d1 := by rw [take_succ' hd1, marksL_snoc]
            have hle := marksL_take (i + 1) ds
            rw [htk, List.length_append] at hle
            have hlm : (marksL (ds.take i)).length + (markL d1).length ≤ (marksL ds).length := hle
            refine ⟨_, rfl, .inl ⟨rfl, _, SqL.of ea⟩, _, rfl, x, d1, rfl, vd1.ext S3.k, (sml_lenT hs).2 d1 (List.mem_of_getElem? hd1), by omega, S3.t, fun u H5 S5 hu => ?_⟩
            obtain ⟨ub, us, rfl, qu, hus⟩ := Vd.untup hu
            have ea5 := S5.k _ _ ea (by simp) fun _ z => by cases z
            have hal := hacc.len
            have hul := hus.len
            rw [List.length_cons, List.length_cons] at hal
            refine ⟨l, ub, acc, us, rfl, rfl, ea5, qu, Nat.le_of_lt (Nat.lt_of_lt_of_le (show acc.length + us.length < 100000 by omega) (by decide)), ?_⟩
            have S6 : Stp G [l] H5 (upd H5 l (.lst (acc ++ us))) := .put S5.t (by simp) ea5 notc_lst
            refine ⟨⟨_, rfl⟩, Stp.fresh (S3.trans S5).k S6 (fun b hb => by rw [List.mem_singleton.mp hb]; exact fr0_none hl), _, upd_same, ?_⟩
            rw [htk]
            exact Vds.keep (noT_lst ea5) S6.k (vds_app (hacc.ext S5.k) hus)
        · obtain ⟨⟨x0, rfl⟩, S3, acc, ea, hacc⟩ := h
          rw [List.take_of_length_le (by rw [hlen]; exact Nat.le_refl _)] at hacc
          refine ⟨_, rfl, l, acc, rfl, .inl ⟨SqL.of ea, fun t1 ht1 => ?_⟩⟩
          exact k _ _ (S3.snew ht1) (.tup (.of upd_same) (hacc.ext (.new ht1)))
      | _ => cases hk
    | false =>
      refine iteF ?_
      refine ⟨_, rfl, _, _, d, rfl, hv.dp, kn_bool d, _, rfl, ?_⟩
      rw [isB_bool]
      cases hkb : kB d with
      | true =>
        refine iteT ?_
        obtain ⟨b, rfl⟩ : ∃ b, d = .bool b := by cases d <;> first | exact ⟨_, rfl⟩ | cases hkb
        have e := hv.dp
        cases e
        refine ⟨_, rfl, .inr ⟨b, rfl, by show 2 ≤ sizeLine; decide, fun p hp => ?_⟩⟩
        exact two "truth" _ (.int (if b = true then 1 else 0)) p ⟨.int _, rfl⟩ hp rfl
      | false =>
        refine iteF ?_
        refine ⟨_, rfl, _, _, d, rfl, hv.dp, kn_int d, _, rfl, ?_⟩
        rw [isB_int]
        cases hki : kI d with
        | true =>
          refine iteT ?_
          obtain ⟨i, rfl⟩ : ∃ i, d = .int i := by cases d <;> first | exact ⟨_, rfl⟩ | (cases hki; done) | (cases hkb; done)
          have e := hv.dp
          cases e
          exact ⟨_, rfl, by show 2 ≤ sizeLine; decide, fun p hp => two "integer" _ (.int i) p ⟨.int _, rfl⟩ hp rfl⟩
        | false =>
          refine iteF ?_
          refine ⟨_, rfl, _, _, d, rfl, hv.dp, (by cases d <;> kernel_rfl), _, rfl, ?_⟩
          cases d with
          | str x =>
            have e := hv.dp
            cases e
            rw [show isB (tyS (.str x)) ["str"] = true from by kernel_rfl]
            exact iteT ⟨_, rfl, by show 2 ≤ sizeLine; decide, fun p hp => two "string" _ (.str x) p ⟨.str _, rfl⟩ hp rfl⟩
          | none =>
            rw [show isB (tyS .none) ["str"] = false from by kernel_rfl]
            refine iteF ⟨by show 1 ≤ sizeLine; decide, fun p hp => k _ _ (.new ht hp) (.tup (.of upd_same) (.cons ⟨.str _, rfl⟩ .nil))⟩
          | bool b => cases hkb
          | int i => cases hki
          | tuple ds => cases hk
          | list ds => have := hv.val; cases this
          | dict ds => have := hv.val; cases this
theorem sc_way : FnScope ["count", "part", "name", "value"] ["count", "part", "name", "value"] (defScope s_way) := ⟨rfl, rfl, rfl, by decide +kernel, rfl, by decide +kernel, by decide +kernel⟩
structure MkOk (d : PyData) : Prop where
  s : Sml 4 d
  l : (markL d).length < 100000
theorem mkOk_of {d : PyData} (h : VOk d) : MkOk d := ⟨h.s, Nat.lt_trans h.l (by decide)⟩
def spWay (K : PySem.W.Frag) (G : Tb) : Sp := fun vs H Q _ => ∃ (y : Wy) (v : V), vs = [.int (y.n : Nat), .int (y.j : Nat), .str y.nm, v] ∧ Vd K H v y.v ∧ MkOk y.v ∧ Tbs G H ∧ ∀ u H', Stp G [] H H' → Vd K H' u y.data → Q u H'
theorem ok_way (F : Fn K "_way" s_way f fd) (T : Tx K mg) (U_mark : Use P w K mg base (L2.CX P w) "mark" 5 ["value"] (spMark K G 4)) : FnOk P w K mg base (L2.CX P w) 6 f fd ["count", "part", "name", "value"] (spWay K G) := by
  refine F.ok sc_way (fun vs H Q E h => ?_) (fun cdv A outer s H vs Q E hr h => ?_)
  · obtain ⟨_, _, rfl, _⟩ := h
    rfl
  · obtain ⟨y, v, rfl, hv, hm, ht, k⟩ := h
    refine ⟨_, PSs.nox (pss_one (ps_ret (pe_tup (pa_cons (pe_tup (pa_cons (pv 0) (pa_cons (pv 1) pa_nil))) (pa_cons (pe_tup (pa_cons (pv 2) (pa_cons (pv 3) pa_nil))) (pa_cons (pe_useL U_mark hr (by first | decide | omega) (by rfl) (pa_cons (pv 3) pa_nil)) pa_nil)))))), ?_⟩
    refine ⟨_, rfl, _, rfl, by show 2 ≤ sizeLine; decide, fun p1 hp1 => ?_⟩
    have S1 := FW.Stp.new (fp := []) (o := (.tup [V.int (y.n : Nat), V.int (y.j : Nat)])) ht hp1
    have e1 : L2.upd H p1 (.tup [V.int (y.n : Nat), V.int (y.j : Nat)]) p1 = some (.tup [V.int (y.n : Nat), V.int (y.j : Nat)]) := L2.upd_same
    generalize L2.upd H p1 (.tup [V.int (y.n : Nat), V.int (y.j : Nat)]) = H1 at *
    refine ⟨_, rfl, _, rfl, by show 2 ≤ sizeLine; decide, fun p2 hp2 => ?_⟩
    have S2 := FW.Stp.new (fp := []) (o := (.tup [V.str y.nm, v])) S1.t hp2
    have e2 : L2.upd H1 p2 (.tup [V.str y.nm, v]) p2 = some (.tup [V.str y.nm, v]) := L2.upd_same
    generalize L2.upd H1 p2 (.tup [V.str y.nm, v]) = H2 at *
    have S02 := S1.trans S2
    refine ⟨_, rfl, v, y.v, rfl, hv.ext S02.k, hm.s, hm.l, S2.t, fun u H3 S3 hu => ?_⟩
    refine ⟨by show 3 ≤ sizeLine; decide, fun p4 hp4 => ?_⟩
    have S4 := FW.Stp.new (fp := []) (o := (.tup [V.ref p1, V.ref p2, u])) S3.t hp4
    have e4 : L2.upd H3 p4 (.tup [V.ref p1, V.ref p2, u]) p4 = some (.tup [V.ref p1, V.ref p2, u]) := L2.upd_same
    generalize L2.upd H3 p4 (.tup [V.ref p1, V.ref p2, u]) = H4 at *
    have S24 := S3.trans S4
    have S14 := S2.trans S24
    have S04 := S1.trans S14
    exact k _ H4 S04 (.tup (.of e4) (.cons (.tup (.of (S14.k _ _ e1 (by simp) fun _ z => by cases z)) (.cons ⟨.int _, rfl⟩ (.cons ⟨.int _, rfl⟩ .nil)))
      (.cons (.tup (.of (S24.k _ _ e2 (by simp) fun _ z => by cases z)) (.cons ⟨.str _, rfl⟩ (.cons (hv.ext S04.k) .nil))) (.cons (hu.ext S4.k) .nil))))
theorem sc_torn_parts : FnScope ["value", "worth", "part"] ["value", "worth"] (defScope s_torn_parts) := ⟨rfl, rfl, rfl, by decide +kernel, rfl, by decide +kernel, by decide +kernel⟩
def tornPs (v d : PyData) : List PyData := (tornJ v d).map fun j => .tuple [.int (j : Nat), tornV j v d]
def spTornParts (K : PySem.W.Frag) (G : Tb) : Sp := fun vs H Q _ => ∃ (x y : V) (v d : PyData), vs = [x, y] ∧ Vd K H x v ∧ Vd K H y d ∧ Sml 4 v ∧ Sml 4 d ∧ Tbs G H ∧ ∀ l us H', Stp G [] H H' → H' l = some (.lst us) → Vds K H' us (tornPs v d) → Fr0 H l → Q (.ref l) H'
theorem sIx_all (n : Nat) : HT.sIx n n none = n := rfl
theorem ok_torn_parts (F : Fn K "_torn_parts" s_torn_parts f fd) (T : Tx K mg) : FnOk P w K mg base (L2.CX P w) 1 f fd ["value", "worth"] (spTornParts K G) := by
  refine F.ok sc_torn_parts (fun vs H Q E h => ?_) (fun cdv A outer s H vs Q E hr h => ?_)
  · obtain ⟨_, _, _, _, rfl, _⟩ := h
    rfl
  · obtain ⟨x, y, v, d, rfl, hx, hy, sv, sd, ht, k⟩ := h
    refine ⟨_, PSs.nox (pss_cons (ps_if (PW.pt (pw_or (pt_not (pt_val (pe_callB call_isD (by rfl) T.n_isinstance (by decide +kernel) (pa_cons (pv 0) (pa_cons (pe_bltn (v := .ty "tuple") (by rfl) T.n_tuple (by decide +kernel) rfl) pa_nil))))) (pw_or (pt_not (pt_val (pe_callB call_isD (by rfl) T.n_isinstance (by decide +kernel) (pa_cons (pv 1) (pa_cons (pe_bltn (v := .ty "tuple") (by rfl) T.n_tuple (by decide +kernel) rfl) pa_nil))))) (pw_or1 (pt_cmpR op_ne (pe_callB call_len (by rfl) T.n_len (by decide +kernel) (pa_cons (pv 0) pa_nil)) (pe_callB call_len (by rfl) T.n_len (by decide +kernel) (pa_cons (pv 1) pa_nil)) (nomark _)))))) (pss_one (ps_ret (pe_lst pa_nil))) pss_nil)
      (pss_one (ps_ret (pe_lc (own := [("part", 2)]) (tt := tYes) rfl sc_torn_parts.nd (pi_range2 (by rfl) T.n_range (pa_cons pe_int (pa_cons (pe_callB call_len (by rfl) T.n_len (by decide +kernel) (pa_cons (pv 1) pa_nil)) pa_nil))) (blkOk_by (N := ["value", "worth", "part"]) (sc := defScope s_torn_parts) (by decide +kernel)) (fun _ _ _ _ _ => (pg_name (i := 2) sc_torn_parts.nd rfl (Or.inl rfl) (hf := .inr rfl))) (fun _ _ _ _ _ => pts_nil) (fun _ _ _ _ _ => (pe_tup (pa_cons (pv 2) (pa_cons (pe_op (CC.op_catAK K rfl) (pe_slice (CC.sl_tupK K rfl) (pv 1) po_none (po_some (pv 2))) (pe_slice (CC.sl_tupK K rfl) (pv 0) (po_some (pv 2)) po_none)) pa_nil)))))))), ?_⟩
    have no : tornPs v d = [] → ∀ l, H l = none → Q (.ref l) (upd H l (.lst [])) := fun e l hl => k l [] _ (.new ht hl) upd_same (by rw [e]; exact .nil) (fr0_none hl)
    refine ⟨_, rfl, _, _, v, rfl, hx.dp, kn_tup v, _, rfl, ?_⟩
    rw [isB_tup]
    cases hk : kT v with
    | false =>
      refine iteT ⟨by show 0 ≤ sizeLine; decide, fun l hl => no ?_ l hl⟩
      cases v with
      | tuple vs => cases hk
      | _ => rfl
    | true =>
      obtain ⟨vs, rfl⟩ : ∃ vs, v = .tuple vs := by cases v <;> first | exact ⟨_, rfl⟩ | cases hk
      refine iteF ⟨_, rfl, _, _, d, rfl, hy.dp, kn_tup d, _, rfl, ?_⟩
      rw [isB_tup]
      cases hk2 : kT d with
      | false =>
        refine iteT ⟨by show 0 ≤ sizeLine; decide, fun l hl => no ?_ l hl⟩
        cases d with
        | tuple ds => cases hk2
        | _ => rfl
      | true =>
        obtain ⟨ds, rfl⟩ : ∃ ds, d = .tuple ds := by cases d <;> first | exact ⟨_, rfl⟩ | cases hk2
        obtain ⟨a, xs, rfl, qx, hxs⟩ := hx.untup
        obtain ⟨b, ys, rfl, qy, hys⟩ := hy.untup
        have l1 := hxs.len
        have l2 := hys.len
        refine iteF ⟨_, rfl, _, _, rfl, .inr ⟨_, qx, rfl⟩, _, rfl, _, _, rfl, .inr ⟨_, qy, rfl⟩, rfl, _, rfl, ?_⟩
        by_cases hl : vs.length = ds.length
        · rw [show (!decide (V.int (xs.length : Nat) = V.int (ys.length : Nat))) = false by rw [l1, l2, hl]; simp]
          refine iteF ?_
          have hps : tornPs (.tuple vs) (.tuple ds) = (List.range' 1 (ds.length - 1)).map fun j => .tuple [.int (j : Nat), .tuple (ds.take j ++ vs.drop j)] := by
            show (if vs.length = ds.length then List.range' 1 (ds.length - 1) else []).map _ = _
            rw [if_pos hl] <;> rfl
          have hds := (sml_lenT sd).1
          refine ⟨_, rfl, _, _, rfl, .inr ⟨_, qy, rfl⟩, 1, (ys.length : Nat), rfl, ⟨by decide, by decide, by omega, by omega⟩, fun D hD => ?_⟩
          obtain ⟨HD, hHD⟩ : ∃ X, X = upd H D (.lst []) := ⟨_, rfl⟩
          have SD : Stp G [] H HD := by rw [hHD]; exact .new ht hD
          have eD : HD D = some (.lst []) := by rw [hHD]; exact upd_same
          have ntD0 := noT_lst eD
          refine lc_it (walk_range (lo := 1)) (fun i H' => Stp G [D] HD H' ∧ ∃ acc, H' D = some (.lst acc) ∧ acc.length = i ∧ Vds K H' acc ((tornPs (.tuple vs) (.tuple ds)).take i))
            (by rw [← hHD]; exact ⟨.refl SD.t, [], eD, rfl, .nil⟩) (fun i H' _ h => True.intro) (fun i v H4 H5 hi h hyy => ?_) (fun H4 h => ?_)
          · obtain ⟨S4, acc, ea, hal, hacc⟩ := h
            obtain ⟨rfl, rfl⟩ := hyy
            have hi' : i < ds.length - 1 := by omega
            refine ⟨rfl, iteT (B := Stp G [D] HD H5 ∧ ∃ acc, H5 D = some (.lst acc) ∧ acc.length = i + 1 ∧ Vds K H5 acc ((tornPs (.tuple vs) (.tuple ds)).take (i + 1))) ?_⟩
            have hyi : HT.sIx ys.length ys.length (some (1 + (i : Int))) = i + 1 := by
              rw [show (1 + (i : Int)) = ((i + 1 : Nat) : Int) from by omega, HT.sIx_nat]
              omega
            have hxi : HT.sIx xs.length 0 (some (1 + (i : Int))) = i + 1 := by
              rw [show (1 + (i : Int)) = ((i + 1 : Nat) : Int) from by omega, HT.sIx_nat]
              omega
            have c1 : cutV ys none (some (1 + (i : Int))) = ys.take (i + 1) := by
              unfold cutV
              rw [hyi, HT.sIx_none, List.drop_zero, Nat.sub_zero]
            have c2 : cutV xs (some (1 + (i : Int))) none = xs.drop (i + 1) := by
              unfold cutV
              rw [hxi, HT.sIx_none, List.take_of_length_le (by rw [List.length_drop]; exact Nat.le_refl _)]
            have qx4 := keep_sqT ntD0 S4.k (sqT_ext SD.k.ext qx)
            have qy4 := keep_sqT ntD0 S4.k (sqT_ext SD.k.ext qy)
            have vx4 := (hxs.ext SD.k).keep ntD0 S4.k
            have vy4 := (hys.ext SD.k).keep ntD0 S4.k
            refine ⟨_, rfl, _, rfl, _, rfl, _, rfl, b, ys, rfl, qy4, fun z => ?_, fun p1 hp1 => ?_⟩
            · rw [hyi] at z
              omega
            rw [c1]
            have S6 := FW.Stp.new (fp := []) (o := (.tup (ys.take (i + 1)))) S4.t hp1
            have e6 : L2.upd H5 p1 (.tup (ys.take (i + 1))) p1 = some (.tup (ys.take (i + 1))) := L2.upd_same
            generalize L2.upd H5 p1 (.tup (ys.take (i + 1))) = H6 at *
            refine ⟨_, rfl, _, rfl, _, rfl, a, xs, rfl, sqT_ext S6.k.ext qx4, fun z => ?_, fun p2 hp2 => ?_⟩
            · rw [hxi] at z
              omega
            rw [c2]
            have S7 := FW.Stp.new (fp := []) (o := (.tup (xs.drop (i + 1)))) S6.t hp2
            have e7 : L2.upd H6 p2 (.tup (xs.drop (i + 1))) p2 = some (.tup (xs.drop (i + 1))) := L2.upd_same
            generalize L2.upd H6 p2 (.tup (xs.drop (i + 1))) = H7 at *
            have n1 : ys.take (i + 1) ≠ [] := fun z => by
              have := congrArg List.length z
              rw [List.length_take, List.length_nil] at this
              omega
            have n2 : xs.drop (i + 1) ≠ [] := fun z => by
              have := congrArg List.length z
              rw [List.length_drop, List.length_nil] at this
              omega
            refine ⟨p1, p2, _, _, rfl, rfl, .of (S7.k _ _ e6 (by simp) fun _ z => by cases z), .of e7, ?_, fun z => (n1 z).elim, fun _ z => (n2 z).elim, fun _ _ p3 hp3 => ?_⟩
            · rw [List.length_take, List.length_drop]
              exact Nat.le_trans (show _ ≤ 200000 by omega) (by decide)
            have S8 := FW.Stp.new (fp := []) (o := (.tup (ys.take (i + 1) ++ xs.drop (i + 1)))) S7.t hp3
            have e8 : L2.upd H7 p3 (.tup (ys.take (i + 1) ++ xs.drop (i + 1))) p3 = some (.tup (ys.take (i + 1) ++ xs.drop (i + 1))) := L2.upd_same
            generalize L2.upd H7 p3 (.tup (ys.take (i + 1) ++ xs.drop (i + 1))) = H8 at *
            refine ⟨by show 2 ≤ sizeLine; decide, fun p4 hp4 => ?_⟩
            have S9 := FW.Stp.new (fp := []) (o := (.tup [V.int (1 + (i : Int)), V.ref p3])) S8.t hp4
            have e9 : L2.upd H8 p4 (.tup [V.int (1 + (i : Int)), V.ref p3]) p4 = some (.tup [V.int (1 + (i : Int)), V.ref p3]) := L2.upd_same
            generalize L2.upd H8 p4 (.tup [V.int (1 + (i : Int)), V.ref p3]) = H9 at *
            have S59 := S6.trans (S7.trans (S8.trans S9))
            have ea9 := S59.k _ _ ea (by simp) fun _ z => by cases z
            refine ⟨acc, ea9, Nat.lt_of_lt_of_le (show acc.length < 100000 by omega) (by decide), ?_⟩
            have S10 : Stp G [D] H9 (upd H9 D (.lst (acc ++ [V.ref p4]))) := .put S9.t (by simp) ea9 notc_lst
            refine ⟨S4.trans (S59.up.trans S10), _, upd_same, by rw [List.length_append, hal] <;> rfl, ?_⟩
            have hset : (tornPs (.tuple vs) (.tuple ds))[i]? = some (.tuple [.int (1 + (i : Int)), .tuple (ds.take (i + 1) ++ vs.drop (i + 1))]) := by
              rw [hps, List.getElem?_map, List.getElem?_range' hi']
              show some (PyData.tuple [.int ((1 + 1 * i : Nat) : Int), .tuple (ds.take (1 + 1 * i) ++ vs.drop (1 + 1 * i))]) = _
              rw [show 1 + 1 * i = i + 1 from by omega, show (1 + (i : Int)) = ((i + 1 : Nat) : Int) from by omega]
            rw [take_succ' hset]
            exact Vds.keep (noT_lst ea9) S10.k ((hacc.ext S59.k).snoc (.tup (.of e9) (.cons ⟨.int _, rfl⟩ (.cons (.tup (.of (S9.k _ _ e8 (by simp) fun _ z => by cases z)) (vds_app (vds_take _ (vy4.ext S59.k)) (vds_drop _ (vx4.ext S59.k)))) .nil))))
          · obtain ⟨S4, acc, ea, hal, hacc⟩ := h
            rw [List.take_of_length_le (by rw [hps, List.length_map, List.length_range']; omega)] at hacc
            exact k D acc H4 (Stp.hide SD.k S4 (fr0_none hD)) ea hacc (fr0_none hD)
        · rw [show (!decide (V.int (xs.length : Nat) = V.int (ys.length : Nat))) = true by
            rw [decide_eq_false (fun z => hl (by have := Int.ofNat.inj (V.int.inj z); omega))] <;> rfl]
          refine iteT ⟨by show 0 ≤ sizeLine; decide, fun l hl' => no ?_ l hl'⟩
          show (if vs.length = ds.length then List.range' 1 (ds.length - 1) else []).map _ = []
          rw [if_neg hl] <;> rfl
theorem sc_ways_of_page : FnScope ["whole", "epoch", "torn", "count", "_", "name", "value", "ways", "page", "worth", "part", "mixed"] ["whole", "epoch", "torn"] (defScope s_ways_of_page) := ⟨rfl, rfl, rfl, by decide +kernel, rfl, by decide +kernel, by decide +kernel⟩
theorem way_parts {H : Hp} {u : V} {y : Wy} (h : Vd K H u y.data) : ∃ (a b1 b2 : Addr) (mk v : V), u = .ref a ∧ SqT K H a [.ref b1, .ref b2, mk] ∧ SqT K H b1 [.int (y.n : Nat), .int (y.j : Nat)] ∧ SqT K H b2 [.str y.nm, v] ∧ Vd K H v y.v ∧ Vd K H mk (sgnD y.v) := by
  obtain ⟨a, us, rfl, q, hus⟩ := Vd.untup (ds := [kpD y.key, y.pg, sgnD y.v]) h
  cases hus with
  | cons h1 hus =>
    cases hus with
    | cons h2 hus =>
      cases hus with
      | cons h3 hus =>
        cases hus with
        | nil =>
          obtain ⟨b1, vs1, rfl, q1, hv1⟩ := Vd.untup (ds := [.int (y.n : Nat), .int (y.j : Nat)]) h1
          obtain ⟨b2, vs2, rfl, q2, hv2⟩ := Vd.untup (ds := [.str y.nm, y.v]) h2
          cases hv1 with
          | cons g1 hv1 =>
            cases hv1 with
            | cons g2 hv1 =>
              cases hv1 with
              | nil =>
                cases hv2 with
                | cons g3 hv2 =>
                  cases hv2 with
                  | cons g4 hv2 =>
                    cases hv2 with
                    | nil =>
                      have e1 := g1.dp
                      have e2 := g2.dp
                      have e3 := g3.dp
                      cases e1
                      cases e2
                      cases e3
                      exact ⟨a, b1, b2, _, _, rfl, q, q1, q2, g4, h3⟩
/-- all the values of an epoch may stand there -/
structure EpOk (ep : Pgs) (v0 : PyData) : Prop where
  v : VOk v0
  e : ∀ p ∈ ep, VOk p.2
theorem EpOk.last {ep : Pgs} {v0 : PyData} (h : EpOk ep v0) (nm : Str) (i : Nat) : VOk (lastV v0 (pageVals nm (ep.take i))) := by
  rcases lastV_mem v0 (pageVals nm (ep.take i)) with e | e
  · rw [e]; exact h.v
  · exact h.e _ (List.mem_of_mem_take (pageVals_mem e))
def spWaysOf (K : PySem.W.Frag) (G : Tb) : Sp := fun vs H Q _ => ∃ (wv ev : V) (ta : Addr) (tn : List Str) (n0 : Nat) (nm : Str) (v0 : PyData) (ep : Pgs), vs = [wv, ev, .ref ta] ∧ Vd K H wv (Wy.data ⟨n0, 0, nm, v0⟩) ∧ Vd K H ev (pgD ep) ∧ SqT K H ta (tn.map V.str) ∧ EpOk ep v0 ∧ (waysFrom (decide (nm ∈ tn)) nm n0 v0 (pageVals nm ep)).length < 1000000 ∧ Tbs G H ∧
  ∀ l us H', Stp G [] H H' → H' l = some (.lst us) → Vds K H' us ((waysFrom (decide (nm ∈ tn)) nm n0 v0 (pageVals nm ep)).map Wy.data) → Fr0 H l → Q (.ref l) H'
theorem ok_ways_of (F : Fn K "_ways_of_page" s_ways_of_page f fd) (T : Tx K mg) (U_way : Use P w K mg base (L2.CX P w) "_way" 6 ["count", "part", "name", "value"] (spWay K G)) (U_torn_parts : Use P w K mg base (L2.CX P w) "_torn_parts" 1 ["value", "worth"] (spTornParts K G)) :
    FnOk P w K mg base (L2.CX P w) 7 f fd ["whole", "epoch", "torn"] (spWaysOf K G) := by
  refine F.ok sc_ways_of_page (fun vs H Q E h => ?_) (fun cdv A outer s H vs Q E hr h => ?_)
  · obtain ⟨_, _, _, _, _, _, _, _, rfl, _⟩ := h
    rfl
  · obtain ⟨wv, ev, ta, tn, n0, nm, v0, ep, rfl, hw, he, qta, eok, hbig, ht, k⟩ := h
    refine ⟨_, PSs.nox (pss_cons (ps_asg (pv 0) (pg_tup rfl (pgs_cons (pg_tup rfl (pgs_cons (pg_name (i := 3) sc_ways_of_page.nd rfl (Or.inr rfl)) (pgs_cons (pg_name (i := 4) sc_ways_of_page.nd rfl (Or.inl rfl)) pgs_nil))) (pgs_cons (pg_tup rfl (pgs_cons (pg_name (i := 5) sc_ways_of_page.nd rfl (Or.inr rfl)) (pgs_cons (pg_name (i := 6) sc_ways_of_page.nd rfl (Or.inl rfl)) pgs_nil))) (pgs_cons (pg_name (i := 4) sc_ways_of_page.nd rfl (Or.inl rfl)) pgs_nil)))))
      (pss_cons (ps_set (i := 7) sc_ways_of_page.nd rfl (Or.inl rfl) (pe_lst (pa_cons (pv 0) pa_nil)))
      (pss_cons (ps_for PassesOwn.never rfl (pi_tup (pv 1)) (pg_tup rfl (pgs_cons (pg_name (i := 8) sc_ways_of_page.nd rfl (Or.inl rfl)) (pgs_cons (pg_name (i := 9) sc_ways_of_page.nd rfl (Or.inl rfl)) pgs_nil)))
      (pss_cons (ps_if (pt_cmpR (op_ne) (pv 8) (pv 5) (nomark _)) (pss_one ps_continue) pss_nil)
      (pss_cons (ps_cut (ps_if (pt_cmpR op_in_seq (pv 5) (pv 2) (by rfl)) (pss_one (ps_expr (pe_bm PySem.F.plainAttrs_list PySem.F.slot_list_extend PySem.F.type_list_extend mt_extend (pv 7) (pa_cons (pe_lc (g := (gTup K 2 (gCons (gName 10) (gCons (gName 11) gNil)))) (own := [("part", 10), ("mixed", 11)]) (tt := tYes) rfl sc_ways_of_page.nd (pi_list (pe_useL U_torn_parts hr (by first | decide | omega) (by rfl) (pa_cons (pv 6) (pa_cons (pv 9) pa_nil)))) (blkOk_by (N := ["whole", "epoch", "torn", "count", "_", "name", "value", "ways", "page", "worth", "part", "mixed"]) (sc := defScope s_ways_of_page) (by decide +kernel)) (fun _ _ _ _ _ => (pg_tup rfl (pgs_cons (pg_name (i := 10) sc_ways_of_page.nd rfl (Or.inl rfl) (hf := .inr rfl)) (pgs_cons (pg_name (i := 11) sc_ways_of_page.nd rfl (Or.inl rfl) (hf := .inr rfl)) pgs_nil)))) (fun _ _ _ _ _ => pts_nil) (fun _ _ _ _ _ => (pe_useL U_way hr (by first | decide | omega) (by rfl) (pa_cons (pv 3) (pa_cons (pv 10) (pa_cons (pv 5) (pa_cons (pv 11) pa_nil))))))) pa_nil)))) pss_nil))
      (pss_cons (ps_aug (i := 3) sc_ways_of_page.nd rfl (Or.inr rfl) pe_int ip_add)
      (pss_cons (ps_set (i := 6) sc_ways_of_page.nd rfl (Or.inl rfl) (pv 9))
      (pss_one (ps_expr (pe_bm PySem.F.plainAttrs_list PySem.F.slot_list_append PySem.F.type_list_append mt_append (pv 7) (pa_cons (pe_useL U_way hr (by first | decide | omega) (by rfl) (pa_cons (pv 3) (pa_cons pe_int (pa_cons (pv 5) (pa_cons (pv 6) pa_nil))))) pa_nil)))))))))
      (pss_one (ps_ret (pv 7)))))), ?_⟩
    obtain ⟨a, b1, b2, mk, vv, rfl, q, q1, q2, hvv, hmk⟩ := way_parts hw
    obtain ⟨ea, es, rfl, qe, hes⟩ := he.untup
    have hel := hes.len
    rw [List.length_map] at hel
    refine ⟨_, rfl, a, _, rfl, q, rfl, _, _, rfl, b1, _, rfl, q1, rfl, _, _, rfl, _, _, rfl, rfl, _, _, rfl, b2, _, rfl, q2, rfl, _, _, rfl, _, _, rfl, rfl, _, _, rfl, rfl, ?_⟩
    refine ⟨_, rfl, by show 1 ≤ sizeLine; decide, fun l hl => ?_⟩
    have S1 := FW.Stp.new (fp := []) (o := (.lst [V.ref a])) ht hl
    have e1 : L2.upd H l (.lst [V.ref a]) l = some (.lst [V.ref a]) := L2.upd_same
    generalize L2.upd H l (.lst [V.ref a]) = H1 at *
    refine ⟨_, rfl, ea, rfl, ⟨_, sqT_ext S1.k.ext qe⟩, ?_⟩
    refine for_it (walk_tup (xs := es)) (fun i σ H' => ∃ (v : V) (x8 x9 x10 x11 : Option V), σ = [some (.ref a), some (.ref ea), some (.ref ta), some (.int ((n0 + (pageVals nm (ep.take i)).length : Nat) : Int)), some mk, some (.str nm), some v, some (.ref l), x8, x9, x10, x11] ∧ Stp G [] H H' ∧ Vd K H' v (lastV v0 (pageVals nm (ep.take i))) ∧
        ∃ acc, H' l = some (.lst acc) ∧ Vds K H' acc ((waysFrom (decide (nm ∈ tn)) nm n0 v0 (pageVals nm (ep.take i))).map Wy.data))
      ⟨vv, _, _, _, _, rfl, S1, hvv.ext S1.k, _, e1, .cons (hw.ext S1.k) .nil⟩ (fun i σ H' _ ⟨_, _, _, _, _, _, S, _⟩ => sqT_ext S.k.ext qe) (fun i x σ H3 H4 hi h hy => ?_) (fun σ H' h => ?_)
    · obtain ⟨v, x8, x9, x10, x11, rfl, S3, hv, acc, eacc, hacc⟩ := h
      obtain ⟨rfl, hx⟩ := hy
      obtain ⟨dd, hdd, vd⟩ := hes.at hx
      have hi' : i < ep.length := by rw [← hel]; exact hi
      have hepi := List.getElem?_eq_getElem hi'
      rw [List.getElem?_map, hepi] at hdd
      have edd : PyData.tuple [.str ep[i].1, ep[i].2] = dd := Option.some.inj hdd
      subst edd
      obtain ⟨pa, u, rfl, qp, hu⟩ := (vd.ext S3.k).pair
      have hpt := pageVals_take (nm := nm) hepi
      refine ⟨pa, _, rfl, qp, rfl, _, _, rfl, _, _, rfl, rfl, ?_⟩
      refine ⟨_, rfl, _, rfl, rfl, _, rfl, ?_⟩
      by_cases e : ep[i].1 = nm
      · rw [show (!decide (V.str ep[i].1 = V.str nm)) = false by rw [e]; simp]
        refine iteF ?_
        rw [if_pos e] at hpt
        have vok := eok.last nm i
        have wok : VOk ep[i].2 := eok.e _ (List.getElem_mem hi')
        have qta4 := sqT_ext S3.k.ext qta
        have hsn := waysFrom_snoc (decide (nm ∈ tn)) nm (pageVals nm (ep.take i)) n0 v0 ep[i].2
        rw [← hpt] at hsn
        have hln := ways_len (decide (nm ∈ tn)) nm (pageVals nm (ep.take (i + 1))) (pageVals nm (ep.drop (i + 1))) n0 v0
        rw [← pageVals_split, hsn, List.length_append, List.length_append, List.length_singleton] at hln
        generalize hds : pageVals nm (ep.take i) = ds at *
        refine ⟨fun σ H' => ∃ (x10 x11 : Option V), σ = [some (.ref a), some (.ref ea), some (.ref ta), some (.int ((n0 + ds.length : Nat) : Int)), some mk, some (.str nm), some v, some (.ref l), some (.str ep[i].1), some u, x10, x11] ∧ Stp G [l] H4 H' ∧
          ∃ acc, H' l = some (.lst acc) ∧ Vds K H' acc ((waysFrom (decide (nm ∈ tn)) nm n0 v0 ds ++ partW (decide (nm ∈ tn)) (n0 + ds.length) nm (lastV v0 ds) ep[i].2).map Wy.data), ?_, ?_⟩
        · refine ⟨_, rfl, _, rfl, ta, _, rfl, .inr qta4, rfl, all_flat_str _, _, rfl, ?_⟩
          have hal := hacc.len
          rw [List.length_map] at hal
          show ite _ _ _
          rw [show (if false = true then !inV (V.str nm) (tn.map V.str) else inV (V.str nm) (tn.map V.str)) = decide (nm ∈ tn) from inV_str nm tn]
          cases hin : decide (nm ∈ tn) with
          | false =>
            rw [hin] at hacc
            refine iteF ⟨_, _, rfl, .refl S3.t, acc, eacc, ?_⟩
            rw [show partW false (n0 + ds.length) nm (lastV v0 ds) ep[i].2 = [] from rfl, List.append_nil]
            exact hacc
          | true =>
            rw [hin] at hacc hln hal hbig
            refine iteT ?_
            refine ⟨_, rfl, .inl ⟨rfl, _, SqL.of eacc⟩, _, rfl, _, rfl, v, u, lastV v0 ds, ep[i].2, rfl, hv, hu, vok.s, wok.s, S3.t, fun lp us H5 S5 elp hus flp => ?_⟩
            refine ⟨lp, rfl, ⟨_, SqL.of elp⟩, fun D hD => ?_⟩
            obtain ⟨HD, hHD⟩ : ∃ X, X = upd H5 D (.lst []) := ⟨_, rfl⟩
            have SD : Stp G [] H5 HD := by rw [hHD]; exact .new S5.t hD
            have eD : HD D = some (.lst []) := by rw [hHD]; exact upd_same
            have ntD0 := noT_lst eD
            have nlD : lp ≠ D := ne_of_none elp hD
            have hul := hus.len
            have hpw : partW true (n0 + ds.length) nm (lastV v0 ds) ep[i].2 = (tornJ (lastV v0 ds) ep[i].2).map fun j => ⟨n0 + ds.length, j, nm, tornV j (lastV v0 ds) ep[i].2⟩ := rfl
            rw [show (tornPs (lastV v0 ds) ep[i].2).length = (tornJ (lastV v0 ds) ep[i].2).length from List.length_map _] at hul
            rw [hpw, List.length_map] at hln
            refine lc_it (walk_list (xs := us)) (fun j H' => Stp G [D] HD H' ∧ ∃ ac, H' D = some (.lst ac) ∧ ac.length = j ∧ Vds K H' ac (((partW true (n0 + ds.length) nm (lastV v0 ds) ep[i].2).map Wy.data).take j))
              (by rw [← hHD]; exact ⟨.refl SD.t, [], eD, rfl, .nil⟩) (fun j H' _ h => SqL.of (h.1.k _ _ (SD.k _ _ elp (by simp) fun _ z => by cases z) (by simp; exact nlD) fun _ z => by cases z)) (fun j x H6 H7 hj h hyy => ?_) (fun H6 h => ?_)
            · obtain ⟨S6, ac, ea6, hal6, hac6⟩ := h
              obtain ⟨rfl, hx⟩ := hyy
              obtain ⟨dd, hdd, vd⟩ := hus.at hx
              have hj' : j < (tornJ (lastV v0 ds) ep[i].2).length := by rw [← hul]; exact hj
              unfold tornPs at hdd
              rw [List.getElem?_map, List.getElem?_eq_getElem hj'] at hdd
              generalize hjj : (tornJ (lastV v0 ds) ep[i].2)[j] = jj at *
              have hjm : jj ∈ tornJ (lastV v0 ds) ep[i].2 := by rw [← hjj]; exact List.getElem_mem hj'
              have edd : PyData.tuple [.int (jj : Nat), tornV jj (lastV v0 ds) ep[i].2] = dd := Option.some.inj hdd
              subst edd
              obtain ⟨pp, vs2, rfl, qpp, hvs2⟩ := ((vd.ext SD.k).keep ntD0 S6.k).untup
              cases hvs2 with
              | cons g1 hvs2 =>
                cases hvs2 with
                | cons g2 hvs2 =>
                  cases hvs2 with
                  | nil =>
                    have eg := g1.dp
                    cases eg
                    refine ⟨pp, _, rfl, qpp, rfl, _, _, rfl, _, _, rfl, rfl, rfl, iteT (B := Stp G [D] HD H7 ∧ ∃ ac, H7 D = some (.lst ac) ∧ ac.length = j + 1 ∧ Vds K H7 ac (((partW true (n0 + ds.length) nm (lastV v0 ds) ep[i].2).map Wy.data).take (j + 1))) ?_⟩
                    obtain ⟨k1, k2⟩ := torn_ok vok wok hjm
                    refine ⟨_, rfl, _, rfl, _, rfl, _, rfl, ⟨n0 + ds.length, jj, nm, tornV jj (lastV v0 ds) ep[i].2⟩, _, rfl, g2, ⟨k1, k2⟩, S6.t, fun u7 H8 S8 hu7 => ?_⟩
                    have ea8 := S8.k _ _ ea6 (by simp) fun _ z => by cases z
                    refine ⟨ac, ea8, Nat.lt_of_lt_of_le (show ac.length < 1000000 by omega) (by decide), ?_⟩
                    have S9 : Stp G [D] H8 (upd H8 D (.lst (ac ++ [u7]))) := .put S8.t (by simp) ea8 notc_lst
                    refine ⟨S6.trans (S8.up.trans S9), _, upd_same, by rw [List.length_append, hal6] <;> rfl, ?_⟩
                    have hset : ((partW true (n0 + ds.length) nm (lastV v0 ds) ep[i].2).map Wy.data)[j]? = some (Wy.data ⟨n0 + ds.length, jj, nm, tornV jj (lastV v0 ds) ep[i].2⟩) := by
                      rw [hpw, List.getElem?_map, List.getElem?_map, List.getElem?_eq_getElem hj', hjj] <;> rfl
                    rw [take_succ' hset]
                    exact Vds.keep (noT_lst ea8) S9.k ((hac6.ext S8.k).snoc hu7)
            · obtain ⟨S6, ac, ea6, hal6, hac6⟩ := h
              rw [List.take_of_length_le (by rw [List.length_map, hpw, List.length_map]; omega)] at hac6
              have S46 : Stp G [] H4 H6 := S5.trans (Stp.hide SD.k S6 (fr0_none hD))
              have eacc6 := S46.k _ _ eacc (by simp) fun _ z => by cases z
              refine ⟨l, D, acc, ac, rfl, rfl, eacc6, ea6, Nat.le_of_lt (Nat.lt_of_lt_of_le (show acc.length + ac.length < 1000000 by omega) (by decide)), ?_⟩
              have S7 : Stp G [l] H6 (upd H6 l (.lst (acc ++ ac))) := .put S46.t (by simp) eacc6 notc_lst
              refine ⟨_, _, rfl, S46.up.trans S7, _, upd_same, ?_⟩
              rw [List.map_append]
              exact Vds.keep (noT_lst eacc6) S7.k (vds_app (hacc.ext S46.k) hac6)
        · rintro σ H5 ⟨y10, y11, rfl, S5, acc5, ea5, hacc5⟩
          have ntl := noT_lst eacc
          have hu5 := hu.keep ntl S5.k
          have hal5 := hacc5.len
          rw [List.length_map, List.length_append] at hal5
          refine ⟨_, rfl, _, _, rfl, rfl, ?_⟩
          refine ⟨_, rfl, _, rfl, .inl ⟨rfl, _, SqL.of ea5⟩, _, rfl, _, rfl, _, rfl, ⟨n0 + ds.length + 1, 0, nm, ep[i].2⟩, u, rfl, hu5, mkOk_of wok, S5.t, fun u7 H8 S8 hu7 => ?_⟩
          have ea8 := S8.k _ _ ea5 (by simp) fun _ z => by cases z
          refine ⟨l, acc5, u7, rfl, rfl, ea8, Nat.lt_of_lt_of_le (show acc5.length < 1000000 by omega) (by decide), ?_⟩
          have S9 : Stp G [l] H8 (upd H8 l (.lst (acc5 ++ [u7]))) := .put S8.t (by simp) ea8 notc_lst
          have S49 := S5.trans (S8.up.trans S9)
          refine ⟨u, _, _, _, _, by rw [hpt, List.length_append, List.length_singleton] <;> rfl, Stp.fresh S3.k S49 (fun b hb => by rw [List.mem_singleton.mp hb]; exact fr0_none hl), by rw [hpt, lastV_app]; exact hu.keep ntl S49.k, _, upd_same, ?_⟩
          rw [hsn, ← List.append_assoc, List.map_append]
          exact Vds.keep (noT_lst ea8) S9.k ((hacc5.ext S8.k).snoc hu7)
      · rw [show (!decide (V.str ep[i].1 = V.str nm)) = true by simp [e]]
        refine iteT ?_
        rw [if_neg e, List.append_nil] at hpt
        refine ⟨v, _, _, _, _, by rw [hpt] <;> rfl, S3, by rw [hpt]; exact hv, acc, eacc, by rw [hpt]; exact hacc⟩
    · obtain ⟨v, x8, x9, x10, x11, rfl, S3, hv, acc, eacc, hacc⟩ := h
      rw [List.take_of_length_le (by rw [hel]; exact Nat.le_refl _)] at hacc
      exact ⟨_, rfl, k l acc H' S3 eacc hacc (fr0_none hl)⟩
end
end K10

namespace K10
open PySem PySem.Spec PyProof.Rows L2 XV XL UU CC FW GX GxR
section
variable {P : Program} {w : World} {K : PySem.W.Frag} {mg : Str → Option Value} {base : Heap} {f c0 P0 : Addr} {fd : FuncData} {G : Tb}
theorem sc_combined : FnScope ["rows", "choices", "row", "kept", "disk", "marks", "pair", "page", "sign"] ["rows"] (defScope s_combined) := ⟨rfl, rfl, rfl, by decide +kernel, rfl, by decide +kernel, by decide +kernel⟩
def spCombined (K : PySem.W.Frag) (G : Tb) : Sp := fun vs H Q _ => ∃ (ra : Addr) (as : List Addr) (rs : List (List Wy)), vs = [.ref ra] ∧ H ra = some (.lst (as.map V.ref)) ∧ Paired (RowWy K H) as rs ∧ rs.length < 1000 ∧ (∀ i, (prodR (rs.take i)).length < 1000000) ∧ Tbs G H ∧
  ∀ l us H', Stp G [] H H' → H' l = some (.lst us) → Vds K H' us ((prodR rs).map chD) → Fr0 H l → Q (.ref l) H'
theorem comb_elt {B : Hp → Prop} {σ : L2.St} {H : Hp} {Q : VK} {a1 a2 a3 b1 b2 : Addr} {mk : V} {c : List Wy} {y : Wy} (s3 : σ[3]? = some (some (.ref a1))) (s4 : σ[4]? = some (some (.ref a2))) (s5 : σ[5]? = some (some (.ref a3))) (s6 : σ[6]? = some (some (.ref b1))) (s7 : σ[7]? = some (some (.ref b2))) (s8 : σ[8]? = some (some mk)) (ht : Tbs G H)
    (h1 : Vd K H (.ref a1) (.tuple (c.map fun x => kpD x.key))) (h2 : Vd K H (.ref a2) (.tuple (c.map Wy.pg))) (h3 : Vd K H (.ref a3) (.tuple (c.map fun x => sgnD x.v))) (gk : Vd K H (.ref b1) (kpD y.key)) (gp : Vd K H (.ref b2) y.pg) (gm : Vd K H mk (sgnD y.v)) (hcl : c.length < 1000)
    (k : ∀ v H', Stp G [] H H' → Vd K H' v (chD (c ++ [y])) → Q v H') :
    tYes σ H (fun b H6 => if b = true then tTup (tCons (tCut (tOp (rCatA K) (tVar 3) (tTup (tCons (tVar 6) tNil)))) (tCons (tCut (tOp (rCatA K) (tVar 4) (tTup (tCons (tVar 7) tNil)))) (tCons (tCut (tOp (rCatA K) (tVar 5) (tTup (tCons (tVar 8) tNil)))) tNil))) σ H6 Q else B H6) := by
  unfold tYes
  simp only [if_true]

  refine ⟨fun v H' => Stp G [] H H' ∧ Vd K H' v (.tuple (c.map (fun x => kpD x.key) ++ [kpD y.key])), ⟨_, s3, _, s6, by show 1 ≤ sizeLine; decide, fun t htn => cat_one ht h1 gk (by rw [List.length_map]; exact hcl) htn⟩, ?_⟩
  rintro v1 HF ⟨SF, hv1⟩
  refine ⟨fun v H' => Stp G [] HF H' ∧ Vd K H' v (.tuple (c.map Wy.pg ++ [y.pg])), ⟨_, s4, _, s7, by show 1 ≤ sizeLine; decide, fun t htn => cat_one SF.t (h2.ext SF.k) (gp.ext SF.k) (by rw [List.length_map]; exact hcl) htn⟩, ?_⟩
  rintro v2 HG ⟨SG, hv2⟩
  have SFG := SF.trans SG
  refine ⟨fun v H' => Stp G [] HG H' ∧ Vd K H' v (.tuple (c.map (fun x => sgnD x.v) ++ [sgnD y.v])), ⟨_, s5, _, s8, by show 1 ≤ sizeLine; decide, fun t htn => cat_one SG.t (h3.ext SFG.k) (gm.ext SFG.k) (by rw [List.length_map]; exact hcl) htn⟩, ?_⟩
  rintro v3 HI ⟨SI, hv3⟩
  refine ⟨by show 3 ≤ sizeLine; decide, fun tt htt => ?_⟩
  have SJ := FW.Stp.new (fp := []) (o := (.tup [v1, v2, v3])) SI.t htt
  have eJ : L2.upd HI tt (.tup [v1, v2, v3]) tt = some (.tup [v1, v2, v3]) := L2.upd_same
  generalize L2.upd HI tt (.tup [v1, v2, v3]) = HJ at *
  have SIJ := SI.trans SJ
  refine k _ HJ (SFG.trans SIJ) ?_
  rw [chD_snoc]
  exact .tup (.of eJ) (.cons (hv1.ext (SG.trans SIJ).k) (.cons (hv2.ext SIJ.k) (.cons (hv3.ext SJ.k) .nil)))
theorem ok_combined (F : Fn K "_combined" s_combined f fd) (T : Tx K mg) : FnOk P w K mg base (L2.CX P w) 1 f fd ["rows"] (spCombined K G) := by
  refine F.ok sc_combined (fun vs H Q E h => ?_) (fun cdv A outer s H vs Q E hr h => ?_)
  · obtain ⟨_, _, _, rfl, _⟩ := h
    rfl
  · obtain ⟨ra, as, rs, rfl, era, hrs, hrl, hbig, ht, k⟩ := h
    refine ⟨_, PSs.nox (pss_cons (ps_set (i := 1) sc_combined.nd rfl (Or.inl rfl) (pe_lst (pa_cons (pe_tup (pa_cons (pe_tup pa_nil) (pa_cons (pe_tup pa_nil) (pa_cons (pe_tup pa_nil) pa_nil)))) pa_nil)))
      (pss_cons (ps_for PassesOwn.never rfl (pi_list (pv 0)) (pg_name (i := 2) sc_combined.nd rfl (Or.inr rfl))
      (pss_one (ps_setLc2 (i := 1) (g := (gTup K 3 (gCons (gName 3) (gCons (gName 4) (gCons (gName 5) gNil))))) (g1 := (gTup K 3 (gCons (gName 6) (gCons (gName 7) (gCons (gName 8) gNil))))) (own := [("kept", 3), ("disk", 4), ("marks", 5), ("pair", 6), ("page", 7), ("sign", 8)]) (vs1 := [6, 7, 8]) (tt := tYes) (tt1 := tYes) rfl sc_combined.nd rfl rfl (sw_true rfl rfl rfl (by decide +kernel)) (pi_list (pv 1)) (blkOk_by (N := ["rows", "choices", "row", "kept", "disk", "marks", "pair", "page", "sign"]) (sc := defScope s_combined) (by decide +kernel)) (by decide) (fun _ _ _ _ _ => (pg_tup rfl (pgs_cons (pg_name (i := 3) sc_combined.nd rfl (Or.inl rfl) (hf := .inr rfl)) (pgs_cons (pg_name (i := 4) sc_combined.nd rfl (Or.inl rfl) (hf := .inr rfl)) (pgs_cons (pg_name (i := 5) sc_combined.nd rfl (Or.inl rfl) (hf := .inr rfl)) pgs_nil))))) (fun _ _ _ _ _ => pts_nil) (fun _ _ _ _ _ => (CC.pi_listK K rfl (pv 2))) (fun _ _ _ _ _ => (pg_tup rfl (pgs_cons (pg_name (i := 6) sc_combined.nd rfl (Or.inl rfl) (hf := .inr rfl)) (pgs_cons (pg_name (i := 7) sc_combined.nd rfl (Or.inl rfl) (hf := .inr rfl)) (pgs_cons (pg_name (i := 8) sc_combined.nd rfl (Or.inl rfl) (hf := .inr rfl)) pgs_nil))))) (fun _ _ _ _ _ => pts_nil) (fun _ _ _ _ _ => (pe_tup (pa_cons (pe_cut (pe_op (CC.op_catAK K rfl) (pv 3) (pe_tup (pa_cons (pv 6) pa_nil)))) (pa_cons (pe_cut (pe_op (CC.op_catAK K rfl) (pv 4) (pe_tup (pa_cons (pv 7) pa_nil)))) (pa_cons (pe_cut (pe_op (CC.op_catAK K rfl) (pv 5) (pe_tup (pa_cons (pv 8) pa_nil)))) pa_nil))))))))
      (pss_one (ps_ret (pv 1))))), ?_⟩
    refine ⟨by show 0 ≤ sizeLine; decide, fun p1 hp1 => ?_⟩
    have S1 := FW.Stp.new (fp := []) (o := (.tup [])) ht hp1
    have e1 : L2.upd H p1 (.tup []) p1 = some (.tup []) := L2.upd_same
    generalize L2.upd H p1 (.tup []) = H1 at *
    refine ⟨by show 0 ≤ sizeLine; decide, fun p2 hp2 => ?_⟩
    have S2 := FW.Stp.new (fp := []) (o := (.tup [])) S1.t hp2
    have e2 : L2.upd H1 p2 (.tup []) p2 = some (.tup []) := L2.upd_same
    generalize L2.upd H1 p2 (.tup []) = H2 at *
    refine ⟨by show 0 ≤ sizeLine; decide, fun p3 hp3 => ?_⟩
    have S3 := FW.Stp.new (fp := []) (o := (.tup [])) S2.t hp3
    have e3 : L2.upd H2 p3 (.tup []) p3 = some (.tup []) := L2.upd_same
    generalize L2.upd H2 p3 (.tup []) = H3 at *
    refine ⟨by show 3 ≤ sizeLine; decide, fun p4 hp4 => ?_⟩
    have S4 := FW.Stp.new (fp := []) (o := (.tup [V.ref p1, V.ref p2, V.ref p3])) S3.t hp4
    have e4 : L2.upd H3 p4 (.tup [V.ref p1, V.ref p2, V.ref p3]) p4 = some (.tup [V.ref p1, V.ref p2, V.ref p3]) := L2.upd_same
    generalize L2.upd H3 p4 (.tup [V.ref p1, V.ref p2, V.ref p3]) = H4 at *
    refine ⟨by show 1 ≤ sizeLine; decide, fun l0 hl0 => ?_⟩
    have S5 := FW.Stp.new (fp := []) (o := (.lst [V.ref p4])) S4.t hl0
    have e5 : L2.upd H4 l0 (.lst [V.ref p4]) l0 = some (.lst [V.ref p4]) := L2.upd_same
    generalize L2.upd H4 l0 (.lst [V.ref p4]) = H5 at *
    have S45 := S4.trans S5
    have S35 := S3.trans S45
    have S25 := S2.trans S35
    have S05 := S1.trans S25
    have v5 : Vds K H5 [V.ref p4] ((prodR (rs.take 0)).map chD) := .cons (.tup (.of (S5.k _ _ e4 (by simp) fun _ z => by cases z)) (.cons (.tup (.of (S25.k _ _ e1 (by simp) fun _ z => by cases z)) .nil) (.cons (.tup (.of (S35.k _ _ e2 (by simp) fun _ z => by cases z)) .nil) (.cons (.tup (.of (S45.k _ _ e3 (by simp) fun _ z => by cases z)) .nil) .nil)))) .nil
    have hasl : as.length = rs.length := Paired.length hrs
    refine ⟨_, rfl, ra, rfl, ⟨_, SqL.of (S05.k _ _ era (by simp) fun _ z => by cases z)⟩, ?_⟩
    refine for_it (walk_list (xs := as.map V.ref)) (fun q σ H' => ∃ (lc : Addr) (x2 x3 x4 x5 x6 x7 x8 : Option V) (acc : List V), σ = [some (.ref ra), some (.ref lc), x2, x3, x4, x5, x6, x7, x8] ∧ Stp G [] H H' ∧ H' lc = some (.lst acc) ∧ Vds K H' acc ((prodR (rs.take q)).map chD) ∧ Fr0 H lc)
      ⟨l0, _, _, _, _, _, _, _, _, rfl, S05, e5, v5, (S1.trans (S2.trans (S3.trans S4))).k.fr0 (by simp) (fr0_none hl0)⟩ (fun q σ H' _ ⟨_, _, _, _, _, _, _, _, _, _, S, _⟩ => SqL.of (S.k _ _ era (by simp) fun _ z => by cases z)) (fun q x σ H6 H7 hq h hy => ?_) (fun σ H' h => ?_)
    · obtain ⟨lc, x2, x3, x4, x5, x6, x7, x8, acc0, rfl, S6, elc, hacc0, flc⟩ := h
      obtain ⟨rfl, hx⟩ := hy
      rw [List.getElem?_map] at hx
      obtain ⟨b, hb, rfl⟩ := Option.map_eq_some_iff.mp hx
      rw [List.length_map] at hq
      have hq' : q < rs.length := by omega
      have hrow : RowWy K H b rs[q] := Paired.get hrs hb (List.getElem?_eq_getElem hq')
      have hpt := prod_take (List.getElem?_eq_getElem hq')
      have htot := hbig (q + 1)
      rw [hpt] at htot
      have hacl := hacc0.len
      rw [List.length_map] at hacl
      refine ⟨_, rfl, lc, rfl, ⟨_, SqL.of elc⟩, fun D hD => ?_⟩
      obtain ⟨HD, hHD⟩ : ∃ X, X = upd H7 D (.lst []) := ⟨_, rfl⟩
      have SD : Stp G [] H7 HD := by rw [hHD]; exact .new S6.t hD
      have eD : HD D = some (.lst []) := by rw [hHD]; exact upd_same
      have ntD0 := noT_lst eD
      have nlD : lc ≠ D := ne_of_none elc hD
      obtain ⟨us, eb, hus⟩ := hrow
      have ebD := (S6.trans SD).k _ _ eb (by simp) fun _ z => by cases z
      have nbD : b ≠ D := fun z => by
        have e := S6.k _ _ eb (by simp) fun _ z => by cases z
        exact ne_of_none e hD z
      have hul := hus.len
      rw [List.length_map] at hul
      refine lc2_it (walk_list (xs := acc0)) (fun i H' => Stp G [D] HD H' ∧ ∃ acc, H' D = some (.lst acc) ∧ Vds K H' acc ((moreR ((prodR (rs.take q)).take i) rs[q]).map chD))
        (by rw [← hHD]; exact ⟨.refl SD.t, [], eD, .nil⟩) (fun i H' _ h => SqL.of (h.1.k _ _ (SD.k _ _ elc (by simp) fun _ z => by cases z) (by simp; exact nlD) fun _ z => by cases z)) (fun i v HA HB hi h hyy => ?_) (fun HA h => ?_)
      · obtain ⟨rfl, hxi⟩ := hyy
        obtain ⟨SA, acc, ea, hva⟩ := h
        obtain ⟨dd, hdd, vd⟩ := hacc0.at hxi
        have hi' : i < (prodR (rs.take q)).length := by omega
        rw [List.getElem?_map, List.getElem?_eq_getElem hi'] at hdd
        have hcm := List.getElem_mem hi'
        have hci := List.getElem?_eq_getElem hi'
        generalize (prodR (rs.take q))[i] = c at *
        have hcl : c.length < 1000 := by
          rw [prod_width hcm, List.length_take]
          omega
        obtain rfl : chD c = dd := Option.some.inj hdd
        obtain ⟨ca, cs, rfl, qc, hcs⟩ := Vd.untup (ds := [.tuple (c.map fun x => kpD x.key), .tuple (c.map Wy.pg), .tuple (c.map fun x => sgnD x.v)]) ((vd.ext SD.k).keep ntD0 SA.k)
        cases hcs with
        | cons g1 hcs =>
          cases hcs with
          | cons g2 hcs =>
            cases hcs with
            | cons g3 hcs =>
              cases hcs with
              | nil =>
                obtain ⟨a1, _, rfl, _, _⟩ := g1.untup
                obtain ⟨a2, _, rfl, _, _⟩ := g2.untup
                obtain ⟨a3, _, rfl, _, _⟩ := g3.untup
                have hml := more_len (prodR (rs.take q)) rs[q] (i + 1)
                rw [more_take hci] at hml
                rw [List.length_append, List.length_map] at hml
                refine ⟨ca, _, rfl, qc, rfl, _, _, rfl, _, _, rfl, _, _, rfl, rfl, by kernel_rfl, ?_⟩
                refine iteT (B := Stp G [D] HD HB ∧ ∃ acc, HB D = some (.lst acc) ∧ Vds K HB acc ((moreR ((prodR (rs.take q)).take (i + 1)) rs[q]).map chD)) ?_
                have husA := ((hus.ext (S6.trans SD).k).keep ntD0 SA.k)
                have ebA := SA.k _ _ ebD (by simp; exact nbD) fun _ z => by cases z
                refine ⟨.ref b, by kernel_rfl, b, rfl, ⟨us, SqL.of ebA⟩, ?_⟩
                refine lc2_in (walk_list (xs := us)) (fun j H' => Stp G [D] HB H' ∧ ∃ ac, H' D = some (.lst ac) ∧ Vds K H' ac ((moreR ((prodR (rs.take q)).take i) rs[q] ++ (rs[q].take j).map fun w => c ++ [w]).map chD))
                  ⟨.refl SA.t, acc, ea, by rw [List.take_zero, List.map_nil, List.append_nil]; exact hva⟩ (fun j H' _ h => SqL.of (h.1.k _ _ ebA (by simp; exact nbD) fun _ z => by cases z)) (fun j y HC HE hj h hyy => ?_) (fun HC h => ?_)
                · obtain ⟨rfl, hxj⟩ := hyy
                  obtain ⟨SC, ac, eac, hac⟩ := h
                  have ntB := noT_lst ea
                  obtain ⟨dd, hdd, vd2⟩ := husA.at hxj
                  have hj' : j < rs[q].length := by omega
                  rw [List.getElem?_map, List.getElem?_eq_getElem hj'] at hdd
                  have hwj := List.getElem?_eq_getElem hj'
                  generalize rs[q][j] = y1 at *
                  obtain rfl : y1.data = dd := Option.some.inj hdd
                  obtain ⟨wa, b1, b2, mk, vv, rfl, qw, q1, q2, hvv, hmk⟩ := way_parts (vd2.keep ntB SC.k)
                  have gk : Vd K HE (.ref b1) (kpD y1.key) := .tup q1 (.cons ⟨.int _, rfl⟩ (.cons ⟨.int _, rfl⟩ .nil))
                  have gp : Vd K HE (.ref b2) y1.pg := .tup q2 (.cons ⟨.str _, rfl⟩ (.cons hvv .nil))
                  have h1 := g1.keep ntB SC.k
                  have h2 := g2.keep ntB SC.k
                  have h3 := g3.keep ntB SC.k
                  refine ⟨wa, _, rfl, qw, rfl, _, _, rfl, _, _, rfl, _, _, rfl, rfl, by kernel_rfl, ?_⟩
                  refine comb_elt (by kernel_rfl) (by kernel_rfl) (by kernel_rfl) (by kernel_rfl) (by kernel_rfl) (by kernel_rfl) SC.t h1 h2 h3 gk gp hmk hcl fun v5 HJ SEJ hv5 => ?_
                  have eacJ := SEJ.k _ _ eac (by simp) fun _ z => by cases z
                  have hacl := hac.len
                  rw [List.length_map, List.length_append, List.length_map, List.length_take] at hacl
                  refine ⟨ac, eacJ, Nat.lt_of_lt_of_le (show ac.length < 1000000 by omega) (by decide), ?_⟩
                  have SK : Stp G [D] HJ (upd HJ D (.lst (ac ++ [v5]))) := .put SEJ.t (by simp) eacJ notc_lst
                  refine ⟨SC.trans (SEJ.up.trans SK), _, upd_same, ?_⟩
                  rw [List.map_append] at hac
                  rw [take_succ' hwj]
                  simp only [List.map_append, List.map_cons, List.map_nil, ← List.append_assoc]
                  exact Vds.keep (noT_lst eacJ) SK.k ((hac.ext SEJ.k).snoc hv5)
                · obtain ⟨SC, ac, eac, hac⟩ := h
                  rw [show rs[q].take us.length = rs[q] from List.take_of_length_le (by omega)] at hac
                  exact ⟨SA.trans SC, ac, eac, by rw [more_take hci]; exact hac⟩
      · obtain ⟨SA, acc, ea, hva⟩ := h
        rw [List.take_of_length_le (by omega), ← hpt] at hva
        exact ⟨D, _, _, _, _, _, _, _, _, rfl, S6.trans (Stp.hide SD.k SA (fr0_none hD)), ea, hva, S6.k.fr0 (by simp) (fr0_none hD)⟩
    · obtain ⟨lc, x2, x3, x4, x5, x6, x7, x8, acc0, rfl, S6, elc, hacc0, flc⟩ := h
      rw [List.take_of_length_le (by rw [List.length_map, hasl]; exact Nat.le_refl _)] at hacc0
      exact ⟨_, rfl, k lc acc0 H' S6 elc hacc0 flc⟩
theorem sc_ways_to_fall : FnScope ["disk", "epochs", "torn", "rows", "name", "value", "found", "epoch", "row"] ["disk", "epochs", "torn"] (defScope s_ways_to_fall) := ⟨rfl, rfl, rfl, by decide +kernel, rfl, by decide +kernel, by decide +kernel⟩
theorem cutV_one (xs : List V) : cutV xs (some 1) none = xs.tail := by
  have e : HT.sIx xs.length 0 (some 1) = min 1 xs.length := HT.sIx_nat xs.length 0 1
  unfold cutV
  rw [e, HT.sIx_none]
  cases xs with
  | nil => rfl
  | cons x xs =>
    rw [show min 1 (x :: xs).length = 1 from by rw [List.length_cons]; omega]
    show (xs.take _) = xs
    rw [List.length_cons, Nat.add_sub_cancel]
    exact List.take_length
/-- row lists at as, each with the rows rs -/
structure RowsAt (K : PySem.W.Frag) (H : Hp) (l : Addr) (as : List Addr) (rs : List (List Wy)) : Prop where
  l : H l = some (.lst (as.map V.ref))
  p : Paired (RowWy K H) as rs
theorem RowsAt.ext {H H' : Hp} {l : Addr} {as : List Addr} {rs : List (List Wy)} (h : RowsAt K H l as rs) (k : Keep [] H H') : RowsAt K H' l as rs := ⟨k _ _ h.l (by simp) (fun _ z => by cases z), Paired.mapP h.p fun _ _ z => z.ext k⟩
def spWaysToFall (K : PySem.W.Frag) (G : Tb) : Sp := fun vs H Q _ => ∃ (dv ev : V) (ta : Addr) (tn : List Str) (m : Mo), vs = [dv, ev, .ref ta] ∧ Vd K H dv (pgD m.sync) ∧ Vd K H ev (epD m.eps) ∧ SqT K H ta (tn.map V.str) ∧ m.sync.length < 1000 ∧ (∀ p ∈ m.sync, VOk p.2) ∧ (∀ e ∈ m.eps, ∀ p ∈ e, VOk p.2) ∧
  StagesOk (curs tn m.sync) m.eps ∧ (waysM tn m).length < 10000000 ∧ Tbs G H ∧ ∀ l us H', Stp G [] H H' → H' l = some (.lst us) → Vds K H' us ((waysM tn m).map chD) → Fr0 H l → Q (.ref l) H'
theorem ok_ways_to_fall (F : Fn K "ways_to_fall" s_ways_to_fall f fd) (T : Tx K mg) (U_way : Use P w K mg base (L2.CX P w) "_way" 6 ["count", "part", "name", "value"] (spWay K G)) (U_ways_of_page : Use P w K mg base (L2.CX P w) "_ways_of_page" 7 ["whole", "epoch", "torn"] (spWaysOf K G)) (U_combined : Use P w K mg base (L2.CX P w) "_combined" 1 ["rows"] (spCombined K G)) :
    FnOk P w K mg base (L2.CX P w) 8 f fd ["disk", "epochs", "torn"] (spWaysToFall K G) := by
  refine F.ok sc_ways_to_fall (fun vs H Q E h => ?_) (fun cdv A outer s H vs Q E hr h => ?_)
  · obtain ⟨_, _, _, _, _, rfl, _⟩ := h
    rfl
  · obtain ⟨dv, ev, ta, tn, m, rfl, hd, he, qta, hsl, hvs, hve, hst, hbig, ht, k⟩ := h
    refine ⟨_, PSs.nox (pss_cons (ps_setLc (i := 3) (g := (gTup K 2 (gCons (gName 4) (gCons (gName 5) gNil)))) (own := [("name", 4), ("value", 5)]) (tt := tYes) rfl sc_ways_to_fall.nd rfl rfl (sw_true rfl rfl rfl (by decide +kernel)) (pi_tup (pv 0)) (blkOk_by (N := ["disk", "epochs", "torn", "rows", "name", "value", "found", "epoch", "row"]) (sc := defScope s_ways_to_fall) (by decide +kernel)) (fun _ _ _ _ _ => (pg_tup rfl (pgs_cons (pg_name (i := 4) sc_ways_to_fall.nd rfl (Or.inl rfl) (hf := .inr rfl)) (pgs_cons (pg_name (i := 5) sc_ways_to_fall.nd rfl (Or.inl rfl) (hf := .inr rfl)) pgs_nil)))) (fun _ _ _ _ _ => pts_nil) (fun _ _ _ _ _ => (pe_lst (pa_cons (pe_useL U_way hr (by first | decide | omega) (by rfl) (pa_cons pe_int (pa_cons pe_int (pa_cons (pv 4) (pa_cons (pv 5) pa_nil))))) pa_nil))))
      (pss_cons (ps_set (i := 6) sc_ways_to_fall.nd rfl (Or.inl rfl) (pe_useL U_combined hr (by first | decide | omega) (by rfl) (pa_cons (pv 3) pa_nil)))
      (pss_cons (ps_for PassesOwn.never rfl (pi_tup (pv 1)) (pg_name (i := 7) sc_ways_to_fall.nd rfl (Or.inr rfl))
      (pss_cons (ps_setLc (i := 3) (own := [("row", 8)]) (tt := tYes) rfl sc_ways_to_fall.nd rfl rfl (sw_true rfl rfl rfl (by decide +kernel)) (pi_list (pv 3)) (blkOk_by (N := ["disk", "epochs", "torn", "rows", "name", "value", "found", "epoch", "row"]) (sc := defScope s_ways_to_fall) (by decide +kernel)) (fun _ _ _ _ _ => (pg_name (i := 8) sc_ways_to_fall.nd rfl (Or.inl rfl) (hf := .inr rfl))) (fun _ _ _ _ _ => pts_nil) (fun _ _ _ _ _ => (pe_useL U_ways_of_page hr (by first | decide | omega) (by rfl) (pa_cons (pe_ix (CC.ix_listK K rfl) (pv 8) (pe_un un_neg pe_int) (fun _ _ => rfl)) (pa_cons (pv 7) (pa_cons (pv 2) pa_nil))))))
      (pss_one (ps_expr (pe_bm PySem.F.plainAttrs_list PySem.F.slot_list_extend PySem.F.type_list_extend mt_extend (pv 6) (pa_cons (pe_slice sl_list (pe_useL U_combined hr (by first | decide | omega) (by rfl) (pa_cons (pv 3) pa_nil)) (po_some pe_int) po_none) pa_nil))))))
      (pss_one (ps_ret (pv 6)))))), ?_⟩
    obtain ⟨da, ds, rfl, qd, hds⟩ := hd.untup
    obtain ⟨ea, es, rfl, qe, hes⟩ := Vd.untup (ds := m.eps.map pgD) he
    have hdl := hds.len
    have hel := hes.len
    rw [List.length_map] at hdl hel
    have hcn : ∀ c ∈ curs tn m.sync, CurOk c := fun c hc => by
      obtain ⟨p, hp, rfl⟩ := List.mem_map.mp hc
      exact ⟨hvs p hp⟩
    refine ⟨_, rfl, da, rfl, ⟨_, qd⟩, fun D hD => ?_⟩
    obtain ⟨HD, hHD⟩ : ∃ X, X = upd H D (.lst []) := ⟨_, rfl⟩
    have SD : Stp G [] H HD := by rw [hHD]; exact .new ht hD
    have eD : HD D = some (.lst []) := by rw [hHD]; exact upd_same
    have ntD0 := noT_lst eD
    refine lc_it (walk_tup (xs := ds)) (fun i H' => Stp G [D] HD H' ∧ ∃ as, H' D = some (.lst (as.map V.ref)) ∧ as.length = i ∧ Paired (RowWy K H') as (((curs tn m.sync).map fun c => [c.wy]).take i) ∧ D ∉ as)
      (by rw [← hHD]; exact ⟨.refl SD.t, [], eD, rfl, .nil, by simp⟩) (fun i H' _ h => keep_sqT ntD0 h.1.k (sqT_ext SD.k.ext qd)) (fun i x H3 H4 hi h hyy => ?_) (fun H3 h => ?_)
    · obtain ⟨S3, as, eas, hal, hrs, hDn⟩ := h
      obtain ⟨rfl, hx⟩ := hyy
      obtain ⟨dd, hdd, vd⟩ := hds.at hx
      have hi' : i < m.sync.length := by omega
      have hps := List.getElem?_eq_getElem hi'
      rw [List.getElem?_map, hps] at hdd
      have hvok := hvs _ (List.getElem_mem hi')
      generalize m.sync[i] = pr at *
      obtain rfl : PyData.tuple [.str pr.1, pr.2] = dd := Option.some.inj hdd
      obtain ⟨pa, u, rfl, qp, hu⟩ := ((vd.ext SD.k).keep ntD0 S3.k).pair
      refine ⟨pa, _, rfl, qp, rfl, _, _, rfl, _, _, rfl, rfl, rfl, iteT (B := Stp G [D] HD H4 ∧ ∃ as, H4 D = some (.lst (as.map V.ref)) ∧ as.length = i + 1 ∧ Paired (RowWy K H4) as (((curs tn m.sync).map fun c => [c.wy]).take (i + 1)) ∧ D ∉ as) ?_⟩
      refine ⟨_, rfl, _, rfl, ⟨0, 0, pr.1, pr.2⟩, u, rfl, hu, mkOk_of hvok, S3.t, fun u5 H5 S5 hu5 => ?_⟩
      refine ⟨by show 1 ≤ sizeLine; decide, fun lr hlr => ?_⟩
      have S6 := FW.Stp.new (fp := []) (o := (.lst [u5])) S5.t hlr
      have e6 : L2.upd H5 lr (.lst [u5]) lr = some (.lst [u5]) := L2.upd_same
      generalize L2.upd H5 lr (.lst [u5]) = H6 at *
      have S46 := S5.trans S6
      have ea6 := S46.k _ _ eas (by simp) fun _ z => by cases z
      have nlr : lr ≠ D := fun z => by
        have e := S5.k _ _ eas (by simp) fun _ z => by cases z
        exact ne_of_none e hlr z.symm
      refine ⟨_, ea6, by rw [List.length_map, hal]; exact Nat.lt_of_lt_of_le (show i < 1000 by omega) (by decide), ?_⟩
      have S7 : Stp G [D] H6 (upd H6 D (.lst (as.map V.ref ++ [V.ref lr]))) := .put S6.t (by simp) ea6 notc_lst
      have nt6 := noT_lst ea6
      refine ⟨S3.trans (S46.up.trans S7), as ++ [lr], by rw [upd_same, List.map_append] <;> rfl, by rw [List.length_append, hal] <;> rfl, ?_, fun z => ?_⟩
      · have hset : ((curs tn m.sync).map fun c => [c.wy])[i]? = some [⟨0, 0, pr.1, pr.2⟩] := by
          unfold curs
          rw [List.getElem?_map, List.getElem?_map, hps] <;> rfl
        rw [take_succ' hset]
        have hne : ∀ b ∈ as ++ [lr], b ∉ [D] := fun b hb z => by
          rw [List.mem_singleton.mp z] at hb
          rcases List.mem_append.mp hb with y | y
          · exact hDn y
          · exact nlr (List.mem_singleton.mp y).symm
        refine Paired.mapM (Paired.app (Paired.mapP hrs fun _ _ z => z.ext S46.k) (.cons ⟨_, e6, .cons (hu5.ext S6.k) .nil⟩ .nil)) fun b r hb z => z.keep nt6 (hne b hb) S7.k
      · rcases List.mem_append.mp z with y | y
        · exact hDn y
        · exact nlr (List.mem_singleton.mp y).symm
    · obtain ⟨S3, as, eas, hal, hrs, hDn⟩ := h
      have hcl : (curs tn m.sync).length = m.sync.length := List.length_map _
      rw [List.take_of_length_le (by rw [List.length_map, hcl]; omega)] at hrs
      have S03 : Stp G [] H H3 := Stp.hide SD.k S3 (fr0_none hD)
      refine ⟨_, rfl, D, as, _, rfl, eas, hrs, by rw [List.length_map, hcl]; exact hsl, fun i => ?_, S3.t, fun lf us H4 S4 elf hus flf => ?_⟩
      · rw [← List.map_take, prod_one]
        exact (by decide : 1 < 1000000)
      rw [prod_one] at hus
      have S04 := S03.trans S4
      refine ⟨_, rfl, ea, rfl, ⟨_, sqT_ext S04.k.ext qe⟩, ?_⟩
      refine for_it (walk_tup (xs := es)) (fun i σ H' => ∃ (lr : Addr) (x4 x5 x7 x8 : Option V) (as : List Addr) (rws : List (List Wy)) (cs : List Cur) (acc : List V) (done : List (List Wy)), σ = [some (.ref da), some (.ref ea), some (.ref ta), some (.ref lr), x4, x5, some (.ref lf), x7, x8] ∧ Stp G [] H H' ∧ RowsAt K H' lr as rws ∧ rws.length = cs.length ∧ cs.length = m.sync.length ∧
          (∀ (q : Nat) (r : List Wy), rws[q]? = some r → ∃ c : Cur, cs[q]? = some c ∧ r.getLast? = some c.wy) ∧ (∀ c ∈ cs, CurOk c ∧ c.t = decide (c.nm ∈ tn)) ∧ StagesOk cs (m.eps.drop i) ∧ H' lf = some (.lst acc) ∧ Vds K H' acc (done.map chD) ∧ waysM tn m = done ++ progW cs (m.eps.drop i) ∧ lf ∉ as ∧ lf ≠ lr)
        ⟨D, _, _, _, _, as, _, curs tn m.sync, us, [(curs tn m.sync).map Cur.wy], rfl, S04, ⟨S4.k _ _ eas (by simp) (fun _ z => by cases z), Paired.mapP hrs fun _ _ z => z.ext S4.k⟩, List.length_map _, hcl, fun q r hq => ?_, fun c hc => ⟨hcn c hc, ?_⟩, hst, elf, hus, rfl, fun z => ?_, fun z => ?_⟩
        (fun i σ H' _ ⟨_, _, _, _, _, _, _, _, _, _, _, S, _⟩ => sqT_ext S.k.ext qe) (fun i x σ H5 H6 hi h hy => ?_) (fun σ H' h => ?_)
      · rw [List.getElem?_map] at hq
        obtain ⟨c, hc, rfl⟩ := Option.map_eq_some_iff.mp hq
        exact ⟨c, hc, rfl⟩
      · obtain ⟨p, hp, rfl⟩ := List.mem_map.mp hc
        rfl
      · obtain ⟨n, hn, hne⟩ := List.getElem_of_mem z
        obtain ⟨r', _, ⟨us', e', _⟩⟩ := Paired.at1 hrs (List.getElem?_eq_getElem hn)
        rw [hne] at e'
        exact FW.Fr0.ne flf e' (fun _ z => by cases z) rfl
      · rw [z] at flf
        exact FW.Fr0.ne flf eas (fun _ z => by cases z) rfl
      · obtain ⟨lr, x4, x5, x7, x8, as2, rws, cs, acc, done, rfl, S5, hrows, hl1, hl2, hlast, hcs, hsto, elf5, hacc, hway, nlf, nlf2⟩ := h
        obtain ⟨rfl, hx⟩ := hy
        have hi' : i < m.eps.length := by omega
        have hei := List.getElem?_eq_getElem hi'
        obtain ⟨dd, hdd, vd⟩ := hes.at hx
        rw [List.getElem?_map, hei] at hdd
        have hvep := hve _ (List.getElem_mem hi')
        have hdr : m.eps.drop i = m.eps[i] :: m.eps.drop (i + 1) := List.drop_eq_getElem_cons hi'
        generalize m.eps[i] = ep at *
        obtain rfl : pgD ep = dd := Option.some.inj hdd
        rw [hdr] at hway hsto
        obtain ⟨hso, hsto'⟩ := hsto
        have hal2 : as2.length = rws.length := Paired.length hrows.p
        refine ⟨_, rfl, lr, rfl, ⟨_, SqL.of hrows.l⟩, fun D2 hD2 => ?_⟩
        obtain ⟨HE, hHE⟩ : ∃ X, X = upd H6 D2 (.lst []) := ⟨_, rfl⟩
        have SE : Stp G [] H6 HE := by rw [hHE]; exact .new S5.t hD2
        have eD2 : HE D2 = some (.lst []) := by rw [hHE]; exact upd_same
        have ntD2 := noT_lst eD2
        have nlr2 : lr ≠ D2 := ne_of_none hrows.l hD2
        have nas2 : ∀ b ∈ as2, b ≠ D2 := fun b hb z => by
          obtain ⟨n, hn, hne⟩ := List.getElem_of_mem hb
          obtain ⟨r', _, ⟨us', e', _⟩⟩ := Paired.at1 hrows.p (List.getElem?_eq_getElem hn)
          rw [hne, z, hD2] at e'
          cases e'
        have nlfD : lf ≠ D2 := ne_of_none elf5 hD2
        have hrE : RowsAt K HE lr as2 rws := hrows.ext SE.k
        refine lc_it (walk_list (xs := as2.map V.ref)) (fun q H' => Stp G [D2] HE H' ∧ ∃ bs, H' D2 = some (.lst (bs.map V.ref)) ∧ bs.length = q ∧ Paired (RowWy K H') bs ((cs.map fun c => c.ways ep).take q) ∧ D2 ∉ bs ∧ lf ∉ bs)
          (by rw [← hHE]; exact ⟨.refl SE.t, [], eD2, rfl, .nil, by simp, by simp⟩) (fun q H' _ h => SqL.of (h.1.k _ _ hrE.l (by simp; exact nlr2) fun _ z => by cases z)) (fun q x HX HY hq h hyy => ?_) (fun HX h => ?_)
        · obtain ⟨SA, bs, ebs, hbl, hbs, nD, nF⟩ := h
          obtain ⟨rfl, hx2⟩ := hyy
          rw [List.getElem?_map] at hx2
          obtain ⟨b, hb, rfl⟩ := Option.map_eq_some_iff.mp hx2
          rw [List.length_map] at hq
          have hq' : q < rws.length := by omega
          have hrow : RowWy K HY b rws[q] := (Paired.get hrE.p hb (List.getElem?_eq_getElem hq')).keep ntD2 (by simp; exact nas2 b (List.mem_of_getElem? hb)) SA.k
          obtain ⟨c, hc, hcl2⟩ := hlast q _ (List.getElem?_eq_getElem hq')
          have hcm := List.mem_of_getElem? hc
          obtain ⟨cok, ct⟩ := hcs c hcm
          obtain ⟨us2, eb2, hus2⟩ := hrow
          have hne2 : (rws[q]).map Wy.data ≠ [] := fun z => by
            rw [List.map_eq_nil_iff.mp z] at hcl2
            cases hcl2
          obtain ⟨hne3, u, d, hu1, hd1, hud, _⟩ := vds_last hus2 hne2
          rw [List.getLast?_map, hcl2] at hd1
          obtain rfl : c.wy.data = d := Option.some.inj hd1
          have hepA := ((vd.ext (S5.trans SE).k).keep ntD2 SA.k)
          have qtaA := keep_sqT ntD2 SA.k (sqT_ext (S5.trans SE).k.ext qta)
          have hrl2 := hso.r c hcm
          unfold Cur.ways at hrl2
          rw [ct] at hrl2
          refine ⟨rfl, iteT (B := Stp G [D2] HE HY ∧ ∃ bs, HY D2 = some (.lst (bs.map V.ref)) ∧ bs.length = q + 1 ∧ Paired (RowWy K HY) bs ((cs.map fun c => c.ways ep).take (q + 1)) ∧ D2 ∉ bs ∧ lf ∉ bs) ?_⟩
          refine ⟨_, rfl, 1, rfl, b, us2, -1, u, rfl, rfl, SqL.of eb2, (by rw [atI_last hne3]; exact hu1), _, rfl, _, rfl, u, x, ta, tn, c.n, c.nm, c.v, ep, rfl, hud, hepA, qtaA, ⟨cok.v, hvep⟩, hrl2, SA.t, fun l2 us3 H7 S7 el2 hus3 fl2 => ?_⟩
          have ebs7 := S7.k _ _ ebs (by simp) fun _ z => by cases z
          have nl2 : l2 ≠ D2 := fun z => FW.Fr0.ne (z ▸ fl2) ebs (fun _ z => by cases z) rfl
          have nl3 : l2 ≠ lf := fun z => FW.Fr0.ne (z ▸ fl2) (SA.k _ _ (SE.k _ _ elf5 (by simp) fun _ z => by cases z) (by simp; exact nlfD) fun _ z => by cases z) (fun _ z => by cases z) rfl
          refine ⟨_, ebs7, by rw [List.length_map, hbl]; exact Nat.lt_of_lt_of_le (show q < 1000 by omega) (by decide), ?_⟩
          have S8 : Stp G [D2] H7 (upd H7 D2 (.lst (bs.map V.ref ++ [V.ref l2]))) := .put S7.t (by simp) ebs7 notc_lst
          have nt7 := noT_lst ebs7
          refine ⟨SA.trans (S7.up.trans S8), bs ++ [l2], by rw [upd_same, List.map_append] <;> rfl, by rw [List.length_append, hbl] <;> rfl, ?_, fun z => ?_, fun z => ?_⟩
          · have hset : (cs.map fun c => c.ways ep)[q]? = some (c.ways ep) := by rw [List.getElem?_map, hc] <;> rfl
            rw [take_succ' hset]
            have hne : ∀ b ∈ bs ++ [l2], b ∉ [D2] := fun b hb z => by
              rw [List.mem_singleton.mp z] at hb
              rcases List.mem_append.mp hb with y | y
              · exact nD y
              · exact nl2 (List.mem_singleton.mp y).symm
            rw [← ct] at hus3
            exact Paired.mapM (Paired.app (Paired.mapP hbs fun _ _ z => z.ext S7.k) (.cons ⟨us3, el2, hus3⟩ .nil)) fun b r hb z => z.keep nt7 (hne b hb) S8.k
          · rcases List.mem_append.mp z with y | y
            · exact nD y
            · exact nl2 (List.mem_singleton.mp y).symm
          · rcases List.mem_append.mp z with y | y
            · exact nF y
            · exact nl3 (List.mem_singleton.mp y).symm
        · obtain ⟨SA, bs, ebs, hbl, hbs, nD, nF⟩ := h
          rw [List.take_of_length_le (by rw [List.length_map, List.length_map]; omega)] at hbs
          have S6A : Stp G [] H6 HX := Stp.hide SE.k SA (fr0_none hD2)
          have elfA := S6A.k _ _ elf5 (by simp) fun _ z => by cases z
          refine ⟨_, rfl, .inl ⟨rfl, _, SqL.of elfA⟩, _, rfl, D2, bs, cs.map fun c => c.ways ep, rfl, ebs, hbs, by rw [List.length_map]; omega, hso.p, S6A.t, fun lc us3 H7 S7 elc hus3 flc => ?_⟩
          refine ⟨1, rfl, lc, us3, rfl, SqL.of elc, fun p hp => ?_⟩
          rw [cutV_one]
          have S8 := FW.Stp.new (fp := []) (o := (.lst us3.tail)) S7.t hp
          have e8 : L2.upd H7 p (.lst us3.tail) p = some (.lst us3.tail) := L2.upd_same
          generalize L2.upd H7 p (.lst us3.tail) = H8 at *
          have S68 := S6A.trans (S7.trans S8)
          have S78 := S7.trans S8
          have elf8 := S68.k _ _ elf5 (by simp) fun _ z => by cases z
          have hw2 : waysM tn m = (done ++ (prodR (cs.map fun c => c.ways ep)).tail) ++ progW (cs.map fun c => c.next ep) (m.eps.drop (i + 1)) := by rw [hway, List.append_assoc] <;> rfl
          have hbig2 := hbig
          rw [hw2, List.length_append, List.length_append] at hbig2
          have l3 := hus3.len
          have l4 := hacc.len
          rw [List.length_map] at l3 l4
          have l5 : us3.tail.length = (prodR (cs.map fun c => c.ways ep)).tail.length := by rw [List.length_tail, List.length_tail, l3]
          refine ⟨lf, p, acc, us3.tail, rfl, rfl, elf8, e8, Nat.le_of_lt (Nat.lt_of_lt_of_le (show acc.length + us3.tail.length < 10000000 by omega) (by decide)), ?_⟩
          have S9 : Stp G [lf] H8 (upd H8 lf (.lst (acc ++ us3.tail))) := .put S8.t (by simp) elf8 notc_lst
          have nt8 := noT_lst elf8
          have hus8 : Vds K H8 us3.tail ((prodR (cs.map fun c => c.ways ep)).tail.map chD) := by
            have := vds_drop 1 (hus3.ext S8.k)
            rw [List.drop_one, List.drop_one] at this
            rw [List.map_tail]
            exact this
          have flf3 : Fr0 H lf := S03.k.fr0 (by simp) flf
          refine ⟨D2, _, _, _, _, bs, (cs.map fun c => c.ways ep), (cs.map fun c => c.next ep), acc ++ us3.tail, _, rfl, Stp.fresh (S5.trans S68).k S9 (fun b hb => by rw [List.mem_singleton.mp hb]; exact flf3), ⟨S9.k _ _ (S78.k _ _ ebs (by simp) fun _ z => by cases z) (by simp; exact Ne.symm nlfD) (fun _ z => by cases z), ?_⟩, by rw [List.length_map, List.length_map], by rw [List.length_map]; exact hl2, fun q r hq => ?_, fun c hc => ?_, hsto', upd_same, ?_, hw2, nF, nlfD⟩
          · exact Paired.mapM hbs fun b r hb z => (z.ext S78.k).keep nt8 (fun y => nF (by rw [List.mem_singleton.mp y] at hb; exact hb)) S9.k
          · rw [List.getElem?_map] at hq
            obtain ⟨c, hc, rfl⟩ := Option.map_eq_some_iff.mp hq
            exact ⟨c.next ep, by rw [List.getElem?_map, hc] <;> rfl, cur_last c ep⟩
          · obtain ⟨c0, hc0, rfl⟩ := List.mem_map.mp hc
            obtain ⟨k1, k2⟩ := hcs c0 hc0
            exact ⟨k1.next hvep, k2⟩
          · rw [List.map_append]
            exact Vds.keep nt8 S9.k (vds_app (hacc.ext S68.k) hus8)
      · obtain ⟨lr, x4, x5, x7, x8, as2, rws, cs, acc, done, rfl, S5, hrows, hl1, hl2, hlast, hcs, hsto, elf5, hacc, hway, _⟩ := h
        rw [List.drop_of_length_le (by omega)] at hway
        rw [show done ++ progW cs [] = done from List.append_nil _] at hway
        rw [← hway] at hacc
        exact ⟨_, rfl, k lf acc H' S5 elf5 hacc (S03.k.fr0 (by simp) flf)⟩
end
end K10

namespace K10
open PySem PySem.Spec PyProof.Rows L2 XV XL UU CC FW GX GxR
section
variable {P : Program} {w : World} {K : PySem.W.Frag} {mg : Str → Option Value} {base : Heap} {f c0 P0 : Addr} {fd : FuncData} {G : Tb}
/-- the ways of a moment stand at v, or it has not told them yet -/
def WaysV (K : PySem.W.Frag) (H : Hp) (tn : List Str) (m : Mo) (wv : V) : Prop := wv = .non ∨ ∃ l us, wv = .ref l ∧ H l = some (.lst us) ∧ Vds K H us ((waysM tn m).map chD)
def MomW (K : PySem.W.Frag) (C : Addr) (H : Hp) (tn : List Str) (a : Addr) (m : Mo) : Prop := ∃ dx pgv syv epv wv, H a = some (.ins C dx (mFs pgv syv epv wv)) ∧ Vd K H pgv (pgD m.pages) ∧ Vd K H syv (pgD m.sync) ∧ Vd K H epv (epD m.eps) ∧ WaysV K H tn m wv
theorem MomW.at {C : Addr} {H : Hp} {tn : List Str} {a : Addr} {m : Mo} (h : MomW K C H tn a m) : MomAt K C H a m := by
  obtain ⟨dx, p, s, e, wv, q, h1, h2, h3, _⟩ := h
  exact ⟨dx, p, s, e, wv, q, h1, h2, h3⟩
/-- nothing but instances is in fp -/
def InsIn (fp : List Addr) (H : Hp) : Prop := ∀ b ∈ fp, ∃ C dx fs, H b = some (.ins C dx fs)
theorem InsIn.noT {fp : List Addr} {H : Hp} (h : InsIn fp H) : NoT fp H := fun b hb => by
  obtain ⟨C, dx, fs, e⟩ := h b hb
  rw [e]
  exact ⟨(fun _ z => by cases z), fun _ _ z => by cases z⟩
theorem InsIn.lst {fp : List Addr} {H : Hp} (h : InsIn fp H) {l : Addr} {us : List V} (e : H l = some (.lst us)) : l ∉ fp := fun z => by
  obtain ⟨C, dx, fs, e2⟩ := h l z
  rw [e] at e2
  cases e2
theorem WaysV.keep {fp : List Addr} {H H' : Hp} {tn : List Str} {m : Mo} {wv : V} (h : WaysV K H tn m wv) (hi : InsIn fp H) (k : Keep fp H H') : WaysV K H' tn m wv := by
  rcases h with h | ⟨l, us, h1, h2, h3⟩
  · exact .inl h
  · exact .inr ⟨l, us, h1, k _ _ h2 (hi.lst h2) (fun _ z => by cases z), h3.keep hi.noT k⟩
theorem MomW.keep {C : Addr} {fp : List Addr} {H H' : Hp} {tn : List Str} {a : Addr} {m : Mo} (h : MomW K C H tn a m) (hi : InsIn fp H) (ha : a ∉ fp) (k : Keep fp H H') : MomW K C H' tn a m := by
  obtain ⟨dx, p, s, e, wv, q, h1, h2, h3, h4⟩ := h
  exact ⟨dx, p, s, e, wv, k _ _ q ha (fun _ z => by cases z), h1.keep hi.noT k, h2.keep hi.noT k, h3.keep hi.noT k, h4.keep hi k⟩
theorem insIn_nil {H : Hp} : InsIn [] H := fun b hb => by cases hb
/-- what a moment's ways ask for -/
structure MoFine (tn : List Str) (m : Mo) : Prop where
  n : m.sync.length < 1000
  v : ∀ p ∈ m.sync, VOk p.2
  e : ∀ e ∈ m.eps, ∀ p ∈ e, VOk p.2
  s : StagesOk (curs tn m.sync) m.eps
  l : (waysM tn m).length < 10000000
theorem sc_Moment_ways : FnScope ["self", "torn"] ["self", "torn"] (defScope s_Moment_ways) := ⟨rfl, rfl, rfl, by decide +kernel, rfl, by decide +kernel, by decide +kernel⟩
def spWays (K : PySem.W.Frag) (G : Tb) : Sp := fun vs H Q _ => ∃ (b ta : Addr) (tn : List Str) (m : Mo), vs = [.ref b, .ref ta] ∧ MomW K (MC K) H tn b m ∧ SqT K H ta (tn.map V.str) ∧ MoFine tn m ∧ Tbs G H ∧
  ∀ l us H', Stp G [b] H H' → MomW K (MC K) H' tn b m → H' l = some (.lst us) → Vds K H' us ((waysM tn m).map chD) → (∃ C dx fs, H' b = some (.ins C dx fs)) → Q (.ref l) H'
theorem ok_ways (F : Fm K "Moment" "ways" s_Moment_ways f fd) (T : Tx K mg) (U_ways_to_fall : Use P w K mg base (L2.CX P w) "ways_to_fall" 8 ["disk", "epochs", "torn"] (spWaysToFall K G)) :
    FnOk P w K mg base (L2.CX P w) 9 f fd ["self", "torn"] (spWays K G) := by
  refine F.ok sc_Moment_ways (fun vs H Q E h => ?_) (fun cdv A outer s H vs Q E hr h => ?_)
  · obtain ⟨_, _, _, _, rfl, _⟩ := h
    rfl
  · obtain ⟨b, ta, tn, m, rfl, hm, qta, fi, ht, k⟩ := h
    refine ⟨_, PSs.nox (pss_cons (ps_cut (ps_if (pt_cmpR op_isN (pe_fld (pv 0) rfl) pe_non (nomark _)) (pss_one (ps_fld (pv 0) (pe_useL U_ways_to_fall hr (by first | decide | omega) (by rfl) (pa_cons (pe_fld (pv 0) rfl) (pa_cons (pe_fld (pv 0) rfl) (pa_cons (pv 1) pa_nil)))) rfl)) pss_nil))
      (pss_one (ps_ret (pe_fld (pv 0) rfl)))), ?_⟩
    obtain ⟨dx, pgv, syv, epv, wv, eb, h1, h2, h3, h4⟩ := id hm
    refine ⟨fun σ H' => σ = [some (.ref b), some (.ref ta)] ∧ Stp G [b] H H' ∧ ∃ l us, H' b = some (.ins (MC K) dx (mFs pgv syv epv (.ref l))) ∧ H' l = some (.lst us) ∧ Vds K H' us ((waysM tn m).map chD), ?_, ?_⟩
    · refine ⟨_, rfl, b, MC K, dx, _, _, rfl, eb, T.K_Moment, T.a_Moment__ways, rfl, rfl, _, rfl, ?_⟩
      rcases h4 with rfl | ⟨l, us, rfl, el, hus⟩
      · refine iteT ?_
        refine ⟨_, rfl, b, MC K, dx, _, _, rfl, eb, T.K_Moment, T.a_Moment_synced, rfl, ?_⟩
        refine ⟨_, rfl, b, MC K, dx, _, _, rfl, eb, T.K_Moment, T.a_Moment_epochs, rfl, _, rfl, ?_⟩
        refine ⟨syv, epv, ta, tn, m, rfl, h2, h3, qta, fi.n, fi.v, fi.e, fi.s, fi.l, ht, fun l us H1 S1 el hus fl => ?_⟩
        have eb1 := S1.k _ _ eb (by simp) fun _ z => by cases z
        refine ⟨_, rfl, b, MC K, dx, _, rfl, eb1, T.K_Moment, T.a_Moment__ways, (by show 4 < 1000; decide), ?_⟩
        have S2 : Stp G [b] H1 (upd H1 b (.ins (MC K) dx (mFs pgv syv epv (.ref l)))) := .put S1.t (by simp) eb1 notc_ins
        have nlb : l ∉ [b] := fun z => by
          rw [List.mem_singleton.mp z, eb1] at el
          cases el
        exact ⟨rfl, S1.up.trans S2, l, us, upd_same, S2.k _ _ el nlb (fun _ z => by cases z), hus.keep (noT_ins eb1) S2.k⟩
      · exact iteF ⟨rfl, .refl ht, l, us, eb, el, hus⟩
    · rintro σ H' ⟨rfl, S, l, us, eb', el, hus⟩
      refine ⟨_, rfl, b, MC K, dx, _, _, rfl, eb', T.K_Moment, T.a_Moment__ways, rfl, ?_⟩
      have nt := noT_ins eb
      exact k l us H' S ⟨dx, pgv, syv, epv, .ref l, eb', h1.keep nt S.k, h2.keep nt S.k, h3.keep nt S.k, .inr ⟨l, us, rfl, el, hus⟩⟩ el hus ⟨_, _, _, eb'⟩
/-- a run whose moments may have told their ways -/
def RunW (K : PySem.W.Frag) (H : Hp) (a : Addr) (r : RnD) (ta : Addr) (tn : List Str) (as : List Addr) : Prop := ∃ (dx l nl mp : Addr) (ev : V) (sv nv : List V), H a = some (.ins (RC K) dx [("_steps", .ref l), ("_notes", .ref nl), ("_end", ev), ("_moments", .ref mp), ("_torn", .ref ta)]) ∧
  H l = some (.lst sv) ∧ Vds K H sv (r.steps.map stD) ∧ H nl = some (.lst nv) ∧ Vds K H nv (r.notes.map ntD) ∧ Vd K H ev r.fin ∧ H mp = some (.lst (as.map V.ref)) ∧ Paired (MomW K (MC K) H tn) as r.ms ∧ Fun2 as r.ms ∧ SqT K H ta (tn.map V.str)
theorem RunW.run {H : Hp} {a : Addr} {r : RnD} {ta : Addr} {tn : List Str} {as : List Addr} (h : RunW K H a r ta tn as) : RunH K H a r := by
  obtain ⟨dx, l, nl, mp, ev, sv, nv, e1, e2, h2, e3, h3, h4, e5, h5, _⟩ := h
  exact ⟨dx, l, nl, mp, ev, .ref ta, sv, nv, as, e1, e2, h2, e3, h3, h4, e5, Paired.mapP h5 fun _ _ z => z.at⟩
theorem RunW.keep {fp : List Addr} {H H' : Hp} {a : Addr} {r : RnD} {ta : Addr} {tn : List Str} {as : List Addr} (h : RunW K H a r ta tn as) (hi : InsIn fp H) (ha : a ∉ fp) (hs : ∀ (j : Nat) b m, as[j]? = some b → r.ms[j]? = some m → b ∈ fp → MomW K (MC K) H' tn b m) (k : Keep fp H H') : RunW K H' a r ta tn as := by
  obtain ⟨dx, l, nl, mp, ev, sv, nv, e1, e2, h2, e3, h3, h4, e5, h5, h6, h7⟩ := h
  have kl : ∀ {b : Addr} {us : List V}, H b = some (.lst us) → H' b = some (.lst us) := fun e => k _ _ e (hi.lst e) fun _ z => by cases z
  refine ⟨dx, l, nl, mp, ev, sv, nv, k _ _ e1 ha (fun _ z => by cases z), kl e2, h2.keep hi.noT k, kl e3, h3.keep hi.noT k, h4.keep hi.noT k, kl e5, paired_ix h5 fun j b m hj1 hj2 z => ?_, h6, keep_sqT hi.noT k h7⟩
  by_cases hb : b ∈ fp
  · exact hs j b m hj1 hj2 hb
  · exact z.keep hi hb k
theorem RunW.ext {H H' : Hp} {a : Addr} {r : RnD} {ta : Addr} {tn : List Str} {as : List Addr} (h : RunW K H a r ta tn as) (k : Keep [] H H') : RunW K H' a r ta tn as := h.keep insIn_nil (by simp) (fun j b _ _ _ hb => by cases hb) k
theorem RunW.insIn {H : Hp} {a : Addr} {r : RnD} {ta : Addr} {tn : List Str} {as : List Addr} (h : RunW K H a r ta tn as) : InsIn as H := fun b hb => by
  obtain ⟨dx, l, nl, mp, ev, sv, nv, e1, e2, h2, e3, h3, h4, e5, h5, h6, h7⟩ := h
  obtain ⟨n, hn, hne⟩ := List.getElem_of_mem hb
  obtain ⟨m, _, d, p, s, e, wv, q, _⟩ := Paired.at1 h5 (List.getElem?_eq_getElem hn)
  rw [hne] at q
  exact ⟨_, _, _, q⟩
theorem runW_of {H : Hp} {a : Addr} {r : RnD} {ta : Addr} {tn : List Str} (h : RunHT K H a r ta) (q : SqT K H ta (tn.map V.str))  : ∃ as, RunW K H a r ta tn as := by
  obtain ⟨dx, l, nl, mp, ev, sv, nv, as, e1, e2, h2, e3, h3, h4, e5, h5, h6⟩ := h
  exact ⟨as, dx, l, nl, mp, ev, sv, nv, e1, e2, h2, e3, h3, h4, e5, Paired.mapP h5 (fun b m ⟨dx, p, s, e, q, g1, g2, g3⟩ => ⟨dx, p, s, e, .non, q, g1, g2, g3, .inl rfl⟩), h6, q⟩
def spMomW (K : PySem.W.Frag) (G : Tb) : Sp := fun vs H Q _ => ∃ (a ta : Addr) (r : RnD) (tn : List Str) (as : List Addr) (i : Nat), vs = [.ref a, .int (i : Nat)] ∧ RunW K H a r ta tn as ∧ i < r.ms.length ∧ Tbs G H ∧ ∀ b, as[i]? = some b → Q (.ref b) H
theorem ok_momentW (F : Fm K "Run" "_moment" s_Run__moment f fd) (T : Tx K mg) (U_Run__check_moment : UMeth P w K mg base (L2.CX P w) (RC K) "_check_moment" 3 ["self", "moment"] (spCheckMoment K G)) : FnOk P w K mg base (L2.CX P w) 4 f fd ["self", "moment"] (spMomW K G) := by
  refine F.ok sc_Run__moment (fun vs H Q E h => ?_) (fun cdv A outer s H vs Q E hr h => ?_)
  · obtain ⟨_, _, _, _, _, _, rfl, _⟩ := h
    rfl
  · obtain ⟨a, ta, r, tn, as, i, rfl, hrun, hi, ht, k⟩ := h
    refine ⟨_, (pss_cons (ps_expr (pe_um (pv 0) T.K_Run U_Run__check_moment hr (by first | decide | omega) (takes_of rfl rfl rfl rfl) (pa_cons (pv 1) pa_nil)))
      (pss_one (ps_ret (pe_ix ix_list (pe_fld (pv 0) rfl) (pv 1) (fun _ _ => rfl))))), ?_⟩
    obtain ⟨dx, l, nl, mp, ev, sv, nv, e1, e2, h2, e3, h3, h4, e5, h5, h6, h7⟩ := id hrun
    refine ⟨_, rfl, a, dx, _, rfl, e1, rfl, _, rfl, a, r, .int (i : Nat), .int (i : Nat), rfl, hrun.run, ⟨.int _, rfl⟩, ht, fun hb => ?_, fun hb => ?_⟩
    · have hlen : as.length = r.ms.length := Paired.length h5
      have hi' : i < as.length := by rw [hlen]; exact hi
      refine ⟨_, rfl, a, RC K, dx, _, _, rfl, e1, T.K_Run, T.a_Run__moments, rfl, _, rfl, mp, _, (i : Int), .ref as[i], rfl, rfl, SqL.of e5, atI_nat (by rw [List.getElem?_map, List.getElem?_eq_getElem hi'] <;> rfl), ?_⟩
      exact k _ (List.getElem?_eq_getElem hi')
    · rw [isMomB_nat] at hb
      exact absurd hi (of_decide_eq_false hb)
theorem sc_Run__ways_at : FnScope ["self", "moment"] ["self", "moment"] (defScope s_Run__ways_at) := ⟨rfl, rfl, rfl, by decide +kernel, rfl, by decide +kernel, by decide +kernel⟩
def spWaysAt (K : PySem.W.Frag) (G : Tb) : Sp := fun vs H Q _ => ∃ (a ta : Addr) (r : RnD) (tn : List Str) (as : List Addr) (i : Nat) (m : Mo), vs = [.ref a, .int (i : Nat)] ∧ RunW K H a r ta tn as ∧ r.ms[i]? = some m ∧ MoFine tn m ∧ Tbs G H ∧
  ∀ l us H', Stp G as H H' → RunW K H' a r ta tn as → H' l = some (.lst us) → Vds K H' us ((waysM tn m).map chD) → Q (.ref l) H'
theorem ok_ways_at (F : Fm K "Run" "_ways_at" s_Run__ways_at f fd) (T : Tx K mg) (U_Run__moment : UMeth P w K mg base (L2.CX P w) (RC K) "_moment" 4 ["self", "moment"] (spMomW K G)) (U_Moment_ways : UMeth P w K mg base (L2.CX P w) (MC K) "ways" 9 ["self", "torn"] (spWays K G)) :
    FnOk P w K mg base (L2.CX P w) 10 f fd ["self", "moment"] (spWaysAt K G) := by
  refine F.ok sc_Run__ways_at (fun vs H Q E h => ?_) (fun cdv A outer s H vs Q E hr h => ?_)
  · obtain ⟨_, _, _, _, _, _, _, rfl, _⟩ := h
    rfl
  · obtain ⟨a, ta, r, tn, as, i, m, rfl, hrun, hm, fi, ht, k⟩ := h
    refine ⟨_, PSs.nox (pss_one (ps_ret (pe_um' (pe_um' (pv 0) T.K_Run U_Run__moment hr (by first | decide | omega) (pa_cons (pv 1) pa_nil)) T.K_Moment U_Moment_ways hr (by first | decide | omega) (pa_cons (pe_fld (pv 0) rfl) pa_nil)))), ?_⟩
    obtain ⟨dx, l, nl, mp, ev, sv, nv, e1, e2, h2, e3, h3, h4, e5, h5, h6, h7⟩ := id hrun
    refine ⟨_, rfl, a, dx, _, rfl, e1, rfl, _, rfl, a, ta, r, tn, as, i, rfl, hrun, (List.getElem?_eq_some_iff.mp hm).1, ht, fun b hb => ?_⟩
    have hbm : MomW K (MC K) H tn b m := Paired.get h5 hb hm
    obtain ⟨bdx, p, s, e, wv, eb, _⟩ := id hbm
    refine ⟨b, bdx, _, rfl, eb, rfl, _, rfl, a, RC K, dx, _, _, rfl, e1, T.K_Run, T.a_Run__torn, rfl, b, ta, tn, m, rfl, hbm, h7, fi, ht, fun lw us H' S hm' elw hus _ => ?_⟩
    have hins : InsIn [b] H := fun c hc => by
      rw [List.mem_singleton.mp hc]
      exact ⟨_, _, _, eb⟩
    refine k lw us H' (S.mono fun c hc => by rw [List.mem_singleton.mp hc]; exact List.mem_of_getElem? hb) ?_ elw hus
    refine hrun.keep hins (fun z => ?_) (fun j c m' hj1 hj2 hc => ?_) S.k
    · rw [List.mem_singleton.mp z, eb] at e1
      cases congrArg List.length (ins_fs e1)
    · rw [List.mem_singleton.mp hc] at hj1 ⊢
      rw [h6 j i b m' m hj1 hj2 hb hm]
      exact hm'
theorem sc_Run_kept_at : FnScope ["self", "moment", "kept", "_"] ["self", "moment"] (defScope s_Run_kept_at) := ⟨rfl, rfl, rfl, by decide +kernel, rfl, by decide +kernel, by decide +kernel⟩
def spKeptAt (K : PySem.W.Frag) (G : Tb) : Sp := fun vs H Q _ => ∃ (a ta : Addr) (r : RnD) (tn : List Str) (as : List Addr) (i : Nat) (m : Mo), vs = [.ref a, .int (i : Nat)] ∧ RunW K H a r ta tn as ∧ r.ms[i]? = some m ∧ MoFine tn m ∧ Tbs G H ∧
  ∀ q us H1 H', Stp G as H H1 → RunW K H1 a r ta tn as → Stp G [] H1 H' → H' q = some (.lst us) → Vds K H' us ((waysM tn m).map keptD) → Fr0 H1 q → Q (.ref q) H'
theorem ok_kept_at (F : Fm K "Run" "kept_at" s_Run_kept_at f fd) (T : Tx K mg) (U_Run__ways_at : UMeth P w K mg base (L2.CX P w) (RC K) "_ways_at" 10 ["self", "moment"] (spWaysAt K G)) :
    FnOk P w K mg base (L2.CX P w) 11 f fd ["self", "moment"] (spKeptAt K G) := by
  refine F.ok sc_Run_kept_at (fun vs H Q E h => ?_) (fun cdv A outer s H vs Q E hr h => ?_)
  · obtain ⟨_, _, _, _, _, _, _, rfl, _⟩ := h
    rfl
  · obtain ⟨a, ta, r, tn, as, i, m, rfl, hrun, hm, fi, ht, k⟩ := h
    refine ⟨_, PSs.nox (pss_one (ps_ret (pe_lc (g := (gTup K 3 (gCons (gName 2) (gCons (gName 3) (gCons (gName 3) gNil))))) (own := [("kept", 2), ("_", 3)]) (tt := tYes) rfl sc_Run_kept_at.nd (pi_list (pe_um' (pv 0) T.K_Run U_Run__ways_at hr (by first | decide | omega) (pa_cons (pv 1) pa_nil))) (blkOk_by (N := ["self", "moment", "kept", "_"]) (sc := defScope s_Run_kept_at) (by decide +kernel)) (fun _ _ _ _ _ => (pg_tup rfl (pgs_cons (pg_name (i := 2) sc_Run_kept_at.nd rfl (Or.inl rfl) (hf := .inr rfl)) (pgs_cons (pg_name (i := 3) sc_Run_kept_at.nd rfl (Or.inl rfl) (hf := .inr rfl)) (pgs_cons (pg_name (i := 3) sc_Run_kept_at.nd rfl (Or.inl rfl) (hf := .inr rfl)) pgs_nil))))) (fun _ _ _ _ _ => pts_nil) (fun _ _ _ _ _ => (pv 2))))), ?_⟩
    obtain ⟨dx, l, nl, mp, ev, sv, nv, e1, e2, h2, e3, h3, h4, e5, h5, h6, h7⟩ := id hrun
    have hins := hrun.insIn
    refine ⟨_, rfl, a, dx, _, rfl, e1, rfl, _, rfl, a, ta, r, tn, as, i, m, rfl, hrun, hm, fi, ht, fun lw us H1 S1 hrun1 elw hus => ?_⟩
    refine ⟨lw, rfl, ⟨_, SqL.of elw⟩, fun D hD => ?_⟩
    obtain ⟨HD, hHD⟩ : ∃ X, X = upd H1 D (.lst []) := ⟨_, rfl⟩
    have SD : Stp G [] H1 HD := by rw [hHD]; exact .new S1.t hD
    have eD : HD D = some (.lst []) := by rw [hHD]; exact upd_same
    have ntD0 := noT_lst eD
    have nlD : lw ≠ D := ne_of_none elw hD
    have hul := hus.len
    rw [List.length_map] at hul
    have hbig := fi.l
    refine lc_it (walk_list (xs := us)) (fun j H' => Stp G [D] HD H' ∧ ∃ ac, H' D = some (.lst ac) ∧ ac.length = j ∧ Vds K H' ac (((waysM tn m).map keptD).take j))
      (by rw [← hHD]; exact ⟨.refl SD.t, [], eD, rfl, .nil⟩) (fun j H' _ h => SqL.of (h.1.k _ _ (SD.k _ _ elw (by simp) fun _ z => by cases z) (by simp; exact nlD) fun _ z => by cases z)) (fun j x H3 H4 hj h hyy => ?_) (fun H3 h => ?_)
    · obtain ⟨S3, ac, eac, hal, hac⟩ := h
      obtain ⟨rfl, hx⟩ := hyy
      obtain ⟨dd, hdd, vd⟩ := hus.at hx
      have hj' : j < (waysM tn m).length := by omega
      have hcj := List.getElem?_eq_getElem hj'
      rw [List.getElem?_map, hcj] at hdd
      generalize (waysM tn m)[j] = c at *
      obtain rfl : chD c = dd := Option.some.inj hdd
      obtain ⟨ca, cs, rfl, qc, hcs⟩ := Vd.untup (ds := [keptD c, .tuple (c.map Wy.pg), .tuple (c.map fun x => sgnD x.v)]) ((vd.ext SD.k).keep ntD0 S3.k)
      cases hcs with
      | cons g1 hcs =>
        cases hcs with
        | cons g2 hcs =>
          cases hcs with
          | cons g3 hcs =>
            cases hcs with
            | nil =>
              refine ⟨ca, _, rfl, qc, rfl, _, _, rfl, _, _, rfl, _, _, rfl, rfl, by kernel_rfl, ?_⟩
              refine iteT (B := Stp G [D] HD H4 ∧ ∃ ac, H4 D = some (.lst ac) ∧ ac.length = j + 1 ∧ Vds K H4 ac (((waysM tn m).map keptD).take (j + 1))) ?_
              refine ⟨_, rfl, ac, eac, Nat.lt_of_lt_of_le (show ac.length < 10000000 by omega) (by decide), ?_⟩
              have S5 : ∀ u, Stp G [D] H4 (upd H4 D (.lst (ac ++ [u]))) := fun u => .put S3.t (by simp) eac notc_lst
              refine ⟨S3.trans (S5 _), _, upd_same, by rw [List.length_append, hal] <;> rfl, ?_⟩
              have hset : ((waysM tn m).map keptD)[j]? = some (keptD c) := by rw [List.getElem?_map, hcj] <;> rfl
              rw [take_succ' hset]
              exact Vds.keep (noT_lst eac) (S5 _).k (hac.snoc g1)
    · obtain ⟨S3, ac, eac, hal, hac⟩ := h
      rw [List.take_of_length_le (by rw [List.length_map]; omega)] at hac
      have S13 : Stp G [] H1 H3 := Stp.hide SD.k S3 (fr0_none hD)
      exact k D ac H1 H3 S1 hrun1 S13 eac hac (fr0_none hD)
end
end K10

namespace K10
open PySem PySem.Spec PyProof.Rows L2 XV XL UU CC FW GX GxR
section
variable {P : Program} {w : World} {K : PySem.W.Frag} {mg : Str → Option Value} {base : Heap} {f c0 P0 : Addr} {fd : FuncData} {G : Tb}
theorem sc_check_limit : FnScope ["limit", "highest"] ["limit", "highest"] (defScope s_check_limit) := ⟨rfl, rfl, rfl, by decide +kernel, rfl, by decide +kernel, by decide +kernel⟩
def spCheckLimit : Sp := fun vs H Q _ => ∃ a b : Int, vs = [.int a, .int b] ∧ 1 ≤ a ∧ a ≤ b ∧ Q .non H
theorem ok_check_limit (F : Fn K "_check_limit" s_check_limit f fd) (T : Tx K mg) (U_is_integer : Use P w K mg base (L2.CX P w) "is_integer" 1 ["thing"] (spIsInteger K)) : FnOk P w K mg base (L2.CX P w) 2 f fd ["limit", "highest"] spCheckLimit := by
  refine F.ok sc_check_limit (fun vs H Q E h => ?_) (fun cdv A outer s H vs Q E hr h => ?_)
  · obtain ⟨_, _, rfl, _⟩ := h
    rfl
  · obtain ⟨a, b, rfl, h1, h2, k⟩ := h
    refine ⟨_, PSs.nox (pss_one (ps_if (PW.pt (pw_or (pt_not (pt_val (pe_useL U_is_integer hr (by first | decide | omega) (by rfl) (pa_cons (pv 0) pa_nil)))) (pw_or1 (pt_not (pt_chain op_le op_le pe_int (pv 0) (pv 1)))))) (pss_one ps_never) pss_nil)), ?_⟩
    refine ⟨_, rfl, .int a, .int a, rfl, .int a, _, rfl, iteF ?_⟩
    refine ⟨_, rfl, _, _, rfl, rfl, _, rfl, ?_⟩
    rw [decide_eq_true h1]
    refine iteT ⟨_, rfl, _, _, rfl, rfl, _, rfl, ?_⟩
    rw [decide_eq_true h2]
    exact iteF k
theorem sc_is_word : FnScope ["name", "sign"] ["name"] (defScope s_is_word) := ⟨rfl, rfl, rfl, by decide +kernel, rfl, by decide +kernel, by decide +kernel⟩
def spIsWord (G : Tb) : Sp := fun vs H Q _ => ∃ n : Str, vs = [.str n] ∧ wordB n = true ∧ Tbs G H ∧ ∀ H', Stp G [] H H' → Q (.bl true) H'
theorem ok_is_word (F : Fn K "_is_word" s_is_word f fd) (hc : fd.code = .ref c0) (TB : TabB base mg c0 P0) (hP : P0 ∈ G.gp) (hl : ∀ p ∈ G.lt, p.1 ≠ P0) (T : Tx K mg) : FnOk P w K mg base (L2.CX P w) 3 f fd ["name"] (spIsWord G) := by
  obtain ⟨_, m_LETTERS_OF_WORD⟩ := T.m_LETTERS_OF_WORD
  refine okC F hc sc_is_word (fun vs H Q E h => ?_) (fun A outer s H vs Q E hr h => ?_)
  · obtain ⟨_, rfl, _⟩ := h
    rfl
  · obtain ⟨n, rfl, hw, ht, k⟩ := h
    refine ⟨_, PSs.nox (pss_cons (ps_if (PW.pt (pw_or (pt_not (pt_val (pe_callB call_isD (by rfl) T.n_isinstance (by decide +kernel) (pa_cons (pv 0) (pa_cons (pe_bltn (v := .ty "str") (by rfl) T.n_str (by decide +kernel) rfl) pa_nil))))) (pw_or1 (pt_not (pt_chain op_le op_le pe_int (pe_callB call_len_str (by rfl) T.n_len (by decide +kernel) (pa_cons (pv 0) pa_nil)) (pe_glob (v := .int _) (by rfl) m_LETTERS_OF_WORD ⟨_, rfl⟩)))))) (pss_one (ps_ret pe_bl)) pss_nil)
      (pss_one (ps_ret (GX.pe_allG (own := [("sign", 1)]) (tt := tYes) (k := 0) (hr.mono (by first | decide | omega)) (by rfl) T.n_all TB rfl sc_is_word.nd (blkOk_by (N := ["name", "sign"]) (sc := defScope s_is_word) (by decide +kernel)) (pi_str (pv 0)) (fun _ _ _ _ _ _ _ hr => (pg_name (i := 1) sc_is_word.nd rfl (Or.inl rfl) (hf := .inr rfl))) (fun _ _ _ _ _ _ _ hr => pts_nil) (fun _ _ _ _ _ _ _ hr => (pe_chain op_le_str op_le_str pe_str (pv 1) pe_str)))))), ?_⟩
    obtain ⟨hw12, hw3⟩ := Bool.and_eq_true_iff.mp (show (_ && _) = true from hw)
    obtain ⟨hw1, hw2⟩ := Bool.and_eq_true_iff.mp hw12
    have h1 := of_decide_eq_true hw1
    have h2 := of_decide_eq_true hw2
    refine ⟨_, rfl, _, _, .str n, rfl, .str n, by kernel_rfl, _, rfl, ?_⟩
    rw [show isB (tyS (.str n)) ["str"] = true from by kernel_rfl]
    refine iteF ?_
    refine ⟨_, rfl, n, rfl, Nat.le_trans h2 (by decide), _, _, rfl, rfl, _, rfl, ?_⟩
    rw [show decide ((1 : Int) ≤ (n.length : Nat)) = true from decide_eq_true (by omega)]
    refine iteT ⟨_, _, rfl, rfl, _, rfl, ?_⟩
    rw [show decide (((n.length : Nat) : Int) ≤ 8) = true from decide_eq_true (by omega)]
    refine iteF ?_
    refine ⟨_, rfl, n, rfl, ht.g _ hP, fun H2 hT => ?_⟩
    have S2 : Stp G [] H H2 := .tab ht hP hl hT
    refine gx_it walk_str (fun i _ H' => Stp G [] H H') S2 (fun _ _ _ _ _ => True.intro) (fun i x b H3 H4 hi h hy => ?_) (fun b H' h => k H' h)
    obtain ⟨rfl, c, hcx, rfl⟩ := hy
    have hmem : c ∈ n.cps.toList := by
      rw [← Array.getElem?_toList] at hcx
      exact List.mem_of_getElem? hcx
    obtain ⟨l1, l2⟩ := Bool.and_eq_true_iff.mp (List.all_eq_true.mp hw3 c hmem)
    refine ⟨rfl, yesI ?_⟩
    refine ⟨_, rfl, _, _, rfl, rfl, _, rfl, ?_⟩
    rw [show (!decide ((⟨#[c]⟩ : Str).cps.toList < ("a" : Str).cps.toList)) = true from l1]
    refine iteT ⟨_, _, rfl, rfl, ?_⟩
    rw [show (!decide (("z" : Str).cps.toList < (⟨#[c]⟩ : Str).cps.toList)) = true from l2]
    exact ⟨true, rfl, allT h⟩
theorem sc_check_names : FnScope ["pages", "name"] ["pages"] (defScope s_check_names) := ⟨rfl, rfl, rfl, by decide +kernel, rfl, by decide +kernel, by decide +kernel⟩
def spCheckNames (K : PySem.W.Frag) (G : Tb) : Sp := fun vs H Q _ => ∃ (a : Addr) (kvs : List (Key × V)) (ps : Pgs), vs = [.ref a] ∧ H a = some (.dK kvs) ∧ KvD K H kvs ps ∧ (∀ p ∈ ps, wordB p.1 = true) ∧ Tbs G H ∧ ∀ H', Stp G [] H H' → Q .non H'
theorem kvD_at {H : Hp} {kvs : List (Key × V)} {ps : Pgs} {i : Nat} {q : Key × V} (h : KvD K H kvs ps) (e : kvs[i]? = some q) : ∃ p, ps[i]? = some p ∧ p ∈ ps ∧ q.1 = .inr p.1 ∧ Vd K H q.2 p.2 := by
  induction h generalizing i with
  | nil => simp at e
  | @cons a b as bs h t ih =>
    cases i with
    | zero =>
      simp at e
      subst e
      exact ⟨b, rfl, by simp, h.1, h.2⟩
    | succ i =>
      obtain ⟨p, h1, h2, h3, h4⟩ := ih (i := i) (by simpa using e)
      exact ⟨p, by simpa using h1, by simp [h2], h3, h4⟩
theorem ok_check_names (F : Fn K "_check_names" s_check_names f fd) (T : Tx K mg) (U_is_word : Use P w K mg base (L2.CX P w) "_is_word" 3 ["name"] (spIsWord G)) : FnOk P w K mg base (L2.CX P w) 4 f fd ["pages"] (spCheckNames K G) := by
  refine F.ok sc_check_names (fun vs H Q E h => ?_) (fun cdv A outer s H vs Q E hr h => ?_)
  · obtain ⟨_, _, _, rfl, _⟩ := h
    rfl
  · obtain ⟨a, kvs, ps, rfl, e, kv, hw, ht, k⟩ := h
    refine ⟨_, PSs.nox (pss_one (ps_lock (ps_for PassesOwn.never rfl (pi_keys (pv 0)) (pg_name (i := 1) sc_check_names.nd rfl (Or.inl rfl))
      (pss_one (ps_if (pt_not (pt_val (pe_useL U_is_word hr (by first | decide | omega) (by rfl) (pa_cons (pv 1) pa_nil)))) (pss_one ps_never) pss_nil))))), ?_⟩
    refine ⟨a, _, e, True.intro, fun od => ?_⟩
    have t1 : Tbs G (upd H a (.frz od (.dK kvs))) := lock_tbs ht e notc_dK
    refine ⟨_, rfl, a, od, rfl, .inl ⟨kvs, upd_same, ?_⟩⟩
    refine for_it walk_keys (fun i σ H' => (∃ x, σ = [some (.ref a), x]) ∧ Stp G [] (upd H a (.frz od (.dK kvs))) H') ⟨⟨_, rfl⟩, .refl t1⟩ (fun i σ H' _ h => h.2.k _ _ upd_same (by simp) fun _ z => by cases z) (fun i x σ H3 H4 hi h hy => ?_) (fun σ H' h => ?_)
    · obtain ⟨⟨x0, rfl⟩, S3⟩ := h
      obtain ⟨rfl, kk, v, hkv, rfl⟩ := hy
      obtain ⟨p, _, hp, ek, _⟩ := kvD_at kv hkv
      dsimp only at ek
      subst ek
      refine ⟨_, rfl, p.1, rfl, hw p hp, S3.t, fun H5 S5 => ⟨_, rfl, iteF ?_⟩⟩
      exact ⟨⟨_, rfl⟩, S3.trans S5⟩
    · have e' := h.2.k _ _ upd_same (by simp) fun _ z => by cases z
      exact ⟨e', k _ (lock_stp e notc_dK h.2 e')⟩
theorem sc_check_torn : FnScope ["torn", "pages", "stood", "name"] ["torn", "pages"] (defScope s_check_torn) := ⟨rfl, rfl, rfl, by decide +kernel, rfl, by decide +kernel, by decide +kernel⟩
/-- all that may be torn are pages, each once -/
structure TornOk (ps : Pgs) (tn : List Str) : Prop where
  nd : tn.Nodup
  inn : ∀ n ∈ tn, n ∈ ps.map (·.1)
  few : tn.length < 64
def spCheckTorn (K : PySem.W.Frag) (G : Tb) : Sp := fun vs H Q _ => ∃ (a pg : Addr) (kvs : List (Key × V)) (ps : Pgs) (tn : List Str), vs = [.ref a, .ref pg] ∧ (SqL K H a (tn.map V.str) ∨ SqT K H a (tn.map V.str)) ∧ H pg = some (.dK kvs) ∧ KvD K H kvs ps ∧ TornOk ps tn ∧ Tbs G H ∧ ∀ H', Stp G [] H H' → Q .non H'
theorem ok_check_torn (F : Fn K "_check_torn" s_check_torn f fd) (T : Tx K mg) : FnOk P w K mg base (L2.CX P w) 1 f fd ["torn", "pages"] (spCheckTorn K G) := by
  refine F.ok sc_check_torn (fun vs H Q E h => ?_) (fun cdv A outer s H vs Q E hr h => ?_)
  · obtain ⟨_, _, _, _, _, rfl, _⟩ := h
    rfl
  · obtain ⟨a, pg, kvs, ps, tn, rfl, hs, epg, hkv, tok, ht, k⟩ := h
    refine ⟨_, PSs.nox (pss_cons (ps_set (i := 2) sc_check_torn.nd rfl (Or.inl rfl) pe_dnewK)
      (pss_one (ps_for PassesOwn.never rfl (CC.pi_or (pi_list (pv 0)) (pi_tup (pv 0))) (pg_name (i := 3) sc_check_torn.nd rfl (Or.inl rfl))
      (pss_cons (ps_if (PW.pt (pw_or (pt_not (pt_val (pe_callB call_isD (by rfl) T.n_isinstance (by decide +kernel) (pa_cons (pv 3) (pa_cons (pe_bltn (v := .ty "str") (by rfl) T.n_str (by decide +kernel) rfl) pa_nil))))) (pw_or (pt_cmp (pc_dnotin (hu_of hr) (pv 3) (pv 1))) (pw_or1 (pt_cmp (pc_din (hu_of hr) (pv 3) (pv 2))))))) (pss_one ps_never) pss_nil)
      (pss_one (ps_dput (hu_of hr) (pv 2) (pv 3) pe_bl rfl)))))), ?_⟩
    refine fun d hd => ?_
    have S1 := FW.Stp.new (fp := []) (o := (.dK [])) ht hd
    have e1 : L2.upd H d (.dK []) d = some (.dK []) := L2.upd_same
    generalize L2.upd H d (.dK []) = H1 at *
    have npd : pg ≠ d := ne_of_none epg hd
    rcases hs with hs | hs
    · refine .inl ⟨_, rfl, a, rfl, ⟨_, sqL_ext S1.k.ext hs⟩, ?_⟩
      refine for_it (walk_list (xs := tn.map V.str)) (fun i σ H' => (∃ x, σ = [some (.ref a), some (.ref pg), some (.ref d), x]) ∧ Stp G [] H H' ∧ ∃ sv ss, H' d = some (.dK sv) ∧ KvD K H' sv ss ∧ ss.map (·.1) = tn.take i)
        ⟨⟨_, rfl⟩, S1, [], [], e1, .nil, rfl⟩ (fun i σ H' _ h => sqL_ext h.2.1.k.ext hs) (fun i x σ H3 H4 hi h hy => ?_) (fun σ H' h => k _ h.2.1)
      obtain ⟨⟨x0, rfl⟩, S3, sv, ss, ed, hsv, hss⟩ := h
      obtain ⟨rfl, hx⟩ := hy
      rw [List.getElem?_map] at hx
      obtain ⟨n, hn, rfl⟩ := Option.map_eq_some_iff.mp hx
      have hin := tok.inn n (List.mem_of_getElem? hn)
      obtain ⟨dv, hdv⟩ := pgGet_in hin
      have epg3 := S3.k _ _ epg (by simp) fun _ z => by cases z
      have hkv3 := hkv.keep noT_nil S3.k
      obtain ⟨u, hu, _⟩ := (kvD_get (n := n) hkv3).1 dv hdv
      have hnone : pgGet ss n = none := pgGet_none (by
        rw [hss]
        intro z
        obtain ⟨j, hj, e⟩ := List.getElem_of_mem z
        rw [List.length_take] at hj
        have hji : j < i := by omega
        rw [List.getElem_take] at e
        have hit : i < tn.length := (List.getElem?_eq_some_iff.mp hn).1
        have e2 : tn[i] = n := (List.getElem?_eq_some_iff.mp hn).2
        have := (List.getElem_inj tok.nd).mp (e.trans e2.symm)
        omega)
      have hno := (kvD_get (n := n) hsv).2 hnone
      refine ⟨_, rfl, _, _, .str n, rfl, .str n, by kernel_rfl, ?_⟩
      rw [show isB (tyS (.str n)) ["str"] = true from by kernel_rfl]
      refine ⟨_, rfl, iteF ⟨_, rfl, _, rfl, pg, _, rfl, DGet.k (k := Sum.inr n) epg3, ?_⟩⟩
      rw [hu]
      refine ⟨_, rfl, iteF ⟨_, rfl, _, rfl, d, _, rfl, DGet.k (k := Sum.inr n) ed, ?_⟩⟩
      rw [hno]
      refine ⟨_, rfl, iteF ?_⟩
      have hsl : ss.length ≤ 64 := by
        have := congrArg List.length hss
        rw [List.length_map, List.length_take] at this
        have := tok.few
        omega
      refine ⟨_, rfl, _, rfl, d, _, rfl, DPut.k (k := Sum.inr n) ed (by rw [hsv.len]; exact Nat.lt_of_le_of_lt hsl (by decide)), ?_⟩
      have S4 : Stp G [d] H4 (upd H4 d (.dK (putK sv (.inr n) (.bl true)))) := .put S3.t (by simp) ed notc_dK
      have nt : NoT [d] H4 := fun b hb => by
        rw [List.mem_singleton.mp hb, ed]
        exact ⟨(fun _ z => by cases z), fun _ _ z => by cases z⟩
      refine ⟨⟨_, rfl⟩, Stp.fresh S3.k S4 (fun b hb => by rw [List.mem_singleton.mp hb]; exact fr0_none hd), _, ss ++ [(n, .bool true)], upd_same, (kvD_new (d := .bool true) ⟨.bl true, rfl⟩ hsv hnone).keep nt S4.k, ?_⟩
      rw [List.map_append, hss, take_succ' hn] <;> rfl
    · refine .inr ⟨_, rfl, a, rfl, ⟨_, sqT_ext S1.k.ext hs⟩, ?_⟩
      refine for_it (walk_tup (xs := tn.map V.str)) (fun i σ H' => (∃ x, σ = [some (.ref a), some (.ref pg), some (.ref d), x]) ∧ Stp G [] H H' ∧ ∃ sv ss, H' d = some (.dK sv) ∧ KvD K H' sv ss ∧ ss.map (·.1) = tn.take i)
        ⟨⟨_, rfl⟩, S1, [], [], e1, .nil, rfl⟩ (fun i σ H' _ h => sqT_ext h.2.1.k.ext hs) (fun i x σ H3 H4 hi h hy => ?_) (fun σ H' h => k _ h.2.1)
      obtain ⟨⟨x0, rfl⟩, S3, sv, ss, ed, hsv, hss⟩ := h
      obtain ⟨rfl, hx⟩ := hy
      rw [List.getElem?_map] at hx
      obtain ⟨n, hn, rfl⟩ := Option.map_eq_some_iff.mp hx
      have hin := tok.inn n (List.mem_of_getElem? hn)
      obtain ⟨dv, hdv⟩ := pgGet_in hin
      have epg3 := S3.k _ _ epg (by simp) fun _ z => by cases z
      have hkv3 := hkv.keep noT_nil S3.k
      obtain ⟨u, hu, _⟩ := (kvD_get (n := n) hkv3).1 dv hdv
      have hnone : pgGet ss n = none := pgGet_none (by
        rw [hss]
        intro z
        obtain ⟨j, hj, e⟩ := List.getElem_of_mem z
        rw [List.length_take] at hj
        have hji : j < i := by omega
        rw [List.getElem_take] at e
        have hit : i < tn.length := (List.getElem?_eq_some_iff.mp hn).1
        have e2 : tn[i] = n := (List.getElem?_eq_some_iff.mp hn).2
        have := (List.getElem_inj tok.nd).mp (e.trans e2.symm)
        omega)
      have hno := (kvD_get (n := n) hsv).2 hnone
      refine ⟨_, rfl, _, _, .str n, rfl, .str n, by kernel_rfl, ?_⟩
      rw [show isB (tyS (.str n)) ["str"] = true from by kernel_rfl]
      refine ⟨_, rfl, iteF ⟨_, rfl, _, rfl, pg, _, rfl, DGet.k (k := Sum.inr n) epg3, ?_⟩⟩
      rw [hu]
      refine ⟨_, rfl, iteF ⟨_, rfl, _, rfl, d, _, rfl, DGet.k (k := Sum.inr n) ed, ?_⟩⟩
      rw [hno]
      refine ⟨_, rfl, iteF ?_⟩
      have hsl : ss.length ≤ 64 := by
        have := congrArg List.length hss
        rw [List.length_map, List.length_take] at this
        have := tok.few
        omega
      refine ⟨_, rfl, _, rfl, d, _, rfl, DPut.k (k := Sum.inr n) ed (by rw [hsv.len]; exact Nat.lt_of_le_of_lt hsl (by decide)), ?_⟩
      have S4 : Stp G [d] H4 (upd H4 d (.dK (putK sv (.inr n) (.bl true)))) := .put S3.t (by simp) ed notc_dK
      have nt : NoT [d] H4 := fun b hb => by
        rw [List.mem_singleton.mp hb, ed]
        exact ⟨(fun _ z => by cases z), fun _ _ z => by cases z⟩
      refine ⟨⟨_, rfl⟩, Stp.fresh S3.k S4 (fun b hb => by rw [List.mem_singleton.mp hb]; exact fr0_none hd), _, ss ++ [(n, .bool true)], upd_same, (kvD_new (d := .bool true) ⟨.bl true, rfl⟩ hsv hnone).keep nt S4.k, ?_⟩
      rw [List.map_append, hss, take_succ' hn] <;> rfl
theorem sc_check_values : FnScope ["pages", "name"] ["pages"] (defScope s_check_values) := ⟨rfl, rfl, rfl, by decide +kernel, rfl, by decide +kernel, by decide +kernel⟩
def spCheckValues (K : PySem.W.Frag) (G : Tb) (m : Nat) : Sp := fun vs H Q _ => ∃ (a : Addr) (kvs : List (Key × V)) (ps : Pgs), vs = [.ref a] ∧ H a = some (.dK kvs) ∧ KvD K H kvs ps ∧ (ps.map (·.1)).Nodup ∧ (∀ p ∈ ps, Sml m p.2) ∧ Tbs G H ∧ ∀ H', Stp G [] H H' → Q .non H'
theorem pgGet_nd {ps : Pgs} {p : Str × PyData} (nd : (ps.map (·.1)).Nodup) (h : p ∈ ps) : pgGet ps p.1 = some p.2 := by
  induction ps with
  | nil => cases h
  | cons q r ih =>
    rw [List.map_cons, List.nodup_cons] at nd
    unfold pgGet
    rcases List.mem_cons.mp h with rfl | h
    · rw [List.lookup_cons]; simp
    · have : ¬ p.1 = q.1 := fun z => nd.1 (by rw [← z]; exact List.mem_map_of_mem h)
      rw [List.lookup_cons, show (p.1 == q.1) = false by simpa using this]
      exact ih nd.2 h
theorem ok_check_values (F : Fn K "_check_values" s_check_values f fd) (T : Tx K mg) (m N0 : Nat) (U_is_value : Use P w K mg base (L2.CX P w) "is_value" N0 ["thing"] (spIsValue K G m)) : FnOk P w K mg base (L2.CX P w) (N0 + 1) f fd ["pages"] (spCheckValues K G m) := by
  refine F.ok sc_check_values (fun vs H Q E h => ?_) (fun cdv A outer s H vs Q E hr h => ?_)
  · obtain ⟨_, _, _, rfl, _⟩ := h
    rfl
  · obtain ⟨a, kvs, ps, rfl, e, kv, nd, hw, ht, k⟩ := h
    refine ⟨_, PSs.nox (pss_one (ps_lock (ps_for PassesOwn.never rfl (pi_keys (pv 0)) (pg_name (i := 1) sc_check_values.nd rfl (Or.inl rfl))
      (pss_one (ps_if (pt_not (pt_val (pe_useL U_is_value hr (by first | decide | omega) (by rfl) (pa_cons (pe_dget (hu_of hr) (pv 0) (pv 1) (fun _ _ => rfl)) pa_nil)))) (pss_one ps_never) pss_nil))))), ?_⟩
    refine ⟨a, _, e, True.intro, fun od => ?_⟩
    have t1 : Tbs G (upd H a (.frz od (.dK kvs))) := lock_tbs ht e notc_dK
    have kv1 : KvD K (upd H a (.frz od (.dK kvs))) kvs ps := lock_kv e (fun _ z => by cases z) (fun _ _ z => by cases z) kv
    have e1 : upd H a (.frz od (.dK kvs)) a = some (.frz od (.dK kvs)) := upd_same
    refine ⟨_, rfl, a, od, rfl, .inl ⟨kvs, upd_same, ?_⟩⟩
    refine for_it walk_keys (fun i σ H' => (∃ x, σ = [some (.ref a), x]) ∧ Stp G [] (upd H a (.frz od (.dK kvs))) H') ⟨⟨_, rfl⟩, .refl t1⟩ (fun i σ H' _ h => h.2.k _ _ upd_same (by simp) fun _ z => by cases z) (fun i x σ H3 H4 hi h hy => ?_) (fun σ H' h => ?_)
    · obtain ⟨⟨x0, rfl⟩, S3⟩ := h
      obtain ⟨rfl, kk, v, hkv, rfl⟩ := hy
      obtain ⟨p, _, hp, ek, _⟩ := kvD_at kv hkv
      dsimp only at ek
      subst ek
      have kv4 := kv1.keep noT_nil S3.k
      have e4 := S3.k _ _ e1 (by simp) fun _ z => by cases z
      obtain ⟨u, hu, vu⟩ := (kvD_get (n := p.1) kv4).1 p.2 (pgGet_nd nd hp)
      refine ⟨_, rfl, _, rfl, a, u, rfl, .inl ⟨kvs, .inr p.1, .inr ⟨od, e4⟩, rfl, hu.symm⟩, ?_⟩
      refine ⟨u, p.2, rfl, vu.dp, hw p hp, S3.t, fun H5 S5 => ⟨_, rfl, ?_⟩⟩
      rw [vu.val]
      exact iteF ⟨⟨_, rfl⟩, S3.trans S5⟩
    · have e' := h.2.k _ _ upd_same (by simp) fun _ z => by cases z
      exact ⟨e', k _ (lock_stp e notc_dK h.2 e')⟩
theorem sc_Plan___init__ : FnScope ["self", "work", "mend", "pages", "torn", "longest", "most", "name"] ["self", "work", "mend", "pages", "torn", "longest", "most"] (defScope s_Plan___init__) := ⟨rfl, rfl, rfl, by decide +kernel, rfl, by decide +kernel, by decide +kernel⟩
def plKw (ta : Addr) : List (Str × V) := [("torn", .ref ta), ("longest", .int 40), ("most", .int 400)]
def spPlan0 (K : PySem.W.Frag) (G : Tb) (m : Nat) (ra : Addr) : Sp := fun vs H Q _ => ∃ (r dx fw gw pg ta : Addr) (mv : V) (L M : Int) (kvs : List (Key × V)) (ps : Pgs) (tn : List Str), vs = [.ref r, .ref fw, mv, .ref pg, .ref ta, .int L, .int M] ∧ H r = some (.ins (PC' K) dx []) ∧ ((mv = .ref gw) ∨ (mv = .non ∧ gw = ra)) ∧
  H pg = some (.dK kvs) ∧ KvD K H kvs ps ∧ (∀ p ∈ ps, wordB p.1 = true) ∧ (ps.map (·.1)).Nodup ∧ (∀ p ∈ ps, Sml m p.2) ∧ ps.length < 64 ∧ (SqL K H ta (tn.map V.str) ∨ SqT K H ta (tn.map V.str)) ∧ TornOk ps tn ∧ 1 ≤ L ∧ L ≤ 60 ∧ 1 ≤ M ∧ M ≤ 2000 ∧ Tbs G H ∧
  ∀ H' (p : PLd) (sps : Pgs) (tn' : List Str), Stp G [r] H H' → PlanAt (PC' K) H' r p → p.work = fw → p.mend = gw → p.longest = L → p.most = M → SqT K H' p.spa [] → SqT K H' p.fla [] → DiskAt K H' p.start sps → SortedOf ps sps → SqT K H' p.torn (tn'.map V.str) → tn'.Perm tn → Q .non H'
theorem ok_plan0 {ta ra : Addr} (F : FunD K "__init__" "Plan.__init__" (defArgs s_Plan___init__) (defBody s_Plan___init__) (defScope s_Plan___init__) [.non] (plKw ta) f fd) (hc : fd.code = .ref c0) (TB : TabB base mg c0 P0) (hP : P0 ∈ G.gp) (hl : ∀ p ∈ G.lt, p.1 ≠ P0) (T : Tx K mg) (m N0 : Nat) (U_check_names : Use P w K mg base (L2.CX P w) "_check_names" 4 ["pages"] (spCheckNames K G)) (U_check_torn : Use P w K mg base (L2.CX P w) "_check_torn" 1 ["torn", "pages"] (spCheckTorn K G))
  (U_check_values : Use P w K mg base (L2.CX P w) "_check_values" N0 ["pages"] (spCheckValues K G m)) (U_check_limit : Use P w K mg base (L2.CX P w) "_check_limit" 2 ["limit", "highest"] spCheckLimit) (m_rest : mg "_rest" = some (.ref ra)) :
   FnOk P w K mg base (L2.CX P w) (N0 + 6) f fd ["self", "work", "mend", "pages", "torn", "longest", "most"] (spPlan0 K G m ra) := by
  obtain ⟨_, m_HIGHEST_LONGEST⟩ := T.m_HIGHEST_LONGEST
  obtain ⟨_, m_HIGHEST_MOST⟩ := T.m_HIGHEST_MOST
  refine okD F hc sc_Plan___init__ (fun vs H Q E h => ?_) (fun A outer s H vs Q E hr h => ?_)
  · obtain ⟨_, _, _, _, _, _, _, _, _, _, _, _, rfl, _⟩ := h
    rfl
  · obtain ⟨r, dx, fw, gw, pg, tt, mv, L, M, kvs, ps, tn, rfl, er, hm, ep, kv, hw, nd, hs, hl64, hta, tok, hL1, hL2, hM1, hM2, ht, k⟩ := h
    refine ⟨_, PSs.nox (pss_cons (ps_expr (pe_useL U_check_names hr (by first | decide | omega) (by rfl) (pa_cons (pv 3) pa_nil)))
      (pss_cons (ps_expr (pe_useL U_check_torn hr (by first | decide | omega) (by rfl) (pa_cons (pv 4) (pa_cons (pv 3) pa_nil))))
      (pss_cons (ps_expr (pe_useL U_check_values hr (by first | decide | omega) (by rfl) (pa_cons (pv 3) pa_nil)))
      (pss_cons (ps_expr (pe_useL U_check_limit hr (by first | decide | omega) (by rfl) (pa_cons (pv 5) (pa_cons (pe_glob (v := .int _) (by rfl) m_HIGHEST_LONGEST ⟨_, rfl⟩) pa_nil))))
      (pss_cons (ps_expr (pe_useL U_check_limit hr (by first | decide | omega) (by rfl) (pa_cons (pv 6) (pa_cons (pe_glob (v := .int _) (by rfl) m_HIGHEST_MOST ⟨_, rfl⟩) pa_nil))))
      (pss_cons (ps_fld (pv 0) (pv 1) rfl)
      (pss_cons (ps_fld (pv 0) (pe_cut (pe_ifExp (pt_cmpR op_isN (pv 2) pe_non (nomark _)) (pe_glob (v := .ref _) (by rfl) m_rest rfl) (pv 2))) rfl)
      (pss_cons (ps_fld (pv 0) (pe_callTy call_tuple_of (by rfl) T.n_tuple (by decide +kernel) (pa_cons (pe_callB CC.cr_sortedST (by rfl) T.n_sorted (by decide +kernel) (pa_cons (pv 4) pa_nil)) pa_nil)) rfl)
      (pss_cons (ps_fld (pv 0) (pv 5) rfl)
      (pss_cons (ps_fld (pv 0) (pv 6) rfl)
      (pss_cons (ps_fld (pv 0) (pe_tup pa_nil) rfl)
      (pss_cons (ps_fld (pv 0) (pe_tup pa_nil) rfl)
      (pss_one (ps_fld (pv 0) (GX.pe_tupG (own := [("name", 7)]) (tt := tYes) (k := 0) (hr.mono (by first | decide | omega)) (by rfl) T.n_tuple TB rfl sc_Plan___init__.nd (blkOk_by (N := ["self", "work", "mend", "pages", "torn", "longest", "most", "name"]) (sc := defScope s_Plan___init__) (by decide +kernel)) (pi_list (pe_callB (call_sortedD rfl) (by rfl) T.n_sorted (by decide +kernel) (pa_cons (pv 3) pa_nil))) (fun _ _ _ _ _ _ _ hr => (pg_name (i := 7) sc_Plan___init__.nd rfl (Or.inl rfl) (hf := .inr rfl))) (fun _ _ _ _ _ _ _ hr => pts_nil) (fun _ _ _ _ _ _ _ hr => (pe_tup (pa_cons (pv 7) (pa_cons (pe_dget (hu_of hr) (pv 3) (pv 7) (fun _ _ => rfl)) pa_nil))))) rfl)))))))))))))), ?_⟩
    have nrp : r ≠ pg := fun z => by rw [z, ep] at er; cases er
    refine ⟨_, rfl, pg, kvs, ps, rfl, ep, kv, hw, ht, fun H1 S1 => ?_⟩
    have e1 := S1.k _ _ ep (by simp) fun _ z => by cases z
    have ta1 : SqL K H1 tt (tn.map V.str) ∨ SqT K H1 tt (tn.map V.str) := hta.elim (fun z => .inl (sqL_ext S1.k.ext z)) fun z => .inr (sqT_ext S1.k.ext z)
    refine ⟨_, rfl, _, rfl, tt, pg, kvs, ps, tn, rfl, ta1, e1, kv.keep noT_nil S1.k, tok, S1.t, fun H2 S2 => ?_⟩
    have S02 := S1.trans S2
    have e2 := S02.k _ _ ep (by simp) fun _ z => by cases z
    refine ⟨_, rfl, pg, kvs, ps, rfl, e2, kv.keep noT_nil S02.k, nd, hs, S02.t, fun H3 S3 => ?_⟩
    have S03 := S02.trans S3
    refine ⟨_, rfl, L, 60, rfl, hL1, hL2, ?_⟩
    refine ⟨_, rfl, M, 2000, rfl, hM1, hM2, ?_⟩
    have er3 := S03.k _ _ er (by simp) fun _ z => by cases z
    refine ⟨_, rfl, _, rfl, r, PC' K, dx, _, rfl, er3, T.K_Plan, T.a_Plan_work, (by show 0 < 1000; decide), stepW S03.t er3 fun H4 S4 er4 => ?_⟩
    refine ⟨fun v H' => v = .ref gw ∧ H' = H4, ?_, ?_⟩
    · refine ⟨_, rfl, rfl, _, rfl, ?_⟩
      rcases hm with rfl | ⟨rfl, rfl⟩
      · exact iteF ⟨_, rfl, rfl, rfl⟩
      · exact iteT ⟨rfl, rfl⟩
    rintro _ _ ⟨rfl, rfl⟩
    refine ⟨_, rfl, r, PC' K, dx, _, rfl, er4, T.K_Plan, T.a_Plan_mend, (by show 1 < 1000; decide), stepW S4.t er4 fun H5 S5 er5 => ?_⟩
    have S05 : Stp G [r] H H5 := S03.up.trans (S4.trans S5)
    have ntr := noT_ins er
    have ta5 : SqL K H5 tt (tn.map V.str) ∨ SqT K H5 tt (tn.map V.str) := by
      rcases hta with z | z
      · refine .inl ?_
        rcases z with (z | ⟨o, z⟩) | z
        · exact .inl (.inl (S05.k _ _ z (fun q => by rw [List.mem_singleton.mp q, er] at z; cases z) fun _ q => by cases q))
        · exact .inl (.inr ⟨o, S05.k _ _ z (fun q => by rw [List.mem_singleton.mp q, er] at z; cases z) fun _ q => by cases q⟩)
        · exact .inr z
      · exact .inr (keep_sqT ntr S05.k z)
    refine ⟨_, rfl, tt, tn, rfl, ta5, tok.few, fun tn' q hty hsty hq => ?_⟩
    have S6 : Stp G [] H5 (upd H5 q (.lst (tn'.map V.str))) := .new S5.t hq
    have eq6 : upd H5 q (.lst (tn'.map V.str)) q = some (.lst (tn'.map V.str)) := upd_same
    refine ⟨q, _, rfl, .inl ⟨SqL.of eq6, fun t1 ht1 => ?_⟩⟩
    have S7 : Stp G [] (upd H5 q (.lst (tn'.map V.str))) (upd (upd H5 q (.lst (tn'.map V.str))) t1 (.tup (tn'.map V.str))) := .new S6.t ht1
    have et7 : upd (upd H5 q (.lst (tn'.map V.str))) t1 (.tup (tn'.map V.str)) t1 = some (.tup (tn'.map V.str)) := upd_same
    have S57 := S6.trans S7
    have er7 := S57.k _ _ er5 (by simp) fun _ z => by cases z
    refine ⟨_, rfl, r, PC' K, dx, _, rfl, er7, T.K_Plan, T.a_Plan_torn, (by show 2 < 1000; decide), stepW S7.t er7 fun H8 S8 er8 => ?_⟩
    refine ⟨_, rfl, _, rfl, r, PC' K, dx, _, rfl, er8, T.K_Plan, T.a_Plan_longest, (by show 3 < 1000; decide), stepW S8.t er8 fun H9 S9 er9 => ?_⟩
    refine ⟨_, rfl, _, rfl, r, PC' K, dx, _, rfl, er9, T.K_Plan, T.a_Plan_most, (by show 4 < 1000; decide), stepW S9.t er9 fun H10 S10 er10 => ?_⟩
    refine ⟨by show 0 ≤ sizeLine; decide, fun t2 ht2 => ?_⟩
    have S11 : Stp G [] H10 (upd H10 t2 (.tup [])) := .new S10.t ht2
    have er11 := S11.k _ _ er10 (by simp) fun _ z => by cases z
    have et2 : upd H10 t2 (.tup []) t2 = some (.tup []) := upd_same
    refine ⟨_, rfl, r, PC' K, dx, _, rfl, er11, T.K_Plan, T.a_Plan_spared_steps, (by show 5 < 1000; decide), stepW S11.t er11 fun H12 S12 er12 => ?_⟩
    refine ⟨by show 0 ≤ sizeLine; decide, fun t3 ht3 => ?_⟩
    have S13 : Stp G [] H12 (upd H12 t3 (.tup [])) := .new S12.t ht3
    have er13 := S13.k _ _ er12 (by simp) fun _ z => by cases z
    have et3 : upd H12 t3 (.tup []) t3 = some (.tup []) := upd_same
    refine ⟨_, rfl, r, PC' K, dx, _, rfl, er13, T.K_Plan, T.a_Plan_flush_places, (by show 6 < 1000; decide), stepW S13.t er13 fun H14 S14 er14 => ?_⟩
    have S0e : Stp G [r] H H14 := S05.trans (S57.up.trans (S8.trans (S9.trans (S10.trans (S11.up.trans (S12.trans (S13.up.trans S14)))))))
    have npr : pg ∉ [r] := by simp; exact Ne.symm nrp
    have ep14 := S0e.k _ _ ep npr fun _ z => by cases z
    have kv14 := kv.keep ntr S0e.k
    refine ⟨_, rfl, pg, kvs, ps.map (·.1), rfl, .inl ep14, ?_, by rw [List.length_map]; exact hl64, fun ys lq hy hsy hlq => ?_⟩
    · rw [kvD_keys kv14, List.map_map] <;> rfl
    have S15 : Stp G [] H14 (upd H14 lq (.lst (ys.map V.str))) := .new S14.t hlq
    have el15 : upd H14 lq (.lst (ys.map V.str)) lq = some (.lst (ys.map V.str)) := upd_same
    generalize upd H14 lq (.lst (ys.map V.str)) = H15 at *
    have hlen : ys.length < 64 := by rw [hy.length_eq, List.length_map]; exact hl64
    refine ⟨lq, rfl, ⟨_, SqL.of el15⟩, S15.t.g _ hP, fun H16 hT => ?_⟩
    have S16 : Stp G [] H15 H16 := .tab S15.t hP hl hT
    have hmem : ∀ y ∈ ys, ∃ d, pgGet ps y = some d := fun y hyy => by
      obtain ⟨p, hp, rfl⟩ := List.mem_map.mp (hy.mem_iff.mp hyy)
      exact ⟨_, pgGet_nd nd hp⟩
    refine gx_it (walk_list (xs := ys.map V.str)) (fun i b H' => Stp G [] H15 H' ∧ Vds K H' b (((ys.map fun y => (y, (pgGet ps y).getD PyData.none)).map fun p => .tuple [.str p.1, p.2]).take i)) ⟨S16, .nil⟩ (fun i _ H' _ h => SqL.of (h.1.k _ _ el15 (by simp) fun _ z => by cases z)) (fun i x b H3 H4 hi h hyy => ?_) (fun b H' h => ?_)
    · obtain ⟨rfl, hx⟩ := hyy
      rw [List.getElem?_map] at hx
      obtain ⟨y, hy1, rfl⟩ := Option.map_eq_some_iff.mp hx
      obtain ⟨d, hd⟩ := hmem y (List.mem_of_getElem? hy1)
      have S144 := S15.trans h.1
      obtain ⟨u, hu, vu⟩ := (kvD_get (n := y) (kv14.keep noT_nil S144.k)).1 d hd
      have ep4 := S144.k _ _ ep14 (by simp) fun _ z => by cases z
      refine ⟨rfl, yesI ?_⟩
      refine ⟨_, rfl, _, rfl, _, rfl, pg, u, rfl, .inl ⟨kvs, .inr y, .inl ep4, rfl, hu.symm⟩, by show 2 ≤ sizeLine; decide, fun p hp => ?_⟩
      have S5' := h.1.snew (o := .tup [.str y, u]) hp
      refine ⟨?_, S5', ?_⟩
      · rw [h.2.len]
        refine Nat.lt_of_le_of_lt (List.length_take_le' _ _) ?_
        rw [List.length_map, List.length_map]
        exact Nat.lt_of_lt_of_le hlen (by decide)
      · have hset : ((ys.map fun y => (y, (pgGet ps y).getD PyData.none)).map fun p => PyData.tuple [.str p.1, p.2])[i]? = some (.tuple [.str y, d]) := by
          rw [List.getElem?_map, List.getElem?_map, hy1]
          show some (PyData.tuple [.str y, (pgGet ps y).getD .none]) = _
          rw [hd] <;> rfl
        rw [take_succ' hset]
        exact (h.2.ext (.new hp)).snoc (.tup (.of upd_same) (.cons ⟨.str _, rfl⟩ (.cons (vu.ext (.new hp)) .nil)))
    · intro t4 o ht4 ho
      have S17 := h.1.snew (o := .frz o (.tup b)) ht4
      have er17 := (S15.trans S17).k _ _ er14 (by simp) fun _ z => by cases z
      have h2 := h.2
      rw [List.take_of_length_le (by rw [List.length_map, List.length_map, List.length_map]; exact Nat.le_refl _)] at h2
      have hso := sorted_of nd hy hsy
      refine ⟨_, rfl, r, PC' K, dx, _, rfl, er17, T.K_Plan, T.a_Plan__start, (by show 7 < 1000; decide), stepW S17.t er17 fun H18 S18 er18 => ?_⟩
      have S1418 : Stp G [r] H14 H18 := (S15.trans S17).up.trans S18
      have n2 : t2 ∉ [r] := fun z => by
        rw [← List.mem_singleton.mp z, et2] at er11
        cases er11
      have n3 : t3 ∉ [r] := fun z => by
        rw [← List.mem_singleton.mp z, et3] at er13
        cases er13
      have n4 : t4 ∉ [r] := fun z => by
        have := upd_same (H := H') (a := t4) (o := .frz o (.tup b))
        rw [List.mem_singleton.mp z] at this
        rw [List.mem_singleton.mp z, this] at er17
        cases er17
      have n1 : t1 ∉ [r] := fun z => by
        rw [← List.mem_singleton.mp z, et7] at er7
        cases er7
      have S814 : Stp G [r] _ H18 := S8.trans (S9.trans (S10.trans (S11.up.trans (S12.trans (S13.up.trans (S14.trans S1418))))))
      refine k H18 ⟨fw, gw, t1, L, M, t2, t3, t4⟩ _ tn' (S0e.trans S1418) ⟨dx, er18⟩ rfl rfl rfl rfl (.of ?_) (.of ?_) ⟨⟨o, b, S18.k _ _ upd_same n4 (fun _ z => by cases z), ho, (h2.ext (.new ht4)).keep (noT_ins er17) S18.k⟩, ?_⟩ hso (.of (S814.k _ _ et7 n1 fun _ z => by cases z)) hty
      · exact S1418.k _ _ ((S12.trans (S13.up.trans S14)).k _ _ et2 n2 fun _ z => by cases z) n2 fun _ z => by cases z
      · exact S1418.k _ _ (S14.k _ _ et3 n3 fun _ z => by cases z) n3 fun _ z => by cases z
      · exact hso.perm.nodup_iff.mpr nd
end
end K10

namespace K10
open PySem PySem.Spec PyProof.Rows L2 XV XL UU CC FW GX GxR
section
variable {P : Program} {w : World} {K : PySem.W.Frag} {mg : Str → Option Value} {base : Heap} {f : Addr} {fd : FuncData} {G : Tb}
/-! ### draws -/
theorem sc_law_source : FnScope ["_law_script", "_law_at", "_law_cell"] ["_law_script", "_law_at"] (defScope s_law_source) := ⟨rfl, rfl, rfl, by decide +kernel, rfl, by decide +kernel, by decide +kernel⟩
def spSource (K : PySem.W.Frag) : Sp := fun vs H Q _ => ∃ (s : Addr) (ns : List Int) (n : Nat), vs = [.ref s, .int n] ∧ SqL K H s (ns.map V.int) ∧ ns.length ≤ 63 ∧
  ∀ (p : Addr) (a b : Int), H p = none → 0 ≤ a → 0 ≤ b → b < MM → Q (.ref p) (upd H p (.lst [.int a, .int b, .int 0]))
theorem ok_source (F : Fn K "_law_source" s_law_source f fd) (T : Tx K mg) : FnOk P w K mg base (L2.CX P w) 1 f fd ["_law_script", "_law_at"] (spSource K) := by
  refine F.ok sc_law_source (fun vs H Q E h => ?_) (fun cdv A outer s H vs Q E hr h => ?_)
  · obtain ⟨_, _, _, rfl, _⟩ := h
    rfl
  · obtain ⟨a, ns, n, rfl, hS, hl, k⟩ := h
    refine ⟨_, PSs.nox (pss_cons (ps_set (i := 2) sc_law_source.nd rfl (Or.inl rfl) (pe_cut (pe_ifExp (pt_cmpR op_lt (pv 1) (pe_callB call_len (by rfl) T.n_len (by decide +kernel) (pa_cons (pv 0) pa_nil)) (nomark _)) (pe_ix ix_list (pv 0) (pv 1) (fun _ _ => rfl)) (pe_op op_add (pe_op op_mul pe_int (pv 1)) pe_int))))
      (pss_one (ps_ret (pe_lst (pa_cons (pe_cut (pe_ifExp (pt_cmpR op_ge (pv 2) (pe_op op_pow pe_int pe_int) (nomark _)) (pv 2) pe_int)) (pa_cons (pe_op op_modN (pe_callTy call_int1 (by rfl) T.n_int (by decide +kernel) (pa_cons (pv 2) pa_nil)) pe_int) (pa_cons pe_int pa_nil))))))), ?_⟩
    refine ⟨fun v H1 => (∃ z : Int, v = .int z) ∧ H = H1, ⟨_, rfl, _, rfl, _, _, rfl, Or.inl ⟨_, hS, rfl⟩, _, _, rfl, rfl, _, rfl, ite2 (fun h => ?_) fun h => ?_⟩, ?_⟩
    · have h1 : (n : Int) < ((ns.map V.int).length : Nat) := of_decide_eq_true h
      have h2 : n < ns.length := by rw [List.length_map] at h1; omega
      exact ⟨_, rfl, _, rfl, a, _, _, .int ns[n], rfl, rfl, hS, atI_nat (by rw [List.getElem?_map, List.getElem?_eq_getElem h2] <;> rfl), ⟨_, rfl⟩, rfl⟩
    · exact ⟨_, rfl, _, _, rfl, rfl, .inl ⟨by decide, by decide⟩, _, _, rfl, rfl, ⟨_, rfl⟩, rfl⟩
    · rintro _ _ ⟨⟨z, rfl⟩, rfl⟩
      refine ⟨fun v H1 => (∃ y : Int, v = .int y ∧ 0 ≤ y) ∧ H = H1, ⟨_, rfl, _, _, rfl, rfl, ⟨by decide, by decide, by decide⟩, _, _, rfl, rfl, _, rfl, ite2 (fun h => ?_) fun h => ?_⟩, ?_⟩
      · have h1 : (10 : Int) ^ (18 : Int).toNat ≤ z := of_decide_eq_true h
        have h2 : (0 : Int) ≤ 10 ^ (18 : Int).toNat := by decide
        exact ⟨_, rfl, ⟨z, rfl, by omega⟩, rfl⟩
      · exact ⟨⟨0, rfl, by decide⟩, rfl⟩
      · rintro _ _ ⟨⟨y, rfl, hy⟩, rfl⟩
        refine ⟨_, rfl, Or.inl ⟨_, rfl, _, _, rfl, rfl, (by show (2147483647 : Int) ≠ 0; decide), ?_⟩⟩
        refine ⟨by show 3 ≤ sizeLine; decide, fun p hp => k p y _ hp hy ?_ ?_⟩
        · exact Int.fmod_nonneg_of_pos _ (by decide)
        · exact Int.fmod_lt_of_pos _ (by decide)
theorem sc_law_draw : FnScope ["_law_draws", "_law_many", "_law_found"] ["_law_draws", "_law_many"] (defScope s_law_draw) := ⟨rfl, rfl, rfl, by decide +kernel, rfl, by decide +kernel, by decide +kernel⟩
def spDraw : Sp := fun vs H Q _ => ∃ (p : Addr) (m a b c : Int), vs = [.ref p, .int m] ∧ H p = some (.lst [.int a, .int b, .int c]) ∧ 0 ≤ a ∧ 0 ≤ b ∧ b < MM ∧ 0 ≤ c ∧ c ≤ 1000000 ∧ 0 < m ∧ m ≤ 1000000 ∧
  ∀ r a' b' c' : Int, 0 ≤ r → r < m → 0 ≤ a' → 0 ≤ b' → b' < MM → 0 ≤ c' → c' ≤ c + 1 → Q (.int r) (upd H p (.lst [.int a', .int b', .int c']))
theorem ok_draw (F : Fn K "_law_draw" s_law_draw f fd) (T : Tx K mg) : FnOk P w K mg base (L2.CX P w) 1 f fd ["_law_draws", "_law_many"] spDraw := by
  refine F.ok sc_law_draw (fun vs H Q E h => ?_) (fun cdv A outer s H vs Q E hr h => ?_)
  · obtain ⟨_, _, _, _, _, rfl, _⟩ := h
    rfl
  · obtain ⟨p, m, a, b, c, rfl, hp, ha, hb, hb2, hc, hc2, hm, hm2, k⟩ := h
    refine ⟨_, PSs.nox (pss_cons (ps_if (pt_cmpR op_gt (pe_ix ix_list (pv 0) pe_int (fun _ _ => rfl)) pe_int (nomark _)) (pss_cons (ps_set (i := 2) sc_law_draw.nd rfl (Or.inl rfl) (pe_op op_modN (pe_callTy call_int1 (by rfl) T.n_int (by decide +kernel) (pa_cons (pe_ix ix_list (pv 0) pe_int (fun _ _ => rfl)) pa_nil)) (pv 1)))
      (pss_cons (ps_asg (pe_op op_fdivN (pe_ix ix_list (pv 0) pe_int (fun _ _ => rfl)) (pv 1)) (pg_sub (pv 0) pe_int set_list))
      (pss_one (ps_ret (pv 2))))) pss_nil)
      (pss_cons (ps_asg (pe_op op_add (pe_ix ix_list (pv 0) pe_int (fun _ _ => rfl)) pe_int) (pg_sub (pv 0) pe_int set_list))
      (pss_cons (ps_asg (pe_op op_modN (pe_callTy call_int1 (by rfl) T.n_int (by decide +kernel) (pa_cons (pe_op op_add (pe_op op_add (pe_op op_mul (pe_ix ix_list (pv 0) pe_int (fun _ _ => rfl)) pe_int) (pe_op op_mul (pe_ix ix_list (pv 0) pe_int (fun _ _ => rfl)) pe_int)) pe_int) pa_nil)) pe_int) (pg_sub (pv 0) pe_int set_list))
      (pss_one (ps_ret (pe_op op_modN (pe_callTy call_int1 (by rfl) T.n_int (by decide +kernel) (pa_cons (pe_op op_add (pe_op op_fdivN (pe_ix ix_list (pv 0) pe_int (fun _ _ => rfl)) pe_int) (pe_ix ix_list (pv 0) pe_int (fun _ _ => rfl))) pa_nil)) (pv 1))))))), ?_⟩
    have i0 : ∀ {x y z : V}, atI [x, y, z] 0 = some x := rfl
    have i1 : ∀ {x y z : V}, atI [x, y, z] 1 = some y := rfl
    have i2 : ∀ {x y z : V}, atI [x, y, z] 2 = some z := rfl
    refine ⟨_, rfl, p, _, _, _, rfl, rfl, SqL.of hp, i0, _, _, rfl, rfl, _, rfl, ite2 (fun h => ?_) fun h => ?_⟩
    · refine ⟨_, rfl, p, _, _, _, rfl, rfl, SqL.of hp, i0, Or.inl ⟨a, rfl, ?_⟩⟩
      refine ⟨_, rfl, _, _, rfl, rfl, by omega, ?_⟩
      refine ⟨_, rfl, p, _, _, _, rfl, rfl, SqL.of hp, i0, _, rfl, _, _, rfl, rfl, ⟨by omega, by omega⟩, _, rfl, p, _, _, 0, rfl, rfl, hp, rfl, ?_⟩
      refine ⟨_, rfl, k _ _ b c (Int.fmod_nonneg_of_pos _ hm) (Int.fmod_lt_of_pos _ hm) ?_ hb hb2 hc (by omega)⟩
      rw [Int.fdiv_eq_ediv_of_nonneg _ (by omega)]
      exact Int.ediv_nonneg ha (by omega)
    · have u0 : ∀ o, upd H p o p = some o := fun o => upd_same
      refine ⟨_, rfl, p, _, _, _, rfl, rfl, SqL.of hp, i2, _, _, rfl, rfl, _, rfl, p, _, _, 2, rfl, rfl, hp, rfl, ?_⟩
      refine ⟨_, rfl, p, _, _, _, rfl, rfl, SqL.of (u0 _), i1, _, _, rfl, rfl, .inr ⟨by decide, by decide⟩, ?_⟩
      refine ⟨_, rfl, p, _, _, _, rfl, rfl, SqL.of (u0 _), i2, _, _, rfl, rfl, .inr ⟨by decide, by decide⟩, _, _, rfl, rfl, _, _, rfl, rfl, Or.inl ⟨_, rfl, ?_⟩⟩
      refine ⟨_, _, rfl, rfl, (by show (2147483647 : Int) ≠ 0; decide), _, rfl, p, _, _, 1, rfl, rfl, u0 _, rfl, ?_⟩
      rw [upd_upd]
      refine ⟨_, rfl, p, _, _, _, rfl, rfl, SqL.of (u0 _), i1, _, _, rfl, rfl, ⟨by decide, by decide⟩, ?_⟩
      refine ⟨_, rfl, p, _, _, _, rfl, rfl, SqL.of (u0 _), i1, _, _, rfl, rfl, Or.inl ⟨_, rfl, ?_⟩⟩
      refine ⟨_, rfl, _, _, rfl, rfl, by omega, k _ _ _ (c + 1) (Int.fmod_nonneg_of_pos _ hm) (Int.fmod_lt_of_pos _ hm) ha (Int.fmod_nonneg_of_pos _ (by decide)) (Int.fmod_lt_of_pos _ (by decide)) (by omega) (by omega)⟩
theorem sc_law_same : FnScope ["_law_found", "_law_due", "_law_one", "_law_other"] ["_law_found", "_law_due"] (defScope s_law_same) := ⟨rfl, rfl, rfl, by decide +kernel, rfl, by decide +kernel, by decide +kernel⟩
theorem ok_same1 (F : Fn K "_law_same" s_law_same f fd) (T : Tx K mg) (n : Nat) (U_law_same : Use P w K mg base (L2.CX P w) "_law_same" n ["_law_found", "_law_due"] (spSameR K n)) : FnOk P w K mg base (L2.CX P w) (n + 1) f fd ["_law_found", "_law_due"] (spSame K n) := by
  refine F.ok sc_law_same (fun vs H Q E h => ?_) (fun cdv A outer s H vs Q E hr h => ?_)
  · obtain ⟨_, _, _, _, rfl, _⟩ := h
    rfl
  · obtain ⟨x, y, d, e, rfl, hd, he, hs, k⟩ := h
    refine ⟨_, PSs.nox (pss_cons (ps_if (pt_val (pe_callB call_isDT (by rfl) T.n_isinstance (by decide +kernel) (pa_cons (pv 1) (pa_cons (pe_tup (pa_cons (pe_bltn (v := .ty "list") (by rfl) T.n_list (by decide +kernel) rfl) (pa_cons (pe_bltn (v := .ty "tuple") (by rfl) T.n_tuple (by decide +kernel) rfl) pa_nil))) pa_nil)))) (pss_cons (ps_if (PW.pt (pw_or (pt_cmpR op_ne (pe_callB call_isD (by rfl) T.n_isinstance (by decide +kernel) (pa_cons (pv 0) (pa_cons (pe_bltn (v := .ty "list") (by rfl) T.n_list (by decide +kernel) rfl) pa_nil))) (pe_callB call_isD (by rfl) T.n_isinstance (by decide +kernel) (pa_cons (pv 1) (pa_cons (pe_bltn (v := .ty "list") (by rfl) T.n_list (by decide +kernel) rfl) pa_nil))) (nomark _)) (pw_or1 (pt_cmpR op_ne (pe_callB call_isD (by rfl) T.n_isinstance (by decide +kernel) (pa_cons (pv 0) (pa_cons (pe_bltn (v := .ty "tuple") (by rfl) T.n_tuple (by decide +kernel) rfl) pa_nil))) (pe_callB call_isD (by rfl) T.n_isinstance (by decide +kernel) (pa_cons (pv 1) (pa_cons (pe_bltn (v := .ty "tuple") (by rfl) T.n_tuple (by decide +kernel) rfl) pa_nil))) (nomark _))))) (pss_one (ps_ret pe_bl)) pss_nil)
      (pss_one (ps_ret (pe_and (pe_cmpR op_eq (pe_callB call_len (by rfl) T.n_len (by decide +kernel) (pa_cons (pv 0) pa_nil)) (pe_callB call_len (by rfl) T.n_len (by decide +kernel) (pa_cons (pv 1) pa_nil)) (nomark _)) (pe_one (pe_callB (cr_all rfl) (by rfl) T.n_all (by decide +kernel) (pa_cons (pe_lc (g := (gTup K 2 (gCons (gName 2) (gCons (gName 3) gNil)))) (own := [("_law_one", 2), ("_law_other", 3)]) (tt := tYes) rfl sc_law_same.nd (RZ.pi_zipA (by rfl) T.n_zip (pa_cons (pv 0) (pa_cons (pv 1) pa_nil))) (blkOk_by (N := ["_law_found", "_law_due", "_law_one", "_law_other"]) (sc := defScope s_law_same) (by decide +kernel)) (fun _ _ _ _ _ => (pg_tup rfl (pgs_cons (pg_name (i := 2) sc_law_same.nd rfl (Or.inl rfl) (hf := .inr rfl)) (pgs_cons (pg_name (i := 3) sc_law_same.nd rfl (Or.inl rfl) (hf := .inr rfl)) pgs_nil)))) (fun _ _ _ _ _ => pts_nil) (fun _ _ _ _ _ => (pe_useL U_law_same hr (by first | decide | omega) (by rfl) (pa_cons (pv 2) (pa_cons (pv 3) pa_nil))))) pa_nil))))))) pss_nil)
      (pss_cons (ps_if (pt_val (pe_callB call_isDT (by rfl) T.n_isinstance (by decide +kernel) (pa_cons (pv 1) (pa_cons (pe_tup (pa_cons (pe_bltn (v := .ty "bool") (by rfl) T.n_bool (by decide +kernel) rfl) (pa_cons (pe_bltn (v := .ty "int") (by rfl) T.n_int (by decide +kernel) rfl) pa_nil))) pa_nil)))) (pss_one (ps_ret (pe_and (pe_callB call_isD (by rfl) T.n_isinstance (by decide +kernel) (pa_cons (pv 0) (pa_cons (pe_bltn (v := .ty "int") (by rfl) T.n_int (by decide +kernel) rfl) pa_nil))) (pe_and (pe_cmpR op_eq (pe_callB call_isD (by rfl) T.n_isinstance (by decide +kernel) (pa_cons (pv 0) (pa_cons (pe_bltn (v := .ty "bool") (by rfl) T.n_bool (by decide +kernel) rfl) pa_nil))) (pe_callB call_isD (by rfl) T.n_isinstance (by decide +kernel) (pa_cons (pv 1) (pa_cons (pe_bltn (v := .ty "bool") (by rfl) T.n_bool (by decide +kernel) rfl) pa_nil))) (nomark _)) (pe_one (pe_cmpR op_eq (pv 0) (pv 1) (nomark _))))))) pss_nil)
      (pss_one (ps_ret (pe_and (pe_not (pe_callB call_isDT (by rfl) T.n_isinstance (by decide +kernel) (pa_cons (pv 0) (pa_cons (pe_tup (pa_cons (pe_bltn (v := .ty "bool") (by rfl) T.n_bool (by decide +kernel) rfl) (pa_cons (pe_bltn (v := .ty "int") (by rfl) T.n_int (by decide +kernel) rfl) (pa_cons (pe_bltn (v := .ty "list") (by rfl) T.n_list (by decide +kernel) rfl) (pa_cons (pe_bltn (v := .ty "tuple") (by rfl) T.n_tuple (by decide +kernel) rfl) pa_nil))))) pa_nil)))) (pe_one (pe_cmpR op_eq (pv 0) (pv 1) (nomark _)))))))), ?_⟩
    refine ⟨_, rfl, by show 2 ≤ sizeLine; decide, fun p hp => ?_⟩
    have S1 : Same H (upd H p (.tup [V.ty "list", V.ty "tuple"])) := same_upd hp
    have hd1 := dp_same S1 d x hd
    have he1 := dp_same S1 e y he
    refine ⟨y, p, ["list", "tuple"], e, rfl, upd_same, he1, kn_seq e, _, rfl, ?_⟩
    rw [isB_seq]
    generalize hH1 : upd H p (.tup [V.ty "list", V.ty "tuple"]) = H1 at *
    cases hz : (kL e || kT e) with
    | false =>
      refine iteF ?_
      refine ⟨_, rfl, by show 2 ≤ sizeLine; decide, fun p2 hp2 => ?_⟩
      have S2 : Same H (upd H1 p2 (.tup [V.ty "bool", V.ty "int"])) := same_trans S1 (same_upd hp2)
      have hd2 := dp_same S2 d x hd
      have he2 := dp_same S2 e y he
      refine ⟨y, p2, ["bool", "int"], e, rfl, upd_same, he2, kn_bi e, _, rfl, ?_⟩
      rw [isB_bi]
      generalize hH2 : upd H1 p2 (.tup [V.ty "bool", V.ty "int"]) = H2 at *
      cases hi : kI e with
      | true =>
        refine iteT ?_
        refine ⟨_, rfl, _, _, d, rfl, hd2, kn_int d, ?_⟩
        rw [isB_int]
        refine ⟨_, rfl, ?_⟩
        cases hdi : kI d with
        | false =>
          refine iteF ?_
          exact k false H2 (ffalse (kI_ne hdi hi)) S2
        | true =>
          refine iteT ?_
          refine ⟨_, rfl, _, _, d, rfl, hd2, kn_bool d, ?_⟩
          refine ⟨_, rfl, _, _, e, rfl, he2, kn_bool e, ?_⟩
          rw [isB_bool, isB_bool]
          rcases int_cases hd2 hdi with ⟨b, rfl, rfl⟩ | ⟨b, rfl, rfl⟩ <;> rcases int_cases he2 hi with ⟨c, rfl, rfl⟩ | ⟨c, rfl, rfl⟩
          · refine ⟨rfl, _, rfl, iteT ?_⟩
            refine ⟨_, rfl, _, rfl, rfl, k _ H2 ?_ S2⟩
            simp
          · refine ⟨rfl, _, rfl, iteF ?_⟩
            exact k false H2 (ffalse fun z => by cases z) S2
          · refine ⟨rfl, _, rfl, iteF ?_⟩
            exact k false H2 (ffalse fun z => by cases z) S2
          · refine ⟨rfl, _, rfl, iteT ?_⟩
            refine ⟨_, rfl, _, rfl, rfl, k _ H2 ?_ S2⟩
            simp
      | false =>
        refine iteF ?_
        refine ⟨_, rfl, by show 4 ≤ sizeLine; decide, fun p3 hp3 => ?_⟩
        have S3 : Same H (upd H2 p3 (.tup [V.ty "bool", V.ty "int", V.ty "list", V.ty "tuple"])) := same_trans S2 (same_upd hp3)
        have hd3 := dp_same S3 d x hd
        have he3 := dp_same S3 e y he
        refine ⟨x, p3, ["bool", "int", "list", "tuple"], d, rfl, upd_same, hd3, kn_four d, ?_⟩
        rw [isB_four]
        generalize hH3 : upd H2 p3 (.tup [V.ty "bool", V.ty "int", V.ty "list", V.ty "tuple"]) = H3 at *
        refine ⟨_, rfl, _, rfl, ?_⟩
        cases hdk : (kI d || kL d || kT d) with
        | true =>
          refine iteF ?_
          refine k false H3 (ffalse fun z => ?_) S3
          rw [z, hi, Bool.false_or] at hdk
          rw [hdk] at hz
          cases hz
        | false =>
          refine iteT ?_
          have h1 : kI d = false := by
            cases q : kI d with
            | false => rfl
            | true => rw [q] at hdk; cases hdk
          have h2 : (kL d || kT d) = false := by rw [h1, Bool.false_or] at hdk; exact hdk
          rcases flat_cases hd3 h1 h2 with ⟨rfl, rfl⟩ | ⟨a, rfl, rfl⟩ <;> rcases flat_cases he3 hi hz with ⟨rfl, rfl⟩ | ⟨c, rfl, rfl⟩ <;> refine ⟨_, rfl, _, rfl, rfl, k _ H3 ?_ S3⟩ <;> simp
    | true =>
      refine iteT ?_
      refine ⟨_, rfl, _, _, d, rfl, hd1, kn_list d, ?_⟩
      refine ⟨_, rfl, _, _, e, rfl, he1, kn_list e, rfl, _, rfl, ?_⟩
      rw [isB_list, isB_list]
      by_cases hL : kL d = kL e
      · rw [show (!decide (V.bl (kL d) = V.bl (kL e))) = false by simp [hL]]
        refine iteF ?_
        refine ⟨_, rfl, _, _, d, rfl, hd1, kn_tup d, _, rfl, _, _, e, rfl, he1, kn_tup e, rfl, _, rfl, ?_⟩
        rw [isB_tup, isB_tup]
        by_cases hT : kT d = kT e
        · rw [show (!decide (V.bl (kT d) = V.bl (kT e))) = false by simp [hT]]
          refine iteF ?_
          cases e with
          | list es =>
            cases d with
            | list ds =>
                obtain ⟨a1, xs, rfl, qx, dx⟩ := seq_items hd1
                obtain ⟨a2, ys, rfl, qy, dy⟩ := seq_items he1
                refine ⟨_, rfl, _, _, rfl, .inl ⟨_, qx, rfl⟩, _, rfl, _, _, rfl, .inl ⟨_, qy, rfl⟩, rfl, _, rfl, ite2 (fun hl => ?_) fun hl => ?_⟩
                · have hl2 : xs.length = ys.length := by
                    have z := of_decide_eq_true hl
                    injection z with z
                    exact Int.ofNat.inj z
                  have hxd := (dpa_len dx)
                  have hye := (dpa_len dy)
                  cases n with
                  | zero => exact absurd hs (by intro z; exact z)
                  | succ m =>
                    obtain ⟨hn1, hn2⟩ := sml_len hs
                    refine ⟨_, rfl, _, rfl, a1, a2, xs, ys, rfl, .inl ⟨qx, qy, fun D hD => ?_⟩⟩
                    refine lc_it (walk_zip (xs := xs) (ys := ys) (n := ds.length) (by omega)) (PvS D H1 ds es) ⟨[], upd_same, rfl, fun j d e b _ _ h3 => by simp at h3, same_upd hD⟩ (fun i H2 _ ⟨_, _, _, _, sm⟩ => ⟨sm.seq qx, sm.seq qy⟩) (fun i v H2 H3 hi hp hy => ?_) (fun H2 hp => ?_)
                    · obtain ⟨t, u1, u2, rfl, ht, rfl, g1, g2⟩ := hy
                      have sm : Same H1 (upd H2 t (.tup [u1, u2])) := same_trans hp.choose_spec.2.2.2 (same_upd ht)
                      obtain ⟨d1, gd, dd⟩ := dpa_at dx g1
                      obtain ⟨e1, ge, de⟩ := dpa_at dy g2
                      refine ⟨t, _, rfl, SqT.of upd_same, rfl, _, _, rfl, _, _, rfl, rfl, rfl, iteT (B := PvS D H1 ds es (i + 1) (upd H2 t (.tup [u1, u2]))) ?_⟩
                      refine ⟨_, rfl, _, rfl, u1, u2, d1, e1, rfl, dp_same sm d1 u1 dd, dp_same sm e1 u2 de, hn2 e1 (List.mem_of_getElem? ge), fun b H4 hb sH => ?_⟩
                      exact pvS_step hD hp (same_trans (same_upd ht) sH) gd ge hb (by omega)
                    · obtain ⟨bs, e1, e2, e3, e4⟩ := hp
                      refine ⟨_, bs, rfl, SqL.of e1, k _ H2 ?_ (same_trans S1 e4)⟩
                      rw [all_iff (ds := ds) (es := es) (by omega) e2 e3]
                      exact ⟨fun z => by rw [z], fun z => by injection z⟩
                · refine k false H1 (ffalse fun z => hl (decide_eq_true ?_)) S1
                  injection z with z
                  rw [(dpa_len dx), (dpa_len dy), z]

            | _ => cases hL
          | tuple es =>
            cases d with
            | tuple ds =>
                obtain ⟨a1, xs, rfl, qx, dx⟩ := seq_itemsT hd1
                obtain ⟨a2, ys, rfl, qy, dy⟩ := seq_itemsT he1
                refine ⟨_, rfl, _, _, rfl, .inr ⟨_, qx, rfl⟩, _, rfl, _, _, rfl, .inr ⟨_, qy, rfl⟩, rfl, _, rfl, ite2 (fun hl => ?_) fun hl => ?_⟩
                · have hl2 : xs.length = ys.length := by
                    have z := of_decide_eq_true hl
                    injection z with z
                    exact Int.ofNat.inj z
                  have hxd := (dpa_len dx)
                  have hye := (dpa_len dy)
                  cases n with
                  | zero => exact absurd hs (by intro z; exact z)
                  | succ m =>
                    obtain ⟨hn1, hn2⟩ := sml_lenT hs
                    refine ⟨_, rfl, _, rfl, a1, a2, xs, ys, rfl, .inr ⟨qx, qy, fun D hD => ?_⟩⟩
                    refine lc_it (walk_zipT (xs := xs) (ys := ys) (n := ds.length) (by omega)) (PvS D H1 ds es) ⟨[], upd_same, rfl, fun j d e b _ _ h3 => by simp at h3, same_upd hD⟩ (fun i H2 _ ⟨_, _, _, _, sm⟩ => ⟨UU.Same.seqT sm qx, UU.Same.seqT sm qy⟩) (fun i v H2 H3 hi hp hy => ?_) (fun H2 hp => ?_)
                    · obtain ⟨t, u1, u2, rfl, ht, rfl, g1, g2⟩ := hy
                      have sm : Same H1 (upd H2 t (.tup [u1, u2])) := same_trans hp.choose_spec.2.2.2 (same_upd ht)
                      obtain ⟨d1, gd, dd⟩ := dpa_at dx g1
                      obtain ⟨e1, ge, de⟩ := dpa_at dy g2
                      refine ⟨t, _, rfl, SqT.of upd_same, rfl, _, _, rfl, _, _, rfl, rfl, rfl, iteT (B := PvS D H1 ds es (i + 1) (upd H2 t (.tup [u1, u2]))) ?_⟩
                      refine ⟨_, rfl, _, rfl, u1, u2, d1, e1, rfl, dp_same sm d1 u1 dd, dp_same sm e1 u2 de, hn2 e1 (List.mem_of_getElem? ge), fun b H4 hb sH => ?_⟩
                      exact pvS_step hD hp (same_trans (same_upd ht) sH) gd ge hb (by omega)
                    · obtain ⟨bs, e1, e2, e3, e4⟩ := hp
                      refine ⟨_, bs, rfl, SqL.of e1, k _ H2 ?_ (same_trans S1 e4)⟩
                      rw [all_iff (ds := ds) (es := es) (by omega) e2 e3]
                      exact ⟨fun z => by rw [z], fun z => by injection z⟩
                · refine k false H1 (ffalse fun z => hl (decide_eq_true ?_)) S1
                  injection z with z
                  rw [(dpa_len dx), (dpa_len dy), z]

            | _ => cases hT
          | _ => cases hz
        · rw [show (!decide (V.bl (kT d) = V.bl (kT e))) = true by simp [hT]]
          refine iteT ?_
          exact k false H1 (ffalse (kT_ne hT)) S1
      · rw [show (!decide (V.bl (kL d) = V.bl (kL e))) = true by simp [hL]]
        refine iteT (iteT ?_)
        exact k false H1 (ffalse (kL_ne hL)) S1
theorem sc_law_pick : FnScope ["_law_draws", "_law_xs"] ["_law_draws", "_law_xs"] (defScope s_law_pick) := ⟨rfl, rfl, rfl, by decide +kernel, rfl, by decide +kernel, by decide +kernel⟩
/-- the drawer stands at p -/
def DrawAt (H : Hp) (p : Addr) (n : Int) : Prop := ∃ a b c : Int, H p = some (.lst [.int a, .int b, .int c]) ∧ 0 ≤ a ∧ 0 ≤ b ∧ b < MM ∧ 0 ≤ c ∧ c ≤ n
theorem drawAt_keep {H H' : Hp} {p : Addr} {n : Int} {fp : List Addr} (h : DrawAt H p n) (hp : p ∉ fp) (k : Keep fp H H') : DrawAt H' p n := by
  obtain ⟨a, b, c, e, r⟩ := h
  exact ⟨a, b, c, k _ _ e hp (fun _ z => by cases z), r⟩
/-- a draw -/
def spDrawS (G : Tb) : Sp := fun vs H Q _ => ∃ (p : Addr) (m n : Int), vs = [.ref p, .int m] ∧ DrawAt H p n ∧ n ≤ 1000000 ∧ 0 < m ∧ m ≤ 1000000 ∧ Tbs G H ∧ ∀ (r : Int) (H' : Hp), 0 ≤ r → r < m → Stp G [p] H H' → DrawAt H' p (n + 1) → Q (.int r) H'
theorem draw_s {vs : List V} {H : Hp} {Q : VK} {E : XK} (h : spDrawS G vs H Q E) : spDraw vs H Q E := by
  obtain ⟨p, m, n, rfl, ⟨a, b, c, e, ha, hb, hb2, hc, hcn⟩, hn, hm, hm2, ht, k⟩ := h
  exact ⟨p, m, a, b, c, rfl, e, ha, hb, hb2, hc, by omega, hm, hm2, fun r a' b' c' h1 h2 h3 h4 h5 h6 h7 => k r _ h1 h2 (.put ht (by simp) e notc_lst) ⟨a', b', c', upd_same, h3, h4, h5, h6, by omega⟩⟩
def spPick (K : PySem.W.Frag) (G : Tb) : Sp := fun vs H Q _ => ∃ (p xa : Addr) (xs : List V) (n : Int), vs = [.ref p, .ref xa] ∧ SqL K H xa xs ∧ xa ≠ p ∧ xs ≠ [] ∧ xs.length ≤ 1000 ∧ DrawAt H p n ∧ n ≤ 1000000 ∧ Tbs G H ∧ ∀ (x : V) (H' : Hp), x ∈ xs → Stp G [p] H H' → DrawAt H' p (n + 1) → Q x H'
theorem ok_pick (F : Fn K "_law_pick" s_law_pick f fd) (T : Tx K mg) (U_law_draw : Use P w K mg base (L2.CX P w) "_law_draw" 1 ["_law_draws", "_law_many"] (spDrawS G)) : FnOk P w K mg base (L2.CX P w) 2 f fd ["_law_draws", "_law_xs"] (spPick K G) := by
  refine F.ok sc_law_pick (fun vs H Q E h => ?_) (fun cdv A outer s H vs Q E hr h => ?_)
  · obtain ⟨_, _, _, _, rfl, _⟩ := h
    rfl
  · obtain ⟨p, xa, xs, n, rfl, hs, hne, hx0, hx, hd, hn, ht, k⟩ := h
    refine ⟨_, PSs.nox (pss_one (ps_ret (pe_ix ix_list (pv 1) (pe_useL U_law_draw hr (by first | decide | omega) (by rfl) (pa_cons (pv 0) (pa_cons (pe_callB call_len (by rfl) T.n_len (by decide +kernel) (pa_cons (pv 1) pa_nil)) pa_nil))) (fun _ _ => rfl)))), ?_⟩
    have h0 : 0 < xs.length := List.length_pos_iff.mpr hx0
    refine ⟨_, rfl, _, rfl, _, rfl, _, _, rfl, .inl ⟨_, hs, rfl⟩, p, _, n, rfl, hd, hn, by omega, by omega, ht, fun r H' h1 h2 S d => ?_⟩
    have hi : r.toNat < xs.length := by omega
    have hs' : SqL K H' xa xs := by
      rcases hs with (hs | ⟨o, hs⟩) | hs
      · exact .inl (.inl (S.k _ _ hs (by simp; exact hne) fun _ z => by cases z))
      · exact .inl (.inr ⟨o, S.k _ _ hs (by simp; exact hne) fun _ z => by cases z⟩)
      · exact .inr hs
    refine ⟨xa, xs, r, xs[r.toNat], rfl, rfl, hs', ?_, k _ H' (List.getElem_mem hi) S d⟩
    have e : ((r.toNat : Nat) : Int) = r := by omega
    have z := atI_nat (xs := xs) (j := r.toNat) (v := xs[r.toNat]) (List.getElem?_eq_getElem hi)
    rw [e] at z
    exact z
end
end K10

namespace K10
open PySem PySem.Spec PyProof.Rows L2 XV XL UU CC FW GX GxR
section
variable {P : Program} {w : World} {K : PySem.W.Frag} {mg : Str → Option Value} {base : Heap} {f : Addr} {fd : FuncData} {G : Tb}
theorem DrawAt.mono {H : Hp} {p : Addr} {m n : Int} (h : DrawAt H p m) (hn : m ≤ n) : DrawAt H p n := by
  obtain ⟨a, b, c, e, h1, h2, h3, h4, h5⟩ := h
  exact ⟨a, b, c, e, h1, h2, h3, h4, by omega⟩
theorem DrawAt.noT {H : Hp} {p : Addr} {m : Int} (h : DrawAt H p m) : NoT [p] H := by
  obtain ⟨_, _, _, q, _⟩ := h
  exact noT_lst q
structure RInv (K : PySem.W.Frag) (G : Tb) (H0 H : Hp) (p q na : Addr) (ks : List Str) (rows : List RowD) (N : Int) : Prop where
  s : Stp G [p, q] H0 H
  l : ∃ sv, H q = some (.lst sv) ∧ Vds K H sv (rows.map RowD.data)
  ok : ∀ r ∈ rows, r.ok ks
  d : DrawAt H p N
  hna : H na = some (.lst (ks.map V.str))
  ne : q ≠ p
  n1 : na ≠ p
  n2 : na ≠ q
theorem RInv.stp {H0 H H' : Hp} {p q na : Addr} {ks : List Str} {rows : List RowD} {N N' : Int} (h : RInv K G H0 H p q na ks rows N) (S : Stp G [p] H H') (d : DrawAt H' p N') : RInv K G H0 H' p q na ks rows N' := by
  obtain ⟨sv, e, hv⟩ := h.l
  exact ⟨h.s.trans (S.mono fun b hb => by rw [List.mem_singleton.mp hb]; simp), ⟨sv, S.k _ _ e (by simp; exact h.ne) (fun _ z => by cases z), hv.keep h.d.noT S.k⟩, h.ok, d, S.k _ _ h.hna (by simp; exact h.n1) (fun _ z => by cases z), h.ne, h.n1, h.n2⟩
theorem RInv.new {H0 H H' : Hp} {p q na : Addr} {ks : List Str} {rows : List RowD} {N : Int} (h : RInv K G H0 H p q na ks rows N) (S : Stp G [] H H') : RInv K G H0 H' p q na ks rows N := h.stp S.up (drawAt_keep h.d (by simp) S.k)
theorem RInv.app {H0 H : Hp} {p q na : Addr} {ks : List Str} {rows : List RowD} {N : Int} (h : RInv K G H0 H p q na ks rows N) {sv : List V} {v : V} {r : RowD} (e : H q = some (.lst sv)) (hv : Vd K H v r.data) (hr : r.ok ks) : RInv K G H0 (upd H q (.lst (sv ++ [v]))) p q na ks (rows ++ [r]) N := by
  obtain ⟨sv', e', hvs⟩ := h.l
  rw [e] at e'
  cases e'
  have S : Stp G [q] H (upd H q (.lst (sv ++ [v]))) := .put h.s.t (by simp) e notc_lst
  refine ⟨h.s.trans (S.mono fun b hb => by rw [List.mem_singleton.mp hb]; simp), ⟨_, upd_same, ?_⟩, fun r' hr' => ?_, drawAt_keep h.d (by simp; exact Ne.symm h.ne) S.k, S.k _ _ h.hna (by simp; exact h.n2) (fun _ z => by cases z), h.ne, h.n1, h.n2⟩
  · rw [List.map_append]
    exact (hvs.snoc hv).keep (noT_lst e) S.k
  · rcases List.mem_append.mp hr' with z | z
    · exact h.ok _ z
    · rw [List.mem_singleton.mp z]; exact hr
theorem RInv.len {H0 H : Hp} {p q na : Addr} {ks : List Str} {rows : List RowD} {N : Int} (h : RInv K G H0 H p q na ks rows N) {sv : List V} (e : H q = some (.lst sv)) : sv.length = rows.length := by
  obtain ⟨sv', e', hvs⟩ := h.l
  rw [e] at e'
  cases e'
  rw [hvs.len, List.length_map]
/-- a tuple of things that are no tuples, or no tuple -/
def shallow : PyData → Bool
  | .tuple ds => ds.all fun d => match d with | .tuple _ => false | .list _ => false | .dict _ => false | _ => true
  | .list _ => false
  | .dict _ => false
  | _ => true
theorem pc_flat {b : Nat} {d : PyData} (h : shallow d = true) (hm : (markL d).length < 40000) (ht : tupLen d ≤ b ∧ tupLen d ≤ 100000) : PcOk b d := by
  have hs : Sml 4 d := by
    cases d with
    | tuple ds =>
      refine ⟨ht.2, fun x hx => ?_⟩
      have := List.all_eq_true.mp h x hx
      cases x <;> first | exact True.intro | cases this
    | list ds => cases h
    | dict ds => cases h
    | _ => exact True.intro
  have hv : isVal d = true := by
    cases d with
    | tuple ds =>
      rw [isVal_tup]
      refine List.all_eq_true.mpr fun x hx => ?_
      have := List.all_eq_true.mp h x hx
      cases x <;> first | rfl | cases this
    | list ds => cases h
    | dict ds => cases h
    | _ => rfl
  exact ⟨⟨hv, hs⟩, ⟨hs, hm⟩, ht.1⟩
theorem sc_law_piece : FnScope ["_law_draws"] ["_law_draws"] (defScope s_law_piece) := ⟨rfl, rfl, rfl, by decide +kernel, rfl, by decide +kernel, by decide +kernel⟩
def spPiece (K : PySem.W.Frag) (G : Tb) (b : Nat) : Sp := fun vs H Q _ => ∃ (p : Addr) (n : Int), vs = [.ref p] ∧ DrawAt H p n ∧ n ≤ 1000000 ∧ Tbs G H ∧ ∀ (v : V) (d : PyData) (H' : Hp), PcOk b d → Stp G [p] H H' → Vd K H' v d → DrawAt H' p (n + 1) → Q v H'
theorem ok_piece (F : Fn K "_law_piece" s_law_piece f fd) (T : Tx K mg) (U_law_pick : Use P w K mg base (L2.CX P w) "_law_pick" 2 ["_law_draws", "_law_xs"] (spPick K G)) : FnOk P w K mg base (L2.CX P w) 3 f fd ["_law_draws"] (spPiece K G 3) := by
  refine F.ok sc_law_piece (fun vs H Q E h => ?_) (fun cdv A outer s H vs Q E hr h => ?_)
  · obtain ⟨_, _, rfl, _⟩ := h
    rfl
  · obtain ⟨p, n, rfl, hd, hn, ht, k⟩ := h
    refine ⟨_, PSs.nox (pss_one (ps_ret (pe_useL U_law_pick hr (by first | decide | omega) (by rfl) (pa_cons (pv 0) (pa_cons (pe_lst (pa_cons (pe_tup (pa_cons pe_int (pa_cons pe_int (pa_cons pe_int pa_nil)))) (pa_cons (pe_tup (pa_cons pe_int (pa_cons pe_int (pa_cons pe_int pa_nil)))) (pa_cons (pe_tup (pa_cons pe_bl (pa_cons pe_int pa_nil))) (pa_cons (pe_tup (pa_cons pe_int (pa_cons pe_int pa_nil))) (pa_cons (pe_tup pa_nil) (pa_cons (pe_tup (pa_cons pe_int pa_nil)) (pa_cons (pe_tup (pa_cons pe_int pa_nil)) (pa_cons pe_int (pa_cons pe_str (pa_cons pe_non (pa_cons (pe_tup (pa_cons (pe_tup (pa_cons pe_int (pa_cons pe_int pa_nil))) (pa_cons pe_int (pa_cons pe_int pa_nil)))) pa_nil)))))))))))) pa_nil))))), ?_⟩
    refine ⟨_, rfl, ?_⟩
    refine ⟨by show 3 ≤ sizeLine; decide, fun t1 h1 => ?_⟩
    have S1 := FW.Stp.new (fp := []) (o := (.tup [V.int 1, V.int 2, V.int 3])) ht h1
    have e1 : L2.upd H t1 (.tup [V.int 1, V.int 2, V.int 3]) t1 = some (.tup [V.int 1, V.int 2, V.int 3]) := L2.upd_same
    generalize L2.upd H t1 (.tup [V.int 1, V.int 2, V.int 3]) = H1 at *
    refine ⟨by show 3 ≤ sizeLine; decide, fun t2 h2 => ?_⟩
    have S2 := FW.Stp.new (fp := []) (o := (.tup [V.int 4, V.int 5, V.int 6])) S1.t h2
    have e2 : L2.upd H1 t2 (.tup [V.int 4, V.int 5, V.int 6]) t2 = some (.tup [V.int 4, V.int 5, V.int 6]) := L2.upd_same
    generalize L2.upd H1 t2 (.tup [V.int 4, V.int 5, V.int 6]) = H2 at *
    refine ⟨by show 2 ≤ sizeLine; decide, fun t3 h3 => ?_⟩
    have S3 := FW.Stp.new (fp := []) (o := (.tup [V.bl true, V.int 0])) S2.t h3
    have e3 : L2.upd H2 t3 (.tup [V.bl true, V.int 0]) t3 = some (.tup [V.bl true, V.int 0]) := L2.upd_same
    generalize L2.upd H2 t3 (.tup [V.bl true, V.int 0]) = H3 at *
    refine ⟨by show 2 ≤ sizeLine; decide, fun t4 h4 => ?_⟩
    have S4 := FW.Stp.new (fp := []) (o := (.tup [V.int 0, V.int 1])) S3.t h4
    have e4 : L2.upd H3 t4 (.tup [V.int 0, V.int 1]) t4 = some (.tup [V.int 0, V.int 1]) := L2.upd_same
    generalize L2.upd H3 t4 (.tup [V.int 0, V.int 1]) = H4 at *
    refine ⟨by show 0 ≤ sizeLine; decide, fun t5 h5 => ?_⟩
    have S5 := FW.Stp.new (fp := []) (o := (.tup [])) S4.t h5
    have e5 : L2.upd H4 t5 (.tup []) t5 = some (.tup []) := L2.upd_same
    generalize L2.upd H4 t5 (.tup []) = H5 at *
    refine ⟨by show 1 ≤ sizeLine; decide, fun t6 h6 => ?_⟩
    have S6 := FW.Stp.new (fp := []) (o := (.tup [V.int 7])) S5.t h6
    have e6 : L2.upd H5 t6 (.tup [V.int 7]) t6 = some (.tup [V.int 7]) := L2.upd_same
    generalize L2.upd H5 t6 (.tup [V.int 7]) = H6 at *
    refine ⟨by show 1 ≤ sizeLine; decide, fun t7 h7 => ?_⟩
    have S7 := FW.Stp.new (fp := []) (o := (.tup [V.int 8])) S6.t h7
    have e7 : L2.upd H6 t7 (.tup [V.int 8]) t7 = some (.tup [V.int 8]) := L2.upd_same
    generalize L2.upd H6 t7 (.tup [V.int 8]) = H7 at *
    refine ⟨by show 2 ≤ sizeLine; decide, fun t8 h8 => ?_⟩
    have S8 := FW.Stp.new (fp := []) (o := (.tup [V.int 1, V.int 2])) S7.t h8
    have e8 : L2.upd H7 t8 (.tup [V.int 1, V.int 2]) t8 = some (.tup [V.int 1, V.int 2]) := L2.upd_same
    generalize L2.upd H7 t8 (.tup [V.int 1, V.int 2]) = H8 at *
    refine ⟨by show 3 ≤ sizeLine; decide, fun t9 h9 => ?_⟩
    have S9 := FW.Stp.new (fp := []) (o := (.tup [V.ref t8, V.int 3, V.int 4])) S8.t h9
    have e9 : L2.upd H8 t9 (.tup [V.ref t8, V.int 3, V.int 4]) t9 = some (.tup [V.ref t8, V.int 3, V.int 4]) := L2.upd_same
    generalize L2.upd H8 t9 (.tup [V.ref t8, V.int 3, V.int 4]) = H9 at *
    refine ⟨by show 11 ≤ sizeLine; decide, fun xa hxa => ?_⟩
    have SX := FW.Stp.new (fp := []) (o := (.lst [V.ref t1, V.ref t2, V.ref t3, V.ref t4, V.ref t5, V.ref t6, V.ref t7, V.int 1, V.str "ab", V.non, V.ref t9])) S9.t hxa
    have eX : L2.upd H9 xa (.lst [V.ref t1, V.ref t2, V.ref t3, V.ref t4, V.ref t5, V.ref t6, V.ref t7, V.int 1, V.str "ab", V.non, V.ref t9]) xa = some (.lst [V.ref t1, V.ref t2, V.ref t3, V.ref t4, V.ref t5, V.ref t6, V.ref t7, V.int 1, V.str "ab", V.non, V.ref t9]) := L2.upd_same
    generalize L2.upd H9 xa (.lst [V.ref t1, V.ref t2, V.ref t3, V.ref t4, V.ref t5, V.ref t6, V.ref t7, V.int 1, V.str "ab", V.non, V.ref t9]) = HX at *
    have S0X : Stp G [] H HX := S1.trans (S2.trans (S3.trans (S4.trans (S5.trans (S6.trans (S7.trans (S8.trans (S9.trans (SX)))))))))
    have hdX := drawAt_keep hd (by simp) S0X.k
    have hd9 := drawAt_keep hd (by simp) (S1.trans (S2.trans (S3.trans (S4.trans (S5.trans (S6.trans (S7.trans (S8.trans S9)))))))).k
    have nxa : xa ≠ p := by
      obtain ⟨_, _, _, e, _⟩ := hd9
      exact Ne.symm (ne_of_none e hxa)
    refine ⟨p, xa, _, n, rfl, SqL.of eX, nxa, by simp, by show 11 ≤ 1000; decide, hdX, hn, S0X.t, fun x HZ hx SZ hdZ => ?_⟩
    have S0Z := S0X.up.trans SZ
    have kk : ∀ {Hx : Hp} {t : Addr} {ts : List V} {ds : List PyData}, Hx t = some (.tup ts) → Stp G [] Hx HX → (∀ H', Stp G [] Hx H' → Vds K H' ts ds) → Vd K HZ (.ref t) (.tuple ds) := fun {Hx t ts ds} e S hv => by
      have e5 := S.k _ _ e (by simp) fun _ z => by cases z
      exact Vd.keep hdX.noT SZ.k (Vd.tup (.of e5) (hv HX S))
    simp only [List.mem_cons, List.mem_nil_iff, or_false] at hx
    rcases hx with rfl | rfl | rfl | rfl | rfl | rfl | rfl | rfl | rfl | rfl | rfl
    · exact k _ (.tuple [.int 1, .int 2, .int 3]) _ (pc_flat rfl (by decide) (by decide)) S0Z (kk e1 (S2.trans (S3.trans (S4.trans (S5.trans (S6.trans (S7.trans (S8.trans (S9.trans (SX))))))))) fun H' _ => .cons ⟨.int _, rfl⟩ (.cons ⟨.int _, rfl⟩ (.cons ⟨.int _, rfl⟩ .nil))) hdZ
    · exact k _ (.tuple [.int 4, .int 5, .int 6]) _ (pc_flat rfl (by decide) (by decide)) S0Z (kk e2 (S3.trans (S4.trans (S5.trans (S6.trans (S7.trans (S8.trans (S9.trans (SX)))))))) fun H' _ => .cons ⟨.int _, rfl⟩ (.cons ⟨.int _, rfl⟩ (.cons ⟨.int _, rfl⟩ .nil))) hdZ
    · exact k _ (.tuple [.bool true, .int 0]) _ (pc_flat rfl (by decide) (by decide)) S0Z (kk e3 (S4.trans (S5.trans (S6.trans (S7.trans (S8.trans (S9.trans (SX))))))) fun H' _ => .cons ⟨.bl _, rfl⟩ (.cons ⟨.int _, rfl⟩ .nil)) hdZ
    · exact k _ (.tuple [.int 0, .int 1]) _ (pc_flat rfl (by decide) (by decide)) S0Z (kk e4 (S5.trans (S6.trans (S7.trans (S8.trans (S9.trans (SX)))))) fun H' _ => .cons ⟨.int _, rfl⟩ (.cons ⟨.int _, rfl⟩ .nil)) hdZ
    · exact k _ (.tuple []) _ (pc_flat rfl (by decide) (by decide)) S0Z (kk e5 (S6.trans (S7.trans (S8.trans (S9.trans (SX))))) fun H' _ => .nil) hdZ
    · exact k _ (.tuple [.int 7]) _ (pc_flat rfl (by decide) (by decide)) S0Z (kk e6 (S7.trans (S8.trans (S9.trans (SX)))) fun H' _ => .cons ⟨.int _, rfl⟩ .nil) hdZ
    · exact k _ (.tuple [.int 8]) _ (pc_flat rfl (by decide) (by decide)) S0Z (kk e7 (S8.trans (S9.trans (SX))) fun H' _ => .cons ⟨.int _, rfl⟩ .nil) hdZ
    · exact k _ (.int 1) _ (pc_flat rfl (by decide) (by decide)) S0Z ⟨.int _, rfl⟩ hdZ
    · exact k _ (.str "ab") _ (pc_flat rfl (by decide) (by decide)) S0Z ⟨.str _, rfl⟩ hdZ
    · exact k _ .none _ (pc_flat rfl (by decide) (by decide)) S0Z ⟨.non, rfl⟩ hdZ
    · refine k _ (.tuple [.tuple [.int 1, .int 2], .int 3, .int 4]) _ ⟨⟨rfl, ⟨by decide, ?_⟩⟩, ⟨⟨by decide, ?_⟩, by decide⟩, by decide⟩ S0Z (kk e9 SX fun H' S => .cons (.tup (.of ((S9.trans S).k _ _ e8 (by simp) fun _ z => by cases z)) (.cons ⟨.int _, rfl⟩ (.cons ⟨.int _, rfl⟩ .nil))) (.cons ⟨.int _, rfl⟩ (.cons ⟨.int _, rfl⟩ .nil))) hdZ
      all_goals
        intro d hd
        simp only [List.mem_cons, List.mem_nil_iff, or_false] at hd
        rcases hd with rfl | rfl | rfl
        · exact ⟨by decide, fun d hd => by
            simp only [List.mem_cons, List.mem_nil_iff, or_false] at hd
            rcases hd with rfl | rfl <;> exact True.intro⟩
        · exact True.intro
        · exact True.intro
theorem sc_law_putting : FnScope ["_law_draws", "_law_names", "_law_many", "_law_found", "_law_k", "_law_way"] ["_law_draws", "_law_names", "_law_many"] (defScope s_law_putting) := ⟨rfl, rfl, rfl, by decide +kernel, rfl, by decide +kernel, by decide +kernel⟩
def spPutting (K : PySem.W.Frag) (G : Tb) (b : Nat) : Sp := fun vs H Q _ => ∃ (p na : Addr) (ks : List Str) (many n : Int), vs = [.ref p, .ref na, .int many] ∧ DrawAt H p n ∧ n + 200 ≤ 1000000 ∧ H na = some (.lst (ks.map V.str)) ∧ na ≠ p ∧ ks ≠ [] ∧ ks.length ≤ 1000 ∧ 0 ≤ many ∧ many ≤ 7 ∧ Tbs G H ∧
  ∀ (q : Addr) (H' : Hp) (sv : List V) (rows : List RowD), Stp G [p] H H' → H' q = some (.lst sv) → Vds K H' sv (rows.map RowD.data) → rows.length = many.toNat → (∀ r ∈ rows, PutRow b ks r) → Fr0 H q → DrawAt H' p (n + 200) → Q (.ref q) H'
theorem ok_putting (F : Fn K "_law_putting" s_law_putting f fd) (T : Tx K mg) (b : Nat) (U_law_draw : Use P w K mg base (L2.CX P w) "_law_draw" 1 ["_law_draws", "_law_many"] (spDrawS G)) (U_law_piece : Use P w K mg base (L2.CX P w) "_law_piece" 3 ["_law_draws"] (spPiece K G b))
   (U_law_pick : Use P w K mg base (L2.CX P w) "_law_pick" 2 ["_law_draws", "_law_xs"] (spPick K G)) : FnOk P w K mg base (L2.CX P w) 4 f fd ["_law_draws", "_law_names", "_law_many"] (spPutting K G b) := by
  refine F.ok sc_law_putting (fun vs H Q E h => ?_) (fun cdv A outer s H vs Q E hr h => ?_)
  · obtain ⟨_, _, _, _, _, rfl, _⟩ := h
    rfl
  · obtain ⟨p, na, ks, many, n, rfl, hd, hn, hna, hne, hks, hkl, hm0, hm7, ht, k⟩ := h
    refine ⟨_, PSs.nox (pss_cons (ps_set (i := 3) sc_law_putting.nd rfl (Or.inl rfl) (pe_lst pa_nil))
      (pss_cons (ps_for PassesOwn.never rfl (pi_range1 (by rfl) T.n_range (pa_cons (pv 2) pa_nil)) (pg_name (i := 4) sc_law_putting.nd rfl (Or.inl rfl))
      (pss_cons (ps_set (i := 5) sc_law_putting.nd rfl (Or.inl rfl) (pe_useL U_law_draw hr (by first | decide | omega) (by rfl) (pa_cons (pv 0) (pa_cons pe_int pa_nil))))
      (pss_one (ps_if (pt_cmpR op_lt (pv 5) pe_int (nomark _)) (pss_one (ps_expr (pe_bm PySem.F.plainAttrs_list PySem.F.slot_list_append PySem.F.type_list_append mt_append (pv 3) (pa_cons (pe_tup (pa_cons pe_str (pa_cons (pe_useL U_law_pick hr (by first | decide | omega) (by rfl) (pa_cons (pv 0) (pa_cons (pv 1) pa_nil))) (pa_cons (pe_tup (pa_cons (pe_tup (pa_cons pe_str (pa_cons (pe_useL U_law_piece hr (by first | decide | omega) (by rfl) (pa_cons (pv 0) pa_nil)) pa_nil))) pa_nil)) (pa_cons pe_int pa_nil))))) pa_nil)))) (pss_one (ps_expr (pe_bm PySem.F.plainAttrs_list PySem.F.slot_list_append PySem.F.type_list_append mt_append (pv 3) (pa_cons (pe_tup (pa_cons (pe_ix ix_list (pe_lst (pa_cons pe_str (pa_cons pe_str pa_nil))) (pe_callTy call_int1 (by rfl) T.n_int (by decide +kernel) (pa_cons (pe_cmpR op_eq (pe_useL U_law_draw hr (by first | decide | omega) (by rfl) (pa_cons (pv 0) (pa_cons pe_int pa_nil))) pe_int (nomark _)) pa_nil)) (fun _ _ => rfl)) (pa_cons pe_non (pa_cons (pe_tup pa_nil) (pa_cons pe_int pa_nil))))) pa_nil))))))))
      (pss_one (ps_ret (pv 3))))), ?_⟩
    refine ⟨by show 0 ≤ sizeLine; decide, fun q hq => ?_⟩
    have S0 := FW.Stp.new (fp := []) (o := (.lst [])) ht hq
    have eq0 : L2.upd H q (.lst []) q = some (.lst []) := L2.upd_same
    generalize L2.upd H q (.lst []) = H0 at *
    have hd0 := drawAt_keep hd (by simp) S0.k
    have fq : Fr0 H q := fr0_none hq
    have hna0 := S0.k _ _ hna (by simp) fun _ z => by cases z
    have nqp : q ≠ p := by
      obtain ⟨_, _, _, e, _⟩ := hd
      exact Ne.symm (ne_of_none e hq)
    have nqa : na ≠ q := ne_of_none hna hq
    have i0 : RInv K G H0 H0 p q na ks [] n := ⟨.refl S0.t, ⟨[], eq0, .nil⟩, fun _ z => by simp at z, hd0, hna0, nqp, hne, nqa⟩
    have slt : ∀ {k : Nat}, k ≤ 100 → k < sizeLine := fun h => Nat.lt_of_le_of_lt h (by decide)
    refine ⟨_, rfl, many, rfl, by omega, by omega, ?_⟩
    refine for_range (lo := 0) (n := many.toNat) (fun i σ H' => ∃ (x4 x5 : Option V) (rows : List RowD), σ = [some (.ref p), some (.ref na), some (.int many), some (.ref q), x4, x5] ∧ RInv K G H0 H' p q na ks rows (n + 20 * i) ∧ rows.length = i ∧ ∀ r ∈ rows, PutRow b ks r) ⟨_, _, [], rfl, (by simpa using i0), rfl, fun _ z => by simp at z⟩ (fun i σ H1 hi h => ?_) (fun σ H1 h => ?_)
    · obtain ⟨x4, x5, rows, rfl, inv, hlen, hpr⟩ := h
      have hi7 : i < 7 := by omega
      refine ⟨_, rfl, p, 6, _, rfl, inv.d, by omega, by decide, by decide, inv.s.t, fun way H2 hw0 hw6 S2 d2 => ?_⟩
      have inv2 := inv.stp S2 d2
      have fin : ∀ {H' : Hp} {r : RowD} {N : Int}, RInv K G H0 H' p q na ks (rows ++ [r]) N → PutRow b ks r → N ≤ n + 20 * (i : Int) + 20 → ∃ (x4' x5' : Option V) (rows' : List RowD), [some (.ref p), some (.ref na), some (.int many), some (.ref q), some (.int (0 + (i : Nat))), some (.int way)] = [some (.ref p), some (.ref na), some (.int many), some (.ref q), x4', x5'] ∧ RInv K G H0 H' p q na ks rows' (n + 20 * ((i + 1 : Nat) : Int)) ∧ rows'.length = i + 1 ∧ ∀ r ∈ rows', PutRow b ks r := fun {H' r N} hI hp hN =>
        ⟨_, _, rows ++ [r], rfl, ⟨hI.s, hI.l, hI.ok, hI.d.mono (by omega), hI.hna, hI.ne, hI.n1, hI.n2⟩, by rw [List.length_append, hlen] <;> rfl, fun r' hr' => by
          rcases List.mem_append.mp hr' with z | z
          · exact hpr r' z
          · rw [List.mem_singleton.mp z]; exact hp⟩
      refine ⟨_, rfl, _, _, rfl, rfl, _, rfl, ite2 (fun h4 => ?_) fun h4 => ?_⟩
      · obtain ⟨sv, e, hvs⟩ := inv2.l
        refine ⟨_, rfl, .inl ⟨rfl, _, SqL.of e⟩, ?_⟩
        refine ⟨_, rfl, _, rfl, p, na, _, _, rfl, SqL.of inv2.hna, inv2.n1, by simpa using hks, by rw [List.length_map]; exact hkl, inv2.d, by omega, inv2.s.t, fun x H5 hx S5 d5 => ?_⟩
        have inv5 := inv2.stp S5 d5
        obtain ⟨nm, hnm, rfl⟩ := List.mem_map.mp hx
        refine ⟨_, rfl, p, _, rfl, inv5.d, by omega, inv5.s.t, fun v d H6 hfl S6 hv d6 => ?_⟩
        have inv6 := inv5.stp S6 d6
        refine ⟨by show 2 ≤ sizeLine; decide, fun t1 ht1 => ?_⟩
        have S7 := FW.Stp.new (fp := []) (o := (.tup [V.str "value", v])) inv6.s.t ht1
        have e7 : L2.upd H6 t1 (.tup [V.str "value", v]) t1 = some (.tup [V.str "value", v]) := L2.upd_same
        generalize L2.upd H6 t1 (.tup [V.str "value", v]) = H7 at *
        have inv7 := inv6.new S7
        refine ⟨by show 1 ≤ sizeLine; decide, fun t2 ht2 => ?_⟩
        have S8 := FW.Stp.new (fp := []) (o := (.tup [V.ref t1])) inv7.s.t ht2
        have e8 : L2.upd H7 t2 (.tup [V.ref t1]) t2 = some (.tup [V.ref t1]) := L2.upd_same
        generalize L2.upd H7 t2 (.tup [V.ref t1]) = H8 at *
        have inv8 := inv7.new S8
        refine ⟨by show 4 ≤ sizeLine; decide, fun t3 ht3 => ?_⟩
        have S9 := FW.Stp.new (fp := []) (o := (.tup [V.str "put", V.str nm, V.ref t2, V.int 9])) inv8.s.t ht3
        have e9 : L2.upd H8 t3 (.tup [V.str "put", V.str nm, V.ref t2, V.int 9]) t3 = some (.tup [V.str "put", V.str nm, V.ref t2, V.int 9]) := L2.upd_same
        generalize L2.upd H8 t3 (.tup [V.str "put", V.str nm, V.ref t2, V.int 9]) = H9 at *
        have inv9 := inv8.new S9
        have S89 := S8.trans S9
        obtain ⟨sv9, es9, _⟩ := inv9.l
        refine ⟨q, sv9, _, rfl, rfl, es9, by rw [inv9.len es9]; exact slt (by omega), ?_⟩
        have hp : PutRow b ks (.put nm (.value d)) := ⟨hnm, hfl⟩
        have v1 : Vd K H9 (.ref t1) (.tuple [.str "value", d]) := .tup (.of (S89.k _ _ e7 (by simp) fun _ z => by cases z)) (.cons ⟨.str _, rfl⟩ (.cons (hv.ext (S7.trans S89).k) .nil))
        refine fin (inv9.app (r := .put nm (.value d)) es9 (.tup (.of e9) (.cons ⟨.str _, rfl⟩ (.cons ⟨.str _, rfl⟩ (.cons (.tup (.of (S9.k _ _ e8 (by simp) fun _ z => by cases z)) (.cons v1 .nil)) (.cons ⟨.int _, rfl⟩ .nil))))) hp.ok) hp (by omega)
      · obtain ⟨sv, e, hvs⟩ := inv2.l
        refine ⟨_, rfl, .inl ⟨rfl, _, SqL.of e⟩, by show 2 ≤ sizeLine; decide, fun lw hlw => ?_⟩
        have S6 := FW.Stp.new (fp := []) (o := (.lst [V.str "barrier", V.str "flush"])) inv2.s.t hlw
        have e6 : L2.upd H2 lw (.lst [V.str "barrier", V.str "flush"]) lw = some (.lst [V.str "barrier", V.str "flush"]) := L2.upd_same
        generalize L2.upd H2 lw (.lst [V.str "barrier", V.str "flush"]) = H6 at *
        have inv6 := inv2.new S6
        refine ⟨_, rfl, p, 3, _, rfl, inv6.d, by omega, by decide, by decide, inv6.s.t, fun r2 H7 _ _ S7 d7 => ⟨rfl, .inr ⟨_, rfl, ?_⟩⟩⟩
        have inv7 := inv6.stp S7 d7
        have nlp : lw ∉ [p] := fun z => by
          obtain ⟨_, _, _, q, _⟩ := inv2.d
          rw [List.mem_singleton.mp z, q] at hlw
          cases hlw
        have e7 := S7.k _ _ e6 nlp fun _ z => by cases z
        have gu : ∃ (wd : Str) (rw : RowD), atI [V.str "barrier", V.str "flush"] (if decide (V.int r2 = V.int 0) = true then 1 else 0) = some (.str wd) ∧ rw.data = .tuple [.str wd, .none, .tuple [], .int 9] ∧ PutRow b ks rw := by
          cases decide (V.int r2 = V.int 0) with
          | false => exact ⟨"barrier", .bar, rfl, rfl, True.intro⟩
          | true => exact ⟨"flush", .flu, rfl, rfl, True.intro⟩
        obtain ⟨wd, rw', hat, hdat, hp⟩ := gu
        refine ⟨lw, _, _, .str wd, rfl, rfl, SqL.of e7, hat, by show 0 ≤ sizeLine; decide, fun t1 ht1 => ?_⟩
        have S8 := FW.Stp.new (fp := []) (o := (.tup [])) inv7.s.t ht1
        have e8 : L2.upd H7 t1 (.tup []) t1 = some (.tup []) := L2.upd_same
        generalize L2.upd H7 t1 (.tup []) = H8 at *
        have inv8 := inv7.new S8
        refine ⟨by show 4 ≤ sizeLine; decide, fun t2 ht2 => ?_⟩
        have S9 := FW.Stp.new (fp := []) (o := (.tup [V.str wd, V.non, V.ref t1, V.int 9])) inv8.s.t ht2
        have e9 : L2.upd H8 t2 (.tup [V.str wd, V.non, V.ref t1, V.int 9]) t2 = some (.tup [V.str wd, V.non, V.ref t1, V.int 9]) := L2.upd_same
        generalize L2.upd H8 t2 (.tup [V.str wd, V.non, V.ref t1, V.int 9]) = H9 at *
        have inv9 := inv8.new S9
        obtain ⟨sv9, es9, _⟩ := inv9.l
        refine ⟨q, sv9, _, rfl, rfl, es9, by rw [inv9.len es9]; exact slt (by omega), ?_⟩
        refine fin (inv9.app (r := rw') es9 (by
          rw [hdat]
          exact .tup (.of e9) (.cons ⟨.str _, rfl⟩ (.cons ⟨.non, rfl⟩ (.cons (.tup (.of (S9.k _ _ e8 (by simp) fun _ z => by cases z)) .nil) (.cons ⟨.int _, rfl⟩ .nil))))) hp.ok) hp (by omega)
    · obtain ⟨x4, x5, rows, rfl, inv, hlen, hpr⟩ := h
      have back : ∀ {H' : Hp}, Stp G [p, q] H0 H' → Stp G [p] H H' := fun S => ⟨fun b o e hb nt => S.k _ _ (S0.k _ _ e (by simp) nt) (fun z => by
        rcases List.mem_cons.mp z with z | z
        · exact hb (by simp [z])
        · rw [List.mem_singleton.mp z] at e
          obtain ⟨ps, z2⟩ := fq _ e
          exact nt ps z2) nt, S.t⟩
      obtain ⟨sv, es, hs⟩ := inv.l
      exact ⟨_, rfl, k q H1 sv rows (back inv.s) es hs hlen hpr fq (inv.d.mono (by omega))⟩
end
end K10

namespace K10
open PySem PySem.Spec PyProof.Rows L2 XV XL UU CC FW GX GxR
section
variable {P : Program} {w : World} {K : PySem.W.Frag} {mg : Str → Option Value} {base : Heap} {f : Addr} {fd : FuncData} {G : Tb}
theorem sc_law_told : FnScope ["_law_row", "_law_notes", "_law_here"] ["_law_row", "_law_notes"] (defScope s_law_told) := ⟨rfl, rfl, rfl, by decide +kernel, rfl, by decide +kernel, by decide +kernel⟩
def spTold (K : PySem.W.Frag) : Sp := fun vs H Q _ => ∃ (rv : V) (na : Addr) (kvs : List (Key × V)) (ns : Nts) (pt : Part), vs = [rv, .ref na] ∧ Vd K H rv pt.data ∧ H na = some (.dK kvs) ∧ NtD K H kvs ns ∧ ∀ v, Vd K H v (pt.val ns) → Q v H
theorem ok_told (F : Fn K "_law_told" s_law_told f fd) (T : Tx K mg) : FnOk P w K mg base (L2.CX P w) 1 f fd ["_law_row", "_law_notes"] (spTold K) := by
  refine F.ok sc_law_told (fun vs H Q E h => ?_) (fun cdv A outer s H vs Q E hr h => ?_)
  · obtain ⟨_, _, _, _, _, rfl, _⟩ := h
    rfl
  · obtain ⟨rv, na, kvs, ns, pt, rfl, hv, hna, hns, k⟩ := h
    refine ⟨_, PSs.nox (pss_cons (ps_if (pt_cmpR op_eq (pe_ix ix_tup (pv 0) pe_int (fun _ _ => rfl)) pe_str (nomark _)) (pss_one (ps_ret (pe_ix ix_tup (pv 0) pe_int (fun _ _ => rfl)))) pss_nil)
      (pss_cons (ps_set (i := 2) sc_law_told.nd rfl (Or.inl rfl) (pe_dget2 (hu_of hr) (pv 1) (pe_ix ix_tup (pv 0) pe_int (fun _ _ => rfl)) pe_int ⟨rfl, rfl, rfl, rfl⟩))
      (pss_cons (ps_if (PW.pt (pw_and (pt_cmpR op_eq (pe_ix ix_tup (pv 0) pe_int (fun _ _ => rfl)) pe_str (nomark _)) (pw_and (pt_val (pe_callB call_isD (by rfl) T.n_isinstance (by decide +kernel) (pa_cons (pv 2) (pa_cons (pe_bltn (v := .ty "int") (by rfl) T.n_int (by decide +kernel) rfl) pa_nil)))) (pw_and1 (pt_not (pt_val (pe_callB call_isD (by rfl) T.n_isinstance (by decide +kernel) (pa_cons (pv 2) (pa_cons (pe_bltn (v := .ty "bool") (by rfl) T.n_bool (by decide +kernel) rfl) pa_nil))))))))) (pss_one (ps_ret (pe_op op_add (pv 2) (pe_ix ix_tup (pv 0) pe_int (fun _ _ => rfl))))) pss_nil)
      (pss_one (ps_ret (pv 2)))))), ?_⟩
    cases pt with
    | value d =>
      obtain ⟨a, u, rfl, q, hu⟩ := Vd.pair (n := "value") (d := d) hv
      exact ⟨_, rfl, a, _, 0, _, rfl, rfl, q, rfl, rfl, _, rfl, iteT ⟨_, rfl, a, _, 1, _, rfl, rfl, q, rfl, k _ hu⟩⟩
    | note n =>
      obtain ⟨a, u, rfl, q, hu⟩ := Vd.pair (n := "note") (d := .int n) hv
      have e := hu.dp
      cases e
      refine ⟨_, rfl, a, _, 0, _, rfl, rfl, q, rfl, rfl, _, rfl, iteF ?_⟩
      refine ⟨_, rfl, na, rfl, .inl ⟨kvs, .inl hna⟩, _, rfl, a, _, 1, _, rfl, rfl, q, rfl, valV kvs (.inl n), .inl ⟨kvs, .inl n, .inl hna, rfl, rfl⟩, ?_⟩
      refine ⟨_, rfl, a, _, 0, _, rfl, rfl, q, rfl, rfl, _, rfl, iteF ?_⟩
      refine iteF ?_
      exact ⟨_, rfl, k _ (ntD_get hns)⟩
    | plus =>
      obtain ⟨a, us, rfl, q, hd⟩ := Vd.untup (ds := [.str "plus", .int 0, .int 1]) hv
      obtain rfl : us = [.str "plus", .int 0, .int 1] := by
        cases hd with
        | cons h1 hd =>
          cases hd with
          | cons h2 hd =>
            cases hd with
            | cons h3 hd =>
              cases hd with
              | nil =>
                have e1 := h1.dp
                cases e1
                have e2 := h2.dp
                cases e2
                have e3 := h3.dp
                cases e3
                rfl
      have hg := ntD_get (n := 0) hns
      generalize hu : (valV kvs (.inl 0)).getD (.int 0) = u at *
      refine ⟨_, rfl, a, _, 0, _, rfl, rfl, q, rfl, rfl, _, rfl, iteF ?_⟩
      refine ⟨_, rfl, na, rfl, .inl ⟨kvs, .inl hna⟩, _, rfl, a, _, 1, _, rfl, rfl, q, rfl, valV kvs (.inl 0), .inl ⟨kvs, .inl 0, .inl hna, rfl, rfl⟩, ?_⟩
      rw [hu]
      refine ⟨_, rfl, a, _, 0, _, rfl, rfl, q, rfl, rfl, _, rfl, iteT ?_⟩
      refine ⟨_, rfl, _, _, ntGet ns 0, rfl, hg.dp, kn_int _, _, rfl, ?_⟩
      rw [isB_int]
      have hval : Part.val ns .plus = plus1 (ntGet ns 0) := rfl
      rw [hval] at k
      generalize ntGet ns 0 = d at *
      cases hk : kI d with
      | false =>
        refine iteF (iteF ?_)
        have e : plus1 d = d := by cases d <;> first | rfl | cases hk
        rw [e] at k
        exact ⟨_, rfl, k _ hg⟩
      | true =>
        refine iteT ?_
        refine ⟨_, rfl, _, _, d, rfl, hg.dp, kn_bool d, _, rfl, ?_⟩
        rw [isB_bool]
        rcases int_cases hg.dp hk with ⟨b, rfl, rfl⟩ | ⟨i, rfl, rfl⟩
        · exact iteF ⟨_, rfl, k _ hg⟩
        · refine iteT ⟨_, rfl, _, rfl, a, _, 2, _, rfl, rfl, q, rfl, _, _, rfl, rfl, k _ ⟨.int _, rfl⟩⟩
theorem sc_law_wish : FnScope ["_law_row", "_law_notes", "_law_part"] ["_law_row", "_law_notes"] (defScope s_law_wish) := ⟨rfl, rfl, rfl, by decide +kernel, rfl, by decide +kernel, by decide +kernel⟩
def spWish (K : PySem.W.Frag) (G : Tb) : Sp := fun vs H Q _ => ∃ (rv : V) (na : Addr) (kvs : List (Key × V)) (ns : Nts) (r : RowD) (wi : Wi) (m : Int), vs = [rv, .ref na] ∧ Vd K H rv r.data ∧ H na = some (.dK kvs) ∧ NtD K H kvs ns ∧ r.wi ns = some (wi, m) ∧ Tbs G H ∧ ∀ v H', Stp G [] H H' → Vd K H' v wi.data → Q v H'
theorem ok_wish (F : Fn K "_law_wish" s_law_wish f fd) (T : Tx K mg) (U_law_told : Use P w K mg base (L2.CX P w) "_law_told" 1 ["_law_row", "_law_notes"] (spTold K)) : FnOk P w K mg base (L2.CX P w) 2 f fd ["_law_row", "_law_notes"] (spWish K G) := by
  refine F.ok sc_law_wish (fun vs H Q E h => ?_) (fun cdv A outer s H vs Q E hr h => ?_)
  · obtain ⟨_, _, _, _, _, _, _, rfl, _⟩ := h
    rfl
  · obtain ⟨rv, na, kvs, ns, r, wi, m, rfl, hv, hna, hns, hwi, ht, k⟩ := h
    refine ⟨_, PSs.nox (pss_cons (ps_if (pt_cmpR op_in_seq (pe_ix ix_tup (pv 0) pe_int (fun _ _ => rfl)) (pe_tup (pa_cons pe_str (pa_cons pe_str pa_nil))) (by rfl)) (pss_one (ps_ret (pe_tup (pa_cons (pe_ix ix_tup (pv 0) pe_int (fun _ _ => rfl)) pa_nil)))) pss_nil)
      (pss_one (ps_ret (pe_op op_catT (pe_tup (pa_cons (pe_ix ix_tup (pv 0) pe_int (fun _ _ => rfl)) (pa_cons (pe_ix ix_tup (pv 0) pe_int (fun _ _ => rfl)) pa_nil))) (pe_callTy call_tuple_of (by rfl) T.n_tuple (by decide +kernel) (pa_cons (pe_lc (own := [("_law_part", 2)]) (tt := tYes) rfl sc_law_wish.nd (pi_tup (pe_ix ix_tup (pv 0) pe_int (fun _ _ => rfl))) (blkOk_by (N := ["_law_row", "_law_notes", "_law_part"]) (sc := defScope s_law_wish) (by decide +kernel)) (fun _ _ _ _ _ => (pg_name (i := 2) sc_law_wish.nd rfl (Or.inl rfl) (hf := .inr rfl))) (fun _ _ _ _ _ => pts_nil) (fun _ _ _ _ _ => (pe_useL U_law_told hr (by first | decide | omega) (by rfl) (pa_cons (pv 2) (pa_cons (pv 1) pa_nil))))) pa_nil)))))), ?_⟩
    rcases wi_cases hwi with ⟨wd, hb, hdat, hwid⟩ | ⟨wd, nm, ps, hps, hin, hdat, hwid⟩
    · rw [hdat] at hv
      obtain ⟨a, us, rfl, q, hd⟩ := hv.untup
      obtain ⟨u1, u2, u3, rfl⟩ : ∃ u1 u2 u3, us = [.str wd, u1, u2, u3] := by
        cases hd with
        | cons h1 hd =>
          cases hd with
          | cons h2 hd =>
            cases hd with
            | cons h3 hd =>
              cases hd with
              | cons h4 hd =>
                cases hd with
                | nil =>
                  have e1 := h1.dp
                  cases e1
                  exact ⟨_, _, _, rfl⟩
      refine ⟨_, rfl, a, _, 0, _, rfl, rfl, q, rfl, by show 2 ≤ sizeLine; decide, fun t ht1 => ?_⟩
      have S1 := FW.Stp.new (fp := []) (o := (.tup [V.str "barrier", V.str "flush"])) ht ht1
      have e1 : L2.upd H t (.tup [V.str "barrier", V.str "flush"]) t = some (.tup [V.str "barrier", V.str "flush"]) := L2.upd_same
      generalize L2.upd H t (.tup [V.str "barrier", V.str "flush"]) = H1 at *
      refine ⟨t, _, rfl, .inr (.of e1), rfl, rfl, _, rfl, ?_⟩
      have hin : inV (V.str wd) [V.str "barrier", V.str "flush"] = true := by rcases hb with rfl | rfl <;> rfl
      rw [hin]
      refine iteT ?_
      refine ⟨_, rfl, a, _, 0, _, rfl, rfl, sqT_ext S1.k.ext q, rfl, by show 1 ≤ sizeLine; decide, fun t2 ht2 => ?_⟩
      refine k _ _ (S1.snew ht2) ?_
      rw [hwid]
      exact .tup (.of upd_same) (.cons ⟨.str _, rfl⟩ .nil)
    · rw [hdat] at hv
      obtain ⟨a, us, rfl, q, hd⟩ := hv.untup
      obtain ⟨pa, u3, rfl, hpa⟩ : ∃ pa u3, us = [.str wd, .str nm, pa, u3] ∧ Vd K H pa (.tuple (ps.map Part.data)) := by
        cases hd with
        | cons h1 hd =>
          cases hd with
          | cons h2 hd =>
            cases hd with
            | cons h3 hd =>
              cases hd with
              | cons h4 hd =>
                cases hd with
                | nil =>
                  have e1 := h1.dp
                  cases e1
                  have e2 := h2.dp
                  cases e2
                  exact ⟨_, _, rfl, h3⟩
      refine ⟨_, rfl, a, _, 0, _, rfl, rfl, q, rfl, by show 2 ≤ sizeLine; decide, fun t ht1 => ?_⟩
      have S1 := FW.Stp.new (fp := []) (o := (.tup [V.str "barrier", V.str "flush"])) ht ht1
      have e1 : L2.upd H t (.tup [V.str "barrier", V.str "flush"]) t = some (.tup [V.str "barrier", V.str "flush"]) := L2.upd_same
      generalize L2.upd H t (.tup [V.str "barrier", V.str "flush"]) = H1 at *
      refine ⟨t, _, rfl, .inr (.of e1), rfl, rfl, _, rfl, ?_⟩
      rw [hin]
      refine iteF ?_
      have q1 := sqT_ext S1.k.ext q
      refine ⟨_, rfl, a, _, 0, _, rfl, rfl, q1, rfl, _, rfl, a, _, 1, _, rfl, rfl, q1, rfl, by show 2 ≤ sizeLine; decide, fun t2 ht2 => ?_⟩
      have S2 := FW.Stp.new (fp := []) (o := (.tup [V.str wd, V.str nm])) S1.t ht2
      have e2 : L2.upd H1 t2 (.tup [V.str wd, V.str nm]) t2 = some (.tup [V.str wd, V.str nm]) := L2.upd_same
      generalize L2.upd H1 t2 (.tup [V.str wd, V.str nm]) = H2 at *
      have S02 := S1.trans S2
      obtain ⟨ax, xs, rfl, qx, hxs⟩ := (hpa.ext S02.k).untup
      have hxl : xs.length = ps.length := by rw [hxs.len, List.length_map]
      refine ⟨_, rfl, a, _, 2, .ref ax, rfl, rfl, sqT_ext S02.k.ext q, rfl, ax, rfl, ⟨_, qx⟩, fun D hD => ?_⟩
      have SD : Stp G [] H2 (upd H2 D (.lst [])) := .new S2.t hD
      have eD : upd H2 D (.lst []) D = some (.lst []) := upd_same
      have ntD0 : NoT [D] (upd H2 D (.lst [])) := noT_lst eD
      obtain ⟨H3, hH3⟩ : ∃ X, X = upd H2 D (.lst []) := ⟨_, rfl⟩
      rw [← hH3] at SD eD ntD0
      have S03 := S02.trans SD
      have hna3 := S03.k _ _ hna (by simp) fun _ z => by cases z
      have nD : ∀ {b : Addr} {o : HO}, H2 b = some o → b ∉ [D] := fun e z => by
        rw [List.mem_singleton.mp z, hD] at e
        cases e
      have hns3 := hns.keep noT_nil S03.k
      have nna : na ∉ [D] := nD (S02.k _ _ hna (by simp) fun _ z => by cases z)
      refine lc_it (walk_tup (xs := xs)) (fun i H' => Stp G [D] H3 H' ∧ ∃ acc, H' D = some (.lst acc) ∧ acc.length = i ∧ Vds K H' acc ((ps.map (Part.val ns)).take i)) (by rw [← hH3]; exact ⟨.refl SD.t, [], eD, rfl, .nil⟩) (fun i H' _ h => keep_sqT ntD0 h.1.k (sqT_ext SD.k.ext qx)) (fun i v H4 H5 hi h hy => ?_) (fun H4 h => ?_)
      · obtain ⟨rfl, hx⟩ := hy
        obtain ⟨S4, acc, ea, hal, hva⟩ := h
        obtain ⟨dd, hdd, vd⟩ := hxs.at hx
        rw [List.getElem?_map] at hdd
        obtain ⟨pt, hpt, rfl⟩ := Option.map_eq_some_iff.mp hdd
        refine ⟨rfl, iteT (B := Stp G [D] H3 H5 ∧ ∃ acc, H5 D = some (.lst acc) ∧ acc.length = i + 1 ∧ Vds K H5 acc ((ps.map (Part.val ns)).take (i + 1))) ?_⟩
        refine ⟨_, rfl, _, rfl, v, na, kvs, ns, pt, rfl, (vd.ext SD.k).keep ntD0 S4.k, S4.k _ _ hna3 nna (fun _ z => by cases z), hns3.keep ntD0 S4.k, fun u hu => ?_⟩
        refine ⟨acc, ea, by rw [hal]; exact Nat.lt_of_lt_of_le (show i < 100000 by omega) (by decide), ?_⟩
        have S5 : Stp G [D] H5 (upd H5 D (.lst (acc ++ [u]))) := .put S4.t (by simp) ea notc_lst
        refine ⟨S4.trans S5, _, upd_same, by rw [List.length_append, hal] <;> rfl, ?_⟩
        rw [take_succ' (show (ps.map (Part.val ns))[i]? = some (pt.val ns) by rw [List.getElem?_map, hpt] <;> rfl)]
        exact (hva.snoc hu).keep (noT_lst ea) S5.k
      · obtain ⟨S4, acc, ea, hal, hva⟩ := h
        rw [List.take_of_length_le (by rw [List.length_map, hxl]; exact Nat.le_refl _)] at hva
        refine ⟨D, acc, rfl, .inl ⟨SqL.of ea, fun t5 ht5 => ?_⟩⟩
        have S5 := FW.Stp.new (fp := []) (o := (.tup acc)) S4.t ht5
        have e5 : L2.upd H4 t5 (.tup acc) t5 = some (.tup acc) := L2.upd_same
        generalize L2.upd H4 t5 (.tup acc) = H5 at *
        have hva5 := hva.ext S5.k
        have e25 : H5 t2 = some (.tup [V.str wd, V.str nm]) := S5.k _ _ (S4.k _ _ (SD.k _ _ e2 (by simp) fun _ z => by cases z) (nD e2) fun _ z => by cases z) (by simp) fun _ z => by cases z
        have S05 : Stp G [] H H5 := (Stp.fresh S02.k (SD.up.trans S4) fun b hb => by
          rw [List.mem_singleton.mp hb]
          exact S02.k.fr0 (by simp) (fr0_none hD)).trans S5
        refine ⟨t2, t5, _, acc, rfl, rfl, .of e25, .of e5, by simp, by rw [hal, hxl]; exact Nat.le_trans (show 2 + ps.length ≤ 3 by omega) (by decide), fun hz => ?_, fun hz p hp => ?_⟩
        · subst hz
          refine k _ _ S05 ?_
          rw [hwid]
          have : ps.map (Part.val ns) = [] := by
            have := hva.len
            exact List.length_eq_zero_iff.mp this.symm
          rw [this]
          exact .tup (.of e25) (.cons ⟨.str _, rfl⟩ (.cons ⟨.str _, rfl⟩ .nil))
        · refine k _ _ (S05.snew hp) ?_
          rw [hwid]
          exact .tup (.of upd_same) (Paired.app (.cons ⟨.str _, rfl⟩ (.cons ⟨.str _, rfl⟩ .nil)) (hva5.ext (.new hp)))
theorem sc_law_ask : FnScope ["_law_hand", "_law_wish_here"] ["_law_hand", "_law_wish_here"] (defScope s_law_ask) := ⟨rfl, rfl, rfl, by decide +kernel, rfl, by decide +kernel, by decide +kernel⟩
def spAsk (K : PySem.W.Frag) (G : Tb) : Sp := fun vs H Q _ => ∃ (A : HA) (L : Int) (es : ES) (wv : V) (wi : Wi), vs = [.ref A.h, wv] ∧ HandAt K (HC K) H A (hsOf L es) ∧ WishOk (hsOf L es) ∧ Vd K H wv wi.data ∧ wi.ok (es.pages.map (·.1)) ∧ es.pages.length < 100000 ∧ Tbs G H ∧
  ∀ v H', Stp G A.fp H H' → HandAt K (HC K) H' A (hsOf L (es.go wi)) → Vd K H' v (es.ans wi) → Q v H'
theorem ok_ask (F : Fn K "_law_ask" s_law_ask f fd) (T : Tx K mg) (U_Hand_look : UMeth P w K mg base (L2.CX P w) (HC K) "look" 2 ["self", "page"] (spLook K G)) (U_Hand_put : UMeth P w K mg base (L2.CX P w) (HC K) "put" 18 ["self", "page", "value"] (spPut K G 4)) (U_Hand_barrier : UMeth P w K mg base (L2.CX P w) (HC K) "barrier" 2 ["self"] (spGuard K G HS.barrier)) (U_Hand_flush : UMeth P w K mg base (L2.CX P w) (HC K) "flush" 2 ["self"] (spGuard K G HS.flush)) :
   FnOk P w K mg base (L2.CX P w) 19 f fd ["_law_hand", "_law_wish_here"] (spAsk K G) := by
  refine F.ok sc_law_ask (fun vs H Q E h => ?_) (fun cdv A outer s H vs Q E hr h => ?_)
  · obtain ⟨_, _, _, _, _, rfl, _⟩ := h
    rfl
  · obtain ⟨A, L, es, wv, wi, rfl, hh, ok, hw, hok, hpl, ht, k⟩ := h
    refine ⟨_, PSs.nox (pss_cons (ps_if (pt_cmpR op_eq (pe_ix ix_tup (pv 1) pe_int (fun _ _ => rfl)) pe_str (nomark _)) (pss_one (ps_ret (pe_um' (pv 0) T.K_Hand U_Hand_look hr (by first | decide | omega) (pa_cons (pe_ix ix_tup (pv 1) pe_int (fun _ _ => rfl)) pa_nil)))) pss_nil)
      (pss_cons (ps_if (pt_cmpR op_eq (pe_ix ix_tup (pv 1) pe_int (fun _ _ => rfl)) pe_str (nomark _)) (pss_one (ps_ret (pe_um' (pv 0) T.K_Hand U_Hand_put hr (by first | decide | omega) (pa_cons (pe_ix ix_tup (pv 1) pe_int (fun _ _ => rfl)) (pa_cons (pe_ix ix_tup (pv 1) pe_int (fun _ _ => rfl)) pa_nil))))) pss_nil)
      (pss_one (ps_ret (pe_ifExp (pt_cmpR op_eq (pe_ix ix_tup (pv 1) pe_int (fun _ _ => rfl)) pe_str (nomark _)) (pe_um0' (pv 0) T.K_Hand U_Hand_barrier hr (by first | decide | omega)) (pe_um0' (pv 0) T.K_Hand U_Hand_flush hr (by first | decide | omega))))))), ?_⟩
    obtain ⟨kvs, sv, nv, fv, e1, _⟩ := id hh.ex
    cases wi with
    | look n =>
      obtain ⟨a, u, rfl, q, hu⟩ := Vd.pair (n := "look") (d := .str n) hw
      have e := hu.dp
      cases e
      obtain ⟨d, hg⟩ := pgGet_in (show n ∈ es.pages.map (·.1) from hok)
      refine ⟨_, rfl, a, _, 0, _, rfl, rfl, q, rfl, rfl, _, rfl, iteT ?_⟩
      refine ⟨_, rfl, A.h, A.dx, _, rfl, e1, rfl, _, rfl, a, _, 1, _, rfl, rfl, q, rfl, A, _, n, d, rfl, hh, ok, hg, ht, fun v H' hv hh' S => ?_⟩
      rw [(hs_go L es n d d hg).1] at hh'
      refine k v H' S hh' ?_
      show Vd K H' v ((pgGet es.pages n).getD .none)
      rw [hg]
      exact hv
    | put n d =>
      obtain ⟨a, us, rfl, q, hd⟩ := Vd.untup (ds := [.str "put", .str n, d]) hw
      obtain ⟨v, rfl, hv⟩ : ∃ v, us = [.str "put", .str n, v] ∧ Vd K H v d := by
        cases hd with
        | cons h1 hd =>
          cases hd with
          | cons h2 hd =>
            cases hd with
            | cons h3 hd =>
              cases hd with
              | nil =>
                have e1 := h1.dp
                cases e1
                have e2 := h2.dp
                cases e2
                exact ⟨_, rfl, h3⟩
      obtain ⟨d0, hg⟩ := pgGet_in (show n ∈ es.pages.map (·.1) from hok.1)
      refine ⟨_, rfl, a, _, 0, _, rfl, rfl, q, rfl, rfl, _, rfl, iteF ?_⟩
      refine ⟨_, rfl, a, _, 0, _, rfl, rfl, q, rfl, rfl, _, rfl, iteT ?_⟩
      refine ⟨_, rfl, A.h, A.dx, _, rfl, e1, rfl, _, rfl, a, _, 1, _, rfl, rfl, q, rfl, _, rfl, a, _, 2, _, rfl, rfl, q, rfl, A, _, n, d0, d, v, rfl, hh, ok, hg, hpl, hv, hok.2.sml, ht, fun H' hh' S => ?_⟩
      rw [(hs_go L es n d d0 hg).2] at hh'
      exact k _ H' S hh' ⟨.non, rfl⟩
    | bar =>
      obtain ⟨a, us, rfl, q, hd⟩ := Vd.untup (ds := [.str "barrier"]) hw
      obtain rfl : us = [.str "barrier"] := by
        cases hd with
        | cons h1 hd =>
          cases hd with
          | nil =>
            have e1 := h1.dp
            cases e1
            rfl
      refine ⟨_, rfl, a, _, 0, _, rfl, rfl, q, rfl, rfl, _, rfl, iteF ?_⟩
      refine ⟨_, rfl, a, _, 0, _, rfl, rfl, q, rfl, rfl, _, rfl, iteF ?_⟩
      refine ⟨_, rfl, a, _, 0, _, rfl, rfl, q, rfl, rfl, _, rfl, iteT ?_⟩
      refine ⟨_, rfl, A.h, A.dx, _, rfl, e1, rfl, A, _, rfl, hh, ok, ht, fun H' hh' S => ?_⟩
      rw [hs_bar] at hh'
      exact k _ H' S hh' ⟨.non, rfl⟩
    | flu =>
      obtain ⟨a, us, rfl, q, hd⟩ := Vd.untup (ds := [.str "flush"]) hw
      obtain rfl : us = [.str "flush"] := by
        cases hd with
        | cons h1 hd =>
          cases hd with
          | nil =>
            have e1 := h1.dp
            cases e1
            rfl
      refine ⟨_, rfl, a, _, 0, _, rfl, rfl, q, rfl, rfl, _, rfl, iteF ?_⟩
      refine ⟨_, rfl, a, _, 0, _, rfl, rfl, q, rfl, rfl, _, rfl, iteF ?_⟩
      refine ⟨_, rfl, a, _, 0, _, rfl, rfl, q, rfl, rfl, _, rfl, iteF ?_⟩
      refine ⟨_, rfl, A.h, A.dx, _, rfl, e1, rfl, A, _, rfl, hh, ok, ht, fun H' hh' S => ?_⟩
      rw [hs_flu] at hh'
      exact k _ H' S hh' ⟨.non, rfl⟩
theorem sc_law_play : FnScope ["_law_rows", "_law_hand", "_law_at", "_law_notes", "_law_row"] ["_law_rows", "_law_hand"] (defScope s_law_play) := ⟨rfl, rfl, rfl, by decide +kernel, rfl, by decide +kernel, by decide +kernel⟩
/-- what a function of rows comes to -/
structure PlayJob (rows : List RowD) (es : ES) (L : Int) : Prop where
  st : es.steps = []
  sd : es.said = []
  few : (rows.length : Int) < L
  few2 : rows.length < 1000
  ok : ∀ r ∈ rows, r.ok (es.pages.map (·.1))
  pf : PgF es.pages
  pl : es.pages.length < 100000
def spPlay (K : PySem.W.Frag) (G : Tb) : Sp := fun vs H Q E => ∃ (ra : Addr) (A : HA) (L : Int) (rows : List RowD) (rvs : List V) (es : ES), vs = [.ref ra, .ref A.h] ∧ H ra = some (.lst rvs) ∧ Vds K H rvs (rows.map RowD.data) ∧ ra ∉ A.fp ∧ HandAt K (HC K) H A (hsOf L es) ∧ PlayJob rows es L ∧ Tbs G H ∧
  ((execR rows [] es).2.1 = true → ∀ v H', HandAt K (HC K) H' A (hsOf L (execR rows [] es).1) → Stp G A.fp H H' → Vd K H' v (execR rows [] es).2.2 → Flat (execR rows [] es).2.2 → Q v H') ∧
  ((execR rows [] es).2.1 = false → ∀ H', HandAt K (HC K) H' A ((hsOf L (execR rows [] es).1).failed (execR rows [] es).2.2) → Stp G A.fp H H' → E (.ref (KC K "Held")) none H')
structure PInv (K : PySem.W.Frag) (G : Tb) (H0 H : Hp) (A : HA) (nd ra : Addr) (L : Int) (rows : List RowD) (rvs : List V) (es0 es : ES) (ns : Nts) (i : Nat) : Prop where
  s : Stp G (nd :: A.fp) H0 H
  n : ∃ kvs, H nd = some (.dK kvs) ∧ NtD K H kvs ns
  nf : NtF ns
  nl : ns.length ≤ i
  h : HandAt K (HC K) H A (hsOf L es)
  sl : es.steps.length ≤ i
  tl : es.said.length ≤ i
  ks : es.pages.map (·.1) = es0.pages.map (·.1)
  pf : PgF es.pages
  r : H ra = some (.lst rvs)
  rv : Vds K H rvs (rows.map RowD.data)
  nh : ∀ b ∈ A.fp, b ≠ nd
  nx : A.dx ≠ nd
  rn : ra ≠ nd
  rh : ra ∉ A.fp
theorem PInv.hand {H0 H H' : Hp} {A : HA} {nd ra : Addr} {L : Int} {rows : List RowD} {rvs : List V} {es0 es es' : ES} {ns : Nts} {i j : Nat} (p : PInv K G H0 H A nd ra L rows rvs es0 es ns i) (S : Stp G A.fp H H') (h : HandAt K (HC K) H' A (hsOf L es')) (hij : i ≤ j)
    (sl : es'.steps.length ≤ j) (tl : es'.said.length ≤ j) (ks : es'.pages.map (·.1) = es0.pages.map (·.1)) (pf : PgF es'.pages) : PInv K G H0 H' A nd ra L rows rvs es0 es' ns j := by
  obtain ⟨kvs, en, hn⟩ := p.n
  have ndf : nd ∉ A.fp := fun z => p.nh nd z rfl
  exact ⟨p.s.trans (S.mono fun b hb => List.mem_cons_of_mem _ hb), ⟨kvs, S.k _ _ en ndf (fun _ z => by cases z), hn.keep p.h.noT S.k⟩, p.nf, Nat.le_trans p.nl hij, h, sl, tl, ks, pf, S.k _ _ p.r p.rh (fun _ z => by cases z), p.rv.keep p.h.noT S.k, p.nh, p.nx, p.rn, p.rh⟩
theorem PInv.note {H0 H : Hp} {A : HA} {nd ra : Addr} {L : Int} {rows : List RowD} {rvs : List V} {es0 es : ES} {ns : Nts} {i : Nat} {kvs : List (Key × V)} {m : Int} {v : V} {d : PyData} (p : PInv K G H0 H A nd ra L rows rvs es0 es ns i) (en : H nd = some (.dK kvs)) (hv : Vd K H v d) (hf : Flat d) (hl : ns.length + 1 ≤ i) : PInv K G H0 (upd H nd (.dK (putK kvs (.inl m) v))) A nd ra L rows rvs es0 es (ntSet ns m d) i := by
  obtain ⟨kvs', en', hn⟩ := p.n
  rw [en] at en'
  cases en'
  have S : Stp G [nd] H (upd H nd (.dK (putK kvs (.inl m) v))) := .put p.s.t (by simp) en notc_dK
  have nt : NoT [nd] H := fun b hb => by
    rw [List.mem_singleton.mp hb, en]
    exact ⟨(fun _ z => by cases z), fun _ _ z => by cases z⟩
  refine ⟨p.s.trans (S.mono fun b hb => by rw [List.mem_singleton.mp hb]; simp), ⟨_, upd_same, (ntD_put hv hn).keep nt S.k⟩, p.nf.set hf, ?_, p.h.keepF (fun b hb z => p.nh b hb (List.mem_singleton.mp z)) (fun z => p.nx (List.mem_singleton.mp z)) nt S.k, p.sl, p.tl, p.ks, p.pf, S.k _ _ p.r (by simp; exact p.rn) (fun _ z => by cases z), p.rv.keep nt S.k, p.nh, p.nx, p.rn, p.rh⟩
  have := ntSet_len ns m d
  omega
def pSt (ra h nd : Addr) (i : Int) (x : Option V) : L2.St := [some (.ref ra), some (.ref h), some (.int i), some (.ref nd), x]
theorem ok_play (F : Fn K "_law_play" s_law_play f fd) (T : Tx K mg) (U_law_told : Use P w K mg base (L2.CX P w) "_law_told" 1 ["_law_row", "_law_notes"] (spTold K)) (U_law_wish : Use P w K mg base (L2.CX P w) "_law_wish" 2 ["_law_row", "_law_notes"] (spWish K G)) (U_law_ask : Use P w K mg base (L2.CX P w) "_law_ask" 19 ["_law_hand", "_law_wish_here"] (spAsk K G))
   (U_law_same : Use P w K mg base (L2.CX P w) "_law_same" 13 ["_law_found", "_law_due"] (spSame K 12)) (U_Hand_say : UMeth P w K mg base (L2.CX P w) (HC K) "say" 18 ["self", "value"] (spSay K G 4)) (U_Hand_fail : UMeth P w K mg base (L2.CX P w) (HC K) "fail" 19 ["self", "value"] (spFail K G 4)) :
   FnOk P w K mg base (L2.CX P w) 20 f fd ["_law_rows", "_law_hand"] (spPlay K G) := by
  refine F.ok sc_law_play (fun vs H Q E h => ?_) (fun cdv A outer s H vs Q E hr h => ?_)
  · obtain ⟨_, _, _, _, _, _, rfl, _⟩ := h
    rfl
  · obtain ⟨ra, A, L, rows, rvs, es0, rfl, era, hrv, nra, hh, job, ht, kt, kf⟩ := h
    refine ⟨_, (pss_cons (ps_par (i := 2) (j := 3) (by rfl) sc_law_play.nd rfl rfl (by decide) rfl rfl (pa_cons pe_int (pa_cons pe_dnewK pa_nil)) (by rfl))
      (pss_cons (ps_while (passes_of rfl) (pt_cmpR op_lt (pv 2) (pe_callB call_len (by rfl) T.n_len (by decide +kernel) (pa_cons (pv 0) pa_nil)) (nomark _)) (pss_cons (ps_set (i := 4) sc_law_play.nd rfl (Or.inl rfl) (pe_ix ix_list (pv 0) (pv 2) (fun _ _ => rfl)))
      (pss_cons (ps_set (i := 2) sc_law_play.nd rfl (Or.inl rfl) (pe_op op_add (pv 2) pe_int))
      (pss_one (ps_if (pt_cmpR op_eq (pe_ix ix_tup (pv 4) pe_int (fun _ _ => rfl)) pe_str (nomark _)) (pss_one (ps_expr (pe_um' (pv 1) T.K_Hand U_Hand_say hr (by first | decide | omega) (pa_cons (pe_useL U_law_told hr (by first | decide | omega) (by rfl) (pa_cons (pe_ix ix_tup (pv 4) pe_int (fun _ _ => rfl)) (pa_cons (pv 3) pa_nil))) pa_nil)))) (pss_one (ps_if (pt_cmpR op_eq (pe_ix ix_tup (pv 4) pe_int (fun _ _ => rfl)) pe_str (nomark _)) (pss_one (ps_expr (pe_um (pv 1) T.K_Hand U_Hand_fail hr (by first | decide | omega) (takes_of rfl rfl rfl rfl) (pa_cons (pe_useL U_law_told hr (by first | decide | omega) (by rfl) (pa_cons (pe_ix ix_tup (pv 4) pe_int (fun _ _ => rfl)) (pa_cons (pv 3) pa_nil))) pa_nil)))) (pss_one (ps_if (pt_cmpR op_eq (pe_ix ix_tup (pv 4) pe_int (fun _ _ => rfl)) pe_str (nomark _)) (pss_one (ps_ret (pe_useL U_law_told hr (by first | decide | omega) (by rfl) (pa_cons (pe_ix ix_tup (pv 4) pe_int (fun _ _ => rfl)) (pa_cons (pv 3) pa_nil))))) (pss_one (ps_if (pt_cmpR op_eq (pe_ix ix_tup (pv 4) pe_int (fun _ _ => rfl)) pe_str (nomark _)) (pss_one (ps_set (i := 2) sc_law_play.nd rfl (Or.inl rfl) (pe_ifExp (pt_val (pe_useL U_law_same hr (by first | decide | omega) (by rfl) (pa_cons (pe_dget2 (hu_of hr) (pv 3) (pe_ix ix_tup (pv 4) pe_int (fun _ _ => rfl)) pe_int ⟨rfl, rfl, rfl, rfl⟩) (pa_cons (pe_ix ix_tup (pv 4) pe_int (fun _ _ => rfl)) pa_nil)))) (pe_op op_add (pv 2) (pe_ix ix_tup (pv 4) pe_int (fun _ _ => rfl))) (pv 2)))) (pss_one (ps_dput (hu_of hr) (pv 3) (pe_ix ix_tup (pv 4) pe_int (fun _ _ => rfl)) (pe_useL U_law_ask hr (by first | decide | omega) (by rfl) (pa_cons (pv 1) (pa_cons (pe_useL U_law_wish hr (by first | decide | omega) (by rfl) (pa_cons (pv 4) (pa_cons (pv 3) pa_nil))) pa_nil))) rfl)))))))))))))
      (pss_one (ps_ret pe_non)))), ?_⟩
    refine fun nd hnd => ⟨_, _, rfl, ?_⟩
    have S0 := FW.Stp.new (fp := []) (o := (.dK [])) ht hnd
    have e0 : L2.upd H nd (.dK []) nd = some (.dK []) := L2.upd_same
    generalize L2.upd H nd (.dK []) = H0 at *
    have fnd : Fr0 H nd := fr0_none hnd
    have rvl : rvs.length = rows.length := by rw [hrv.len, List.length_map]
    have back : ∀ {H'}, Stp G (nd :: A.fp) H0 H' → Stp G A.fp H H' := fun S => ⟨fun b o e hb nt => S.k _ _ (S0.k _ _ e (by simp) nt) (fun z => by
      rcases List.mem_cons.mp z with z | z
      · rw [z] at e
        obtain ⟨ps, z2⟩ := fnd _ e
        exact nt ps z2
      · exact hb z) nt, S.t⟩
    refine ⟨fun m σ H' => ∃ (i : Nat) (x : Option V) (es : ES) (ns : Nts), m = rows.length - i ∧ σ = pSt ra A.h nd i x ∧ PInv K G H0 H' A nd ra L rows rvs es0 es ns i ∧ execR (rows.drop i) ns es = execR rows [] es0, ⟨_, 0, _, es0, [], rfl, rfl, ?_, rfl⟩, ?_⟩
    · refine ⟨.refl S0.t, ⟨[], e0, .nil⟩, fun p hp => (by simp at hp), Nat.le_refl _, hh.keep S0.k, (by rw [job.st]; exact Nat.le_refl _), (by rw [job.sd]; exact Nat.le_refl _), rfl, job.pf, S0.k _ _ era (by simp) (fun _ z => by cases z), hrv.ext S0.k, fun b hb z => hh.some b hb (by rw [z]; exact hnd), (fun z => by
        have := hh.own
        rw [z, hnd] at this
        cases this), ne_of_none era hnd, nra⟩
    · rintro m σ H1 ⟨i, x, es, ns, rfl, rfl, inv, hex⟩
      refine ⟨_, rfl, _, rfl, _, _, rfl, .inl ⟨_, SqL.of inv.r, rfl⟩, _, _, rfl, rfl, _, rfl, ?_⟩
      refine ite2 (fun hlt => ?_) fun hlt => ?_
      · have hi : i < rows.length := by
          have := of_decide_eq_true hlt
          omega
        refine ⟨fun σ' H' => ∃ m', m' < rows.length - i ∧ ∃ (i : Nat) (x : Option V) (es : ES) (ns : Nts), m' = rows.length - i ∧ σ' = pSt ra A.h nd i x ∧ PInv K G H0 H' A nd ra L rows rvs es0 es ns i ∧ execR (rows.drop i) ns es = execR rows [] es0, fun _ _ h => h, ?_⟩
        have hi2 : i < rvs.length := by rw [rvl]; exact hi
        obtain ⟨dd, hdd, hv⟩ := inv.rv.at (List.getElem?_eq_getElem hi2)
        rw [List.getElem?_map, List.getElem?_eq_getElem hi] at hdd
        obtain rfl : rows[i].data = dd := Option.some.inj hdd
        have hdrop : rows.drop i = rows[i] :: rows.drop (i + 1) := List.drop_eq_getElem_cons hi
        have hok := job.ok rows[i] (List.getElem_mem hi)
        rw [hdrop] at hex
        refine ⟨_, rfl, _, rfl, ra, rvs, (i : Int), rvs[i], rfl, rfl, SqL.of inv.r, atI_nat (List.getElem?_eq_getElem hi2), ?_⟩
        refine ⟨_, rfl, _, _, rfl, rfl, ?_⟩
        generalize rvs[i] = rv at *
        have done : ∀ {H' : Hp} {es' : ES} {ns' : Nts} {j : Nat} {y : Option V}, PInv K G H0 H' A nd ra L rows rvs es0 es' ns' j → execR (rows.drop j) ns' es' = execR rows [] es0 → i < j → ∃ m', m' < rows.length - i ∧ ∃ (i : Nat) (x : Option V) (es : ES) (ns : Nts), m' = rows.length - i ∧ pSt ra A.h nd j y = pSt ra A.h nd i x ∧ PInv K G H0 H' A nd ra L rows rvs es0 es ns i ∧ execR (rows.drop i) ns es = execR rows [] es0 := fun hI hE hj =>
          ⟨_, by omega, _, _, _, _, rfl, rfl, hI, hE⟩
        obtain ⟨kvs, en, hns⟩ := inv.n
        obtain ⟨_, _, _, _, eh, _⟩ := id inv.h.ex
        have heldF : (hsOf L es).held = false := rfl
        have hsL : es.steps.length < 1000 := Nat.lt_of_le_of_lt inv.sl (Nat.lt_trans hi job.few2)
        have htL : es.said.length < 1000 := Nat.lt_of_le_of_lt inv.tl (Nat.lt_trans hi job.few2)
        cases hwi : (rows[i]).wi ns with
        | some q =>
          obtain ⟨wi, m⟩ := q
          obtain ⟨wd, d1, d2, hdat, n1, n2, n3, n4⟩ := wi_tag hwi
          have hv0 := hv
          rw [hdat] at hv
          obtain ⟨a, us, rfl, q, hd⟩ := hv.untup
          obtain ⟨u1, u2, rfl⟩ : ∃ u1 u2, us = [.str wd, u1, u2, .int m] := by
            cases hd with
            | cons h1 hd =>
              cases hd with
              | cons h2 hd =>
                cases hd with
                | cons h3 hd =>
                  cases hd with
                  | cons h4 hd =>
                    cases hd with
                    | nil =>
                      have e1 := h1.dp
                      cases e1
                      have e4 := h4.dp
                      cases e4
                      exact ⟨_, _, rfl⟩
          refine ⟨_, rfl, a, _, 0, _, rfl, rfl, q, rfl, rfl, _, rfl, ?_⟩
          rw [show decide (V.str wd = V.str "say") = false from decide_eq_false fun z => n1 (V.str.inj z)]
          refine iteF ⟨_, rfl, a, _, 0, _, rfl, rfl, q, rfl, rfl, _, rfl, ?_⟩
          rw [show decide (V.str wd = V.str "fail") = false from decide_eq_false fun z => n2 (V.str.inj z)]
          refine iteF ⟨_, rfl, a, _, 0, _, rfl, rfl, q, rfl, rfl, _, rfl, ?_⟩
          rw [show decide (V.str wd = V.str "back") = false from decide_eq_false fun z => n3 (V.str.inj z)]
          refine iteF ⟨_, rfl, a, _, 0, _, rfl, rfl, q, rfl, rfl, _, rfl, ?_⟩
          rw [show decide (V.str wd = V.str "skip") = false from decide_eq_false fun z => n4 (V.str.inj z)]
          refine iteF ?_
          rw [execR_wi hwi] at hex
          have hwok := (wi_ok hwi hok inv.nf : wi.ok (es0.pages.map (·.1)))
          have hpl : es.pages.length < 100000 := by
            have z := congrArg List.length inv.ks
            rw [List.length_map, List.length_map] at z
            rw [z]
            exact job.pl
          have ok2 : WishOk (hsOf L es) := ⟨rfl, by
            show ((es.steps.map stD).length : Int) < L
            rw [List.length_map]
            have := inv.sl
            have := job.few
            omega, by
            show (es.steps.map stD).length < 100000
            rw [List.length_map]
            omega⟩
          refine ⟨_, rfl, _, rfl, _, rfl, .ref a, nd, kvs, ns, rows[i], wi, m, rfl, hv0, en, hns, hwi, inv.s.t, fun wv H2 S2 hw => ?_⟩
          refine ⟨A, L, es, wv, wi, rfl, inv.h.keep S2.k, ok2, hw, by rw [inv.ks]; exact hwok, hpl, S2.t, fun v H3 S3 hh3 hv3 => ?_⟩
          have S13 := S2.up.trans S3
          have inv3 : PInv K G H0 H3 A nd ra L rows rvs es0 (es.go wi) ns (i + 1) := by
            refine inv.hand S13 hh3 (Nat.le_succ i) ?_ (Nat.le_succ_of_le inv.tl) ((es.goK wi).trans inv.ks) (ES.goF inv.pf wi fun n d e => ?_)
            · show (es.steps ++ [_]).length ≤ i + 1
              rw [List.length_append, List.length_singleton]
              have := inv.sl
              omega
            · subst e
              exact hwok.2
          obtain ⟨kvs3, en3, hns3⟩ := inv3.n
          have q3 : SqT K H3 a [.str wd, u1, u2, .int m] := keep_sqT inv.h.noT S13.k q
          refine ⟨_, rfl, _, rfl, a, _, 3, _, rfl, rfl, q3, rfl, nd, _, rfl, DPut.k (k := Sum.inl m) en3 ?_, ?_⟩
          · rw [hns3.len]
            have := inv.nl
            have := job.few2
            exact Nat.lt_of_lt_of_le (show ns.length < 100000 by omega) (by decide)
          · exact done (inv3.note en3 hv3 (ES.ansF inv.pf wi) (by have := inv.nl; omega)) hex (Nat.lt_succ_self i)
        | none =>
          cases hrow : rows[i] with
          | say p =>
            rw [hrow] at hv hok hex
            obtain ⟨a, us, rfl, q, hd⟩ := Vd.untup (ds := [.str "say", p.data]) hv
            obtain ⟨pv', rfl, hp⟩ : ∃ u, us = [.str "say", u] ∧ Vd K H1 u p.data := by
              cases hd with
              | cons h1 hd =>
                cases hd with
                | cons h2 hd =>
                  cases hd with
                  | nil =>
                    have e1 := h1.dp
                    cases e1
                    exact ⟨_, rfl, h2⟩
            refine ⟨_, rfl, a, _, 0, _, rfl, rfl, q, rfl, rfl, _, rfl, iteT ?_⟩
            refine ⟨_, rfl, A.h, A.dx, _, rfl, eh, rfl, _, rfl, a, _, 1, _, rfl, rfl, q, rfl, _, rfl, pv', nd, kvs, ns, p, rfl, hp, en, hns, fun u hu => ?_⟩
            have hfl := Part.flatV hok inv.nf
            refine ⟨A, _, p.val ns, u, rfl, inv.h, heldF, ?_, hu, hfl.sml, inv.s.t, fun H2 hh2 S2 => ?_⟩
            · show (es.said.map ntD).length < 100000
              rw [List.length_map]; omega
            · rw [hs_say] at hh2
              rw [execR] at hex
              refine done (inv.hand S2 hh2 (Nat.le_succ i) (Nat.le_succ_of_le inv.sl) ?_ inv.ks inv.pf) hex (Nat.lt_succ_self i)
              show (es.said ++ [_]).length ≤ i + 1
              rw [List.length_append, List.length_singleton]
              have := inv.tl
              omega
          | fail p =>
            rw [hrow] at hv hok hex
            obtain ⟨a, us, rfl, q, hd⟩ := Vd.untup (ds := [.str "fail", p.data]) hv
            obtain ⟨pv', rfl, hp⟩ : ∃ u, us = [.str "fail", u] ∧ Vd K H1 u p.data := by
              cases hd with
              | cons h1 hd =>
                cases hd with
                | cons h2 hd =>
                  cases hd with
                  | nil =>
                    have e1 := h1.dp
                    cases e1
                    exact ⟨_, rfl, h2⟩
            refine ⟨_, rfl, a, _, 0, _, rfl, rfl, q, rfl, rfl, _, rfl, iteF ?_⟩
            refine ⟨_, rfl, a, _, 0, _, rfl, rfl, q, rfl, rfl, _, rfl, iteT ?_⟩
            refine ⟨_, rfl, A.h, A.dx, _, rfl, eh, rfl, _, rfl, a, _, 1, _, rfl, rfl, q, rfl, _, rfl, pv', nd, kvs, ns, p, rfl, hp, en, hns, fun u hu => ?_⟩
            have hfl := Part.flatV hok inv.nf
            rw [execR] at hex
            refine ⟨A, _, p.val ns, u, rfl, inv.h, heldF, hu, hfl.sml, inv.s.t, fun H2 hh2 S2 => ?_⟩
            refine kf (by rw [← hex]) H2 ?_ (back (inv.s.trans (S2.mono fun b hb => List.mem_cons_of_mem _ hb)))
            rw [← hex]
            exact hh2
          | back p =>
            rw [hrow] at hv hok hex
            obtain ⟨a, us, rfl, q, hd⟩ := Vd.untup (ds := [.str "back", p.data]) hv
            obtain ⟨pv', rfl, hp⟩ : ∃ u, us = [.str "back", u] ∧ Vd K H1 u p.data := by
              cases hd with
              | cons h1 hd =>
                cases hd with
                | cons h2 hd =>
                  cases hd with
                  | nil =>
                    have e1 := h1.dp
                    cases e1
                    exact ⟨_, rfl, h2⟩
            refine ⟨_, rfl, a, _, 0, _, rfl, rfl, q, rfl, rfl, _, rfl, iteF ?_⟩
            refine ⟨_, rfl, a, _, 0, _, rfl, rfl, q, rfl, rfl, _, rfl, iteF ?_⟩
            refine ⟨_, rfl, a, _, 0, _, rfl, rfl, q, rfl, rfl, _, rfl, iteT ?_⟩
            refine ⟨_, rfl, a, _, 1, _, rfl, rfl, q, rfl, _, rfl, pv', nd, kvs, ns, p, rfl, hp, en, hns, fun u hu => ?_⟩
            have hfl := Part.flatV hok inv.nf
            rw [execR] at hex
            exact kt (by rw [← hex]) u H1 (by rw [← hex]; exact inv.h) (back inv.s) (by rw [← hex]; exact hu) (by rw [← hex]; exact hfl)
          | skip n d k =>
            rw [hrow] at hv hok hex
            obtain ⟨a, us, rfl, q, hd⟩ := Vd.untup (ds := [.str "skip", .int n, d, .int (k : Nat)]) hv
            obtain ⟨dv, rfl, hdv⟩ : ∃ u, us = [.str "skip", .int n, u, .int (k : Nat)] ∧ Vd K H1 u d := by
              cases hd with
              | cons h1 hd =>
                cases hd with
                | cons h2 hd =>
                  cases hd with
                  | cons h3 hd =>
                    cases hd with
                    | cons h4 hd =>
                      cases hd with
                      | nil =>
                        have e1 := h1.dp
                        cases e1
                        have e2 := h2.dp
                        cases e2
                        have e4 := h4.dp
                        cases e4
                        exact ⟨_, rfl, h3⟩
            refine ⟨_, rfl, a, _, 0, _, rfl, rfl, q, rfl, rfl, _, rfl, iteF ?_⟩
            refine ⟨_, rfl, a, _, 0, _, rfl, rfl, q, rfl, rfl, _, rfl, iteF ?_⟩
            refine ⟨_, rfl, a, _, 0, _, rfl, rfl, q, rfl, rfl, _, rfl, iteF ?_⟩
            refine ⟨_, rfl, a, _, 0, _, rfl, rfl, q, rfl, rfl, _, rfl, iteT ?_⟩
            refine ⟨_, rfl, nd, rfl, .inl ⟨kvs, .inl en⟩, _, rfl, a, _, 1, _, rfl, rfl, q, rfl, valV kvs (.inl n), .inl ⟨kvs, .inl n, .inl en, rfl, rfl⟩, ?_⟩
            have hg := ntD_get (n := n) hns
            refine ⟨_, rfl, a, _, 2, _, rfl, rfl, q, rfl, _, dv, ntGet ns n, d, rfl, hg.dp, hdv.dp, ?_, fun b H2 hb S2 => ⟨_, rfl, ?_⟩⟩
            · exact sml_up (sml_up (sml_up (sml_up (sml_up (sml_up (sml_up (sml_up hok.sml)))))))
            · have St : Stp G [] H1 H2 := ⟨.same S2, inv.s.t.keep (fun b ps e => S2 _ _ e) fun b c q e => S2 _ _ e⟩
              have inv2 : ∀ {j : Nat}, i < j → PInv K G H0 H2 A nd ra L rows rvs es0 es ns j := fun hj => inv.hand St.up (inv.h.keep St.k) (Nat.le_of_lt hj) (Nat.le_trans inv.sl (Nat.le_of_lt hj)) (Nat.le_trans inv.tl (Nat.le_of_lt hj)) inv.ks inv.pf
              rw [execR] at hex
              cases b with
              | true =>
                rw [if_pos (hb.mp rfl)] at hex
                refine iteT ?_
                refine ⟨_, rfl, _, rfl, a, _, 3, _, rfl, rfl, sqT_ext St.k.ext q, rfl, _, _, rfl, rfl, ?_⟩
                rw [List.drop_drop] at hex
                have z := done (y := some (.ref a)) (inv2 (show i < i + 1 + k by omega)) hex (by omega)
                rw [show ((i + 1 + k : Nat) : Int) = (i : Int) + 1 + (k : Nat) by omega] at z
                exact z
              | false =>
                rw [if_neg (fun z => by cases hb.mpr z)] at hex
                refine iteF ?_
                exact ⟨_, rfl, done (y := some (.ref a)) (inv2 (Nat.lt_succ_self i)) hex (Nat.lt_succ_self i)⟩
          | bar => rw [hrow] at hwi; cases hwi
          | flu => rw [hrow] at hwi; cases hwi
          | look _ _ => rw [hrow] at hwi; cases hwi
          | put _ _ => rw [hrow] at hwi; cases hwi
      · have hi : rows.length ≤ i := by
          have : ¬ (i : Int) < (rvs.length : Nat) := fun z => hlt (decide_eq_true z)
          omega
        rw [List.drop_of_length_le hi, execR] at hex
        exact kt (by rw [← hex]) .non H1 (by rw [← hex]; exact inv.h) (back inv.s) (by rw [← hex]; exact ⟨.non, rfl⟩) (by rw [← hex]; exact flat_none)
end
end K10

namespace K10
open PySem PySem.Spec PyProof.Rows L2 XV XL UU CC FW GX GxR
section
variable {P : Program} {w : World} {K : PySem.W.Frag} {mg : Str → Option Value} {base : Heap} {f : Addr} {fd : FuncData} {G : Tb}
theorem sc_law_run : FnScope ["_law_rows", "_law_disk", "_law_at", "_law_notes", "_law_now", "_law_steps", "_law_words", "_law_row", "_law_wish_here", "_law_answer"] ["_law_rows", "_law_disk"] (defScope s_law_run) := ⟨rfl, rfl, rfl, by decide +kernel, rfl, by decide +kernel, by decide +kernel⟩
def finD (R : ES × Bool × PyData) : PyData := .tuple [.str (if R.2.1 = true then "told" else "failed"), R.2.2]
structure LA where
  nd : Addr
  wd : Addr
  l : Addr
  m : Addr
def LA.fp (A : LA) : List Addr := [A.nd, A.wd, A.l, A.m]
structure LInv (K : PySem.W.Frag) (G : Tb) (H0 H : Hp) (A : LA) (ra : Addr) (rows : List RowD) (rvs : List V) (pg : Pgs) (st : List (Wi × PyData)) (sd : List (Nat × PyData)) (ns : Nts) : Prop where
  s : Stp G A.fp H0 H
  n : ∃ kvs, H A.nd = some (.dK kvs) ∧ NtD K H kvs ns
  w : ∃ kvs, H A.wd = some (.dK kvs) ∧ KvD K H kvs pg
  l : ∃ sv, H A.l = some (.lst sv) ∧ Vds K H sv (st.map stD)
  m : ∃ nv, H A.m = some (.lst nv) ∧ Vds K H nv (sd.map ntD)
  r : H ra = some (.lst rvs)
  rv : Vds K H rvs (rows.map RowD.data)
  d1 : A.nd ≠ A.wd
  d2 : A.l ≠ A.m
  d3 : ra ∉ A.fp
section
variable {H0 H H' : Hp} {A : LA} {ra : Addr} {rows : List RowD} {rvs : List V} {pg : Pgs} {st : List (Wi × PyData)} {sd : List (Nat × PyData)} {ns : Nts}
theorem LInv.new (p : LInv K G H0 H A ra rows rvs pg st sd ns) (S : Stp G [] H H') : LInv K G H0 H' A ra rows rvs pg st sd ns := by
  obtain ⟨k1, e1, h1⟩ := p.n
  obtain ⟨k2, e2, h2⟩ := p.w
  obtain ⟨k3, e3, h3⟩ := p.l
  obtain ⟨k4, e4, h4⟩ := p.m
  have kk : ∀ {b o}, H b = some o → (∀ ps, o ≠ .tbl ps) → H' b = some o := fun e n => S.k _ _ e (by simp) n
  exact ⟨p.s.trans S.up, ⟨k1, kk e1 (fun _ z => by cases z), h1.keep noT_nil S.k⟩, ⟨k2, kk e2 (fun _ z => by cases z), h2.keep noT_nil S.k⟩, ⟨k3, kk e3 (fun _ z => by cases z), h3.ext S.k⟩, ⟨k4, kk e4 (fun _ z => by cases z), h4.ext S.k⟩, kk p.r (fun _ z => by cases z), p.rv.ext S.k, p.d1, p.d2, p.d3⟩
theorem LInv.note (p : LInv K G H0 H A ra rows rvs pg st sd ns) {kvs : List (Key × V)} (e : H A.nd = some (.dK kvs)) {m : Int} {v : V} {d : PyData} (hv : Vd K H v d) : LInv K G H0 (upd H A.nd (.dK (putK kvs (.inl m) v))) A ra rows rvs pg st sd (ntSet ns m d) := by
  obtain ⟨k1, e1, h1⟩ := p.n
  rw [e] at e1
  cases e1
  obtain ⟨k2, e2, h2⟩ := p.w
  obtain ⟨k3, e3, h3⟩ := p.l
  obtain ⟨k4, e4, h4⟩ := p.m
  have S : Stp G [A.nd] H (upd H A.nd (.dK (putK kvs (.inl m) v))) := .put p.s.t (by simp) e notc_dK
  have nt : NoT [A.nd] H := fun b hb => by
    rw [List.mem_singleton.mp hb, e]
    exact ⟨(fun _ z => by cases z), fun _ _ z => by cases z⟩
  have nl : A.l ∉ [A.nd] := fun z => by rw [List.mem_singleton.mp z, e] at e3; cases e3
  have nm : A.m ∉ [A.nd] := fun z => by rw [List.mem_singleton.mp z, e] at e4; cases e4
  exact ⟨p.s.trans (S.mono fun b hb => by rw [List.mem_singleton.mp hb]; simp [LA.fp]), ⟨_, upd_same, (ntD_put hv h1).keep nt S.k⟩, ⟨k2, S.k _ _ e2 (fun z => p.d1 (List.mem_singleton.mp z).symm) (fun _ z => by cases z), h2.keep nt S.k⟩, ⟨k3, S.k _ _ e3 nl (fun _ z => by cases z), h3.keep nt S.k⟩, ⟨k4, S.k _ _ e4 nm (fun _ z => by cases z), h4.keep nt S.k⟩,
    S.k _ _ p.r (fun z => p.d3 (by rw [List.mem_singleton.mp z]; simp [LA.fp])) (fun _ z => by cases z), p.rv.keep nt S.k, p.d1, p.d2, p.d3⟩
theorem LInv.put (p : LInv K G H0 H A ra rows rvs pg st sd ns) {kvs : List (Key × V)} (e : H A.wd = some (.dK kvs)) {n : Str} {v : V} {d d0 : PyData} (hg : pgGet pg n = some d0) (hv : Vd K H v d) : LInv K G H0 (upd H A.wd (.dK (putK kvs (.inr n) v))) A ra rows rvs (pgSet pg n d) st sd ns := by
  obtain ⟨k2, e2, h2⟩ := p.w
  rw [e] at e2
  cases e2
  obtain ⟨k1, e1, h1⟩ := p.n
  obtain ⟨k3, e3, h3⟩ := p.l
  obtain ⟨k4, e4, h4⟩ := p.m
  have S : Stp G [A.wd] H (upd H A.wd (.dK (putK kvs (.inr n) v))) := .put p.s.t (by simp) e notc_dK
  have nt : NoT [A.wd] H := fun b hb => by
    rw [List.mem_singleton.mp hb, e]
    exact ⟨(fun _ z => by cases z), fun _ _ z => by cases z⟩
  have nl : A.l ∉ [A.wd] := fun z => by rw [List.mem_singleton.mp z, e] at e3; cases e3
  have nm : A.m ∉ [A.wd] := fun z => by rw [List.mem_singleton.mp z, e] at e4; cases e4
  exact ⟨p.s.trans (S.mono fun b hb => by rw [List.mem_singleton.mp hb]; simp [LA.fp]), ⟨k1, S.k _ _ e1 (fun z => p.d1 (List.mem_singleton.mp z)) (fun _ z => by cases z), h1.keep nt S.k⟩, ⟨_, upd_same, (kvD_put hv h2 hg).keep nt S.k⟩, ⟨k3, S.k _ _ e3 nl (fun _ z => by cases z), h3.keep nt S.k⟩, ⟨k4, S.k _ _ e4 nm (fun _ z => by cases z), h4.keep nt S.k⟩,
    S.k _ _ p.r (fun z => p.d3 (by rw [List.mem_singleton.mp z]; simp [LA.fp])) (fun _ z => by cases z), p.rv.keep nt S.k, p.d1, p.d2, p.d3⟩
theorem LInv.step (p : LInv K G H0 H A ra rows rvs pg st sd ns) {sv : List V} (e : H A.l = some (.lst sv)) {v : V} {d : Wi × PyData} (hv : Vd K H v (stD d)) : LInv K G H0 (upd H A.l (.lst (sv ++ [v]))) A ra rows rvs pg (st ++ [d]) sd ns := by
  obtain ⟨k3, e3, h3⟩ := p.l
  rw [e] at e3
  cases e3
  obtain ⟨k1, e1, h1⟩ := p.n
  obtain ⟨k2, e2, h2⟩ := p.w
  obtain ⟨k4, e4, h4⟩ := p.m
  have S : Stp G [A.l] H (upd H A.l (.lst (sv ++ [v]))) := .put p.s.t (by simp) e notc_lst
  have nt := noT_lst e
  have n1 : A.nd ∉ [A.l] := fun z => by rw [List.mem_singleton.mp z, e] at e1; cases e1
  have n2 : A.wd ∉ [A.l] := fun z => by rw [List.mem_singleton.mp z, e] at e2; cases e2
  exact ⟨p.s.trans (S.mono fun b hb => by rw [List.mem_singleton.mp hb]; simp [LA.fp]), ⟨k1, S.k _ _ e1 n1 (fun _ z => by cases z), h1.keep nt S.k⟩, ⟨k2, S.k _ _ e2 n2 (fun _ z => by cases z), h2.keep nt S.k⟩, ⟨_, upd_same, by rw [List.map_append]; exact (h3.snoc hv).keep nt S.k⟩, ⟨k4, S.k _ _ e4 (fun z => p.d2 (List.mem_singleton.mp z).symm) (fun _ z => by cases z), h4.keep nt S.k⟩,
    S.k _ _ p.r (fun z => p.d3 (by rw [List.mem_singleton.mp z]; simp [LA.fp])) (fun _ z => by cases z), p.rv.keep nt S.k, p.d1, p.d2, p.d3⟩
theorem LInv.word (p : LInv K G H0 H A ra rows rvs pg st sd ns) {sv : List V} (e : H A.m = some (.lst sv)) {v : V} {d : Nat × PyData} (hv : Vd K H v (ntD d)) : LInv K G H0 (upd H A.m (.lst (sv ++ [v]))) A ra rows rvs pg st (sd ++ [d]) ns := by
  obtain ⟨k4, e4, h4⟩ := p.m
  rw [e] at e4
  cases e4
  obtain ⟨k1, e1, h1⟩ := p.n
  obtain ⟨k2, e2, h2⟩ := p.w
  obtain ⟨k3, e3, h3⟩ := p.l
  have S : Stp G [A.m] H (upd H A.m (.lst (sv ++ [v]))) := .put p.s.t (by simp) e notc_lst
  have nt := noT_lst e
  have n1 : A.nd ∉ [A.m] := fun z => by rw [List.mem_singleton.mp z, e] at e1; cases e1
  have n2 : A.wd ∉ [A.m] := fun z => by rw [List.mem_singleton.mp z, e] at e2; cases e2
  exact ⟨p.s.trans (S.mono fun b hb => by rw [List.mem_singleton.mp hb]; simp [LA.fp]), ⟨k1, S.k _ _ e1 n1 (fun _ z => by cases z), h1.keep nt S.k⟩, ⟨k2, S.k _ _ e2 n2 (fun _ z => by cases z), h2.keep nt S.k⟩, ⟨k3, S.k _ _ e3 (fun z => p.d2 (List.mem_singleton.mp z)) (fun _ z => by cases z), h3.keep nt S.k⟩, ⟨_, upd_same, by rw [List.map_append]; exact (h4.snoc hv).keep nt S.k⟩,
    S.k _ _ p.r (fun z => p.d3 (by rw [List.mem_singleton.mp z]; simp [LA.fp])) (fun _ z => by cases z), p.rv.keep nt S.k, p.d1, p.d2, p.d3⟩
end
def lSt (ra da : Addr) (i : Int) (A : LA) (x7 x8 x9 : Option V) : L2.St := [some (.ref ra), some (.ref da), some (.int i), some (.ref A.nd), some (.ref A.wd), some (.ref A.l), some (.ref A.m), x7, x8, x9]
/-- the rows' own side conditions on the way -/
structure LSide (rows : List RowD) (es0 es : ES) (ns : Nts) (i : Nat) : Prop where
  nf : NtF ns
  nl : ns.length ≤ i
  sl : es.steps.length ≤ i
  tl : es.said.length ≤ i
  ks : es.pages.map (·.1) = es0.pages.map (·.1)
  pf : PgF es.pages
  e : execR (rows.drop i) ns es = execR rows [] es0
def spLRun (K : PySem.W.Frag) (G : Tb) : Sp := fun vs H Q _ => ∃ (ra da : Addr) (L : Int) (rows : List RowD) (rvs : List V) (kvs : List (Key × V)) (ps : Pgs), vs = [.ref ra, .ref da] ∧ H ra = some (.lst rvs) ∧ Vds K H rvs (rows.map RowD.data) ∧ H da = some (.dK kvs) ∧ KvD K H kvs ps ∧ PlayJob rows ⟨ps, [], []⟩ L ∧ Tbs G H ∧
  ∀ (p l m : Addr) (sv nv : List V) (ev : V) (H' : Hp), Stp G [] H H' → H' p = some (.tup [.ref l, .ref m, ev]) → H' l = some (.lst sv) → Vds K H' sv ((execR rows [] ⟨ps, [], []⟩).1.steps.map stD) → H' m = some (.lst nv) → Vds K H' nv ((execR rows [] ⟨ps, [], []⟩).1.said.map ntD) → Vd K H' ev (finD (execR rows [] ⟨ps, [], []⟩)) → Q (.ref p) H'
theorem ok_lrun (F : Fn K "_law_run" s_law_run f fd) (T : Tx K mg) (U_law_told : Use P w K mg base (L2.CX P w) "_law_told" 1 ["_law_row", "_law_notes"] (spTold K)) (U_law_wish : Use P w K mg base (L2.CX P w) "_law_wish" 2 ["_law_row", "_law_notes"] (spWish K G)) (U_law_same : Use P w K mg base (L2.CX P w) "_law_same" 13 ["_law_found", "_law_due"] (spSame K 12)) :
   FnOk P w K mg base (L2.CX P w) 14 f fd ["_law_rows", "_law_disk"] (spLRun K G) := by
  refine F.ok sc_law_run (fun vs H Q E h => ?_) (fun cdv A outer s H vs Q E hr h => ?_)
  · obtain ⟨_, _, _, _, _, _, _, rfl, _⟩ := h
    rfl
  · obtain ⟨ra, da, L, rows, rvs, kvs0, ps, rfl, era, hrv, eda, hkv, job, ht, k⟩ := h
    generalize hes0 : (⟨ps, [], []⟩ : ES) = es0 at *
    refine ⟨_, PSs.nox (pss_cons (ps_asg (pe_tup (pa_cons pe_int (pa_cons pe_dnewK (pa_cons (pe_callTy call_dictD (by rfl) T.n_dict (by decide +kernel) (pa_cons (pv 1) pa_nil)) (pa_cons (pe_lst pa_nil) (pa_cons (pe_lst pa_nil) pa_nil)))))) (pg_tup rfl (pgs_cons (pg_name (i := 2) sc_law_run.nd rfl (Or.inl rfl)) (pgs_cons (pg_name (i := 3) sc_law_run.nd rfl (Or.inl rfl)) (pgs_cons (pg_name (i := 4) sc_law_run.nd rfl (Or.inl rfl)) (pgs_cons (pg_name (i := 5) sc_law_run.nd rfl (Or.inl rfl)) (pgs_cons (pg_name (i := 6) sc_law_run.nd rfl (Or.inl rfl)) pgs_nil)))))))
      (pss_cons (ps_while PassesOwn.never (pt_cmpR op_lt (pv 2) (pe_callB call_len (by rfl) T.n_len (by decide +kernel) (pa_cons (pv 0) pa_nil)) (nomark _)) (pss_cons (ps_set (i := 7) sc_law_run.nd rfl (Or.inl rfl) (pe_ix ix_list (pv 0) (pv 2) (fun _ _ => rfl)))
      (pss_cons (ps_set (i := 2) sc_law_run.nd rfl (Or.inl rfl) (pe_op op_add (pv 2) pe_int))
      (pss_one (ps_if (pt_cmpR op_eq (pe_ix ix_tup (pv 7) pe_int (fun _ _ => rfl)) pe_str (nomark _)) (pss_one (ps_expr (pe_bm PySem.F.plainAttrs_list PySem.F.slot_list_append PySem.F.type_list_append mt_append (pv 6) (pa_cons (pe_tup (pa_cons (pe_callB call_len (by rfl) T.n_len (by decide +kernel) (pa_cons (pv 5) pa_nil)) (pa_cons (pe_useL U_law_told hr (by first | decide | omega) (by rfl) (pa_cons (pe_ix ix_tup (pv 7) pe_int (fun _ _ => rfl)) (pa_cons (pv 3) pa_nil))) pa_nil))) pa_nil)))) (pss_one (ps_if (PW.pt (pw_or (pt_cmpR op_eq (pe_ix ix_tup (pv 7) pe_int (fun _ _ => rfl)) pe_str (nomark _)) (pw_or1 (pt_cmpR op_eq (pe_ix ix_tup (pv 7) pe_int (fun _ _ => rfl)) pe_str (nomark _))))) (pss_one (ps_ret (pe_tup (pa_cons (pv 5) (pa_cons (pv 6) (pa_cons (pe_tup (pa_cons (pe_ifExp (pt_cmpR op_eq (pe_ix ix_tup (pv 7) pe_int (fun _ _ => rfl)) pe_str (nomark _)) pe_str pe_str) (pa_cons (pe_useL U_law_told hr (by first | decide | omega) (by rfl) (pa_cons (pe_ix ix_tup (pv 7) pe_int (fun _ _ => rfl)) (pa_cons (pv 3) pa_nil))) pa_nil))) pa_nil)))))) (pss_one (ps_if (pt_cmpR op_eq (pe_ix ix_tup (pv 7) pe_int (fun _ _ => rfl)) pe_str (nomark _)) (pss_one (ps_set (i := 2) sc_law_run.nd rfl (Or.inl rfl) (pe_ifExp (pt_val (pe_useL U_law_same hr (by first | decide | omega) (by rfl) (pa_cons (pe_dget2 (hu_of hr) (pv 3) (pe_ix ix_tup (pv 7) pe_int (fun _ _ => rfl)) pe_int ⟨rfl, rfl, rfl, rfl⟩) (pa_cons (pe_ix ix_tup (pv 7) pe_int (fun _ _ => rfl)) pa_nil)))) (pe_op op_add (pv 2) (pe_ix ix_tup (pv 7) pe_int (fun _ _ => rfl))) (pv 2)))) (pss_cons (ps_set (i := 8) sc_law_run.nd rfl (Or.inl rfl) (pe_useL U_law_wish hr (by first | decide | omega) (by rfl) (pa_cons (pv 7) (pa_cons (pv 3) pa_nil))))
      (pss_cons (ps_set (i := 9) sc_law_run.nd rfl (Or.inl rfl) (pe_cut (pe_ifExp (pt_cmpR op_eq (pe_ix ix_tup (pv 8) pe_int (fun _ _ => rfl)) pe_str (nomark _)) (pe_dget (hu_of hr) (pv 4) (pe_ix ix_tup (pv 8) pe_int (fun _ _ => rfl)) (fun _ _ => rfl)) pe_non)))
      (pss_cons (ps_cut (ps_if (pt_cmpR op_eq (pe_ix ix_tup (pv 8) pe_int (fun _ _ => rfl)) pe_str (nomark _)) (pss_one (ps_dput (hu_of hr) (pv 4) (pe_ix ix_tup (pv 8) pe_int (fun _ _ => rfl)) (pe_ix ix_tup (pv 8) pe_int (fun _ _ => rfl)) rfl)) pss_nil))
      (pss_cons (ps_expr (pe_bm PySem.F.plainAttrs_list PySem.F.slot_list_append PySem.F.type_list_append mt_append (pv 5) (pa_cons (pe_tup (pa_cons (pv 8) (pa_cons (pv 9) pa_nil))) pa_nil)))
      (pss_one (ps_dput (hu_of hr) (pv 3) (pe_ix ix_tup (pv 7) pe_int (fun _ _ => rfl)) (pv 9) rfl)))))))))))))))
      (pss_one (ps_ret (pe_tup (pa_cons (pv 5) (pa_cons (pv 6) (pa_cons (pe_tup (pa_cons pe_str (pa_cons pe_non pa_nil))) pa_nil)))))))), ?_⟩
    have rvl : rvs.length = rows.length := by rw [hrv.len, List.length_map]
    refine fun nd hnd => ?_
    have S1 := FW.Stp.new (fp := []) (o := (.dK [])) ht hnd
    have e1 : L2.upd H nd (.dK []) nd = some (.dK []) := L2.upd_same
    generalize L2.upd H nd (.dK []) = H1 at *
    refine ⟨_, rfl, da, kvs0, rfl, .inl (S1.k _ _ eda (by simp) fun _ z => by cases z), fun wd hwd => ?_⟩
    have S2 := FW.Stp.new (fp := []) (o := (.dK kvs0)) S1.t hwd
    have e2 : L2.upd H1 wd (.dK kvs0) wd = some (.dK kvs0) := L2.upd_same
    generalize L2.upd H1 wd (.dK kvs0) = H2 at *
    refine ⟨by show 0 ≤ sizeLine; decide, fun l hl => ?_⟩
    have S3 := FW.Stp.new (fp := []) (o := (.lst [])) S2.t hl
    have e3 : L2.upd H2 l (.lst []) l = some (.lst []) := L2.upd_same
    generalize L2.upd H2 l (.lst []) = H3 at *
    refine ⟨by show 0 ≤ sizeLine; decide, fun m hm => ?_⟩
    have S4 := FW.Stp.new (fp := []) (o := (.lst [])) S3.t hm
    have e4 : L2.upd H3 m (.lst []) m = some (.lst []) := L2.upd_same
    generalize L2.upd H3 m (.lst []) = H4 at *
    refine ⟨by show 5 ≤ sizeLine; decide, fun t5 ht5 => ?_⟩
    have S5 := FW.Stp.new (fp := []) (o := (.tup [V.int 0, V.ref nd, V.ref wd, V.ref l, V.ref m])) S4.t ht5
    have e5 : L2.upd H4 t5 (.tup [V.int 0, V.ref nd, V.ref wd, V.ref l, V.ref m]) t5 = some (.tup [V.int 0, V.ref nd, V.ref wd, V.ref l, V.ref m]) := L2.upd_same
    generalize L2.upd H4 t5 (.tup [V.int 0, V.ref nd, V.ref wd, V.ref l, V.ref m]) = H5 at *
    refine ⟨t5, _, rfl, .of e5, rfl, _, _, rfl, _, _, rfl, _, _, rfl, _, _, rfl, _, _, rfl, rfl, ?_⟩
    have S05 := S1.trans (S2.trans (S3.trans (S4.trans S5)))
    have fr : ∀ x ∈ (⟨nd, wd, l, m⟩ : LA).fp, Fr0 H x := fun x hx => by
      simp only [LA.fp, List.mem_cons, List.mem_nil_iff, or_false] at hx
      rcases hx with rfl | rfl | rfl | rfl
      · exact fr0_none hnd
      · exact S1.k.fr0 (by simp) (fr0_none hwd)
      · exact (S1.trans S2).k.fr0 (by simp) (fr0_none hl)
      · exact (S1.trans (S2.trans S3)).k.fr0 (by simp) (fr0_none hm)
    have inv0 : LInv K G H5 H5 ⟨nd, wd, l, m⟩ ra rows rvs es0.pages [] [] [] := by
      have S25 := S3.trans (S4.trans S5)
      refine ⟨.refl S05.t, ⟨[], (S2.trans S25).k _ _ e1 (by simp) (fun _ z => by cases z), .nil⟩, ⟨kvs0, S25.k _ _ e2 (by simp) (fun _ z => by cases z), ?_⟩, ⟨[], (S4.trans S5).k _ _ e3 (by simp) (fun _ z => by cases z), .nil⟩, ⟨[], S5.k _ _ e4 (by simp) (fun _ z => by cases z), .nil⟩, S05.k _ _ era (by simp) (fun _ z => by cases z), hrv.ext S05.k, ne_of_none e1 hwd, ne_of_none e3 hm, fun z => ?_⟩
      · rw [← hes0]; exact hkv.keep noT_nil S05.k
      · obtain ⟨ps, q⟩ := fr ra z _ era
        cases q
    have S5' := S05
    obtain ⟨A', hA⟩ : ∃ A', A' = (⟨nd, wd, l, m⟩ : LA) := ⟨_, rfl⟩
    rw [← hA] at inv0 fr
    have back : ∀ {H'}, Stp G A'.fp H5 H' → Stp G [] H H' := fun S => Stp.fresh S05.k S fr
    have fin : ∀ {H' : Hp} {es : ES} {ns : Nts} {ev : V} {p : Addr} {R : ES × Bool × PyData}, LInv K G H5 H' A' ra rows rvs es.pages es.steps es.said ns → R = execR rows [] es0 → R.1 = es → Vd K H' ev (finD R) → H' p = none → Q (.ref p) (upd H' p (.tup [.ref A'.l, .ref A'.m, ev])) := fun {H' es ns ev p R} inv hR hes hv hp => by
      have inv2 := inv.new (Stp.new (o := .tup [.ref A'.l, .ref A'.m, ev]) inv.s.t hp)
      obtain ⟨sv, el, hsv⟩ := inv2.l
      obtain ⟨nv, em, hnv⟩ := inv2.m
      subst hR
      exact k p A'.l A'.m sv nv ev _ (back inv2.s) upd_same el (by rw [hes]; exact hsv) em (by rw [hes]; exact hnv) (hv.ext (.new hp))
    refine ⟨fun mm σ H' => ∃ (i : Nat) (x7 x8 x9 : Option V) (es : ES) (ns : Nts), mm = rows.length - i ∧ σ = lSt ra da i A' x7 x8 x9 ∧ LInv K G H5 H' A' ra rows rvs es.pages es.steps es.said ns ∧ LSide rows es0 es ns i, ⟨_, 0, none, none, none, es0, [], rfl, by rw [hA] <;> rfl, by rw [job.st, job.sd]; exact inv0, ⟨fun p hp => (by simp at hp), Nat.le_refl _, by rw [job.st]; exact Nat.le_refl _, by rw [job.sd]; exact Nat.le_refl _, rfl, job.pf, rfl⟩⟩, ?_⟩
    rintro mm σ H6 ⟨i, x7, x8, x9, es, ns, rfl, rfl, inv, sd⟩
    clear hA
    have hex := sd.e
    refine ⟨_, rfl, _, rfl, _, _, rfl, .inl ⟨_, SqL.of inv.r, rfl⟩, _, _, rfl, rfl, _, rfl, ?_⟩
    refine ite2 (fun hlt => ?_) fun hlt => ?_
    · have hi : i < rows.length := by
        have := of_decide_eq_true hlt
        omega
      refine ⟨fun σ' H' => ∃ m', m' < rows.length - i ∧ ∃ (i : Nat) (x7 x8 x9 : Option V) (es : ES) (ns : Nts), m' = rows.length - i ∧ σ' = lSt ra da i A' x7 x8 x9 ∧ LInv K G H5 H' A' ra rows rvs es.pages es.steps es.said ns ∧ LSide rows es0 es ns i, fun _ _ h => h, ?_⟩
      have hi2 : i < rvs.length := by rw [rvl]; exact hi
      obtain ⟨dd, hdd, hv⟩ := inv.rv.at (List.getElem?_eq_getElem hi2)
      rw [List.getElem?_map, List.getElem?_eq_getElem hi] at hdd
      obtain rfl : rows[i].data = dd := Option.some.inj hdd
      have hdrop : rows.drop i = rows[i] :: rows.drop (i + 1) := List.drop_eq_getElem_cons hi
      have hok := job.ok rows[i] (List.getElem_mem hi)
      rw [hdrop] at hex
      refine ⟨_, rfl, _, rfl, ra, rvs, (i : Int), rvs[i], rfl, rfl, SqL.of inv.r, atI_nat (List.getElem?_eq_getElem hi2), ?_⟩
      refine ⟨_, rfl, _, _, rfl, rfl, ?_⟩
      generalize rvs[i] = rv at *
      have done : ∀ {H' : Hp} {es' : ES} {ns' : Nts} {j : Nat} {y7 y8 y9 : Option V}, LInv K G H5 H' A' ra rows rvs es'.pages es'.steps es'.said ns' → LSide rows es0 es' ns' j → i < j → ∃ m', m' < rows.length - i ∧ ∃ (i : Nat) (x7 x8 x9 : Option V) (es : ES) (ns : Nts), m' = rows.length - i ∧ lSt ra da j A' y7 y8 y9 = lSt ra da i A' x7 x8 x9 ∧ LInv K G H5 H' A' ra rows rvs es.pages es.steps es.said ns ∧ LSide rows es0 es ns i := fun hI hS hj =>
        ⟨_, by omega, _, _, _, _, _, _, rfl, rfl, hI, hS⟩
      obtain ⟨kvs, en, hns⟩ := inv.n
      have hsL : es.steps.length < 1000 := Nat.lt_of_le_of_lt sd.sl (Nat.lt_trans hi job.few2)
      have htL : es.said.length < 1000 := Nat.lt_of_le_of_lt sd.tl (Nat.lt_trans hi job.few2)
      have slt : ∀ {k : Nat}, k ≤ 1000 → k < sizeLine := fun h => Nat.lt_of_le_of_lt h (by decide)
      have stay : ∀ {j : Nat}, i < j → execR (rows.drop j) ns es = execR rows [] es0 → LSide rows es0 es ns j := fun hj he => ⟨sd.nf, Nat.le_trans sd.nl (Nat.le_of_lt hj), Nat.le_trans sd.sl (Nat.le_of_lt hj), Nat.le_trans sd.tl (Nat.le_of_lt hj), sd.ks, sd.pf, he⟩
      cases hwi : (rows[i]).wi ns with
      | some q =>
        obtain ⟨wi, m⟩ := q
        obtain ⟨wd, d1, d2, hdat, n1, n2, n3, n4⟩ := wi_tag hwi
        have hv0 := hv
        rw [hdat] at hv
        obtain ⟨a, us, rfl, q, hd⟩ := hv.untup
        obtain ⟨u1, u2, rfl⟩ : ∃ u1 u2, us = [.str wd, u1, u2, .int m] := by
          cases hd with
          | cons h1 hd =>
            cases hd with
            | cons h2 hd =>
              cases hd with
              | cons h3 hd =>
                cases hd with
                | cons h4 hd =>
                  cases hd with
                  | nil =>
                    have e1 := h1.dp
                    cases e1
                    have e4 := h4.dp
                    cases e4
                    exact ⟨_, _, rfl⟩
        refine ⟨_, rfl, a, _, 0, _, rfl, rfl, q, rfl, rfl, _, rfl, ?_⟩
        rw [show decide (V.str wd = V.str "say") = false from decide_eq_false fun z => n1 (V.str.inj z)]
        refine iteF ⟨_, rfl, a, _, 0, _, rfl, rfl, q, rfl, rfl, _, rfl, ?_⟩
        rw [show decide (V.str wd = V.str "fail") = false from decide_eq_false fun z => n2 (V.str.inj z)]
        refine iteF ⟨_, rfl, a, _, 0, _, rfl, rfl, q, rfl, rfl, _, rfl, ?_⟩
        rw [show decide (V.str wd = V.str "back") = false from decide_eq_false fun z => n3 (V.str.inj z)]
        refine iteF ⟨_, rfl, a, _, 0, _, rfl, rfl, q, rfl, rfl, _, rfl, ?_⟩
        rw [show decide (V.str wd = V.str "skip") = false from decide_eq_false fun z => n4 (V.str.inj z)]
        refine iteF ?_
        rw [execR_wi hwi] at hex
        have hwok : wi.ok (es0.pages.map (·.1)) := wi_ok hwi hok sd.nf
        have hpl : es.pages.length < 100000 := by
          have z := congrArg List.length sd.ks
          rw [List.length_map, List.length_map] at z
          rw [z]
          exact job.pl
        refine ⟨_, rfl, _, rfl, .ref a, A'.nd, kvs, ns, rows[i], wi, m, rfl, hv0, en, hns, hwi, inv.s.t, fun wv H7 S7 hw => ?_⟩
        have inv7 := inv.new S7
        have q7 : SqT K H7 a [.str wd, u1, u2, .int m] := sqT_ext S7.k.ext q
        obtain ⟨wkv, ew, hwk⟩ := inv7.w
        obtain ⟨b, tag, ts, rfl, qb, htag⟩ : ∃ (b : Addr) (tag : Str) (ts : List V), wv = .ref b ∧ SqT K H7 b (.str tag :: ts) ∧ ((∃ n, tag = "look" ∧ wi = .look n ∧ ts = [.str n]) ∨ (∃ n d u, tag = "put" ∧ wi = .put n d ∧ ts = [.str n, u] ∧ Vd K H7 u d) ∨ (¬ tag = "look" ∧ ¬ tag = "put" ∧ (∀ n d, wi ≠ .put n d) ∧ ∀ n, wi ≠ .look n)) := by
          cases wi with
          | look n =>
            obtain ⟨b, u, rfl, q, hu⟩ := Vd.pair (n := "look") (d := .str n) hw
            have e := hu.dp
            cases e
            exact ⟨b, _, _, rfl, q, .inl ⟨n, rfl, rfl, rfl⟩⟩
          | put n d =>
            obtain ⟨b, us, rfl, q, hd⟩ := Vd.untup (ds := [.str "put", .str n, d]) hw
            cases hd with
            | cons h1 hd =>
              cases hd with
              | cons h2 hd =>
                cases hd with
                | cons h3 hd =>
                  cases hd with
                  | nil =>
                    have e1 := h1.dp
                    cases e1
                    have e2 := h2.dp
                    cases e2
                    exact ⟨b, _, _, rfl, q, .inr (.inl ⟨n, d, _, rfl, rfl, rfl, h3⟩)⟩
          | bar =>
            obtain ⟨b, us, rfl, q, hd⟩ := Vd.untup (ds := [.str "barrier"]) hw
            cases hd with
            | cons h1 hd =>
              have e1 := h1.dp
              cases e1
              exact ⟨b, _, _, rfl, q, .inr (.inr ⟨by decide, by decide, (fun _ _ z => by cases z), fun _ z => by cases z⟩)⟩
          | flu =>
            obtain ⟨b, us, rfl, q, hd⟩ := Vd.untup (ds := [.str "flush"]) hw
            cases hd with
            | cons h1 hd =>
              have e1 := h1.dp
              cases e1
              exact ⟨b, _, _, rfl, q, .inr (.inr ⟨by decide, by decide, (fun _ _ z => by cases z), fun _ z => by cases z⟩)⟩
        refine ⟨fun v H' => Vd K H' v (es.ans wi) ∧ H' = H7, ?_, ?_⟩
        · rcases htag with ⟨n, rfl, rfl, rfl⟩ | ⟨n, d, u, rfl, rfl, rfl, hu⟩ | ⟨hl, hp, hnp, hnl⟩
          · refine ⟨_, rfl, b, _, 0, _, rfl, rfl, qb, rfl, rfl, _, rfl, iteT ?_⟩
            obtain ⟨d, hg⟩ := pgGet_in (show n ∈ es.pages.map (·.1) by rw [sd.ks]; exact hwok)
            obtain ⟨u, hu, vu⟩ := (kvD_get (n := n) hwk).1 d hg
            refine ⟨_, rfl, _, rfl, b, _, 1, _, rfl, rfl, qb, rfl, A'.wd, u, rfl, (by have z := DGet.k (k := Sum.inr n) ew; rw [hu] at z; exact z), ?_, rfl⟩
            show Vd K H7 u ((pgGet es.pages n).getD .none)
            rw [hg]
            exact vu
          · refine ⟨_, rfl, b, _, 0, _, rfl, rfl, qb, rfl, rfl, _, rfl, iteF ⟨⟨.non, rfl⟩, rfl⟩⟩
          · refine ⟨_, rfl, b, _, 0, _, rfl, rfl, qb, (atI_nat (xs := V.str tag :: ts) (j := 0) rfl), rfl, _, rfl, ?_⟩
            rw [show decide (V.str tag = V.str "look") = false from decide_eq_false fun z => hl (V.str.inj z)]
            refine iteF ⟨?_, rfl⟩
            cases wi with
            | look n => exact absurd rfl (hnl n)
            | _ => exact ⟨.non, rfl⟩
        rintro av H7 ⟨hav, rfl⟩
        have hans := ES.ansF sd.pf wi
        refine ⟨fun σ' H' => σ' = lSt ra da (i + 1) A' (some (.ref a)) (some (.ref b)) (some av) ∧ Keep [A'.wd] H7 H' ∧ LInv K G H5 H' A' ra rows rvs (es.go wi).pages es.steps es.said ns, ?_, ?_⟩
        · rcases htag with ⟨n, rfl, rfl, rfl⟩ | ⟨n, d, u, rfl, rfl, rfl, hu⟩ | ⟨hl, hp, hnp, hnl⟩
          · exact ⟨_, rfl, b, _, 0, _, rfl, rfl, qb, rfl, rfl, _, rfl, iteF ⟨rfl, .refl, inv7⟩⟩
          · refine ⟨_, rfl, b, _, 0, _, rfl, rfl, qb, rfl, rfl, _, rfl, iteT ?_⟩
            obtain ⟨d0, hg⟩ := pgGet_in (show n ∈ es.pages.map (·.1) by rw [sd.ks]; exact hwok.1)
            refine ⟨_, rfl, b, _, 2, _, rfl, rfl, qb, rfl, _, rfl, _, rfl, b, _, 1, _, rfl, rfl, qb, rfl, A'.wd, _, rfl, DPut.k (k := Sum.inr n) ew (by rw [hwk.len]; exact Nat.lt_of_lt_of_le hpl (by decide)), rfl, .put (List.mem_singleton.mpr rfl), inv7.put ew hg hu⟩
          · refine ⟨_, rfl, b, _, 0, _, rfl, rfl, qb, (atI_nat (xs := V.str tag :: ts) (j := 0) rfl), rfl, _, rfl, ?_⟩
            rw [show decide (V.str tag = V.str "put") = false from decide_eq_false fun z => hp (V.str.inj z)]
            refine iteF ⟨rfl, .refl, ?_⟩
            cases wi with
            | put n d => exact absurd rfl (hnp n d)
            | _ => exact inv7
        rintro σ8 H8 ⟨rfl, k8, inv8⟩
        have nt7 : NoT [A'.wd] H7 := fun b hb => by
          rw [List.mem_singleton.mp hb, ew]
          exact ⟨(fun _ z => by cases z), fun _ _ z => by cases z⟩
        have hw8 := hw.keep nt7 k8
        have hav8 := hav.keep nt7 k8
        have q8 := keep_sqT nt7 k8 q7
        obtain ⟨sv8, el8, hsv8⟩ := inv8.l
        refine ⟨_, rfl, .inl ⟨rfl, _, SqL.of el8⟩, _, rfl, _, rfl, by show 2 ≤ sizeLine; decide, fun t ht => ?_⟩
        have S9 := FW.Stp.new (fp := []) (o := (.tup [V.ref b, av])) inv8.s.t ht
        have e9 : L2.upd H8 t (.tup [V.ref b, av]) t = some (.tup [V.ref b, av]) := L2.upd_same
        generalize L2.upd H8 t (.tup [V.ref b, av]) = H9 at *
        have inv9 := inv8.new S9
        obtain ⟨sv9, el9, hsv9⟩ := inv9.l
        refine ⟨A'.l, sv9, _, rfl, rfl, el9, by rw [hsv9.len, List.length_map]; exact slt (by omega), ?_⟩
        have inv10 := inv9.step (d := (wi, es.ans wi)) el9 (.tup (.of e9) (.cons (hw8.ext S9.k) (.cons (hav8.ext S9.k) .nil)))
        have k10 : Keep [A'.l] H9 (upd H9 A'.l (.lst (sv9 ++ [V.ref t]))) := .put (by simp)
        have hav10 := (hav8.ext S9.k).keep (noT_lst el9) k10
        have q10 := keep_sqT (noT_lst el9) k10 (sqT_ext S9.k.ext q8)
        generalize upd H9 A'.l (.lst (sv9 ++ [V.ref t])) = H10 at *
        obtain ⟨kvs10, en10, hns10⟩ := inv10.n
        refine ⟨_, rfl, _, rfl, _, rfl, a, _, 3, _, rfl, rfl, q10, rfl, A'.nd, _, rfl, DPut.k (k := Sum.inl m) en10 ?_, ?_⟩
        · rw [hns10.len]
          have := sd.nl
          have := job.few2
          exact Nat.lt_of_lt_of_le (show ns.length < 100000 by omega) (by decide)
        · refine done (es' := es.go wi) (inv10.note en10 hav10) ⟨sd.nf.set hans, ?_, ?_, Nat.le_succ_of_le sd.tl, (es.goK wi).trans sd.ks, ES.goF sd.pf wi fun n d e => ?_, hex⟩ (Nat.lt_succ_self i)
          · exact Nat.le_trans (ntSet_len _ _ _) (Nat.succ_le_succ sd.nl)
          · show (es.steps ++ [_]).length ≤ i + 1
            rw [List.length_append, List.length_singleton]
            have := sd.sl
            omega
          · subst e
            exact hwok.2
      | none =>
        cases hrow : rows[i] with
        | say p =>
          rw [hrow] at hv hok hex
          obtain ⟨a, us, rfl, q, hd⟩ := Vd.untup (ds := [.str "say", p.data]) hv
          obtain ⟨pv', rfl, hp⟩ : ∃ u, us = [.str "say", u] ∧ Vd K H6 u p.data := by
            cases hd with
            | cons h1 hd =>
              cases hd with
              | cons h2 hd =>
                cases hd with
                | nil =>
                  have e1 := h1.dp
                  cases e1
                  exact ⟨_, rfl, h2⟩
          refine ⟨_, rfl, a, _, 0, _, rfl, rfl, q, rfl, rfl, _, rfl, iteT ?_⟩
          obtain ⟨nv, em, hnv⟩ := inv.m
          obtain ⟨sv, el, hsv⟩ := inv.l
          refine ⟨_, rfl, .inl ⟨rfl, _, SqL.of em⟩, _, rfl, _, _, rfl, .inl ⟨_, SqL.of el, rfl⟩, ?_⟩
          refine ⟨_, rfl, a, _, 1, _, rfl, rfl, q, rfl, _, rfl, pv', A'.nd, kvs, ns, p, rfl, hp, en, hns, fun u hu => ?_⟩
          refine ⟨by show 2 ≤ sizeLine; decide, fun t ht => ?_⟩
          have S7 := FW.Stp.new (fp := []) (o := (.tup [V.int (sv.length : Nat), u])) inv.s.t ht
          have e7 : L2.upd H6 t (.tup [V.int (sv.length : Nat), u]) t = some (.tup [V.int (sv.length : Nat), u]) := L2.upd_same
          generalize L2.upd H6 t (.tup [V.int (sv.length : Nat), u]) = H7 at *
          have inv7 := inv.new S7
          obtain ⟨nv7, em7, hnv7⟩ := inv7.m
          have hvl : sv.length = es.steps.length := by rw [hsv.len, List.length_map]
          refine ⟨A'.m, nv7, _, rfl, rfl, em7, by rw [hnv7.len, List.length_map]; exact slt (by omega), ?_⟩
          rw [execR] at hex
          have inv8 := inv7.word (d := (es.steps.length, p.val ns)) em7 (.tup (.of e7) (.cons (by rw [hvl]; exact ⟨.int _, rfl⟩) (.cons (hu.ext S7.k) .nil)))
          refine done (es' := es.say (p.val ns)) inv8 ⟨sd.nf, Nat.le_succ_of_le sd.nl, Nat.le_succ_of_le sd.sl, ?_, sd.ks, sd.pf, hex⟩ (Nat.lt_succ_self i)
          show (es.said ++ [_]).length ≤ i + 1
          rw [List.length_append, List.length_singleton]
          have := sd.tl
          omega
        | fail p =>
          rw [hrow] at hv hok hex
          obtain ⟨a, us, rfl, q, hd⟩ := Vd.untup (ds := [.str "fail", p.data]) hv
          obtain ⟨pv', rfl, hp⟩ : ∃ u, us = [.str "fail", u] ∧ Vd K H6 u p.data := by
            cases hd with
            | cons h1 hd =>
              cases hd with
              | cons h2 hd =>
                cases hd with
                | nil =>
                  have e1 := h1.dp
                  cases e1
                  exact ⟨_, rfl, h2⟩
          refine ⟨_, rfl, a, _, 0, _, rfl, rfl, q, rfl, rfl, _, rfl, iteF ?_⟩
          refine ⟨_, rfl, a, _, 0, _, rfl, rfl, q, rfl, rfl, _, rfl, iteT ?_⟩
          refine iteT ?_
          refine ⟨_, rfl, _, rfl, _, rfl, a, _, 0, _, rfl, rfl, q, rfl, rfl, _, rfl, iteT ?_⟩
          refine ⟨_, rfl, a, _, 1, _, rfl, rfl, q, rfl, _, rfl, pv', A'.nd, kvs, ns, p, rfl, hp, en, hns, fun u hu => ?_⟩
          refine ⟨by show 2 ≤ sizeLine; decide, fun t ht => ?_⟩
          have S7 := FW.Stp.new (fp := []) (o := (.tup [V.str "failed", u])) inv.s.t ht
          have e7 : L2.upd H6 t (.tup [V.str "failed", u]) t = some (.tup [V.str "failed", u]) := L2.upd_same
          generalize L2.upd H6 t (.tup [V.str "failed", u]) = H7 at *
          rw [execR] at hex
          exact ⟨by show 3 ≤ sizeLine; decide, fun p2 hp2 => fin (inv.new S7) hex rfl (.tup (.of e7) (.cons ⟨.str _, rfl⟩ (.cons (hu.ext S7.k) .nil))) hp2⟩
        | back p =>
          rw [hrow] at hv hok hex
          obtain ⟨a, us, rfl, q, hd⟩ := Vd.untup (ds := [.str "back", p.data]) hv
          obtain ⟨pv', rfl, hp⟩ : ∃ u, us = [.str "back", u] ∧ Vd K H6 u p.data := by
            cases hd with
            | cons h1 hd =>
              cases hd with
              | cons h2 hd =>
                cases hd with
                | nil =>
                  have e1 := h1.dp
                  cases e1
                  exact ⟨_, rfl, h2⟩
          refine ⟨_, rfl, a, _, 0, _, rfl, rfl, q, rfl, rfl, _, rfl, iteF ?_⟩
          refine ⟨_, rfl, a, _, 0, _, rfl, rfl, q, rfl, rfl, _, rfl, iteF ?_⟩
          refine ⟨_, rfl, a, _, 0, _, rfl, rfl, q, rfl, rfl, _, rfl, iteT ?_⟩
          refine ⟨_, rfl, _, rfl, _, rfl, a, _, 0, _, rfl, rfl, q, rfl, rfl, _, rfl, iteF ?_⟩
          refine ⟨_, rfl, a, _, 1, _, rfl, rfl, q, rfl, _, rfl, pv', A'.nd, kvs, ns, p, rfl, hp, en, hns, fun u hu => ?_⟩
          refine ⟨by show 2 ≤ sizeLine; decide, fun t ht => ?_⟩
          have S7 := FW.Stp.new (fp := []) (o := (.tup [V.str "told", u])) inv.s.t ht
          have e7 : L2.upd H6 t (.tup [V.str "told", u]) t = some (.tup [V.str "told", u]) := L2.upd_same
          generalize L2.upd H6 t (.tup [V.str "told", u]) = H7 at *
          rw [execR] at hex
          exact ⟨by show 3 ≤ sizeLine; decide, fun p2 hp2 => fin (inv.new S7) hex rfl (.tup (.of e7) (.cons ⟨.str _, rfl⟩ (.cons (hu.ext S7.k) .nil))) hp2⟩
        | skip n d k' =>
          rw [hrow] at hv hok hex
          obtain ⟨a, us, rfl, q, hd⟩ := Vd.untup (ds := [.str "skip", .int n, d, .int (k' : Nat)]) hv
          obtain ⟨dv, rfl, hdv⟩ : ∃ u, us = [.str "skip", .int n, u, .int (k' : Nat)] ∧ Vd K H6 u d := by
            cases hd with
            | cons h1 hd =>
              cases hd with
              | cons h2 hd =>
                cases hd with
                | cons h3 hd =>
                  cases hd with
                  | cons h4 hd =>
                    cases hd with
                    | nil =>
                      have e1 := h1.dp
                      cases e1
                      have e2 := h2.dp
                      cases e2
                      have e4 := h4.dp
                      cases e4
                      exact ⟨_, rfl, h3⟩
          refine ⟨_, rfl, a, _, 0, _, rfl, rfl, q, rfl, rfl, _, rfl, iteF ?_⟩
          refine ⟨_, rfl, a, _, 0, _, rfl, rfl, q, rfl, rfl, _, rfl, iteF ?_⟩
          refine ⟨_, rfl, a, _, 0, _, rfl, rfl, q, rfl, rfl, _, rfl, iteF ?_⟩
          refine ⟨_, rfl, a, _, 0, _, rfl, rfl, q, rfl, rfl, _, rfl, iteT ?_⟩
          refine ⟨_, rfl, A'.nd, rfl, .inl ⟨kvs, .inl en⟩, _, rfl, a, _, 1, _, rfl, rfl, q, rfl, valV kvs (.inl n), .inl ⟨kvs, .inl n, .inl en, rfl, rfl⟩, ?_⟩
          have hg := ntD_get (n := n) hns
          refine ⟨_, rfl, a, _, 2, _, rfl, rfl, q, rfl, _, dv, ntGet ns n, d, rfl, hg.dp, hdv.dp, ?_, fun b H7 hb S7 => ⟨_, rfl, ?_⟩⟩
          · exact sml_up (sml_up (sml_up (sml_up (sml_up (sml_up (sml_up (sml_up hok.sml)))))))
          · have St : Stp G [] H6 H7 := ⟨.same S7, inv.s.t.keep (fun b ps e => S7 _ _ e) fun b c q e => S7 _ _ e⟩
            rw [execR] at hex
            cases b with
            | true =>
              rw [if_pos (hb.mp rfl)] at hex
              refine iteT ?_
              refine ⟨_, rfl, _, rfl, a, _, 3, _, rfl, rfl, sqT_ext St.k.ext q, rfl, _, _, rfl, rfl, ?_⟩
              rw [List.drop_drop] at hex
              have z := done (y7 := some (.ref a)) (y8 := x8) (y9 := x9) (inv.new St) (stay (show i < i + 1 + k' by omega) hex) (by omega)
              rw [show ((i + 1 + k' : Nat) : Int) = (i : Int) + 1 + (k' : Nat) by omega] at z
              exact z
            | false =>
              rw [if_neg (fun z => by cases hb.mpr z)] at hex
              refine iteF ?_
              exact ⟨_, rfl, done (y7 := some (.ref a)) (inv.new St) (stay (Nat.lt_succ_self i) hex) (Nat.lt_succ_self i)⟩
        | bar => rw [hrow] at hwi; cases hwi
        | flu => rw [hrow] at hwi; cases hwi
        | look _ _ => rw [hrow] at hwi; cases hwi
        | put _ _ => rw [hrow] at hwi; cases hwi
    · have hi : rows.length ≤ i := by
        have : ¬ (i : Int) < (rvs.length : Nat) := fun z => hlt (decide_eq_true z)
        omega
      rw [List.drop_of_length_le hi, execR] at hex
      refine ⟨_, rfl, _, rfl, by show 2 ≤ sizeLine; decide, fun t ht => ?_⟩
      have S7 := FW.Stp.new (fp := []) (o := (.tup [V.str "told", V.non])) inv.s.t ht
      have e7 : L2.upd H6 t (.tup [V.str "told", V.non]) t = some (.tup [V.str "told", V.non]) := L2.upd_same
      generalize L2.upd H6 t (.tup [V.str "told", V.non]) = H7 at *
      exact ⟨by show 3 ≤ sizeLine; decide, fun p2 hp2 => fin (inv.new S7) hex rfl (.tup (.of e7) (.cons ⟨.str _, rfl⟩ (.cons ⟨.non, rfl⟩ .nil))) hp2⟩
end
end K10

namespace K10
open PySem PySem.Spec PyProof.Rows L2 XV XL UU CC FW GX GxR LamX NdefX
section
variable {P : Program} {w : World} {K : PySem.W.Frag} {mg : Str → Option Value} {base : Heap} {f c0 P0 : Addr} {fd : FuncData} {G : Tb}
theorem sc_law_worked : FnScope ["_law_rows"] ["_law_rows"] (defScope s_law_worked) := ⟨rfl, rfl, rfl, by decide +kernel, rfl, by decide +kernel, by decide +kernel⟩
def retE : List Stmt → Expr
  | [.Return (some e) _] => e
  | _ => .Constant .none 0 ⟨0, 0, 0, 0⟩
def lamP : Expr → Arguments
  | .Lambda p _ _ _ => p
  | _ => defArgs s_law_worked
def lamB : Expr → Expr
  | .Lambda _ b _ _ => b
  | e => e
def lamS : Expr → Scope
  | .Lambda _ _ s _ => s
  | _ => defScope s_law_worked
def wkQ : Str := "_law_worked.<locals>.<lambda>"
def wkF (n c' : Addr) : NF := ⟨"<lambda>", wkQ, lamP (retE (defBody s_law_worked)), [], lamS (retE (defBody s_law_worked)), [("_law_rows", n)], c'⟩
def wkB : Expr := lamB (retE (defBody s_law_worked))
/-- at f: a function of the rows at ra -/
def WkAt (H : Hp) (f ra : Addr) : Prop := ∃ n c', LamAt H f (wkF n c') wkB ["_law_rows"] [.ref ra]
theorem WkAt.ext {H H' : Hp} {f ra : Addr} (h : WkAt H f ra) (k : Keep [] H H') : WkAt H' f ra := by
  obtain ⟨n, c', l⟩ := h
  exact ⟨n, c', FW.LamAt.ext l k⟩
def spWorked (G : Tb) : Sp := fun vs H Q _ => ∃ ra, vs = [.ref ra] ∧ Tbs G H ∧ ∀ f H', Stp G [] H H' → WkAt H' f ra → Q (.ref f) H'
theorem ok_worked (F : Fn K "_law_worked" s_law_worked f fd) (hc : fd.code = .ref c0) (TB : LamX.TabB base mg c0 P0) (hg0 : P0 ∉ G.gp) (hm : (P0, fun _ _ => wkQ) ∈ G.lt) (hu : ∀ p ∈ G.lt, p.1 = P0 → p.2 = fun _ _ => wkQ) : FnOk P w K mg base (L2.CX P w) 1 f fd ["_law_rows"] (spWorked G) := by
  refine okRet F hc sc_law_worked (fun vs H Q E h => ?_) (fun A outer s H vs Q E hr h => ?_)
  · obtain ⟨_, rfl, _⟩ := h
    rfl
  · obtain ⟨ra, rfl, ht, k⟩ := h
    refine ⟨_, pe_lamT (T := G.lt) (nm := fun _ _ => wkQ) TB rfl hm rfl hu (fun y hy e => ?_) rfl, ?_⟩
    · rcases List.mem_cons.mp hy with rfl | hy
      · cases e
      rcases List.mem_cons.mp hy with rfl | hy
      · exact .inl rfl
      · cases List.mem_singleton.mp hy
        cases e
    refine ⟨ht.l, fun g c' H1 e0 e1 e2 t1 hg eg ec Hc L => ?_⟩
    have hown : ∀ (b : Addr) (u : HO), H1 b = some u → Hc b = some u := fun b u e => by
      rw [L.out b fun z => by rw [L.free b z] at e; cases e]
      exact e
    have look : ∀ {y : Str} {c : Addr}, (wkF (s.heap.objs.size + 1) c').cl.lookup y = some c → y = "_law_rows" ∧ c = s.heap.objs.size + 1 := fun {y c} e => by
      have e' : ([("_law_rows", s.heap.objs.size + 1)] : List (Str × Addr)).lookup y = some c := e
      rw [List.lookup_cons] at e'
      by_cases hy : y = "_law_rows"
      · rw [show (y == ("_law_rows" : Str)) = true by simpa using hy] at e'
        exact ⟨hy, (Option.some.inj e').symm⟩
      · rw [show (y == ("_law_rows" : Str)) = false by simpa using hy] at e'
        cases e'
    have cell : CellT Hc (s.heap.objs.size + 1) (.ref ra) := L.cell "_law_rows" (s.heap.objs.size + 1) 0 (.ref ra) rfl rfl rfl rfl
    refine k g Hc ⟨fun b o e _ nt => hown _ _ (e1 b o e nt), fun P hP => ?_, t1.ext hown⟩ ⟨s.heap.objs.size + 1, c', hown _ _ eg, hown _ _ ec, fun y c e => ?_, fun x y c e1 e2 => ?_, rfl, fun i y e => ?_⟩
    · obtain ⟨ps, q, tr⟩ := ht.g P hP
      exact ⟨ps, hown _ _ (e0 _ _ q fun z => hg0 (by rw [← z]; exact hP)), tr⟩
    · obtain ⟨rfl, rfl⟩ := look e
      exact ⟨_, cell⟩
    · rw [(look e1).1, (look e2).1]
    · refine ⟨s.heap.objs.size + 1, ?_, fun v ev => ?_⟩
      · cases i with
        | zero =>
          cases e
          rfl
        | succ i => cases e
      · cases i with
        | zero =>
          cases ev
          exact cell
        | succ i => cases ev
/-- the lambda's own promise -/
def spLP (K : PySem.W.Frag) (G : Tb) : List (Option V) → Sp := fun ws vs H Q E => ∃ ra h : Addr, ws = [some (.ref ra)] ∧ vs = [.ref h] ∧ spPlay K G [.ref ra, .ref h] H Q E
theorem wk_lok {n c' f : Addr} (U_law_play : Use P w K mg base (L2.CX P w) "_law_play" 20 ["_law_rows", "_law_hand"] (spPlay K G)) : LOk P w K mg base (L2.CX P w) 21 f (wkF n c') wkB ["_law_hand"] ["_law_rows"] (spLP K G) := by
  refine lok_of (N := ["_law_hand", "_law_rows"]) (nscope_by (by kernel_rfl)) (fun _ _ us hl => match us, hl with | [_], _ => rfl) (fun ws vs H Q E h => ?_) fun A outer s H vs ws Q E hr h1 h2 h3 h => ?_
  · obtain ⟨_, _, _, rfl, _⟩ := h
    rfl
  · obtain ⟨ra, ha, rfl, rfl, h⟩ := h
    refine ⟨_, pe_useS U_law_play hr (by decide) (by rfl) (takes_of rfl rfl rfl rfl) (pa_cons (pv 1) (pa_cons (pv 0) pa_nil)), ?_⟩
    exact ⟨_, rfl, _, rfl, h⟩
theorem wk_work {H : Hp} {f ra : Addr} {rows : List RowD} {rvs : List V} {ps : Pgs} {L : Int} (U_law_play : Use P w K mg base (L2.CX P w) "_law_play" 20 ["_law_rows", "_law_hand"] (spPlay K G)) (hw : WkAt H f ra) (hra : H ra = some (.lst rvs)) (hrv : Vds K H rvs (rows.map RowD.data)) (job : PlayJob rows ⟨ps, [], []⟩ L) :
    WorkOk P w K mg base G 4 21 H f ps L ⟨(execR rows [] ⟨ps, [], []⟩).1.steps.map stD, (execR rows [] ⟨ps, [], []⟩).1.said.map ntD, finD (execR rows [] ⟨ps, [], []⟩)⟩ := by
  intro H1 A S hh fr
  obtain ⟨n, c', l⟩ := hw.ext S.k
  have lk := l.locked
  have kg := keepG_off lk
  refine ⟨.inl ⟨_, _, l.fn⟩, _, cbl_ofY (wk_lok (n := n) (c' := c') U_law_play), fun Q E kQ kE => ?_⟩
  have era := S.k _ _ hra (by simp) fun _ z => by cases z
  have nra : ra ∉ A.fp := fun z => by
    obtain ⟨ps, q⟩ := fr ra z _ hra
    cases q
  refine ⟨[.ref ra], l, ra, A.h, rfl, rfl, ra, A, L, rows, rvs, ⟨ps, [], []⟩, rfl, kg _ _ era good_lst, (hrv.ext S.k).g kg, nra, hh.g kg, job, tbs_off lk S.t, fun ht v H2 hh2 S2 hv hf hn => ?_, fun ht H2 hh2 S2 hn => ?_⟩
  · have ko := keepG_on (H := H1) hn
    refine kQ v _ _ _ (hh2.g ko) (stp_on hn S2) rfl rfl rfl ?_ (hv.g ko) hf.sml
    show finD _ = _
    unfold finD
    rw [ht] <;> rfl
  · have ko := keepG_on (H := H1) hn
    have e1 : finD (execR rows [] ⟨ps, [], []⟩) = .tuple [.str "failed", (execR rows [] ⟨ps, [], []⟩).2.2] := by
      unfold finD
      rw [ht] <;> rfl
    exact kE _ _ _ (hh2.g ko) (stp_on hn S2) rfl rfl rfl e1 e1.symm
end
end K10

namespace K10
open PySem PySem.Spec PyProof.Rows L2 XV XL UU CC FW GX GxR
section
variable {P : Program} {w : World} {K : PySem.W.Frag} {mg : Str → Option Value} {base : Heap} {f : Addr} {fd : FuncData} {G : Tb} {ta ra : Addr}
abbrev FPlan (K : PySem.W.Frag) (ta f : Addr) (fd : FuncData) : Prop := FunD K "__init__" "Plan.__init__" (defArgs s_Plan___init__) (defBody s_Plan___init__) (defScope s_Plan___init__) [.non] (plKw ta) f fd
theorem kb1 (F : FPlan K ta f fd) : ∃ its mv : List Value, KBn K fd ["self", "work", "mend", "pages", "torn", "longest", "most"] 3 ["pages", "torn", "most"] (fun us ws => us ++ (ws.take 2 ++ (mv ++ ws.drop 2))) (fun vs zs => vs ++ (zs.take 2 ++ ([V.int 40] ++ zs.drop 2))) := by
  have z := F.kbinds (ps := ["self", "work", "mend", "pages", "torn", "longest", "most"]) 3 ["pages", "torn", "most"] [("longest", .int 40)] (fun us its mv ws => us ++ (ws.take 2 ++ (mv ++ ws.drop 2))) (by simp) (by simp [plKw]) (by simp [plKw])
    (fun r1 r2 r3 r4 => r1.append ((r4.take 2).append (r3.append (r4.drop 2)))) (fun T D doc pm an cdv ct us its mv ws l1 l2 l3 l4 => by
    match us, its, mv, ws, l1, l2, l3, l4 with
    | [a, b, c], [d], [m], [x, y, z], _, _, _, _ =>
      refine ⟨_, rfl, ?_⟩
      refine ⟨_, _, _, _, _, _, rfl, rfl, ?_⟩
      exact kwnil (by kernel_rfl))
  exact z
theorem kb2 (F : FPlan K ta f fd) : ∃ its mv : List Value, KBn K fd ["self", "work", "mend", "pages", "torn", "longest", "most"] 2 ["pages"] (fun us ws => us ++ (its ++ (ws ++ mv))) (fun vs zs => vs ++ ([.non] ++ (zs ++ [V.ref ta, V.int 40, V.int 400]))) := by
  have z := F.kbinds (ps := ["self", "work", "mend", "pages", "torn", "longest", "most"]) 2 ["pages"] (plKw ta) (fun us its mv ws => us ++ (its ++ (ws ++ mv))) (by simp) (by simp [plKw]) (fun _ h => h)
    (fun r1 r2 r3 r4 => r1.append (r2.append (r4.append r3))) (fun T D doc pm an cdv ct us its mv ws l1 l2 l3 l4 => by
    match us, its, mv, ws, l1, l2, l3, l4 with
    | [a, b], [d], [m1, m2, m3], [x], _, _, _, _ =>
      refine ⟨_, rfl, ?_⟩
      refine ⟨_, _, _, _, _, _, rfl, rfl, _, _, _, _, _, _, rfl, rfl, _, _, _, _, _, _, rfl, rfl, ?_⟩
      exact kwnil (by kernel_rfl))
  exact z

abbrev UPlan3 (P : Program) (w : World) (K : PySem.W.Frag) (mg : Str → Option Value) (base : Heap) (G : Tb) (ra : Addr) : Prop := UMakeK P w K mg base (L2.CX P w) "Plan" 22 (spPlan0 K G 4 ra) (PC' K) 2 ["pages", "torn", "most"] (fun vs zs => vs ++ (zs.take 2 ++ ([V.int 40] ++ zs.drop 2)))
abbrev UPlan1 (P : Program) (w : World) (K : PySem.W.Frag) (mg : Str → Option Value) (base : Heap) (G : Tb) (ra ta : Addr) : Prop := UMakeK P w K mg base (L2.CX P w) "Plan" 22 (spPlan0 K G 4 ra) (PC' K) 1 ["pages"] (fun vs zs => vs ++ ([.non] ++ (zs ++ [V.ref ta, V.int 40, V.int 400])))
theorem sc_law_plan : FnScope ["_law_plan_here"] ["_law_plan_here"] (defScope s_law_plan) := ⟨rfl, rfl, rfl, by decide +kernel, rfl, by decide +kernel, by decide +kernel⟩
/-- pages that a plan may be made of -/
structure PgOk (ps : Pgs) : Prop where
  w : ∀ p ∈ ps, wordB p.1 = true
  nd : (ps.map (·.1)).Nodup
  f : PgF ps
  l : ps.length < 64
def spLPlan (K : PySem.W.Frag) (G : Tb) : Sp := fun vs H Q _ => ∃ (t r1 r2 bx tl : Addr) (kvs : List (Key × V)) (ps : Pgs) (tn : List Str), vs = [.ref t] ∧ SqT K H t [.ref r1, .ref r2, .ref bx, .ref tl] ∧ H tl = some (.lst (tn.map V.str)) ∧ TornOk ps tn ∧ H bx = some (.dK kvs) ∧ KvD K H kvs ps ∧ PgOk ps ∧ Tbs G H ∧
  ∀ (a : Addr) (p : PLd) (sps : Pgs) (tn' : List Str) (H' : Hp), Stp G [] H H' → PlanAt (PC' K) H' a p → WkAt H' p.work r1 → WkAt H' p.mend r2 → p.longest = 40 → SqT K H' p.spa [] → SqT K H' p.fla [] → DiskAt K H' p.start sps → SortedOf ps sps → SqT K H' p.torn (tn'.map V.str) → tn'.Perm tn → Q (.ref a) H'
theorem ok_lplan (F : Fn K "_law_plan" s_law_plan f fd) (T : Tx K mg) (U_law_worked : Use P w K mg base (L2.CX P w) "_law_worked" 1 ["_law_rows"] (spWorked G)) (U_Plan3 : UPlan3 P w K mg base G ra) : FnOk P w K mg base (L2.CX P w) 24 f fd ["_law_plan_here"] (spLPlan K G) := by
  refine F.ok sc_law_plan (fun vs H Q E h => ?_) (fun cdv A outer s H vs Q E hr h => ?_)
  · obtain ⟨_, _, _, _, _, _, _, _, rfl, _⟩ := h
    rfl
  · obtain ⟨t, r1, r2, bx, tl, kvs, ps, tn, rfl, q, etl, tok, ebx, hkv, pok, ht, k⟩ := h
    refine ⟨_, PSs.nox (pss_one (ps_ret (CC.pe_umkK U_Plan3 hr (by first | decide | omega) (by rfl) (pa_cons (pe_useL U_law_worked hr (by first | decide | omega) (by rfl) (pa_cons (pe_ix ix_tup (pv 0) pe_int (fun _ _ => rfl)) pa_nil)) (pa_cons (pe_useL U_law_worked hr (by first | decide | omega) (by rfl) (pa_cons (pe_ix ix_tup (pv 0) pe_int (fun _ _ => rfl)) pa_nil)) pa_nil)) (pk_cons (pe_ix ix_tup (pv 0) pe_int (fun _ _ => rfl)) (pk_cons (pe_ix ix_tup (pv 0) pe_int (fun _ _ => rfl)) (pk_cons pe_int pk_nil)))))), ?_⟩
    refine ⟨_, rfl, t, _, 0, _, rfl, rfl, q, rfl, r1, rfl, ht, fun f1 H1 S1 w1 => ?_⟩
    have q1 := sqT_ext S1.k.ext q
    refine ⟨_, rfl, t, _, 1, _, rfl, rfl, q1, rfl, r2, rfl, S1.t, fun f2 H2 S2 w2 => ?_⟩
    have S02 := S1.trans S2
    have q2 := sqT_ext S02.k.ext q
    refine ⟨_, rfl, t, _, 2, _, rfl, rfl, q2, rfl, ?_⟩
    refine ⟨_, rfl, t, _, 3, _, rfl, rfl, q2, rfl, ?_⟩
    refine ⟨rfl, rfl, fun x dx hx hdx hne => ?_⟩
    have S3 : Stp G [] H2 (upd (upd H2 dx (.own x)) x (.ins (PC' K) dx [])) := (Stp.new S2.t hdx).snew (by rw [upd_ne (Ne.symm hne)]; exact hx)
    have S03 := S02.trans S3
    refine ⟨x, dx, f1, f2, bx, tl, .ref f2, 40, 2000, kvs, ps, tn, rfl, upd_same, .inl rfl, S03.k _ _ ebx (by simp) (fun _ z => by cases z), hkv.keep noT_nil S03.k, pok.w, pok.nd, fun p hp => (pok.f p hp).sml, pok.l, .inl (SqL.of (S03.k _ _ etl (by simp) fun _ z => by cases z)), tok, by decide, by decide, by decide, by decide, S03.t, fun H' p sps tn' S4 hp e1 e2 e3 e4 h1 h2 h3 h4 h5 h6 => ⟨rfl, ?_⟩⟩
    have S4' : Stp G [] H2 H' := Stp.fresh S3.k S4 fun b hb => by rw [List.mem_singleton.mp hb]; exact fr0_none hx
    exact k x p sps tn' H' (S02.trans S4') hp (by rw [e1]; exact w1.ext (S2.trans S4').k) (by rw [e2]; exact w2.ext S4'.k) e3 h1 h2 h3 h4 h5 h6
end
end K10

namespace K10
open PySem PySem.Spec PyProof.Rows L2 XV XL UU CC FW GX GxR
section
variable {P : Program} {w : World} {K : PySem.W.Frag} {mg : Str → Option Value} {base : Heap} {f : Addr} {fd : FuncData} {G : Tb}
theorem sc_law_late : FnScope ["_law_run_here", "_law_disk", "_law_moment", "_law_board", "_law_flushed_disk", "_law_epochs", "_law_at", "_law_wish_here", "_law_answer", "_law_epoch", "_law_page", "_law_value"] ["_law_run_here", "_law_disk", "_law_moment", "_law_board"] (defScope s_law_late) := ⟨rfl, rfl, rfl, by decide +kernel, rfl, by decide +kernel, by decide +kernel⟩
/-- the puts among the wishes, of pages that are there -/
def PutsIn (ps : Pgs) (ws : List Wi) : Prop := ∀ n d, .put n d ∈ ws → n ∈ ps.map (·.1)
def ltSt (R da bd fd el : Addr) (mo : Int) (x6 x7 x8 x9 x10 x11 : Option V) : L2.St := [some (.ref R), some (.ref da), some (.int mo), some (.ref bd), some (.ref fd), some (.ref el), x6, x7, x8, x9, x10, x11]
def spLate (K : PySem.W.Frag) (G : Tb) : Sp := fun vs H Q _ => ∃ (R da bd l spa fla : Addr) (mo : Nat) (sv spv flv : List V) (mv ev : V) (st : List (Wi × PyData)) (kvs : List (Key × V)) (ps : Pgs), vs = [.ref R, .ref da, .int (mo : Nat), .ref bd] ∧ SqT K H R [.ref l, mv, ev] ∧ H l = some (.lst sv) ∧ Vds K H sv (st.map stD) ∧ H da = some (.dK kvs) ∧ KvD K H kvs ps ∧
  SqT K H bd [.ref spa, .ref fla] ∧ SqT K H spa spv ∧ spv.all flatV = true ∧ SqT K H fla flv ∧ flv.all flatV = true ∧ mo ≤ st.length ∧ st.length < 1000 ∧ ps.length < 1000 ∧ PutsIn ps (st.map (·.1)) ∧ Tbs G H ∧
  ∀ p H' fd el as, Stp G [] H H' → SqT K H' p [.ref fd, .ref el] → LtInv K G [] H H' fd el as (La.walk spv flv 0 ⟨ps, [[]]⟩ ((st.map (·.1)).take mo)) → Q (.ref p) H'
theorem ok_late (F : Fn K "_law_late" s_law_late f fd) (T : Tx K mg) : FnOk P w K mg base (L2.CX P w) 1 f fd ["_law_run_here", "_law_disk", "_law_moment", "_law_board"] (spLate K G) := by
  refine F.ok sc_law_late (fun vs H Q E h => ?_) (fun cdv A outer s H vs Q E hr h => ?_)
  · obtain ⟨_, _, _, _, _, _, _, _, _, _, _, _, _, _, _, rfl, _⟩ := h
    rfl
  · obtain ⟨R, da, bd, l, spa, fla, mo, sv, spv, flv, mv, ev, st, kvs, ps, rfl, qR, el0, hsv, eda, hkv, qbd, qsp, fsp, qfl, ffl, hmo, hst, hps, hpi, ht, k⟩ := h
    refine ⟨_, PSs.nox (pss_cons (ps_par (i := 4) (j := 5) (by rfl) sc_law_late.nd rfl rfl (by decide) rfl rfl (pa_cons (pe_callTy call_dictD (by rfl) T.n_dict (by decide +kernel) (pa_cons (pv 1) pa_nil)) (pa_cons (pe_lst (pa_cons (pe_lst pa_nil) pa_nil)) pa_nil)) (by rfl))
      (pss_cons (ps_for PassesOwn.never rfl (pi_enum (by rfl) T.n_enumerate (pa_cons (pe_slice sl_list (pe_ix ix_tup (pv 0) pe_int (fun _ _ => rfl)) po_none (po_some (pv 2))) pa_nil)) (pg_tup rfl (pgs_cons (pg_name (i := 6) sc_law_late.nd rfl (Or.inl rfl)) (pgs_cons (pg_tup rfl (pgs_cons (pg_name (i := 7) sc_law_late.nd rfl (Or.inl rfl)) (pgs_cons (pg_name (i := 8) sc_law_late.nd rfl (Or.inl rfl)) pgs_nil))) pgs_nil)))
      (pss_cons (ps_cut (ps_if (pt_cmpR op_eq (pe_ix ix_tup (pv 7) pe_int (fun _ _ => rfl)) pe_str (nomark _)) (pss_one (ps_expr (pe_bm PySem.F.plainAttrs_list PySem.F.slot_list_append PySem.F.type_list_append mt_append (pe_ix ix_list (pv 5) (pe_un un_neg pe_int) (fun _ _ => rfl)) (pa_cons (pe_tup (pa_cons (pe_ix ix_tup (pv 7) pe_int (fun _ _ => rfl)) (pa_cons (pe_ix ix_tup (pv 7) pe_int (fun _ _ => rfl)) pa_nil))) pa_nil)))) pss_nil))
      (pss_cons (ps_cut (ps_if (PW.pt (pw_and (pt_cmpR op_eq (pe_ix ix_tup (pv 7) pe_int (fun _ _ => rfl)) pe_str (nomark _)) (pw_and1 (pt_cmpR op_notIn_seq (pv 6) (pe_ix ix_tup (pv 3) pe_int (fun _ _ => rfl)) (by rfl))))) (pss_one (ps_expr (pe_bm PySem.F.plainAttrs_list PySem.F.slot_list_append PySem.F.type_list_append mt_append (pv 5) (pa_cons (pe_lst pa_nil) pa_nil)))) pss_nil))
      (pss_one (ps_if (pt_cut (PW.pt (pw_or (PW.pt (pw_and (pt_cmpR op_eq (pe_ix ix_tup (pv 7) pe_int (fun _ _ => rfl)) pe_str (nomark _)) (pw_and1 (pt_cmpR op_notIn_seq (pv 6) (pe_ix ix_tup (pv 3) pe_int (fun _ _ => rfl)) (by rfl))))) (pw_or1 (pt_cmpR op_in_seq (pv 6) (pe_ix ix_tup (pv 3) pe_int (fun _ _ => rfl)) (by rfl)))))) (pss_cons (ps_for PassesOwn.never rfl (pi_list (pv 5)) (pg_name (i := 9) sc_law_late.nd rfl (Or.inl rfl))
      (pss_one (ps_for PassesOwn.never rfl (pi_list (pv 9)) (pg_tup rfl (pgs_cons (pg_name (i := 10) sc_law_late.nd rfl (Or.inl rfl)) (pgs_cons (pg_name (i := 11) sc_law_late.nd rfl (Or.inl rfl)) pgs_nil)))
      (pss_one (ps_dput (hu_of hr) (pv 4) (pv 10) (pv 11) rfl)))))
      (pss_one (ps_set (i := 5) sc_law_late.nd rfl (Or.inl rfl) (pe_lst (pa_cons (pe_lst pa_nil) pa_nil))))) pss_nil)))))
      (pss_one (ps_ret (pe_tup (pa_cons (pv 4) (pa_cons (pv 5) pa_nil))))))), ?_⟩
    refine ⟨_, rfl, da, kvs, rfl, .inl eda, fun fd hfd => ?_⟩
    have S1 := FW.Stp.new (fp := []) (o := (.dK kvs)) ht hfd
    have e1 : L2.upd H fd (.dK kvs) fd = some (.dK kvs) := L2.upd_same
    generalize L2.upd H fd (.dK kvs) = H1 at *
    refine ⟨by show 0 ≤ sizeLine; decide, fun q hq => ?_⟩
    have S2 := FW.Stp.new (fp := []) (o := (.lst [])) S1.t hq
    have e2 : L2.upd H1 q (.lst []) q = some (.lst []) := L2.upd_same
    generalize L2.upd H1 q (.lst []) = H2 at *
    refine ⟨by show 1 ≤ sizeLine; decide, fun el hel => ?_⟩
    have nqe : q ≠ el := ne_of_none e2 hel
    have nfe : fd ≠ el := ne_of_none (S2.k _ _ e1 (by simp) fun _ z => by cases z) hel
    have S3 := FW.Stp.new (fp := []) (o := (.lst [V.ref q])) S2.t hel
    have e3 : L2.upd H2 el (.lst [V.ref q]) el = some (.lst [V.ref q]) := L2.upd_same
    generalize L2.upd H2 el (.lst [V.ref q]) = H3 at *
    have S12 := S1.trans S2
    have S03 := S12.trans S3
    have inv0 : LtInv K G [] H H3 fd el [q] ⟨ps, [[]]⟩ := ⟨S03, ⟨kvs, (S2.trans S3).k _ _ e1 (by simp) (fun _ z => by cases z), hkv.keep noT_nil S03.k⟩, e3, .cons ⟨[], S3.k _ _ e2 (by simp) (fun _ z => by cases z), .nil⟩ .nil, fr0_none hfd, S12.k.fr0 (by simp) (fr0_none hel), fun b hb => by rw [List.mem_singleton.mp hb]; exact S1.k.fr0 (by simp) (fr0_none hq), by simp, fun z => nqe (List.mem_singleton.mp z).symm, fun p hp => by simp at hp⟩
    have qR3 := sqT_ext S03.k.ext qR
    have el3 : H3 l = some (.lst sv) := S03.k _ _ el0 (by simp) fun _ z => by cases z
    have svl : sv.length = st.length := by rw [hsv.len, List.length_map]
    refine ⟨_, _, rfl, _, rfl, R, _, 0, _, rfl, rfl, qR3, rfl, _, rfl, _, rfl, l, _, rfl, SqL.of el3, fun sl hsl => ?_⟩
    have hcut : cutV sv none (some (mo : Int)) = sv.take mo := by
      unfold cutV
      rw [HT.sIx_none, HT.sIx_nat, svl, Nat.min_eq_left hmo, Nat.sub_zero, List.drop_zero]
    rw [hcut]
    have S4 := FW.Stp.new (fp := []) (o := (.lst (sv.take mo))) S03.t hsl
    have e4 : L2.upd H3 sl (.lst (sv.take mo)) sl = some (.lst (sv.take mo)) := L2.upd_same
    generalize L2.upd H3 sl (.lst (sv.take mo)) = H4 at *
    have nsl1 : sl ≠ el := fun z => by rw [z, e3] at hsl; cases hsl
    have nsl2 : sl ∉ [q] := fun z => by
      rw [List.mem_singleton.mp z] at hsl
      rw [S3.k _ _ e2 (by simp) fun _ z => by cases z] at hsl
      cases hsl
    have inv4 : LtInv K G [(sl, sv.take mo)] H H4 fd el [q] ⟨ps, [[]]⟩ := by
      have z := inv0.new S4
      exact ⟨z.s, z.w, z.l, z.p, z.ffd, z.fel, z.fas, z.nd, z.ne, fun p hp => by rw [List.mem_singleton.mp hp]; exact ⟨e4, nsl1, nsl2⟩⟩
    have hlt : (sv.take mo).length = mo := by rw [List.length_take, svl]; omega
    refine ⟨sl, _, rfl, SqL.of e4, ?_⟩
    have asl : ∀ {H' : Hp} {fd el : Addr} {as : List Addr} {a : La}, LtInv K G [(sl, sv.take mo)] H H' fd el as a → H' sl = some (.lst (sv.take mo)) := fun h => (h.pl (sl, sv.take mo) (List.mem_singleton.mpr rfl)).1
    refine for_it walk_enum (fun i σ H' => ∃ (el : Addr) (as : List Addr) (x6 x7 x8 x9 x10 x11 : Option V), σ = ltSt R da bd fd el mo x6 x7 x8 x9 x10 x11 ∧ LtInv K G [(sl, sv.take mo)] H H' fd el as (La.walk spv flv 0 ⟨ps, [[]]⟩ ((st.map (·.1)).take i)))
      ⟨el, [q], none, none, none, none, none, none, rfl, inv4⟩ (fun i σ H' _ ⟨_, _, _, _, _, _, _, _, _, h⟩ => SqL.of (asl h)) (fun i x σ H5 H6 hi h hy => ?_) (fun σ H5 h => ?_)
    · obtain ⟨el, as, x6, x7, x8, x9, x10, x11, rfl, inv⟩ := h
      obtain ⟨t, y1, y2, rfl, ht0, rfl, e1, e2⟩ := hy
      cases e1
      rw [hlt] at hi
      have hi' : i < st.length := by omega
      have e2' : (sv.take mo)[i]? = some y2 := e2
      rw [List.getElem?_take, if_pos hi] at e2'
      obtain ⟨dd, hdd, vd⟩ := hsv.at e2'
      rw [List.getElem?_map, List.getElem?_eq_getElem hi'] at hdd
      have edd : stD st[i] = dd := Option.some.inj hdd
      subst edd
      have S5 : Stp G [] H5 (upd H5 t (.tup [.int (i : Nat), y2])) := .new inv.s.t ht0
      have vd6 := (vd.ext inv.s.k).ext S5.k
      obtain ⟨sa, wv, av, rfl, qs, hwv, hav⟩ := st_open vd6
      have inv6 := inv.new S5
      have qt : SqT K (upd H5 t (.tup [.int (i : Nat), .ref sa])) t [.int (i : Nat), .ref sa] := .of upd_same
      generalize upd H5 t (.tup [.int (i : Nat), .ref sa]) = H6 at *
      refine ⟨t, _, rfl, qt, rfl, _, _, rfl, _, _, rfl, sa, _, rfl, qs, rfl, _, _, rfl, _, _, rfl, rfl, rfl, ?_⟩
      have hws : (st.map (·.1))[i]? = some st[i].1 := by rw [List.getElem?_map, List.getElem?_eq_getElem hi'] <;> rfl
      have hil : i ≤ (st.map (·.1)).length := by rw [List.length_map]; omega
      have fine := walk_fine spv flv (a := ⟨ps, [[]]⟩) rfl rfl hpi i hil
      have fineP := fine.put (w := st[i].1) fun m d e => hpi m d (by rw [← e]; exact List.mem_of_getElem? hws)
      rw [take_succ' hws, La.walk_snoc, List.length_take, Nat.min_eq_left hil, Nat.zero_add]
      generalize La.walk spv flv 0 ⟨ps, [[]]⟩ ((st.map (·.1)).take i) = a0 at *
      obtain ⟨b, tag, ts, rfl, qb, hput, hbar, hflu⟩ := wi_open2 hwv
      generalize st[i].1 = wi at *
      generalize av = av0 at *
      refine ⟨fun σ' H' => σ' = ltSt R da bd fd el mo (some (.int (i : Nat))) (some (.ref b)) (some av0) x9 x10 x11 ∧ LtInv K G [(sl, sv.take mo)] H H' fd el as (a0.put wi) ∧ SqT K H' b (.str tag :: ts), ?_, ?_⟩
      · refine ⟨_, rfl, b, _, 0, _, rfl, rfl, qb, at0, rfl, _, rfl, ?_⟩
        rcases hput with ⟨n, d, u, rfl, rfl, rfl, hu⟩ | ⟨hd, hp⟩
        · refine iteT ?_
          obtain ⟨as0, bl, has, vs, ebl, hvl⟩ := inv6.last fine.ne
          have hlast : atI (as.map V.ref) (-1) = some (.ref bl) := by
            rw [has, List.map_append]
            exact L2.atI_last _ _
          have hvs : vs.length < 100000 := by
            have := fine.pl _ (last_mem fine.ne)
            omega
          refine ⟨_, rfl, _, rfl, el, _, (-1), .ref bl, rfl, rfl, SqL.of inv6.l, hlast, .inl ⟨rfl, _, SqL.of ebl⟩, ?_⟩
          refine ⟨_, rfl, b, _, 1, _, rfl, rfl, qb, at1, _, rfl, b, _, 2, _, rfl, rfl, qb, at2, by show 2 ≤ sizeLine; decide, fun p hp => ?_⟩
          have S7 := FW.Stp.new (fp := []) (o := (.tup [V.str n, u])) inv6.s.t hp
          have e7 : L2.upd H6 p (.tup [V.str n, u]) p = some (.tup [V.str n, u]) := L2.upd_same
          generalize L2.upd H6 p (.tup [V.str n, u]) = H7 at *
          have inv7 := inv6.new S7
          have ebl7 := S7.k _ _ ebl (by simp) fun _ z => by cases z
          refine ⟨bl, vs, _, rfl, rfl, ebl7, Nat.lt_of_lt_of_le hvs (by decide), ?_⟩
          have inv8 := inv7.push fine.ne has ebl7 (v := .ref p) (n := n) (d := d) (.tup (.of e7) (.cons ⟨.str _, rfl⟩ (.cons (hu.ext S7.k) .nil)))
          refine ⟨rfl, inv8, ?_⟩
          exact keep_sqT (noT_lst ebl7) (Keep.put (by simp)) (sqT_ext S7.k.ext qb)
        · rw [hd]
          refine iteF ?_
          rw [hp]
          exact ⟨rfl, inv6, qb⟩
      · rintro σ7 H7 ⟨rfl, inv7, qb7⟩
        refine ⟨fun σ' H' => ∃ as, σ' = ltSt R da bd fd el mo (some (.int (i : Nat))) (some (.ref b)) (some av0) x9 x10 x11 ∧ LtInv K G [(sl, sv.take mo)] H H' fd el as ((a0.put wi).bar (wi.isBar && !inV (.int (i : Nat)) spv)) ∧ SqT K H' b (.str tag :: ts), ?_, ?_⟩
        · refine ⟨_, rfl, b, _, 0, _, rfl, rfl, qb7, at0, rfl, _, rfl, ?_⟩
          rw [hbar]
          have qbd7 := sqT_ext inv7.s.k.ext qbd
          have qsp7 := sqT_ext inv7.s.k.ext qsp
          cases hb : wi.isBar with
          | false =>
            refine iteF ?_
            exact ⟨_, rfl, inv7, qb7⟩
          | true =>
            refine iteT ?_
            refine ⟨_, rfl, _, rfl, bd, _, 0, _, rfl, rfl, qbd7, at0, spa, spv, rfl, .inr qsp7, rfl, fsp, _, rfl, ?_⟩
            cases hin : inV (.int (i : Nat)) spv with
            | true =>
              refine iteF ?_
              exact ⟨_, rfl, inv7, qb7⟩
            | false =>
              refine iteT ?_
              refine ⟨_, rfl, .inl ⟨rfl, _, SqL.of inv7.l⟩, by show 0 ≤ sizeLine; decide, fun q hq => ?_⟩
              have has := inv7.len
              have hel := fineP.el
              refine ⟨el, _, _, rfl, rfl, (by rw [upd_ne (ne_of_none inv7.l hq)]; exact inv7.l), (by rw [List.length_map, has]; exact Nat.lt_of_lt_of_le (show (a0.put wi).ep.length < 100000 by omega) (by decide)), ?_⟩
              have inv8 := inv7.more hq
              exact ⟨_, rfl, inv8, keep_sqT (noT_lst (by rw [upd_ne (ne_of_none inv7.l hq)]; exact inv7.l)) (Keep.put (by simp)) (sqT_ext (Keep.new (fp := []) hq).ext qb7)⟩
        · rintro σ8 H8 ⟨as8, rfl, inv8, qb8⟩
          refine ⟨fun bb H' => bb = ((wi.isFlu && !inV (.int (i : Nat)) spv) || inV (.int (i : Nat)) flv) ∧ H' = H8, ?_, ?_⟩
          · have qbd8 := sqT_ext inv8.s.k.ext qbd
            have qsp8 := sqT_ext inv8.s.k.ext qsp
            have qfl8 := sqT_ext inv8.s.k.ext qfl
            refine ⟨_, rfl, b, _, 0, _, rfl, rfl, qb8, at0, rfl, _, rfl, ?_⟩
            rw [hflu]
            cases wi.isFlu with
            | false =>
              refine iteF (iteF ?_)
              exact ⟨_, rfl, _, rfl, bd, _, 1, _, rfl, rfl, qbd8, at1, fla, flv, rfl, .inr qfl8, rfl, ffl, _, rfl, rfl, rfl⟩
            | true =>
              refine iteT ?_
              refine ⟨_, rfl, _, rfl, bd, _, 0, _, rfl, rfl, qbd8, at0, spa, spv, rfl, .inr qsp8, rfl, fsp, _, rfl, ?_⟩
              cases hin : inV (.int (i : Nat)) spv with
              | false => exact iteT ⟨rfl, rfl⟩
              | true =>
                refine iteF ?_
                exact ⟨_, rfl, _, rfl, bd, _, 1, _, rfl, rfl, qbd8, at1, fla, flv, rfl, .inr qfl8, rfl, ffl, _, rfl, rfl, rfl⟩
          · rintro bb H' ⟨rfl, rfl⟩
            have hst2 : La.step spv flv i a0 wi = ((a0.put wi).bar (wi.isBar && !inV (.int (i : Nat)) spv)).flu ((wi.isFlu && !inV (.int (i : Nat)) spv) || inV (.int (i : Nat)) flv) := rfl
            rw [hst2]
            have fineB := fineP.bar (wi.isBar && !inV (.int (i : Nat)) spv)
            generalize (a0.put wi).bar (wi.isBar && !inV (.int (i : Nat)) spv) = a1 at *
            cases hcond : ((wi.isFlu && !inV (.int (i : Nat)) spv) || inV (.int (i : Nat)) flv) with
            | false => exact iteF ⟨el, as8, _, _, _, _, _, _, rfl, inv8⟩
            | true =>
              refine iteT ?_
              refine ⟨_, rfl, el, rfl, ⟨_, SqL.of inv8.l⟩, ?_⟩
              refine for_it (walk_list (xs := as8.map V.ref)) (fun j σ H' => ∃ (x9 x10 x11 : Option V), σ = ltSt R da bd fd el mo (some (.int (i : Nat))) (some (.ref b)) (some av0) x9 x10 x11 ∧ LtInv K G [(sl, sv.take mo)] H H' fd el as8 ⟨pgPuts a1.fd (a1.ep.take j).flatten, a1.ep⟩)
                ⟨x9, x10, x11, rfl, inv8⟩ (fun j σ H' _ ⟨_, _, _, _, h⟩ => SqL.of h.l) (fun j y σ H9 H10 hj h hy => ?_) (fun σ H9 h => ?_)
              · obtain ⟨y9, y10, y11, rfl, inv9⟩ := h
                obtain ⟨rfl, hy⟩ := hy
                rw [List.getElem?_map] at hy
                obtain ⟨bj, hbj, rfl⟩ := Option.map_eq_some_iff.mp hy
                obtain ⟨ej, hej, vs, ebj, hvs⟩ := Paired.at1 inv9.p hbj
                have hejm : ej ∈ a1.ep := List.mem_of_getElem? hej
                have hvl : vs.length = ej.length := by rw [hvs.len, List.length_map]
                rw [take_succ' hej, List.flatten_append, pgPuts_app]
                have hkeys : (pgPuts a1.fd (a1.ep.take j).flatten).map (·.1) = ps.map (·.1) := by rw [pgPuts_keys, fineB.kf]
                generalize pgPuts a1.fd (a1.ep.take j).flatten = fd1 at *
                have hflat : [ej].flatten = ej := by simp
                rw [hflat]
                refine ⟨_, rfl, bj, rfl, ⟨_, SqL.of ebj⟩, ?_⟩
                refine for_it (walk_list (xs := vs)) (fun m σ H' => ∃ (x10 x11 : Option V), σ = ltSt R da bd fd el mo (some (.int (i : Nat))) (some (.ref b)) (some av0) (some (.ref bj)) x10 x11 ∧ H' bj = some (.lst vs) ∧ Vds K H' vs (ej.map fun p => .tuple [.str p.1, p.2]) ∧ LtInv K G [(sl, sv.take mo)] H H' fd el as8 ⟨pgPuts fd1 (ej.take m), a1.ep⟩)
                  ⟨y10, y11, rfl, ebj, hvs, inv9⟩ (fun m σ H' _ ⟨_, _, _, e, _⟩ => SqL.of e) (fun m z σ H11 H12 hm h hz => ?_) (fun σ H11 h => ?_)
                · obtain ⟨z10, z11, rfl, ebj11, hvs11, inv11⟩ := h
                  obtain ⟨rfl, hz⟩ := hz
                  obtain ⟨dz, hdz, vdz⟩ := hvs11.at hz
                  rw [List.getElem?_map] at hdz
                  obtain ⟨pz, hpz, rfl⟩ := Option.map_eq_some_iff.mp hdz
                  obtain ⟨za, zu, rfl, qz, hzu⟩ := vdz.pair
                  obtain ⟨kv, efd, hkv⟩ := inv11.w
                  have hkl : kv.length < 1000 := by
                    have e1 : kv.length = (pgPuts fd1 (ej.take m)).length := hkv.len
                    have e2 := congrArg List.length ((pgPuts_keys (ej.take m) fd1).trans hkeys)
                    rw [List.length_map, List.length_map] at e2
                    omega
                  refine ⟨za, _, rfl, qz, rfl, _, _, rfl, _, _, rfl, rfl, ?_⟩
                  refine ⟨_, rfl, _, rfl, _, rfl, fd, _, rfl, DPut.k (k := Sum.inr pz.1) efd (Nat.lt_of_lt_of_le hkl (by decide)), ?_⟩
                  obtain ⟨d0, hd0⟩ := pgGet_in (n := pz.1) (ps := pgPuts fd1 (ej.take m)) (by rw [pgPuts_keys, hkeys]; exact fineB.nm ej hejm pz (List.mem_of_getElem? hpz))
                  have inv12 := inv11.setFd efd hd0 hzu
                  have nb : bj ≠ fd := fun z => by rw [z, efd] at ebj11; cases ebj11
                  have nt : NoT [fd] H12 := fun b hb => by
                    rw [List.mem_singleton.mp hb, efd]
                    exact ⟨(fun _ z => by cases z), fun _ _ z => by cases z⟩
                  rw [take_succ' hpz, pgPuts_snoc]
                  exact ⟨_, _, rfl, (by rw [upd_ne nb]; exact ebj11), hvs11.keep nt (Keep.put (by simp)), inv12⟩
                · obtain ⟨z10, z11, rfl, ebj11, hvs11, inv11⟩ := h
                  have et : ej.take vs.length = ej := List.take_of_length_le (by rw [hvl]; exact Nat.le_refl _)
                  rw [et] at inv11
                  exact ⟨_, _, _, rfl, inv11⟩
              · obtain ⟨y9, y10, y11, rfl, inv9⟩ := h
                have et : a1.ep.take as8.length = a1.ep := List.take_of_length_le (by rw [inv9.len]; exact Nat.le_refl _)
                rw [List.length_map, et] at inv9
                refine ⟨by show 0 ≤ sizeLine; decide, fun q hq => ⟨by show 1 ≤ sizeLine; decide, fun r hr => ?_⟩⟩
                exact ⟨r, [q], _, _, _, _, _, _, rfl, inv9.reset hq hr⟩
    · obtain ⟨el, as, x6, x7, x8, x9, x10, x11, rfl, inv⟩ := h
      rw [hlt] at inv
      refine ⟨_, rfl, _, rfl, by show 2 ≤ sizeLine; decide, fun p hp => ?_⟩
      have inv2 := inv.new (Stp.new (o := .tup [V.ref fd, V.ref el]) inv.s.t hp)
      exact k p _ fd el as inv2.s (.of upd_same) ⟨inv2.s, inv2.w, inv2.l, inv2.p, inv2.ffd, inv2.fel, inv2.fas, inv2.nd, inv2.ne, fun p hp => by simp at hp⟩
end
end K10

namespace K10
open PySem PySem.Spec PyProof.Rows L2 XV XL UU CC FW GX GxR
section
variable {P : Program} {w : World} {K : PySem.W.Frag} {mg : Str → Option Value} {base : Heap} {f : Addr} {fd : FuncData} {G : Tb}
/-- the law's late puts stand at lt: the disk, the epochs -/
def LateAt (K : PySem.W.Frag) (H : Hp) (lt : Addr) (a : La) : Prop := ∃ (fd el : Addr) (as : List Addr) (kvs : List (Key × V)), SqT K H lt [.ref fd, .ref el] ∧ H fd = some (.dK kvs) ∧ KvD K H kvs a.fd ∧ H el = some (.lst (as.map V.ref)) ∧ Paired (EpAt K H) as a.ep
theorem LateAt.ext {H H' : Hp} {lt : Addr} {a : La} (h : LateAt K H lt a) (k : Keep [] H H') : LateAt K H' lt a := by
  obtain ⟨fd, el, as, kvs, q, e1, h1, e2, h2⟩ := h
  exact ⟨fd, el, as, kvs, sqT_ext k.ext q, k _ _ e1 (by simp) (fun _ z => by cases z), h1.keep noT_nil k, k _ _ e2 (by simp) (fun _ z => by cases z), Paired.mapP h2 fun _ _ z => z.keep noT_nil (by simp) k⟩
theorem sc_law_worths : FnScope ["_law_late_here", "_law_page", "_law_found", "_law_epoch", "_law_other", "_law_value"] ["_law_late_here", "_law_page"] (defScope s_law_worths) := ⟨rfl, rfl, rfl, by decide +kernel, rfl, by decide +kernel, by decide +kernel⟩
def spWorths (K : PySem.W.Frag) (G : Tb) : Sp := fun vs H Q _ => ∃ (lt : Addr) (nm : Str) (a : La) (d0 : PyData), vs = [.ref lt, .str nm] ∧ LateAt K H lt a ∧ pgGet a.fd nm = some d0 ∧ LaSmall a ∧ Tbs G H ∧
  ∀ q us H', Stp G [] H H' → H' q = some (.lst us) → Vds K H' us (d0 :: restV nm a.ep) → Fr0 H q → Q (.ref q) H'
theorem rest_take {nm : Str} {eps : List Pgs} {i : Nat} {e : Pgs} (h : eps[i]? = some e) : restV nm (eps.take (i + 1)) = restV nm (eps.take i) ++ pageVals nm e := by
  unfold restV
  rw [take_succ' h, List.flatMap_append, List.flatMap_singleton]
theorem rest_len {nm : Str} : ∀ {eps : List Pgs}, (∀ e ∈ eps, e.length < 1000) → (restV nm eps).length ≤ 1000 * eps.length
  | [], _ => Nat.le_refl _
  | e :: r, h => by
    have ih := rest_len (nm := nm) (eps := r) fun x hx => h x (List.mem_cons_of_mem _ hx)
    have h1 := h e (by simp)
    have h2 : (pageVals nm e).length ≤ e.length := by
      unfold pageVals
      rw [List.length_map]
      exact List.length_filter_le _ _
    show ((e :: r).flatMap (pageVals nm)).length ≤ _
    rw [List.flatMap_cons, List.length_append, List.length_cons]
    have ih' : (r.flatMap (pageVals nm)).length ≤ 1000 * r.length := ih
    omega
theorem ok_worths (F : Fn K "_law_worths" s_law_worths f fd) (T : Tx K mg) : FnOk P w K mg base (L2.CX P w) 1 f fd ["_law_late_here", "_law_page"] (spWorths K G) := by
  refine F.ok sc_law_worths (fun vs H Q E h => ?_) (fun cdv A outer s H vs Q E hr h => ?_)
  · obtain ⟨_, _, _, _, rfl, _⟩ := h
    rfl
  · obtain ⟨lt, nm, a, d0, rfl, hlt, hg, sm, ht, k⟩ := h
    refine ⟨_, PSs.nox (pss_cons (ps_set (i := 2) sc_law_worths.nd rfl (Or.inl rfl) (pe_lst (pa_cons (pe_dget (hu_of hr) (pe_ix ix_tup (pv 0) pe_int (fun _ _ => rfl)) (pv 1) (fun _ _ => rfl)) pa_nil)))
      (pss_cons (ps_for PassesOwn.never rfl (pi_list (pe_ix ix_tup (pv 0) pe_int (fun _ _ => rfl))) (pg_name (i := 3) sc_law_worths.nd rfl (Or.inl rfl))
      (pss_one (ps_expr (pe_bm PySem.F.plainAttrs_list PySem.F.slot_list_extend PySem.F.type_list_extend mt_extend (pv 2) (pa_cons (pe_lc (g := (gTup K 2 (gCons (gName 4) (gCons (gName 5) gNil)))) (own := [("_law_other", 4), ("_law_value", 5)]) (tt := _) rfl sc_law_worths.nd (pi_list (pv 3)) (blkOk_by (N := ["_law_late_here", "_law_page", "_law_found", "_law_epoch", "_law_other", "_law_value"]) (sc := defScope s_law_worths) (by decide +kernel)) (fun _ _ _ _ _ => (pg_tup rfl (pgs_cons (pg_name (i := 4) sc_law_worths.nd rfl (Or.inl rfl) (hf := .inr rfl)) (pgs_cons (pg_name (i := 5) sc_law_worths.nd rfl (Or.inl rfl) (hf := .inr rfl)) pgs_nil)))) (fun _ _ _ _ _ => (pts_one (pt_cmpR op_eq (pv 4) (pv 1) (nomark _)))) (fun _ _ _ _ _ => (pv 5))) pa_nil)))))
      (pss_one (ps_ret (pv 2))))), ?_⟩
    obtain ⟨fdd, el, as, kvs, qlt, efd, hkv, eel, heps⟩ := id hlt
    obtain ⟨u, hu, vu⟩ := (kvD_get (n := nm) hkv).1 d0 hg
    refine ⟨_, rfl, lt, _, 0, _, rfl, rfl, qlt, at0, _, rfl, fdd, u, rfl, .inl ⟨kvs, .inr nm, .inl efd, rfl, hu.symm⟩, by show 1 ≤ sizeLine; decide, fun l hl => ?_⟩
    have S1 := FW.Stp.new (fp := []) (o := (.lst [u])) ht hl
    have e1 : L2.upd H l (.lst [u]) l = some (.lst [u]) := L2.upd_same
    generalize L2.upd H l (.lst [u]) = H1 at *
    have hal : as.length = a.ep.length := Paired.length heps
    have eel1 := S1.k _ _ eel (by simp) fun _ z => by cases z
    refine ⟨_, rfl, lt, _, 1, _, rfl, rfl, sqT_ext S1.k.ext qlt, at1, el, rfl, ⟨_, SqL.of eel1⟩, ?_⟩
    have hsn := sm.n
    refine for_it (walk_list (xs := as.map V.ref)) (fun i σ H' => ∃ (x3 x4 x5 : Option V) (acc : List V), σ = [some (.ref lt), some (.str nm), some (.ref l), x3, x4, x5] ∧ Stp G [] H H' ∧ H' l = some (.lst acc) ∧ Vds K H' acc (d0 :: restV nm (a.ep.take i)))
      ⟨_, _, _, _, rfl, S1, e1, .cons (vu.ext S1.k) .nil⟩ (fun i σ H' _ ⟨_, _, _, _, _, S, _⟩ => SqL.of (S.k _ _ eel (by simp) fun _ z => by cases z)) (fun i x σ H3 H4 hi h hy => ?_) (fun σ H' h => ?_)
    · obtain ⟨x3, x4, x5, acc, rfl, S3, eacc, hacc⟩ := h
      obtain ⟨rfl, hx⟩ := hy
      rw [List.getElem?_map] at hx
      obtain ⟨b, hb, rfl⟩ := Option.map_eq_some_iff.mp hx
      rw [List.length_map] at hi
      have hi' : i < a.ep.length := by omega
      have hei := List.getElem?_eq_getElem hi'
      have hel := sm.e _ (List.getElem_mem hi')
      obtain ⟨us, eb, hus⟩ : EpAt K H4 b a.ep[i] := (Paired.get heps hb hei).keep noT_nil (by simp) S3.k
      have hrt := rest_take (nm := nm) hei
      have hrl := rest_len (nm := nm) (eps := a.ep.take i) fun e he => sm.e e (List.mem_of_mem_take he)
      rw [List.length_take] at hrl
      generalize a.ep[i] = ep at *
      have hul := hus.len
      rw [List.length_map] at hul
      have hal2 := hacc.len
      rw [List.length_cons] at hal2
      refine ⟨_, rfl, .inl ⟨rfl, _, SqL.of eacc⟩, _, rfl, b, rfl, ⟨_, SqL.of eb⟩, fun D hD => ?_⟩
      obtain ⟨HD, hHD⟩ : ∃ X, X = upd H4 D (.lst []) := ⟨_, rfl⟩
      have SD : Stp G [] H4 HD := by rw [hHD]; exact .new S3.t hD
      have eD : HD D = some (.lst []) := by rw [hHD]; exact upd_same
      have ntD0 := noT_lst eD
      have nbD : b ≠ D := ne_of_none eb hD
      refine lc_it (walk_list (xs := us)) (fun j H' => Stp G [D] HD H' ∧ ∃ ac, H' D = some (.lst ac) ∧ ac.length ≤ j ∧ Vds K H' ac (pageVals nm (ep.take j)))
        (by rw [← hHD]; exact ⟨.refl SD.t, [], eD, Nat.le_refl _, .nil⟩) (fun j H' _ h => SqL.of (h.1.k _ _ (SD.k _ _ eb (by simp) fun _ z => by cases z) (by simp; exact nbD) fun _ z => by cases z)) (fun j x H5 H6 hj h hyy => ?_) (fun H5 h => ?_)
      · obtain ⟨S5, ac, eac, hacl, hac⟩ := h
        obtain ⟨rfl, hx2⟩ := hyy
        obtain ⟨dd, hdd, vd⟩ := hus.at hx2
        have hj' : j < ep.length := by omega
        have hpj := List.getElem?_eq_getElem hj'
        rw [List.getElem?_map, hpj] at hdd
        have hpt := pageVals_take (nm := nm) hpj
        generalize ep[j] = pr at *
        obtain rfl : PyData.tuple [.str pr.1, pr.2] = dd := Option.some.inj hdd
        obtain ⟨pa, u2, rfl, qp, hu2⟩ := ((vd.ext SD.k).keep ntD0 S5.k).pair
        refine ⟨pa, _, rfl, qp, rfl, _, _, rfl, _, _, rfl, rfl, rfl, ?_⟩
        refine ⟨_, rfl, _, rfl, rfl, _, rfl, ?_⟩
        by_cases e : pr.1 = nm
        · rw [show decide (V.str pr.1 = V.str nm) = true from decide_eq_true (by rw [e])]
          rw [if_pos e] at hpt
          refine iteT ?_
          refine ⟨_, rfl, ac, eac, Nat.lt_of_lt_of_le (show ac.length < 1000 by omega) (by decide), ?_⟩
          have S7 : Stp G [D] H6 (upd H6 D (.lst (ac ++ [u2]))) := .put S5.t (by simp) eac notc_lst
          refine ⟨S5.trans S7, _, upd_same, by rw [List.length_append, List.length_singleton]; omega, ?_⟩
          rw [hpt]
          exact Vds.keep (noT_lst eac) S7.k (hac.snoc hu2)
        · rw [show decide (V.str pr.1 = V.str nm) = false from decide_eq_false fun z => e (V.str.inj z)]
          rw [if_neg e, List.append_nil] at hpt
          refine iteF ⟨S5, ac, eac, by omega, ?_⟩
          rw [hpt]
          exact hac
      · obtain ⟨S5, ac, eac, hacl, hac⟩ := h
        rw [List.take_of_length_le (by omega)] at hac
        have S45 : Stp G [] H4 H5 := Stp.hide SD.k S5 (fr0_none hD)
        have eacc5 := S45.k _ _ eacc (by simp) fun _ z => by cases z
        refine ⟨l, D, acc, ac, rfl, rfl, eacc5, eac, Nat.le_of_lt (Nat.lt_of_lt_of_le (show acc.length + ac.length < 10000000 by omega) (by decide)), ?_⟩
        have S6 : Stp G [l] H5 (upd H5 l (.lst (acc ++ ac))) := .put S45.t (by simp) eacc5 notc_lst
        refine ⟨_, _, _, _, rfl, Stp.fresh (S3.trans S45).k S6 (fun q hq => by rw [List.mem_singleton.mp hq]; exact fr0_none hl), upd_same, ?_⟩
        rw [hrt]
        exact Vds.keep (noT_lst eacc5) S6.k (vds_app (hacc.ext S45.k) hac)
    · obtain ⟨x3, x4, x5, acc, rfl, S3, eacc, hacc⟩ := h
      rw [List.take_of_length_le (by rw [List.length_map]; omega)] at hacc
      exact ⟨_, rfl, k l acc H' S3 eacc hacc (fr0_none hl)⟩
theorem sc_law_pairs_of : FnScope ["_law_late_here", "_law_page", "_law_is_torn", "_law_values", "_law_found", "_law_n", "_law_j"] ["_law_late_here", "_law_page", "_law_is_torn"] (defScope s_law_pairs_of) := ⟨rfl, rfl, rfl, by decide +kernel, rfl, by decide +kernel, by decide +kernel⟩
def spPairsOf (K : PySem.W.Frag) (G : Tb) : Sp := fun vs H Q _ => ∃ (lt : Addr) (nm : Str) (t : Bool) (a : La) (d0 : PyData), vs = [.ref lt, .str nm, .bl t] ∧ LateAt K H lt a ∧ pgGet a.fd nm = some d0 ∧ LaSmall a ∧ (∀ d ∈ d0 :: restV nm a.ep, Sml 4 d) ∧ (pairsFrom t 0 d0 (restV nm a.ep)).length < 1000000 ∧ Tbs G H ∧
  ∀ q us H', Stp G [] H H' → H' q = some (.lst us) → Vds K H' us ((pairsFrom t 0 d0 (restV nm a.ep)).map kpD) → Fr0 H q → Q (.ref q) H'
theorem ok_pairs_of (F : Fn K "_law_pairs_of" s_law_pairs_of f fd) (T : Tx K mg) (U_law_worths : Use P w K mg base (L2.CX P w) "_law_worths" 1 ["_law_late_here", "_law_page"] (spWorths K G)) : FnOk P w K mg base (L2.CX P w) 2 f fd ["_law_late_here", "_law_page", "_law_is_torn"] (spPairsOf K G) := by
  refine F.ok sc_law_pairs_of (fun vs H Q E h => ?_) (fun cdv A outer s H vs Q E hr h => ?_)
  · obtain ⟨_, _, _, _, _, rfl, _⟩ := h
    rfl
  · obtain ⟨lt, nm, t, a, d0, rfl, hlt, hg, sm, hsm, hbig, ht, k⟩ := h
    refine ⟨_, PSs.nox (pss_cons (ps_par (i := 3) (j := 4) (by rfl) sc_law_pairs_of.nd rfl rfl (by decide) rfl rfl (pa_cons (pe_useL U_law_worths hr (by first | decide | omega) (by rfl) (pa_cons (pv 0) (pa_cons (pv 1) pa_nil))) (pa_cons (pe_lst pa_nil) pa_nil)) (by rfl))
      (pss_cons (ps_for PassesOwn.never rfl (pi_range1 (by rfl) T.n_range (pa_cons (pe_callB call_len (by rfl) T.n_len (by decide +kernel) (pa_cons (pv 3) pa_nil)) pa_nil)) (pg_name (i := 5) sc_law_pairs_of.nd rfl (Or.inr rfl))
      (pss_cons (ps_expr (pe_bm PySem.F.plainAttrs_list PySem.F.slot_list_append PySem.F.type_list_append mt_append (pv 4) (pa_cons (pe_tup (pa_cons (pv 5) (pa_cons pe_int pa_nil))) pa_nil)))
      (pss_one (ps_if (PW.pt (pw_and (pt_val (pv 2)) (pw_and (pt_cmpR op_lt (pe_op op_add (pv 5) pe_int) (pe_callB call_len (by rfl) T.n_len (by decide +kernel) (pa_cons (pv 3) pa_nil)) (nomark _)) (pw_and (pt_val (pe_callB call_isD (by rfl) T.n_isinstance (by decide +kernel) (pa_cons (pe_ix ix_list (pv 3) (pv 5) (fun _ _ => rfl)) (pa_cons (pe_bltn (v := .ty "tuple") (by rfl) T.n_tuple (by decide +kernel) rfl) pa_nil)))) (pw_and1 (pt_val (pe_callB call_isD (by rfl) T.n_isinstance (by decide +kernel) (pa_cons (pe_ix ix_list (pv 3) (pe_op op_add (pv 5) pe_int) (fun _ _ => rfl)) (pa_cons (pe_bltn (v := .ty "tuple") (by rfl) T.n_tuple (by decide +kernel) rfl) pa_nil))))))))) (pss_one (ps_if (pt_cmpR op_eq (pe_callB call_len (by rfl) T.n_len (by decide +kernel) (pa_cons (pe_ix ix_list (pv 3) (pv 5) (fun _ _ => rfl)) pa_nil)) (pe_callB call_len (by rfl) T.n_len (by decide +kernel) (pa_cons (pe_ix ix_list (pv 3) (pe_op op_add (pv 5) pe_int) (fun _ _ => rfl)) pa_nil)) (nomark _)) (pss_one (ps_expr (pe_bm PySem.F.plainAttrs_list PySem.F.slot_list_extend PySem.F.type_list_extend mt_extend (pv 4) (pa_cons (pe_lc (own := [("_law_j", 6)]) (tt := tYes) rfl sc_law_pairs_of.nd (pi_range2 (by rfl) T.n_range (pa_cons pe_int (pa_cons (pe_callB call_len (by rfl) T.n_len (by decide +kernel) (pa_cons (pe_ix ix_list (pv 3) (pv 5) (fun _ _ => rfl)) pa_nil)) pa_nil))) (blkOk_by (N := ["_law_late_here", "_law_page", "_law_is_torn", "_law_values", "_law_found", "_law_n", "_law_j"]) (sc := defScope s_law_pairs_of) (by decide +kernel)) (fun _ _ _ _ _ => (pg_name (i := 6) sc_law_pairs_of.nd rfl (Or.inl rfl) (hf := .inr rfl))) (fun _ _ _ _ _ => pts_nil) (fun _ _ _ _ _ => (pe_tup (pa_cons (pv 5) (pa_cons (pv 6) pa_nil))))) pa_nil)))) pss_nil)) pss_nil))))
      (pss_one (ps_ret (pv 4))))), ?_⟩
    refine ⟨_, rfl, _, rfl, lt, nm, a, d0, rfl, hlt, hg, sm, ht, fun vl us H1 S1 evl hus fvl => ?_⟩
    generalize hds : restV nm a.ep = ds at *
    refine ⟨by show 0 ≤ sizeLine; decide, fun l hl => ?_⟩
    have S2 := FW.Stp.new (fp := []) (o := (.lst [])) S1.t hl
    have e2 : L2.upd H1 l (.lst []) l = some (.lst []) := L2.upd_same
    generalize L2.upd H1 l (.lst []) = H2 at *
    have S02 := S1.trans S2
    have evl2 := S2.k _ _ evl (by simp) fun _ z => by cases z
    have hul := hus.len
    rw [List.length_cons] at hul
    have fl : Fr0 H l := S1.k.fr0 (by simp) (fr0_none hl)
    have nvl : vl ≠ l := ne_of_none evl hl
    have hdl : ds.length < 1000000 := by
      have := pairs_ge t ds 0 d0
      omega
    refine ⟨_, _, rfl, ?_⟩
    refine ⟨_, rfl, _, _, rfl, .inl ⟨_, SqL.of evl2, rfl⟩, (us.length : Nat), rfl, by omega, by omega, ?_⟩
    refine for_range (lo := 0) (n := us.length) (fun i σ H' => ∃ (x5 x6 : Option V) (acc : List V), σ = [some (.ref lt), some (.str nm), some (.bl t), some (.ref vl), some (.ref l), x5, x6] ∧ Stp G [l] H2 H' ∧ H' l = some (.lst acc) ∧ Vds K H' acc ((prefP t d0 ds i).map kpD))
      ⟨_, _, [], rfl, .refl S2.t, e2, .nil⟩ (fun i σ H3 hi h => ?_) (fun σ H3 h => ?_)
    · obtain ⟨x5, x6, acc, rfl, S3, eacc, hacc⟩ := h
      have hi' : i ≤ ds.length := by omega
      have hpl := pref_len (t := t) (v := d0) (ds := ds) (i := i) (by omega)
      have hpl1 := pref_len (t := t) (v := d0) (ds := ds) (i := i + 1) (by omega)
      have hal := hacc.len
      rw [List.length_map] at hal
      refine ⟨_, rfl, .inl ⟨rfl, _, SqL.of eacc⟩, _, rfl, by show 2 ≤ sizeLine; decide, fun p hp => ?_⟩
      have S4 := FW.Stp.new (fp := []) (o := (.tup [V.int (0 + (i : Nat)), V.int 0])) S3.t hp
      have e4 : L2.upd H3 p (.tup [V.int (0 + (i : Nat)), V.int 0]) p = some (.tup [V.int (0 + (i : Nat)), V.int 0]) := L2.upd_same
      generalize L2.upd H3 p (.tup [V.int (0 + (i : Nat)), V.int 0]) = H4 at *
      have eacc4 := S4.k _ _ eacc (by simp) fun _ z => by cases z
      refine ⟨l, acc, _, rfl, rfl, eacc4, Nat.lt_of_lt_of_le (show acc.length < 10000000 by omega) (by decide), ?_⟩
      have S5 : Stp G [l] H4 (upd H4 l (.lst (acc ++ [V.ref p]))) := .put S4.t (by simp) eacc4 notc_lst
      have e5 : upd H4 l (.lst (acc ++ [V.ref p])) l = some (.lst (acc ++ [V.ref p])) := upd_same
      have v5 : Vds K (upd H4 l (.lst (acc ++ [V.ref p]))) (acc ++ [V.ref p]) ((pairsFrom t 0 d0 (ds.take i)).map kpD) := by
        rw [← pref_next hi', List.map_append]
        refine Vds.keep (noT_lst eacc4) S5.k ((hacc.ext S4.k).snoc (.tup (.of e4) (.cons ?_ (.cons ⟨.int _, rfl⟩ .nil))))
        rw [Int.zero_add]
        exact ⟨.int _, rfl⟩
      generalize upd H4 l (.lst (acc ++ [V.ref p])) = H5 at *
      have S25 := S3.trans (S4.up.trans S5)
      have ntl2 := noT_lst e2
      have evl5 := S25.k _ _ evl2 (by simp; exact nvl) fun _ z => by cases z
      have hus5 := (hus.ext S2.k).keep ntl2 S25.k
      have fin : ∀ {H' : Hp} {acc' : List V} {x6' : Option V}, Stp G [l] H5 H' → H' l = some (.lst acc') → Vds K H' acc' ((prefP t d0 ds (i + 1)).map kpD) → ∃ (y5 y6 : Option V) (ac : List V), [some (.ref lt), some (.str nm), some (.bl t), some (.ref vl), some (.ref l), some (.int (0 + (i : Nat))), x6'] = [some (.ref lt), some (.str nm), some (.bl t), some (.ref vl), some (.ref l), y5, y6] ∧ Stp G [l] H2 H' ∧ H' l = some (.lst ac) ∧ Vds K H' ac ((prefP t d0 ds (i + 1)).map kpD) := fun S e v => ⟨_, _, _, rfl, S25.trans S, e, v⟩
      have none' : tornAt t d0 ds i = [] → Vds K H5 (acc ++ [V.ref p]) ((prefP t d0 ds (i + 1)).map kpD) := fun e => by
        rw [pref_succ, e, List.append_nil]
        exact v5
      refine ⟨_, rfl, t, rfl, ?_⟩
      cases ht' : t with
      | false =>
        subst ht'
        exact iteF (fin (.refl S5.t) e5 (none' tornAt_false))
      | true =>
        subst ht'
        refine iteT ?_
        refine ⟨_, rfl, _, _, rfl, rfl, _, rfl, _, _, rfl, .inl ⟨_, SqL.of evl5, rfl⟩, _, _, rfl, rfl, _, rfl, ?_⟩
        by_cases hlt2 : i < ds.length
        · rw [show decide ((0 + (i : Int)) + 1 < (us.length : Nat)) = true from decide_eq_true (by omega)]
          refine iteT ?_
          have hdi := List.getElem?_eq_getElem hlt2
          have hvi := val_at (v := d0) (ds := ds) hi'
          have hvj : (d0 :: ds)[i + 1]? = some ds[i] := by rw [List.getElem?_cons_succ, hdi]
          generalize ds[i] = dj at *
          generalize hdi' : lastV d0 (ds.take i) = di at *
          obtain ⟨ui, hui, vi⟩ := hus5.at' hvi
          obtain ⟨uj, huj, vj⟩ := hus5.at' hvj
          have aI : atI us (0 + (i : Int)) = some ui := by rw [Int.zero_add]; exact atI_nat hui
          have aJ : atI us (0 + (i : Int) + 1) = some uj := by
            rw [show (0 + (i : Int) + 1) = ((i + 1 : Nat) : Int) from by omega]
            exact atI_nat huj
          refine ⟨_, rfl, _, rfl, vl, us, _, ui, rfl, rfl, SqL.of evl5, aI, _, _, di, rfl, vi.dp, kn_tup di, _, rfl, ?_⟩
          rw [isB_tup]
          have noJ : tornJ di dj = [] → Vds K H5 (acc ++ [V.ref p]) ((prefP true d0 ds (i + 1)).map kpD) := fun e => none' (by rw [tornAt_some hdi, hdi']; show (tornJ di dj).map _ = []; rw [e] <;> rfl)
          cases hk : kT di with
          | false =>
            refine iteF (fin (.refl S5.t) e5 (noJ ?_))
            cases di with
            | tuple vs => cases hk
            | _ => rfl
          | true =>
            obtain ⟨dvs, rfl⟩ : ∃ dvs, di = .tuple dvs := by cases di <;> first | exact ⟨_, rfl⟩ | cases hk
            refine iteT ?_
            refine ⟨_, rfl, _, rfl, _, _, rfl, rfl, vl, us, _, uj, rfl, rfl, SqL.of evl5, aJ, _, _, dj, rfl, vj.dp, kn_tup dj, _, rfl, ?_⟩
            rw [isB_tup]
            cases hk2 : kT dj with
            | false =>
              refine iteF (fin (.refl S5.t) e5 (noJ ?_))
              cases dj with
              | tuple vs => cases hk2
              | _ => rfl
            | true =>
              obtain ⟨dws, rfl⟩ : ∃ dws, dj = .tuple dws := by cases dj <;> first | exact ⟨_, rfl⟩ | cases hk2
              refine iteT ?_
              obtain ⟨ai, xi, rfl, qi, hxi⟩ := vi.untup
              obtain ⟨aj, xj, rfl, qj, hxj⟩ := vj.untup
              have li := hxi.len
              have lj := hxj.len
              refine ⟨_, rfl, _, rfl, vl, us, _, _, rfl, rfl, SqL.of evl5, aI, _, _, rfl, .inr ⟨_, qi, rfl⟩, ?_⟩
              refine ⟨_, rfl, _, rfl, _, _, rfl, rfl, vl, us, _, _, rfl, rfl, SqL.of evl5, aJ, _, _, rfl, .inr ⟨_, qj, rfl⟩, rfl, _, rfl, ?_⟩
              by_cases hl2 : dvs.length = dws.length
              · rw [show decide (V.int (xi.length : Nat) = V.int (xj.length : Nat)) = true from decide_eq_true (by rw [li, lj, hl2])]
                refine iteT ?_
                have hJ : tornJ (.tuple dvs) (.tuple dws) = List.range' 1 (dws.length - 1) := if_pos hl2
                have hsd := (sml_lenT (hsm _ (List.mem_of_getElem? hvi))).1
                have hpref : prefP true d0 ds (i + 1) = pairsFrom true 0 d0 (ds.take i) ++ (List.range' 1 (dws.length - 1)).map fun j => (i, j) := by
                  rw [pref_succ, tornAt_some hdi, hdi']
                  show _ ++ (tornJ (.tuple dvs) (.tuple dws)).map _ = _
                  rw [hJ]
                have hal5 := v5.len
                rw [List.length_map] at hal5
                rw [hpref, List.length_append, List.length_map, List.length_range'] at hpl1
                refine ⟨_, rfl, .inl ⟨rfl, _, SqL.of e5⟩, _, rfl, _, rfl, vl, us, _, _, rfl, rfl, SqL.of evl5, aI, _, _, rfl, .inr ⟨_, qi, rfl⟩, 1, (xi.length : Nat), rfl, ⟨by decide, by decide, by omega, by omega⟩, fun D hD => ?_⟩
                obtain ⟨HD, hHD⟩ : ∃ X, X = upd H5 D (.lst []) := ⟨_, rfl⟩
                have SD : Stp G [] H5 HD := by rw [hHD]; exact .new S5.t hD
                have eD : HD D = some (.lst []) := by rw [hHD]; exact upd_same
                have nlD : l ≠ D := ne_of_none e5 hD
                refine lc_it (walk_range (lo := 1)) (fun j H' => Stp G [D] HD H' ∧ ∃ ac, H' D = some (.lst ac) ∧ ac.length = j ∧ Vds K H' ac ((((List.range' 1 (dws.length - 1)).map fun j => (i, j)).map kpD).take j))
                  (by rw [← hHD]; exact ⟨.refl SD.t, [], eD, rfl, .nil⟩) (fun j H' _ h => True.intro) (fun j v H6 H7 hj h hyy => ?_) (fun H6 h => ?_)
                · obtain ⟨S6, ac, eac, hacl, hac⟩ := h
                  obtain ⟨rfl, rfl⟩ := hyy
                  have hj' : j < dws.length - 1 := by omega
                  refine ⟨rfl, iteT (B := Stp G [D] HD H7 ∧ ∃ ac, H7 D = some (.lst ac) ∧ ac.length = j + 1 ∧ Vds K H7 ac ((((List.range' 1 (dws.length - 1)).map fun j => (i, j)).map kpD).take (j + 1))) ?_⟩
                  refine ⟨_, rfl, _, rfl, by show 2 ≤ sizeLine; decide, fun p2 hp2 => ?_⟩
                  have S8 := FW.Stp.new (fp := []) (o := (.tup [V.int (0 + (i : Nat)), V.int (1 + (j : Int))])) S6.t hp2
                  have e8 : L2.upd H7 p2 (.tup [V.int (0 + (i : Nat)), V.int (1 + (j : Int))]) p2 = some (.tup [V.int (0 + (i : Nat)), V.int (1 + (j : Int))]) := L2.upd_same
                  generalize L2.upd H7 p2 (.tup [V.int (0 + (i : Nat)), V.int (1 + (j : Int))]) = H8 at *
                  have eac8 := S8.k _ _ eac (by simp) fun _ z => by cases z
                  refine ⟨ac, eac8, Nat.lt_of_lt_of_le (show ac.length < 10000000 by omega) (by decide), ?_⟩
                  have S9 : Stp G [D] H8 (upd H8 D (.lst (ac ++ [V.ref p2]))) := .put S8.t (by simp) eac8 notc_lst
                  refine ⟨S6.trans (S8.up.trans S9), _, upd_same, by rw [List.length_append, hacl] <;> rfl, ?_⟩
                  have hset : (((List.range' 1 (dws.length - 1)).map fun j => (i, j)).map kpD)[j]? = some (kpD (i, 1 + j)) := by
                    rw [List.getElem?_map, List.getElem?_map, List.getElem?_range' hj']
                    show some (kpD (i, 1 + 1 * j)) = _
                    rw [Nat.one_mul]
                  rw [take_succ' hset]
                  refine Vds.keep (noT_lst eac8) S9.k ((hac.ext S8.k).snoc (.tup (.of e8) (.cons ?_ (.cons ?_ .nil))))
                  · rw [Int.zero_add]
                    exact ⟨.int _, rfl⟩
                  · rw [show (1 + (j : Int)) = ((1 + j : Nat) : Int) from by omega]
                    exact ⟨.int _, rfl⟩
                · obtain ⟨S6, ac, eac, hacl, hac⟩ := h
                  rw [List.take_of_length_le (by rw [List.length_map, List.length_map, List.length_range']; omega)] at hac
                  have S56 : Stp G [] H5 H6 := Stp.hide SD.k S6 (fr0_none hD)
                  have e6 := S56.k _ _ e5 (by simp) fun _ z => by cases z
                  refine ⟨l, D, _, ac, rfl, rfl, e6, eac, Nat.le_of_lt (Nat.lt_of_lt_of_le (show (acc ++ [V.ref p]).length + ac.length < 10000000 by omega) (by decide)), ?_⟩
                  have S7 : Stp G [l] H6 (upd H6 l (.lst (acc ++ [V.ref p] ++ ac))) := .put S56.t (by simp) e6 notc_lst
                  refine fin (S56.up.trans S7) upd_same ?_
                  rw [hpref, List.map_append]
                  exact Vds.keep (noT_lst e6) S7.k (vds_app (v5.ext S56.k) hac)
              · rw [show decide (V.int (xi.length : Nat) = V.int (xj.length : Nat)) = false from decide_eq_false (fun z => hl2 (by have := Int.ofNat.inj (V.int.inj z); omega))]
                exact iteF (fin (.refl S5.t) e5 (noJ (if_neg hl2)))
        · rw [show decide ((0 + (i : Int)) + 1 < (us.length : Nat)) = false from decide_eq_false (by omega)]
          exact iteF (fin (.refl S5.t) e5 (none' (tornAt_none (List.getElem?_eq_none (by omega)))))
    · obtain ⟨x5, x6, acc, rfl, S3, eacc, hacc⟩ := h
      rw [hul, pref_end] at hacc
      exact ⟨_, rfl, k l acc H3 (Stp.fresh S02.k S3 fun q hq => by rw [List.mem_singleton.mp hq]; exact fl) eacc hacc fl⟩
theorem sc_law_fits : FnScope ["_law_late_here", "_law_names", "_law_kept_here", "_law_ahead", "_law_name", "_law_epoch", "_law_here", "_law_n", "_law_page", "_law_value", "_law_wrong", "_law_low", "_law_j", "_law_high"] ["_law_late_here", "_law_names", "_law_kept_here"] (defScope s_law_fits) := ⟨rfl, rfl, rfl, by decide +kernel, rfl, by decide +kernel, by decide +kernel⟩
def spFits (K : PySem.W.Frag) (G : Tb) : Sp := fun vs H Q _ => ∃ (lt na ca : Addr) (ks : List Str) (a : La) (c : List Kp), vs = [.ref lt, .ref na, .ref ca] ∧ LateAt K H lt a ∧ H na = some (.lst (ks.map V.str)) ∧ Vd K H (.ref ca) (.tuple (c.map kpD)) ∧ c.length = ks.length ∧ ks.length < 1000 ∧ LaSmall a ∧ Tbs G H ∧
  ∀ H', Stp G [] H H' → Q (.bl (fitsR ks (ks.map fun _ => 0) a.ep c)) H'
theorem ok_fits (F : Fn K "_law_fits" s_law_fits f fd) (T : Tx K mg) : FnOk P w K mg base (L2.CX P w) 1 f fd ["_law_late_here", "_law_names", "_law_kept_here"] (spFits K G) := by
  refine F.ok sc_law_fits (fun vs H Q E h => ?_) (fun cdv A outer s H vs Q E hr h => ?_)
  · obtain ⟨_, _, _, _, _, _, rfl, _⟩ := h
    rfl
  · obtain ⟨lt, na, ca, ks, a, c, rfl, hlt, hna, hc, hcl, hkl, sm, ht, k⟩ := h
    refine ⟨_, PSs.nox (pss_cons (ps_setLc (i := 3) (own := [("_law_name", 4)]) (tt := tYes) rfl sc_law_fits.nd rfl rfl (sw_true rfl rfl rfl (by decide +kernel)) (pi_list (pv 1)) (blkOk_by (N := ["_law_late_here", "_law_names", "_law_kept_here", "_law_ahead", "_law_name", "_law_epoch", "_law_here", "_law_n", "_law_page", "_law_value", "_law_wrong", "_law_low", "_law_j", "_law_high"]) (sc := defScope s_law_fits) (by decide +kernel)) (fun _ _ _ _ _ => (pg_name (i := 4) sc_law_fits.nd rfl (Or.inl rfl) (hf := .inr rfl))) (fun _ _ _ _ _ => pts_nil) (fun _ _ _ _ _ => pe_int))
      (pss_cons (ps_for PassesOwn.never rfl (pi_list (pe_ix ix_tup (pv 0) pe_int (fun _ _ => rfl))) (pg_name (i := 5) sc_law_fits.nd rfl (Or.inl rfl))
      (pss_cons (ps_set (i := 6) sc_law_fits.nd rfl (Or.inl rfl) (pe_lst pa_nil))
      (pss_cons (ps_for PassesOwn.never rfl (pi_zip (by rfl) T.n_zip (pa_cons (pv 3) (pa_cons (pv 1) pa_nil))) (pg_tup rfl (pgs_cons (pg_name (i := 7) sc_law_fits.nd rfl (Or.inl rfl)) (pgs_cons (pg_name (i := 4) sc_law_fits.nd rfl (Or.inr rfl)) pgs_nil)))
      (pss_one (ps_expr (pe_bm PySem.F.plainAttrs_list PySem.F.slot_list_append PySem.F.type_list_append mt_append (pv 6) (pa_cons (pe_op op_add (pv 7) (pe_callB call_len (by rfl) T.n_len (by decide +kernel) (pa_cons (pe_lc (g := (gTup K 2 (gCons (gName 8) (gCons (gName 9) gNil)))) (own := [("_law_page", 8), ("_law_value", 9)]) (tt := _) rfl sc_law_fits.nd (pi_list (pv 5)) (blkOk_by (N := ["_law_late_here", "_law_names", "_law_kept_here", "_law_ahead", "_law_name", "_law_epoch", "_law_here", "_law_n", "_law_page", "_law_value", "_law_wrong", "_law_low", "_law_j", "_law_high"]) (sc := defScope s_law_fits) (by decide +kernel)) (fun _ _ _ _ _ => (pg_tup rfl (pgs_cons (pg_name (i := 8) sc_law_fits.nd rfl (Or.inl rfl) (hf := .inr rfl)) (pgs_cons (pg_name (i := 9) sc_law_fits.nd rfl (Or.inl rfl) (hf := .inr rfl)) pgs_nil)))) (fun _ _ _ _ _ => (pts_one (pt_cmpR op_eq (pv 8) (pv 4) (nomark _)))) (fun _ _ _ _ _ => (pv 8))) pa_nil))) pa_nil)))))
      (pss_cons (ps_set (i := 10) sc_law_fits.nd rfl (Or.inl rfl) (pe_lst pa_nil))
      (pss_cons (ps_for PassesOwn.never rfl (CC.pi_zip3 (by rfl) T.n_zip (pa_cons (pv 3) (pa_cons (pv 2) (pa_cons (pv 6) pa_nil)))) (pg_tup rfl (pgs_cons (pg_name (i := 11) sc_law_fits.nd rfl (Or.inl rfl)) (pgs_cons (pg_tup rfl (pgs_cons (pg_name (i := 7) sc_law_fits.nd rfl (Or.inl rfl)) (pgs_cons (pg_name (i := 12) sc_law_fits.nd rfl (Or.inl rfl)) pgs_nil))) (pgs_cons (pg_name (i := 13) sc_law_fits.nd rfl (Or.inl rfl)) pgs_nil))))
      (pss_one (ps_if (PW.pt (pw_or (pt_cmpR op_lt (pv 7) (pv 11) (nomark _)) (pw_or1 (pt_cmpR op_gt (pe_op op_add (pv 7) (pe_callTy call_int1 (by rfl) T.n_int (by decide +kernel) (pa_cons (pe_cmpR op_gt (pv 12) pe_int (nomark _)) pa_nil))) (pv 13) (nomark _))))) (pss_one (ps_expr (pe_bm PySem.F.plainAttrs_list PySem.F.slot_list_append PySem.F.type_list_append mt_append (pv 10) (pa_cons (pv 7) pa_nil)))) pss_nil)))
      (pss_cons (ps_if (pt_cmpR (CC.op_eqL0 hr.units) (pv 10) (pe_lst pa_nil) (nomark _)) (pss_one (ps_ret pe_bl)) pss_nil)
      (pss_one (ps_set (i := 3) sc_law_fits.nd rfl (Or.inl rfl) (pv 6)))))))))
      (pss_one (ps_ret pe_bl)))), ?_⟩
    obtain ⟨fdd, el, eas, kvs, qlt, efd, hkv, eel, heps⟩ := id hlt
    have heal : eas.length = a.ep.length := Paired.length heps
    have hsn := sm.n
    refine ⟨_, rfl, na, rfl, ⟨_, SqL.of hna⟩, fun D hD => ?_⟩
    obtain ⟨HD, hHD⟩ : ∃ X, X = upd H D (.lst []) := ⟨_, rfl⟩
    have SD : Stp G [] H HD := by rw [hHD]; exact .new ht hD
    have eD : HD D = some (.lst []) := by rw [hHD]; exact upd_same
    have nnD : na ≠ D := ne_of_none hna hD
    refine lc_it (walk_list (xs := ks.map V.str)) (fun i H' => Stp G [D] HD H' ∧ H' D = some (.lst (((ks.map fun _ => 0).take i).map vN)))
      (by rw [← hHD]; exact ⟨.refl SD.t, eD⟩) (fun i H' _ h => SqL.of (h.1.k _ _ (SD.k _ _ hna (by simp) fun _ z => by cases z) (by simp; exact nnD) fun _ z => by cases z)) (fun i v H3 H4 hi h hyy => ?_) (fun H3 h => ?_)
    · obtain ⟨S3, e3⟩ := h
      obtain ⟨rfl, hx⟩ := hyy
      rw [List.length_map] at hi
      refine ⟨rfl, iteT (B := Stp G [D] HD H4 ∧ H4 D = some (.lst (((ks.map fun _ => 0).take (i + 1)).map vN))) ?_⟩
      refine ⟨_, e3, ?_, ?_⟩
      · rw [List.length_map, List.length_take]
        exact Nat.lt_of_lt_of_le (show _ < 1000 by omega) (by decide)
      have S5 : Stp G [D] H4 (upd H4 D (.lst (((ks.map fun _ => 0).take i).map vN ++ [V.int 0]))) := .put S3.t (by simp) e3 notc_lst
      refine ⟨S3.trans S5, ?_⟩
      have hset : (ks.map fun _ => 0)[i]? = some 0 := by rw [List.getElem?_map, List.getElem?_eq_getElem hi] <;> rfl
      rw [upd_same, take_succ' hset, List.map_append] <;> rfl
    · obtain ⟨S3, e3⟩ := h
      rw [List.take_of_length_le (by rw [List.length_map, List.length_map]; exact Nat.le_refl _)] at e3
      have S03 : Stp G [] H H3 := Stp.hide SD.k S3 (fr0_none hD)
      have has0 : (ks.map fun _ => (0 : Nat)).length = ks.length := List.length_map _
      generalize (ks.map fun _ => (0 : Nat)) = as0 at *
      have eel3 := S03.k _ _ eel (by simp) fun _ z => by cases z
      refine ⟨_, rfl, lt, _, 1, _, rfl, rfl, sqT_ext S03.k.ext qlt, at1, el, rfl, ⟨_, SqL.of eel3⟩, ?_⟩
      refine for_it (walk_list (xs := eas.map V.ref)) (fun i σ H' => ∃ (ah : Addr) (as : List Nat) (x4 x5 x6 x7 x8 x9 x10 x11 x12 x13 : Option V), σ = [some (.ref lt), some (.ref na), some (.ref ca), some (.ref ah), x4, x5, x6, x7, x8, x9, x10, x11, x12, x13] ∧ Stp G [] H H' ∧ H' ah = some (.lst (as.map vN)) ∧ as.length = ks.length ∧ fitsR ks as0 a.ep c = fitsR ks as (a.ep.drop i) c)
        ⟨D, as0, _, _, _, _, _, _, _, _, _, _, rfl, S03, e3, has0, rfl⟩ (fun i σ H' _ ⟨_, _, _, _, _, _, _, _, _, _, _, _, _, S, _⟩ => SqL.of (S.k _ _ eel (by simp) fun _ z => by cases z)) (fun i x σ H4 H5 hi h hy => ?_) (fun σ H' h => ?_)
      · obtain ⟨ah, as, x4, x5, x6, x7, x8, x9, x10, x11, x12, x13, rfl, S4, eah, hal, hfit⟩ := h
        obtain ⟨rfl, hx⟩ := hy
        rw [List.getElem?_map] at hx
        obtain ⟨b, hb, rfl⟩ := Option.map_eq_some_iff.mp hx
        rw [List.length_map] at hi
        have hi' : i < a.ep.length := by omega
        have hei := List.getElem?_eq_getElem hi'
        have hel := sm.e _ (List.getElem_mem hi')
        have hdr : a.ep.drop i = a.ep[i] :: a.ep.drop (i + 1) := List.drop_eq_getElem_cons hi'
        obtain ⟨us, eb, hus⟩ : EpAt K H5 b a.ep[i] := (Paired.get heps hb hei).keep noT_nil (by simp) S4.k
        generalize a.ep[i] = ep at *
        rw [hdr] at hfit
        have hul := hus.len
        rw [List.length_map] at hul
        refine ⟨by show 0 ≤ sizeLine; decide, fun he hhe => ?_⟩
        have S6 := FW.Stp.new (fp := []) (o := (.lst [])) S4.t hhe
        have e6 : L2.upd H5 he (.lst []) he = some (.lst []) := L2.upd_same
        generalize L2.upd H5 he (.lst []) = H6 at *
        have S06 := S4.trans S6
        have eah6 := S6.k _ _ eah (by simp) fun _ z => by cases z
        have hna6 := S06.k _ _ hna (by simp) fun _ z => by cases z
        have nah : ah ≠ he := ne_of_none eah hhe
        have nna : na ≠ he := ne_of_none (S4.k _ _ hna (by simp) fun _ z => by cases z) hhe
        have nbh : b ≠ he := ne_of_none eb hhe
        have eb6 := S6.k _ _ eb (by simp) fun _ z => by cases z
        have hus6 := hus.ext S6.k
        have hahl := ahead_len (ep := ep) hal
        refine ⟨_, rfl, _, rfl, ah, na, _, _, rfl, SqL.of eah6, SqL.of hna6, ?_⟩
        refine for_it (walk_zip (xs := as.map vN) (ys := ks.map V.str) (n := ks.length) (by rw [List.length_map, List.length_map, hal, Nat.min_self])) (fun j σ H' => ∃ (y4 y7 y8 y9 : Option V), σ = [some (.ref lt), some (.ref na), some (.ref ca), some (.ref ah), y4, some (.ref b), some (.ref he), y7, y8, y9, x10, x11, x12, x13] ∧ Stp G [he] H6 H' ∧ H' he = some (.lst (((aheadOf ks ep as).take j).map vN)))
          ⟨_, _, _, _, rfl, .refl S6.t, e6⟩ (fun j σ H' _ ⟨_, _, _, _, _, S, _⟩ => ⟨SqL.of (S.k _ _ eah6 (by simp; exact nah) fun _ z => by cases z), SqL.of (S.k _ _ hna6 (by simp; exact nna) fun _ z => by cases z)⟩) (fun j x σ H7 H8 hj h hy => ?_) (fun σ H7 h => ?_)
        · obtain ⟨y4, y7, y8, y9, rfl, S7, e7⟩ := h
          obtain ⟨T1, vx, vy, rfl, hT1, rfl, g1, g2⟩ := hy
          dsimp only at g1 g2
          rw [List.getElem?_map] at g1 g2
          obtain ⟨n, hn, rfl⟩ := Option.map_eq_some_iff.mp g1
          obtain ⟨nm, hnm, rfl⟩ := Option.map_eq_some_iff.mp g2
          have S8 : Stp G [] H7 (upd H7 T1 (.tup [vN n, V.str nm])) := .new S7.t hT1
          have e8 : upd H7 T1 (.tup [vN n, V.str nm]) T1 = some (.tup [vN n, V.str nm]) := upd_same
          generalize upd H7 T1 (.tup [vN n, V.str nm]) = H8 at *
          have S68 := S7.trans S8.up
          have nthe := noT_lst e6
          have eb8 := S68.k _ _ eb6 (by simp; exact nbh) fun _ z => by cases z
          have hus8 := hus6.keep nthe S68.k
          have ehe8 := S8.k _ _ e7 (by simp) fun _ z => by cases z
          refine ⟨T1, _, rfl, .of e8, rfl, _, _, rfl, _, _, rfl, rfl, ?_⟩
          refine ⟨_, rfl, .inl ⟨rfl, _, SqL.of ehe8⟩, _, rfl, _, rfl, b, rfl, ⟨_, SqL.of eb8⟩, fun D2 hD2 => ?_⟩
          obtain ⟨HE, hHE⟩ : ∃ X, X = upd H8 D2 (.lst []) := ⟨_, rfl⟩
          have SE : Stp G [] H8 HE := by rw [hHE]; exact .new S68.t hD2
          have eD2 : HE D2 = some (.lst []) := by rw [hHE]; exact upd_same
          have ntD2 := noT_lst eD2
          have nbD2 : b ≠ D2 := ne_of_none eb8 hD2
          refine lc_it (walk_list (xs := us)) (fun q H' => Stp G [D2] HE H' ∧ ∃ ac, H' D2 = some (.lst ac) ∧ ac.length = (pageVals nm (ep.take q)).length)
            (by rw [← hHE]; exact ⟨.refl SE.t, [], eD2, rfl⟩) (fun q H' _ h => SqL.of (h.1.k _ _ (SE.k _ _ eb8 (by simp) fun _ z => by cases z) (by simp; exact nbD2) fun _ z => by cases z)) (fun q x H9 HX hq h hyy => ?_) (fun H9 h => ?_)
          · obtain ⟨S9, ac, eac, hacl⟩ := h
            obtain ⟨rfl, hx2⟩ := hyy
            obtain ⟨dd, hdd, vd⟩ := hus8.at hx2
            have hq' : q < ep.length := by omega
            have hpj := List.getElem?_eq_getElem hq'
            rw [List.getElem?_map, hpj] at hdd
            have hpt := pageVals_take (nm := nm) hpj
            generalize ep[q] = pr at *
            obtain rfl : PyData.tuple [.str pr.1, pr.2] = dd := Option.some.inj hdd
            obtain ⟨pa, u2, rfl, qp, hu2⟩ := ((vd.ext SE.k).keep ntD2 S9.k).pair
            have hpl : (pageVals nm (ep.take q)).length ≤ q := by
              unfold pageVals
              rw [List.length_map]
              exact Nat.le_trans (List.length_filter_le _ _) (List.length_take_le _ _)
            refine ⟨pa, _, rfl, qp, rfl, _, _, rfl, _, _, rfl, rfl, rfl, ?_⟩
            refine ⟨_, rfl, _, rfl, rfl, _, rfl, ?_⟩
            by_cases e : pr.1 = nm
            · rw [show decide (V.str pr.1 = V.str nm) = true from decide_eq_true (by rw [e])]
              rw [if_pos e] at hpt
              refine iteT ?_
              refine ⟨_, rfl, ac, eac, Nat.lt_of_lt_of_le (show ac.length < 1000 by omega) (by decide), ?_⟩
              have S10 : Stp G [D2] HX (upd HX D2 (.lst (ac ++ [V.str pr.1]))) := .put S9.t (by simp) eac notc_lst
              exact ⟨S9.trans S10, _, upd_same, by rw [hpt, List.length_append, List.length_append, hacl] <;> rfl⟩
            · rw [show decide (V.str pr.1 = V.str nm) = false from decide_eq_false fun z => e (V.str.inj z)]
              rw [if_neg e, List.append_nil] at hpt
              exact iteF ⟨S9, ac, eac, by rw [hpt]; exact hacl⟩
          · obtain ⟨S9, ac, eac, hacl⟩ := h
            rw [List.take_of_length_le (by omega)] at hacl
            have S89 : Stp G [] H8 H9 := Stp.hide SE.k S9 (fr0_none hD2)
            have ehe9 := S89.k _ _ ehe8 (by simp) fun _ z => by cases z
            have hset := ahead_at (ep := ep) hn hnm
            refine ⟨_, _, rfl, .inl ⟨_, SqL.of eac, rfl⟩, _, _, rfl, rfl, he, _, _, rfl, rfl, ehe9, ?_, ?_⟩
            · rw [List.length_map, List.length_take]
              exact Nat.lt_of_lt_of_le (show _ < 1000 by omega) (by decide)
            have S10 : Stp G [he] H9 (upd H9 he (.lst (((aheadOf ks ep as).take j).map vN ++ [V.int ((n : Int) + (ac.length : Nat))]))) := .put S89.t (by simp) ehe9 notc_lst
            refine ⟨_, _, _, _, rfl, S68.trans (S89.up.trans S10), ?_⟩
            rw [upd_same, take_succ' hset, List.map_append, hacl] <;> rfl
        · obtain ⟨y4, y7, y8, y9, rfl, S7, e7⟩ := h
          rw [List.take_of_length_le (by rw [hahl]; exact Nat.le_refl _)] at e7
          have S67 : Stp G [] H H7 := Stp.fresh S06.k S7 fun q hq => by
            rw [List.mem_singleton.mp hq]
            exact S4.k.fr0 (by simp) (fr0_none hhe)
          refine ⟨by show 0 ≤ sizeLine; decide, fun wr hwr => ?_⟩
          have S8 := FW.Stp.new (fp := []) (o := (.lst [])) S67.t hwr
          have e8 : L2.upd H7 wr (.lst []) wr = some (.lst []) := L2.upd_same
          generalize L2.upd H7 wr (.lst []) = H8 at *
          have S08 := S67.trans S8
          have S68 := S7.trans S8.up
          have eah8 := S68.k _ _ eah6 (by simp; exact nah) fun _ z => by cases z
          have ehe8 := S8.k _ _ e7 (by simp) fun _ z => by cases z
          obtain ⟨ca', cvs, eca, qc, hcvs⟩ := (hc.ext S08.k).untup
          obtain rfl := V.ref.inj eca
          have hcvl := hcvs.len
          rw [List.length_map] at hcvl
          have naw : ah ≠ wr := ne_of_none (S7.k _ _ eah6 (by simp; exact nah) fun _ z => by cases z) hwr
          have nhw : he ≠ wr := ne_of_none e7 hwr
          have ntw := noT_lst e8
          generalize hhs : aheadOf ks ep as = hs at *
          refine ⟨_, rfl, _, rfl, _, rfl, ah, ca, he, _, _, _, rfl, SqL.of eah8, qc, SqL.of ehe8, ?_⟩
          refine for_it (walk_zip3 (xs := as.map vN) (ys := cvs) (zs := hs.map vN) (n := ks.length) (by rw [List.length_map, hal]) (by rw [hcvl, hcl]) (by rw [List.length_map, hahl])) (fun j σ H' => ∃ (z7 z11 z12 z13 : Option V) (ws : List V), σ = [some (.ref lt), some (.ref na), some (.ref ca), some (.ref ah), y4, some (.ref b), some (.ref he), z7, y8, y9, some (.ref wr), z11, z12, z13] ∧ Stp G [wr] H8 H' ∧ H' wr = some (.lst ws) ∧ ws.length ≤ j ∧ ws.isEmpty = okAll (as.take j) (c.take j) (hs.take j))
            ⟨_, _, _, _, [], rfl, .refl S8.t, e8, Nat.le_refl _, rfl⟩ (fun j σ H' _ ⟨_, _, _, _, _, _, S, _⟩ => ⟨SqL.of (S.k _ _ eah8 (by simp; exact naw) fun _ z => by cases z), keep_sqT ntw S.k qc, SqL.of (S.k _ _ ehe8 (by simp; exact nhw) fun _ z => by cases z)⟩) (fun j x σ H9 HX hj h hy => ?_) (fun σ H9 h => ?_)
          · obtain ⟨z7, z11, z12, z13, ws, rfl, S9, ew, hwl, hwe⟩ := h
            obtain ⟨T1, vx, vy, vz, rfl, hT1, rfl, g1, g2, g3⟩ := hy
            dsimp only at g1 g2 g3
            rw [List.getElem?_map] at g1 g3
            obtain ⟨lo, hlo, rfl⟩ := Option.map_eq_some_iff.mp g1
            obtain ⟨hg, hhg, rfl⟩ := Option.map_eq_some_iff.mp g3
            obtain ⟨dd, hdd, vd⟩ := hcvs.at g2
            rw [List.getElem?_map] at hdd
            obtain ⟨kp, hkp, rfl⟩ := Option.map_eq_some_iff.mp hdd
            obtain ⟨pa, vs2, rfl, qp, hv2⟩ := Vd.untup (ds := [.int (kp.1 : Nat), .int (kp.2 : Nat)]) (vd.keep ntw S9.k)
            have S10 : Stp G [] H9 (upd H9 T1 (.tup [vN lo, V.ref pa, vN hg])) := .new S9.t hT1
            have e10 : upd H9 T1 (.tup [vN lo, V.ref pa, vN hg]) T1 = some (.tup [vN lo, V.ref pa, vN hg]) := upd_same
            generalize upd H9 T1 (.tup [vN lo, V.ref pa, vN hg]) = H10 at *
            have ew10 := S10.k _ _ ew (by simp) fun _ z => by cases z
            have hok := ok_snoc hlo hkp hhg
            cases hv2 with
            | cons k1 hv2 =>
              cases hv2 with
              | cons k2 hv2 =>
                cases hv2 with
                | nil =>
                  have d1 := k1.dp
                  have d2 := k2.dp
                  cases d1
                  cases d2
                  refine ⟨T1, _, rfl, .of e10, rfl, _, _, rfl, _, _, rfl, pa, _, rfl, sqT_ext S10.k.ext qp, rfl, _, _, rfl, _, _, rfl, rfl, _, _, rfl, rfl, ?_⟩
                  have bad : (decide (lo ≤ kp.1) && decide (up kp ≤ hg)) = false → ∃ (z7' z11' z12' z13' : Option V) (ws' : List V), [some (.ref lt), some (.ref na), some (.ref ca), some (.ref ah), y4, some (.ref b), some (.ref he), some (V.int (kp.1 : Nat)), y8, y9, some (.ref wr), some (vN lo), some (V.int (kp.2 : Nat)), some (vN hg)] = [some (.ref lt), some (.ref na), some (.ref ca), some (.ref ah), y4, some (.ref b), some (.ref he), z7', y8, y9, some (.ref wr), z11', z12', z13'] ∧ Stp G [wr] H8 (upd H10 wr (.lst (ws ++ [V.int (kp.1 : Nat)]))) ∧ upd H10 wr (.lst (ws ++ [V.int (kp.1 : Nat)])) wr = some (.lst ws') ∧ ws'.length ≤ j + 1 ∧ ws'.isEmpty = okAll (as.take (j + 1)) (c.take (j + 1)) (hs.take (j + 1)) := fun e => by
                    have S11 : Stp G [wr] H10 (upd H10 wr (.lst (ws ++ [V.int (kp.1 : Nat)]))) := .put S10.t (by simp) ew10 notc_lst
                    refine ⟨_, _, _, _, _, rfl, S9.trans (S10.up.trans S11), upd_same, by rw [List.length_append, List.length_singleton]; omega, ?_⟩
                    rw [hok, e, Bool.and_false]
                    simp
                  have good : (decide (lo ≤ kp.1) && decide (up kp ≤ hg)) = true → ∃ (z7' z11' z12' z13' : Option V) (ws' : List V), [some (.ref lt), some (.ref na), some (.ref ca), some (.ref ah), y4, some (.ref b), some (.ref he), some (V.int (kp.1 : Nat)), y8, y9, some (.ref wr), some (vN lo), some (V.int (kp.2 : Nat)), some (vN hg)] = [some (.ref lt), some (.ref na), some (.ref ca), some (.ref ah), y4, some (.ref b), some (.ref he), z7', y8, y9, some (.ref wr), z11', z12', z13'] ∧ Stp G [wr] H8 H10 ∧ H10 wr = some (.lst ws') ∧ ws'.length ≤ j + 1 ∧ ws'.isEmpty = okAll (as.take (j + 1)) (c.take (j + 1)) (hs.take (j + 1)) := fun e => by
                    refine ⟨_, _, _, _, ws, rfl, S9.trans S10.up, ew10, by omega, ?_⟩
                    rw [hok, e, Bool.and_true]
                    exact hwe
                  have app : (decide (lo ≤ kp.1) && decide (up kp ≤ hg)) = false → ws.length < sizeLine := fun _ => Nat.lt_of_lt_of_le (show ws.length < 1000 by omega) (by decide)
                  refine ⟨_, rfl, _, rfl, _, _, rfl, rfl, _, rfl, ?_⟩
                  cases hd1 : decide ((kp.1 : Int) < (lo : Nat)) with
                  | true =>
                    have q1 := of_decide_eq_true hd1
                    have e : (decide (lo ≤ kp.1) && decide (up kp ≤ hg)) = false := by rw [decide_eq_false (show ¬ lo ≤ kp.1 by omega)] <;> rfl
                    refine iteT (iteT ?_)
                    exact ⟨_, rfl, .inl ⟨rfl, _, SqL.of ew10⟩, _, rfl, wr, ws, _, rfl, rfl, ew10, app e, bad e⟩
                  | false =>
                    have q1 := of_decide_eq_false hd1
                    refine iteF ?_
                    refine ⟨_, rfl, _, rfl, _, _, rfl, rfl, .inr ⟨_, rfl, _, _, rfl, rfl, _, rfl, _, _, rfl, rfl, _, rfl, ?_⟩⟩
                    have hup : (kp.1 : Int) + (if decide ((kp.2 : Int) > 0) = true then 1 else 0) = (up kp : Nat) := by
                      unfold up
                      by_cases hz : kp.2 = 0
                      · rw [if_neg (by rw [decide_eq_true_eq]; omega), if_pos hz]
                        omega
                      · rw [if_pos (by rw [decide_eq_true_eq]; omega), if_neg hz]
                        omega
                    refine ite2 (fun h2 => ?_) fun h2 => ?_
                    · have q2 : (kp.1 : Int) + (if decide ((kp.2 : Int) > 0) = true then 1 else 0) > (hg : Nat) := of_decide_eq_true h2
                      rw [hup] at q2
                      have e : (decide (lo ≤ kp.1) && decide (up kp ≤ hg)) = false := by rw [decide_eq_false (show ¬ up kp ≤ hg by omega), Bool.and_false]
                      exact ⟨_, rfl, .inl ⟨rfl, _, SqL.of ew10⟩, _, rfl, wr, ws, _, rfl, rfl, ew10, app e, bad e⟩
                    · have q2 : ¬ (kp.1 : Int) + (if decide ((kp.2 : Int) > 0) = true then 1 else 0) > (hg : Nat) := fun z => h2 (decide_eq_true z)
                      rw [hup] at q2
                      have e : (decide (lo ≤ kp.1) && decide (up kp ≤ hg)) = true := by rw [decide_eq_true (show lo ≤ kp.1 by omega), decide_eq_true (show up kp ≤ hg by omega)] <;> rfl
                      exact good e
          · obtain ⟨z7, z11, z12, z13, ws, rfl, S9, ew, hwl, hwe⟩ := h
            rw [List.take_of_length_le (by omega), List.take_of_length_le (by omega), List.take_of_length_le (by omega)] at hwe
            refine ⟨_, rfl, by show 0 ≤ sizeLine; decide, fun p0 hp0 => ?_⟩
            have S10 := FW.Stp.new (fp := []) (o := (.lst [])) S9.t hp0
            have e10 : L2.upd H9 p0 (.lst []) p0 = some (.lst []) := L2.upd_same
            generalize L2.upd H9 p0 (.lst []) = H10 at *
            have S810 := S9.trans S10.up
            have S010 : Stp G [] H H10 := Stp.fresh S08.k S810 fun q hq => by
              rw [List.mem_singleton.mp hq]
              exact S67.k.fr0 (by simp) (fr0_none hwr)
            have ew10 := S10.k _ _ ew (by simp) fun _ z => by cases z
            refine ⟨wr, p0, ws, rfl, rfl, SqL.of ew10, SqL.of e10, _, rfl, ?_⟩
            rw [hwe]
            have hfr : fitsR ks as (ep :: a.ep.drop (i + 1)) c = (okAll as c hs || fitsR ks hs (a.ep.drop (i + 1)) c) := by rw [← hhs] <;> rfl
            rw [hfr] at hfit
            cases hok : okAll as c hs with
            | true =>
              rw [hok, Bool.true_or] at hfit
              refine iteT ?_
              show Q (.bl true) H10
              rw [show true = fitsR ks as0 a.ep c from hfit.symm]
              exact k H10 S010
            | false =>
              rw [hok, Bool.false_or] at hfit
              refine iteF ?_
              exact ⟨_, rfl, he, hs, _, _, _, _, _, _, _, _, _, _, rfl, S010, S810.k _ _ ehe8 (by simp; exact nhw) (fun _ z => by cases z), hahl, hfit⟩
      · obtain ⟨ah, as, x4, x5, x6, x7, x8, x9, x10, x11, x12, x13, rfl, S4, eah, hal, hfit⟩ := h
        rw [List.drop_of_length_le (by rw [List.length_map]; omega)] at hfit
        show Q (.bl false) H'
        rw [show false = fitsR ks as0 a.ep c from hfit.symm]
        exact k H' S4
theorem cat_cont {K : PySem.W.Frag} {x y : V} {H : Hp} {R Q : VK} (h : rCatA K x y H R) (k : ∀ v H', R v H' → Q v H') : rCatA K x y H Q := by
  obtain ⟨a, b, xs, ys, e1, e2, q1, q2, hz, k1, k2, k3⟩ := h
  exact ⟨a, b, xs, ys, e1, e2, q1, q2, hz, fun z => k _ _ (k1 z), fun z1 z2 => k _ _ (k2 z1 z2), fun z1 z2 p hp => k _ _ (k3 z1 z2 p hp)⟩
theorem sc_law_kept : FnScope ["_law_late_here", "_law_names", "_law_marks", "_law_found", "_law_name", "_law_longer", "_law_row", "_law_pair"] ["_law_late_here", "_law_names", "_law_marks"] (defScope s_law_kept) := ⟨rfl, rfl, rfl, by decide +kernel, rfl, by decide +kernel, by decide +kernel⟩
def spKept (K : PySem.W.Frag) (G : Tb) : Sp := fun vs H Q _ => ∃ (lt na ma : Addr) (ks tn : List Str) (a : La), vs = [.ref lt, .ref na, .ref ma] ∧ LateAt K H lt a ∧ H na = some (.lst (ks.map V.str)) ∧ H ma = some (.lst (tn.map V.str)) ∧ ks.length < 1000 ∧ LaFit tn ks a ∧ Tbs G H ∧
  ∀ q us H', Stp G [] H H' → H' q = some (.lst us) → Vds K H' us ((laKept tn ks a).map keptL) → Fr0 H q → Q (.ref q) H'
theorem ok_kept (F : Fn K "_law_kept" s_law_kept f fd) (T : Tx K mg) (U_law_pairs_of : Use P w K mg base (L2.CX P w) "_law_pairs_of" 2 ["_law_late_here", "_law_page", "_law_is_torn"] (spPairsOf K G)) (U_law_fits : Use P w K mg base (L2.CX P w) "_law_fits" 1 ["_law_late_here", "_law_names", "_law_kept_here"] (spFits K G)) :
    FnOk P w K mg base (L2.CX P w) 3 f fd ["_law_late_here", "_law_names", "_law_marks"] (spKept K G) := by
  refine F.ok sc_law_kept (fun vs H Q E h => ?_) (fun cdv A outer s H vs Q E hr h => ?_)
  · obtain ⟨_, _, _, _, _, _, rfl, _⟩ := h
    rfl
  · obtain ⟨lt, na, ma, ks, tn, a, rfl, hlt, hna, hma, hkl, fi, ht, k⟩ := h
    refine ⟨_, PSs.nox (pss_cons (ps_set (i := 3) sc_law_kept.nd rfl (Or.inl rfl) (pe_lst (pa_cons (pe_tup pa_nil) pa_nil)))
      (pss_cons (ps_for PassesOwn.never rfl (pi_list (pv 1)) (pg_name (i := 4) sc_law_kept.nd rfl (Or.inl rfl))
      (pss_cons (ps_set (i := 5) sc_law_kept.nd rfl (Or.inl rfl) (pe_lst pa_nil))
      (pss_cons (ps_for PassesOwn.never rfl (pi_list (pv 3)) (pg_name (i := 6) sc_law_kept.nd rfl (Or.inr rfl))
      (pss_one (ps_expr (pe_bm PySem.F.plainAttrs_list PySem.F.slot_list_extend PySem.F.type_list_extend mt_extend (pv 5) (pa_cons (pe_lc (own := [("_law_pair", 7)]) (tt := tYes) rfl sc_law_kept.nd (pi_list (pe_useL U_law_pairs_of hr (by first | decide | omega) (by rfl) (pa_cons (pv 0) (pa_cons (pv 4) (pa_cons (pe_cmpR op_in_seq (pv 4) (pv 2) (by rfl)) pa_nil))))) (blkOk_by (N := ["_law_late_here", "_law_names", "_law_marks", "_law_found", "_law_name", "_law_longer", "_law_row", "_law_pair"]) (sc := defScope s_law_kept) (by decide +kernel)) (fun _ _ _ _ _ => (pg_name (i := 7) sc_law_kept.nd rfl (Or.inl rfl) (hf := .inr rfl))) (fun _ _ _ _ _ => pts_nil) (fun _ _ _ _ _ => (pe_op (CC.op_catAK K rfl) (pv 6) (pe_tup (pa_cons (pv 7) pa_nil))))) pa_nil)))))
      (pss_one (ps_set (i := 3) sc_law_kept.nd rfl (Or.inl rfl) (pv 5))))))
      (pss_one (ps_ret (pe_lc (own := [("_law_row", 6)]) (tt := _) rfl sc_law_kept.nd (pi_list (pv 3)) (blkOk_by (N := ["_law_late_here", "_law_names", "_law_marks", "_law_found", "_law_name", "_law_longer", "_law_row", "_law_pair"]) (sc := defScope s_law_kept) (by decide +kernel)) (fun _ _ _ _ _ => (pg_name (i := 6) sc_law_kept.nd rfl (Or.inl rfl) (hf := .inr rfl))) (fun _ _ _ _ _ => (pts_one (pt_val (pe_useL U_law_fits hr (by first | decide | omega) (by rfl) (pa_cons (pv 0) (pa_cons (pv 1) (pa_cons (pv 6) pa_nil))))))) (fun _ _ _ _ _ => (pv 6))))))), ?_⟩
    refine ⟨by show 0 ≤ sizeLine; decide, fun p1 hp1 => ?_⟩
    have S1 := FW.Stp.new (fp := []) (o := (.tup [])) ht hp1
    have e1 : L2.upd H p1 (.tup []) p1 = some (.tup []) := L2.upd_same
    generalize L2.upd H p1 (.tup []) = H1 at *
    refine ⟨by show 1 ≤ sizeLine; decide, fun l0 hl0 => ?_⟩
    have S2 := FW.Stp.new (fp := []) (o := (.lst [V.ref p1])) S1.t hl0
    have e2 : L2.upd H1 l0 (.lst [V.ref p1]) l0 = some (.lst [V.ref p1]) := L2.upd_same
    generalize L2.upd H1 l0 (.lst [V.ref p1]) = H2 at *
    have S02 := S1.trans S2
    have v2 : Vds K H2 [V.ref p1] ((prodR ((ks.map (laPairs tn a)).take 0)).map keptL) := .cons (.tup (.of (S2.k _ _ e1 (by simp) fun _ z => by cases z)) .nil) .nil
    have f2 : Fr0 H l0 := S1.k.fr0 (by simp) (fr0_none hl0)
    refine ⟨_, rfl, na, rfl, ⟨_, SqL.of (S02.k _ _ hna (by simp) fun _ z => by cases z)⟩, ?_⟩
    refine for_it (walk_list (xs := ks.map V.str)) (fun q σ H' => ∃ (lf : Addr) (x4 x5 x6 x7 : Option V) (acc : List V), σ = [some (.ref lt), some (.ref na), some (.ref ma), some (.ref lf), x4, x5, x6, x7] ∧ Stp G [] H H' ∧ H' lf = some (.lst acc) ∧ Vds K H' acc ((prodR ((ks.map (laPairs tn a)).take q)).map keptL))
      ⟨l0, _, _, _, _, _, rfl, S02, e2, v2⟩ (fun q σ H' _ ⟨_, _, _, _, _, _, _, S, _⟩ => SqL.of (S.k _ _ hna (by simp) fun _ z => by cases z)) (fun q x σ H3 H4 hq h hy => ?_) (fun σ H3 h => ?_)
    · obtain ⟨lf, x4, x5, x6, x7, acc0, rfl, S3, elf, hacc0⟩ := h
      obtain ⟨rfl, hx⟩ := hy
      rw [List.getElem?_map] at hx
      obtain ⟨nm, hnm, rfl⟩ := Option.map_eq_some_iff.mp hx
      rw [List.length_map] at hq
      have hnk := List.mem_of_getElem? hnm
      have hrq : (ks.map (laPairs tn a))[q]? = some (laPairs tn a nm) := by rw [List.getElem?_map, hnm] <;> rfl
      have hpt := prod_take hrq
      have htot := fi.q (q + 1)
      rw [hpt] at htot
      have hpn := fi.p nm hnk
      obtain ⟨d0, hd0⟩ := fi.inn nm hnk
      have hlv : laV a nm = d0 := by unfold laV; rw [hd0] <;> rfl
      have hacl := hacc0.len
      rw [List.length_map] at hacl
      refine ⟨by show 0 ≤ sizeLine; decide, fun lg hlg => ?_⟩
      have S5 := FW.Stp.new (fp := []) (o := (.lst [])) S3.t hlg
      have e5 : L2.upd H4 lg (.lst []) lg = some (.lst []) := L2.upd_same
      generalize L2.upd H4 lg (.lst []) = H5 at *
      have S05 := S3.trans S5
      have nlf : lf ≠ lg := ne_of_none elf hlg
      have ntg := noT_lst e5
      have elf5 := S5.k _ _ elf (by simp) fun _ z => by cases z
      have flg : Fr0 H lg := S3.k.fr0 (by simp) (fr0_none hlg)
      have hacc5 := hacc0.ext S5.k
      have hma5 := S05.k _ _ hma (by simp) fun _ z => by cases z
      refine ⟨_, rfl, lf, rfl, ⟨_, SqL.of elf5⟩, ?_⟩
      refine for_it (walk_list (xs := acc0)) (fun i σ H' => ∃ (y6 y7 : Option V) (ac : List V), σ = [some (.ref lt), some (.ref na), some (.ref ma), some (.ref lf), some (.str nm), some (.ref lg), y6, y7] ∧ Stp G [lg] H5 H' ∧ H' lg = some (.lst ac) ∧ Vds K H' ac ((moreR ((prodR ((ks.map (laPairs tn a)).take q)).take i) (laPairs tn a nm)).map keptL))
        ⟨_, _, [], rfl, .refl S5.t, e5, .nil⟩ (fun i σ H' _ ⟨_, _, _, _, S, _⟩ => SqL.of (S.k _ _ elf5 (by simp; exact nlf) fun _ z => by cases z)) (fun i x σ H6 H7 hi h hy => ?_) (fun σ H6 h => ?_)
      · obtain ⟨y6, y7, ac, rfl, S6, elg, hac⟩ := h
        obtain ⟨rfl, hx⟩ := hy
        have hi' : i < (prodR ((ks.map (laPairs tn a)).take q)).length := by omega
        obtain ⟨dd, hdd, vd⟩ := hacc5.at hx
        rw [List.getElem?_map, List.getElem?_eq_getElem hi'] at hdd
        have hcm := List.getElem_mem hi'
        have hci := List.getElem?_eq_getElem hi'
        generalize (prodR ((ks.map (laPairs tn a)).take q))[i] = c at *
        have hcl : c.length < 1000 := by
          rw [prod_width hcm, List.length_take]
          omega
        obtain rfl : keptL c = dd := Option.some.inj hdd
        obtain ⟨ca, _, rfl, _, _⟩ := Vd.untup (ds := c.map kpD) (vd.keep ntg S6.k)
        have hml := more_len (prodR ((ks.map (laPairs tn a)).take q)) (laPairs tn a nm) (i + 1)
        rw [more_take hci, List.length_append, List.length_map] at hml
        have hal := hac.len
        rw [List.length_map] at hal
        have S06 : Stp G [] H H7 := Stp.fresh S05.k S6 fun b hb => by rw [List.mem_singleton.mp hb]; exact flg
        have hlt6 := hlt.ext S06.k
        have hma6 := S06.k _ _ hma (by simp) fun _ z => by cases z
        have hlp : laPairs tn a nm = pairsFrom (inV (V.str nm) (tn.map V.str)) 0 d0 (restV nm a.ep) := by
          unfold laPairs
          rw [hlv, inV_str]
        refine ⟨_, rfl, .inl ⟨rfl, _, SqL.of elg⟩, _, rfl, _, rfl, _, rfl, _, rfl, ma, _, rfl, .inl (SqL.of hma6), rfl, all_flat_str _, lt, nm, inV (V.str nm) (tn.map V.str), a, d0, rfl, hlt6, hd0, fi.sm, (by rw [← hlv]; exact fi.s nm hnk), (by rw [← hlp]; exact hpn), S6.t, fun lp us H8 S8 elp hus flp => ?_⟩
        rw [← hlp] at hus
        have hul := hus.len
        rw [List.length_map] at hul
        have vd8 := (vd.keep ntg S6.k).ext S8.k
        have elg8 := S8.k _ _ elg (by simp) fun _ z => by cases z
        refine ⟨lp, rfl, ⟨_, SqL.of elp⟩, fun D hD => ?_⟩
        obtain ⟨HD, hHD⟩ : ∃ X, X = upd H8 D (.lst []) := ⟨_, rfl⟩
        have SD : Stp G [] H8 HD := by rw [hHD]; exact .new S8.t hD
        have eD : HD D = some (.lst []) := by rw [hHD]; exact upd_same
        have ntD0 := noT_lst eD
        have nlD : lp ≠ D := ne_of_none elp hD
        refine lc_it (walk_list (xs := us)) (fun j H' => Stp G [D] HD H' ∧ ∃ aj, H' D = some (.lst aj) ∧ aj.length = j ∧ Vds K H' aj ((((laPairs tn a nm).map fun w => c ++ [w]).map keptL).take j))
          (by rw [← hHD]; exact ⟨.refl SD.t, [], eD, rfl, .nil⟩) (fun j H' _ h => SqL.of (h.1.k _ _ (SD.k _ _ elp (by simp) fun _ z => by cases z) (by simp; exact nlD) fun _ z => by cases z)) (fun j v H9 HX hj h hyy => ?_) (fun H9 h => ?_)
        · obtain ⟨S9, aj, eaj, hajl, haj⟩ := h
          obtain ⟨rfl, hxj⟩ := hyy
          obtain ⟨dd, hdd, vd9⟩ := hus.at hxj
          have hj' : j < (laPairs tn a nm).length := by omega
          have hwj := List.getElem?_eq_getElem hj'
          rw [List.getElem?_map, hwj] at hdd
          generalize (laPairs tn a nm)[j] = kp at *
          obtain rfl : kpD kp = dd := Option.some.inj hdd
          refine ⟨rfl, iteT (B := Stp G [D] HD HX ∧ ∃ aj, HX D = some (.lst aj) ∧ aj.length = j + 1 ∧ Vds K HX aj ((((laPairs tn a nm).map fun w => c ++ [w]).map keptL).take (j + 1))) ?_⟩
          refine ⟨_, rfl, _, rfl, by show 1 ≤ sizeLine; decide, fun t1 ht1 => ?_⟩
          refine cat_cont (cat_one S9.t ((vd8.ext SD.k).keep ntD0 S9.k) ((vd9.ext SD.k).keep ntD0 S9.k) (by rw [List.length_map]; exact hcl) ht1) fun v10 H10 ⟨S10, hv10⟩ => ?_
          have eaj10 := S10.k _ _ eaj (by simp) fun _ z => by cases z
          refine ⟨aj, eaj10, Nat.lt_of_lt_of_le (show aj.length < 1000000 by omega) (by decide), ?_⟩
          have S11 : Stp G [D] H10 (upd H10 D (.lst (aj ++ [v10]))) := .put S10.t (by simp) eaj10 notc_lst
          refine ⟨S9.trans (S10.up.trans S11), _, upd_same, by rw [List.length_append, hajl] <;> rfl, ?_⟩
          have hset : (((laPairs tn a nm).map fun w => c ++ [w]).map keptL)[j]? = some (keptL (c ++ [kp])) := by rw [List.getElem?_map, List.getElem?_map, hwj] <;> rfl
          rw [take_succ' hset]
          refine Vds.keep (noT_lst eaj10) S11.k ((haj.ext S10.k).snoc ?_)
          unfold keptL
          rw [List.map_append]
          exact hv10
        · obtain ⟨S9, aj, eaj, hajl, haj⟩ := h
          rw [List.take_of_length_le (by rw [List.length_map, List.length_map]; omega)] at haj
          have S89 : Stp G [] H8 H9 := Stp.hide SD.k S9 (fr0_none hD)
          have S79 := S8.trans S89
          have elg9 := S89.k _ _ elg8 (by simp) fun _ z => by cases z
          refine ⟨lg, D, ac, aj, rfl, rfl, elg9, eaj, Nat.le_of_lt (Nat.lt_of_lt_of_le (show ac.length + aj.length < 1000001 by omega) (by decide)), ?_⟩
          have S10 : Stp G [lg] H9 (upd H9 lg (.lst (ac ++ aj))) := .put S89.t (by simp) elg9 notc_lst
          refine ⟨_, _, _, rfl, S6.trans (S79.up.trans S10), upd_same, ?_⟩
          rw [more_take hci, List.map_append]
          exact Vds.keep (noT_lst elg9) S10.k (vds_app (hac.ext S79.k) haj)
      · obtain ⟨y6, y7, ac, rfl, S6, elg, hac⟩ := h
        rw [List.take_of_length_le (by omega), ← hpt] at hac
        exact ⟨_, rfl, lg, _, _, _, _, _, rfl, Stp.fresh S05.k S6 (fun b hb => by rw [List.mem_singleton.mp hb]; exact flg), elg, hac⟩
    · obtain ⟨lf, x4, x5, x6, x7, acc0, rfl, S3, elf, hacc0⟩ := h
      have hq0 := fi.q (ks.map V.str).length
      rw [show (ks.map (laPairs tn a)).take (ks.map V.str).length = ks.map (laPairs tn a) from List.take_of_length_le (by rw [List.length_map, List.length_map]; exact Nat.le_refl _)] at hacc0 hq0
      have hacl := hacc0.len
      rw [List.length_map] at hacl
      refine ⟨_, rfl, lf, rfl, ⟨_, SqL.of elf⟩, fun D hD => ?_⟩
      obtain ⟨HD, hHD⟩ : ∃ X, X = upd H3 D (.lst []) := ⟨_, rfl⟩
      have SD : Stp G [] H3 HD := by rw [hHD]; exact .new S3.t hD
      have eD : HD D = some (.lst []) := by rw [hHD]; exact upd_same
      have ntD0 := noT_lst eD
      have nlD : lf ≠ D := ne_of_none elf hD
      have S0D := S3.trans SD
      have nnD : na ≠ D := fun z => by
        have e := S3.k _ _ hna (by simp) fun _ z => by cases z
        exact ne_of_none e hD z
      have hltD := hlt.ext S0D.k
      refine lc_it (walk_list (xs := acc0)) (fun i H' => Stp G [D] HD H' ∧ ∃ ac, H' D = some (.lst ac) ∧ ac.length ≤ i ∧ Vds K H' ac ((((prodR (ks.map (laPairs tn a))).take i).filter (fitsR ks (ks.map fun _ => 0) a.ep)).map keptL))
        (by rw [← hHD]; exact ⟨.refl SD.t, [], eD, Nat.le_refl _, .nil⟩) (fun i H' _ h => SqL.of (h.1.k _ _ (SD.k _ _ elf (by simp) fun _ z => by cases z) (by simp; exact nlD) fun _ z => by cases z)) (fun i v H4 H5 hi h hyy => ?_) (fun H4 h => ?_)
      · obtain ⟨S4, ac, eac, hal, hac⟩ := h
        obtain ⟨rfl, hx⟩ := hyy
        have hlt4 := hlt.ext (S3.trans (Stp.hide SD.k S4 (fr0_none hD))).k
        obtain ⟨dd, hdd, vd⟩ := hacc0.at hx
        have hi' : i < (prodR (ks.map (laPairs tn a))).length := by omega
        have hci := List.getElem?_eq_getElem hi'
        have hcm := List.getElem_mem hi'
        rw [List.getElem?_map, hci] at hdd
        generalize (prodR (ks.map (laPairs tn a)))[i] = c at *
        obtain rfl : keptL c = dd := Option.some.inj hdd
        obtain ⟨ca, _, rfl, _, _⟩ := Vd.untup (ds := c.map kpD) vd
        have vd5 := (vd.ext SD.k).keep ntD0 S4.k
        have hna5 := S4.k _ _ (S0D.k _ _ hna (by simp) fun _ z => by cases z) (by simp; exact nnD) fun _ z => by cases z
        have hcl : c.length = ks.length := by rw [prod_width hcm, List.length_map]
        refine ⟨rfl, ?_⟩
        refine ⟨_, rfl, _, rfl, _, rfl, lt, na, ca, ks, a, c, rfl, hlt4, hna5, vd5, hcl, hkl, fi.sm, S4.t, fun H6 S6 => ⟨_, rfl, ?_⟩⟩
        have eac6 := S6.k _ _ eac (by simp) fun _ z => by cases z
        have hft := filter_take (q := fitsR ks (ks.map fun _ => 0) a.ep) hci
        cases hfc : fitsR ks (ks.map fun _ => 0) a.ep c with
        | true =>
          rw [hfc, if_pos rfl] at hft
          refine iteT ?_
          refine ⟨_, rfl, ac, eac6, Nat.lt_of_lt_of_le (show ac.length < 1000000 by omega) (by decide), ?_⟩
          have S7 : Stp G [D] H6 (upd H6 D (.lst (ac ++ [V.ref ca]))) := .put S6.t (by simp) eac6 notc_lst
          have ntD := noT_lst eac6
          refine ⟨S4.trans (S6.up.trans S7), _, upd_same, by rw [List.length_append, List.length_singleton]; omega, ?_⟩
          rw [hft, List.map_append]
          exact Vds.keep ntD S7.k ((hac.ext S6.k).snoc (vd5.ext S6.k))
        | false =>
          rw [hfc, if_neg (by simp), List.append_nil] at hft
          refine iteF ⟨S4.trans S6.up, ac, eac6, by omega, ?_⟩
          rw [hft]
          exact hac.ext S6.k
      · obtain ⟨S4, ac, eac, hal, hac⟩ := h
        rw [List.take_of_length_le (by omega)] at hac
        exact k D ac H4 (S3.trans (Stp.hide SD.k S4 (fr0_none hD))) eac hac (S3.k.fr0 (by simp) (fr0_none hD))
end
end K10

namespace K10
open PySem PySem.Spec PyProof.Rows L2 XV XL UU CC FW GX GxR
section
variable {P : Program} {w : World} {K : PySem.W.Frag} {mg : Str → Option Value} {base : Heap} {f : Addr} {fd : FuncData} {G : Tb}
/-- the run of rows, by sorted pages -/
noncomputable def rnOf (rows : List RowD) (sps : Pgs) : RnD := ⟨(execR rows [] ⟨sps, [], []⟩).1.steps, (execR rows [] ⟨sps, [], []⟩).1.said, finD (execR rows [] ⟨sps, [], []⟩), moms sps [] [] ((execR rows [] ⟨sps, [], []⟩).1.steps.map (·.1))⟩
structure RunSide (ps sps : Pgs) (r : RnD) : Prop where
  ms : r.ms = moms sps [] [] (r.steps.map (·.1))
  sl : r.steps.length ≤ 7
  tl : r.notes.length ≤ 7
  ok : ExOk ⟨[], r.steps, r.notes⟩
  few : RunFew r
  pi : PutsIn ps (r.steps.map (·.1))
  lp : ps.length ≤ 6
  nd : (ps.map (·.1)).Nodup
  pf : PgF ps
  pc : ∀ p ∈ r.steps, Wi.pc p.1
theorem rows_job {rows : List RowD} {ks : List Str} {ps sps : Pgs} (hput : ∀ r ∈ rows, PutRow 3 ks r) (hks : ps.map (·.1) = ks) (hpf : PgF ps) (hnd : ks.Nodup) (so : SortedOf ps sps) (hl : rows.length ≤ 7) (hkl : ks.length ≤ 6) :
    PlayJob rows ⟨sps, [], []⟩ 40 ∧ PlayJob rows ⟨ps, [], []⟩ 40 ∧ sps.length < 100000 ∧ RunSide ps sps (rnOf rows sps) ∧ (execR rows [] ⟨ps, [], []⟩).1.steps = (rnOf rows sps).steps ∧ (execR rows [] ⟨ps, [], []⟩).1.said = (rnOf rows sps).notes ∧ finD (execR rows [] ⟨ps, [], []⟩) = (rnOf rows sps).fin := by
  have hok : ∀ r ∈ rows, r.ok ks := fun r hr => (hput r hr).ok
  have hpcs := execR_pc (ks := ks) rows.length rows [] ⟨sps, [], []⟩ (Nat.le_refl _) hput (fun p hp => by simp at hp)
  have hlp : ps.length ≤ 6 := by rw [← List.length_map (f := (·.1)), hks]; exact hkl
  have hls : sps.length ≤ 6 := by
    have := so.perm.length_eq
    rw [List.length_map, List.length_map] at this
    omega
  have hm : ∀ n ∈ ks, n ∈ sps.map (·.1) := fun n hn => so.perm.mem_iff.mpr (by rw [hks]; exact hn)
  have nds : (sps.map (·.1)).Nodup := so.perm.nodup_iff.mpr (by rw [hks]; exact hnd)
  have pfs := hpf.sorted so nds
  have okS : ∀ r ∈ rows, r.ok (sps.map (·.1)) := fun r hr => FW.RowD.ok_mono hm (hok r hr)
  have all := execR_ok (ks := sps.map (·.1)) rows.length rows [] ⟨sps, [], []⟩ (Nat.le_refl _) okS (fun p hp => by simp at hp) pfs ⟨fun p hp => (by simp at hp), fun p hp => (by simp at hp)⟩
  have nm := execR_nm (ks := ks) rows.length rows [] ⟨sps, [], []⟩ (Nat.le_refl _) hok (fun p hp => (by simp at hp))
  obtain ⟨sim, e2⟩ := exec_sim rows.length rows [] ⟨ps, [], []⟩ ⟨sps, [], []⟩ (Nat.le_refl _) ⟨fun n => (so.get n).symm, rfl, rfl⟩
  have h1 : (rnOf rows sps).steps.length ≤ 7 := by
    have := all.sl
    have z : (⟨sps, [], []⟩ : ES).steps.length = 0 := rfl
    show (execR rows [] ⟨sps, [], []⟩).1.steps.length ≤ 7
    omega
  have h2 : (rnOf rows sps).notes.length ≤ 7 := by
    have := all.tl
    have z : (⟨sps, [], []⟩ : ES).said.length = 0 := rfl
    show (execR rows [] ⟨sps, [], []⟩).1.said.length ≤ 7
    omega
  have mf : MoFew (mo0 sps) 1 := ⟨by show sps.length < 100000; omega, by show [[]] ≠ []; simp, Nat.le_refl 1, fun e he => by rw [List.mem_singleton.mp (show e ∈ [[]] from he)]; exact Nat.zero_le _⟩
  refine ⟨⟨rfl, rfl, by omega, by omega, okS, pfs, (by show sps.length < 100000; omega)⟩, ⟨rfl, rfl, by omega, by omega, fun r hr => by show r.ok (ps.map (·.1)); rw [hks]; exact hok r hr, hpf, (by show ps.length < 100000; omega)⟩, by omega, ⟨rfl, h1, h2, ⟨all.ok.st, all.ok.sd⟩, ⟨by omega, fun m hm => ?_⟩, fun n d h => ?_, hlp, by rw [hks]; exact hnd, hpf, hpcs⟩, sim.st, sim.sd, ?_⟩
  · have hm' : m ∈ mo0 sps :: momsFrom [] [] 0 (mo0 sps) ((rnOf rows sps).steps.map (·.1)) := hm
    rcases List.mem_cons.mp hm' with rfl | hm'
    · exact mf.up (by decide)
    · exact (momsFrom_few [] [] _ 0 _ 1 mf (Nat.le_refl 1) m hm').up (by rw [List.length_map]; omega)
  · obtain ⟨q, hq, e⟩ := List.mem_map.mp h
    have := nm q hq
    rw [e] at this
    rw [hks]
    exact this
  · show finD (execR rows [] ⟨ps, [], []⟩) = finD (execR rows [] ⟨sps, [], []⟩)
    unfold finD
    rw [e2]

theorem pgGet_mem {n : Str} {d : PyData} : ∀ {ps : Pgs}, pgGet ps n = some d → (n, d) ∈ ps
  | [], h => by cases h
  | q :: r, h => by
    unfold pgGet at h
    rw [List.lookup_cons] at h
    by_cases e : n = q.1
    · rw [show (n == q.1) = true by simpa using e] at h
      have e2 : q.2 = d := Option.some.inj h
      rw [e, ← e2]
      exact List.mem_cons_self
    · rw [show (n == q.1) = false by simpa using e] at h
      exact List.mem_cons_of_mem _ (pgGet_mem h)
/-- at each moment -/
structure MoAt (tn tn' ks : List Str) (m : Mo) (a : La) : Prop where
  fine : MoFine tn' m
  fit : LaFit tn ks a
  eq : (waysM tn' m).map keptD = (laKept tn ks a).map keptL
  few : (laKept tn ks a).length < 100000
  wd : ∀ c ∈ laKept tn ks a, c.length = ks.length
theorem mo_at {ps sps : Pgs} {r : RnD} {tn tn' ks : List Str} (so : SortedOf ps sps) (sd : RunSide ps sps r) (hpc : ∀ p ∈ ps, PcOk 3 p.2) (hperm : tn'.Perm tn) (hks : ks = sps.map (·.1)) {j : Nat} (hj : j ≤ r.steps.length) {m : Mo} (hm : r.ms[j]? = some m) : MoAt tn tn' ks m (La.walk [] [] 0 ⟨ps, [[]]⟩ ((r.steps.map (·.1)).take j)) := by
  have l0 : LaOk (sps.map (·.1)) (mo0 sps) ⟨ps, [[]]⟩ := ⟨rfl, by simp, so.get, so.get, rfl, rfl⟩
  have hil : j ≤ (r.steps.map (·.1)).length := by rw [List.length_map]; exact hj
  obtain ⟨m', e, lo⟩ := momsFrom_walk [] [] (ks := sps.map (·.1)) (r.steps.map (·.1)) 0 (mo0 sps) ⟨ps, [[]]⟩ l0 (fun j v _ z => by cases z) j hil
  rw [sd.ms] at hm
  have hm' : (mo0 sps :: momsFrom [] [] 0 (mo0 sps) (r.steps.map (·.1)))[j]? = some m := hm
  rw [e] at hm'
  obtain rfl := Option.some.inj hm'
  have fine := walk_fine [] [] (a := ⟨ps, [[]]⟩) rfl rfl sd.pi j hil
  have hpcw : ∀ w ∈ (r.steps.map (·.1)).take j, Wi.pc w := fun w hw => by
    obtain ⟨q, hq, rfl⟩ := List.mem_map.mp (List.mem_of_mem_take hw)
    exact sd.pc q hq
  have pc := walk_pc [] [] _ 0 ⟨ps, [[]]⟩ ⟨hpc, fun e he => by rw [List.mem_singleton.mp (show e ∈ [[]] from he)]; intro p hp; cases hp⟩ hpcw
  have wn := walk_n [] [] ((r.steps.map (·.1)).take j) 0 ⟨ps, [[]]⟩ (by simp)
  have hsl := sd.sl
  rw [List.length_take, List.length_map] at wn
  have few : EpsFew (La.walk [] [] 0 ⟨ps, [[]]⟩ ((r.steps.map (·.1)).take j)).ep := ⟨by
    have e0 : ([[]] : List Pgs).flatten.length = 0 := rfl
    have wn' : _ ≤ ([[]] : List Pgs).flatten.length + min j r.steps.length := wn
    omega, pc.e⟩
  generalize La.walk [] [] 0 ⟨ps, [[]]⟩ ((r.steps.map (·.1)).take j) = a at *
  subst hks
  have nds : (sps.map (·.1)).Nodup := so.perm.nodup_iff.mpr sd.nd
  have ndm : (m'.sync.map (·.1)).Nodup := by rw [lo.ks']; exact nds
  have hlen : sps.length ≤ 6 := by
    have := so.perm.length_eq
    rw [List.length_map, List.length_map] at this
    have := sd.lp
    omega
  have heq := kept_law (tn := tn) hperm lo.ep lo.ne lo.sy ndm
  rw [lo.ks'] at heq
  obtain ⟨b1, b2⟩ := la_bound (tn := tn) (ks := sps.map (·.1)) few nds
  have hfew : (laKept tn (sps.map (·.1)) a).length < 100000 := by
    refine Nat.lt_of_le_of_lt (List.length_filter_le _ _) ?_
    have := b2 (sps.map (·.1)).length
    rw [List.take_of_length_le (by rw [List.length_map]; exact Nat.le_refl _)] at this
    exact this
  have hsv : ∀ p ∈ m'.sync, PcOk 3 p.2 := fun p hp => by
    have h1 := pgGet_nd' ndm hp
    rw [lo.sy] at h1
    exact pc.f _ (pgGet_mem h1)
  have hsy : m'.sync.length = sps.length := by
    have := congrArg List.length lo.ks'
    rw [List.length_map, List.length_map] at this
    exact this
  have hin : ∀ nm ∈ sps.map (·.1), ∃ d, pgGet a.fd nm = some d := fun nm hn => pgGet_in (by rw [fine.kf]; exact so.perm.mem_iff.mp hn)
  refine ⟨⟨by omega, fun p hp => (hsv p hp).k, fun e he p hp => (few.e e (by rw [← lo.ep]; exact he) p hp).k, ?_, ?_⟩, ⟨⟨?_, fun e he => ?_⟩, hin, fun nm hn d hd => ?_, fun nm _ => b1 nm, fun i => Nat.lt_trans (b2 i) (by decide)⟩, heq, hfew, fun c hc => ?_⟩
  · refine stages_ok _ _ ?_ (by rw [lo.ep]; exact few)
    unfold curs
    rw [List.map_map]
    exact ndm
  · have := congrArg List.length heq
    rw [List.length_map, List.length_map] at this
    omega
  · have := fine.el
    omega
  · have := fine.pl e he
    omega
  · rcases List.mem_cons.mp hd with rfl | hd
    · obtain ⟨d0, h0⟩ := hin nm hn
      unfold laV
      rw [h0]
      exact (pc.f _ (pgGet_mem h0)).f.sml
    · obtain ⟨e, he, hde⟩ := List.mem_flatMap.mp hd
      exact (few.e e he _ (pageVals_mem hde)).f.sml
  · rw [prod_width (List.mem_filter.mp hc).1, List.length_map]
end
end K10

namespace K10
open PySem PySem.Spec PyProof.Rows L2 XV XL UU CC FW GX GxR LamX NdefX
section
variable {P : Program} {w : World} {K : PySem.W.Frag} {mg : Str → Option Value} {base : Heap} {f c0 P0 : Addr} {fd : FuncData} {G : Tb} {ta ra : Addr}
theorem sc_law : FnScope ["_law_script", "_law_turn", "_law_draws", "_law_names", "_law_rows", "_law_marks", "_law_name", "_law_boxes", "_law_run_here", "_law_own", "_law_moment", "_law_due", "_law_found"] ["_law_script"] (defScope s_law) := ⟨rfl, rfl, rfl, by decide +kernel, rfl, by decide +kernel, by decide +kernel⟩
def PgP (ps : Pgs) : Prop := ∀ p ∈ ps, PcOk 3 p.2
theorem sqL_keepI {fp : List Addr} {H H' : Hp} {a : Addr} {xs : List V} (h : SqL K H a xs) (hi : InsIn fp H) (k : Keep fp H H') : SqL K H' a xs := by
  rcases h with (h | ⟨o, h⟩) | h
  · exact .inl (.inl (k _ _ h (hi.lst h) fun _ z => by cases z))
  · refine .inl (.inr ⟨o, k _ _ h (fun z => ?_) fun _ z => by cases z⟩)
    obtain ⟨C, dx, fs, e⟩ := hi _ z
    rw [h] at e
    cases e
  · exact .inr h
theorem vds_ints {H : Hp} {ds : List PyData} {a b c : Int} (hd : ∀ d ∈ ds, ∃ es, d = .tuple es) (h : Vds K H [V.int a, V.int b, V.int c] ds) : False := by
  cases h with
  | cons h1 _ =>
    obtain ⟨es, rfl⟩ := hd _ (List.mem_cons_self ..)
    have := h1.dp
    cases this
def spLaw (K : PySem.W.Frag) (G : Tb) : Sp := fun vs H Q _ => ∃ (a : Addr) (ns : List Int), vs = [.ref a] ∧ SqL K H a (ns.map V.int) ∧ ns.length ≤ 63 ∧ Tbs G H ∧ ∀ H', Q (.bl true) H'
theorem ok_law (F : Fn K "law" s_law f fd) (T : Tx K mg)
    (U_law_source : Use P w K mg base (L2.CX P w) "_law_source" 1 ["_law_script", "_law_at"] (spSource K)) (U_law_draw : Use P w K mg base (L2.CX P w) "_law_draw" 1 ["_law_draws", "_law_many"] (spDrawS G)) (U_law_piece : Use P w K mg base (L2.CX P w) "_law_piece" 3 ["_law_draws"] (spPiece K G 3)) (U_law_pick : Use P w K mg base (L2.CX P w) "_law_pick" 2 ["_law_draws", "_law_xs"] (spPick K G))
    (U_law_putting : Use P w K mg base (L2.CX P w) "_law_putting" 4 ["_law_draws", "_law_names", "_law_many"] (spPutting K G 3)) (U_law_play : Use P w K mg base (L2.CX P w) "_law_play" 20 ["_law_rows", "_law_hand"] (spPlay K G))
    (U_law_plan : Use P w K mg base (L2.CX P w) "_law_plan" 24 ["_law_plan_here"] (spLPlan K G)) (U_law_run : Use P w K mg base (L2.CX P w) "_law_run" 14 ["_law_rows", "_law_disk"] (spLRun K G)) (U_law_same : Use P w K mg base (L2.CX P w) "_law_same" 13 ["_law_found", "_law_due"] (spSame K 12))
    (U_Run_of : UStat P w K mg base (L2.CX P w) "Run" "of" 46 ["plan"] (spOf P w K mg base G 4 21))
    (U_law_late : Use P w K mg base (L2.CX P w) "_law_late" 1 ["_law_run_here", "_law_disk", "_law_moment", "_law_board"] (spLate K G)) (U_law_kept : Use P w K mg base (L2.CX P w) "_law_kept" 3 ["_law_late_here", "_law_names", "_law_marks"] (spKept K G))
    (U_Run_kept_at : UMeth P w K mg base (L2.CX P w) (RC K) "kept_at" 11 ["self", "moment"] (spKeptAt K G)) :
    FnOk P w K mg base (L2.CX P w) 50 f fd ["_law_script"] (spLaw K G) := by
  refine F.ok sc_law (fun vs H Q E h => ?_) (fun cdv A outer s H vs Q E hr h => ?_)
  · obtain ⟨_, _, rfl, _⟩ := h
    rfl
  · obtain ⟨a, ns, rfl, hS, hl, ht, k⟩ := h
    refine ⟨_, PSs.nox (pss_cons (ps_for PassesOwn.never rfl (pi_range1 (by rfl) T.n_range (pa_cons (pe_op op_add pe_int (pe_callB (call_min2 rfl) (by rfl) T.n_min (by decide +kernel) (pa_cons (pe_callB call_len (by rfl) T.n_len (by decide +kernel) (pa_cons (pv 0) pa_nil)) (pa_cons pe_int pa_nil)))) pa_nil)) (pg_name (i := 1) sc_law.nd rfl (Or.inl rfl))
      (pss_cons (ps_set (i := 2) sc_law.nd rfl (Or.inr rfl) (pe_useL U_law_source hr (by first | decide | omega) (by rfl) (pa_cons (pv 0) (pa_cons (pv 1) pa_nil))))
      (pss_cons (ps_set (i := 3) sc_law.nd rfl (Or.inl rfl) (pe_slice sl_list (pe_lst (pa_cons pe_str (pa_cons pe_str (pa_cons pe_str (pa_cons pe_str (pa_cons pe_str (pa_cons pe_str pa_nil))))))) po_none (po_some (pe_useL U_law_pick hr (by first | decide | omega) (by rfl) (pa_cons (pv 2) (pa_cons (pe_lst (pa_cons pe_int (pa_cons pe_int (pa_cons pe_int (pa_cons pe_int (pa_cons pe_int (pa_cons pe_int pa_nil))))))) pa_nil))))))
      (pss_cons (ps_set (i := 4) sc_law.nd rfl (Or.inl rfl) (pe_useL U_law_putting hr (by first | decide | omega) (by rfl) (pa_cons (pv 2) (pa_cons (pv 3) (pa_cons (pe_op op_add pe_int (pe_useL U_law_draw hr (by first | decide | omega) (by rfl) (pa_cons (pv 2) (pa_cons (pe_cut (pe_ifExp (pt_cmpR op_gt (pe_callB call_len (by rfl) T.n_len (by decide +kernel) (pa_cons (pv 3) pa_nil)) pe_int (nomark _)) pe_int pe_int)) pa_nil)))) pa_nil)))))
      (pss_cons (ps_setLc (i := 5) (own := [("_law_name", 6)]) (tt := _) rfl sc_law.nd rfl rfl (sw_true rfl rfl rfl (by decide +kernel)) (pi_list (pv 3)) (blkOk_by (N := ["_law_script", "_law_turn", "_law_draws", "_law_names", "_law_rows", "_law_marks", "_law_name", "_law_boxes", "_law_run_here", "_law_own", "_law_moment", "_law_due", "_law_found"]) (sc := defScope s_law) (by decide +kernel)) (fun _ _ _ _ _ => (pg_name (i := 6) sc_law.nd rfl (Or.inl rfl) (hf := .inr rfl))) (fun _ _ _ _ _ => (pts_one (pt_cmpR op_eq (pe_useL U_law_draw hr (by first | decide | omega) (by rfl) (pa_cons (pv 2) (pa_cons pe_int pa_nil))) pe_int (nomark _)))) (fun _ _ _ _ _ => (pv 6)))
      (pss_cons (ps_cut (ps_if (pt_cmpR op_eq (pe_callB call_len (by rfl) T.n_len (by decide +kernel) (pa_cons (pv 3) pa_nil)) pe_int (nomark _)) (pss_one (ps_par (i := 5) (j := 4) (by rfl) sc_law.nd rfl rfl (by decide) rfl rfl (pa_cons (pe_lst pa_nil) (pa_cons (pe_lc (own := [("_law_name", 6)]) (tt := tYes) rfl sc_law.nd (pi_list (pe_revL (pv 3))) (blkOk_by (N := ["_law_script", "_law_turn", "_law_draws", "_law_names", "_law_rows", "_law_marks", "_law_name", "_law_boxes", "_law_run_here", "_law_own", "_law_moment", "_law_due", "_law_found"]) (sc := defScope s_law) (by decide +kernel)) (fun _ _ _ _ _ => (pg_name (i := 6) sc_law.nd rfl (Or.inl rfl) (hf := .inr rfl))) (fun _ _ _ _ _ => pts_nil) (fun _ _ _ _ _ => (pe_tup (pa_cons pe_str (pa_cons (pv 6) (pa_cons (pe_tup (pa_cons (pe_tup (pa_cons pe_str (pa_cons (pe_useL U_law_piece hr (by first | decide | omega) (by rfl) (pa_cons (pv 2) pa_nil)) pa_nil))) pa_nil)) (pa_cons pe_int pa_nil))))))) pa_nil)) (by rfl))) pss_nil))
      (pss_cons (ps_set (i := 7) sc_law.nd rfl (Or.inl rfl) (pe_cut (pe_callTy (call_dictP rfl) (by rfl) T.n_dict (by decide +kernel) (pa_cons (pe_lc (own := [("_law_name", 6)]) (tt := tYes) rfl sc_law.nd (pi_list (pv 3)) (blkOk_by (N := ["_law_script", "_law_turn", "_law_draws", "_law_names", "_law_rows", "_law_marks", "_law_name", "_law_boxes", "_law_run_here", "_law_own", "_law_moment", "_law_due", "_law_found"]) (sc := defScope s_law) (by decide +kernel)) (fun _ _ _ _ _ => (pg_name (i := 6) sc_law.nd rfl (Or.inl rfl) (hf := .inr rfl))) (fun _ _ _ _ _ => pts_nil) (fun _ _ _ _ _ => (pe_tup (pa_cons (pv 6) (pa_cons (pe_useL U_law_piece hr (by first | decide | omega) (by rfl) (pa_cons (pv 2) pa_nil)) pa_nil))))) pa_nil))))
      (pss_cons (ps_par (i := 8) (j := 9) (by rfl) sc_law.nd rfl rfl (by decide) rfl rfl (pa_cons (pe_ust' U_Run_of hr (by first | decide | omega) (by rfl) (pa_cons (pe_useL U_law_plan hr (by first | decide | omega) (by rfl) (pa_cons (pe_tup (pa_cons (pv 4) (pa_cons (pe_lst pa_nil) (pa_cons (pv 7) (pa_cons (pv 5) pa_nil))))) pa_nil)) pa_nil)) (pa_cons (pe_useL U_law_run hr (by first | decide | omega) (by rfl) (pa_cons (pv 4) (pa_cons (pv 7) pa_nil))) pa_nil)) (by rfl))
      (pss_one (ps_for PassesOwn.never rfl (pi_range1 (by rfl) T.n_range (pa_cons (pe_op op_add (pe_callB call_len (by rfl) T.n_len (by decide +kernel) (pa_cons (pe_ix ix_tup (pv 9) pe_int (fun _ _ => rfl)) pa_nil)) pe_int) pa_nil)) (pg_name (i := 10) sc_law.nd rfl (Or.inl rfl))
      (pss_cons (ps_set (i := 11) sc_law.nd rfl (Or.inl rfl) (pe_useL U_law_kept hr (by first | decide | omega) (by rfl) (pa_cons (pe_useL U_law_late hr (by first | decide | omega) (by rfl) (pa_cons (pv 9) (pa_cons (pv 7) (pa_cons (pv 10) (pa_cons (pe_tup (pa_cons (pe_tup pa_nil) (pa_cons (pe_tup pa_nil) pa_nil))) pa_nil))))) (pa_cons (pe_callB cr_sortedS (by rfl) T.n_sorted (by decide +kernel) (pa_cons (pv 3) pa_nil)) (pa_cons (pv 5) pa_nil)))))
      (pss_cons (ps_set (i := 12) sc_law.nd rfl (Or.inl rfl) (pe_um' (pv 8) T.K_Run U_Run_kept_at hr (by first | decide | omega) (pa_cons (pv 10) pa_nil)))
      (pss_cons (ps_if (pt_not (pt_val (pe_useL U_law_same hr (by first | decide | omega) (by rfl) (pa_cons (pv 12) (pa_cons (pv 11) pa_nil))))) (pss_one (ps_ret pe_bl)) pss_nil)
      (pss_cons (ps_expr (pe_bm PySem.F.plainAttrs_list PySem.F.slot_list_append PySem.F.type_list_append mt_append (pv 12) (pa_cons pe_str pa_nil)))
      (pss_one (ps_if (pt_not (pt_val (pe_useL U_law_same hr (by first | decide | omega) (by rfl) (pa_cons (pe_um' (pv 8) T.K_Run U_Run_kept_at hr (by first | decide | omega) (pa_cons (pv 10) pa_nil)) (pa_cons (pv 11) pa_nil))))) (pss_one (ps_ret pe_bl)) pss_nil))))))))))))))))
      (pss_one (ps_ret pe_bl))), ?_⟩
    refine ⟨_, rfl, _, _, rfl, .inl ⟨_, hS, rfl⟩, _, _, rfl, _, _, rfl, rfl, _, rfl, ?_⟩
    generalize hNN : (2 + if (3 : Int) < ((ns.map V.int).length : Nat) then (3 : Int) else ((ns.map V.int).length : Nat)) = N
    have hN0 : 0 ≤ N ∧ N ≤ 70 := by
      rw [← hNN]
      rw [List.length_map]
      split <;> omega
    refine ⟨by omega, by omega, for_range (lo := 0) (n := N.toNat) (fun i σ H2 => (∃ o1 o2 o3 o4 o5 o6 o7 o8 o9 o10 o11 o12 : Option V, σ = [some (.ref a), o1, o2, o3, o4, o5, o6, o7, o8, o9, o10, o11, o12]) ∧ SqL K H2 a (ns.map V.int) ∧ Tbs G H2) ⟨⟨none, none, none, none, none, none, none, none, none, none, none, none, rfl⟩, hS, ht⟩ ?_ ?_⟩
    · rintro i σ H1 hi ⟨⟨o1, o2, o3, o4, o5, o6, o7, o8, o9, o10, o11, o12, rfl⟩, hS1, t1⟩
      refine ⟨_, rfl, _, rfl, a, ns, i, (by rw [Int.zero_add] <;> rfl), hS1, hl, fun p da db hp hda hdb hdb2 => ?_⟩
      have S2 := FW.Stp.new (fp := []) (o := (.lst [V.int da, V.int db, V.int 0])) t1 hp
      have e2 : L2.upd H1 p (.lst [V.int da, V.int db, V.int 0]) p = some (.lst [V.int da, V.int db, V.int 0]) := L2.upd_same
      generalize L2.upd H1 p (.lst [V.int da, V.int db, V.int 0]) = H2 at *
      have d2 : DrawAt H2 p 0 := ⟨da, db, 0, e2, hda, hdb, hdb2, by decide, by decide⟩
      refine ⟨by show 6 ≤ sizeLine; decide, fun l0 hl0 => ?_⟩
      have S3 := FW.Stp.new (fp := []) (o := (.lst [V.str "x", V.str "b", V.str "p", V.str "d", V.str "a", V.str "f"])) S2.t hl0
      have e3 : L2.upd H2 l0 (.lst [V.str "x", V.str "b", V.str "p", V.str "d", V.str "a", V.str "f"]) l0 = some (.lst [V.str "x", V.str "b", V.str "p", V.str "d", V.str "a", V.str "f"]) := L2.upd_same
      generalize L2.upd H2 l0 (.lst [V.str "x", V.str "b", V.str "p", V.str "d", V.str "a", V.str "f"]) = H3 at *
      have d3 := drawAt_keep d2 (by simp) S3.k
      have n0p : l0 ∉ [p] := fun z => by rw [List.mem_singleton.mp z, e2] at hl0; cases hl0
      refine ⟨_, rfl, by show 6 ≤ sizeLine; decide, fun xa hxa => ?_⟩
      have S4 := FW.Stp.new (fp := []) (o := (.lst [V.int 1, V.int 2, V.int 3, V.int 2, V.int 3, V.int 6])) S3.t hxa
      have e4 : L2.upd H3 xa (.lst [V.int 1, V.int 2, V.int 3, V.int 2, V.int 3, V.int 6]) xa = some (.lst [V.int 1, V.int 2, V.int 3, V.int 2, V.int 3, V.int 6]) := L2.upd_same
      generalize L2.upd H3 xa (.lst [V.int 1, V.int 2, V.int 3, V.int 2, V.int 3, V.int 6]) = H4 at *
      have d4 := drawAt_keep d3 (by simp) S4.k
      have nxp : xa ≠ p := by
        obtain ⟨_, _, _, e, _⟩ := d3
        exact Ne.symm (ne_of_none e hxa)
      refine ⟨p, xa, _, _, rfl, SqL.of e4, nxp, by simp, by show 6 ≤ 1000; decide, d4, by decide, S4.t, fun x H5 hx S5 d5 => ?_⟩
      have e05 := (S4.up.trans S5).k _ _ e3 n0p fun _ z => by cases z
      have gu : ∃ (r : Int) (ks : List Str), x = .int r ∧ cutV [V.str "x", V.str "b", V.str "p", V.str "d", V.str "a", V.str "f"] none (some r) = ks.map V.str ∧ ks ≠ [] ∧ ks.Nodup ∧ (∀ k ∈ ks, wordB k = true) ∧ ks.length ≤ 6 ∧ (ks.length ≤ 2 ∨ ks.length = 3 ∨ ks.length = 6) := by
        simp only [List.mem_cons, List.mem_nil_iff, or_false] at hx
        have c1 : ∃ (r : Int) (ks : List Str), V.int 1 = .int r ∧ cutV [V.str "x", V.str "b", V.str "p", V.str "d", V.str "a", V.str "f"] none (some r) = ks.map V.str ∧ ks ≠ [] ∧ ks.Nodup ∧ (∀ k ∈ ks, wordB k = true) ∧ ks.length ≤ 6 ∧ (ks.length ≤ 2 ∨ ks.length = 3 ∨ ks.length = 6) := ⟨1, ["x"], rfl, rfl, by decide, by decide, by decide +kernel, by decide, by decide⟩
        have c2 : ∃ (r : Int) (ks : List Str), V.int 2 = .int r ∧ cutV [V.str "x", V.str "b", V.str "p", V.str "d", V.str "a", V.str "f"] none (some r) = ks.map V.str ∧ ks ≠ [] ∧ ks.Nodup ∧ (∀ k ∈ ks, wordB k = true) ∧ ks.length ≤ 6 ∧ (ks.length ≤ 2 ∨ ks.length = 3 ∨ ks.length = 6) := ⟨2, ["x", "b"], rfl, rfl, by decide, by decide, by decide +kernel, by decide, by decide⟩
        have c3 : ∃ (r : Int) (ks : List Str), V.int 3 = .int r ∧ cutV [V.str "x", V.str "b", V.str "p", V.str "d", V.str "a", V.str "f"] none (some r) = ks.map V.str ∧ ks ≠ [] ∧ ks.Nodup ∧ (∀ k ∈ ks, wordB k = true) ∧ ks.length ≤ 6 ∧ (ks.length ≤ 2 ∨ ks.length = 3 ∨ ks.length = 6) := ⟨3, ["x", "b", "p"], rfl, rfl, by decide, by decide, by decide +kernel, by decide, by decide⟩
        have c6 : ∃ (r : Int) (ks : List Str), V.int 6 = .int r ∧ cutV [V.str "x", V.str "b", V.str "p", V.str "d", V.str "a", V.str "f"] none (some r) = ks.map V.str ∧ ks ≠ [] ∧ ks.Nodup ∧ (∀ k ∈ ks, wordB k = true) ∧ ks.length ≤ 6 ∧ (ks.length ≤ 2 ∨ ks.length = 3 ∨ ks.length = 6) := ⟨6, ["x", "b", "p", "d", "a", "f"], rfl, rfl, by decide, by decide, by decide +kernel, by decide, by decide⟩
        rcases hx with rfl | rfl | rfl | rfl | rfl | rfl
        · exact c1
        · exact c2
        · exact c3
        · exact c2
        · exact c3
        · exact c6
      obtain ⟨rr, ks, rfl, hcut, hk0, hknd, hkw, hkl, hk3⟩ := gu
      refine ⟨rr, rfl, l0, _, rfl, SqL.of e05, fun na hna => ?_⟩
      rw [hcut]
      have S6 := FW.Stp.new (fp := []) (o := (.lst (ks.map V.str))) S5.t hna
      have e6 : L2.upd H5 na (.lst (ks.map V.str)) na = some (.lst (ks.map V.str)) := L2.upd_same
      generalize L2.upd H5 na (.lst (ks.map V.str)) = H6 at *
      have d6 := drawAt_keep d5 (by simp) S6.k
      have nap : na ≠ p := fun z => by
        obtain ⟨_, _, _, e, _⟩ := d5
        rw [z, e] at hna
        cases hna
      have nap' : na ∉ [p] := fun z => nap (List.mem_singleton.mp z)
      refine ⟨_, rfl, _, rfl, _, rfl, fun v H' => H' = H6 ∧ ∃ m : Int, v = .int m ∧ (m = 3 ∨ m = 5), ?_, ?_⟩
      · refine ⟨_, rfl, _, _, rfl, .inl ⟨_, SqL.of e6, rfl⟩, _, _, rfl, rfl, _, rfl, ite2 (fun _ => ⟨rfl, 3, rfl, .inl rfl⟩) fun _ => ⟨rfl, 5, rfl, .inr rfl⟩⟩
      rintro _ _ ⟨rfl, mm, rfl, hmm⟩
      refine ⟨p, mm, _, rfl, d6, by decide, by omega, by omega, S6.t, fun r1 H7 hr10 hr11 S7 d7 => ?_⟩
      have e7 := S7.k _ _ e6 nap' fun _ z => by cases z
      refine ⟨_, _, rfl, rfl, p, na, ks, 3 + r1, _, rfl, d7, by decide, e7, nap, hk0, by omega, by omega, by omega, S7.t, fun q1 H8 rv1 rows1 S8 eq1 hv1 hl1 hpr1 fq1 d8 => ?_⟩
      have e8 := S8.k _ _ e7 nap' fun _ z => by cases z
      have nq1 : q1 ∉ [p] := fun z => by
        obtain ⟨_, _, _, e, _⟩ := d7
        exact FW.Fr0.ne fq1 e (fun _ z => by cases z) (List.mem_singleton.mp z).symm
      have c1 : (0 : Int) + 1 + 1 + 200 ≤ 990000 := by decide
      generalize (0 : Int) + 1 + 1 + 200 = cN at *
      have hrl1 : rows1.length ≤ 7 := by omega
      -- the marks
      refine ⟨_, rfl, na, rfl, ⟨_, SqL.of e8⟩, fun D hD => ?_⟩
      obtain ⟨HD, hHD⟩ : ∃ X, X = upd H8 D (.lst []) := ⟨_, rfl⟩
      have SD : Stp G [] H8 HD := by rw [hHD]; exact .new S8.t hD
      have eD : HD D = some (.lst []) := by rw [hHD]; exact upd_same
      have npD : p ≠ D := by
        obtain ⟨_, _, _, e, _⟩ := d8
        exact ne_of_none e hD
      have nnD : na ≠ D := ne_of_none e8 hD
      have e8D := SD.k _ _ e8 (by simp) fun _ z => by cases z
      refine lc_it (walk_list (xs := ks.map V.str)) (fun j H' => Stp G [D, p] HD H' ∧ DrawAt H' p (cN + j) ∧ ∃ mk : List Str, H' D = some (.lst (mk.map V.str)) ∧ mk.Sublist (ks.take j))
        (by rw [← hHD]; exact ⟨.refl SD.t, (drawAt_keep d8 (by simp) SD.k).mono (by omega), [], eD, List.nil_sublist _⟩) (fun j H' _ h => SqL.of (h.1.k _ _ e8D (by simp; exact ⟨nnD, nap⟩) fun _ z => by cases z)) (fun j v HA9 HB9 hj h hyy => ?_) (fun HA9 h => ?_)
      · obtain ⟨S9, d9, mk, em, hsub⟩ := h
        obtain ⟨rfl, hx⟩ := hyy
        rw [List.getElem?_map] at hx
        obtain ⟨nm, hnm, rfl⟩ := Option.map_eq_some_iff.mp hx
        rw [List.length_map] at hj
        refine ⟨rfl, ?_⟩
        refine ⟨_, rfl, p, 2, _, rfl, d9, by omega, by decide, by decide, S9.t, fun r2 H10 _ _ S10 d10 => ⟨rfl, _, rfl, ?_⟩⟩
        have em10 := S10.k _ _ em (by simp; exact Ne.symm npD) fun _ z => by cases z
        have S910 := S9.trans (S10.mono fun b hb => by rw [List.mem_singleton.mp hb]; simp)
        have hml : mk.length ≤ j := by
          have := hsub.length_le
          rw [List.length_take] at this
          omega
        refine ite2 (fun _ => ?_) fun _ => ?_
        · refine ⟨_, rfl, _, em10, by rw [List.length_map]; exact Nat.lt_of_le_of_lt (show mk.length ≤ 6 by omega) (by decide), ?_⟩
          have S11 : Stp G [D] H10 (upd H10 D (.lst (mk.map V.str ++ [V.str nm]))) := .put S10.t (by simp) em10 notc_lst
          refine ⟨S910.trans (S11.mono fun b hb => by rw [List.mem_singleton.mp hb]; simp), (drawAt_keep d10 (by simp; exact npD) S11.k).mono (by omega), mk ++ [nm], by rw [upd_same, List.map_append] <;> rfl, ?_⟩
          rw [take_succ' hnm]
          exact hsub.append (List.Sublist.refl _)
        · refine ⟨S910, d10.mono (by omega), mk, em10, ?_⟩
          rw [take_succ' hnm]
          exact hsub.trans (List.sublist_append_left _ _)
      obtain ⟨S9, d9, mk1, em9, hsub1⟩ := h
      rw [List.take_of_length_le (by rw [List.length_map]; exact Nat.le_refl _)] at hsub1
      rw [List.length_map] at d9
      have S89 : Stp G [p] H8 HA9 := Stp.hide SD.k S9 (fr0_none hD)
      have e9 := S89.k _ _ e8 nap' fun _ z => by cases z
      have eq19 := S89.k _ _ eq1 nq1 fun _ z => by cases z
      have hv19 := hv1.keep d8.noT S89.k
      have d9' : DrawAt HA9 p (cN + 10) := d9.mono (by omega)
      have nDp : D ∉ [p] := fun z => npD (List.mem_singleton.mp z).symm
      refine ⟨fun σ H' => ∃ (ml rl : Addr) (mk : List Str) (rows : List RowD) (rv : List V) (y6 : Option V), σ = [some (.ref a), some (.int (0 + (i : Nat))), some (.ref p), some (.ref na), some (.ref rl), some (.ref ml), y6, o7, o8, o9, o10, o11, o12] ∧ Stp G [p] HA9 H' ∧ H' ml = some (.lst (mk.map V.str)) ∧ mk.Sublist ks ∧ H' rl = some (.lst rv) ∧ Vds K H' rv (rows.map RowD.data) ∧ rows.length ≤ 7 ∧ (∀ r ∈ rows, PutRow 3 ks r) ∧ DrawAt H' p (cN + 30), ?_, ?_⟩
      · refine ⟨_, rfl, _, _, rfl, .inl ⟨_, SqL.of e9, rfl⟩, rfl, _, rfl, ite2 (fun _ => ?_) fun _ => ?_⟩
        · refine ⟨by show 0 ≤ sizeLine; decide, fun ml hml => ?_⟩
          have S10 := FW.Stp.new (fp := []) (o := (.lst [])) S89.t hml
          have e10 : L2.upd HA9 ml (.lst []) ml = some (.lst []) := L2.upd_same
          generalize L2.upd HA9 ml (.lst []) = H10 at *
          have d10 := drawAt_keep d9' (by simp) S10.k
          have ena10 := S10.k _ _ e9 (by simp) fun _ z => by cases z
          have nmp : ml ∉ [p] := fun z => by
            obtain ⟨_, _, _, e, _⟩ := d9'
            rw [List.mem_singleton.mp z, e] at hml
            cases hml
          refine ⟨_, rfl, na, _, rfl, SqL.of ena10, fun rvv hrvv => ?_⟩
          have S11 := FW.Stp.new (fp := []) (o := (.lst (ks.map V.str).reverse)) S10.t hrvv
          have e11 : L2.upd H10 rvv (.lst (ks.map V.str).reverse) rvv = some (.lst (ks.map V.str).reverse) := L2.upd_same
          generalize L2.upd H10 rvv (.lst (ks.map V.str).reverse) = H11 at *
          have d11 := drawAt_keep d10 (by simp) S11.k
          have nrp : rvv ∉ [p] := fun z => by
            obtain ⟨_, _, _, e, _⟩ := d10
            rw [List.mem_singleton.mp z, e] at hrvv
            cases hrvv
          have nrp2 : rvv ≠ p := fun z => nrp (by rw [z]; simp)
          refine ⟨rvv, rfl, ⟨_, SqL.of e11⟩, fun D2 hD2 => ?_⟩
          obtain ⟨HE, hHE⟩ : ∃ X, X = upd H11 D2 (.lst []) := ⟨_, rfl⟩
          have SE : Stp G [] H11 HE := by rw [hHE]; exact .new S11.t hD2
          have eD2 : HE D2 = some (.lst []) := by rw [hHE]; exact upd_same
          have npD2 : p ≠ D2 := by
            obtain ⟨_, _, _, e, _⟩ := d11
            exact ne_of_none e hD2
          have nrD2 : rvv ≠ D2 := ne_of_none e11 hD2
          have e11E := SE.k _ _ e11 (by simp) fun _ z => by cases z
          have hrevl : (ks.map V.str).reverse.length ≤ 6 := by
            rw [List.length_reverse, List.length_map]
            exact hkl
          refine lc_it (walk_list (xs := (ks.map V.str).reverse)) (fun j H' => Stp G [D2, p] HE H' ∧ DrawAt H' p (cN + 10 + j) ∧ ∃ (rv : List V) (rows : List RowD), H' D2 = some (.lst rv) ∧ Vds K H' rv (rows.map RowD.data) ∧ rows.length = j ∧ ∀ r ∈ rows, PutRow 3 ks r)
            (by rw [← hHE]; exact ⟨.refl SE.t, (drawAt_keep d11 (by simp) SE.k).mono (by omega), [], [], eD2, .nil, rfl, fun _ z => by simp at z⟩) (fun j H' _ h => SqL.of (h.1.k _ _ e11E (by simp; exact ⟨nrD2, nrp2⟩) fun _ z => by cases z)) (fun j v HA12 HB12 hj h hyy => ?_) (fun HA12 h => ?_)
          · obtain ⟨S12, d12, rv, rows, erv, hrv, hrl, hpr⟩ := h
            obtain ⟨rfl, hx⟩ := hyy
            have hxm := List.mem_reverse.mp (List.mem_of_getElem? hx)
            obtain ⟨nm, hnm, rfl⟩ := List.mem_map.mp hxm
            refine ⟨rfl, iteT (B := Stp G [D2, p] HE HB12 ∧ DrawAt HB12 p (cN + 10 + (j + 1 : Nat)) ∧ ∃ (rv : List V) (rows : List RowD), HB12 D2 = some (.lst rv) ∧ Vds K HB12 rv (rows.map RowD.data) ∧ rows.length = j + 1 ∧ ∀ r ∈ rows, PutRow 3 ks r) ?_⟩
            refine ⟨_, rfl, _, rfl, p, _, rfl, d12, by omega, S12.t, fun u dd H13 hfl S13 hu d13 => ?_⟩
            refine ⟨by show 2 ≤ sizeLine; decide, fun t1 ht1 => ?_⟩
            have S14 := FW.Stp.new (fp := []) (o := (.tup [V.str "value", u])) S13.t ht1
            have e14 : L2.upd H13 t1 (.tup [V.str "value", u]) t1 = some (.tup [V.str "value", u]) := L2.upd_same
            generalize L2.upd H13 t1 (.tup [V.str "value", u]) = H14 at *
            refine ⟨by show 1 ≤ sizeLine; decide, fun t2 ht2 => ?_⟩
            have S15 := FW.Stp.new (fp := []) (o := (.tup [V.ref t1])) S14.t ht2
            have e15 : L2.upd H14 t2 (.tup [V.ref t1]) t2 = some (.tup [V.ref t1]) := L2.upd_same
            generalize L2.upd H14 t2 (.tup [V.ref t1]) = H15 at *
            refine ⟨by show 4 ≤ sizeLine; decide, fun t3 ht3 => ?_⟩
            have S16 := FW.Stp.new (fp := []) (o := (.tup [V.str "put", V.str nm, V.ref t2, V.int 9])) S15.t ht3
            have e16 : L2.upd H15 t3 (.tup [V.str "put", V.str nm, V.ref t2, V.int 9]) t3 = some (.tup [V.str "put", V.str nm, V.ref t2, V.int 9]) := L2.upd_same
            generalize L2.upd H15 t3 (.tup [V.str "put", V.str nm, V.ref t2, V.int 9]) = H16 at *
            have S1516 := S15.trans S16
            have S1316 := S14.trans S1516
            have S1216 := S13.trans S1316.up
            have erv16 := S1216.k _ _ erv (by simp; exact Ne.symm npD2) fun _ z => by cases z
            have hrv16 := hrv.keep d12.noT S1216.k
            have d16 := drawAt_keep d13 (by simp) S1316.k
            refine ⟨rv, erv16, by rw [hrv.len, List.length_map, hrl]; exact Nat.lt_of_le_of_lt (show j ≤ 6 by omega) (by decide), ?_⟩
            have S17 : Stp G [D2] H16 (upd H16 D2 (.lst (rv ++ [V.ref t3]))) := .put S16.t (by simp) erv16 notc_lst
            have w1 : Vd K H16 (.ref t1) (.tuple [.str "value", dd]) := .tup (.of (S1516.k _ _ e14 (by simp) fun _ z => by cases z)) (.cons ⟨.str _, rfl⟩ (.cons (hu.ext S1316.k) .nil))
            have w3 : Vd K H16 (.ref t3) (RowD.data (.put nm (.value dd))) := .tup (.of e16) (.cons ⟨.str _, rfl⟩ (.cons ⟨.str _, rfl⟩ (.cons (.tup (.of (S16.k _ _ e15 (by simp) fun _ z => by cases z)) (.cons w1 .nil)) (.cons ⟨.int _, rfl⟩ .nil))))
            refine ⟨S12.trans ((S1216.mono fun b hb => by rw [List.mem_singleton.mp hb]; simp).trans (S17.mono fun b hb => by rw [List.mem_singleton.mp hb]; simp)), (drawAt_keep d16 (by simp; exact npD2) S17.k).mono (by omega), _, rows ++ [.put nm (.value dd)], upd_same, ?_, by rw [List.length_append, hrl] <;> rfl, fun r hr => ?_⟩
            · rw [List.map_append]
              exact Vds.keep (noT_lst erv16) S17.k (hrv16.snoc w3)
            · rcases List.mem_append.mp hr with z | z
              · exact hpr r z
              · rw [List.mem_singleton.mp z]; exact ⟨hnm, hfl⟩
          · obtain ⟨S12, d12, rv, rows, erv, hrv, hrl, hpr⟩ := h
            have S1112 : Stp G [p] H11 HA12 := Stp.hide SE.k S12 (fr0_none hD2)
            have S912 := (S10.trans S11).up.trans S1112
            refine ⟨_, _, rfl, ml, D2, [], rows, rv, _, rfl, S912, (S11.up.trans S1112).k _ _ e10 nmp (fun _ z => by cases z), List.nil_sublist _, erv, hrv, by omega, hpr, d12.mono (by omega)⟩
        · exact ⟨D, q1, mk1, rows1, rv1, _, rfl, .refl S89.t, em9, hsub1, eq19, hv19, hrl1, hpr1, d9'.mono (by omega)⟩
      rintro σ H10 ⟨ml, rl, mk, rows, rv, y6, rfl, S10, eml, hsub, erl, hrv, hrl, hpr, d10⟩
      have ena10 := S10.k _ _ e9 nap' fun _ z => by cases z
      have c2 : cN + 30 ≤ 999000 := by omega
      generalize cN + 30 = cM at *
      have nmp : ml ∉ [p] := fun z => by
        obtain ⟨_, _, _, e, _⟩ := d10
        rw [List.mem_singleton.mp z, e] at eml
        cases mk with
        | nil => cases (HO.lst.inj (Option.some.inj eml))
        | cons m0 mk => cases (HO.lst.inj (Option.some.inj eml))
      have nrlp : rl ∉ [p] := fun z => by
        obtain ⟨_, _, _, e, _⟩ := d10
        rw [List.mem_singleton.mp z, e] at erl
        have e2 := HO.lst.inj (Option.some.inj erl)
        subst e2
        exact vds_ints (fun d hd => by
          obtain ⟨r, _, rfl⟩ := List.mem_map.mp hd
          cases r <;> exact ⟨_, rfl⟩) hrv
      refine ⟨fun v H' => ∃ (bx : Addr) (kvs : List (Key × V)) (ps : Pgs), v = .ref bx ∧ H' bx = some (.dK kvs) ∧ KvD K H' kvs ps ∧ ps.map (·.1) = ks ∧ PgP ps ∧ Stp G [p] H10 H' ∧ DrawAt H' p (cM + 10) ∧ Fr0 H10 bx, ?_, ?_⟩
      · skip
        refine ⟨_, rfl, na, rfl, ⟨_, SqL.of ena10⟩, fun D hD => ?_⟩
        obtain ⟨HD, hHD⟩ : ∃ X, X = upd H10 D (.lst []) := ⟨_, rfl⟩
        have SD : Stp G [] H10 HD := by rw [hHD]; exact .new S10.t hD
        have eD : HD D = some (.lst []) := by rw [hHD]; exact upd_same
        have npD : p ≠ D := by
          obtain ⟨_, _, _, e, _⟩ := d10
          exact ne_of_none e hD
        have nnD : na ≠ D := ne_of_none ena10 hD
        have ntDp : ∀ {Hy : Hp} {xs : List V} {m : Int}, Hy D = some (.lst xs) → DrawAt Hy p m → NoT [D, p] Hy := fun e ⟨_, _, _, q, _⟩ b hb => by
          rcases List.mem_cons.mp hb with rfl | hb
          · rw [e]; exact ⟨(fun _ z => by cases z), fun _ _ z => by cases z⟩
          · rw [List.mem_singleton.mp hb, q]; exact ⟨(fun _ z => by cases z), fun _ _ z => by cases z⟩
        refine lc_it (walk_list (xs := ks.map V.str)) (fun i H' => Stp G [D, p] HD H' ∧ DrawAt H' p (cM + i) ∧ ∃ (as : List Addr) (kvs : List (Key × V)) (ps : Pgs), H' D = some (.lst (as.map V.ref)) ∧ Paired (fun q kv => SqT K H' q [kV kv.1, kv.2]) as kvs ∧ KvD K H' kvs ps ∧ ps.map (·.1) = ks.take i ∧ PgP ps ∧ as.length = i)
          (by rw [← hHD]; exact ⟨.refl SD.t, (drawAt_keep d10 (by simp) SD.k).mono (by omega), [], [], [], eD, .nil, .nil, rfl, (fun p hp => by simp at hp), rfl⟩) (fun i H' _ h => SqL.of (h.1.k _ _ (SD.k _ _ ena10 (by simp) fun _ z => by cases z) (by simp; exact ⟨nnD, nap⟩) fun _ z => by cases z)) (fun i v H4 H5 hi h hy => ?_) (fun H4 h => ?_)
        · obtain ⟨rfl, hx⟩ := hy
          obtain ⟨S4, d4, as, kvs, ps, ea, hpr, hkv, hks, hpf, hal⟩ := h
          rw [List.getElem?_map] at hx
          obtain ⟨nm, hnm, rfl⟩ := Option.map_eq_some_iff.mp hx
          rw [List.length_map] at hi
          refine ⟨rfl, iteT (B := Stp G [D, p] HD H5 ∧ DrawAt H5 p (cM + (i + 1 : Nat)) ∧ ∃ (as : List Addr) (kvs : List (Key × V)) (ps : Pgs), H5 D = some (.lst (as.map V.ref)) ∧ Paired (fun q kv => SqT K H5 q [kV kv.1, kv.2]) as kvs ∧ KvD K H5 kvs ps ∧ ps.map (·.1) = ks.take (i + 1) ∧ PgP ps ∧ as.length = i + 1) ?_⟩
          refine ⟨_, rfl, _, rfl, p, _, rfl, d4, by omega, S4.t, fun u dd H6 hfl S6 hu d6 => ?_⟩
          refine ⟨by show 2 ≤ sizeLine; decide, fun t ht => ?_⟩
          have S7 := FW.Stp.new (fp := []) (o := (.tup [V.str nm, u])) S6.t ht
          have e7 : L2.upd H6 t (.tup [V.str nm, u]) t = some (.tup [V.str nm, u]) := L2.upd_same
          generalize L2.upd H6 t (.tup [V.str nm, u]) = H7 at *
          have S47 := S6.trans S7.up
          have ea7 : H7 D = some (.lst (as.map V.ref)) := S47.k _ _ ea (by simp; exact Ne.symm npD) fun _ z => by cases z
          have d7 := drawAt_keep d6 (by simp) S7.k
          refine ⟨_, ea7, by rw [List.length_map, hal]; exact Nat.lt_of_lt_of_le (show i < 1000 by omega) (by decide), ?_⟩
          have S8 : Stp G [D] H7 (upd H7 D (.lst (as.map V.ref ++ [V.ref t]))) := .put S47.t (by simp) ea7 notc_lst
          have nt4 := d4.noT
          have nt7 := noT_lst ea7
          have tD : t ∉ [D] := fun z => by
            rw [List.mem_singleton.mp z, ea7] at e7
            cases e7
          refine ⟨S4.trans ((S47.mono fun b hb => by rw [List.mem_singleton.mp hb]; simp).trans (S8.mono fun b hb => by rw [List.mem_singleton.mp hb]; simp)), (drawAt_keep d7 (by simp; exact npD) S8.k).mono (by omega), as ++ [t], kvs ++ [(.inr nm, u)], ps ++ [(nm, dd)], by rw [List.map_append]; exact upd_same, ?_, ?_, ?_, ?_, by rw [List.length_append, hal] <;> rfl⟩
          · exact Paired.app (Paired.mapP hpr fun _ _ q => keep_sqT nt7 S8.k (keep_sqT nt4 S47.k q)) (.cons (.of (S8.k _ _ e7 tD fun _ z => by cases z)) .nil)
          · exact Paired.app ((hkv.keep nt4 S47.k).keep nt7 S8.k) (.cons ⟨rfl, (hu.ext S7.k).keep nt7 S8.k⟩ .nil)
          · rw [List.map_append, hks, take_succ' hnm] <;> rfl
          · intro q hq
            rcases List.mem_append.mp hq with z | z
            · exact hpf q z
            · rw [List.mem_singleton.mp z]; exact hfl
        · obtain ⟨S4, d4, as, kvs, ps, ea, hpr, hkv, hks, hpf, hal⟩ := h
          rw [List.length_map] at hks hal
          rw [List.take_of_length_le (Nat.le_refl _)] at hks
          refine ⟨D, as, kvs, rfl, SqL.of ea, hpr, fun bx hbx => ?_⟩
          rw [kvD_merge hkv (by rw [hks]; exact hknd)]
          have S5 : Stp G [] H4 (upd H4 bx (.dK kvs)) := .new S4.t hbx
          have S04 : Stp G [p] H10 H4 := Stp.hide SD.k S4 (fr0_none hD)
          refine ⟨bx, kvs, ps, rfl, upd_same, hkv.keep noT_nil S5.k, hks, hpf, S04.trans S5.up, (drawAt_keep d4 (by simp) S5.k).mono (by rw [List.length_map]; omega), S04.k.fr0 (fun z => ?_) (fr0_none hbx)⟩
          obtain ⟨_, _, _, e, _⟩ := d4
          rw [List.mem_singleton.mp z, e] at hbx
          cases hbx
      rintro _ H11 ⟨bx, kvs1, ps1, rfl, ebx, hkv1, hks1, hpc1, S11, d11, fbx⟩
      have hpf1 : PgF ps1 := fun q hq => (hpc1 q hq).f
      have eml11 := S11.k _ _ eml nmp fun _ z => by cases z
      have erl11 := S11.k _ _ erl nrlp fun _ z => by cases z
      have hrv11 := hrv.keep d10.noT S11.k
      have ena11 := S11.k _ _ ena10 nap' fun _ z => by cases z
      refine ⟨_, rfl, by show 0 ≤ sizeLine; decide, fun r2 hr2 => ?_⟩
      have S12 := FW.Stp.new (fp := []) (o := (.lst [])) S11.t hr2
      have e12 : L2.upd H11 r2 (.lst []) r2 = some (.lst []) := L2.upd_same
      generalize L2.upd H11 r2 (.lst []) = H12 at *
      refine ⟨_, rfl, _, rfl, by show 4 ≤ sizeLine; decide, fun t ht4 => ?_⟩
      have S13 := FW.Stp.new (fp := []) (o := (.tup [V.ref rl, V.ref r2, V.ref bx, V.ref ml])) S12.t ht4
      have e13 : L2.upd H12 t (.tup [V.ref rl, V.ref r2, V.ref bx, V.ref ml]) t = some (.tup [V.ref rl, V.ref r2, V.ref bx, V.ref ml]) := L2.upd_same
      generalize L2.upd H12 t (.tup [V.ref rl, V.ref r2, V.ref bx, V.ref ml]) = H13 at *
      have S1113 := S12.trans S13
      have hlp1 : ps1.length ≤ 6 := by
        have := congrArg List.length hks1
        rw [List.length_map] at this
        omega
      have pok1 : PgOk ps1 := ⟨fun q hq => hkw _ (by rw [← hks1]; exact List.mem_map_of_mem hq), by rw [hks1]; exact hknd, hpf1, by omega⟩
      have tok1 : TornOk ps1 mk := ⟨hknd.sublist hsub, fun n hn => by rw [hks1]; exact hsub.subset hn, by have := hsub.length_le; omega⟩
      refine ⟨t, rl, r2, bx, ml, kvs1, ps1, mk, rfl, .of e13, S1113.k _ _ eml11 (by simp) (fun _ z => by cases z), tok1, S1113.k _ _ ebx (by simp) (fun _ z => by cases z), hkv1.keep noT_nil S1113.k, pok1, S13.t, fun pl pd sps1 tn' H14 S14 hpl hw1 hw2 hL hspa hfla hdk1 hso1 htorn hperm => ?_⟩
      have S1114 := S1113.trans S14
      have kk : ∀ {b : Addr} {o : HO}, H11 b = some o → (∀ ps, o ≠ .tbl ps) → H14 b = some o := fun e n => S1114.k _ _ e (by simp) n
      have erl14 := kk erl11 (fun _ z => by cases z)
      have ebx14 := kk ebx (fun _ z => by cases z)
      have hrv14 := hrv11.ext S1114.k
      have hkv14 := hkv1.keep noT_nil S1114.k
      obtain ⟨j1, j1', hl1s, sd1, eqs1, eqn1, eqf1⟩ := rows_job hpr hks1 hpf1 hknd hso1 hrl hkl
      have can : ∀ {Hx : Hp} {f q : Addr}, WkAt Hx f q → CanC K Hx f := fun ⟨n, c', l⟩ => .inl ⟨_, _, l.fn⟩
      have job1 : RunJob P w K mg base G 4 21 H14 pd.work pd.start pd.longest [] [] (rnOf rows sps1) := ⟨⟨sps1, hdk1, hl1s, rfl, by rw [hL]; exact wk_work U_law_play hw1 erl14 hrv14 j1⟩, Nat.lt_of_le_of_lt sd1.sl (by decide), can hw1⟩
      refine ⟨pl, pd, [], [], rnOf rows sps1, rfl, hpl, hspa, rfl, hfla, rfl, S14.t, job1, fun a1 H17 S17 hr1 => ?_⟩
      have kk17 : ∀ {b : Addr} {o : HO}, H14 b = some o → (∀ ps, o ≠ .tbl ps) → H17 b = some o := fun e n => S17.k _ _ e (by simp) n
      refine ⟨_, rfl, _, rfl, rl, bx, 40, rows, rv, kvs1, ps1, rfl, kk17 erl14 (fun _ z => by cases z), hrv14.ext S17.k, kk17 ebx14 (fun _ z => by cases z), hkv14.keep noT_nil S17.k, j1', S17.t, fun dd1 l1 mm1 sv1 nv1 ev1 H18 S18 ed1 el1 hsv1 em1 hnv1 hev1 => ?_⟩
      rw [eqs1] at hsv1
      have S1418 := S17.trans S18
      have S1118 := S1114.trans S1418
      obtain ⟨as, hrw⟩ := runW_of (RunAtT.ext hr1 S18.k) (sqT_ext S1418.k.ext htorn)
      have ebx18 := S1118.k _ _ ebx (by simp) fun _ z => by cases z
      have hkv18 := hkv1.keep noT_nil S1118.k
      have eml18 := S1118.k _ _ eml11 (by simp) fun _ z => by cases z
      have ena18 := S1118.k _ _ ena11 (by simp) fun _ z => by cases z
      have hS18 : SqL K H18 a (ns.map V.int) := by
        have fp0 : Fr0 H1 p := fr0_none hp
        have S118 : Stp G [] H1 H18 := Stp.fresh S2.k (S3.up.trans (S4.up.trans (S5.trans (S6.up.trans (S7.trans (S8.trans (S89.trans (S10.trans (S11.trans S1118.up))))))))) fun b hb => by rw [List.mem_singleton.mp hb]; exact fp0
        exact sqL_ext S118.k.ext hS1
      have hpl6 : (rnOf rows sps1).steps.length ≤ 7 := sd1.sl
      generalize rnOf rows sps1 = r at *
      have svl : sv1.length = r.steps.length := by rw [hsv1.len, List.length_map]
      refine ⟨_, _, rfl, ?_⟩
      have hins := hrw.insIn
      refine ⟨_, rfl, dd1, _, 0, _, rfl, rfl, .of ed1, rfl, _, _, rfl, .inl ⟨_, SqL.of el1, rfl⟩, _, _, rfl, rfl, _, rfl, ?_⟩
      rw [svl]
      refine ⟨by omega, by omega, for_range (lo := 0) (n := r.steps.length + 1) (fun j σ H2 => (∃ x6 x10 x11 x12 : Option V, σ = [some (.ref a), some (.int (0 + (i : Nat))), some (.ref p), some (.ref na), some (.ref rl), some (.ref ml), x6, some (.ref bx), some (.ref a1), some (.ref dd1), x10, x11, x12]) ∧ Stp G as H18 H2 ∧ RunW K H2 a1 r pd.torn tn' as) ⟨⟨_, _, _, _, rfl⟩, .refl S18.t, hrw⟩ ?_ ?_⟩
      · rintro j σ H20 hj ⟨⟨x6, x10, x11, x12, rfl⟩, S20, hrw20⟩
        have k20 : ∀ {b : Addr} {o : HO}, H18 b = some o → (∀ C dx fs, o ≠ .ins C dx fs) → (∀ ps, o ≠ .tbl ps) → H20 b = some o := fun {b o} e n1 n2 => S20.k _ _ e (fun z => by
          obtain ⟨C, dx, fs, e2⟩ := hins b z
          rw [e] at e2
          exact n1 C dx fs (Option.some.inj e2)) n2
        have nt18 := hins.noT
        have ed20 := k20 ed1 (fun _ _ _ z => by cases z) fun _ z => by cases z
        have el20 := k20 el1 (fun _ _ _ z => by cases z) fun _ z => by cases z
        have hsv20 := hsv1.keep nt18 S20.k
        have ebx20 := k20 ebx18 (fun _ _ _ z => by cases z) fun _ z => by cases z
        have hkv20 := hkv18.keep nt18 S20.k
        have eml20 := k20 eml18 (fun _ _ _ z => by cases z) fun _ z => by cases z
        have ena20 := k20 ena18 (fun _ _ _ z => by cases z) fun _ z => by cases z
        have hml : j < r.ms.length := by
          rw [sd1.ms, moms_len, List.length_map]
          exact hj
        have hmm := List.getElem?_eq_getElem hml
        generalize r.ms[j] = m at *
        refine ⟨_, rfl, _, rfl, _, rfl, by show 0 ≤ sizeLine; decide, fun t1 ht1 => ?_⟩
        have S21 := FW.Stp.new (fp := []) (o := (.tup [])) S20.t ht1
        have e21 : L2.upd H20 t1 (.tup []) t1 = some (.tup []) := L2.upd_same
        generalize L2.upd H20 t1 (.tup []) = H21 at *
        refine ⟨by show 0 ≤ sizeLine; decide, fun t2 ht2 => ?_⟩
        have S22 := FW.Stp.new (fp := []) (o := (.tup [])) S21.t ht2
        have e22 : L2.upd H21 t2 (.tup []) t2 = some (.tup []) := L2.upd_same
        generalize L2.upd H21 t2 (.tup []) = H22 at *
        refine ⟨by show 2 ≤ sizeLine; decide, fun bd hbd => ?_⟩
        have S23 := FW.Stp.new (fp := []) (o := (.tup [V.ref t1, V.ref t2])) S22.t hbd
        have e23 : L2.upd H22 bd (.tup [V.ref t1, V.ref t2]) bd = some (.tup [V.ref t1, V.ref t2]) := L2.upd_same
        generalize L2.upd H22 bd (.tup [V.ref t1, V.ref t2]) = H23 at *
        have S2023 := S21.trans (S22.trans S23)
        have q1 := SqT.of (K := K) ((S22.trans S23).k _ _ e21 (by simp) fun _ z => by cases z)
        have q2 := SqT.of (K := K) (S23.k _ _ e22 (by simp) fun _ z => by cases z)
        have ed23 := S2023.k _ _ ed20 (by simp) fun _ z => by cases z
        refine ⟨dd1, bx, bd, l1, t1, t2, j, sv1, [], [], .ref mm1, ev1, r.steps, kvs1, ps1, (by rw [Int.zero_add] <;> rfl), .of ed23, S2023.k _ _ el20 (by simp) (fun _ z => by cases z), hsv20.ext S2023.k, S2023.k _ _ ebx20 (by simp) (fun _ z => by cases z), hkv20.keep noT_nil S2023.k, .of e23, q1, rfl, q2, rfl, by omega, by omega, by omega, sd1.pi, S23.t, fun lt H24 fdd el eas S24 qlt inv => ?_⟩
        have S2024 := S2023.trans S24
        have ena24 := S2024.k _ _ ena20 (by simp) fun _ z => by cases z
        refine ⟨_, rfl, na, ks, rfl, SqL.of ena24, by omega, fun ys lq hys hsy hlq => ?_⟩
        have S25 := FW.Stp.new (fp := []) (o := (.lst (ys.map V.str))) S24.t hlq
        have e25 : L2.upd H24 lq (.lst (ys.map V.str)) lq = some (.lst (ys.map V.str)) := L2.upd_same
        generalize L2.upd H24 lq (.lst (ys.map V.str)) = H25 at *
        have inv25 := inv.new S25
        have hyk : ys = sps1.map (·.1) := sorted_eq hsy hso1.srt (hys.trans (by rw [← hks1]; exact hso1.perm.symm))
        have mo := mo_at (tn := mk) (tn' := tn') (ks := ys) hso1 sd1 hpc1 hperm hyk (j := j) (by omega) hmm
        obtain ⟨kvf, efd, hkf⟩ := inv25.w
        have late25 : LateAt K H25 lt (La.walk [] [] 0 ⟨ps1, [[]]⟩ ((r.steps.map (·.1)).take j)) := ⟨fdd, el, eas, kvf, sqT_ext S25.k.ext qlt, efd, hkf, inv25.l, inv25.p⟩
        have S2025 := S2024.trans S25
        have hyl : ys.length ≤ 6 := by
          have := hys.length_eq
          omega
        generalize La.walk [] [] 0 ⟨ps1, [[]]⟩ ((r.steps.map (·.1)).take j) = la at *
        refine ⟨_, rfl, lt, lq, ml, ys, mk, la, rfl, late25, e25, S2025.k _ _ eml20 (by simp) (fun _ z => by cases z), by omega, mo.fit, S25.t, fun qd usd H26 S26 eqd husd fqd => ?_⟩
        have S2026 := S2025.trans S26
        have hrw26 := hrw20.ext S2026.k
        have hins26 := hrw26.insIn
        obtain ⟨dx, _, _, _, _, _, _, e1r, _⟩ := id hrw26
        have smlL : Sml 12 (.list ((laKept mk ys la).map keptL)) := by
          refine sml_up (sml_up (sml_up (sml_up (sml_up (sml_up (sml_up (sml_up (sml_up (n := 3) ⟨?_, fun d hd => ?_⟩))))))))
          · rw [List.length_map]
            exact Nat.le_of_lt mo.few
          · obtain ⟨c, hc, rfl⟩ := List.mem_map.mp hd
            refine ⟨by rw [List.length_map, mo.wd c hc]; omega, fun d hd => ?_⟩
            obtain ⟨x, _, rfl⟩ := List.mem_map.mp hd
            exact sml_two True.intro True.intro
        refine ⟨_, rfl, a1, dx, _, rfl, e1r, rfl, _, rfl, a1, pd.torn, r, tn', as, j, m, (by rw [Int.zero_add] <;> rfl), hrw26, hmm, mo.fine, S26.t, fun qf usf H27 H28 S27 hrw27 S28 eqf husf fqf => ?_⟩
        rw [mo.eq] at husf
        have nqd : qd ∉ as := fun z => by
          obtain ⟨C, dx, fs, e2⟩ := hins26 _ z
          rw [eqd] at e2
          cases e2
        have eqd27 := S27.k _ _ eqd nqd fun _ z => by cases z
        have husd27 := husd.keep hins26.noT S27.k
        have eqd28 := S28.k _ _ eqd27 (by simp) fun _ z => by cases z
        have husd28 := husd27.ext S28.k
        refine ⟨_, rfl, _, rfl, .ref qf, .ref qd, .list ((laKept mk ys la).map keptL), .list ((laKept mk ys la).map keptL), rfl, .lst (SqL.of eqf) husf.dpa, .lst (SqL.of eqd28) husd28.dpa, smlL, fun b H29 hb Sm => ?_⟩
        obtain rfl : b = true := hb.mpr rfl
        refine ⟨_, rfl, iteF ?_⟩
        have S29 := stp_same S28.t Sm
        have eqf29 := Sm _ _ eqf
        refine ⟨_, rfl, .inl ⟨rfl, _, SqL.of eqf29⟩, qf, usf, _, rfl, rfl, eqf29, by rw [husf.len, List.length_map]; exact Nat.lt_trans mo.few (by decide), ?_⟩
        have SA : Stp G [qf] H29 (upd H29 qf (.lst (usf ++ [V.str "more"]))) := .put S29.t (by simp) eqf29 notc_lst
        have S2A : Stp G [] H27 (upd H29 qf (.lst (usf ++ [V.str "more"]))) := Stp.fresh (S28.trans S29).k SA fun b hb => by rw [List.mem_singleton.mp hb]; exact fqf
        generalize upd H29 qf (.lst (usf ++ [V.str "more"])) = H30 at *
        have hrw30 := hrw27.ext S2A.k
        have hins30 := hrw30.insIn
        obtain ⟨dx3, _, _, _, _, _, _, e3r, _⟩ := id hrw30
        have eqd30 := S2A.k _ _ eqd27 (by simp) fun _ z => by cases z
        have husd30 := husd27.ext S2A.k
        have S2030 := S20.trans (S2026.up.trans (S27.trans S2A.up))
        refine ⟨_, rfl, a1, dx3, _, rfl, e3r, rfl, _, rfl, a1, pd.torn, r, tn', as, j, m, (by rw [Int.zero_add] <;> rfl), hrw30, hmm, mo.fine, S2A.t, fun q2 us2 H31 H32 S31 hrw31 S32 eq2 hus2 fq2 => ?_⟩
        rw [mo.eq] at hus2
        have nqd30 : qd ∉ as := nqd
        have eqd31 := S31.k _ _ eqd30 nqd fun _ z => by cases z
        have husd31 := husd30.keep hins30.noT S31.k
        have eqd32 := S32.k _ _ eqd31 (by simp) fun _ z => by cases z
        have husd32 := husd31.ext S32.k
        refine ⟨_, rfl, .ref q2, .ref qd, .list ((laKept mk ys la).map keptL), .list ((laKept mk ys la).map keptL), rfl, .lst (SqL.of eq2) hus2.dpa, .lst (SqL.of eqd32) husd32.dpa, smlL, fun b H33 hb Sm3 => ?_⟩
        obtain rfl : b = true := hb.mpr rfl
        have S33 := stp_same S32.t Sm3
        exact ⟨_, rfl, iteF ⟨⟨_, _, _, _, rfl⟩, S2030.trans (S31.trans (S32.trans S33).up), hrw31.ext (S32.trans S33).k⟩⟩
      · rintro σ H20 ⟨⟨x6, x10, x11, x12, rfl⟩, S20, hrw20⟩
        exact ⟨⟨_, _, _, _, _, _, _, _, _, _, _, _, rfl⟩, sqL_keepI hS18 hins S20.k, S20.t⟩
    · rintro σ H1 ⟨⟨o1, o2, o3, o4, o5, o6, o7, o8, o9, o10, o11, o12, rfl⟩, S1⟩
      exact k H1
end
end K10

namespace K10
open PySem PySem.Spec PyProof.Rows L2 XV XL UU CC FW HH
def GT (K : PySem.W.Frag) : Tb := ⟨[(He.cT K ("is_value", none)).2, (He.cT K ("_changed", none)).2, (He.cT K ("Run", some "said_by")).2, (He.cT K ("_is_word", none)).2, (He.cT K ("Plan", some "__init__")).2], [((He.cT K ("_law_worked", none)).2, fun _ _ => wkQ)]⟩
theorem facts {P : Program} {w : World} {K : PySem.W.Frag} {h : Heap} {mg : Str → Option Value} {f : Addr} (X : K.In h) (G : h.Ns mainGlobals mg) (hfa : mg ("law" : Str) = some (.ref f)) (c : SaysZ fa fn tf ex h K) :
    ∃ (fd : FuncData), (∀ (s : Shared) (v : Value), BindsTo s fd ⟨[v], []⟩ [("_law_script", v)]) ∧ ∀ base : Heap, K.In base → base.Ns mainGlobals mg → (∀ p ∈ tf, LamX.TabB base mg (He.cT K p).1 (He.cT K p).2) →
      FnOk P w K mg base (L2.CX P w) 50 f fd ["_law_script"] (spLaw K (GT K)) := by
  have d := c.d
  have m := c.more
  unfold ex at m
  obtain ⟨m1, m⟩ := He.ba m
  obtain ⟨m2, m⟩ := He.ba m
  obtain ⟨m3, m⟩ := He.ba m
  obtain ⟨m4, m⟩ := He.ba m
  obtain ⟨m5, m⟩ := He.ba m
  obtain ⟨m6, m⟩ := He.ba m
  obtain ⟨m7, m⟩ := He.ba m
  obtain ⟨m8, m⟩ := He.ba m
  obtain ⟨m9, m⟩ := He.ba m
  obtain ⟨m10, m⟩ := He.ba m
  obtain ⟨m11, m⟩ := He.ba m
  obtain ⟨m12, m⟩ := He.ba m
  obtain ⟨m13, m⟩ := He.ba m
  obtain ⟨m14, m⟩ := He.ba m
  obtain ⟨m15, m⟩ := He.ba m
  have m16 := m
  have n_len := He.free_ok X G (d.fact 0 (f := .free "len") rfl)
  have n_int := He.free_ok X G (d.fact 1 (f := .free "int") rfl)
  have n_isinstance := He.free_ok X G (d.fact 2 (f := .free "isinstance") rfl)
  have n_list := He.free_ok X G (d.fact 3 (f := .free "list") rfl)
  have n_tuple := He.free_ok X G (d.fact 4 (f := .free "tuple") rfl)
  have n_bool := He.free_ok X G (d.fact 5 (f := .free "bool") rfl)
  have n_all := He.free_ok X G (d.fact 6 (f := .free "all") rfl)
  have n_zip := He.free_ok X G (d.fact 7 (f := .free "zip") rfl)
  have n_range := He.free_ok X G (d.fact 8 (f := .free "range") rfl)
  have n_min := He.free_ok X G (d.fact 9 (f := .free "min") rfl)
  have n_dict := He.free_ok X G (d.fact 10 (f := .free "dict") rfl)
  have n_sorted := He.free_ok X G (d.fact 11 (f := .free "sorted") rfl)
  have n_enumerate := He.free_ok X G (d.fact 12 (f := .free "enumerate") rfl)
  have n_str := He.free_ok X G (d.fact 13 (f := .free "str") rfl)
  have n_Exception := He.free_ok X G (d.fact 14 (f := .free "Exception") rfl)
  have m_LETTERS_OF_WORD := He.int_ok X G (d.fact 15 (f := .int "LETTERS_OF_WORD" 8) rfl)
  have m_HIGHEST_LONGEST := He.int_ok X G (d.fact 16 (f := .int "HIGHEST_LONGEST" 60) rfl)
  have m_HIGHEST_MOST := He.int_ok X G (d.fact 17 (f := .int "HIGHEST_MOST" 2000) rfl)
  have g_Held := He.glo_ok X G (d.fact 18 (f := .glo "Held") rfl)
  have g_NoMoment := He.glo_ok X G (d.fact 19 (f := .glo "NoMoment") rfl)
  have g_Hand := He.glo_ok X G (d.fact 20 (f := .glo "Hand") rfl)
  have g_Moment := He.glo_ok X G (d.fact 21 (f := .glo "Moment") rfl)
  have g_Run := He.glo_ok X G (d.fact 22 (f := .glo "Run") rfl)
  have g_Plan := He.glo_ok X G (d.fact 23 (f := .glo "Plan") rfl)
  have g_FallError := He.glo_ok X G (d.fact 24 (f := .glo "FallError") rfl)
  have g_is_value := He.glo_ok X G (d.fact 25 (f := .glo "is_value") rfl)
  have g_is_integer := He.glo_ok X G (d.fact 26 (f := .glo "is_integer") rfl)
  have g_mark := He.glo_ok X G (d.fact 27 (f := .glo "mark") rfl)
  have g_check_value := He.glo_ok X G (d.fact 28 (f := .glo "_check_value") rfl)
  have g_perform := He.glo_ok X G (d.fact 29 (f := .glo "perform") rfl)
  have g_end_of := He.glo_ok X G (d.fact 30 (f := .glo "_end_of") rfl)
  have g_ways_to_fall := He.glo_ok X G (d.fact 31 (f := .glo "ways_to_fall") rfl)
  have g_way := He.glo_ok X G (d.fact 32 (f := .glo "_way") rfl)
  have g_ways_of_page := He.glo_ok X G (d.fact 33 (f := .glo "_ways_of_page") rfl)
  have g_torn_parts := He.glo_ok X G (d.fact 34 (f := .glo "_torn_parts") rfl)
  have g_combined := He.glo_ok X G (d.fact 35 (f := .glo "_combined") rfl)
  have g_changed := He.glo_ok X G (d.fact 36 (f := .glo "_changed") rfl)
  have g_moments_of := He.glo_ok X G (d.fact 37 (f := .glo "moments_of") rfl)
  have g_check_names := He.glo_ok X G (d.fact 38 (f := .glo "_check_names") rfl)
  have g_is_word := He.glo_ok X G (d.fact 39 (f := .glo "_is_word") rfl)
  have g_check_torn := He.glo_ok X G (d.fact 40 (f := .glo "_check_torn") rfl)
  have g_check_values := He.glo_ok X G (d.fact 41 (f := .glo "_check_values") rfl)
  have g_check_limit := He.glo_ok X G (d.fact 42 (f := .glo "_check_limit") rfl)
  have g_law_source := He.glo_ok X G (d.fact 43 (f := .glo "_law_source") rfl)
  have g_law_draw := He.glo_ok X G (d.fact 44 (f := .glo "_law_draw") rfl)
  have g_law_pick := He.glo_ok X G (d.fact 45 (f := .glo "_law_pick") rfl)
  have g_law_same := He.glo_ok X G (d.fact 46 (f := .glo "_law_same") rfl)
  have g_law_told := He.glo_ok X G (d.fact 47 (f := .glo "_law_told") rfl)
  have g_law_wish := He.glo_ok X G (d.fact 48 (f := .glo "_law_wish") rfl)
  have g_law_ask := He.glo_ok X G (d.fact 49 (f := .glo "_law_ask") rfl)
  have g_law_play := He.glo_ok X G (d.fact 50 (f := .glo "_law_play") rfl)
  have g_law_worked := He.glo_ok X G (d.fact 51 (f := .glo "_law_worked") rfl)
  have g_law_run := He.glo_ok X G (d.fact 52 (f := .glo "_law_run") rfl)
  have g_law_late := He.glo_ok X G (d.fact 53 (f := .glo "_law_late") rfl)
  have g_law_worths := He.glo_ok X G (d.fact 54 (f := .glo "_law_worths") rfl)
  have g_law_fits := He.glo_ok X G (d.fact 55 (f := .glo "_law_fits") rfl)
  have g_law_pairs_of := He.glo_ok X G (d.fact 56 (f := .glo "_law_pairs_of") rfl)
  have g_law_kept := He.glo_ok X G (d.fact 57 (f := .glo "_law_kept") rfl)
  have g_law_plan := He.glo_ok X G (d.fact 58 (f := .glo "_law_plan") rfl)
  have g_law_piece := He.glo_ok X G (d.fact 59 (f := .glo "_law_piece") rfl)
  have g_law_putting := He.glo_ok X G (d.fact 60 (f := .glo "_law_putting") rfl)
  have g_law := He.glo_ok X G (d.fact 61 (f := .glo "law") rfl)
  have g_rest := He.glo_ok X G (d.fact 62 (f := .glo "_rest") rfl)
  have me_NoMoment___init__ := He.meth_ok (d.fact 63 (f := .meth "NoMoment" "__init__") rfl)
  have me_Held___init__ := He.meth_ok (d.fact 64 (f := .meth "Held" "__init__") rfl)
  have me_Hand___init__ := He.meth_ok (d.fact 65 (f := .meth "Hand" "__init__") rfl)
  have me_Hand_look := He.meth_ok (d.fact 66 (f := .meth "Hand" "look") rfl)
  have me_Hand_put := He.meth_ok (d.fact 67 (f := .meth "Hand" "put") rfl)
  have me_Hand_barrier := He.meth_ok (d.fact 68 (f := .meth "Hand" "barrier") rfl)
  have me_Hand_flush := He.meth_ok (d.fact 69 (f := .meth "Hand" "flush") rfl)
  have me_Hand_say := He.meth_ok (d.fact 70 (f := .meth "Hand" "say") rfl)
  have me_Hand_fail := He.meth_ok (d.fact 71 (f := .meth "Hand" "fail") rfl)
  have me_Hand__check_free := He.meth_ok (d.fact 72 (f := .meth "Hand" "_check_free") rfl)
  have me_Hand__check_page := He.meth_ok (d.fact 73 (f := .meth "Hand" "_check_page") rfl)
  have me_Hand__check_room := He.meth_ok (d.fact 74 (f := .meth "Hand" "_check_room") rfl)
  have me_Moment___init__ := He.meth_ok (d.fact 75 (f := .meth "Moment" "__init__") rfl)
  have me_Moment_ways := He.meth_ok (d.fact 76 (f := .meth "Moment" "ways") rfl)
  have me_Moment_behind := He.meth_ok (d.fact 77 (f := .meth "Moment" "behind") rfl)
  have me_Run___init__ := He.meth_ok (d.fact 78 (f := .meth "Run" "__init__") rfl)
  have me_Run_steps := He.meth_ok (d.fact 79 (f := .meth "Run" "steps") rfl)
  have me_Run_end := He.meth_ok (d.fact 80 (f := .meth "Run" "end") rfl)
  have me_Run_said := He.meth_ok (d.fact 81 (f := .meth "Run" "said") rfl)
  have me_Run_said_by := He.meth_ok (d.fact 82 (f := .meth "Run" "said_by") rfl)
  have me_Run_kept_at := He.meth_ok (d.fact 83 (f := .meth "Run" "kept_at") rfl)
  have me_Run__check_moment := He.meth_ok (d.fact 84 (f := .meth "Run" "_check_moment") rfl)
  have me_Run__is_moment := He.meth_ok (d.fact 85 (f := .meth "Run" "_is_moment") rfl)
  have me_Run__moment := He.meth_ok (d.fact 86 (f := .meth "Run" "_moment") rfl)
  have me_Run__ways_at := He.meth_ok (d.fact 87 (f := .meth "Run" "_ways_at") rfl)
  have me_Plan___init__ := He.meth_ok (d.fact 88 (f := .meth "Plan" "__init__") rfl)
  have me_Plan_start := He.meth_ok (d.fact 89 (f := .meth "Plan" "start") rfl)
  have K_Hand := He.cls_ok (d.fact 90 (f := .cls "Hand") rfl)
  have mk_Hand := He.mkr_ok (d.fact 91 (f := .mkr "Hand") rfl)
  have a_Hand__pages := He.noat_ok (d.fact 92 (f := .noat "Hand" "_pages") rfl)
  have a_Hand__longest := He.noat_ok (d.fact 93 (f := .noat "Hand" "_longest") rfl)
  have a_Hand__steps := He.noat_ok (d.fact 94 (f := .noat "Hand" "_steps") rfl)
  have a_Hand__notes := He.noat_ok (d.fact 95 (f := .noat "Hand" "_notes") rfl)
  have a_Hand__failure := He.noat_ok (d.fact 96 (f := .noat "Hand" "_failure") rfl)
  have a_Hand__held := He.noat_ok (d.fact 97 (f := .noat "Hand" "_held") rfl)
  have K_Moment := He.cls_ok (d.fact 98 (f := .cls "Moment") rfl)
  have mk_Moment := He.mkr_ok (d.fact 99 (f := .mkr "Moment") rfl)
  have a_Moment_pages := He.noat_ok (d.fact 100 (f := .noat "Moment" "pages") rfl)
  have a_Moment_synced := He.noat_ok (d.fact 101 (f := .noat "Moment" "synced") rfl)
  have a_Moment_epochs := He.noat_ok (d.fact 102 (f := .noat "Moment" "epochs") rfl)
  have a_Moment__ways := He.noat_ok (d.fact 103 (f := .noat "Moment" "_ways") rfl)
  have K_Run := He.cls_ok (d.fact 104 (f := .cls "Run") rfl)
  have mk_Run := He.mkr_ok (d.fact 105 (f := .mkr "Run") rfl)
  have a_Run__steps := He.noat_ok (d.fact 106 (f := .noat "Run" "_steps") rfl)
  have a_Run__notes := He.noat_ok (d.fact 107 (f := .noat "Run" "_notes") rfl)
  have a_Run__end := He.noat_ok (d.fact 108 (f := .noat "Run" "_end") rfl)
  have a_Run__moments := He.noat_ok (d.fact 109 (f := .noat "Run" "_moments") rfl)
  have a_Run__torn := He.noat_ok (d.fact 110 (f := .noat "Run" "_torn") rfl)
  have K_Plan := He.cls_ok (d.fact 111 (f := .cls "Plan") rfl)
  have mk_Plan := He.mkr_ok (d.fact 112 (f := .mkr "Plan") rfl)
  have a_Plan_work := He.noat_ok (d.fact 113 (f := .noat "Plan" "work") rfl)
  have a_Plan_mend := He.noat_ok (d.fact 114 (f := .noat "Plan" "mend") rfl)
  have a_Plan_torn := He.noat_ok (d.fact 115 (f := .noat "Plan" "torn") rfl)
  have a_Plan_longest := He.noat_ok (d.fact 116 (f := .noat "Plan" "longest") rfl)
  have a_Plan_most := He.noat_ok (d.fact 117 (f := .noat "Plan" "most") rfl)
  have a_Plan_spared_steps := He.noat_ok (d.fact 118 (f := .noat "Plan" "spared_steps") rfl)
  have a_Plan_flush_places := He.noat_ok (d.fact 119 (f := .noat "Plan" "flush_places") rfl)
  have a_Plan__start := He.noat_ok (d.fact 120 (f := .noat "Plan" "_start") rfl)
  have no_NoMoment := He.noat_ok (d.fact 121 (f := .noat "NoMoment" "moment") rfl)
  have e_Held := He.exm_ok (d.fact 122 (f := .exm "Held" "Held" true) rfl)
  have e_NoMoment := He.exm_ok (d.fact 123 (f := .exm "NoMoment" "NoMoment" true) rfl)
  obtain ⟨fd_NoMoment___init__, F_NoMoment___init__⟩ := d.def_ 0 (d := ⟨fun K => He.fAd K ("NoMoment", some "__init__"), "__init__", "NoMoment.__init__", defArgs s_NoMoment___init__, defBody s_NoMoment___init__, defScope s_NoMoment___init__, [], []⟩) rfl
  obtain ⟨fd_Held___init__, F_Held___init__⟩ := d.def_ 1 (d := ⟨fun K => He.fAd K ("Held", some "__init__"), "__init__", "Held.__init__", defArgs s_Held___init__, defBody s_Held___init__, defScope s_Held___init__, [], []⟩) rfl
  obtain ⟨fd_Hand___init__, F_Hand___init__⟩ := d.def_ 2 (d := ⟨fun K => He.fAd K ("Hand", some "__init__"), "__init__", "Hand.__init__", defArgs s_Hand___init__, defBody s_Hand___init__, defScope s_Hand___init__, [], []⟩) rfl
  obtain ⟨fd_Hand_look, F_Hand_look⟩ := d.def_ 3 (d := ⟨fun K => He.fAd K ("Hand", some "look"), "look", "Hand.look", defArgs s_Hand_look, defBody s_Hand_look, defScope s_Hand_look, [], []⟩) rfl
  obtain ⟨fd_Hand_put, F_Hand_put⟩ := d.def_ 4 (d := ⟨fun K => He.fAd K ("Hand", some "put"), "put", "Hand.put", defArgs s_Hand_put, defBody s_Hand_put, defScope s_Hand_put, [], []⟩) rfl
  obtain ⟨fd_Hand_barrier, F_Hand_barrier⟩ := d.def_ 5 (d := ⟨fun K => He.fAd K ("Hand", some "barrier"), "barrier", "Hand.barrier", defArgs s_Hand_barrier, defBody s_Hand_barrier, defScope s_Hand_barrier, [], []⟩) rfl
  obtain ⟨fd_Hand_flush, F_Hand_flush⟩ := d.def_ 6 (d := ⟨fun K => He.fAd K ("Hand", some "flush"), "flush", "Hand.flush", defArgs s_Hand_flush, defBody s_Hand_flush, defScope s_Hand_flush, [], []⟩) rfl
  obtain ⟨fd_Hand_say, F_Hand_say⟩ := d.def_ 7 (d := ⟨fun K => He.fAd K ("Hand", some "say"), "say", "Hand.say", defArgs s_Hand_say, defBody s_Hand_say, defScope s_Hand_say, [], []⟩) rfl
  obtain ⟨fd_Hand_fail, F_Hand_fail⟩ := d.def_ 8 (d := ⟨fun K => He.fAd K ("Hand", some "fail"), "fail", "Hand.fail", defArgs s_Hand_fail, defBody s_Hand_fail, defScope s_Hand_fail, [], []⟩) rfl
  obtain ⟨fd_Hand__check_free, F_Hand__check_free⟩ := d.def_ 9 (d := ⟨fun K => He.fAd K ("Hand", some "_check_free"), "_check_free", "Hand._check_free", defArgs s_Hand__check_free, defBody s_Hand__check_free, defScope s_Hand__check_free, [], []⟩) rfl
  obtain ⟨fd_Hand__check_page, F_Hand__check_page⟩ := d.def_ 10 (d := ⟨fun K => He.fAd K ("Hand", some "_check_page"), "_check_page", "Hand._check_page", defArgs s_Hand__check_page, defBody s_Hand__check_page, defScope s_Hand__check_page, [], []⟩) rfl
  obtain ⟨fd_Hand__check_room, F_Hand__check_room⟩ := d.def_ 11 (d := ⟨fun K => He.fAd K ("Hand", some "_check_room"), "_check_room", "Hand._check_room", defArgs s_Hand__check_room, defBody s_Hand__check_room, defScope s_Hand__check_room, [], []⟩) rfl
  obtain ⟨fd_Moment___init__, F_Moment___init__⟩ := d.def_ 12 (d := ⟨fun K => He.fAd K ("Moment", some "__init__"), "__init__", "Moment.__init__", defArgs s_Moment___init__, defBody s_Moment___init__, defScope s_Moment___init__, [], []⟩) rfl
  obtain ⟨fd_Moment_ways, F_Moment_ways⟩ := d.def_ 13 (d := ⟨fun K => He.fAd K ("Moment", some "ways"), "ways", "Moment.ways", defArgs s_Moment_ways, defBody s_Moment_ways, defScope s_Moment_ways, [], []⟩) rfl
  obtain ⟨fd_Moment_behind, F_Moment_behind⟩ := d.def_ 14 (d := ⟨fun K => He.fAd K ("Moment", some "behind"), "behind", "Moment.behind", defArgs s_Moment_behind, defBody s_Moment_behind, defScope s_Moment_behind, [], []⟩) rfl
  obtain ⟨fd_Run___init__, F_Run___init__⟩ := d.def_ 15 (d := ⟨fun K => He.fAd K ("Run", some "__init__"), "__init__", "Run.__init__", defArgs s_Run___init__, defBody s_Run___init__, defScope s_Run___init__, [], []⟩) rfl
  obtain ⟨fd_Run_steps, F_Run_steps⟩ := d.def_ 16 (d := ⟨fun K => He.fAd K ("Run", some "steps"), "steps", "Run.steps", defArgs s_Run_steps, defBody s_Run_steps, defScope s_Run_steps, [], []⟩) rfl
  obtain ⟨fd_Run_end, F_Run_end⟩ := d.def_ 17 (d := ⟨fun K => He.fAd K ("Run", some "end"), "end", "Run.end", defArgs s_Run_end, defBody s_Run_end, defScope s_Run_end, [], []⟩) rfl
  obtain ⟨fd_Run_said, F_Run_said⟩ := d.def_ 18 (d := ⟨fun K => He.fAd K ("Run", some "said"), "said", "Run.said", defArgs s_Run_said, defBody s_Run_said, defScope s_Run_said, [], []⟩) rfl
  obtain ⟨fd_Run_said_by, F_Run_said_by⟩ := d.def_ 19 (d := ⟨fun K => He.fAd K ("Run", some "said_by"), "said_by", "Run.said_by", defArgs s_Run_said_by, defBody s_Run_said_by, defScope s_Run_said_by, [], []⟩) rfl
  obtain ⟨fd_Run_kept_at, F_Run_kept_at⟩ := d.def_ 20 (d := ⟨fun K => He.fAd K ("Run", some "kept_at"), "kept_at", "Run.kept_at", defArgs s_Run_kept_at, defBody s_Run_kept_at, defScope s_Run_kept_at, [], []⟩) rfl
  obtain ⟨fd_Run__check_moment, F_Run__check_moment⟩ := d.def_ 21 (d := ⟨fun K => He.fAd K ("Run", some "_check_moment"), "_check_moment", "Run._check_moment", defArgs s_Run__check_moment, defBody s_Run__check_moment, defScope s_Run__check_moment, [], []⟩) rfl
  obtain ⟨fd_Run__is_moment, F_Run__is_moment⟩ := d.def_ 22 (d := ⟨fun K => He.fAd K ("Run", some "_is_moment"), "_is_moment", "Run._is_moment", defArgs s_Run__is_moment, defBody s_Run__is_moment, defScope s_Run__is_moment, [], []⟩) rfl
  obtain ⟨fd_Run__moment, F_Run__moment⟩ := d.def_ 23 (d := ⟨fun K => He.fAd K ("Run", some "_moment"), "_moment", "Run._moment", defArgs s_Run__moment, defBody s_Run__moment, defScope s_Run__moment, [], []⟩) rfl
  obtain ⟨fd_Run__ways_at, F_Run__ways_at⟩ := d.def_ 24 (d := ⟨fun K => He.fAd K ("Run", some "_ways_at"), "_ways_at", "Run._ways_at", defArgs s_Run__ways_at, defBody s_Run__ways_at, defScope s_Run__ways_at, [], []⟩) rfl
  obtain ⟨fd_Plan___init__, F_Plan___init__⟩ := d.def_ 25 (d := ⟨fun K => He.fAd K ("Plan", some "__init__"), "__init__", "Plan.__init__", defArgs s_Plan___init__, defBody s_Plan___init__, defScope s_Plan___init__, [.non], [("torn", .adr (kwdAt ("Plan", some "__init__") "torn")), ("longest", .int 40), ("most", .int 400)]⟩) rfl
  obtain ⟨fd_Plan_start, F_Plan_start⟩ := d.def_ 26 (d := ⟨fun K => He.fAd K ("Plan", some "start"), "start", "Plan.start", defArgs s_Plan_start, defBody s_Plan_start, defScope s_Plan_start, [], []⟩) rfl
  obtain ⟨fd_Run_of, F_Run_of⟩ := d.def_ 27 (d := ⟨fun K => He5.wf K (He.ga K "Run") "staticmethod" "of", "of", "Run.of", defArgs s_Run_of, defBody s_Run_of, defScope s_Run_of, [], []⟩) rfl
  obtain ⟨fd_is_value, F_is_value⟩ := d.def_ 28 (d := ⟨fun K => He.fAd K ("is_value", none), "is_value", "is_value", defArgs s_is_value, defBody s_is_value, defScope s_is_value, [], []⟩) rfl
  obtain ⟨fd_is_integer, F_is_integer⟩ := d.def_ 29 (d := ⟨fun K => He.fAd K ("is_integer", none), "is_integer", "is_integer", defArgs s_is_integer, defBody s_is_integer, defScope s_is_integer, [], []⟩) rfl
  obtain ⟨fd_mark, F_mark⟩ := d.def_ 30 (d := ⟨fun K => He.fAd K ("mark", none), "mark", "mark", defArgs s_mark, defBody s_mark, defScope s_mark, [], []⟩) rfl
  obtain ⟨fd_check_value, F_check_value⟩ := d.def_ 31 (d := ⟨fun K => He.fAd K ("_check_value", none), "_check_value", "_check_value", defArgs s_check_value, defBody s_check_value, defScope s_check_value, [], []⟩) rfl
  obtain ⟨fd_perform, F_perform⟩ := d.def_ 32 (d := ⟨fun K => He.fAd K ("perform", none), "perform", "perform", defArgs s_perform, defBody s_perform, defScope s_perform, [], []⟩) rfl
  obtain ⟨fd_end_of, F_end_of⟩ := d.def_ 33 (d := ⟨fun K => He.fAd K ("_end_of", none), "_end_of", "_end_of", defArgs s_end_of, defBody s_end_of, defScope s_end_of, [], []⟩) rfl
  obtain ⟨fd_ways_to_fall, F_ways_to_fall⟩ := d.def_ 34 (d := ⟨fun K => He.fAd K ("ways_to_fall", none), "ways_to_fall", "ways_to_fall", defArgs s_ways_to_fall, defBody s_ways_to_fall, defScope s_ways_to_fall, [], []⟩) rfl
  obtain ⟨fd_way, F_way⟩ := d.def_ 35 (d := ⟨fun K => He.fAd K ("_way", none), "_way", "_way", defArgs s_way, defBody s_way, defScope s_way, [], []⟩) rfl
  obtain ⟨fd_ways_of_page, F_ways_of_page⟩ := d.def_ 36 (d := ⟨fun K => He.fAd K ("_ways_of_page", none), "_ways_of_page", "_ways_of_page", defArgs s_ways_of_page, defBody s_ways_of_page, defScope s_ways_of_page, [], []⟩) rfl
  obtain ⟨fd_torn_parts, F_torn_parts⟩ := d.def_ 37 (d := ⟨fun K => He.fAd K ("_torn_parts", none), "_torn_parts", "_torn_parts", defArgs s_torn_parts, defBody s_torn_parts, defScope s_torn_parts, [], []⟩) rfl
  obtain ⟨fd_combined, F_combined⟩ := d.def_ 38 (d := ⟨fun K => He.fAd K ("_combined", none), "_combined", "_combined", defArgs s_combined, defBody s_combined, defScope s_combined, [], []⟩) rfl
  obtain ⟨fd_changed, F_changed⟩ := d.def_ 39 (d := ⟨fun K => He.fAd K ("_changed", none), "_changed", "_changed", defArgs s_changed, defBody s_changed, defScope s_changed, [], []⟩) rfl
  obtain ⟨fd_moments_of, F_moments_of⟩ := d.def_ 40 (d := ⟨fun K => He.fAd K ("moments_of", none), "moments_of", "moments_of", defArgs s_moments_of, defBody s_moments_of, defScope s_moments_of, [], []⟩) rfl
  obtain ⟨fd_check_names, F_check_names⟩ := d.def_ 41 (d := ⟨fun K => He.fAd K ("_check_names", none), "_check_names", "_check_names", defArgs s_check_names, defBody s_check_names, defScope s_check_names, [], []⟩) rfl
  obtain ⟨fd_is_word, F_is_word⟩ := d.def_ 42 (d := ⟨fun K => He.fAd K ("_is_word", none), "_is_word", "_is_word", defArgs s_is_word, defBody s_is_word, defScope s_is_word, [], []⟩) rfl
  obtain ⟨fd_check_torn, F_check_torn⟩ := d.def_ 43 (d := ⟨fun K => He.fAd K ("_check_torn", none), "_check_torn", "_check_torn", defArgs s_check_torn, defBody s_check_torn, defScope s_check_torn, [], []⟩) rfl
  obtain ⟨fd_check_values, F_check_values⟩ := d.def_ 44 (d := ⟨fun K => He.fAd K ("_check_values", none), "_check_values", "_check_values", defArgs s_check_values, defBody s_check_values, defScope s_check_values, [], []⟩) rfl
  obtain ⟨fd_check_limit, F_check_limit⟩ := d.def_ 45 (d := ⟨fun K => He.fAd K ("_check_limit", none), "_check_limit", "_check_limit", defArgs s_check_limit, defBody s_check_limit, defScope s_check_limit, [], []⟩) rfl
  obtain ⟨fd_law_source, F_law_source⟩ := d.def_ 46 (d := ⟨fun K => He.fAd K ("_law_source", none), "_law_source", "_law_source", defArgs s_law_source, defBody s_law_source, defScope s_law_source, [], []⟩) rfl
  obtain ⟨fd_law_draw, F_law_draw⟩ := d.def_ 47 (d := ⟨fun K => He.fAd K ("_law_draw", none), "_law_draw", "_law_draw", defArgs s_law_draw, defBody s_law_draw, defScope s_law_draw, [], []⟩) rfl
  obtain ⟨fd_law_pick, F_law_pick⟩ := d.def_ 48 (d := ⟨fun K => He.fAd K ("_law_pick", none), "_law_pick", "_law_pick", defArgs s_law_pick, defBody s_law_pick, defScope s_law_pick, [], []⟩) rfl
  obtain ⟨fd_law_same, F_law_same⟩ := d.def_ 49 (d := ⟨fun K => He.fAd K ("_law_same", none), "_law_same", "_law_same", defArgs s_law_same, defBody s_law_same, defScope s_law_same, [], []⟩) rfl
  obtain ⟨fd_law_told, F_law_told⟩ := d.def_ 50 (d := ⟨fun K => He.fAd K ("_law_told", none), "_law_told", "_law_told", defArgs s_law_told, defBody s_law_told, defScope s_law_told, [], []⟩) rfl
  obtain ⟨fd_law_wish, F_law_wish⟩ := d.def_ 51 (d := ⟨fun K => He.fAd K ("_law_wish", none), "_law_wish", "_law_wish", defArgs s_law_wish, defBody s_law_wish, defScope s_law_wish, [], []⟩) rfl
  obtain ⟨fd_law_ask, F_law_ask⟩ := d.def_ 52 (d := ⟨fun K => He.fAd K ("_law_ask", none), "_law_ask", "_law_ask", defArgs s_law_ask, defBody s_law_ask, defScope s_law_ask, [], []⟩) rfl
  obtain ⟨fd_law_play, F_law_play⟩ := d.def_ 53 (d := ⟨fun K => He.fAd K ("_law_play", none), "_law_play", "_law_play", defArgs s_law_play, defBody s_law_play, defScope s_law_play, [], []⟩) rfl
  obtain ⟨fd_law_worked, F_law_worked⟩ := d.def_ 54 (d := ⟨fun K => He.fAd K ("_law_worked", none), "_law_worked", "_law_worked", defArgs s_law_worked, defBody s_law_worked, defScope s_law_worked, [], []⟩) rfl
  obtain ⟨fd_law_run, F_law_run⟩ := d.def_ 55 (d := ⟨fun K => He.fAd K ("_law_run", none), "_law_run", "_law_run", defArgs s_law_run, defBody s_law_run, defScope s_law_run, [], []⟩) rfl
  obtain ⟨fd_law_late, F_law_late⟩ := d.def_ 56 (d := ⟨fun K => He.fAd K ("_law_late", none), "_law_late", "_law_late", defArgs s_law_late, defBody s_law_late, defScope s_law_late, [], []⟩) rfl
  obtain ⟨fd_law_worths, F_law_worths⟩ := d.def_ 57 (d := ⟨fun K => He.fAd K ("_law_worths", none), "_law_worths", "_law_worths", defArgs s_law_worths, defBody s_law_worths, defScope s_law_worths, [], []⟩) rfl
  obtain ⟨fd_law_fits, F_law_fits⟩ := d.def_ 58 (d := ⟨fun K => He.fAd K ("_law_fits", none), "_law_fits", "_law_fits", defArgs s_law_fits, defBody s_law_fits, defScope s_law_fits, [], []⟩) rfl
  obtain ⟨fd_law_pairs_of, F_law_pairs_of⟩ := d.def_ 59 (d := ⟨fun K => He.fAd K ("_law_pairs_of", none), "_law_pairs_of", "_law_pairs_of", defArgs s_law_pairs_of, defBody s_law_pairs_of, defScope s_law_pairs_of, [], []⟩) rfl
  obtain ⟨fd_law_kept, F_law_kept⟩ := d.def_ 60 (d := ⟨fun K => He.fAd K ("_law_kept", none), "_law_kept", "_law_kept", defArgs s_law_kept, defBody s_law_kept, defScope s_law_kept, [], []⟩) rfl
  obtain ⟨fd_law_plan, F_law_plan⟩ := d.def_ 61 (d := ⟨fun K => He.fAd K ("_law_plan", none), "_law_plan", "_law_plan", defArgs s_law_plan, defBody s_law_plan, defScope s_law_plan, [], []⟩) rfl
  obtain ⟨fd_law_piece, F_law_piece⟩ := d.def_ 62 (d := ⟨fun K => He.fAd K ("_law_piece", none), "_law_piece", "_law_piece", defArgs s_law_piece, defBody s_law_piece, defScope s_law_piece, [], []⟩) rfl
  obtain ⟨fd_law_putting, F_law_putting⟩ := d.def_ 63 (d := ⟨fun K => He.fAd K ("_law_putting", none), "_law_putting", "_law_putting", defArgs s_law_putting, defBody s_law_putting, defScope s_law_putting, [], []⟩) rfl
  obtain ⟨fd_law, F_law⟩ := d.def_ 64 (d := ⟨fun K => He.fAd K ("law", none), "law", "law", defArgs s_law, defBody s_law, defScope s_law, [], []⟩) rfl
  have e := hfa.symm.trans g_law
  cases e
  have o_NoMoment := oexB_ok m7
  have T : Tx K mg := {
    n_len := n_len
    n_int := n_int
    n_isinstance := n_isinstance
    n_list := n_list
    n_tuple := n_tuple
    n_bool := n_bool
    n_all := n_all
    n_zip := n_zip
    n_range := n_range
    n_min := n_min
    n_dict := n_dict
    n_sorted := n_sorted
    n_enumerate := n_enumerate
    n_str := n_str
    n_Exception := n_Exception
    m_LETTERS_OF_WORD := m_LETTERS_OF_WORD
    m_HIGHEST_LONGEST := m_HIGHEST_LONGEST
    m_HIGHEST_MOST := m_HIGHEST_MOST
    K_Hand := K_Hand
    a_Hand__pages := a_Hand__pages
    a_Hand__longest := a_Hand__longest
    a_Hand__steps := a_Hand__steps
    a_Hand__notes := a_Hand__notes
    a_Hand__failure := a_Hand__failure
    a_Hand__held := a_Hand__held
    K_Moment := K_Moment
    a_Moment_pages := a_Moment_pages
    a_Moment_synced := a_Moment_synced
    a_Moment_epochs := a_Moment_epochs
    a_Moment__ways := a_Moment__ways
    K_Run := K_Run
    a_Run__steps := a_Run__steps
    a_Run__notes := a_Run__notes
    a_Run__end := a_Run__end
    a_Run__moments := a_Run__moments
    a_Run__torn := a_Run__torn
    K_Plan := K_Plan
    a_Plan_work := a_Plan_work
    a_Plan_mend := a_Plan_mend
    a_Plan_torn := a_Plan_torn
    a_Plan_longest := a_Plan_longest
    a_Plan_most := a_Plan_most
    a_Plan_spared_steps := a_Plan_spared_steps
    a_Plan_flush_places := a_Plan_flush_places
    a_Plan__start := a_Plan__start
    c_Held := g_Held
    i_Held := me_Held___init__.at_
    t_Held := beq_iff_eq.mp me_Held___init__.fn
    k_Held := heldB_ok m1
    s_Held := of_decide_eq_true m2
    y_Held := of_decide_eq_true m3
    e_Held := e_Held
    c_NoMoment := g_NoMoment
    i_NoMoment := me_NoMoment___init__.at_
    t_NoMoment := beq_iff_eq.mp me_NoMoment___init__.fn
    k_NoMoment := MkC.ve o_NoMoment
    s_NoMoment := of_decide_eq_true m4
    y_NoMoment := of_decide_eq_true m5
    e_NoMoment := e_NoMoment
    hi := clsVal_ok m6
    c_FallError := g_FallError
    ci := ⟨_, iniB_ok m9⟩
    o_NoMoment := o_NoMoment
    x_NoMoment := xfB_ok m8
    no_NoMoment := no_NoMoment }
  have b_NoMoment___init__ := FunD.bindsN (ps := ["self", "moment"]) F_NoMoment___init__ fun _ _ _ _ _ _ us hl => match us, hl with | [_, _], _ => rfl
  have b_Held___init__ := FunD.bindsN (ps := ["self"]) F_Held___init__ fun _ _ _ _ _ _ us hl => match us, hl with | [_], _ => rfl
  have b_Hand___init__ := FunD.bindsN (ps := ["self", "disk", "longest"]) F_Hand___init__ fun _ _ _ _ _ _ us hl => match us, hl with | [_, _, _], _ => rfl
  have b_Hand_look := FunD.bindsN (ps := ["self", "page"]) F_Hand_look fun _ _ _ _ _ _ us hl => match us, hl with | [_, _], _ => rfl
  have b_Hand_put := FunD.bindsN (ps := ["self", "page", "value"]) F_Hand_put fun _ _ _ _ _ _ us hl => match us, hl with | [_, _, _], _ => rfl
  have b_Hand_barrier := FunD.bindsN (ps := ["self"]) F_Hand_barrier fun _ _ _ _ _ _ us hl => match us, hl with | [_], _ => rfl
  have b_Hand_flush := FunD.bindsN (ps := ["self"]) F_Hand_flush fun _ _ _ _ _ _ us hl => match us, hl with | [_], _ => rfl
  have b_Hand_say := FunD.bindsN (ps := ["self", "value"]) F_Hand_say fun _ _ _ _ _ _ us hl => match us, hl with | [_, _], _ => rfl
  have b_Hand_fail := FunD.bindsN (ps := ["self", "value"]) F_Hand_fail fun _ _ _ _ _ _ us hl => match us, hl with | [_, _], _ => rfl
  have b_Hand__check_free := FunD.bindsN (ps := ["self"]) F_Hand__check_free fun _ _ _ _ _ _ us hl => match us, hl with | [_], _ => rfl
  have b_Hand__check_page := FunD.bindsN (ps := ["self", "page"]) F_Hand__check_page fun _ _ _ _ _ _ us hl => match us, hl with | [_, _], _ => rfl
  have b_Hand__check_room := FunD.bindsN (ps := ["self"]) F_Hand__check_room fun _ _ _ _ _ _ us hl => match us, hl with | [_], _ => rfl
  have b_Moment___init__ := FunD.bindsN (ps := ["self", "pages", "synced", "epochs"]) F_Moment___init__ fun _ _ _ _ _ _ us hl => match us, hl with | [_, _, _, _], _ => rfl
  have b_Moment_ways := FunD.bindsN (ps := ["self", "torn"]) F_Moment_ways fun _ _ _ _ _ _ us hl => match us, hl with | [_, _], _ => rfl
  have b_Moment_behind := FunD.bindsN (ps := ["self", "wish"]) F_Moment_behind fun _ _ _ _ _ _ us hl => match us, hl with | [_, _], _ => rfl
  have b_Run___init__ := FunD.bindsN (ps := ["self", "function", "disk", "plan", "spared_steps", "flush_places"]) F_Run___init__ fun _ _ _ _ _ _ us hl => match us, hl with | [_, _, _, _, _, _], _ => rfl
  have b_Run_steps := FunD.bindsN (ps := ["self"]) F_Run_steps fun _ _ _ _ _ _ us hl => match us, hl with | [_], _ => rfl
  have b_Run_end := FunD.bindsN (ps := ["self"]) F_Run_end fun _ _ _ _ _ _ us hl => match us, hl with | [_], _ => rfl
  have b_Run_said := FunD.bindsN (ps := ["self"]) F_Run_said fun _ _ _ _ _ _ us hl => match us, hl with | [_], _ => rfl
  have b_Run_said_by := FunD.bindsN (ps := ["self", "moment"]) F_Run_said_by fun _ _ _ _ _ _ us hl => match us, hl with | [_, _], _ => rfl
  have b_Run_kept_at := FunD.bindsN (ps := ["self", "moment"]) F_Run_kept_at fun _ _ _ _ _ _ us hl => match us, hl with | [_, _], _ => rfl
  have b_Run__check_moment := FunD.bindsN (ps := ["self", "moment"]) F_Run__check_moment fun _ _ _ _ _ _ us hl => match us, hl with | [_, _], _ => rfl
  have b_Run__is_moment := FunD.bindsN (ps := ["self", "thing"]) F_Run__is_moment fun _ _ _ _ _ _ us hl => match us, hl with | [_, _], _ => rfl
  have b_Run__moment := FunD.bindsN (ps := ["self", "moment"]) F_Run__moment fun _ _ _ _ _ _ us hl => match us, hl with | [_, _], _ => rfl
  have b_Run__ways_at := FunD.bindsN (ps := ["self", "moment"]) F_Run__ways_at fun _ _ _ _ _ _ us hl => match us, hl with | [_, _], _ => rfl
  have b_Plan_start := FunD.bindsN (ps := ["self"]) F_Plan_start fun _ _ _ _ _ _ us hl => match us, hl with | [_], _ => rfl
  have b_Run_of := FunD.bindsN (ps := ["plan"]) F_Run_of fun _ _ _ _ _ _ us hl => match us, hl with | [_], _ => rfl
  have b_is_value := FunD.bindsN (ps := ["thing"]) F_is_value fun _ _ _ _ _ _ us hl => match us, hl with | [_], _ => rfl
  have b_is_integer := FunD.bindsN (ps := ["thing"]) F_is_integer fun _ _ _ _ _ _ us hl => match us, hl with | [_], _ => rfl
  have b_mark := FunD.bindsN (ps := ["value"]) F_mark fun _ _ _ _ _ _ us hl => match us, hl with | [_], _ => rfl
  have b_check_value := FunD.bindsN (ps := ["value"]) F_check_value fun _ _ _ _ _ _ us hl => match us, hl with | [_], _ => rfl
  have b_perform := FunD.bindsN (ps := ["function", "disk", "longest"]) F_perform fun _ _ _ _ _ _ us hl => match us, hl with | [_, _, _], _ => rfl
  have b_end_of := FunD.bindsN (ps := ["hand", "told"]) F_end_of fun _ _ _ _ _ _ us hl => match us, hl with | [_, _], _ => rfl
  have b_ways_to_fall := FunD.bindsN (ps := ["disk", "epochs", "torn"]) F_ways_to_fall fun _ _ _ _ _ _ us hl => match us, hl with | [_, _, _], _ => rfl
  have b_way := FunD.bindsN (ps := ["count", "part", "name", "value"]) F_way fun _ _ _ _ _ _ us hl => match us, hl with | [_, _, _, _], _ => rfl
  have b_ways_of_page := FunD.bindsN (ps := ["whole", "epoch", "torn"]) F_ways_of_page fun _ _ _ _ _ _ us hl => match us, hl with | [_, _, _], _ => rfl
  have b_torn_parts := FunD.bindsN (ps := ["value", "worth"]) F_torn_parts fun _ _ _ _ _ _ us hl => match us, hl with | [_, _], _ => rfl
  have b_combined := FunD.bindsN (ps := ["rows"]) F_combined fun _ _ _ _ _ _ us hl => match us, hl with | [_], _ => rfl
  have b_changed := FunD.bindsN (ps := ["pages", "name", "value"]) F_changed fun _ _ _ _ _ _ us hl => match us, hl with | [_, _, _], _ => rfl
  have b_moments_of := FunD.bindsN (ps := ["disk", "steps", "spared_steps", "flush_places"]) F_moments_of fun _ _ _ _ _ _ us hl => match us, hl with | [_, _, _, _], _ => rfl
  have b_check_names := FunD.bindsN (ps := ["pages"]) F_check_names fun _ _ _ _ _ _ us hl => match us, hl with | [_], _ => rfl
  have b_is_word := FunD.bindsN (ps := ["name"]) F_is_word fun _ _ _ _ _ _ us hl => match us, hl with | [_], _ => rfl
  have b_check_torn := FunD.bindsN (ps := ["torn", "pages"]) F_check_torn fun _ _ _ _ _ _ us hl => match us, hl with | [_, _], _ => rfl
  have b_check_values := FunD.bindsN (ps := ["pages"]) F_check_values fun _ _ _ _ _ _ us hl => match us, hl with | [_], _ => rfl
  have b_check_limit := FunD.bindsN (ps := ["limit", "highest"]) F_check_limit fun _ _ _ _ _ _ us hl => match us, hl with | [_, _], _ => rfl
  have b_law_source := FunD.bindsN (ps := ["_law_script", "_law_at"]) F_law_source fun _ _ _ _ _ _ us hl => match us, hl with | [_, _], _ => rfl
  have b_law_draw := FunD.bindsN (ps := ["_law_draws", "_law_many"]) F_law_draw fun _ _ _ _ _ _ us hl => match us, hl with | [_, _], _ => rfl
  have b_law_pick := FunD.bindsN (ps := ["_law_draws", "_law_xs"]) F_law_pick fun _ _ _ _ _ _ us hl => match us, hl with | [_, _], _ => rfl
  have b_law_same := FunD.bindsN (ps := ["_law_found", "_law_due"]) F_law_same fun _ _ _ _ _ _ us hl => match us, hl with | [_, _], _ => rfl
  have b_law_told := FunD.bindsN (ps := ["_law_row", "_law_notes"]) F_law_told fun _ _ _ _ _ _ us hl => match us, hl with | [_, _], _ => rfl
  have b_law_wish := FunD.bindsN (ps := ["_law_row", "_law_notes"]) F_law_wish fun _ _ _ _ _ _ us hl => match us, hl with | [_, _], _ => rfl
  have b_law_ask := FunD.bindsN (ps := ["_law_hand", "_law_wish_here"]) F_law_ask fun _ _ _ _ _ _ us hl => match us, hl with | [_, _], _ => rfl
  have b_law_play := FunD.bindsN (ps := ["_law_rows", "_law_hand"]) F_law_play fun _ _ _ _ _ _ us hl => match us, hl with | [_, _], _ => rfl
  have b_law_worked := FunD.bindsN (ps := ["_law_rows"]) F_law_worked fun _ _ _ _ _ _ us hl => match us, hl with | [_], _ => rfl
  have b_law_run := FunD.bindsN (ps := ["_law_rows", "_law_disk"]) F_law_run fun _ _ _ _ _ _ us hl => match us, hl with | [_, _], _ => rfl
  have b_law_late := FunD.bindsN (ps := ["_law_run_here", "_law_disk", "_law_moment", "_law_board"]) F_law_late fun _ _ _ _ _ _ us hl => match us, hl with | [_, _, _, _], _ => rfl
  have b_law_worths := FunD.bindsN (ps := ["_law_late_here", "_law_page"]) F_law_worths fun _ _ _ _ _ _ us hl => match us, hl with | [_, _], _ => rfl
  have b_law_fits := FunD.bindsN (ps := ["_law_late_here", "_law_names", "_law_kept_here"]) F_law_fits fun _ _ _ _ _ _ us hl => match us, hl with | [_, _, _], _ => rfl
  have b_law_pairs_of := FunD.bindsN (ps := ["_law_late_here", "_law_page", "_law_is_torn"]) F_law_pairs_of fun _ _ _ _ _ _ us hl => match us, hl with | [_, _, _], _ => rfl
  have b_law_kept := FunD.bindsN (ps := ["_law_late_here", "_law_names", "_law_marks"]) F_law_kept fun _ _ _ _ _ _ us hl => match us, hl with | [_, _, _], _ => rfl
  have b_law_plan := FunD.bindsN (ps := ["_law_plan_here"]) F_law_plan fun _ _ _ _ _ _ us hl => match us, hl with | [_], _ => rfl
  have b_law_piece := FunD.bindsN (ps := ["_law_draws"]) F_law_piece fun _ _ _ _ _ _ us hl => match us, hl with | [_], _ => rfl
  have b_law_putting := FunD.bindsN (ps := ["_law_draws", "_law_names", "_law_many"]) F_law_putting fun _ _ _ _ _ _ us hl => match us, hl with | [_, _, _], _ => rfl
  have b_law := FunD.bindsN (ps := ["_law_script"]) F_law fun _ _ _ _ _ _ us hl => match us, hl with | [_], _ => rfl
  have bl := FunD.bindsA (ps := ["_law_script"]) F_law fun _ _ _ _ _ _ us hl => match us, hl with | [_], _ => rfl
  refine ⟨fd_law, fun s v => bl s [v] rfl, fun base KB GB TBs => ?_⟩
  obtain ⟨c_is_value, hc_is_value, hd_is_value⟩ : ∃ c0, fd_is_value.code = .ref c0 ∧ (He.cT K ("is_value", none)).1 = c0 := by
    obtain ⟨oc, od, dV, kV, doc, pm, an, cdv, ct, osl, efd, lk, hcd, _, _⟩ := F_is_value.ex
    obtain ⟨c0, e0⟩ := He.codeIn_ref hcd
    have e1 : fd_is_value.code = .ref c0 := by rw [efd]; exact e0
    exact ⟨c0, e1, He.codeOf_eq lk e1⟩
  have TB_is_value := TBs ("is_value", none) (by unfold tf; simp)
  rw [hd_is_value] at TB_is_value
  obtain ⟨c_changed, hc_changed, hd_changed⟩ : ∃ c0, fd_changed.code = .ref c0 ∧ (He.cT K ("_changed", none)).1 = c0 := by
    obtain ⟨oc, od, dV, kV, doc, pm, an, cdv, ct, osl, efd, lk, hcd, _, _⟩ := F_changed.ex
    obtain ⟨c0, e0⟩ := He.codeIn_ref hcd
    have e1 : fd_changed.code = .ref c0 := by rw [efd]; exact e0
    exact ⟨c0, e1, He.codeOf_eq lk e1⟩
  have TB_changed := TBs ("_changed", none) (by unfold tf; simp)
  rw [hd_changed] at TB_changed
  obtain ⟨c_Run_said_by, hc_Run_said_by, hd_Run_said_by⟩ : ∃ c0, fd_Run_said_by.code = .ref c0 ∧ (He.cT K ("Run", some "said_by")).1 = c0 := by
    obtain ⟨oc, od, dV, kV, doc, pm, an, cdv, ct, osl, efd, lk, hcd, _, _⟩ := F_Run_said_by.ex
    obtain ⟨c0, e0⟩ := He.codeIn_ref hcd
    have e1 : fd_Run_said_by.code = .ref c0 := by rw [efd]; exact e0
    exact ⟨c0, e1, He.codeOf_eq lk e1⟩
  have TB_Run_said_by := TBs ("Run", some "said_by") (by unfold tf; simp)
  rw [hd_Run_said_by] at TB_Run_said_by
  obtain ⟨c_is_word, hc_is_word, hd_is_word⟩ : ∃ c0, fd_is_word.code = .ref c0 ∧ (He.cT K ("_is_word", none)).1 = c0 := by
    obtain ⟨oc, od, dV, kV, doc, pm, an, cdv, ct, osl, efd, lk, hcd, _, _⟩ := F_is_word.ex
    obtain ⟨c0, e0⟩ := He.codeIn_ref hcd
    have e1 : fd_is_word.code = .ref c0 := by rw [efd]; exact e0
    exact ⟨c0, e1, He.codeOf_eq lk e1⟩
  have TB_is_word := TBs ("_is_word", none) (by unfold tf; simp)
  rw [hd_is_word] at TB_is_word
  obtain ⟨c_Plan___init__, hc_Plan___init__, hd_Plan___init__⟩ : ∃ c0, fd_Plan___init__.code = .ref c0 ∧ (He.cT K ("Plan", some "__init__")).1 = c0 := by
    obtain ⟨oc, od, dV, kV, doc, pm, an, cdv, ct, osl, efd, lk, hcd, _, _⟩ := F_Plan___init__.ex
    obtain ⟨c0, e0⟩ := He.codeIn_ref hcd
    have e1 : fd_Plan___init__.code = .ref c0 := by rw [efd]; exact e0
    exact ⟨c0, e1, He.codeOf_eq lk e1⟩
  have TB_Plan___init__ := TBs ("Plan", some "__init__") (by unfold tf; simp)
  rw [hd_Plan___init__] at TB_Plan___init__
  obtain ⟨c_law_worked, hc_law_worked, hd_law_worked⟩ : ∃ c0, fd_law_worked.code = .ref c0 ∧ (He.cT K ("_law_worked", none)).1 = c0 := by
    obtain ⟨oc, od, dV, kV, doc, pm, an, cdv, ct, osl, efd, lk, hcd, _, _⟩ := F_law_worked.ex
    obtain ⟨c0, e0⟩ := He.codeIn_ref hcd
    have e1 : fd_law_worked.code = .ref c0 := by rw [efd]; exact e0
    exact ⟨c0, e1, He.codeOf_eq lk e1⟩
  have TB_law_worked := TBs ("_law_worked", none) (by unfold tf; simp)
  rw [hd_law_worked] at TB_law_worked
  have TG_is_value : GxR.TabB base mg c_is_value (He.cT K ("is_value", none)).2 := ⟨TB_is_value.code, TB_is_value.bm, TB_is_value.gP⟩
  have hP_is_value : (He.cT K ("is_value", none)).2 ∈ (GT K).gp := by unfold GT; simp
  have hl_is_value : ∀ p ∈ (GT K).lt, p.1 ≠ (He.cT K ("is_value", none)).2 := fun p hp => by
    have hp' : p ∈ [((He.cT K ("_law_worked", none)).2, fun _ _ => wkQ)] := hp
    simp only [List.mem_cons, List.mem_nil_iff, or_false] at hp'
    rcases hp' with rfl
    · exact of_decide_eq_true m12
  have TG_changed : GxR.TabB base mg c_changed (He.cT K ("_changed", none)).2 := ⟨TB_changed.code, TB_changed.bm, TB_changed.gP⟩
  have hP_changed : (He.cT K ("_changed", none)).2 ∈ (GT K).gp := by unfold GT; simp
  have hl_changed : ∀ p ∈ (GT K).lt, p.1 ≠ (He.cT K ("_changed", none)).2 := fun p hp => by
    have hp' : p ∈ [((He.cT K ("_law_worked", none)).2, fun _ _ => wkQ)] := hp
    simp only [List.mem_cons, List.mem_nil_iff, or_false] at hp'
    rcases hp' with rfl
    · exact of_decide_eq_true m13
  have TG_Run_said_by : GxR.TabB base mg c_Run_said_by (He.cT K ("Run", some "said_by")).2 := ⟨TB_Run_said_by.code, TB_Run_said_by.bm, TB_Run_said_by.gP⟩
  have hP_Run_said_by : (He.cT K ("Run", some "said_by")).2 ∈ (GT K).gp := by unfold GT; simp
  have hl_Run_said_by : ∀ p ∈ (GT K).lt, p.1 ≠ (He.cT K ("Run", some "said_by")).2 := fun p hp => by
    have hp' : p ∈ [((He.cT K ("_law_worked", none)).2, fun _ _ => wkQ)] := hp
    simp only [List.mem_cons, List.mem_nil_iff, or_false] at hp'
    rcases hp' with rfl
    · exact of_decide_eq_true m14
  have TG_is_word : GxR.TabB base mg c_is_word (He.cT K ("_is_word", none)).2 := ⟨TB_is_word.code, TB_is_word.bm, TB_is_word.gP⟩
  have hP_is_word : (He.cT K ("_is_word", none)).2 ∈ (GT K).gp := by unfold GT; simp
  have hl_is_word : ∀ p ∈ (GT K).lt, p.1 ≠ (He.cT K ("_is_word", none)).2 := fun p hp => by
    have hp' : p ∈ [((He.cT K ("_law_worked", none)).2, fun _ _ => wkQ)] := hp
    simp only [List.mem_cons, List.mem_nil_iff, or_false] at hp'
    rcases hp' with rfl
    · exact of_decide_eq_true m15
  have TG_Plan___init__ : GxR.TabB base mg c_Plan___init__ (He.cT K ("Plan", some "__init__")).2 := ⟨TB_Plan___init__.code, TB_Plan___init__.bm, TB_Plan___init__.gP⟩
  have hP_Plan___init__ : (He.cT K ("Plan", some "__init__")).2 ∈ (GT K).gp := by unfold GT; simp
  have hl_Plan___init__ : ∀ p ∈ (GT K).lt, p.1 ≠ (He.cT K ("Plan", some "__init__")).2 := fun p hp => by
    have hp' : p ∈ [((He.cT K ("_law_worked", none)).2, fun _ _ => wkQ)] := hp
    simp only [List.mem_cons, List.mem_nil_iff, or_false] at hp'
    rcases hp' with rfl
    · exact of_decide_eq_true m16
  have hg0_law_worked : (He.cT K ("_law_worked", none)).2 ∉ (GT K).gp := fun z => by
    have z' : (He.cT K ("_law_worked", none)).2 ∈ [(He.cT K ("is_value", none)).2, (He.cT K ("_changed", none)).2, (He.cT K ("Run", some "said_by")).2, (He.cT K ("_is_word", none)).2, (He.cT K ("Plan", some "__init__")).2] := z
    simp only [List.mem_cons, List.mem_nil_iff, or_false] at z'
    rcases z' with z' | z' | z' | z' | z'
    · exact of_decide_eq_true m12 z'
    · exact of_decide_eq_true m13 z'
    · exact of_decide_eq_true m14 z'
    · exact of_decide_eq_true m15 z'
    · exact of_decide_eq_true m16 z'
  have hm_law_worked : ((He.cT K ("_law_worked", none)).2, (fun _ _ => wkQ : Nat → Nat → Str)) ∈ (GT K).lt := by unfold GT; simp
  have hu_law_worked : ∀ p ∈ (GT K).lt, p.1 = (He.cT K ("_law_worked", none)).2 → p.2 = fun _ _ => wkQ := fun p hp => by
    have hp' : p ∈ [((He.cT K ("_law_worked", none)).2, fun _ _ => wkQ)] := hp
    simp only [List.mem_cons, List.mem_nil_iff, or_false] at hp'
    rcases hp' with rfl
    · exact fun _ => rfl
  have SV : ∀ n, Use P w K mg base (L2.CX P w) "is_value" (3 * n) ["thing"] (spIsValueR K (GT K) n) := fun n => by
    induction n with
    | zero => exact ⟨⟨_, _, fn_false, g_is_value, F_is_value.kp, b_is_value⟩⟩
    | succ n ih => exact ⟨⟨_, _, ok_is_value F_is_value hc_is_value TG_is_value hP_is_value hl_is_value T n (3 * n) rfl ih, g_is_value, F_is_value.kp, b_is_value⟩⟩
  have U_is_value : Use P w K mg base (L2.CX P w) "is_value" 15 ["thing"] (spIsValue K (GT K) 4) := SV 5
  have U_is_integer : Use P w K mg base (L2.CX P w) "is_integer" 1 ["thing"] (spIsInteger K) := ⟨⟨_, _, ok_is_integer F_is_integer T, g_is_integer, F_is_integer.kp, b_is_integer⟩⟩
  have U_check_value : Use P w K mg base (L2.CX P w) "_check_value" 16 ["value"] (spCheckValue K (GT K) 4) := ⟨⟨_, _, ok_check_value F_check_value 4 15 U_is_value, g_check_value, F_check_value.kp, b_check_value⟩⟩
  have I_Held := ok_held (P := P) (w := w) (base := base) F_Held___init__ T
  have B_Held := kbn_of (ps := ["self"]) (ks := []) (n := 1) F_Held___init__ (fun _ _ _ _ _ _ us vs h1 h2 => match us, vs, h1, h2 with | [_], [], _, _ => rfl)
  have Ufree : UMeth P w K mg base (L2.CX P w) (KC K "Hand") "_check_free" 1 ["self"] (spFree K) := ⟨⟨_, _, ok_free F_Hand__check_free T, me_Hand__check_free, b_Hand__check_free⟩⟩
  have Upage : UMeth P w K mg base (L2.CX P w) (KC K "Hand") "_check_page" 1 ["self", "page"] (spPage K) := ⟨⟨_, _, ok_page F_Hand__check_page T, me_Hand__check_page, b_Hand__check_page⟩⟩
  have Uroom : UMeth P w K mg base (L2.CX P w) (KC K "Hand") "_check_room" 1 ["self"] (spRoom K) := ⟨⟨_, _, ok_room F_Hand__check_room T, me_Hand__check_room, b_Hand__check_room⟩⟩
  have Ulook : UMeth P w K mg base (L2.CX P w) (KC K "Hand") "look" 2 ["self", "page"] (spLook K (GT K)) := ⟨⟨_, _, ok_look F_Hand_look T Ufree Upage Uroom, me_Hand_look, b_Hand_look⟩⟩
  have Uput : UMeth P w K mg base (L2.CX P w) (KC K "Hand") "put" 18 ["self", "page", "value"] (spPut K (GT K) 4) := ⟨⟨_, _, ok_put F_Hand_put T 4 16 Ufree Upage Uroom U_check_value, me_Hand_put, b_Hand_put⟩⟩
  have Ubar : UMeth P w K mg base (L2.CX P w) (KC K "Hand") "barrier" 2 ["self"] (spGuard K (GT K) HS.barrier) := ⟨⟨_, _, ok_barrier F_Hand_barrier T Ufree Uroom, me_Hand_barrier, b_Hand_barrier⟩⟩
  have Uflu : UMeth P w K mg base (L2.CX P w) (KC K "Hand") "flush" 2 ["self"] (spGuard K (GT K) HS.flush) := ⟨⟨_, _, ok_flush F_Hand_flush T Ufree Uroom, me_Hand_flush, b_Hand_flush⟩⟩
  have Usay : UMeth P w K mg base (L2.CX P w) (KC K "Hand") "say" 18 ["self", "value"] (spSay K (GT K) 4) := ⟨⟨_, _, ok_say F_Hand_say T 4 16 Ufree U_check_value, me_Hand_say, b_Hand_say⟩⟩
  have Ufail : UMeth P w K mg base (L2.CX P w) (KC K "Hand") "fail" 19 ["self", "value"] (spFail K (GT K) 4) := ⟨⟨_, _, ok_fail F_Hand_fail T 4 16 Ufree U_check_value I_Held B_Held, me_Hand_fail, b_Hand_fail⟩⟩
  have UHand : UMake P w K mg base (L2.CX P w) "Hand" 1 ["self", "disk", "longest"] (spHand0 K (GT K)) (KC K "Hand") := ⟨g_Hand, ⟨_, _, ok_hand0 F_Hand___init__ T, mk_Hand, b_Hand___init__⟩⟩
  have U_end_of : Use P w K mg base (L2.CX P w) "_end_of" 18 ["hand", "told"] (spEndOf K (GT K) 4) := ⟨⟨_, _, ok_end_of F_end_of T 4 16 U_check_value, g_end_of, F_end_of.kp, b_end_of⟩⟩
  have U_perform : Use P w K mg base (L2.CX P w) "perform" 43 ["function", "disk", "longest"] (spPerform P w K mg base (GT K) 4 21) := ⟨⟨_, _, ok_perform F_perform T 4 18 21 UHand U_end_of, g_perform, F_perform.kp, b_perform⟩⟩
  have UMoment : UMake P w K mg base (L2.CX P w) "Moment" 1 ["self", "pages", "synced", "epochs"] (spMom0 K) (KC K "Moment") := ⟨g_Moment, ⟨_, _, ok_mom0 F_Moment___init__ T, mk_Moment, b_Moment___init__⟩⟩
  have U_changed : Use P w K mg base (L2.CX P w) "_changed" 4 ["pages", "name", "value"] (spChanged K (GT K)) := ⟨⟨_, _, ok_changed F_changed hc_changed TG_changed hP_changed hl_changed T, g_changed, F_changed.kp, b_changed⟩⟩
  have Ubehind : UMeth P w K mg base (L2.CX P w) (KC K "Moment") "behind" 6 ["self", "wish"] (spBehind K (GT K)) := ⟨⟨_, _, ok_behind F_Moment_behind T UMoment U_changed, me_Moment_behind, b_Moment_behind⟩⟩
  have U_moments_of : Use P w K mg base (L2.CX P w) "moments_of" 7 ["disk", "steps", "spared_steps", "flush_places"] (spMoments K (GT K)) := ⟨⟨_, _, ok_moments_of F_moments_of T UMoment Ubehind, g_moments_of, F_moments_of.kp, b_moments_of⟩⟩
  have URun : UMake P w K mg base (L2.CX P w) "Run" 44 ["self", "function", "disk", "plan", "spared_steps", "flush_places"] (spRun0 P w K mg base (GT K) 4 21) (KC K "Run") := ⟨g_Run, ⟨_, _, ok_run0 F_Run___init__ T 4 43 21 (by decide) U_perform U_moments_of, mk_Run, b_Run___init__⟩⟩
  have Ustart : UMeth P w K mg base (L2.CX P w) (KC K "Plan") "start" 1 ["self"] (spStart K) := ⟨⟨_, _, ok_start F_Plan_start T, me_Plan_start, b_Plan_start⟩⟩
  have Uof : UStat P w K mg base (L2.CX P w) "Run" "of" 46 ["plan"] (spOf P w K mg base (GT K) 4 21) := ⟨⟨_, _, _, _, _, g_Run, smB_ok m10 F_Run_of.kp, ok_of F_Run_of T 4 21 44 URun Ustart, b_Run_of⟩⟩
  have I_NoMoment := ok_i_NoMoment (P := P) (w := w) (base := base) F_NoMoment___init__ T
  have B_NoMoment := kbn_of (ps := ["self", "moment"]) (ks := []) (n := 2) F_NoMoment___init__ (fun _ _ _ _ _ _ us vs h1 h2 => match us, vs, h1, h2 with | [_, _], [], _, _ => rfl)
  have Uism : UMeth P w K mg base (L2.CX P w) (KC K "Run") "_is_moment" 2 ["self", "thing"] (spIsMoment K) := ⟨⟨_, _, ok_is_moment F_Run__is_moment T U_is_integer, me_Run__is_moment, b_Run__is_moment⟩⟩
  have Uchm : UMeth P w K mg base (L2.CX P w) (KC K "Run") "_check_moment" 3 ["self", "moment"] (spCheckMoment K (GT K)) := ⟨⟨_, _, ok_check_moment F_Run__check_moment T Uism I_NoMoment B_NoMoment, me_Run__check_moment, b_Run__check_moment⟩⟩
  have Usaidby : UMeth P w K mg base (L2.CX P w) (KC K "Run") "said_by" 4 ["self", "moment"] (spAt K (GT K) (RSaid K (GT K))) := ⟨⟨_, _, ok_said_by F_Run_said_by hc_Run_said_by TG_Run_said_by hP_Run_said_by hl_Run_said_by T Uchm, me_Run_said_by, b_Run_said_by⟩⟩
  have MK : ∀ n, Use P w K mg base (L2.CX P w) "mark" n ["value"] (spMarkR K (GT K) n) := fun n => by
    induction n with
    | zero => exact ⟨⟨_, _, fn_false, g_mark, F_mark.kp, b_mark⟩⟩
    | succ n ih => exact ⟨⟨_, _, ok_mark F_mark T n ih, g_mark, F_mark.kp, b_mark⟩⟩
  have Umark : Use P w K mg base (L2.CX P w) "mark" 5 ["value"] (spMark K (GT K) 4) := MK 5
  have Uway : Use P w K mg base (L2.CX P w) "_way" 6 ["count", "part", "name", "value"] (spWay K (GT K)) := ⟨⟨_, _, ok_way F_way T Umark, g_way, F_way.kp, b_way⟩⟩
  have Utornp : Use P w K mg base (L2.CX P w) "_torn_parts" 1 ["value", "worth"] (spTornParts K (GT K)) := ⟨⟨_, _, ok_torn_parts F_torn_parts T, g_torn_parts, F_torn_parts.kp, b_torn_parts⟩⟩
  have Uwaysof : Use P w K mg base (L2.CX P w) "_ways_of_page" 7 ["whole", "epoch", "torn"] (spWaysOf K (GT K)) := ⟨⟨_, _, ok_ways_of F_ways_of_page T Uway Utornp, g_ways_of_page, F_ways_of_page.kp, b_ways_of_page⟩⟩
  have Ucomb : Use P w K mg base (L2.CX P w) "_combined" 1 ["rows"] (spCombined K (GT K)) := ⟨⟨_, _, ok_combined F_combined T, g_combined, F_combined.kp, b_combined⟩⟩
  have Uwtf : Use P w K mg base (L2.CX P w) "ways_to_fall" 8 ["disk", "epochs", "torn"] (spWaysToFall K (GT K)) := ⟨⟨_, _, ok_ways_to_fall F_ways_to_fall T Uway Uwaysof Ucomb, g_ways_to_fall, F_ways_to_fall.kp, b_ways_to_fall⟩⟩
  have Uways : UMeth P w K mg base (L2.CX P w) (KC K "Moment") "ways" 9 ["self", "torn"] (spWays K (GT K)) := ⟨⟨_, _, ok_ways F_Moment_ways T Uwtf, me_Moment_ways, b_Moment_ways⟩⟩
  have Umomw : UMeth P w K mg base (L2.CX P w) (KC K "Run") "_moment" 4 ["self", "moment"] (spMomW K (GT K)) := ⟨⟨_, _, ok_momentW F_Run__moment T Uchm, me_Run__moment, b_Run__moment⟩⟩
  have Uwaysat : UMeth P w K mg base (L2.CX P w) (KC K "Run") "_ways_at" 10 ["self", "moment"] (spWaysAt K (GT K)) := ⟨⟨_, _, ok_ways_at F_Run__ways_at T Umomw Uways, me_Run__ways_at, b_Run__ways_at⟩⟩
  have Ukeptat : UMeth P w K mg base (L2.CX P w) (KC K "Run") "kept_at" 11 ["self", "moment"] (spKeptAt K (GT K)) := ⟨⟨_, _, ok_kept_at F_Run_kept_at T Uwaysat, me_Run_kept_at, b_Run_kept_at⟩⟩
  have U_check_limit : Use P w K mg base (L2.CX P w) "_check_limit" 2 ["limit", "highest"] spCheckLimit := ⟨⟨_, _, ok_check_limit F_check_limit T U_is_integer, g_check_limit, F_check_limit.kp, b_check_limit⟩⟩
  have U_is_word : Use P w K mg base (L2.CX P w) "_is_word" 3 ["name"] (spIsWord (GT K)) := ⟨⟨_, _, ok_is_word F_is_word hc_is_word TG_is_word hP_is_word hl_is_word T, g_is_word, F_is_word.kp, b_is_word⟩⟩
  have U_check_names : Use P w K mg base (L2.CX P w) "_check_names" 4 ["pages"] (spCheckNames K (GT K)) := ⟨⟨_, _, ok_check_names F_check_names T U_is_word, g_check_names, F_check_names.kp, b_check_names⟩⟩
  have U_check_torn : Use P w K mg base (L2.CX P w) "_check_torn" 1 ["torn", "pages"] (spCheckTorn K (GT K)) := ⟨⟨_, _, ok_check_torn F_check_torn T, g_check_torn, F_check_torn.kp, b_check_torn⟩⟩
  have U_check_values : Use P w K mg base (L2.CX P w) "_check_values" 16 ["pages"] (spCheckValues K (GT K) 4) := ⟨⟨_, _, ok_check_values F_check_values T 4 15 U_is_value, g_check_values, F_check_values.kp, b_check_values⟩⟩
  have PL := ok_plan0 (P := P) (w := w) (base := base) (G := GT K) F_Plan___init__ hc_Plan___init__ TG_Plan___init__ hP_Plan___init__ hl_Plan___init__ T 4 16 U_check_names U_check_torn U_check_values U_check_limit g_rest
  obtain ⟨its1, mv1, k1⟩ := kb1 F_Plan___init__
  obtain ⟨its2, mv2, k2⟩ := kb2 F_Plan___init__
  have UPlan3 : UPlan3 P w K mg base (GT K) (He.ga K "_rest") := ⟨g_Plan, ⟨_, _, _, _, PL, mk_Plan, k1⟩⟩
  have UPlan1 : UPlan1 P w K mg base (GT K) (He.ga K "_rest") (kwdAt ("Plan", some "__init__") "torn" K) := ⟨g_Plan, ⟨_, _, _, _, PL, mk_Plan, k2⟩⟩
  have Us : Use P w K mg base (L2.CX P w) "_law_source" 1 ["_law_script", "_law_at"] (spSource K) := ⟨⟨_, _, ok_source F_law_source T, g_law_source, F_law_source.kp, b_law_source⟩⟩
  have Ud0 : Use P w K mg base (L2.CX P w) "_law_draw" 1 ["_law_draws", "_law_many"] spDraw := ⟨⟨_, _, ok_draw F_law_draw T, g_law_draw, F_law_draw.kp, b_law_draw⟩⟩
  have Ud : Use P w K mg base (L2.CX P w) "_law_draw" 1 ["_law_draws", "_law_many"] (spDrawS (GT K)) := Ud0.imp fun vs H Q E h => draw_s h
  have Upick : Use P w K mg base (L2.CX P w) "_law_pick" 2 ["_law_draws", "_law_xs"] (spPick K (GT K)) := ⟨⟨_, _, ok_pick F_law_pick T Ud, g_law_pick, F_law_pick.kp, b_law_pick⟩⟩
  have S : ∀ n, Use P w K mg base (L2.CX P w) "_law_same" n ["_law_found", "_law_due"] (spSameR K n) := fun n => by
    induction n with
    | zero => exact ⟨⟨_, _, fn_false, g_law_same, F_law_same.kp, b_law_same⟩⟩
    | succ n ih => exact ⟨⟨_, _, ok_same1 F_law_same T n ih, g_law_same, F_law_same.kp, b_law_same⟩⟩
  have Usame : Use P w K mg base (L2.CX P w) "_law_same" 13 ["_law_found", "_law_due"] (spSame K 12) := S 13
  have Upiece : Use P w K mg base (L2.CX P w) "_law_piece" 3 ["_law_draws"] (spPiece K (GT K) 3) := ⟨⟨_, _, ok_piece F_law_piece T Upick, g_law_piece, F_law_piece.kp, b_law_piece⟩⟩
  have Uputting : Use P w K mg base (L2.CX P w) "_law_putting" 4 ["_law_draws", "_law_names", "_law_many"] (spPutting K (GT K) 3) := ⟨⟨_, _, ok_putting F_law_putting T 3 Ud Upiece Upick, g_law_putting, F_law_putting.kp, b_law_putting⟩⟩
  have Utold : Use P w K mg base (L2.CX P w) "_law_told" 1 ["_law_row", "_law_notes"] (spTold K) := ⟨⟨_, _, ok_told F_law_told T, g_law_told, F_law_told.kp, b_law_told⟩⟩
  have Uwish : Use P w K mg base (L2.CX P w) "_law_wish" 2 ["_law_row", "_law_notes"] (spWish K (GT K)) := ⟨⟨_, _, ok_wish F_law_wish T Utold, g_law_wish, F_law_wish.kp, b_law_wish⟩⟩
  have Uask : Use P w K mg base (L2.CX P w) "_law_ask" 19 ["_law_hand", "_law_wish_here"] (spAsk K (GT K)) := ⟨⟨_, _, ok_ask F_law_ask T Ulook Uput Ubar Uflu, g_law_ask, F_law_ask.kp, b_law_ask⟩⟩
  have Uplay : Use P w K mg base (L2.CX P w) "_law_play" 20 ["_law_rows", "_law_hand"] (spPlay K (GT K)) := ⟨⟨_, _, ok_play F_law_play T Utold Uwish Uask Usame Usay Ufail, g_law_play, F_law_play.kp, b_law_play⟩⟩
  have Uworked : Use P w K mg base (L2.CX P w) "_law_worked" 1 ["_law_rows"] (spWorked (GT K)) := ⟨⟨_, _, ok_worked F_law_worked hc_law_worked TB_law_worked hg0_law_worked hm_law_worked hu_law_worked, g_law_worked, F_law_worked.kp, b_law_worked⟩⟩
  have Ulrun : Use P w K mg base (L2.CX P w) "_law_run" 14 ["_law_rows", "_law_disk"] (spLRun K (GT K)) := ⟨⟨_, _, ok_lrun F_law_run T Utold Uwish Usame, g_law_run, F_law_run.kp, b_law_run⟩⟩
  have Ulplan : Use P w K mg base (L2.CX P w) "_law_plan" 24 ["_law_plan_here"] (spLPlan K (GT K)) := ⟨⟨_, _, ok_lplan F_law_plan T Uworked UPlan3, g_law_plan, F_law_plan.kp, b_law_plan⟩⟩
  have Ulate : Use P w K mg base (L2.CX P w) "_law_late" 1 ["_law_run_here", "_law_disk", "_law_moment", "_law_board"] (spLate K (GT K)) := ⟨⟨_, _, ok_late F_law_late T, g_law_late, F_law_late.kp, b_law_late⟩⟩
  have Uworths : Use P w K mg base (L2.CX P w) "_law_worths" 1 ["_law_late_here", "_law_page"] (spWorths K (GT K)) := ⟨⟨_, _, ok_worths F_law_worths T, g_law_worths, F_law_worths.kp, b_law_worths⟩⟩
  have Upairs : Use P w K mg base (L2.CX P w) "_law_pairs_of" 2 ["_law_late_here", "_law_page", "_law_is_torn"] (spPairsOf K (GT K)) := ⟨⟨_, _, ok_pairs_of F_law_pairs_of T Uworths, g_law_pairs_of, F_law_pairs_of.kp, b_law_pairs_of⟩⟩
  have Ufits : Use P w K mg base (L2.CX P w) "_law_fits" 1 ["_law_late_here", "_law_names", "_law_kept_here"] (spFits K (GT K)) := ⟨⟨_, _, ok_fits F_law_fits T, g_law_fits, F_law_fits.kp, b_law_fits⟩⟩
  have Ulkept : Use P w K mg base (L2.CX P w) "_law_kept" 3 ["_law_late_here", "_law_names", "_law_marks"] (spKept K (GT K)) := ⟨⟨_, _, ok_kept F_law_kept T Upairs Ufits, g_law_kept, F_law_kept.kp, b_law_kept⟩⟩
  exact ok_law F_law T Us Ud Upiece Upick Uputting Uplay Ulplan Ulrun Usame Uof Ulate Ulkept Ukeptat
end K10
open PySem PySem.W PySem.Calls PyProof.Rows
theorem PySem.Challenge.cw_fallways_k10_what_falls_keep_holds : PySem.Challenge.rw_fallways_k10_what_falls_keep.Holds := by
  w_on; o_law
  refine HandSHeadRun.head_any (r := OpenLaw.row PySem.Challenge.rw_fallways_k10_what_falls_keep) (q := view (OpenLaw.row PySem.Challenge.rw_fallways_k10_what_falls_keep).prog [61]) (H := K10.hk) (ob := K10.ob) (M := 20000) (loose := K10.loose) (d := HandSHeadRun.topDef (OpenLaw.row PySem.Challenge.rw_fallways_k10_what_falls_keep).prog 61) (kwd := []) K10.ob_eq
    (by kernel_rfl) (fun s => by kernel_rfl) K10.run (by kernel_rfl) (by kernel_rfl) (by kernel_rfl) (by rfl) (by first | assumption | decide +kernel) (by decide +kernel) ⟨rfl, rfl, rfl, rfl, rfl, by decide +kernel⟩ ?hw ?hc
  case hw => w_witness2
  case hc =>
    refine LamX.walk_ofTsE (l := PySem.Challenge.rw_fallways_k10_what_falls_keep) (n := 63) (k := 50) (x := "_law_script") (CX := fun w => L2.CX (PySem.Challenge.rw_fallways_k10_what_falls_keep).prog w) rfl (by decide) (by kernel_rfl) ⟨rfl, by decide, by decide⟩ ?F (fun _ _ _ _ _ z => by
      obtain ⟨_, _, _, _, _, _, _, _, _, _, _, _, q⟩ := z
      exact q)
    intro w mg fa h Y G hmg0
    obtain ⟨K, KX, c⟩ := Y
    have hmg : mg ("law" : PySem.Str) = some (.ref fa) := by
      have e : (HandSHeadRun.topDef (OpenLaw.row PySem.Challenge.rw_fallways_k10_what_falls_keep).prog 61).name = ("law" : PySem.Str) := by kernel_rfl
      rw [← e]
      exact hmg0
    obtain ⟨fd, hb, hF⟩ := K10.facts (P := (PySem.Challenge.rw_fallways_k10_what_falls_keep).prog) (w := w) KX G hmg c
    refine ⟨K, KX, fd, K10.tf.map (He.cT K), K10.spLaw K (K10.GT K), ?_, ?_, ?_, hb, ?_, fun base KB GB TB => hF base KB GB fun p hp => TB _ (List.mem_map_of_mem hp)⟩
    · intro p hp
      obtain ⟨q, hq, rfl⟩ := List.mem_map.mp hp
      exact c.empty _ hq
    · intro p hp
      obtain ⟨q, hq, rfl⟩ := List.mem_map.mp hp
      exact c.out _ hq
    · intro p hp
      obtain ⟨q, hq, rfl⟩ := List.mem_map.mp hp
      exact PySem.W.codeHd_of_K KX (c.hd _ hq)
    · intro H a ns hl _ hT hS
      have tab : ∀ q ∈ K10.tf, H (He.cT K q).2 = some (.tbl #[]) := fun q hq => hT _ (List.mem_map_of_mem hq)
      refine ⟨a, ns, rfl, hS, hl, ⟨fun P hP => ?_, fun p hp => ?_⟩, fun _ => rfl⟩
      · have e : H P = some (.tbl #[]) := by
          have hP' : P ∈ [(He.cT K ("is_value", none)).2, (He.cT K ("_changed", none)).2, (He.cT K ("Run", some "said_by")).2, (He.cT K ("_is_word", none)).2, (He.cT K ("Plan", some "__init__")).2] := hP
          simp only [List.mem_cons, List.mem_nil_iff, or_false] at hP'
          rcases hP' with rfl | rfl | rfl | rfl | rfl <;> exact tab _ (by unfold K10.tf; simp)
        exact ⟨#[], e, by first | exact .nil | trivial | decide | simp [TriplesOk]⟩
      · have hp' : p ∈ [((He.cT K ("_law_worked", none)).2, fun _ _ => K10.wkQ)] := hp
        simp only [List.mem_cons, List.mem_nil_iff, or_false] at hp'
        rcases hp' with rfl
        · exact NdefX.TabN.nil (tab ("_law_worked", none) (by unfold K10.tf; simp))
