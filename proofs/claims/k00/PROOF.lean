import PyProof.Rows.All
import Wide.All
import OpenK.AllK
import Wide.FinOn
import HandS.ForMost
import HandS.IsInst
import HandS.Evl
import HandS.Zip
import HandS.ExcInit
import HandS.ExcIs
import HandS.Walk
import KE.KExcIs
import KE.KxText
import HandS.Nested
import HandS.Star
import HandS.More
import HandS.MethStar
import KE.KSuper
import HandS.FStr
import HandS.Gcd
import KE.KMathGC
import HandS.TupSets
import HandS.RaiseMore
import HandS.TupAny
import HandS.SetFor
import HandS.Deep
import HandS.Dict
import HandS.DictComp
import HandS.Property
import HandS.Finally
import HandS.TupLe
import KE.DataFind
import KE.DatumMoreOrd
import KE.KDictCopyH
import KE.KCallOwn
import HandS.SlotsOwn
import HandS.WordsDict
import HandS.Defaults
import PyProof.StrBlock2
import HandS.ForExc
import HandS.TryMany
import HandS.ExcField
import HandS.DeepEq
import HandS.OwnEq
import HandS.MakeKwOnly
import HandS.MakeKw
import HandS.Ends
import HandS.EndTab
import HandS.Iter
import HandS.Text
import HandS.Style
import HandS.Conv
import HandS.NoneIn
import HandS.SetKeys
import HandS.Rev
import KE.GoesMore
import KE.KExcInit
import PyProof.InstStoreFacts
import KE.KFmtOwn
import HandS.Lambda
import HandS.EndOwn
import PyProof.InstNe
import HandS.ClsMeth
import PyProof.ExcBaseAll.LookupError
import PyProof.ExcBaseAll.RuntimeError
import PyProof.ExcBaseAll.ValueError
import KE.KStateDown
import Lean
import HandS.Words
import HandS.WordsExc
import HandS.Head0
import HandS.Head1
import HandS.Head2
import HandS.Head3
import HandS.Head4
import HandS.HeadEnd
import HandS.HeadHook1
import HandS.HeadHook2
import HandS.HeadHook3
import HandS.HeadHook4
import HandS.HeadWalk
import PySem.Challenge.RW_surelet_k00_errors_by_themselves
set_option Elab.async false
set_option linter.all false
set_option maxRecDepth 100000
set_option maxHeartbeats 4000000
namespace LC
open PySem L2
/-- a def as it stands behind the top: its text, its name, how its arguments bind -/
structure Def (K : PySem.W.Frag) (mg : Str → Option Value) (x : Str) (st : Stmt) (ps : List Str) (f : Addr) (fd : FuncData) : Prop where
  F : Fun K x x st f fd
  g : mg x = some (.ref f)
  b : Binds K fd ps []
/-- all but the bag at g is as it was -/
def Kp (g : Addr) (H H' : Hp) : Prop := ∀ b o, b ≠ g → H b = some o → H' b = some o
theorem Kp.refl (g : Addr) (H : Hp) : Kp g H H := fun _ _ _ h => h
theorem Kp.trans {g : Addr} {H H1 H2 : Hp} (a : Kp g H H1) (b : Kp g H1 H2) : Kp g H H2 := fun c o n h => b c o n (a c o n h)
theorem Kp.upd {g : Addr} {H H1 : Hp} {p : Addr} {o : HO} (a : Kp g H H1) (h : H1 p = none) : Kp g H (upd H1 p o) := fun c u n e => by
  have q := a c u n e
  rw [upd_ne (ne_of_none q h)]
  exact q
theorem Kp.bag {g : Addr} {H H1 : Hp} {o : HO} (a : Kp g H H1) : Kp g H (L2.upd H1 g o) := fun c u n e => by
  rw [upd_ne n]
  exact a c u n e
theorem Kp.free {g : Addr} {H H' : Hp} (e : Kp g H H') {l : Addr} (hl : l ≠ g) (h : H' l = Option.none) : H l = Option.none := by
  cases q : H l with
  | none => rfl
  | some o =>
    rw [e l o hl q] at h
    cases h
/-- the bag of draws at g, the script's copy at l -/
def Bag (l : Addr) (H : Hp) (g : Addr) : Prop := ∃ (ns : List Int) (i d s c : Int), H g = some (.lst [.ref l, .int i, .int d, .int s, .int c]) ∧ l ≠ g ∧ H l = some (.lst (ns.map V.int)) ∧
  0 ≤ i ∧ i ≤ ns.length ∧ 0 ≤ d ∧ 0 ≤ s ∧ s < 2147483399
theorem Bag.there {l : Addr} {H : Hp} {g : Addr} (B : Bag l H g) : (∃ xs, H g = some (.lst xs)) ∧ ∃ xs, H l = some (.lst xs) := by
  obtain ⟨ns, i, d, s, c, h, _, h2, _⟩ := B
  exact ⟨⟨_, h⟩, ⟨_, h2⟩⟩
theorem Bag.ne {l : Addr} {H : Hp} {g p : Addr} (B : Bag l H g) (h : H p = none) : p ≠ g ∧ p ≠ l := by
  obtain ⟨⟨xs, q⟩, ⟨ys, r⟩⟩ := B.there
  refine ⟨fun e => ?_, fun e => ?_⟩
  · rw [e, q] at h
    cases h
  · rw [e, r] at h
    cases h
theorem Bag.mut {l : Addr} {H : Hp} {g p : Addr} {o : HO} (B : Bag l H g) (h : p ≠ g) (h' : p ≠ l) : Bag l (L2.upd H p o) g := by
  obtain ⟨ns, i, d, s, c, h1, h2, h3, r⟩ := B
  exact ⟨ns, i, d, s, c, by rw [upd_ne (Ne.symm h)]; exact h1, h2, by rw [upd_ne (Ne.symm h')]; exact h3, r⟩
/-- from H0 to H: all but the bag stands, things came beside it, the bag is one -/
structure Ok (g l : Addr) (H0 H : Hp) : Prop where
  b0 : Bag l H0 g
  kp : Kp g H0 H
  bag : Bag l H g
theorem Ok.refl {g l : Addr} {H : Hp} (B : Bag l H g) : Ok g l H H := ⟨B, Kp.refl g H, B⟩
theorem Ok.trans {g l : Addr} {H H1 H2 : Hp} (a : Ok g l H H1) (b : Ok g l H1 H2) : Ok g l H H2 := ⟨a.b0, a.kp.trans b.kp, b.bag⟩
theorem Ok.new {g l p : Addr} {H H1 : Hp} {o : HO} (a : Ok g l H H1) (h : H1 p = none) : Ok g l H (L2.upd H1 p o) := ⟨a.b0, a.kp.upd h, a.bag.mut (a.bag.ne h).1 (a.bag.ne h).2⟩
theorem Ok.free {g l p : Addr} {H H1 : Hp} (a : Ok g l H H1) (h : H1 p = none) : H p = none := a.kp.free (a.bag.ne h).1 h
theorem Ok.mut {g l p : Addr} {H H1 : Hp} {o : HO} (a : Ok g l H H1) (h : H p = none) : Ok g l H (L2.upd H1 p o) :=
  ⟨a.b0, fun b u n e => by rw [upd_ne (ne_of_none e h)]; exact a.kp b u n e, a.bag.mut (a.b0.ne h).1 (a.b0.ne h).2⟩
theorem Ok.at_ {g l p : Addr} {H H1 : Hp} {o : HO} (a : Ok g l H H1) (h : H p = some o) (n : p ≠ g) : H1 p = some o := a.kp p o n h
theorem SqL.kp {K : PySem.W.Frag} {g : Addr} {H H' : Hp} {a : Addr} {xs : List V} (e : Kp g H H') (n : a ≠ g) (h : SqL K H a xs) : SqL K H' a xs := by
  rcases h with (h | ⟨o, h⟩) | h
  · exact .inl (.inl (e _ _ n h))
  · exact .inl (.inr ⟨o, e _ _ n h⟩)
  · exact .inr h
theorem SqT.kp {K : PySem.W.Frag} {g : Addr} {H H' : Hp} {a : Addr} {xs : List V} (e : Kp g H H') (n : a ≠ g) (h : SqT K H a xs) : SqT K H' a xs := by
  rcases h with (h | ⟨o, h⟩) | h
  · exact .inl (.inl (e _ _ n h))
  · exact .inl (.inr ⟨o, e _ _ n h⟩)
  · exact .inr h
theorem ite_b {c : Bool} {A B : Prop} (h1 : c = true → A) (h2 : c = false → B) : if c = true then A else B := by
  cases c with
  | true => exact iteT (h1 rfl)
  | false => exact iteF (h2 rfl)
/-- a test of two ints -/
theorem ite_d {p : Prop} [Decidable p] {A B : Prop} (h1 : p → A) (h2 : ¬ p → B) : if decide p = true then A else B := by
  by_cases h : p
  · rw [decide_eq_true h]
    exact iteT (h1 h)
  · rw [decide_eq_false h]
    exact iteF (h2 h)
theorem ite_eq {i j : Int} {A B : Prop} (h1 : i = j → A) (h2 : i ≠ j → B) : if decide (V.int i = V.int j) = true then A else B :=
  ite_d (fun h => h1 (V.int.inj h)) fun h => h2 fun e => h (by rw [e])
section
variable {X : Cx} {CX : CXT} {k : Nat} {f : Addr} {fd : FuncData} {ps ks : List Str} {sp : Sp} {E : XK} {x : Str} {p pos : Pos} {kws : List Keyword} {tk : TA} {g : List Value → List Value → List Value} {gV : List V → List V → List V}
theorem pe_callK0 (F : FnOk X.prog X.w X.K X.mg X.base CX k f fd ps sp) (hr : Room k X.A) (hg : Gl X x) (hm : X.mg x = some (.ref f)) (hk : PySem.W.keepIn X.K (.ref f) = true) (hb : KBinds X.K fd ps ks g gV) (hx : Passes CX X E)
    (hkw : PK X kws tk) (hall : (backToKw pos (keywordEach kws X.env)).all (·.1.isSome) = true := by rfl) (hks : (backToKw pos (keywordEach kws X.env)).filterMap (·.1) = ks := by rfl)
    (hdb : (x == ("__debug__" : Str)) = false := by decide) (hpl : ((backTo pos (starEach [] X.env)).any (·.1) || (backToKw pos (keywordEach kws X.env)).any (·.1.isNone)) = false := by rfl) :
    PE X (.Call (.Name x p) [] kws pos) (tCallK sp gV E tNil tk) := by
  refine ⟨fun pins s σ H Q I h => ?_⟩
  refine wpAny_Call_Name_kw (ld_glob I hg hm ?_ hdb)
  refine PySem.W.callWith_KW0 (h₀ := X.base) I.ok.mod.kin hk hall ?_ hpl
  refine thn (hkw.run pos pins s σ H _ I h) fun ws s2 ⟨zs, H2, I2, rz, q2⟩ => ⟨I2.kIn, ?_⟩
  rw [hks]
  exact run_fnk (us := []) F hr hb hx I2 .nil rz q2
end
end LC
namespace LC
open PySem L2
theorem cut_ints (ns : List Int) (lo hi : Option Int) : ∃ ms : List Int, cutV (ns.map V.int) lo hi = ms.map V.int ∧ ms.length ≤ ns.length := by
  refine ⟨(ns.drop (HT.sIx ns.length 0 lo)).take (HT.sIx ns.length ns.length hi - HT.sIx ns.length 0 lo), ?_, ?_⟩
  · unfold cutV
    rw [List.length_map, ← List.map_drop, ← List.map_take]
  · rw [List.length_take, List.length_drop]
    omega
theorem same_new {H : Hp} {p : Addr} {o : HO} (h : H p = none) : Same H (upd H p o) := fun b u e => by
  rw [upd_ne (ne_of_none e h)]
  exact e
theorem int_of {ns : List Int} {i : Nat} {y : V} (h : (ns.map V.int)[i]? = some y) : ∃ u, y = V.int u := by
  rw [List.getElem?_map] at h
  cases e : ns[i]? with
  | none =>
    rw [e] at h
    cases h
  | some u =>
    rw [e] at h
    exact ⟨u, (Option.some.inj h).symm⟩
end LC

namespace LC
theorem fmod_nn (a : Int) {n : Int} (h : 0 < n) : 0 ≤ a.fmod n := by
  rw [Int.fmod_eq_emod_of_nonneg _ (Int.le_of_lt h)]
  exact Int.emod_nonneg _ (by omega)
theorem fmod_lt (a : Int) {n : Int} (h : 0 < n) : a.fmod n < n := by
  rw [Int.fmod_eq_emod_of_nonneg _ (Int.le_of_lt h)]
  exact Int.emod_lt_of_pos _ h
end LC

namespace LC
open PySem L2
/-- a value of any of the drawn kinds; C: the error's class -/
inductive Th (C g : Addr) (H : Hp) : V → Prop where
  | non : Th C g H .non
  | bl (b : Bool) : Th C g H (.bl b)
  | int (i : Int) : Th C g H (.int i)
  | str (z : Str) (h : z.length ≤ 1000000) : Th C g H (.str z)
  | lst {a : Addr} {xs : List V} (h : H a = some (.lst xs)) (n : a ≠ g) : Th C g H (.ref a)
  | tup {a : Addr} {xs : List V} (h : H a = some (.tup xs)) (n : a ≠ g) : Th C g H (.ref a)
  | dK {a : Addr} {kvs : List (Key × V)} (h : H a = some (.dK kvs)) (n : a ≠ g) : Th C g H (.ref a)
  | exo {a d : Addr} {fs : List (Str × V)} (h : H a = some (exo a C (some d))) (n : a ≠ g) (hd : H d = some (exd d fs)) (nd : d ≠ g) : Th C g H (.ref a)
theorem Th.kp {C g : Addr} {H H' : Hp} {v : V} (r : Kp g H H') (t : Th C g H v) : Th C g H' v := by
  cases t with
  | non => exact .non
  | bl b => exact .bl b
  | int i => exact .int i
  | str z h => exact .str z h
  | lst h n => exact .lst (r _ _ n h) n
  | tup h n => exact .tup (r _ _ n h) n
  | dK h n => exact .dK (r _ _ n h) n
  | exo h n hd nd => exact .exo (r _ _ n h) n (r _ _ nd hd) nd
theorem Th.list {C g l : Addr} {H0 H : Hp} {p : Addr} {xs : List V} (a : Ok g l H0 H) (h : H p = none) : Th C g (upd H p (.lst xs)) (.ref p) := .lst upd_same (a.bag.ne h).1
theorem Th.tupl {C g l : Addr} {H0 H : Hp} {p : Addr} {xs : List V} (a : Ok g l H0 H) (h : H p = none) : Th C g (upd H p (.tup xs)) (.ref p) := .tup upd_same (a.bag.ne h).1
theorem upd_kp {g l : Addr} {H0 H : Hp} {p : Addr} {o : HO} (a : Ok g l H0 H) (h : H p = none) : Kp g H (upd H p o) := (Ok.new (Ok.refl a.bag) h).kp
/-- a comprehension over a text whose element leaves the heap -/
theorem lc_text {z : Str} {j : Nat} {te : TE} {vs : List Nat} {σ : L2.St} {H1 : Hp} {D : Addr} {Qd : Hp → Prop} (f : Nat → V) (hD : H1 D = none) (hz : z.length ≤ 1000000) (hw : ∀ x, wipe ((wipe σ vs).set j (some x)) vs = wipe σ vs)
    (he : ∀ (c : Nat) (H : Hp) (Q : VK), c ∈ z.cps.toList → Q (f c) H → te ((wipe σ vs).set j (some (.str ⟨#[c]⟩))) H Q) (hd : Qd (upd H1 D (.lst (z.cps.toList.map f)))) :
    ∃ W : Nat → Nat → Hp → Prop, (∃ m, W 0 m (upd H1 D (.lst []))) ∧ ∀ i m H, W i m H →
      ((Its z).stop i H ∧ Qd H) ∨ ((Its z).go i H ∧ ∃ Nx : Hp → Prop, (∀ H', Nx H' → ∃ m', m' < m ∧ W (i + 1) m' H') ∧ ∀ x H', (Its z).yld i H x H' → gName j x (wipe σ vs) H' fun σ2 H2 => wipe σ2 vs = wipe σ vs ∧ tYes σ2 H2 fun b H3 =>
        if b = true then te σ2 H3 fun y H4 => ∃ acc, H4 D = some (.lst acc) ∧ acc.length < sizeLine ∧ Nx (upd H4 D (.lst (acc ++ [y]))) else Nx H3) := by
  have hn : z.cps.toList.length = z.cps.size := Array.length_toList
  refine lc_it (walk_str (z := z)) (fun i H => i ≤ z.cps.size ∧ H = upd H1 D (.lst ((z.cps.toList.take i).map f))) ⟨Nat.zero_le _, rfl⟩ (fun _ _ _ _ => trivial) ?_ ?_
  · rintro i x H H' hi ⟨_, rfl⟩ ⟨rfl, c, hc, rfl⟩
    refine ⟨hw _, ?_⟩
    have hc' : z.cps.toList[i]? = some c := by rw [Array.getElem?_toList]; exact hc
    refine he c _ _ (List.mem_of_getElem? hc') ?_
    refine ⟨_, upd_same, ?_, hi, ?_⟩
    · rw [List.length_map, List.length_take]
      have e1 : z.cps.size = z.length := rfl
      exact Nat.lt_of_le_of_lt (Nat.min_le_right _ _) (Nat.lt_of_le_of_lt (by rw [hn, e1]; exact hz) (by decide : 1000000 < sizeLine))
    · rw [upd_upd, List.take_add_one, hc', List.map_append]
      rfl
  · rintro H ⟨_, rfl⟩
    rw [← hn, List.take_length]
    exact hd
end LC
namespace LC
open PySem L2 PySem.Spec PyProof.Rows
/-- C(e, ..) as a value, C an own error class over ValueError with its own __init__, which keeps sp -/
def tMkV (C : Addr) (sp : Sp) (ta : TA) : TE := fun σ H Q => ta σ H fun vs H1 => vs.length ≤ 1000 ∧ ∀ a, H1 a = none → sp (.ref a :: vs) (upd H1 a (exo a C none)) (fun v H2 => v = .non ∧ Q (.ref a) H2) (fun _ _ _ => False)
section
variable {X : Cx} {e : Expr} {es : List Expr} {ta : TA} {p pos : Pos}
theorem pe_oexV {CX : CXT} {x : Str} {C fI : Addr} {k : Nat} {fd : FuncData} {ps : List Str} {sp : Sp} (T : OexC X.K C) (iC : PySem.W.findIn X.K (.ref C) "__init__" = some (some (.ref fI))) (tI : PySem.W.typeIn X.K (.ref fI) = some (.type "function"))
    (F1 : FnOk X.prog X.w X.K X.mg X.base CX k fI fd ps sp) (hr : Room (k + 1) X.A) (hb : Binds X.K fd ps []) (hx : Passes CX X (fun _ _ _ => False)) (hg : Gl X x) (hm : X.mg x = some (.ref C)) (ha : PA X (e :: es) ta)
    (hdb : (x == ("__debug__" : Str)) = false := by decide) (he : starEach (e :: es) X.env = (false, eval e X.env) :: starEach es X.env := by rfl) (hpl : (backTo pos (starEach es X.env)).any (·.1) = false := by rfl) :
    PE X (.Call (.Name x p) (e :: es) [] pos) (tMkV C sp ta) := by
  refine ⟨fun pins s σ H Q I h => ?_⟩
  obtain ⟨nm, q, N, bs, bm, sn, sub, ab, col, dd, k0, k1, k2, k3, k5, hC, hbm⟩ := T.cls
  refine wpAny_Call_Name_kw (ld_glob I hg hm ?_ hdb)
  refine PySem.W.callWith_K (h₀ := X.base) I.ok.mod.kin T.kC (thn (ha.run pos pins s σ H _ I h) fun us s1 ⟨vs, H1, I1, r1, hz, q1⟩ => ⟨I1.kIn, ?_⟩) he hpl
  show wpAny _ _ (call (.ref C) us) _ _ _
  obtain ⟨hp, g, dr, tk, os⟩ := s1
  have hsz : hp.objs.size ≤ hp.objs.size + 1 := Nat.le_succ _
  have hn : H1 (hp.objs.size + 1) = none := I1.hok.fresh hsz
  have hq := q1 (hp.objs.size + 1) hn
  have kk : ∀ b o, hp.get? b = some o → ((hp.push (PySem.W.kdv_tup us)).push (PySem.HandSPX.excO C hp.objs.size)).get? b = some o := fun b o e => Heap.get?_push_of_some _ (Heap.get?_push_of_some _ e)
  have hget : ((hp.push (PySem.W.kdv_tup us)).push (PySem.HandSPX.excO C hp.objs.size)).get? (hp.objs.size + 1) = some (PySem.HandSPX.excO C hp.objs.size) := by heap_get
  have I2 : L2.Inv X pins σ (upd H1 (hp.objs.size + 1) (exo (hp.objs.size + 1) C none)) ⟨(hp.push (PySem.W.kdv_tup us)).push (PySem.HandSPX.excO C hp.objs.size), g, dr, tk, os⟩ :=
    I1.laid (t' := tk) (a := hp.objs.size + 1) (o := exo (hp.objs.size + 1) C none) (h' := (hp.push (PySem.W.kdv_tup us)).push (PySem.HandSPX.excO C hp.objs.size)) kk hsz (exo_ok hget)
  have r2 : Vals (V.ref (hp.objs.size + 1) :: vs) (Value.ref (hp.objs.size + 1) :: us) := .cons rfl r1
  have hl : (Value.ref (hp.objs.size + 1) :: us ++ []).length = ps.length := by
    have e := r2.length
    rw [F1.len _ _ _ _ hq] at e
    rw [List.append_nil]
    exact e.symm
  have hus : us.length ≤ sizeLine := by
    rw [← Paired.length r1, sizeLine_eq]
    omega
  have hbb := hb _ (Value.ref (hp.objs.size + 1) :: us) I2.kIn hl
  rw [List.append_nil] at hbb
  refine wpAny_call (PySem.HandSPX.call_own F.excBase_ValueError (fun Y => PySem.HandSPX.refsVE_contains Y bm hbm) (I1.kIn _ _ hC) (PySem.W.looks_findIn I1.kIn iC) (fun self => PySem.W.bind_fn I1.kIn self tI) hus
    (codeAny_mono (F1.run _ X.stack _ _ ⟨Value.ref (hp.objs.size + 1) :: us, []⟩ (Value.ref (hp.objs.size + 1) :: us) _ _ (fun _ _ _ => False) (hr.make C us []) (I2.env0.make C us []) hbb r2 hq) fun r s' hq' => ?_))
  cases r with
  | error er => exact hx pins σ _ _ er s' I2 hq'
  | ok fl =>
    cases fl with
    | ret u =>
      obtain ⟨v, H2, os2, bare2, un2, hok2, rv, ev, q2⟩ := hq'
      subst ev
      exact ⟨rv, .ref (hp.objs.size + 1), H2, I2.call' (ch := []) os2 un2 hok2 bare2 (fun b hb => by cases hb), rfl, q2⟩
    | next => exact False.elim hq'
    | brk => exact False.elim hq'
    | cont => exact False.elim hq'
end
/-- what the written part says of an own error class, for isinstance -/
structure IsC (K : PySem.W.Frag) (C : Addr) : Prop where
  hcl : (PySem.W.clsIn K C).isSome = true
  hga : PySem.W.findIn K (.ref C) "__getattribute__" = some (some (.builtin "BaseException.__getattribute__"))
  hgt : PySem.W.findIn K (.ref C) "__getattr__" = some none
  hsub : PySem.W.subIn K (.ref C) (.type "BaseException") = some true
  ha : PySem.W.findIn K (.ref C) "__class__" = some (some (.builtin "object.__class__"))
  hn : PySem.W.specialIn K (.builtin "object.__class__") "__get__" = some (some (.builtin "getset_descriptor.__get__"))
  htk : PySem.W.takesIn K (.builtin "object.__class__") = some true
  hm : PySem.W.mroIn K C (.type "object") = some true
/-- isinstance(x, c), x an own error too -/
def rIsX (K : PySem.W.Frag) : List V → Hp → VK → Prop := fun xs H Q => rIsi K xs H Q ∨
  ∃ (a C d : Addr) (c : V) (cv : Value) (b : Bool) (fs : List (Str × V)), xs = [.ref a, c] ∧ IsC K C ∧ H a = some (exo a C (some d)) ∧ H d = some (exd d fs) ∧ ClsV c cv ∧ PySem.W.kitOne K (.ref C) cv = some b ∧ Q (.bl b) H
theorem call_isX {X : Cx} : CallR X (.builtin "isinstance") (rIsX X.K) := by
  intro pins s σ H xs us Q I r h
  rcases h with h | ⟨a, C, d, c, cv, b, fs, rfl, T, ha, hd, k, e, q⟩
  · exact call_isi pins s σ H xs us Q I r h
  · obtain ⟨u1, u2, rfl, r1, r2⟩ := vals2 r
    have e2 := k.eq r2
    subst e2
    obtain rfl : u1 = Value.ref a := r1
    obtain ⟨t1, ho⟩ := exo_at I.hok ha
    obtain ⟨od, hod⟩ : ∃ od, s.heap.get? d = some od := by
      obtain ⟨_, z, _⟩ := I.hok d _ hd
      exact z
    have J : PySem.W.InstAt s.heap a { cls := .ref C, dict := some d, data := .fields #[.ref t1, .none, .none, .none, .bool false, .none] } C (some od) := ⟨ho, rfl, rfl, hod⟩
    exact PySem.W.kia_one (PySem.W.kitx_exc T.hcl T.hga T.hgt T.hsub T.ha T.hn T.htk T.hm) I.kIn J e (fun z => nomatch z) fun tk => ⟨.bl b, H, I.tok tk, rfl, q⟩
end LC

namespace LC
open PySem L2
/-! the values of isinstance(x, int | bool | str) -/
def isI : V → Bool | .int _ => true | .bl _ => true | _ => false
def isB : V → Bool | .bl _ => true | _ => false
def isS : V → Bool | .str _ => true | _ => false
/-- what the error's class answers -/
structure NoB (K : PySem.W.Frag) (C : Addr) : Prop where
  is : IsC K C
  i : PySem.W.kitOne K (.ref C) (.type "int") = some false
  b : PySem.W.kitOne K (.ref C) (.type "bool") = some false
  s : PySem.W.kitOne K (.ref C) (.type "str") = some false
theorem isi_th {K : PySem.W.Frag} {C g : Addr} {H : Hp} {v : V} {Q : VK} (N : NoB K C) (t : Th C g H v) : (Q (.bl (isI v)) H → rIsX K [v, .ty "int"] H Q) ∧ (Q (.bl (isB v)) H → rIsX K [v, .ty "bool"] H Q) ∧ (Q (.bl (isS v)) H → rIsX K [v, .ty "str"] H Q) := by
  have go : ∀ {x : V} {T S : String} {b : Bool}, TyOf K H x (.type T) → kitB T S = some b → Q (.bl b) H → rIsX K [x, .ty S] H Q := fun ty e q => .inl ⟨_, _, _, _, _, rfl, .ty _, .base ty, kit_ty e, q⟩
  cases t with
  | non => exact ⟨go .non (show kitB "NoneType" "int" = some false by decide +kernel), go .non (show kitB "NoneType" "bool" = some false by decide +kernel), go .non (show kitB "NoneType" "str" = some false by decide +kernel)⟩
  | bl b => exact ⟨go (.bl b) (show kitB "bool" "int" = some true by decide +kernel), go (.bl b) (show kitB "bool" "bool" = some true by decide +kernel), go (.bl b) (show kitB "bool" "str" = some false by decide +kernel)⟩
  | int i => exact ⟨go (.int i) (show kitB "int" "int" = some true by decide +kernel), go (.int i) (show kitB "int" "bool" = some false by decide +kernel), go (.int i) (show kitB "int" "str" = some false by decide +kernel)⟩
  | str z h => exact ⟨go (.str z) (show kitB "str" "int" = some false by decide +kernel), go (.str z) (show kitB "str" "bool" = some false by decide +kernel), go (.str z) (show kitB "str" "str" = some true by decide +kernel)⟩
  | lst h n => exact ⟨go (.lst h) (show kitB "list" "int" = some false by decide +kernel), go (.lst h) (show kitB "list" "bool" = some false by decide +kernel), go (.lst h) (show kitB "list" "str" = some false by decide +kernel)⟩
  | tup h n => exact ⟨go (.tup h) (show kitB "tuple" "int" = some false by decide +kernel), go (.tup h) (show kitB "tuple" "bool" = some false by decide +kernel), go (.tup h) (show kitB "tuple" "str" = some false by decide +kernel)⟩
  | dK h n => exact ⟨go (.dK h) (show kitB "dict" "int" = some false by decide +kernel), go (.dK h) (show kitB "dict" "bool" = some false by decide +kernel), go (.dK h) (show kitB "dict" "str" = some false by decide +kernel)⟩
  | exo h n hd nd => exact ⟨fun q => .inr ⟨_, C, _, _, _, _, _, rfl, N.is, h, hd, .ty _, N.i, q⟩, fun q => .inr ⟨_, C, _, _, _, _, _, rfl, N.is, h, hd, .ty _, N.b, q⟩, fun q => .inr ⟨_, C, _, _, _, _, _, rfl, N.is, h, hd, .ty _, N.s, q⟩⟩
def isNum (v : V) (lo hi : Int) : Bool := match v with | .int i => decide (lo ≤ i) && decide (i ≤ hi) | _ => false
def chL (c : Nat) : Bool := decide (97 ≤ c) && decide (c ≤ 122)
def chD (c : Nat) : Bool := decide (48 ≤ c) && decide (c ≤ 57)
def isNam (v : V) : Bool := match v with | .str z => decide (1 ≤ z.length) && decide (z.length ≤ 8) && chL (z.cps.toList.getD 0 0) && z.cps.toList.all (fun c => chL c || chD c) | _ => false
theorem mem_low (c : Nat) : decide (c ∈ ("abcdefghijklmnopqrstuvwxyz" : Str).cps.toList) = chL c := by
  have e : ("abcdefghijklmnopqrstuvwxyz" : Str).cps.toList = List.range' 97 26 := by decide +kernel
  rw [e]
  unfold chL
  rw [← Bool.decide_and]
  refine decide_eq_decide.mpr ?_
  rw [List.mem_range'_1]
  omega
theorem mem_dig (c : Nat) : decide (c ∈ ("0123456789" : Str).cps.toList) = chD c := by
  have e : ("0123456789" : Str).cps.toList = List.range' 48 10 := by decide +kernel
  rw [e]
  unfold chD
  rw [← Bool.decide_and]
  refine decide_eq_decide.mpr ?_
  rw [List.mem_range'_1]
  omega
end LC
namespace LC
open PySem L2
theorem pe_ty {X : Cx} {x : Str} {pos : Pos} (n : String) (hg : Gl X x) (hm : X.mg x = none) (hv : bootBuiltins x = some (.type n)) (hn : x ≠ "__name__" := by decide) (hd : (x == ("__debug__" : Str)) = false := by decide) : PE X (.Name x pos) (tC (.ty n)) :=
  pe_bltn hg hm hv rfl hn hd
end LC
namespace LC
open PySem L2
theorem ite_nd {p : Prop} [Decidable p] {A B : Prop} (h1 : ¬ p → A) (h2 : p → B) : if (!decide p) = true then A else B := by
  by_cases h : p
  · rw [decide_eq_true h]
    exact iteF (h2 h)
  · rw [decide_eq_false h]
    exact iteT (h1 h)
theorem ite_nb {c : Bool} {A B : Prop} (h1 : c = false → A) (h2 : c = true → B) : if (!c) = true then A else B := by
  cases c with
  | true => exact iteF (h2 rfl)
  | false => exact iteT (h1 rfl)
theorem ite_is {a b : Bool} {A B : Prop} (e : a = b) (h1 : b = true → A) (h2 : b = false → B) : if a = true then A else B := by
  subst e
  exact ite_b h1 h2
theorem Ok.same {g l : Addr} {H0 H H' : Hp} (a : Ok g l H0 H) (s : Same H H') : Ok g l H0 H' := by
  refine ⟨a.b0, fun b o n e => s _ _ (a.kp b o n e), ?_⟩
  obtain ⟨ns, i, d, t, c, h1, h2, h3, r⟩ := a.bag
  exact ⟨ns, i, d, t, c, s _ _ h1, h2, s _ _ h3, r⟩
theorem Th.same {C g : Addr} {H H' : Hp} {v : V} (t : Th C g H v) (s : Same H H') : Th C g H' v := t.kp fun b o _ e => s b o e
theorem len1 {z : Str} (h : 1 ≤ z.length) : ∃ c, z.cps.toList[0]? = some c ∧ z.cps.toList.getD 0 0 = c := by
  have e : z.cps.toList.length = z.length := rfl
  have h0 : 0 < z.cps.toList.length := by omega
  refine ⟨z.cps.toList[0], List.getElem?_eq_getElem h0, ?_⟩
  rw [List.getD_eq_getElem?_getD, List.getElem?_eq_getElem h0]
  rfl
theorem sz_str {z : Str} (h : z.length ≤ 1000000) : z.length ≤ sizeLine := Nat.le_trans h (by decide)
theorem bls_map {α : Type} (l : List α) (f : α → Bool) : (l.map fun c => V.bl (f c)) = (l.map f).map V.bl := by
  rw [List.map_map]
  rfl
theorem all_id {α : Type} (l : List α) (f : α → Bool) : (l.map f).all id = l.all f := by
  rw [List.all_map]
  rfl
theorem isNam_str (z : Str) : isNam (.str z) = (decide (1 ≤ z.length) && decide (z.length ≤ 8) && chL (z.cps.toList.getD 0 0) && z.cps.toList.all (fun c => chL c || chD c)) := rfl
end LC
namespace LC
open PySem L2
theorem pe_gstr {X : Cx} {x z : Str} {t : Tok} {pos : Pos} (hg : Gl X x) (hm : X.mg x = some (.str z t)) (hd : (x == ("__debug__" : Str)) = false := by decide) : PE X (.Name x pos) (tC (.str z)) := pe_glob hg hm ⟨_, rfl⟩ hd
theorem pe_gint {X : Cx} {x : Str} {z : Int} {t : Tok} {pos : Pos} (hg : Gl X x) (hm : X.mg x = some (.int z t)) (hd : (x == ("__debug__" : Str)) = false := by decide) : PE X (.Name x pos) (tC (.int z)) := pe_glob hg hm ⟨_, rfl⟩ hd
end LC

namespace LC
open PySem L2
/-- ord('a') <= ord(sign) <= ord('z') as an element -/
theorem ord_in {a b : Str} {c i lo hi : Nat} {σ : L2.St} {H : Hp} {Q : VK} {f : Nat → Bool} (h1 : a.length = 1 ∧ a.cps.getD 0 0 = lo) (h2 : b.length = 1 ∧ b.cps.getD 0 0 = hi) (hf : f c = (decide (lo ≤ c) && decide (c ≤ hi))) (hs : σ[i]? = some (some (.str ⟨#[c]⟩))) (q : Q (.bl (f c)) H) :
    tChain (rI0 fun i j => .bl (decide (i ≤ j))) (rI0 fun i j => .bl (decide (i ≤ j))) (tCB (fun xs H Q => ∃ x, xs = [.str x] ∧ x.length = 1 ∧ Q (.int (x.cps.getD 0 0 : Nat)) H) (tCons (tC (.str a)) tNil))
      (tCB (fun xs H Q => ∃ x, xs = [.str x] ∧ x.length = 1 ∧ Q (.int (x.cps.getD 0 0 : Nat)) H) (tCons (tVar i) tNil)) (tCB (fun xs H Q => ∃ x, xs = [.str x] ∧ x.length = 1 ∧ Q (.int (x.cps.getD 0 0 : Nat)) H) (tCons (tC (.str b)) tNil)) σ H Q := by
  refine ⟨a, rfl, h1.1, _, hs, _, rfl, rfl, _, _, rfl, rfl, _, rfl, ?_⟩
  rw [h1.2]
  refine ite_d (fun e1 => ?_) (fun e1 => ?_)
  · refine ⟨b, rfl, h2.1, _, _, rfl, rfl, ?_⟩
    rw [h2.2]
    have e : f c = decide ((c : Int) ≤ (hi : Int)) := by
      rw [hf, decide_eq_true (show lo ≤ c by exact Int.ofNat_le.mp e1), Bool.true_and]
      exact decide_eq_decide.mpr Int.ofNat_le.symm
    rw [e] at q
    exact q
  · have e : f c = false := by
      rw [hf, decide_eq_false (show ¬ lo ≤ c from fun z => e1 (Int.ofNat_le.mpr z)), Bool.false_and]
    rw [e] at q
    exact q
end LC
namespace LC
open PySem L2
/-- a comprehension over range(n) whose element draws: the list's items all in F -/
theorem lc_draws {n : Nat} {j : Nat} {te : TE} {vs : List Nat} {σ : L2.St} {g l : Addr} {H0 H1 : Hp} {D : Addr} {Qd : Hp → Prop} (F : Hp → V → Prop) (R : Ok g l H0 H1) (hD : H1 D = none) (hn : n ≤ 1000000)
    (hw : ∀ x, wipe ((wipe σ vs).set j (some x)) vs = wipe σ vs) (hF : ∀ x H H', F H x → Kp g H H' → F H' x) (hG : ∀ x H xs ys, H D = some (.lst xs) → F H x → F (upd H D (.lst ys)) x)
    (he : ∀ (i : Nat) (H : Hp) (Q : VK), i < n → Ok g l H0 H → (∀ x H', F H' x → Ok g l H H' → Q x H') → te ((wipe σ vs).set j (some (.int (0 + (i : Int))))) H Q)
    (hd : ∀ H xs, Ok g l H0 H → Kp g H1 H → H D = some (.lst xs) → xs.length = n → (∀ x ∈ xs, F H x) → Qd H) :
    ∃ W : Nat → Nat → Hp → Prop, (∃ m, W 0 m (upd H1 D (.lst []))) ∧ ∀ i m H, W i m H →
      ((Itr 0 n).stop i H ∧ Qd H) ∨ ((Itr 0 n).go i H ∧ ∃ Nx : Hp → Prop, (∀ H', Nx H' → ∃ m', m' < m ∧ W (i + 1) m' H') ∧ ∀ x H', (Itr 0 n).yld i H x H' → gName j x (wipe σ vs) H' fun σ2 H2 => wipe σ2 vs = wipe σ vs ∧ tYes σ2 H2 fun b H3 =>
        if b = true then te σ2 H3 fun y H4 => ∃ acc, H4 D = some (.lst acc) ∧ acc.length < sizeLine ∧ Nx (upd H4 D (.lst (acc ++ [y]))) else Nx H3) := by
  have nD := R.bag.ne hD
  refine lc_it walk_range (fun i H => i ≤ n ∧ Ok g l H1 H ∧ ∃ xs, H D = some (.lst xs) ∧ xs.length = i ∧ ∀ x ∈ xs, F H x) ⟨Nat.zero_le _, Ok.new (Ok.refl R.bag) hD, [], upd_same, rfl, fun x hx => by cases hx⟩ (fun _ _ _ _ => trivial) ?_ ?_
  · rintro i x H H' hi ⟨_, r, xs, h1, h2, h3⟩ ⟨rfl, rfl⟩
    refine ⟨hw _, ?_⟩
    refine he i _ _ hi (R.trans r) fun x H2 fx r2 => ?_
    have h4 := r2.kp D _ nD.1 h1
    refine ⟨xs, h4, Nat.lt_of_lt_of_le (by omega : xs.length < 1000000 + 1) (by decide), hi, (r.trans r2).mut hD, xs ++ [x], upd_same, by rw [List.length_append, h2]; rfl, fun y hy => ?_⟩
    refine hG y H2 xs _ h4 ?_
    rcases List.mem_append.mp hy with hy | hy
    · exact hF y _ _ (h3 y hy) r2.kp
    · rw [List.mem_singleton] at hy
      rw [hy]
      exact fx
  · rintro H ⟨_, r, xs, h1, h2, h3⟩
    exact hd H xs (R.trans r) r.kp h1 h2 h3
end LC

namespace LC
open PySem L2
theorem Th.lstmut {C g : Addr} {H : Hp} {D : Addr} {v : V} {xs ys : List V} (h : H D = some (.lst xs)) (t : Th C g H v) : Th C g (upd H D (.lst ys)) v := by
  cases t with
  | non => exact .non
  | bl b => exact .bl b
  | int i => exact .int i
  | str z h => exact .str z h
  | @lst a xs' h' n =>
    by_cases e : a = D
    · subst e
      exact .lst upd_same n
    · exact .lst (by rw [upd_ne e]; exact h') n
  | tup h' n => exact .tup (by rw [upd_ne (ne_of h' h (by intro z; cases z))]; exact h') n
  | dK h' n => exact .dK (by rw [upd_ne (ne_of h' h (by intro z; cases z))]; exact h') n
  | exo h' n hd nd => exact .exo (by rw [upd_ne (ne_of h' h (by intro z; cases z))]; exact h') n (by rw [upd_ne (ne_of hd h (by intro z; cases z))]; exact hd) nd
end LC

namespace LC
open PySem L2
theorem Th.dKmut {C g : Addr} {H : Hp} {D : Addr} {v : V} {xs ys : List (Key × V)} (h : H D = some (.dK xs)) (t : Th C g H v) : Th C g (upd H D (.dK ys)) v := by
  cases t with
  | non => exact .non
  | bl b => exact .bl b
  | int i => exact .int i
  | str z h => exact .str z h
  | @dK a xs' h' n =>
    by_cases e : a = D
    · subst e
      exact .dK upd_same n
    · exact .dK (by rw [upd_ne e]; exact h') n
  | tup h' n => exact .tup (by rw [upd_ne (ne_of h' h (by intro z; cases z))]; exact h') n
  | lst h' n => exact .lst (by rw [upd_ne (ne_of h' h (by intro z; cases z))]; exact h') n
  | exo h' n hd nd => exact .exo (by rw [upd_ne (ne_of h' h (by intro z; cases z))]; exact h') n (by rw [upd_ne (ne_of hd h (by intro z; cases z))]; exact hd) nd
theorem Th.upd {C g l : Addr} {H0 H : Hp} {p : Addr} {o : HO} {v : V} (a : Ok g l H0 H) (h : H p = none) (t : Th C g H v) : Th C g (L2.upd H p o) v := t.kp (upd_kp a h)
theorem Th.dict {C g l : Addr} {H0 H : Hp} {p : Addr} {xs : List (Key × V)} (a : Ok g l H0 H) (h : H p = none) : Th C g (L2.upd H p (.dK xs)) (.ref p) := .dK upd_same (a.bag.ne h).1
end LC

namespace LC
open PySem L2
/-- a dict stands at p -/
def Dd (g : Addr) (H : Hp) (p : Addr) : Prop := p ≠ g ∧ ∃ kvs, H p = some (.dK kvs)
theorem Dd.new {g : Addr} {H : Hp} {p q : Addr} {o : HO} (d : Dd g H p) (h : H q = none) : Dd g (L2.upd H q o) p := by
  obtain ⟨n, kvs, e⟩ := d
  exact ⟨n, kvs, by rw [upd_ne (ne_of_none e h)]; exact e⟩
theorem Dd.dict {g : Addr} {H : Hp} {p q : Addr} {kvs : List (Key × V)} (d : Dd g H p) : Dd g (L2.upd H q (.dK kvs)) p := by
  obtain ⟨n, ks, e⟩ := d
  by_cases h : p = q
  · subst h
    exact ⟨n, kvs, upd_same⟩
  · exact ⟨n, ks, by rw [upd_ne h]; exact e⟩
theorem Dd.mk' {g l : Addr} {H0 H : Hp} {p : Addr} {kvs : List (Key × V)} (a : Ok g l H0 H) (h : H p = none) : Dd g (L2.upd H p (.dK kvs)) p := ⟨(a.bag.ne h).1, kvs, upd_same⟩
theorem Dd.th {C g : Addr} {H : Hp} {p : Addr} (d : Dd g H p) : Th C g H (.ref p) := by
  obtain ⟨n, kvs, e⟩ := d
  exact .dK e n
end LC
namespace LC
open PySem L2
theorem strs_of (z : Str) : ∀ xs : List V, (∀ x ∈ xs, ∃ c ∈ z.cps.toList, x = V.str ⟨#[c]⟩) → ∃ ys : List Str, xs = ys.map V.str ∧ (∀ y ∈ ys, y.length = 1) ∧ ys.length = xs.length
  | [], _ => ⟨[], rfl, (fun y hy => by cases hy), rfl⟩
  | x :: r, h => by
    obtain ⟨ys, e, h1, h2⟩ := strs_of z r fun y hy => h y (List.mem_cons_of_mem _ hy)
    obtain ⟨c, _, rfl⟩ := h x (List.mem_cons_self ..)
    refine ⟨⟨#[c]⟩ :: ys, by rw [e]; rfl, fun y hy => ?_, by rw [List.length_cons, h2]; rfl⟩
    rcases List.mem_cons.mp hy with rfl | hy
    · rfl
    · exact h1 y hy
theorem sum_ones : ∀ ys : List Str, (∀ y ∈ ys, y.length = 1) → (ys.map (·.length)).sum = ys.length
  | [], _ => rfl
  | y :: r, h => by
    have e := sum_ones r fun z hz => h z (List.mem_cons_of_mem _ hz)
    show (y.length :: r.map (·.length)).sum = r.length + 1
    rw [List.sum_cons, e, h y (List.mem_cons_self ..)]
    omega
theorem cutS_le (z : Str) (lo hi : Option Int) : (cutS z lo hi).length ≤ z.length := by
  show (cutS z lo hi).cps.size ≤ z.cps.size
  unfold cutS
  rw [List.size_toArray, List.length_take, List.length_drop, Array.length_toList]
  omega
end LC

namespace LC
open PySem L2
theorem kp_of {g : Addr} {H1 H2 : Hp} {a : Addr} {o : HO} (ha : H1 a = none) (k : ∀ b u, b ≠ a → L2.upd H1 a o b = some u → H2 b = some u) : Kp g H1 H2 := fun b u _ e => k b u (ne_of_none e ha) (by rw [upd_ne (ne_of_none e ha)]; exact e)
theorem log_small {i : Int} (h0 : -1000000 ≤ i) (h1 : i ≤ 1000000) : i.natAbs.log2 < 1920 := Nat.lt_trans (PySem.Flt.log2_lt_of (k := 20) (by decide) (Nat.lt_of_le_of_lt (show i.natAbs ≤ 1000000 by omega) (by decide))) (by decide)
end LC

namespace LC
theorem ite_same {c : Prop} [Decidable c] {A B C : Prop} (h : C) (h1 : C → A) (h2 : C → B) : if c then A else B := by
  by_cases q : c
  · rw [if_pos q]
    exact h1 h
  · rw [if_neg q]
    exact h2 h
theorem ite_nbeq {b : Bool} {A B : Prop} (h : B) : if (!(b == b)) = true then A else B := by
  rw [beq_self_eq_true]
  exact L2.iteF h
end LC

namespace LC
open PySem L2
theorem kit_sub {K : PySem.W.Frag} {C : Addr} {T : String} {b : Bool} (m : PySem.W.kitMeta T = true) (h : PySem.W.subIn K (.ref C) (.type T) = some b) : PySem.W.kitOne K (.ref C) (.type T) = some b := by
  have e : ((Value.ref C : Value) == Value.type T) = false := rfl
  unfold PySem.W.kitOne
  rw [e, if_neg Bool.false_ne_true]
  show (if PySem.W.kitMeta T = true then PySem.W.subIn K (.ref C) (.type T) else none) = some b
  rw [m, if_pos rfl]
  exact h
theorem cls_some {K : PySem.W.Frag} {C : Addr} {nm q : Str} {N : Addr} {bs bm : List Value} {sn : List Str} {sub : List Value} {ab : Bool} {col : Option Bool} {dd : Option Addr} {k0 k1 k2 k3 k5 : Option Value} {nw : String} (h : K.lookup C = some (excClassObj nm q C N bs bm true sn sub ab col dd k0 k1 k2 k3 k5 nw)) : (PySem.W.clsIn K C).isSome = true := by
  unfold PySem.W.clsIn
  rw [h] <;> rfl
theorem refs_ve (S : Addr) : PySem.HandSPX.refsVE [.ref S, .type "ValueError", .type "Exception", .type "BaseException", .type "object"] = true := by
  show PySem.HandSPX.refsVE [.type "ValueError", .type "Exception", .type "BaseException", .type "object"] = true
  decide +kernel
end LC

namespace LS
open PySem L2 NdefX
/-! ### bodies that say super(): run at their own code -/
structure PSAt (X : Cx) (c : Code) (st : Stmt) (t : TS) : Prop where
  run : ∀ (pins : List (Addr × Obj)) (s : Shared) (σ : L2.St) (H : Hp) (D : Ends), Inv X pins σ H s → t D σ H → PySem.wpAt (model X.prog X.w) X.A c (exec st X.env) (SP X pins D) X.xe s
structure PSsAt (X : Cx) (c : Code) (ss : List Stmt) (t : TS) : Prop where
  run : ∀ (pins : List (Addr × Obj)) (s : Shared) (σ : L2.St) (H : Hp) (D : Ends), Inv X pins σ H s → t D σ H → PySem.wpAt (model X.prog X.w) X.A c (execs ss X.env) (SP X pins D) X.xe s
section
variable {X : Cx} {c : Code} {st : Stmt} {rest : List Stmt} {t u : TS}
theorem psa (h : PS X st t) : PSAt X c st t := ⟨fun pins s σ H D I q => PySem.wpAt_of_wpAny (h.run pins s σ H D I q)⟩
theorem pssa (h : PSs X rest t) : PSsAt X c rest t := ⟨fun pins s σ H D I q => PySem.wpAt_of_wpAny (h.run pins s σ H D I q)⟩
theorem pssa_cons (h1 : PSAt X c st t) (h2 : PSsAt X c rest u) : PSsAt X c (st :: rest) (tSeq t u) := by
  refine ⟨fun pins s σ H D I h => ?_⟩
  refine ks_wpAt_execs_cons (PySem.wpAt_mono (h1.run pins s σ H { D with nx := u D } I h) (fun f s1 q => ?_) fun _ _ x => x)
  cases f with
  | next =>
    obtain ⟨σ', H', I', q⟩ := q
    exact h2.run pins s1 σ' H' D I' q
  | ret v => exact q
  | brk => exact q
  | cont => exact q
end
/-- what the written part says of the method f of the class D, which says super(): its def, its code, the cell of its class; the base's method f2 -/
structure SupF (P : Program) (K : PySem.W.Frag) (F : NF) (f D f2 : Addr) (m : Str) : Prop where
  fn : ∃ (oc : Value) (od : Option Addr) (doc pm ct : Value) (osl : Array (Option Value)), K.lookup f = some ⟨oc, od, .func (F.fd doc pm ct), osl⟩
  cd : PySem.W.codeIn K (.ref F.c) F.qual = true
  code : ∃ (oc : Value) (od : Option Addr) (vs : Array Value) (sl : Array (Option Value)) (file : Str) (tf : Tok), K.lookup F.c = some ⟨oc, od, .fields vs, sl⟩ ∧ vs[2]? = some (.str file tf) ∧ ((P.main.file : Str) == file) = true
  cell : ∃ (cc : Addr) (oc : Value) (od : Option Addr) (sl : Array (Option Value)), F.cl = [(("__class__" : Str), cc)] ∧ K.lookup cc = some ⟨oc, od, .cell (some (.ref D)), sl⟩
  cls : ∃ cd, PySem.W.clsIn K D = some cd
  sub : PySem.W.mroIn K D (.ref D) = some true
  sup : PySem.W.ks_superIn K D D m = some (some (.ref f2))
  ty : PySem.W.typeIn K (.ref f2) = some (.type "function")
  op : PySem.W.nsIn K cStatics "thirdparty.any" = some none
  fi : PySem.W.fnIn K f2 = true
  top : (P.main.scope.names.lookup ("super" : Str)).isSome = false
/-- super().m(e, ..): the base's method, its promise sp; self in slot 0 -/
def tSup (D f2 : Addr) (sp : Sp) (ta : TA) : TE := fun σ H Q => ∃ (x dx : Addr) (fs : List (Str × V)), σ[0]? = some (some (.ref x)) ∧ H x = some (.ins D dx fs) ∧
  ∀ q, H q = none → ta σ (upd H q (.met f2 x)) fun vs H1 => H1 q = some (.met f2 x) ∧ sp (.ref x :: vs) H1 Q E0
section
variable {X : Cx} {F : NF} {f D f2 : Addr} {m : Str} {sp : Sp} {k : Nat} {e : Expr} {es : List Expr} {ta : TA} {p0 p1 p2 pos pos' : Pos}
theorem sup_core (S : SupF X.prog X.K F f D f2 m) (hF : X.env.scope = F.scope ∧ X.env.func = some f ∧ X.env.code = .ref F.c ∧ X.env.cells = F.cl) (hmg : X.mg "super" = none) (hat : (m == ("__class__" : Str)) = false)
    (hks : F.scope.names.lookup ("super" : Str) = some .globalImplicit) (hkc : F.scope.names.lookup ("__class__" : Str) = some .free) (hka : F.scope.names.lookup ("self" : Str) = some .local) (hN : X.N[0]? = some ("self" : Str))
    (hp : ∃ ar, (F.params.posonlyargs ++ F.params.args).head? = some ar ∧ ar.arg = "self") {body : List Stmt} {whole : Sem Value} {Q : Value → Shared → Prop}
    {pins : List (Addr × Obj)} {s : Shared} {σ : L2.St} {H : Hp} {x dx : Addr} {fs : List (Str × V)} (I : Inv X pins σ H s) (hs : σ[0]? = some (some (.ref x))) (hx : H x = some (.ins D dx fs))
    (h : ∀ (so : Addr) (s' : Shared), Inv X pins σ H s' → s'.heap.get? so = some { cls := .type "super", dict := none, data := .fields #[.ref D, .ref x, .ref D], slots := #[] } → Q (.ref so) s') :
    PySem.wpAt (model X.prog X.w) X.A (.func body X.env) (attributeBase (.Call (.Name "super" p0) [] [] p1) m X.env whole) Q X.xe s := by
  obtain ⟨hsc, hfu, hco, hce⟩ := hF
  obtain ⟨oc, od, doc, pm, ct, osl, lf⟩ := S.fn
  obtain ⟨occ, occd, vs, ccs, file, tf, lc, hvs, hfile⟩ := S.code
  obtain ⟨cc, cl, cld, csl, ecl, lcell⟩ := S.cell
  obtain ⟨cdD, hD⟩ := S.cls
  obtain ⟨ar, ha1, ha2⟩ := hp
  have KX := I.kIn
  obtain ⟨oD, hD1, hD2⟩ : ∃ oD, s.heap.get? D = some oD ∧ oD.data = .cls cdD := by
    unfold PySem.W.clsIn at hD
    split at hD
    · rename_i c d cd' sl ho
      cases hD
      exact ⟨_, KX _ _ ho, rfl⟩
    · cases hD
  have kks : X.env.kindOf "super" = some .globalImplicit := by
    show X.env.scope.names.lookup ("super" : Str) = _
    rw [hsc]; exact hks
  have kkc : X.env.kindOf "__class__" = some .free := by
    show X.env.scope.names.lookup ("__class__" : Str) = _
    rw [hsc]; exact hkc
  have kka : X.env.kindOf "self" = some .local := by
    show X.env.scope.names.lookup ("self" : Str) = _
    rw [hsc]; exact hka
  obtain ⟨mb, b1, b2⟩ := I.mod.blt
  obtain ⟨mA, O, _, _, _, _⟩ := ins_get I.hok hx
  obtain ⟨odx, J, _⟩ := O.look
  obtain ⟨ml, hns, hl⟩ := I.loc
  have vself : ml "self" = some (.ref x) := by
    obtain ⟨u, ru, lk⟩ := hl 0 "self" (.ref x) hN hs (.inl (by rw [hsc]; exact hka))
    cases ru
    rcases lk with ⟨_, e1⟩ | ⟨z, _⟩
    · exact e1
    · rw [kka] at z
      rcases z with z | z <;> cases z
  refine ks_wpAt_super_base (env := X.env) kks kkc hat hfu (KX _ _ lf) rfl ha1 hco (KX _ _ lc) rfl hvs hfile S.top ?_
  refine PySem.W.ks_loadName_global I.ok.kind kks (Calls.loadGlobal_builtin (by rw [I.ok.glob]; exact I.mod.glob.keeps I.bk) hmg (by rw [I.ok.blt]; exact b1.keeps I.bk) ((b2 "super" (by decide +kernel)).trans (by decide +kernel : bootBuiltins "super" = some (.type "super"))) ⟨rfl, ?_⟩)
  refine wpAny_loadName_free I.ok.kind kkc (by rw [hce, ecl]; rfl) ⟨_, KX _ _ lcell, rfl⟩ ?_
  rw [ha2]
  refine wpAny_loadName_local I.ok.kind kka hns vself ?_
  refine ks_wpAny_isType_cls hD1 hD2 ⟨rfl, ?_⟩
  obtain ⟨hh, g, dr, t, os⟩ := s
  refine ks_wpAny_call_super hD1 hD2 J.at_ J.cls (fun c e => ?_) (PySem.W.looks_mroIn KX S.sub) (fun h' eso kk => ?_)
  · have z := J.no
    unfold PySem.W.notCls at z
    rw [e] at z
    exact Bool.noConfusion z
  exact h _ _ (I.kept (t' := t) kk) eso
theorem sup_facts (S : SupF X.prog X.K F f D f2 m) {pins : List (Addr × Obj)} {s : Shared} {σ : L2.St} {H : Hp} {x dx : Addr} {fs : List (Str × V)} (I : Inv X pins σ H s) (hx : H x = some (.ins D dx fs)) :
    PySem.W.Looks (model X.prog X.w) s.heap (opaqueClassAbove (.ref D)) none ∧ ∃ (l0 : List Value) (of : Obj), PySem.W.Looks (model X.prog X.w) s.heap (mroOf (.ref D)) l0 ∧ PySem.W.alongIn X.K m ((l0.dropWhile (· != .ref D)).drop 1) = some (some (.ref f2)) ∧ s.heap.get? f2 = some of ∧ of.cls = .type "function" ∧ x ≠ D := by
  obtain ⟨cdD, hD⟩ := S.cls
  have KX2 := I.kIn
  have hm := S.sup
  unfold PySem.W.ks_superIn at hm
  rw [hD] at hm
  obtain ⟨of, hof, hofc⟩ : ∃ of, s.heap.get? f2 = some of ∧ of.cls = .type "function" := by
    have ht' : (X.K.lookup f2).map (·.cls) = some (.type "function") := S.ty
    cases z : X.K.lookup f2 with
    | none => rw [z] at ht'; cases ht'
    | some of => rw [z] at ht'; exact ⟨of, KX2 _ _ z, Option.some.inj ht'⟩
  obtain ⟨mA, O, _, _, _, _⟩ := ins_get I.hok hx
  obtain ⟨odx, J, _⟩ := O.look
  exact ⟨PySem.W.looks_opaque KX2 S.op, cdD.mro, of, fun A Q E s k q => wpAny_bind ((PySem.W.looks_clsIn KX2 hD) A _ E s k (wpAny_pure q)), hm, hof, hofc, PySem.W.ks_ne KX2 J hD⟩
theorem sup_meth (S : SupF X.prog X.K F f D f2 m) (hat : (m == ("__class__" : Str)) = false) {pl : Sem Bool} {Q : Value × List Value → Shared → Prop}
    {pins : List (Addr × Obj)} {s : Shared} {σ : L2.St} {H : Hp} {x dx so : Addr} {fs : List (Str × V)} (I : Inv X pins σ H s) (hx : H x = some (.ins D dx fs))
    (eso : s.heap.get? so = some { cls := .type "super", dict := none, data := .fields #[.ref D, .ref x, .ref D], slots := #[] })
    (h : ∀ (q : Addr) (s' : Shared), H q = none → Inv X pins σ (upd H q (.met f2 x)) s' → Q (.ref q, []) s') : wpAny (model X.prog X.w) X.A (getMethod (.ref so) m pl) Q X.xe s := by
  obtain ⟨h1, l0, of, h2, hm, hof, hofc, hne⟩ := sup_facts S I hx
  have KX := I.kIn
  obtain ⟨h', g, dr, t, os⟩ := s
  refine ks_wpAny_getMethod_super eso h1 h2 rfl KX hm hof hofc hne hat ?_
  refine h h'.objs.size _ (I.hok.fresh (Nat.le_refl _)) ?_
  exact I.laid (t' := t + 1) (a := h'.objs.size) (o := .met f2 x) (fun b u z => Heap.get?_push_of_some _ z) (Nat.le_refl _)
    (show (h'.push (PySem.W.methodObj (.ref f2) (.ref x))).get? h'.objs.size = some (PySem.W.methodObj (.ref f2) (.ref x)) from Heap.get?_push_size h' rfl)
theorem getAttr_super {prog : Program} {w : World} {A : Around} {E : Value → Shared → Prop} {h : Heap} {g : Array GenState} {d : Drawn} {t : Nat} {os : OsState} {so D x C f : Addr} {of : Obj} {l₀ l : List Value} {K : PySem.W.Frag} {name : Str} {b : Bool} {Q : Value → Shared → Prop}
    (hso : h.get? so = some { cls := .type "super", dict := none, data := .fields #[.ref D, .ref x, .ref C], slots := #[] }) (hno : PySem.W.Looks (model prog w) h (opaqueClassAbove (.ref C)) none)
    (hC : PySem.W.Looks (model prog w) h (mroOf (.ref C)) l₀) (hl : (l₀.dropWhile (· != .ref D)).drop 1 = l) (X : K.In h)
    (hf : PySem.W.alongIn K name l = some (some (.ref f))) (hfo : h.get? f = some of) (hfc : of.cls = .type "function") (hxC : x ≠ C) (hn : (name == ("__class__" : Str)) = false)
    (hq : Q (.ref h.objs.size) ⟨h.push { cls := .type "method", data := .fields #[.ref f, .ref x] }, g, d, t + 1, os⟩) :
    wpAny (model prog w) A (getAttr (.ref so) name b) Q E ⟨h, g, d, t, os⟩ := by
  have hlk := F.ks_slot_super_ga.lookup
  have hT : ∀ t', (⟨h, g, d, t', os⟩ : Shared).TypeIs (.ref so) "super" := fun _ => ⟨_, hso, rfl⟩
  unfold getAttr getAttrBy
  refine wpAny_bind (wpAny_mkText (wpAny_holding (wpAny_bind (wpAny_typeOf (hT _) (wpAny_bind (wpAny_of_eq hlk ?_))))))
  show wpAny _ _ (getAttrByItsOwn (.ref so) (.str name t) (.type "super") (.builtin "super.__getattribute__") true b) _ _ _
  unfold getAttrByItsOwn hookBefore callGetattribute boundAndCalled
  refine wpAny_bind (wpAny_of_eq (show (if onTheHeap (.type "super") then typeLookup (.type "super") "__getattr__" else pure none) = pure none from rfl) ?_)
  refine wpAny_bind (wpAny_attempt (wpAny_holding ?_))
  have e0 : (b && onTheHeap (Value.builtin "super.__getattribute__")) = false := by cases b <;> rfl
  rw [e0, if_neg Bool.false_ne_true]
  refine wpAny_bind (wpAny_of_eq (F.ks_slot_super_ga.bind _) ?_)
  refine wpAny_mono (Q := fun v s' => v = .ref h.objs.size ∧ s' = ⟨h.push { cls := .type "method", data := .fields #[.ref f, .ref x] }, g, d, t + 1, os⟩) (E := fun _ _ => False)
    (wpAny_call_entry F.ks_slot_super_ga (hT _) F.ks_entry_super_ga (ks_wpAny_super_ga hso hno hC hl X hf hfo hfc hxC hn ⟨_, rfl, rfl, rfl⟩) (F.ks_gaArgs_super _ _)) (fun v s' hv => ?_) fun _ _ z => z.elim
  obtain ⟨rfl, rfl⟩ := hv
  exact wpAny_pure hq
/-- super().m(e, ..) as a statement -/
theorem ps_sup (S : SupF X.prog X.K F f D f2 m) (hF : X.env.scope = F.scope ∧ X.env.func = some f ∧ X.env.code = .ref F.c ∧ X.env.cells = F.cl) (hmg : X.mg "super" = none) (F2 : FnR X.prog X.w X.K X.mg X.base CX0 k f2 sp) (hr : Room k X.A) (ha : PA X (e :: es) ta)
    (hp : ∃ ar, (F.params.posonlyargs ++ F.params.args).head? = some ar ∧ ar.arg = "self") (hat : (m == ("__class__" : Str)) = false := by decide)
    (hks : F.scope.names.lookup ("super" : Str) = some .globalImplicit := by rfl) (hkc : F.scope.names.lookup ("__class__" : Str) = some .free := by rfl) (hka : F.scope.names.lookup ("self" : Str) = some .local := by rfl) (hN : X.N[0]? = some ("self" : Str) := by rfl)
    {pl : Sem Bool} (he : eval (.Call (.Attribute (.Call (.Name "super" p0) [] [] p1) m p2) (e :: es) [] pos) X.env = (do
      let ov ← attributeBase (.Call (.Name "super" p0) [] [] p1) m X.env (eval (.Call (.Name "super" p0) [] [] p1) X.env)
      standAt p2.atName
      let (f, first) ← holding [ov] (getMethod ov m pl)
      callWith pos f first (backTo pos (starEach (e :: es) X.env)) []) := by rfl)
    (hst : starEach (e :: es) X.env = (false, eval e X.env) :: starEach es X.env := by rfl) (hpl : (backTo pos (starEach es X.env)).any (·.1) = false := by rfl)
    (hsw : swapsWith (.Call (.Attribute (.Call (.Name "super" p0) [] [] p1) m p2) (e :: es) [] pos) none pos'.line X.env = pure false := by rfl) :
    PSAt X (.func F.body X.env) (.Expr (.Call (.Attribute (.Call (.Name "super" p0) [] [] p1) m p2) (e :: es) [] pos) pos') (tDrop (tSup D f2 sp ta)) := by
  refine ⟨fun pins s σ H Dn I h => ?_⟩
  obtain ⟨x, dx, fs, hs, hx, q⟩ := h
  refine ks_wpAt_Expr_any (ks_wpAt_MethodCall (pl := pl) (sup_core S hF hmg hat hks hkc hka hN hp I hs hx fun so s0 I0 eso => sup_meth S hat I0 hx eso fun q1 s1 hq1 I1 => ?_) he) I.quiet hsw
  refine callwith_met (a := x) (by rw [hst]; show ((false || (backTo pos (starEach es X.env)).any (·.1)) || false) = false; rw [hpl]; rfl) S.fi ?_
  have hrun := ha.run pos pins s1 σ _ _ I1 (q q1 hq1)
  rw [hst] at hrun ⊢
  refine Calls.evalArgs_plain (thn hrun fun us s2 ⟨vs, H2, I2, rv, hm2, q2⟩ => ?_)
  refine ⟨met_P I2 hm2, ?_⟩
  refine wpAny_call (PySem.W.method_call (met_P I2 hm2).1 (codeAny_mono (run_fnR (us := .ref x :: us) (vs := .ref x :: vs) F2 hr pass0 I2 (.cons rfl rv) q2) fun r s' hr' => ?_))
  cases r with
  | error e => exact hr'
  | ok fl =>
    cases fl with
    | ret u =>
      obtain ⟨v, H', I', _, q'⟩ := hr'
      exact ⟨σ, H', I', q'⟩
    | next => exact hr'
    | brk => exact hr'
    | cont => exact hr'
end
/-- super().m(*e), e a tuple or a list -/
def tSupS (K : PySem.W.Frag) (D f2 : Addr) (sp : Sp) (te : TE) : TE := fun σ H Q => ∃ (x dx : Addr) (fs : List (Str × V)), σ[0]? = some (some (.ref x)) ∧ H x = some (.ins D dx fs) ∧
  ∀ q, H q = none → te σ (upd H q (.met f2 x)) fun y H1 => ∃ b vs, y = .ref b ∧ (SqT K H1 b vs ∨ SqL K H1 b vs) ∧ H1 q = some (.met f2 x) ∧ sp (.ref x :: vs) H1 Q E0
section
variable {X : Cx} {F : NF} {f D f2 : Addr} {m : Str} {sp : Sp} {k : Nat} {e : Expr} {te : TE} {p p0 p1 p2 pos pos' : Pos}
theorem ps_supS (S : SupF X.prog X.K F f D f2 m) (hF : X.env.scope = F.scope ∧ X.env.func = some f ∧ X.env.code = .ref F.c ∧ X.env.cells = F.cl) (hmg : X.mg "super" = none) (F2 : FnR X.prog X.w X.K X.mg X.base CX0 k f2 sp) (hr : Room k X.A) (ha : PE X e te)
    (hp : ∃ ar, (F.params.posonlyargs ++ F.params.args).head? = some ar ∧ ar.arg = "self") (hat : (m == ("__class__" : Str)) = false := by decide)
    (hks : F.scope.names.lookup ("super" : Str) = some .globalImplicit := by rfl) (hkc : F.scope.names.lookup ("__class__" : Str) = some .free := by rfl) (hka : F.scope.names.lookup ("self" : Str) = some .local := by rfl) (hN : X.N[0]? = some ("self" : Str) := by rfl)
    (hsw : swapsWith (.Call (.Attribute (.Call (.Name "super" p0) [] [] p1) m p2) [.Starred e p] [] pos) none pos'.line X.env = pure false := by rfl) :
    PSAt X (.func F.body X.env) (.Expr (.Call (.Attribute (.Call (.Name "super" p0) [] [] p1) m p2) [.Starred e p] [] pos) pos') (tDrop (tSupS X.K D f2 sp te)) := by
  refine ⟨fun pins s σ H Dn I h => ?_⟩
  obtain ⟨x, dx, fs, hs, hx, q⟩ := h
  have hse : starEach [.Starred e p] X.env = [(true, eval e X.env)] := rfl
  have hke : backToKw pos (keywordEach [] X.env) = [] := rfl
  have hform : methodCallForm ([Expr.Starred e p].length + ([] : List Keyword).length) (backTo pos [(true, eval e X.env)]) [] = false := rfl
  have hpos : methodCallPos false (.Call (.Name "super" p0) [] [] p1) X.env p2 pos = pure pos := rfl
  have hcal : ∀ ov, calleeOf false (.Call (.Name "super" p0) [] [] p1) X.env ov m = (getAttr ov m true >>= fun v => pure (v, [])) := fun _ => rfl
  refine ks_wpAt_Expr_any ?_ I.quiet hsw
  rw [arm_eval_Call, hse, hke]
  refine PySem.wpAt_bind (sup_core S hF hmg hat hks hkc hka hN hp I hs hx fun so s0 I0 eso => ?_)
  refine PySem.wpAt_of_wpAny ?_
  refine wpAny_bind (wpAny_standAt ?_)
  unfold methodCall
  rw [hform, hpos, hcal]
  obtain ⟨h1, l0, of, h2, hm, hof, hofc, hne⟩ := sup_facts S I0 hx
  have KX := I0.kIn
  obtain ⟨h', g, dr, t, os⟩ := s0
  refine wpAny_bind (wpAny_holding (wpAny_bind (getAttr_super eso h1 h2 rfl KX hm hof hofc hne hat (wpAny_pure ?_))))
  have hq1 := I0.hok.fresh (Nat.le_refl _)
  have I1 : Inv X pins σ (upd H h'.objs.size (.met f2 x)) ⟨h'.push (PySem.W.methodObj (.ref f2) (.ref x)), g, dr, t + 1, os⟩ :=
    I0.laid (t' := t + 1) (a := h'.objs.size) (o := .met f2 x) (fun b u z => Heap.get?_push_of_some _ z) (Nat.le_refl _)
      (show (h'.push (PySem.W.methodObj (.ref f2) (.ref x))).get? h'.objs.size = some (PySem.W.methodObj (.ref f2) (.ref x)) from Heap.get?_push_size h' rfl)
  refine wpAny_bind (wpAny_pure ?_)
  refine PySem.W.ks_call (P := PySem.W.MethP X.K h'.objs.size f2 (.ref x)) rfl (PySem.W.keeps_M S.fi) (PySem.W.ks_lone ?_)
  refine thn (ha.run pins _ σ _ _ I1 (q _ hq1)) fun v s3 ⟨y, H2, I3, ry, b, vs, ey, ht, hm2, hsp⟩ => ?_
  subst ey
  obtain rfl : v = Value.ref b := ry
  refine StX.star_any I3 ht fun us s4 I4 rv => ⟨met_P I4 hm2, ?_⟩
  refine wpAny_call (PySem.W.method_call (met_P I4 hm2).1 (codeAny_mono (run_fnR (us := .ref x :: us) (vs := .ref x :: vs) F2 hr pass0 I4 (.cons rfl rv) hsp) fun r s' hr' => ?_))
  cases r with
  | error e => exact hr'
  | ok fl =>
    cases fl with
    | ret u =>
      obtain ⟨v, H', I', _, q'⟩ := hr'
      exact ⟨σ, H', I', q'⟩
    | next => exact hr'
    | brk => exact hr'
    | cont => exact hr'
end
section
variable {P : Program} {w : World} {K : PySem.W.Frag} {mg : Str → Option Value} {base : Heap} {F : NF} {f D f2 : Addr} {m : Str} {N ps : List Str} {sp : Sp} {k : Nat}
theorem cell_at (U : SupF P K F f D f2 m) {A : Around} {outer : List Env} {s : Shared} {H : Hp} (e0 : Env0 P w K mg base A outer s H) : CellsAt F.cl [("__class__" : Str)] [some (.ref D)] s.heap H := by
  obtain ⟨cc, oc, od, sl, ecl, lc⟩ := U.cell
  obtain ⟨h1, h2⟩ := e0.bs cc _ (e0.mod.kin _ _ lc)
  have one : ∀ y c, F.cl.lookup y = some c → y = ("__class__" : Str) ∧ c = cc := fun y c e => by
    rw [ecl] at e
    by_cases q : y = ("__class__" : Str)
    · subst q
      have z : ([(("__class__" : Str), cc)] : List (Str × Addr)).lookup ("__class__" : Str) = some cc := by simp [List.lookup]
      rw [z] at e
      exact ⟨rfl, (Option.some.inj e).symm⟩
    · have z : (y == ("__class__" : Str)) = false := by simpa using q
      simp [List.lookup, z] at e
  refine ⟨rfl, fun y c e => ?_, fun x y c e1 e2 => (one x c e1).1.trans (one y c e2).1.symm, fun i y hi => ?_⟩
  · obtain ⟨rfl, rfl⟩ := one y c e
    exact ⟨h2, _, _, h1, rfl⟩
  · match i, hi with
    | 0, hi =>
      cases hi
      refine ⟨cc, by rw [ecl]; simp [List.lookup], fun v hv => ?_⟩
      cases hv
      exact ⟨_, rfl, _, h1, rfl⟩
    | i + 1, hi => simp at hi
/-- THE RULE for a method that says super() -/
theorem fnS_of (S : NScope N ps ["__class__"] F.scope) (U : SupF P K F f D f2 m) {doc pm ct oc : Value} {od : Option Addr} {osl : Array (Option Value)} (lf : K.lookup f = some ⟨oc, od, .func (F.fd doc pm ct), osl⟩) (len : ∀ vs H Q E, sp vs H Q E → vs.length = ps.length)
    (hbody : ∀ (A : Around) (outer : List Env) (s : Shared) (H : Hp) (vs : List V) (Q : VK) (E : XK), Room k (A.deeper (envF F f s.heap.objs.size)) → sp vs H Q E →
      ∃ t, PSsAt (ncx CX0 P w K mg base N F f A outer s H E) (.func F.body (ncx CX0 P w K mg base N F f A outer s H E).env) F.body t ∧ t { nx := fun _ H' => Q .non H', rt := Q } (startF N vs [some (.ref D)]) H) :
    FnOk P w K mg base CX0 (k + 1) f (F.fd doc pm ct) ps sp := by
  refine ⟨len, fun A outer s H args us vs Q E hr e0 hb r hsp => ?_⟩
  have hl := len _ _ _ _ hsp
  have KX : K.In s.heap := e0.mod.kin.keeps fun b o e => (e0.bs b o e).1
  have lim : s.heap.NoLimit := e0.mod.nolimit.keeps fun b o e => (e0.bs b o e).1
  have hloc : ∀ x ∈ ps.zip us, F.scope.names.lookup x.1 = some .local := fun ⟨n, v⟩ hy => S.par n (List.of_mem_zip hy).1
  refine ks_codeAny_call_defAt (fd := F.fd doc pm ct) (body := F.body) (binds := ps.zip us) hr.depth (KX _ _ lf) rfl lim (PySem.W.codeRec_of KX U.cd) rfl hb S.nocell hloc (fun h₁ hns kp => ?_) S.co S.gen S.kind
  obtain ⟨t, ht, hq⟩ := hbody A outer s H vs Q E (hr.deeper _) hsp
  have I : Inv (ncx CX0 P w K mg base N F f A outer s H E) [] (startF N vs [some (.ref D)]) H { s with heap := h₁, toks := s.toks + (ps.zip us).length } := inv_startN S hr.hd e0 hl r (cell_at U e0) hns kp
  refine PySem.wpAt_mono (ht.run [] _ (startF N vs [some (.ref D)]) H _ I hq) (fun fl s' hs => ?_) fun e s' hs => hs
  have fin : ∀ {σ' : L2.St} {H' : Hp} {v : V} {u : Value}, Inv (ncx CX0 P w K mg base N F f A outer s H E) [] σ' H' s' → L2.RelV v u → Q v H' → CE outer P w H s Q u s' :=
    fun {σ' H' v u} J rv q => ⟨v, H', J.os, J.bare, J.base, J.hok, rv, q⟩
  cases fl with
  | ret u =>
    obtain ⟨v, σ', H', J, rv, q⟩ := hs
    exact fin J rv q
  | next =>
    obtain ⟨σ', H', J, q⟩ := hs
    exact fin (v := V.non) (u := Value.none) J rfl q
  | brk =>
    obtain ⟨_, _, _, q⟩ := hs
    exact False.elim q
  | cont =>
    obtain ⟨_, _, _, q⟩ := hs
    exact False.elim q
end
/-! ### calls whose class is known at the run alone -/
section
variable {X : Cx} {k : Nat} {fe e o : Expr} {es : List Expr} {tf ta : TE} {t : TA} {pos apos : Pos} {m : Str} {f : Addr} {sp : Sp}
def tCallD (X : Cx) (k : Nat) (tf : TE) (t : TA) : TE := fun σ H Q => tf σ H fun y H1 => ∃ a, y = V.ref a ∧ t σ H1 fun vs H2 => ∃ (C g : Addr) (sp : Sp), StX.CallO X.K C g ∧ FnR X.prog X.w X.K X.mg X.base CX0 k g sp ∧ (∃ dx fs, H2 a = some (.ins C dx fs)) ∧ sp (V.ref a :: vs) H2 Q E0
theorem pe_callD (hf : PE X fe tf) (hr : Room k X.A) (ha : PA X (e :: es) t)
    (ht : eval (.Call fe (e :: es) [] pos) X.env = (do callWith pos (← eval fe X.env) [] (backTo pos (starEach (e :: es) X.env)) (backToKw pos (keywordEach [] X.env))) := by rfl)
    (he : starEach (e :: es) X.env = (false, eval e X.env) :: starEach es X.env := by rfl) (hpl : (backTo pos (starEach es X.env)).any (·.1) = false := by rfl) : PE X (.Call fe (e :: es) [] pos) (tCallD X k tf t) := by
  refine ⟨fun pins s σ H Q I h => ?_⟩
  refine PyProof.Rows.Call_ (thn (hf.run pins s σ H _ I h) fun u s1 ⟨y, H1, I1, ry, a, ey, q⟩ => ?_) ht
  subst ey
  obtain rfl : u = Value.ref a := ry
  refine StX.callO_with (thn (ha.run pos pins s1 σ H1 _ I1 q) fun us s2 ⟨vs, H2, I2, r, C, g, sp, c, F, hi, q2⟩ => ?_) he hpl
  obtain ⟨ox, od, J, hd⟩ := StX.insC_at (X := X) I2 (.inr hi)
  exact ⟨⟨C, ox, od, J, hd⟩, StX.run_callO c F hr pass0 I2 (.inr hi) r q2⟩
def tMethD (K : PySem.W.Frag) (m : Str) (f : Addr) (sp : Sp) (ta : TE) (t : TA) : TE := fun σ H Q => ta σ H fun x H1 => ∃ a C dx fs, x = .ref a ∧ H1 a = some (.ins C dx fs) ∧ Cls K C ∧ Meth K C m f ∧ fs.lookup m = none ∧ t σ H1 fun vs H2 => sp (x :: vs) H2 Q E0
theorem pe_methD {pl : Sem Bool} (he : PE X o ta) (hk : PySem.W.keepIn X.K (.ref f) = true) (F : FnR X.prog X.w X.K X.mg X.base CX0 k f sp) (hr : Room k X.A) (ha : PA X (e :: es) t)
    (hst : starEach (e :: es) X.env = (false, eval e X.env) :: starEach es X.env := by rfl) (hpl : (backTo pos (starEach es X.env)).any (·.1) = false := by rfl)
    (ht : eval (.Call (.Attribute o m apos) (e :: es) [] pos) X.env = (do
      let ov ← eval o X.env
      standAt apos.atName
      let (f, first) ← holding [ov] (getMethod ov m pl)
      callWith pos f first (backTo pos (starEach (e :: es) X.env)) (backToKw pos (keywordEach [] X.env))) := by rfl) :
    PE X (.Call (.Attribute o m apos) (e :: es) [] pos) (tMethD X.K m f sp ta t) := by
  refine ⟨fun pins s σ H Q I h => ?_⟩
  refine PySem.W.methodCall_KW (pl := pl) (thn (he.run pins s σ H _ I h) fun u s1 ⟨x, H1, I1, rx, a, C, dx, fs, ex, ea, c, hm, l, q⟩ => ?_) ht
  subst ex
  obtain rfl : u = Value.ref a := rx
  refine getmeth_ok I1 ea c hm l ?_
  refine PySem.W.callWith_K (first := [.ref a]) (h₀ := X.base) I.ok.mod.kin hk (thn (ha.run pos pins s1 σ H1 _ I1 q) fun us s2 ⟨vs, H2, I2, r, q2⟩ => ⟨I2.kIn, ?_⟩) hst hpl
  exact wpAny_call (codeAny_mono (run_fnR (us := .ref a :: us) (vs := .ref a :: vs) F hr pass0 I2 (.cons rfl r) q2) fun r s' h => h)
theorem pe_methD0 {pl : Sem Bool} (he : PE X o ta) (hk : PySem.W.keepIn X.K (.ref f) = true) (F : FnR X.prog X.w X.K X.mg X.base CX0 k f sp) (hr : Room k X.A)
    (ht : eval (.Call (.Attribute o m apos) [] [] pos) X.env = (do
      let ov ← eval o X.env
      standAt apos.atName
      let (f, first) ← holding [ov] (getMethod ov m pl)
      callWith pos f first (backTo pos (starEach [] X.env)) (backToKw pos (keywordEach [] X.env))) := by rfl) :
    PE X (.Call (.Attribute o m apos) [] [] pos) (tMethD X.K m f sp ta tNil) := by
  refine ⟨fun pins s σ H Q I h => ?_⟩
  refine PySem.W.methodCall_KW (pl := pl) (thn (he.run pins s σ H _ I h) fun u s1 ⟨x, H1, I1, rx, a, C, dx, fs, ex, ea, c, hm, l, q⟩ => ?_) ht
  subst ex
  obtain rfl : u = Value.ref a := rx
  refine getmeth_ok I1 ea c hm l ?_
  refine PySem.W.callWith_K0 (first := [.ref a]) I1.kIn hk ?_
  exact wpAny_call (codeAny_mono (run_fnR (us := [.ref a]) (vs := [.ref a]) F hr pass0 I1 (.cons rfl .nil) q) fun r s' h => h)
/-- o.m(e, ..), m a field of the instance that holds an instance of a class that may be called -/
def tCallFD (X : Cx) (k : Nat) (m : Str) (to : TE) (t : TA) : TE := fun σ H Q => to σ H fun x H1 => ∃ (b D dx : Addr) (fs : List (Str × V)) (a : Addr), x = V.ref b ∧ H1 b = some (.ins D dx fs) ∧ Cls X.K D ∧ NoAttr X.K D m ∧ fs.lookup m = some (.ref a) ∧
  t σ H1 fun vs H2 => ∃ (C g : Addr) (sp : Sp), StX.CallO X.K C g ∧ FnR X.prog X.w X.K X.mg X.base CX0 k g sp ∧ (∃ dx fs, H2 a = some (.ins C dx fs)) ∧ sp (V.ref a :: vs) H2 Q E0
theorem pe_callFD {pl : Sem Bool} (ho : PE X o ta) (hr : Room k X.A) (ha : PA X (e :: es) t)
    (ht : eval (.Call (.Attribute o m apos) (e :: es) [] pos) X.env = (do
      let ov ← eval o X.env
      standAt apos.atName
      let (f, first) ← holding [ov] (getMethod ov m pl)
      callWith pos f first (backTo pos (starEach (e :: es) X.env)) (backToKw pos (keywordEach [] X.env))) := by rfl)
    (he : starEach (e :: es) X.env = (false, eval e X.env) :: starEach es X.env := by rfl) (hpl : (backTo pos (starEach es X.env)).any (·.1) = false := by rfl) : PE X (.Call (.Attribute o m apos) (e :: es) [] pos) (tCallFD X k m ta t) := by
  refine ⟨fun pins s σ H Q I h => ?_⟩
  refine PySem.W.methodCall_KW (pl := pl) (thn (ho.run pins s σ H _ I h) fun u s1 ⟨x, H1, I1, rx, b, D, dx, fs, a, ex, eb, c, n, l, q⟩ => ?_) ht
  subst ex
  obtain rfl : u = Value.ref b := rx
  refine getmeth_fld I1 eb c n l fun v s2 I2 rv => ?_
  obtain rfl : v = Value.ref a := rv
  refine StX.callO_with (thn (ha.run pos pins s2 σ H1 _ I2 q) fun us s3 ⟨vs, H2, I3, r, C, g, sp, c, F, hi, q2⟩ => ?_) he hpl
  obtain ⟨ox, od, J, hd⟩ := StX.insC_at (X := X) I3 (.inr hi)
  exact ⟨⟨C, ox, od, J, hd⟩, StX.run_callO c F hr pass0 I3 (.inr hi) r q2⟩
end
theorem cls_of {K : PySem.W.Frag} {C : Addr} {oc : Value} {od : Option Addr} {cd : ClassData} {sl : Array (Option Value)} (h : K.lookup C = some ⟨oc, od, .cls cd, sl⟩) : PySem.W.clsIn K C = some cd := by
  unfold PySem.W.clsIn
  rw [h]
theorem kit_own {K : PySem.W.Frag} {C R : Addr} {oc : Value} {od : Option Addr} {cd : ClassData} {sl : Array (Option Value)} (x : K.lookup R = some ⟨oc, od, .cls cd, sl⟩) (t : PySem.W.typeIn K (.ref R) = some (.type "type")) (h : PySem.W.subIn K (.ref C) (.ref R) = some true) : PySem.W.kitOne K (.ref C) (.ref R) = some true := by
  unfold PySem.W.kitOne
  by_cases q : ((Value.ref C : Value) == Value.ref R) = true
  · rw [if_pos q]
  · rw [if_neg q]
    show (if ((PySem.W.clsIn K R).isSome && PySem.W.typeIn K (.ref R) == some (.type "type")) = true then PySem.W.subIn K (.ref C) (.ref R) else none) = some true
    rw [cls_of x, t, if_pos (by simp)]
    exact h
theorem sup_of {K : PySem.W.Frag} {C R f : Addr} {oc oc2 : Value} {od od2 : Option Addr} {cd cd2 : ClassData} {sl sl2 : Array (Option Value)} {m : Str} (h : K.lookup C = some ⟨oc, od, .cls cd, sl⟩) (e : (cd.mro.dropWhile (· != .ref C)).drop 1 = cd2.mro) (h2 : K.lookup R = some ⟨oc2, od2, .cls cd2, sl2⟩)
    (hf : PySem.W.findIn K (.ref R) m = some (some (.ref f))) : PySem.W.ks_superIn K C C m = some (some (.ref f)) := by
  unfold PySem.W.ks_superIn
  rw [cls_of h]
  show PySem.W.alongIn K m ((cd.mro.dropWhile (· != .ref C)).drop 1) = _
  rw [e]
  have hf' : (match K.lookup R with | some ⟨_, _, .cls cd, _⟩ => PySem.W.alongIn K m cd.mro | _ => none) = some (some (.ref f)) := hf
  rw [h2] at hf'
  exact hf'
end LS

namespace RM
/-- the plan of a rest -/
inductive Pl where
  | win (w : Int)
  | days (bs : List Int) (e : Int)
  | lat (p q : Pl)
  | soo (p q : Pl)
  | nex (p q : Pl)
def lastOf (bs : List Int) : Int := bs.getLastD 0
def dayAt (bs : List Int) (e t : Int) : Int := match bs.find? (fun b => decide (b > t)) with
  | some b => b
  | none => lastOf bs + ((t - lastOf bs) / e + 1) * e
def Pl.at : Pl → Int → Int
  | .win w, t => t + w
  | .days bs e, t => dayAt bs e t
  | .lat p q, t => if q.at t > p.at t then q.at t else p.at t
  | .soo p q, t => if q.at t < p.at t then q.at t else p.at t
  | .nex p q, t => q.at (p.at t)
def Pl.leaves : Pl → Nat
  | .win _ => 1
  | .days _ _ => 1
  | .lat p q => p.leaves + q.leaves
  | .soo p q => p.leaves + q.leaves
  | .nex p q => p.leaves + q.leaves
def Pl.forms : Pl → Int
  | .win _ => 1
  | .days _ _ => 1
  | .lat p q => 1 + p.forms + q.forms
  | .soo p q => 1 + p.forms + q.forms
  | .nex p q => 1 + p.forms + q.forms
def lcmI (a b : Int) : Int := ((a.natAbs.lcm b.natAbs : Nat) : Int)
def Pl.per : Pl → Int
  | .win _ => 1
  | .days _ e => e
  | .lat p q => lcmI p.per q.per
  | .soo p q => lcmI p.per q.per
  | .nex p q => lcmI p.per q.per
def maxI (a b : Int) : Int := if b > a then b else a
def Pl.bend : Pl → Int
  | .win _ => 0
  | .days bs _ => lastOf bs
  | .lat p q => maxI p.bend q.bend
  | .soo p q => maxI p.bend q.bend
  | .nex p q => maxI p.bend q.bend
def Pl.h : Pl → Nat
  | .win _ => 0
  | .days _ _ => 0
  | .lat p q => 1 + max p.h q.h
  | .soo p q => 1 + max p.h q.h
  | .nex p q => 1 + max p.h q.h
/-- borders that rise from n on -/
def Asc : Int → List Int → Prop
  | _, [] => True
  | n, b :: r => n ≤ b ∧ b ≤ 1000 ∧ Asc (b + 1) r
def Pl.ok (L : Nat) : Pl → Prop
  | .win w => 1 ≤ w ∧ w ≤ 1000
  | .days bs e => 1 ≤ e ∧ e ≤ 2000 ∧ e.natAbs ∣ L ∧ bs.length ≤ 12 ∧ Asc 1 bs
  | .lat p q => p.ok L ∧ q.ok L
  | .soo p q => p.ok L ∧ q.ok L
  | .nex p q => p.ok L ∧ q.ok L
theorem Pl.leaves_pos : ∀ p : Pl, 1 ≤ p.leaves
  | .win _ => Nat.le_refl _
  | .days _ _ => Nat.le_refl _
  | .lat p q => Nat.le_trans p.leaves_pos (Nat.le_add_right _ _)
  | .soo p q => Nat.le_trans p.leaves_pos (Nat.le_add_right _ _)
  | .nex p q => Nat.le_trans p.leaves_pos (Nat.le_add_right _ _)
theorem Pl.h_lt : ∀ p : Pl, p.h + 1 ≤ p.leaves
  | .win _ => Nat.le_refl _
  | .days _ _ => Nat.le_refl _
  | .lat p q => by have := p.h_lt; have := q.h_lt; simp only [Pl.h, Pl.leaves]; omega
  | .soo p q => by have := p.h_lt; have := q.h_lt; simp only [Pl.h, Pl.leaves]; omega
  | .nex p q => by have := p.h_lt; have := q.h_lt; simp only [Pl.h, Pl.leaves]; omega
theorem Pl.forms_eq : ∀ p : Pl, p.forms = 2 * p.leaves - 1
  | .win _ => rfl
  | .days _ _ => rfl
  | .lat p q => by have := p.forms_eq; have := q.forms_eq; simp only [Pl.forms, Pl.leaves]; omega
  | .soo p q => by have := p.forms_eq; have := q.forms_eq; simp only [Pl.forms, Pl.leaves]; omega
  | .nex p q => by have := p.forms_eq; have := q.forms_eq; simp only [Pl.forms, Pl.leaves]; omega
theorem Pl.ok_mono {L M : Nat} (d : L ∣ M) : ∀ p : Pl, p.ok L → p.ok M
  | .win _, h => h
  | .days _ _, h => ⟨h.1, h.2.1, Nat.dvd_trans h.2.2.1 d, h.2.2.2⟩
  | .lat p q, h => ⟨p.ok_mono d h.1, q.ok_mono d h.2⟩
  | .soo p q, h => ⟨p.ok_mono d h.1, q.ok_mono d h.2⟩
  | .nex p q, h => ⟨p.ok_mono d h.1, q.ok_mono d h.2⟩
theorem lcmI_dvd {a b : Int} {L : Nat} (h1 : a.natAbs ∣ L) (h2 : b.natAbs ∣ L) : (lcmI a b).natAbs ∣ L := by
  unfold lcmI
  rw [Int.natAbs_natCast]
  exact Nat.lcm_dvd h1 h2
theorem lcmI_pos {a b : Int} (h1 : 0 < a) (h2 : 0 < b) : 0 < lcmI a b := by
  unfold lcmI
  have := Nat.lcm_pos (m := a.natAbs) (n := b.natAbs) (by omega) (by omega)
  omega
theorem Pl.per_ok {L : Nat} : ∀ p : Pl, p.ok L → p.per.natAbs ∣ L ∧ 0 < p.per
  | .win _, _ => ⟨Nat.one_dvd _, (show (0 : Int) < 1 by decide)⟩
  | .days _ e, h => ⟨h.2.2.1, by have := h.1; simp only [Pl.per]; omega⟩
  | .lat p q, h => ⟨lcmI_dvd (p.per_ok h.1).1 (q.per_ok h.2).1, lcmI_pos (p.per_ok h.1).2 (q.per_ok h.2).2⟩
  | .soo p q, h => ⟨lcmI_dvd (p.per_ok h.1).1 (q.per_ok h.2).1, lcmI_pos (p.per_ok h.1).2 (q.per_ok h.2).2⟩
  | .nex p q, h => ⟨lcmI_dvd (p.per_ok h.1).1 (q.per_ok h.2).1, lcmI_pos (p.per_ok h.1).2 (q.per_ok h.2).2⟩
theorem Pl.per_le {L : Nat} (p : Pl) (h : p.ok L) (h0 : 0 < L) (h1 : L ≤ 2000) : 1 ≤ p.per ∧ p.per ≤ 2000 := by
  obtain ⟨d, q⟩ := p.per_ok h
  have := Nat.le_of_dvd h0 d
  omega
theorem Asc.all : ∀ {n : Int} {bs : List Int}, Asc n bs → ∀ b ∈ bs, n ≤ b ∧ b ≤ 1000
  | _, [], _, b, hb => by cases hb
  | n, c :: r, h, b, hb => by
    rcases List.mem_cons.mp hb with rfl | hb
    · exact ⟨h.1, h.2.1⟩
    · have := Asc.all h.2.2 b hb
      have := h.1
      omega
theorem lastOf_nil : lastOf [] = 0 := rfl
theorem lastOf_mem : ∀ {bs : List Int}, bs ≠ [] → lastOf bs ∈ bs
  | [], h => absurd rfl h
  | [b], _ => List.mem_singleton.mpr rfl
  | b :: c :: r, _ => by
    have := lastOf_mem (bs := c :: r) (by simp)
    exact List.mem_cons_of_mem _ this
theorem Asc.last {n : Int} : ∀ {bs : List Int}, Asc n bs → ∀ b ∈ bs, b ≤ lastOf bs
  | [], _, b, hb => by cases hb
  | [c], _, b, hb => by
    rw [List.mem_singleton] at hb
    rw [hb]
    exact Int.le_refl _
  | c :: d :: r, h, b, hb => by
    have ih := Asc.last (bs := d :: r) h.2.2
    show b ≤ lastOf (d :: r)
    rcases List.mem_cons.mp hb with rfl | hb
    · have := ih d (by simp)
      have := h.2.2.1
      omega
    · exact ih b hb
theorem Asc.last_bd {bs : List Int} (h : Asc 1 bs) : 0 ≤ lastOf bs ∧ lastOf bs ≤ 1000 := by
  by_cases e : bs = []
  · subst e
    exact ⟨Int.le_refl _, by decide⟩
  · have := h.all _ (lastOf_mem e)
    omega
/-- the greatest of 0 and the borders -/
theorem Asc.max {bs : List Int} (h : Asc 1 bs) {m : Int} (hm : m ∈ 0 :: bs) (hu : ∀ y ∈ 0 :: bs, y ≤ m) : m = lastOf bs := by
  have l0 := h.last_bd
  rcases List.mem_cons.mp hm with rfl | hm
  · by_cases e : bs = []
    · subst e; rfl
    · have := h.all _ (lastOf_mem e)
      have := hu _ (List.mem_cons_of_mem _ (lastOf_mem e))
      omega
  · have e : bs ≠ [] := fun z => by rw [z] at hm; cases hm
    have := h.last m hm
    have := hu _ (List.mem_cons_of_mem _ (lastOf_mem e))
    omega
theorem dayAt_some {bs : List Int} {e t b : Int} (h : bs.find? (fun b => decide (b > t)) = some b) : dayAt bs e t = b := by unfold dayAt; rw [h]
theorem dayAt_none {bs : List Int} {e t : Int} (h : bs.find? (fun b => decide (b > t)) = none) : dayAt bs e t = lastOf bs + ((t - lastOf bs) / e + 1) * e := by unfold dayAt; rw [h]
theorem find_none {bs : List Int} {t : Int} (h : bs.find? (fun b => decide (b > t)) = none) : ∀ b ∈ bs, b ≤ t := by
  intro b hb
  have := List.find?_eq_none.mp h b hb
  simp at this
  exact this
theorem last_le {bs : List Int} {t : Int} (h0 : 0 ≤ t) (h : ∀ b ∈ bs, b ≤ t) : lastOf bs ≤ t := by
  by_cases e : bs = []
  · subst e; exact h0
  · exact h _ (lastOf_mem e)
theorem div_step (x e : Int) (he : 0 < e) : x < (x / e + 1) * e ∧ (x / e) * e ≤ x := by
  have h1 := Int.emod_nonneg x (by omega : e ≠ 0)
  have h2 := Int.emod_lt_of_pos x he
  have h3 := Int.mul_ediv_add_emod x e
  have h4 : (x / e + 1) * e = e * (x / e) + e := by rw [Int.add_mul, Int.one_mul, Int.mul_comm]
  have h5 : (x / e) * e = e * (x / e) := Int.mul_comm _ _
  omega
theorem dayAt_gt {bs : List Int} {e t : Int} (he : 0 < e) : t < dayAt bs e t := by
  cases q : bs.find? (fun b => decide (b > t)) with
  | some b =>
    rw [dayAt_some q]
    have := List.find?_some q
    simpa using this
  | none =>
    rw [dayAt_none q]
    have := (div_step (t - lastOf bs) e he).1
    omega
theorem dayAt_le {bs : List Int} {e t : Int} (he : 0 < e) (h1 : e ≤ 2000) (ha : Asc 1 bs) (h0 : 0 ≤ t) : dayAt bs e t ≤ t + 2000 := by
  cases q : bs.find? (fun b => decide (b > t)) with
  | some b =>
    rw [dayAt_some q]
    have := ha.all _ (List.mem_of_find?_eq_some q)
    omega
  | none =>
    rw [dayAt_none q]
    have := (div_step (t - lastOf bs) e he).2
    have h4 : ((t - lastOf bs) / e + 1) * e = (t - lastOf bs) / e * e + e := by rw [Int.add_mul, Int.one_mul]
    omega
theorem find_first {t t' : Int} (htt : t ≤ t') : ∀ {n : Int} {bs : List Int} {b b' : Int}, Asc n bs → bs.find? (fun b => decide (b > t)) = some b → bs.find? (fun b => decide (b > t')) = some b' → b ≤ b'
  | _, [], _, _, _, h, _ => by cases h
  | n, c :: r, b, b', ha, h, h' => by
    rw [List.find?_cons] at h h'
    by_cases q : c > t
    · rw [decide_eq_true q] at h
      cases h
      by_cases q' : c > t'
      · rw [decide_eq_true q'] at h'
        cases h'
        exact Int.le_refl _
      · rw [decide_eq_false q'] at h'
        have := ha.2.2.all _ (List.mem_of_find?_eq_some h')
        omega
    · rw [decide_eq_false q] at h
      rw [decide_eq_false (show ¬ c > t' by omega)] at h'
      exact find_first htt ha.2.2 h h'
theorem dayAt_mono {bs : List Int} {e t t' : Int} (he : 0 < e) (ha : Asc 1 bs) (htt : t ≤ t') : dayAt bs e t ≤ dayAt bs e t' := by
  cases q : bs.find? (fun b => decide (b > t)) with
  | some b =>
    rw [dayAt_some q]
    cases q' : bs.find? (fun b => decide (b > t')) with
    | some b' =>
      rw [dayAt_some q']
      exact find_first htt ha q q'
    | none =>
      have h1 := ha.last _ (List.mem_of_find?_eq_some q)
      have h2 := find_none q' _ (List.mem_of_find?_eq_some q)
      have := dayAt_gt (bs := bs) (t := t') he
      omega
  | none =>
    rw [dayAt_none q]
    have q2 : bs.find? (fun b => decide (b > t')) = none := by
      rw [List.find?_eq_none]
      intro b hb
      have := find_none q b hb
      simp
      omega
    rw [dayAt_none q2]
    have hd : (t - lastOf bs) / e ≤ (t' - lastOf bs) / e := Int.ediv_le_ediv he (by omega)
    have := Int.mul_le_mul_of_nonneg_right (show (t - lastOf bs) / e + 1 ≤ (t' - lastOf bs) / e + 1 by omega) (Int.le_of_lt he)
    omega
theorem dayAt_per {bs : List Int} {e t m : Int} (he : 0 < e) (ha : Asc 1 bs) (hb : lastOf bs ≤ t) (hm : 0 ≤ m) (hd : e ∣ m) : dayAt bs e (t + m) = dayAt bs e t + m := by
  have no : ∀ {u : Int}, lastOf bs ≤ u → bs.find? (fun b => decide (b > u)) = none := fun {u} hu => by
    rw [List.find?_eq_none]
    intro b hb
    have := ha.last b hb
    simp
    omega
  rw [dayAt_none (no hb), dayAt_none (no (show lastOf bs ≤ t + m by omega))]
  obtain ⟨c, rfl⟩ := hd
  have e1 : t + e * c - lastOf bs = (t - lastOf bs) + e * c := by omega
  rw [e1, Int.add_mul_ediv_left _ _ (by omega : e ≠ 0)]
  have e2 : ((t - lastOf bs) / e + c + 1) * e = ((t - lastOf bs) / e + 1) * e + e * c := by
    rw [Int.add_mul, Int.add_mul, Int.add_mul, Int.mul_comm c e]
    omega
  rw [e2]
  omega
theorem Pl.at_gt {L : Nat} : ∀ (p : Pl), p.ok L → ∀ t, t < p.at t
  | .win w, h, t => by have := h.1; simp only [Pl.at]; omega
  | .days bs e, h, t => dayAt_gt (by have := h.1; omega)
  | .lat p q, h, t => by
    have := p.at_gt h.1 t
    have := q.at_gt h.2 t
    simp only [Pl.at]
    split <;> omega
  | .soo p q, h, t => by
    have := p.at_gt h.1 t
    have := q.at_gt h.2 t
    simp only [Pl.at]
    split <;> omega
  | .nex p q, h, t => Int.lt_trans (p.at_gt h.1 t) (q.at_gt h.2 _)
theorem Pl.at_le {L : Nat} : ∀ (p : Pl), p.ok L → ∀ t, 0 ≤ t → p.at t ≤ t + 2000 * p.leaves
  | .win w, h, t, _ => by have := h.2; simp only [Pl.at, Pl.leaves]; omega
  | .days bs e, h, t, h0 => by
    have := dayAt_le (bs := bs) (by have := h.1; omega) h.2.1 h.2.2.2.2 h0
    simp only [Pl.at, Pl.leaves]
    omega
  | .lat p q, h, t, h0 => by
    have := p.at_le h.1 t h0
    have := q.at_le h.2 t h0
    simp only [Pl.at, Pl.leaves]
    split <;> omega
  | .soo p q, h, t, h0 => by
    have := p.at_le h.1 t h0
    have := q.at_le h.2 t h0
    simp only [Pl.at, Pl.leaves]
    split <;> omega
  | .nex p q, h, t, h0 => by
    have h1 := p.at_gt h.1 t
    have := p.at_le h.1 t h0
    have := q.at_le h.2 (p.at t) (by omega)
    simp only [Pl.at, Pl.leaves]
    omega
theorem Pl.at_mono {L : Nat} : ∀ (p : Pl), p.ok L → ∀ t t', t ≤ t' → p.at t ≤ p.at t'
  | .win w, h, t, t', ht => by simp only [Pl.at]; omega
  | .days bs e, h, t, t', ht => dayAt_mono (by have := h.1; omega) h.2.2.2.2 ht
  | .lat p q, h, t, t', ht => by
    have := p.at_mono h.1 t t' ht
    have := q.at_mono h.2 t t' ht
    simp only [Pl.at]
    split <;> split <;> omega
  | .soo p q, h, t, t', ht => by
    have := p.at_mono h.1 t t' ht
    have := q.at_mono h.2 t t' ht
    simp only [Pl.at]
    split <;> split <;> omega
  | .nex p q, h, t, t', ht => q.at_mono h.2 _ _ (p.at_mono h.1 t t' ht)
theorem maxI_le {a b t : Int} (h : maxI a b ≤ t) : a ≤ t ∧ b ≤ t := by
  unfold maxI at h
  split at h <;> omega
theorem dvd_l {a b m : Int} (h : lcmI a b ∣ m) : a ∣ m ∧ b ∣ m := by
  have h1 : a ∣ lcmI a b := Int.natAbs_dvd_natAbs.mp (by unfold lcmI; rw [Int.natAbs_natCast]; exact Nat.dvd_lcm_left _ _)
  have h2 : b ∣ lcmI a b := Int.natAbs_dvd_natAbs.mp (by unfold lcmI; rw [Int.natAbs_natCast]; exact Nat.dvd_lcm_right _ _)
  exact ⟨Int.dvd_trans h1 h, Int.dvd_trans h2 h⟩
theorem Pl.at_per {L : Nat} : ∀ (p : Pl), p.ok L → ∀ t m, p.bend ≤ t → 0 ≤ m → p.per ∣ m → p.at (t + m) = p.at t + m
  | .win w, h, t, m, _, _, _ => by simp only [Pl.at]; omega
  | .days bs e, h, t, m, hb, hm, hd => dayAt_per (by have := h.1; omega) h.2.2.2.2 hb hm hd
  | .lat p q, h, t, m, hb, hm, hd => by
    obtain ⟨d1, d2⟩ := dvd_l hd
    obtain ⟨b1, b2⟩ := maxI_le hb
    have h1 := p.at_per h.1 t m b1 hm d1
    have h2 := q.at_per h.2 t m b2 hm d2
    simp only [Pl.at, h1, h2]
    split <;> split <;> omega
  | .soo p q, h, t, m, hb, hm, hd => by
    obtain ⟨d1, d2⟩ := dvd_l hd
    obtain ⟨b1, b2⟩ := maxI_le hb
    have h1 := p.at_per h.1 t m b1 hm d1
    have h2 := q.at_per h.2 t m b2 hm d2
    simp only [Pl.at, h1, h2]
    split <;> split <;> omega
  | .nex p q, h, t, m, hb, hm, hd => by
    obtain ⟨d1, d2⟩ := dvd_l hd
    obtain ⟨b1, b2⟩ := maxI_le hb
    have h1 := p.at_per h.1 t m b1 hm d1
    have := p.at_gt h.1 t
    have h2 := q.at_per h.2 (p.at t) m (by omega) hm d2
    simp only [Pl.at, h1, h2]
theorem Pl.bend_bd {L : Nat} : ∀ p : Pl, p.ok L → 0 ≤ p.bend ∧ p.bend ≤ 1000
  | .win _, _ => ⟨Int.le_refl _, (show (0 : Int) ≤ 1000 by decide)⟩
  | .days _ _, h => h.2.2.2.2.last_bd
  | .lat p q, h => by have := p.bend_bd h.1; have := q.bend_bd h.2; simp only [Pl.bend, maxI]; split <;> omega
  | .soo p q, h => by have := p.bend_bd h.1; have := q.bend_bd h.2; simp only [Pl.bend, maxI]; split <;> omega
  | .nex p q, h => by have := p.bend_bd h.1; have := q.bend_bd h.2; simp only [Pl.bend, maxI]; split <;> omega
end RM
namespace RM
theorem fmod_nat (X Y : Nat) : (X : Int).fmod (Y : Int) = ((X % Y : Nat) : Int) := by
  rw [Int.fmod_eq_emod_of_nonneg _ (Int.natCast_nonneg _)]
  rfl
theorem fdiv_nat (X Y : Nat) : (X : Int).fdiv (Y : Int) = ((X / Y : Nat) : Int) := by
  rw [Int.fdiv_eq_ediv_of_nonneg _ (Int.natCast_nonneg _)]
  rfl
theorem lcm_by (A B : Nat) : ((A : Int).fdiv ((Nat.gcd A B : Nat) : Int)) * (B : Int) = lcmI A B := by
  rw [fdiv_nat]
  unfold lcmI
  rw [Int.natAbs_natCast, Int.natAbs_natCast, ← Int.natCast_mul]
  congr 1
  rw [Nat.div_mul_right_comm (Nat.gcd_dvd_left A B)]
  rfl
theorem gcd_step (X Y : Nat) : Nat.gcd Y (X % Y) = Nat.gcd X Y := by
  rw [Nat.gcd_comm X Y, Nat.gcd_rec Y X, Nat.gcd_comm]
end RM
namespace RM
theorem Asc.snoc {e c : Int} : ∀ {n : Int} {bs : List Int}, Asc n bs → (∀ b ∈ bs, b ≤ e) → n ≤ c → e < c → c ≤ 1000 → Asc n (bs ++ [c])
  | n, [], _, _, h1, _, h3 => ⟨h1, h3, True.intro⟩
  | n, b :: r, h, hb, h1, h2, h3 => ⟨h.1, h.2.1, Asc.snoc h.2.2 (fun x hx => hb x (List.mem_cons_of_mem _ hx)) (by have := hb b (by simp); omega) h2 h3⟩
theorem lcmI_one (B : Nat) : lcmI B 1 = B := by
  unfold lcmI
  rw [Int.natAbs_natCast]
  show ((B.lcm 1 : Nat) : Int) = B
  rw [Nat.lcm_one_right]
theorem lcmI_self (B : Nat) : lcmI B B = B := by
  unfold lcmI
  rw [Int.natAbs_natCast, Nat.lcm_self]
end RM
namespace RM
/-- a plan is as good with its own period -/
theorem Pl.ok_per {L : Nat} : ∀ p : Pl, p.ok L → p.ok p.per.natAbs
  | .win _, h => h
  | .days _ e, h => ⟨h.1, h.2.1, Nat.dvd_refl _, h.2.2.2⟩
  | .lat p q, h => ⟨Pl.ok_mono (by simp only [Pl.per, lcmI, Int.natAbs_natCast]; exact Nat.dvd_lcm_left _ _) p (p.ok_per h.1), Pl.ok_mono (by simp only [Pl.per, lcmI, Int.natAbs_natCast]; exact Nat.dvd_lcm_right _ _) q (q.ok_per h.2)⟩
  | .soo p q, h => ⟨Pl.ok_mono (by simp only [Pl.per, lcmI, Int.natAbs_natCast]; exact Nat.dvd_lcm_left _ _) p (p.ok_per h.1), Pl.ok_mono (by simp only [Pl.per, lcmI, Int.natAbs_natCast]; exact Nat.dvd_lcm_right _ _) q (q.ok_per h.2)⟩
  | .nex p q, h => ⟨Pl.ok_mono (by simp only [Pl.per, lcmI, Int.natAbs_natCast]; exact Nat.dvd_lcm_left _ _) p (p.ok_per h.1), Pl.ok_mono (by simp only [Pl.per, lcmI, Int.natAbs_natCast]; exact Nat.dvd_lcm_right _ _) q (q.ok_per h.2)⟩
theorem lcmI_comm (a b : Int) : lcmI a b = lcmI b a := by
  unfold lcmI
  rw [Nat.lcm_comm]
end RM

namespace LC
open PySem L2
section
variable {X : Cx} {st : Stmt} {ss : List Stmt}
/-- a statement that is never come to -/
theorem ps_never : PS X st (fun _ _ _ => False) := ⟨fun _ _ _ _ _ _ h => h.elim⟩
theorem pss_never : PSs X ss (fun _ _ _ => False) := ⟨fun _ _ _ _ _ _ h => h.elim⟩
def rLcm : List V → Hp → VK → Prop := fun vs H Q => ∃ a b : Int, vs = [.int a, .int b] ∧ a.natAbs < 2 ^ 64 ∧ b.natAbs < 2 ^ 64 ∧ Q (.int (RM.lcmI a b)) H
theorem cr_lcm : CallR X (.builtin "math.lcm") rLcm := by
  intro pins s σ H vs us Q I r h
  obtain ⟨a, b, rfl, h1, h2, q⟩ := h
  obtain ⟨t, u, rfl⟩ := Vals.int2 r
  exact PySem.W.mc_lcm h1 h2 fun _ => ⟨.int _, H, I.tok _, ⟨_, rfl⟩, q⟩
end
theorem fn_none {P : Program} {w : World} {K : PySem.W.Frag} {mg : Str → Option Value} {base : Heap} {CX : CXT} {k : Nat} {f : Addr} {fd : FuncData} {ps : List Str} {sp : Sp} (h : ∀ vs H Q E, ¬ sp vs H Q E) : FnOk P w K mg base CX k f fd ps sp :=
  ⟨fun vs H Q E q => (h _ _ _ _ q).elim, fun A outer s H args us vs Q E hr e0 hb r q => (h _ _ _ _ q).elim⟩
theorem raw0 {P : Program} {w : World} {K : PySem.W.Frag} {mg : Str → Option Value} {base : Heap} {CX : CXT} {k : Nat} {f : Addr} {fd : FuncData} {ps : List Str} {sp : Sp} (F : FnOk P w K mg base CX k f fd ps sp) (hb : Binds K fd ps []) : FnR P w K mg base CX k f sp :=
  (F.raw hb .nil).imp fun vs H Q E h => by
    rw [List.append_nil]
    exact h
theorem kLT_int {K : PySem.W.Frag} : PySem.W.kitAny K (.type "int") [.type "list", .type "tuple"] = some false := kitAny_cons (kit_ty (show kitB "int" "list" = some false by decide +kernel)) (fun _ => kitAny_cons (kit_ty (show kitB "int" "tuple" = some false by decide +kernel)) (fun _ => kitAny_nil) fun z => by cases z) (fun z => by cases z)
theorem kLT_lst {K : PySem.W.Frag} : PySem.W.kitAny K (.type "list") [.type "list", .type "tuple"] = some true := kitAny_cons (kit_ty (show kitB "list" "list" = some true by decide +kernel)) (fun z => by cases z) (fun _ => rfl)
end LC

namespace LX
open PySem L2 PySem.Spec PyProof.Rows
/-- what the written part says of an own error class with its own __init__ -/
structure ErrC (K : PySem.W.Frag) (mg : Str → Option Value) (nm : Str) (fs : List Str) (C fI : Addr) : Prop where
  ox : OexC K C
  iC : PySem.W.findIn K (.ref C) "__init__" = some (some (.ref fI))
  tI : PySem.W.typeIn K (.ref fI) = some (.type "function")
  gC : mg nm = some (.ref C)
  xf : XfC K C
  te : PySem.W.exmOne K (.ref C) (.ref C) = some true
  no : ∀ f ∈ fs, PySem.W.findIn K (.ref C) f = some none
theorem no_cons {K : PySem.W.Frag} {C : Addr} {f : Str} {fs : List Str} (h : PySem.W.findIn K (.ref C) f = some none) (r : ∀ f ∈ fs, PySem.W.findIn K (.ref C) f = some none) : ∀ g ∈ f :: fs, PySem.W.findIn K (.ref C) g = some none := fun g hg => by
  rcases List.mem_cons.mp hg with rfl | hg
  · exact h
  · exact r g hg
theorem no_nil {K : PySem.W.Frag} {C : Addr} : ∀ g ∈ ([] : List Str), PySem.W.findIn K (.ref C) g = some none := fun g hg => by cases hg
/-- an error of its class is what a clause of the class takes -/
theorem exm_self {K : PySem.W.Frag} {S T : Addr} {b : Bool} (h1 : PySem.W.subIn K (.ref T) (.type "BaseException") = some true) (h2 : PySem.W.isClsIn K T = true) (h3 : PySem.W.typeIn K (.ref T) = some (.type "type")) (h4 : PySem.W.subIn K (.ref S) (.ref T) = some b) :
    PySem.W.exmOne K (.ref S) (.ref T) = some b := by
  have h2' : (PySem.W.clsIn K T).isSome = true := h2
  unfold PySem.W.exmOne
  rw [h1, if_pos (by rfl)]
  show (if ((PySem.W.clsIn K T).isSome && PySem.W.typeIn K (.ref T) == some (.type "type")) = true then PySem.W.subIn K (.ref S) (.ref T) else none) = some b
  rw [h2', h3, if_pos (by rfl)]
  exact h4
/-- the way out of an error with the fields fs, made in H -/
def ErrOut (H : Hp) (E : XK) (C : Addr) (fs : List (Str × V)) : Prop := ∀ (d : Addr) (H' : Hp), L2.Same H H' → H d = none → H' d = some (.xd fs) → E (.ref C) (some d) H'
/-- the promise of an __init__ that stores fs of the arguments -/
def spErr (C : Addr) (n : Nat) (fs : List V → List (Str × V)) : Sp := fun vs H Q _ => ∃ (a : Addr) (ws : List V), vs = .ref a :: ws ∧ ws.length = n ∧ H a = some (exo a C none) ∧ ∀ (d : Addr) (H' : Hp), H d = none → H' a = some (exo a C (some d)) → H' d = some (exd d (fs ws)) → (∀ b o, b ≠ a → H b = some o → H' b = some o) → Q .non H'
/-- raise C(..): the way out follows from the class's promise -/
theorem err_out {H : Hp} {E : XK} {C : Addr} {n : Nat} {fs : List V → List (Str × V)} {ws : List V} (hn : ws.length = n) (h : ErrOut H E C (fs ws)) : ∀ a, H a = none → spErr C n fs (.ref a :: (ws ++ [])) (upd H a (exo a C none))
    (fun v H2 => v = .non ∧ ∃ (d : Addr) (gs : List (Str × V)), H2 a = some (exo a C (some d)) ∧ H2 d = some (exd d gs) ∧ H d = none ∧ E (.ref C) (some d) (upd (del H2 a) d (.xd gs))) (fun _ _ _ => False) := fun a ha => by
  rw [List.append_nil]
  refine ⟨a, ws, rfl, hn, upd_same, fun d H' hd h1 h2 k => ?_⟩
  have da : d ≠ a := fun z => by
    rw [z, upd_same] at hd
    cases hd
  rw [upd_ne da] at hd
  refine ⟨rfl, d, _, h1, h2, hd, h d _ (fun b o e => ?_) hd upd_same⟩
  have nb : b ≠ a := ne_of_none e ha
  rw [upd_ne (ne_of_none e hd), del_ne nb]
  exact k b o nb (by rw [upd_ne nb]; exact e)
/-- several clauses, each with a name -/
def wAsM (K : PySem.W.Frag) (Wout : WX) (D : Ends) : List (Value × Nat × (Addr → Value → Option Addr → TS)) → WX
  | [] => Wout
  | (c, i, ts) :: r => fun cls d σ H => ∃ b, PySem.W.exmOne K cls c = some b ∧
      (b = true → ∀ a, H a = none → ts a cls d { nx := fun σ' H' => D.nx (σ'.set i none) H', rt := D.rt, bk := fun σ' H' => D.bk (σ'.set i none) H', ct := fun σ' H' => D.ct (σ'.set i none) H' } (σ.set i (some (.ref a))) H) ∧
      (b = false → wAsM K Wout D r cls d σ H)
inductive AsOk (X : Cx) : List ExceptHandler → List (Value × Nat × (Addr → Value → Option Addr → TS)) → Prop
  | nil : AsOk X [] []
  | cons {x n : Str} {c : Value} {i : Nat} {ts : Addr → Value → Option Addr → TS} {b₀ : Stmt} {suite : List Stmt} {np pos' : Pos} {hds : List ExceptHandler} {l : List (Value × Nat × (Addr → Value → Option Addr → TS))}
      (hi : X.N[i]? = some n) (hln : X.env.kindOf n = some .local) (hc : Names X x c)
      (hsu : ∀ (a : Addr) (oe : Obj) (cls : Value) (d : Option Addr) (pn : List (Addr × Obj)), Zc cls d oe → (∃ vs, oe.data = .fields vs) → PSs (X.suite a ((a, oe) :: pn)) (b₀ :: suite) (ts a cls d)) (r : AsOk X hds l) :
      AsOk X (.ExceptHandler (some (.Name x np)) (some n) (b₀ :: suite) pos' :: hds) ((c, i, ts) :: l)
section
variable {X : Cx} {body : List Stmt} {h₀ : ExceptHandler} {hds : List ExceptHandler} {l : List (Value × Nat × (Addr → Value → Option Addr → TS))} {pos : Pos} {tb : WX → TS} {Wout : WX}
/-- what every clause finds: the error at a stands on the ground -/
structure Caught (X : Cx) (a : Addr) (B : Heap) (pins : List (Addr × Obj)) (σ : L2.St) (H : Hp) (cls : Value) (d : Option Addr) (sI s : Shared) : Prop where
  J : L2.Inv X pins σ H sI
  nb : ∀ b o, sI.heap.get? b = some o → b ∉ frs X.stack → B.get? b = some o
  up : sI.heap.UpToSlots s.heap
  fl : HandSPX.FlyingZ B (X.env :: X.outer) a (Zc cls d) s.heap
  na : H a = none
  os : s.os = sI.os
  ag : AllBare s.gens
  nL : a ≠ X.env.locals
  nF : a ∉ X.fs
theorem clauses {a : Addr} {B : Heap} {pins : List (Addr × Obj)} {σ : L2.St} {H : Hp} {cls : Value} {d : Option Addr} {sI s : Shared} {D : Ends} (hs : X.stack = X.env :: X.outer) (hf : X.env.frame = some X.env.locals) (hN : X.N.Nodup) (tk : Takes X Wout) (ok : X.Ok)
    (T : Caught X a B pins σ H cls d sI s) : ∀ {hds : List ExceptHandler} {l : List (Value × Nat × (Addr → Value → Option Addr → TS))}, AsOk X hds l → wAsM X.K Wout D l cls d σ H →
    wpAny (model X.prog X.w) X.A (handleBy (.ref a) X.env hds) (SP X pins D) X.xe s := by
  obtain ⟨J, nb, up, fl, na, os, ag, nL, nF⟩ := T
  obtain ⟨hp, g, dr, tok, oss⟩ := s
  intro hds l hk
  induction hk with
  | nil =>
    intro w
    refine wpAny_handleBy_nil ?_
    obtain ⟨k1, k2, k3, oe, vs, T, oT, ts', he, hz, hd, h1, hr⟩ := id fl
    unfold PySem.passOn
    refine wpAny_bind (wpAny_field he hd h1 ?_)
    rw [if_neg (show ¬ ((Value.ref T == Value.none) = true) from by simp)]
    have fin : wpAny (model X.prog X.w) X.A (setFlight (.ref a) X.env.frame) (fun _ s4 => wpAny (model X.prog X.w) X.A (throw (.ref a) : Sem Flow) (SP X pins D) X.xe s4) X.xe ⟨hp, g, dr, tok, oss⟩ := by
      rw [hf]
      refine HandSPX.setFlight_upZ fl fun h4 hh4 up4 => wpAny_throw (tk _ _ ?_)
      exact ⟨a, B, sI, pins, σ, H, cls, d, rfl, J, nb, up.trans up4, .inr (.inr (by rw [hs]; exact hh4)), na, os, ag, w⟩
    first
      | exact wpAny_bind (wpAny_pure (wpAny_bind fin))
      | exact wpAny_bind fin
  | @cons x n c i ts b₀ suite np pos' hds2 l2 hi hln hc hsu r ih =>
    intro w
    obtain ⟨b, hb1, hyes, hno⟩ := w
    have J3 : L2.Inv X pins σ H ⟨hp, g, dr, tok, oss⟩ := J.landed nb fl.1 up os ag
    obtain ⟨oe3, vs3, he3, hz3, hd3⟩ := fl.there
    have S3 := J3.suite he3 hd3 na nL nF
    refine wpAny_handleBy_cons (codeAny_handlers_test ?_) (by intro q; cases q)
    have LT : PySem.W.Looks (model X.prog X.w) hp (typeOf (.ref a)) cls := fun A Q E s k q => wpAny_typeOf_ref (k _ _ he3) (by rw [hz3.1]; exact q)
    have LM := PySem.W.exm_one (M := model X.prog X.w) (J3.kIn) LT hb1
    have test : ∀ {Q : Value → Shared → Prop} {E : Value → Shared → Prop}, Q c ⟨hp, g, dr, tok, oss⟩ → wpAny (model X.prog X.w) (X.A.mark (some (.ref a))) (eval (.Name x np) X.env) Q E ⟨hp, g, dr, tok, oss⟩ := fun {Q E} q => by
      obtain ⟨hg, hdbg, hm | ⟨hm, hv, hnn⟩⟩ := hc
      · exact ld_glob (X := X.suite a ((a, oe3) :: (X.pn ++ pins))) S3 hg hm q hdbg
      · exact ld_blt (X := X.suite a ((a, oe3) :: (X.pn ++ pins))) S3 hg hm hv q hnn hdbg
    refine test (LM.here ?_)
    cases b with
    | true =>
      refine codeAny_handlers_suite_as ?_
      refine HandSPX.lands_againZ fl fun h4 fl4 up4 => ?_
      have J4 : L2.Inv X pins σ H ⟨h4, g, dr, tok, oss⟩ := J.landed nb fl4.1 (up.trans up4) os ag
      obtain ⟨oe4, vs4, he4, hz4, hd4⟩ := fl4.there
      have S4 := J4.suite he4 hd4 na nL nF
      refine store_ok (X := X.suite a ((a, oe4) :: (X.pn ++ pins))) (v := .ref a) S4 hN hi (.inl hln) rfl (fun s5 S5 => ?_) (.inr hln)
      refine wpAny_mono ((hsu a oe4 cls d (X.pn ++ pins) hz4 ⟨_, hd4⟩).run [] s5 _ H _ S5 (hyes rfl a na)) (fun f s6 hsp => ?_) (fun _ _ z => False.elim z)
      have out : ∀ {σ6 : L2.St} {H6 : Hp} {Q : Shared → Prop}, L2.Inv (X.suite a ((a, oe4) :: (X.pn ++ pins))) [] σ6 H6 s6 → (∀ s7, L2.Inv X pins (σ6.set i none) H6 s7 → Q s7) →
          wpAny (model X.prog X.w) X.A (do bindName X.env n .none; unbindBehindTheSuite X.env n pos') (fun _ s7 => Q s7) X.xe s6 := fun {σ6 H6 Q} S6 hq => gone_ok (S6.unsuite ok) hN hi hln hq
      cases f with
      | next =>
        obtain ⟨σ6, H6, S6, q6⟩ := hsp
        exact out S6 fun s7 J7 => ⟨_, _, J7, q6⟩
      | brk =>
        obtain ⟨σ6, H6, S6, q6⟩ := hsp
        exact out S6 fun s7 J7 => ⟨_, _, J7, q6⟩
      | cont =>
        obtain ⟨σ6, H6, S6, q6⟩ := hsp
        exact out S6 fun s7 J7 => ⟨_, _, J7, q6⟩
      | ret u =>
        obtain ⟨v6, σ6, H6, S6, r6, q6⟩ := hsp
        exact out S6 fun s7 J7 => ⟨_, _, _, J7, r6, q6⟩
    | false =>
      show wpAny _ X.A (handleBy (.ref a) X.env hds2) _ _ _
      exact ih (hno rfl)
/-- try: .. except x1 as n1: .. except x2 as n2: .. -/
theorem ps_try_asM (hs : X.stack = X.env :: X.outer) (hf : X.env.frame = some X.env.locals) (hN : X.N.Nodup) (tk : Takes X Wout)
    (hb : ∀ (W : WX) (pn : List (Addr × Obj)) (xe : Value → Shared → Prop), Takes (X.tr pn xe) W → PassesOwn (model X.prog X.w) X.A X.env xe → PSs (X.tr pn xe) body (tb W))
    (hh : AsOk X (h₀ :: hds) l) : PS X (.Try body (h₀ :: hds) [] [] pos) (fun D σ H => tb (wAsM X.K Wout D l) D σ H) := by
  refine ⟨fun pins s σ H D I h => ?_⟩
  have ok := I.ok
  have hfr : X.A.frames = some (X.env :: X.outer) := by rw [ok.frames, hs]
  refine wpAny_Try_except ?_
  refine wpAny_mono ((hb (wAsM X.K Wout D l) (X.pn ++ pins) (fun e s₁ => wpAny (model X.prog X.w) X.A (noteFrame e X.env) (fun _ s₂ => wpAny (model X.prog X.w) X.A (setFlight e none) (fun _ s₃ =>
    wpAny (model X.prog X.w) X.A (handleBy e X.env (h₀ :: hds)) (SP X pins D) X.xe s₃) X.xe s₂) X.xe s₁) (fun u s' xx => ?_) PassesOwn.looking).run [] s σ H D (I.toTry _) h) (fun f s1 hsp => ?_) (fun e s1 he => he)
  · obtain ⟨a, B, sI, pins', σ', H', cls, d, rfl, J', nb, up, sky, na, os, ag, w⟩ := xx
    have J : L2.Inv X pins σ' H' sI := J'.ofTry ok
    have sky' : Sky B (X.env :: X.outer) a (Zc cls d) X.env.locals s'.heap := by rw [← hs]; exact sky
    show wpAny (model X.prog X.w) X.A (noteFrame (.ref a) X.env) _ _ _
    refine Sky.land Zc.steady hfr hf sky' fun h3 fl3 up3 => ?_
    have nfr : a ∉ frs (X.env :: X.outer) := fun hm => by
      obtain ⟨oe3, vs3, he3, hz3, hd3⟩ := fl3.there
      obtain ⟨_, o', e', hnf⟩ := fl3.2.2.1.mem hm
      rw [he3] at e'
      cases e'
      exact hnf _ hd3
    have nL : a ≠ X.env.locals := fun z => nfr (List.mem_filterMap.mpr ⟨X.env, List.mem_cons_self, by rw [hf, z]⟩)
    have nF : a ∉ X.fs := fun hm => by
      obtain ⟨e, he, q⟩ := List.mem_filterMap.mp hm
      exact nfr (List.mem_filterMap.mpr ⟨e, List.mem_cons_of_mem _ he, q⟩)
    exact clauses (s := { s' with heap := h3 }) hs hf hN tk ok ⟨J, nb, up.trans up3, fl3, na, os, ag, nL, nF⟩ hh w
  · cases f with
    | next =>
      obtain ⟨σ', H', J', q⟩ := hsp
      exact wpAny_execs_nil ⟨σ', H', J'.ofTry ok, q⟩
    | brk =>
      obtain ⟨σ', H', J', q⟩ := hsp
      exact ⟨σ', H', J'.ofTry ok, q⟩
    | cont =>
      obtain ⟨σ', H', J', q⟩ := hsp
      exact ⟨σ', H', J'.ofTry ok, q⟩
    | ret u =>
      obtain ⟨v, σ', H', J', r, q⟩ := hsp
      exact ⟨v, σ', H', J'.ofTry ok, r, q⟩
end
/-! ### calls by keyword alone, within a try -/
section
variable {X : Cx} {CX : CXT} {k : Nat} {f : Addr} {fd : FuncData} {ps ks : List Str} {sp : Sp} {E : L2.St → XK} {x : Str} {p pos : Pos} {kws : List Keyword} {tk : TA} {g : List Value → List Value → List Value} {gV : List V → List V → List V}
def tCallKS (sp : Sp) (gV : List V → List V → List V) (E : L2.St → XK) (t tk : TA) : TE := fun σ H Q => t σ H fun vs H1 => tk σ H1 fun zs H2 => sp (gV vs zs) H2 Q (E σ)
theorem run_kS {pins : List (Addr × Obj)} {σ : L2.St} {H : Hp} {s : Shared} {Q : VK} {us ws : List Value} {vs zs : List V} (F : FnOk X.prog X.w X.K X.mg X.base CX k f fd ps sp) (hr : Room k X.A) (hb : KBinds X.K fd ps ks g gV) (hx : PassesAt CX X σ (E σ))
    (I : L2.Inv X pins σ H s) (r : Vals vs us) (rz : Vals zs ws) (h : sp (gV vs zs) H Q (E σ)) : wpAny (model X.prog X.w) X.A (call (.ref f) us (ks.zip ws)) (EP X pins σ Q) X.xe s := by
  have r2 := hb.rel r rz
  have hl : (g us ws).length = ps.length := by
    have e := F.len _ _ _ _ h
    rw [r2.length] at e
    exact e
  refine wpAny_call (codeAny_mono (F.run X.A X.stack s H _ (g us ws) (gV vs zs) Q (E σ) hr I.env0 (hb.to s us ws I.kIn hl) r2 h) fun r s' hq => ?_)
  match r, hq with
  | .error e, hq => exact hx pins H s e s' I hq
  | .ok (.ret u), hq => exact I.after hq
theorem pe_callK0S (F : FnOk X.prog X.w X.K X.mg X.base CX k f fd ps sp) (hr : Room k X.A) (hg : Gl X x) (hm : X.mg x = some (.ref f)) (hk : PySem.W.keepIn X.K (.ref f) = true) (hb : KBinds X.K fd ps ks g gV) (hx : ∀ σ, PassesAt CX X σ (E σ))
    (hkw : PK X kws tk) (hall : (backToKw pos (keywordEach kws X.env)).all (·.1.isSome) = true := by rfl) (hks : (backToKw pos (keywordEach kws X.env)).filterMap (·.1) = ks := by rfl)
    (hdb : (x == ("__debug__" : Str)) = false := by decide) (hpl : ((backTo pos (starEach [] X.env)).any (·.1) || (backToKw pos (keywordEach kws X.env)).any (·.1.isNone)) = false := by rfl) :
    PE X (.Call (.Name x p) [] kws pos) (tCallKS sp gV E tNil tk) := by
  refine ⟨fun pins s σ H Q I h => ?_⟩
  refine wpAny_Call_Name_kw (ld_glob I hg hm ?_ hdb)
  refine PySem.W.callWith_KW0 (h₀ := X.base) I.ok.mod.kin hk hall ?_ hpl
  refine thn (hkw.run pos pins s σ H _ I h) fun ws s2 ⟨zs, H2, I2, rz, q2⟩ => ⟨I2.kIn, ?_⟩
  rw [hks]
  exact run_kS (us := []) F hr hb (hx σ) I2 .nil rz q2
end
end LX

namespace LC
open PySem L2
section
variable {K : PySem.W.Frag} {a b : Addr} {xs ys : List V}
theorem walk_zipT {n : Nat} (hn : n = min xs.length ys.length) : Walk (RZ.ItzT K a b) n (fun H => SqT K H a xs ∧ SqT K H b ys) (YPair (fun i => xs[i]?) (fun i => ys[i]?)) := by
  have la : ∀ {i}, i < n → i < xs.length ∧ i < ys.length := fun h => by omega
  refine ⟨fun i _ hi q => ⟨xs, ys, xs[i]'(la hi).1, ys[i]'(la hi).2, q.1, q.2, List.getElem?_eq_getElem _, List.getElem?_eq_getElem _⟩, fun _ q => ⟨xs, ys, q.1, q.2, by omega⟩, fun i H v H' _ q y => ?_⟩
  obtain ⟨T, x, z, rest⟩ := y
  exact ⟨T, x, z, rest.1, rest.2.1, rest.2.2.1, rest.2.2.2.1 xs q.1, rest.2.2.2.2 ys q.2⟩
end
theorem kLT_non {K : PySem.W.Frag} : PySem.W.kitAny K (.type "NoneType") [.type "list", .type "tuple"] = some false := kitAny_cons (kit_ty (show kitB "NoneType" "list" = some false by decide +kernel)) (fun _ => kitAny_cons (kit_ty (show kitB "NoneType" "tuple" = some false by decide +kernel)) (fun _ => kitAny_nil) fun z => by cases z) (fun z => by cases z)
theorem kLT_str {K : PySem.W.Frag} : PySem.W.kitAny K (.type "str") [.type "list", .type "tuple"] = some false := kitAny_cons (kit_ty (show kitB "str" "list" = some false by decide +kernel)) (fun _ => kitAny_cons (kit_ty (show kitB "str" "tuple" = some false by decide +kernel)) (fun _ => kitAny_nil) fun z => by cases z) (fun z => by cases z)
theorem kLT_bool {K : PySem.W.Frag} : PySem.W.kitAny K (.type "bool") [.type "list", .type "tuple"] = some false := kitAny_cons (kit_ty (show kitB "bool" "list" = some false by decide +kernel)) (fun _ => kitAny_cons (kit_ty (show kitB "bool" "tuple" = some false by decide +kernel)) (fun _ => kitAny_nil) fun z => by cases z) (fun z => by cases z)
theorem kLT_tup {K : PySem.W.Frag} : PySem.W.kitAny K (.type "tuple") [.type "list", .type "tuple"] = some true := kitAny_cons (kit_ty (show kitB "tuple" "list" = some false by decide +kernel)) (fun _ => kitAny_cons (kit_ty (show kitB "tuple" "tuple" = some true by decide +kernel)) (fun z => by cases z) fun _ => rfl) (fun z => by cases z)
theorem sameT {K : PySem.W.Frag} {H H' : Hp} {a : Addr} {xs : List V} (e : L2.Same H H') (h : SqT K H a xs) : SqT K H' a xs := by
  rcases h with (h | ⟨o, h⟩) | h
  · exact .inl (.inl (e _ _ h))
  · exact .inl (.inr ⟨o, e _ _ h⟩)
  · exact .inr h
/-- both ways of a test go on alike -/
theorem ite_dc {p : Prop} [Decidable p] {A B C : Prop} (h : C) (h1 : p → C → A) (h2 : ¬ p → C → B) : if decide p = true then A else B := by
  by_cases q : p
  · rw [decide_eq_true q]
    exact L2.iteT (h1 q h)
  · rw [decide_eq_false q]
    exact L2.iteF (h2 q h)
theorem cut_lastV (xs : List V) (x : V) : cutV (xs ++ [x]) none (some (-1)) = xs := by
  have e : HT.sIx (xs ++ [x]).length (xs ++ [x]).length (some (-1)) = xs.length := by
    show (if (-1 : Int) < 0 then ((-1 : Int) + (((xs ++ [x]).length : Nat) : Int)).toNat else min (-1 : Int).toNat (xs ++ [x]).length) = xs.length
    rw [if_pos (by decide), List.length_append]
    show ((-1 : Int) + ((xs.length + 1 : Nat) : Int)).toNat = _
    omega
  unfold cutV
  rw [e, HT.sIx_none, Nat.sub_zero, List.drop_zero]
  exact List.take_left' rfl
/-- equal data, told and due -/
def Sc : V → Prop
  | .int _ => True
  | .non => True
  | .bl _ => True
  | .str _ => True
  | _ => False
def mkO (b : Bool) (xs : List V) : HO := if b = true then .lst xs else .tup xs
def Lk (H : Hp) : Nat → V → V → Prop
  | 0, x, y => x = y ∧ Sc x
  | n + 1, x, y => (x = y ∧ Sc x) ∨ ∃ (b : Bool) (p q : Addr) (xs ys : List V), x = .ref p ∧ y = .ref q ∧ H p = some (mkO b xs) ∧ H q = some (mkO b ys) ∧ xs.length = ys.length ∧ xs.length ≤ 1000000 ∧ ∀ (i : Nat) (u v : V), xs[i]? = some u → ys[i]? = some v → Lk H n u v
theorem Lk.same {H H' : Hp} (s : L2.Same H H') : ∀ {n : Nat} {x y : V}, Lk H n x y → Lk H' n x y
  | 0, _, _, h => h
  | n + 1, _, _, .inl h => .inl h
  | n + 1, _, _, .inr ⟨b, p, q, xs, ys, e1, e2, h1, h2, h3, h4, h5⟩ => .inr ⟨b, p, q, xs, ys, e1, e2, s _ _ h1, s _ _ h2, h3, h4, fun i u v a c => (h5 i u v a c).same s⟩
theorem Lk.sc {H : Hp} {x : V} (h : Sc x) : ∀ n, Lk H n x x
  | 0 => ⟨rfl, h⟩
  | _ + 1 => .inl ⟨rfl, h⟩
theorem Lk.cases {H : Hp} {m : Nat} {u v : V} (h : Lk H m u v) : (u = v ∧ Sc u) ∨ ∃ j, m = j + 1 ∧ ∃ (b : Bool) (p q : Addr) (xs ys : List V), u = .ref p ∧ v = .ref q ∧ H p = some (mkO b xs) ∧ H q = some (mkO b ys) ∧ xs.length = ys.length ∧ xs.length ≤ 1000000 ∧ ∀ (i : Nat) (s t : V), xs[i]? = some s → ys[i]? = some t → Lk H j s t := by
  cases m with
  | zero => exact .inl h
  | succ j =>
    rcases h with h | h
    · exact .inl h
    · exact .inr ⟨j, rfl, h⟩
end LC

namespace LT
open PySem L2 PySem.Spec PyProof.Rows
/-- a text times an int -/
def rMulS : R2 := fun x y H Q => ∃ (z : Str) (k : Int), x = .str z ∧ y = .int k ∧ PySem.MulOk z k ∧ Q (.str (Txt.mul z k)) H
theorem op_mulS {X : Cx} : OpR X (binaryOp .Mult) rMulS := by
  intro pins s σ H x y v u Q I rx ry h
  obtain ⟨z, k, rfl, rfl, ok, q⟩ := h
  obtain ⟨t, rfl⟩ := rx
  obtain ⟨t', rfl⟩ := ry
  exact PySem.SB.mul ok (fun t' tk => ⟨.str (Txt.mul z k), H, I.tok _, ⟨_, rfl⟩, q⟩)
/-- o.m(k = v, ..), m a method of the class C -/
def tMethK (C : Addr) (m : Str) (n : Nat) (sp : Sp) (gV : List V → List V → List V) (E : XK) (ta : TE) (tk : TA) : TE := fun σ H Q => ta σ H fun x H1 => ∃ (a dx : Addr) (fs : List (Str × V)), x = V.ref a ∧ H1 a = some (.ins C dx fs) ∧ fs.lookup m = none ∧ tk σ H1 fun zs H2 => zs.length = n ∧ sp (gV [V.ref a] zs) H2 Q E
theorem pe_methKw {X : Cx} {CX : CXT} {k : Nat} {f C : Addr} {m : Str} {fd : FuncData} {ps ks : List Str} {sp : Sp} {E : XK} {apos pos : Pos} {o : Expr} {kws : List Keyword} {ta : TE} {tk : TA} {g : List Value → List Value → List Value} {gV : List V → List V → List V} {pl : Sem Bool}
    (he : PE X o ta) (c : Cls X.K C) (hm : Meth X.K C m f) (F : FnOk X.prog X.w X.K X.mg X.base CX k f fd ps sp) (hr : Room k X.A) (hb : KBn X.K fd ps 1 ks g gV) (hx : Passes CX X E) (hkw : PK X kws tk)
    (hall : (backToKw pos (keywordEach kws X.env)).all (·.1.isSome) = true := by rfl) (hks : (backToKw pos (keywordEach kws X.env)).filterMap (·.1) = ks := by rfl)
    (hpl : ((backTo pos (starEach [] X.env)).any (·.1) || (backToKw pos (keywordEach kws X.env)).any (·.1.isNone)) = false := by rfl)
    (ht : eval (.Call (.Attribute o m apos) [] kws pos) X.env = (do
      let ov ← eval o X.env
      standAt apos.atName
      let (f, first) ← holding [ov] (getMethod ov m pl)
      callWith pos f first (backTo pos (starEach [] X.env)) (backToKw pos (keywordEach kws X.env))) := by rfl) :
    PE X (.Call (.Attribute o m apos) [] kws pos) (tMethK C m ks.length sp gV E ta tk) := by
  refine ⟨fun pins s σ H Q I h => ?_⟩
  refine PySem.W.methodCall_KW (pl := pl) (thn (he.run pins s σ H _ I h) fun u s1 ⟨x, H1, I1, rx, a, dx, fs, ex, ea, l, q⟩ => ?_) ht
  subst ex
  obtain rfl : u = Value.ref a := rx
  refine getmeth_ok I1 ea c hm l ?_
  refine PySem.W.callWith_KW0 (first := [.ref a]) (h₀ := X.base) I1.ok.mod.kin hm.kp hall ?_ hpl
  refine thn (hkw.run pos pins s1 σ H1 _ I1 q) fun ws s2 ⟨zs, H2, I2, rz, l2, q2⟩ => ⟨I2.kIn, ?_⟩
  rw [hks]
  exact run_fnN (us := [.ref a]) (vs := [.ref a]) F hr hb hx I2 (.cons rfl .nil) rz rfl l2 q2
end LT

/-! ### own error classes over any built-in error: made, stored in, told -/
namespace LB
open PySem PySem.W PySem.Calls PyProof.Rows PySem.HandSPX
open Builtin Builtin.ObjectAttr
/-- what the built-in error B gives: its own tail of classes -/
structure Tail (B nw ini : String) (tl : List Value) : Prop where
  F : ExcBaseFacts B nw ini tl
  S : StoreFacts B tl "object.__setattr__" "object"
  ob : tl.contains (.type "object") = true
/-- own classes, then the tail -/
def Over (tl l : List Value) : Prop := ∃ cs : List Addr, l = cs.map Value.ref ++ tl
theorem Over.pass {B nw ini : String} {tl : List Value} (T : Tail B nw ini tl) (self : Value) {l : List Value} (h : Over tl l) : refuseLoop self "__setattr__" l = pure () := by
  obtain ⟨cs, rfl⟩ := h
  induction cs with
  | nil => exact T.S.passes self
  | cons c r ih =>
    rw [List.map_cons, List.cons_append, refuseLoop_ref]
    exact ih
theorem Over.has {tl l : List Value} (h : Over tl l) (X : String) : l.contains (.type X) = tl.contains (.type X) := by
  obtain ⟨cs, rfl⟩ := h
  induction cs with
  | nil => rfl
  | cons c r ih =>
    rw [List.map_cons, List.cons_append, List.contains_cons, ih]
    rfl
theorem Over.cons {tl l : List Value} (h : Over tl l) (C : Addr) : Over tl (.ref C :: l) := by
  obtain ⟨cs, rfl⟩ := h
  exact ⟨C :: cs, rfl⟩
section
variable {prog : Program} {w : World} {A : Around} {E : Value → Shared → Prop} {R : Result → Shared → Prop} {hp : Heap} {g : Array GenState} {d : Drawn} {t : Nat} {os : OsState}
/-- object.__setattr__ on such an error -/
theorem osa_go {B nw ini : String} {tl : List Value} (T : Tail B nw ini tl) {K : W.Frag} {f : Str} {tk : Tok} {v : Value} {x C : Addr} {ox : Obj} {od : Option Obj} {cd : ClassData} (X : K.In hp) (J : W.InstAt hp x ox C od) (kc : W.clsIn K C = some cd)
    (ov : Over tl cd.mro) (ne : cd.mro.isEmpty = false) (ha : W.findIn K (.ref C) f = some none)
    (hq : wpAny (model prog w) A.in1 (storeInOwnDict (.ref x) (.ref C) (.str f tk) f v false) (fun fin s' => match fin with | .done r => R (.ok r) s' | .again c' => c'.quiet = true ∧ codeAny (model prog w) A c' R s') (fun e s' => R (.error e) s') ⟨hp, g, d, t, os⟩) :
    codeAny (model prog w) A (.call (.builtin "object.__setattr__") ⟨[.ref x, .str f tk, v], []⟩) R ⟨hp, g, d, t, os⟩ := by
  have so := F.store_object
  have isO : W.Looks (model prog w) hp (isInstance (.ref x) (.type "object")) true :=
    J.type.andThen (W.looks_mroIn X (by unfold W.mroIn; rw [kc, Option.bind_some, if_neg (by rw [ne]; decide), ov.has, T.ob]))
  have lm : W.Looks (model prog w) hp (mroOf (.ref C)) cd.mro := (W.looks_clsIn X kc).andThen .now
  have lt : W.Looks (model prog w) hp (storeTaker? none) none := .now
  refine codeAny_call_builtin so.slot.plain so.entry ?_
  refine @W.check_slot (model prog w) A.in1 _ ⟨hp, g, d, t, os⟩ "object.__setattr__" "object" "__setattr__" (Value.ref x) [Value.str f tk, v] [] _ so.kind so.split isO (so.args (.ref x) (.str f tk) v) ?_
  rw [W.osa_eq, refuse_eq]
  refine wpAny_bind (wpAny_bind (J.type.at (wpAny_bind (lm.at ?_))))
  rw [ov.pass T]
  exact wpAny_pure (wpAny_bind (J.type.at (wpAny_bind ((W.looks_findIn X ha).at (wpAny_bind (lt.at hq))))))
/-- its first field -/
theorem osa_first {B nw ini : String} {tl : List Value} (T : Tail B nw ini tl) {K : W.Frag} {f : Str} {tk : Tok} {v : Value} {x C : Addr} {fv : Array Value} {cd : ClassData} (X : K.In hp) (hx : hp.get? x = some { cls := .ref C, data := .fields fv })
    (kc : W.clsIn K C = some cd) (ov : Over tl cd.mro) (ne : cd.mro.isEmpty = false) (hh : cd.hasDict = true) (ha : W.findIn K (.ref C) f = some none)
    (hq : ∀ h' tk' dx, (∀ b o, b ≠ x → hp.get? b = some o → h'.get? b = some o) → hp.objs.size ≤ dx → dx ≠ x → h'.get? x = some { cls := .ref C, dict := some dx, data := .fields fv } →
      h'.Ns1 dx (fun y => if y = f then some v else none) → R (.ok (.ret .none)) ⟨h', g, d, tk', os⟩) :
    codeAny (model prog w) A (.call (.builtin "object.__setattr__") ⟨[.ref x, .str f tk, v], []⟩) R ⟨hp, g, d, t, os⟩ := by
  have lc : W.Looks (model prog w) hp (classData C) cd := W.looks_clsIn X kc
  have sx : x ≠ hp.objs.size := Nat.ne_of_lt (Heap.lt_size hx)
  refine osa_go T X (J := ⟨hx, rfl, rfl, trivial⟩) (od := none) kc ov ne ha ?_
  obtain ⟨c1, c2, c3, c4, c5, c6, c7, c8, c9, c10, c11⟩ := cd
  dsimp only at hh
  subst hh
  unfold storeInOwnDict ownDictForStores
  repeat (first | with_reducible refine store_in_new ?_ ?_ | with_reducible refine wpAny_loadPart_at hx ?_ | with_reducible refine lc.at ?_ | wp_step)
  · exact ⟨_, #[], _, (Heap.get?_update_ne _ _ _ _ sx.symm).trans (Heap.get?_push_at rfl rfl), rfl, fun e he => absurd he (by simp), fun _ => rfl⟩
  · intro h' tk' n1 same
    have hx1 : (hp.push { cls := .type "dict", data := .dict #[] }).get? x = some { cls := .ref C, data := .fields fv } := Heap.get?_push_of_some _ hx
    refine hq h' tk' hp.objs.size (fun b o nb e => (same.2 b (Nat.ne_of_lt (Heap.lt_size e))).trans ((Heap.get?_update_ne _ _ _ _ nb).trans (Heap.get?_push_of_some _ e))) (Nat.le_refl _) sx.symm ?_ n1
    exact (same.2 x sx).trans (Heap.get?_update_self _ hx1 rfl)
/-- a further field -/
theorem osa_more {B nw ini : String} {tl : List Value} (T : Tail B nw ini tl) {K : W.Frag} {f : Str} {tk : Tok} {v : Value} {x C dx : Addr} {fv : Array Value} {cd : ClassData} {m0 : Str → Option Value} {nl : List Str} (X : K.In hp)
    (hx : hp.get? x = some { cls := .ref C, dict := some dx, data := .fields fv }) (n0 : hp.Ns1 dx m0) (nw' : Within m0 nl) (nz : nl.length ≤ 1000)
    (kc : W.clsIn K C = some cd) (ov : Over tl cd.mro) (ne : cd.mro.isEmpty = false) (hh : cd.hasDict = true) (ha : W.findIn K (.ref C) f = some none)
    (hq : ∀ h' tk', (∀ b o, b ≠ dx → hp.get? b = some o → h'.get? b = some o) → h'.Ns1 dx (fun y => if y = f then some v else m0 y) → R (.ok (.ret .none)) ⟨h', g, d, tk', os⟩) :
    codeAny (model prog w) A (.call (.builtin "object.__setattr__") ⟨[.ref x, .str f tk, v], []⟩) R ⟨hp, g, d, t, os⟩ := by
  obtain ⟨oD, _, _, eD, _, _⟩ := n0.count nw'
  have lc : W.Looks (model prog w) hp (classData C) cd := W.looks_clsIn X kc
  refine osa_go T X (J := ⟨hx, rfl, rfl, eD⟩) (od := some oD) kc ov ne ha ?_
  obtain ⟨c1, c2, c3, c4, c5, c6, c7, c8, c9, c10, c11⟩ := cd
  dsimp only at hh
  subst hh
  unfold storeInOwnDict ownDictForStores
  repeat (first | with_reducible refine PySem.OEX.store_in_old n0 nw' nz ?_ | with_reducible refine wpAny_loadPart_at hx ?_ | with_reducible refine lc.at ?_ | wp_step)
  intro h' tk' n1 same
  exact hq h' tk' (fun b o nb e => (same.2 b nb).trans e) n1
end
end LB
namespace LB
open PySem L2 PySem.Spec PyProof.Rows
/-- what the written part says of an own error class, over any built-in error -/
structure OexB (K : PySem.W.Frag) (C : Addr) : Prop where
  cls : ∃ B nw ini tl nm q N bs bm sn sub ab col dd k0 k1 k2 k3 k5, K.lookup C = some (excClassObj nm q C N bs bm true sn sub ab col dd k0 k1 k2 k3 k5 nw) ∧ Tail B nw ini tl ∧ Over tl bm
  sa : PySem.W.findIn K (.ref C) "__setattr__" = some (some (.builtin "object.__setattr__"))
  exC : PySem.W.subIn K (.ref C) (.type "BaseException") = some true
  tyC : PySem.W.typeIn K (.ref C) = some (.type "type")
  kC : PySem.W.keepIn K (.ref C) = true
theorem OexB.data {K : PySem.W.Frag} {C : Addr} (T : OexB K C) : ∃ B nw ini tl cd, PySem.W.clsIn K C = some cd ∧ Tail B nw ini tl ∧ Over tl cd.mro ∧ cd.mro.isEmpty = false ∧ cd.hasDict = true := by
  obtain ⟨B, nw, ini, tl, nm, q, N, bs, bm, sn, sub, ab, col, dd, k0, k1, k2, k3, k5, hC, hT, ov⟩ := T.cls
  refine ⟨B, nw, ini, tl, { name := nm, bases := bs, mro := .ref C :: bm, ns := N, qualname := q, hasDict := true, slotNames := sn, subclasses := sub, abstract := ab, collection := col, hasDel := false }, ?_, hT, ov.cons C, rfl, rfl⟩
  unfold PySem.W.clsIn
  rw [hC] <;> rfl
section
variable {X : Cx} {pins : List (Addr × Obj)} {σ : L2.St} {H : Hp} {s : Shared} {a C dx : Addr} {f : Str} {y : V} {u : Value} {fs : List (Str × V)} {Q : Unit → Shared → Prop} {E : Value → Shared → Prop} {A : Around}
/-- the heap behind the first field of a new error -/
theorem un_first {h' : Heap} (I : L2.Inv X pins σ H s) (e : H a = some (exo a C none)) (k : ∀ b o, b ≠ a → s.heap.get? b = some o → h'.get? b = some o) (dn : s.heap.objs.size ≤ dx) {o1 : Obj} (hx : h'.get? a = some o1) :
    Un X.fs [] H (upd (upd H dx (exd dx [(f, y)])) a (exo a C (some dx))) s.heap h' := by
  have fr : H dx = none := I.hok.fresh dn
  have nb : ∀ {b : Addr} {o : Obj}, s.heap.get? b = some o → b ≠ dx := fun {b o} q => Nat.ne_of_lt (Nat.lt_of_lt_of_le (Heap.lt_size q) dn)
  have na : ∀ {b : Addr}, H b = none → b ≠ a := fun {b} n z => by rw [z, e] at n; cases n
  have two : ∀ {b : Addr} {o : HO}, b ≠ a → b ≠ dx → upd (upd H dx (exd dx [(f, y)])) a (exo a C (some dx)) b = H b := fun {b o} h1 h2 => by rw [upd_ne h1, upd_ne h2]
  exact {
    keep := fun b o q n _ _ => k b o (na n) q
    slot := fun b o q n _ _ => ⟨o.slots, k b o (na n) q⟩
    free := fun b o q n _ => (two (o := .lst []) (na n) (nb q)).trans n
    there := fun b o q _ => by
      by_cases c : b = a
      · exact ⟨_, by rw [c]; exact hx⟩
      · exact ⟨o, k b o c q⟩
    tups := fun b xs q => (two (o := .lst []) (at_ne e q exo_tup) (ne_of_none q fr)).trans q
    frzs := fun b o v q => (two (o := .lst []) (at_ne e q exo_frz) (ne_of_none q fr)).trans q
    tbls := fun b ps q => ⟨#[], by rw [two (o := .lst []) (at_ne e q exo_tbl) (ne_of_none q fr), q]; simp⟩ }
theorem ostB_new (T : OexB X.K C) (I : L2.Inv X pins σ H s) (e : H a = some (exo a C none)) (no : PySem.W.findIn X.K (.ref C) f = some none) (ry : RelV y u)
    (h : ∀ dx s', H dx = none → dx ≠ a → L2.Inv X pins σ (upd (upd H dx (exd dx [(f, y)])) a (exo a C (some dx))) s' → Q () s') : wpAny (model X.prog X.w) A (setAttr (.ref a) f u) Q E s := by
  obtain ⟨B, nw, ini, tl, cd, kc, hT, ov, ne, hd⟩ := T.data
  obtain ⟨t1, ho⟩ := exo_at I.hok e
  obtain ⟨hp, g, dr, tk, os⟩ := s
  refine PySem.W.set_plain I.kIn (ox := { cls := .ref C, dict := none, data := .fields #[.ref t1, .none, .none, .none, .bool false, .none] }) (od := none) ⟨ho, rfl, rfl, trivial⟩ T.sa ?_
  refine osa_first hT I.kIn ho kc ov ne hd no (fun h' tk' dx k dn da hx n1 => ?_)
  have fr : H dx = none := I.hok.fresh dn
  refine h dx _ fr da (I.un (t' := tk') (un_first I e k dn hx) fun b o q => ?_)
  by_cases c : b = a
  · rw [c, upd_same] at q
    cases q
    rw [c]
    exact exo_ok hx
  rw [upd_ne c] at q
  by_cases c2 : b = dx
  · rw [c2, upd_same] at q
    cases q
    rw [c2]
    exact exd_ok n1 (relO_put (fs := []) ry fun g => True.intro)
  rw [upd_ne c2] at q
  refine (I.hok b o q).stay (fun c3 v hc z => k c3 v (hc.elim (fun w => by rw [w]; exact c) fun w => at_ne e w exo_own) z) (fun c3 hc => ?_) (fun c3 xs hc => ?_)
  · rw [upd_ne (at_ne e hc exo_own), upd_ne (ne_of_none hc fr)]
    exact hc
  · rw [upd_ne (at_ne e hc exo_tup), upd_ne (ne_of_none hc fr)]
    exact hc
theorem ostB_old (T : OexB X.K C) (I : L2.Inv X pins σ H s) (e : H a = some (exo a C (some dx))) (ed : H dx = some (exd dx fs)) (hl : fs.length ≤ 900) (no : PySem.W.findIn X.K (.ref C) f = some none) (ry : RelV y u)
    (h : ∀ s', L2.Inv X pins σ (upd H dx (exd dx ((f, y) :: fs))) s' → Q () s') : wpAny (model X.prog X.w) A (setAttr (.ref a) f u) Q E s := by
  obtain ⟨B, nw, ini, tl, cd, kc, hT, ov, ne, hd⟩ := T.data
  obtain ⟨t1, ho⟩ := exo_at I.hok e
  obtain ⟨mA, n0, rel⟩ := exd_at I.hok ed
  have wi := within_of rel
  obtain ⟨hp, g, dr, tk, os⟩ := s
  obtain ⟨oD, _, _, eD, _, _⟩ := n0.count wi
  refine PySem.W.set_plain I.kIn (ox := { cls := .ref C, dict := some dx, data := .fields #[.ref t1, .none, .none, .none, .bool false, .none] }) (od := some oD) ⟨ho, rfl, rfl, eD⟩ T.sa ?_
  refine osa_more hT I.kIn ho n0 wi (by rw [List.length_map]; omega) kc ov ne hd no (fun h' tk' k n1 => h _ ?_)
  have al : ∃ o, h'.get? dx = some o := by
    obtain ⟨o, _, _, q, _⟩ := n1
    exact ⟨o, q⟩
  exact I.write (t' := tk') (x := dx) (e := dx) (o := exd dx ((f, y) :: fs)) (by rw [ed]; exact True.intro) (.inl rfl) k al (exd_ok n1 (relO_put ry rel))
end
/-- self.f = e -/
def tOstB (K : PySem.W.Frag) (f : Str) (to te : TE) : TS := fun D σ H => te σ H fun y H1 => to σ H1 fun x H2 => ∃ a C : Addr, x = .ref a ∧ OexB K C ∧ PySem.W.findIn K (.ref C) f = some none ∧
  ((H2 a = some (exo a C none) ∧ ∀ dx, H2 dx = none → dx ≠ a → D.nx σ (upd (upd H2 dx (exd dx [(f, y)])) a (exo a C (some dx)))) ∨
    ∃ (dx : Addr) (fs : List (Str × V)), H2 a = some (exo a C (some dx)) ∧ H2 dx = some (exd dx fs) ∧ fs.length ≤ 900 ∧ D.nx σ (upd H2 dx (exd dx ((f, y) :: fs))))
section
variable {X : Cx} {o e : Expr} {es : List Expr} {to te : TE} {ta : TA} {f : Str} {p p' pos : Pos}
theorem ps_ostB (ho : PE X o to) (he : PE X e te) (hs : swapsWith e (some (.Attribute o f p')) pos.line X.env = pure false := by rfl) : PS X (.Assign [.Attribute o f p'] e pos) (tOstB X.K f to te) := by
  refine ⟨fun pins s σ H D I h => ?_⟩
  refine plainObj_wpAny_Assign_Attribute (thn (he.run pins s σ H _ I h) fun v s1 ⟨y, H1, I1, r1, q1⟩ => thn (ho.run pins s1 σ H1 _ I1 q1) fun u s2 ⟨x, H2, I2, r2, a, C, ex, T, no, q⟩ => ?_) hs
  subst ex
  obtain rfl : u = Value.ref a := r2
  rcases q with ⟨ea, q⟩ | ⟨dx, fs, ea, ed, hl, q⟩
  · exact ostB_new T I2 ea no r1 fun dx s' n ne J => ⟨σ, _, J, q dx n ne⟩
  · exact ostB_old T I2 ea ed hl no r1 fun s' J => ⟨σ, _, J, q⟩
/-- what lies behind the making of an error: its object, not filled yet -/
theorem made_at {pins : List (Addr × Obj)} {σ : L2.St} {H1 : Hp} {hp : Heap} {g : Array GenState} {dr : Drawn} {tk : Nat} {os : OsState} (I1 : L2.Inv X pins σ H1 ⟨hp, g, dr, tk, os⟩) (C : Addr) (us : List Value) :
    L2.Inv X pins σ (upd H1 (hp.objs.size + 1) (exo (hp.objs.size + 1) C none)) ⟨(hp.push (PySem.W.kdv_tup us)).push (PySem.HandSPX.excO C hp.objs.size), g, dr, tk, os⟩ := by
  have hget : ((hp.push (PySem.W.kdv_tup us)).push (PySem.HandSPX.excO C hp.objs.size)).get? (hp.objs.size + 1) = some (PySem.HandSPX.excO C hp.objs.size) := by heap_get
  exact I1.laid (t' := tk) (fun b o e => Heap.get?_push_of_some _ (Heap.get?_push_of_some _ e)) (Nat.le_succ _) (exo_ok hget)
theorem pmk_oexB {CX : CXT} {x : Str} {C fI : Addr} {k : Nat} {fd : FuncData} {ps : List Str} {sp : Sp} {ds : List Value} {dvs : List V} (T : OexB X.K C) (iC : PySem.W.findIn X.K (.ref C) "__init__" = some (some (.ref fI))) (tI : PySem.W.typeIn X.K (.ref fI) = some (.type "function"))
    (F1 : FnOk X.prog X.w X.K X.mg X.base CX k fI fd ps sp) (hr : Room (k + 1) X.A) (hb : Binds X.K fd ps ds) (hd : Vals dvs ds) (hx : Passes CX X (fun _ _ _ => False)) (hg : Gl X x) (hm : X.mg x = some (.ref C)) (ha : PA X (e :: es) ta)
    (hdb : (x == ("__debug__" : Str)) = false := by decide) (he : starEach (e :: es) X.env = (false, eval e X.env) :: starEach es X.env := by rfl) (hpl : (backTo pos (starEach es X.env)).any (·.1) = false := by rfl) :
    PMk X (.Call (.Name x p) (e :: es) [] pos) (tMkO C sp dvs ta) := by
  intro pins s σ H Q I h
  obtain ⟨B, nw, ini, tl, nm, q, N, bs, bm, sn, sub, ab, col, dd, k0, k1, k2, k3, k5, hC, hT, ov⟩ := T.cls
  refine wpAny_Call_Name_kw (ld_glob I hg hm ?_ hdb)
  refine PySem.W.callWith_K (h₀ := X.base) I.ok.mod.kin T.kC (thn (ha.run pos pins s σ H _ I h) fun us s1 ⟨vs, H1, I1, r1, hz, q1⟩ => ⟨I1.kIn, ?_⟩) he hpl
  show wpAny _ _ (call (.ref C) us) _ _ _
  obtain ⟨hp, g, dr, tk, os⟩ := s1
  have q2 := q1 (hp.objs.size + 1) (I1.hok.fresh (Nat.le_succ _))
  have I2 := made_at I1 C us
  have r2 : Vals (V.ref (hp.objs.size + 1) :: (vs ++ dvs)) (Value.ref (hp.objs.size + 1) :: (us ++ ds)) := .cons rfl (r1.append hd)
  have hl : (Value.ref (hp.objs.size + 1) :: us ++ ds).length = ps.length := (r2.length.symm.trans (F1.len _ _ _ _ q2))
  have hus : us.length ≤ sizeLine := by rw [← Paired.length r1, sizeLine_eq]; omega
  refine wpAny_call (PySem.HandSPX.call_own hT.F (fun Y => ov.has Y) (I1.kIn _ _ hC) (PySem.W.looks_findIn I1.kIn iC) (fun self => PySem.W.bind_fn I1.kIn self tI) hus
    (codeAny_mono (F1.run _ X.stack _ _ ⟨Value.ref (hp.objs.size + 1) :: us, []⟩ (Value.ref (hp.objs.size + 1) :: (us ++ ds)) _ _ (fun _ _ _ => False) (hr.make C us []) (I2.env0.make C us []) (hb _ (Value.ref (hp.objs.size + 1) :: us) I2.kIn hl) r2 q2) fun r s' z => ?_))
  match r, z with
  | .error er, z => exact hx pins σ _ _ er s' I2 z
  | .ok (.ret u), ⟨v, H2, os2, bare2, un2, hok2, rv, ev, d, fs, ea, ed, hd1, q3⟩ =>
    subst ev
    obtain ⟨h2, g2, d2, t2, os'⟩ := s'
    exact ⟨rv, mk_end (raises_own T.exC T.tyC) I1 (Nat.le_succ _) (fun b o e => Heap.get?_push_of_some _ (Heap.get?_push_of_some _ e)) un2 hok2 os2 bare2 ea ed hd1 q3⟩
end
end LB
namespace LB
open PySem PySem.HandSPX
section
variable {prog : Program} {w : World} {A : Around} {E : Value → Shared → Prop} {R : Result → Shared → Prop} {h : Heap} {g : Array GenState} {d : Drawn} {t : Nat} {os : OsState}
variable {nm q : Str} {C N : Addr} {bs bm tl : List Value} {hd : Bool} {sn : List Str} {sub : List Value} {ab : Bool} {col : Option Bool} {dd : Option Addr} {k0 k1 k2 k3 k5 : Option Value} {B nw ini : String} {rest : List Value} {kw : List (Str × Value)}
theorem chk_kw {M : Model} {Q : Unit → Shared → Prop} (T : Tail B nw ini tl) (ov : Over tl bm) (hC : h.get? C = some (excClassObj nm q C N bs bm hd sn sub ab col dd k0 k1 k2 k3 k5 nw)) (hq : Q () ⟨h, g, d, t, os⟩) :
    wpAny M A (checkBuiltinCall nw ⟨.ref C :: rest, kw⟩) Q E ⟨h, g, d, t, os⟩ := by
  have hin : (Value.ref C :: bm).contains (.type B) = true := by rw [List.contains_cons, ov.has, T.F.hasB, Bool.or_true]
  have hns := T.F.noStar
  simp only [checkBuiltinCall, T.F.newKind, T.F.newSplit, T.F.newRow]
  repeat (first | refine wpAny_loadPart_at hC ?_ | (refine wpAny_isSubtype_exc hC ?_; rw [hin]) | refine wpAny_staticBase_exc hC ?_ | refine wpAny_madeBy_exc hC ?_ | simp only [bne_self_eq_false, Bool.false_eq_true, if_false] | wp_step)
  exact hq
theorem new_kw (T : Tail B nw ini tl) (ov : Over tl bm) (hC : h.get? C = some (excClassObj nm q C N bs bm hd sn sub ab col dd k0 k1 k2 k3 k5 nw)) (hr : rest.length ≤ sizeLine)
    (hq : R (.ok (.ret (.ref (h.objs.size + 1)))) ⟨(h.push { cls := .type "tuple", data := .seq rest.toArray }).push { cls := .ref C, data := .fields #[.ref h.objs.size, .none, .none, .none, .bool false, .none] }, g, d, t, os⟩) :
    codeAny (model prog w) A (.builtin nw ⟨.ref C :: rest, kw⟩) R ⟨h, g, d, t, os⟩ := by
  have he := T.F.ends
  have hB : (Value.ref C :: bm).contains (.type B) = true := by rw [List.contains_cons, ov.has, T.F.hasB, Bool.or_true]
  have hA : (Value.ref C :: bm).contains (.type "AttributeError") = false := by rw [List.contains_cons, ov.has, T.F.noAttr]; rfl
  have hN : (Value.ref C :: bm).contains (.type "NameError") = false := by rw [List.contains_cons, ov.has, T.F.noName]; rfl
  refine codeAny_builtinAt T.F.entry ?_
  unfold Builtin.«BaseException.__new__»
  refine wpAt_bind ?_
  show wpAt _ _ _ (stack >>= _) _ _ _
  refine wpAt_bind (wpAt_stack fun p below => wpAt_of_wpAny ?_)
  wp_walk
  refine wpAt_of_wpAny ?_
  rw [T.F.owner]
  repeat (first | with_reducible refine wpAny_madeHere_exc T.F.canon hC ?_ | with_reducible refine wpAny_loadPart_at hC ?_ | (with_reducible refine wpAny_isSubtype_exc hC ?_; first | rw [hB] | rw [hA] | rw [hN]) | wp_step)
  show R _ _
  rw [Heap.size_push]
  exact hq
theorem tcall_kw (T : Tail B nw ini tl) (ov : Over tl bm) {fI : Addr} {Q : Fin → Shared → Prop} (hC : h.get? C = some (excClassObj nm q C N bs bm hd sn sub ab col dd k0 k1 k2 k3 k5 nw))
    (hi : PySem.W.Looks (model prog w) h (typeLookup (.ref C) "__init__") (some (.ref fI))) (hb : ∀ self, PySem.W.Looks (model prog w) h (bindSpecial (.ref fI) self) (.ref fI, [self])) (hr : rest.length ≤ sizeLine)
    (hq : codeAny (model prog w) A (.call (.ref fI) ⟨.ref (h.objs.size + 1) :: rest, kw⟩)
      (fun r s' => match r with | .ok (.ret v) => v = .none ∧ Q (.done (.ret (.ref (h.objs.size + 1)))) s' | .ok _ => False | .error e => E e s')
      ⟨(h.push (PySem.W.kdv_tup rest)).push (excO C h.objs.size), g, d, t, os⟩) :
    wpAny (model prog w) A (Builtin.«type.__call__» ⟨.ref C :: rest, kw⟩) Q E ⟨h, g, d, t, os⟩ := by
  repeat (first | with_reducible refine wpAny_loadPart_at hC ?_ | with_reducible refine wpAny_madeBy_exc hC ?_ | wp_step)
  refine codeAny_call_builtin_code (Code.quiet_builtin _ T.F.quiet) (chk_kw T ov hC ?_)
  refine new_kw T ov hC hr ?_
  show wpAny _ _ _ _ _ _
  have k : ∀ b o, h.get? b = some o → ((h.push (PySem.W.kdv_tup rest)).push (excO C h.objs.size)).get? b = some o := fun b o e => Heap.get?_push_of_some _ (Heap.get?_push_of_some _ e)
  have c1 := k _ _ hC
  have o1 : ((h.push (PySem.W.kdv_tup rest)).push (excO C h.objs.size)).get? (h.objs.size + 1) = some (excO C h.objs.size) := by heap_get
  have cc : (Value.ref C :: bm).contains (.ref C) = true := by simp
  have i1 := hi.keeps k
  have b1 := (hb (.ref (h.objs.size + 1))).keeps k
  unfold isInstance
  repeat (first | with_reducible refine wpAny_loadPart_at o1 ?_ | (with_reducible refine wpAny_isSubtype_exc c1 ?_; rw [cc]) | wp_step)
  show wpAny _ _ (typeLookup (.ref C) _) _ _ _
  refine i1.at ?_
  refine wpAny_holding (wpAny_bind (b1.at ?_))
  refine wpAny_bind (wpAny_call (codeAny_mono hq fun r s' z => ?_))
  rcases r with e | (v | _ | _ | _) <;> first | exact z | exact z.elim | skip
  obtain ⟨rfl, z⟩ := z
  first
    | exact wpAny_pure (wpAny_pure z)
    | (wp_walk; exact z)
theorem call_kw (T : Tail B nw ini tl) (ov : Over tl bm) {fI : Addr} (hC : h.get? C = some (excClassObj nm q C N bs bm hd sn sub ab col dd k0 k1 k2 k3 k5 nw))
    (hi : PySem.W.Looks (model prog w) h (typeLookup (.ref C) "__init__") (some (.ref fI))) (hb : ∀ self, PySem.W.Looks (model prog w) h (bindSpecial (.ref fI) self) (.ref fI, [self])) (hr : rest.length ≤ sizeLine)
    (hq : codeAny (model prog w) (A.under (.builtin "type.__call__" ⟨.ref C :: rest, kw⟩)) (.call (.ref fI) ⟨.ref (h.objs.size + 1) :: rest, kw⟩) (PySem.W.InitBack (h.objs.size + 1) R)
      ⟨(h.push (PySem.W.kdv_tup rest)).push (excO C h.objs.size), g, d, t, os⟩) :
    codeAny (model prog w) A (.call (.ref C) ⟨rest, kw⟩) R ⟨h, g, d, t, os⟩ := by
  have f1 := tc_lookup
  have f2 := tc_bind (.ref C)
  have ty : (⟨h, g, d, t, os⟩ : Shared).TypeIs (.ref C) "type" := ⟨_, hC, rfl⟩
  refine codeAny_of_tree ?_
  show wpAny _ _ (callAny (.ref C) _) _ _ _
  repeat (any_goals (first | assumption | with_reducible refine wpAny_loadPart_at hC ?_ | wp_step))
  refine ⟨rfl, ?_⟩
  refine codeAny_call_builtin_at (Code.quiet_builtin _ (by decide +kernel)) entry_typeCall (wpAny_check_type_call_sub hC (tcall_kw T ov hC hi hb hr ?_))
  refine codeAny_mono hq fun r s' z => ?_
  rcases r with e | (v | _ | _ | _) <;> exact z
end
end LB
namespace LB
open PySem L2 PySem.Spec PyProof.Rows
section
variable {X : Cx} {CX : CXT} {k : Nat} {fd : FuncData} {ps ks : List Str} {sp : Sp} {C fI : Addr} {x : Str} {p pos : Pos} {e : Expr} {es : List Expr} {kws : List Keyword} {ta tk : TA}
/-- an own error made as a value: behind its class's own __init__ -/
theorem run_oexB {pins : List (Addr × Obj)} {σ : L2.St} {H1 : Hp} {s1 : Shared} {Q : VK} {us ys : List Value} {kw : List (Str × Value)} {zs : List V} (T : OexB X.K C) (iC : PySem.W.findIn X.K (.ref C) "__init__" = some (some (.ref fI))) (tI : PySem.W.typeIn X.K (.ref fI) = some (.type "function"))
    (F1 : FnOk X.prog X.w X.K X.mg X.base CX k fI fd ps sp) (hr : Room (k + 1) X.A) (hx : Passes CX X (fun _ _ _ => False)) (I1 : L2.Inv X pins σ H1 s1) (hus : us.length ≤ sizeLine) (rz : Vals zs ys)
    (hb : ∀ (a : Addr) (s : Shared), X.K.In s.heap → BindsTo s fd ⟨Value.ref a :: us, kw⟩ (ps.zip (Value.ref a :: ys)))
    (hq : ∀ a, H1 a = none → sp (.ref a :: zs) (upd H1 a (exo a C none)) (fun v H2 => v = .non ∧ Q (.ref a) H2) (fun _ _ _ => False)) :
    wpAny (model X.prog X.w) X.A (call (.ref C) us kw) (EP X pins σ Q) X.xe s1 := by
  obtain ⟨B, nw, ini, tl, nm, q, N, bs, bm, sn, sub, ab, col, dd, k0, k1, k2, k3, k5, hC, hT, ov⟩ := T.cls
  obtain ⟨hp, g, dr, tk, os⟩ := s1
  have q2 := hq (hp.objs.size + 1) (I1.hok.fresh (Nat.le_succ _))
  have I2 := made_at I1 C us
  have r2 : Vals (V.ref (hp.objs.size + 1) :: zs) (Value.ref (hp.objs.size + 1) :: ys) := .cons rfl rz
  refine wpAny_call (call_kw hT ov (I1.kIn _ _ hC) (PySem.W.looks_findIn I1.kIn iC) (fun self => PySem.W.bind_fn I1.kIn self tI) hus
    (codeAny_mono (F1.run _ X.stack _ _ ⟨Value.ref (hp.objs.size + 1) :: us, kw⟩ (Value.ref (hp.objs.size + 1) :: ys) _ _ (fun _ _ _ => False) (hr.make C us kw) (I2.env0.make C us kw) (hb _ _ I2.kIn) r2 q2) fun r s' z => ?_))
  match r, z with
  | .error er, z => exact hx pins σ _ _ er s' I2 z
  | .ok (.ret u), z =>
    obtain ⟨v, H2, os2, bare2, un2, hok2, rv, ev, q3⟩ := z
    subst ev
    exact ⟨rv, .ref (hp.objs.size + 1), H2, I2.call' (ch := []) os2 un2 hok2 bare2 (fun b hb => by cases hb), rfl, q3⟩
/-- C(..) as a value; n values and m keywords, g puts them in the parameters' order -/
def tErr (C : Addr) (sp : Sp) (gV : List V → List V → List V) (ta tk : TA) : TE := fun σ H Q => ta σ H fun vs H1 => tk σ H1 fun zs H2 => vs.length ≤ 1000 ∧ ∀ a, H2 a = none → sp (.ref a :: gV vs zs) (upd H2 a (exo a C none)) (fun v H3 => v = .non ∧ Q (.ref a) H3) (fun _ _ _ => False)
/-- how the arguments bind -/
structure ErrB (K : PySem.W.Frag) (fd : FuncData) (ps : List Str) (n : Nat) (ks : List Str) (g : List Value → List Value → List Value) (gV : List V → List V → List V) : Prop where
  to : ∀ (s : Shared) (a : Addr) (us ws : List Value), K.In s.heap → us.length = n → ws.length = ks.length → BindsTo s fd ⟨Value.ref a :: us, ks.zip ws⟩ (ps.zip (Value.ref a :: g us ws))
  rel : ∀ {vs : List V} {us : List Value} {zs : List V} {ws : List Value}, Vals vs us → Vals zs ws → Vals (gV vs zs) (g us ws)
variable {n : Nat} {g : List Value → List Value → List Value} {gV : List V → List V → List V}
def tErrN (C : Addr) (n m : Nat) (sp : Sp) (gV : List V → List V → List V) (ta tk : TA) : TE := fun σ H Q => ta σ H fun vs H1 => tk σ H1 fun zs H2 => vs.length = n ∧ zs.length = m ∧ ∀ a, H2 a = none → sp (.ref a :: gV vs zs) (upd H2 a (exo a C none)) (fun v H3 => v = .non ∧ Q (.ref a) H3) (fun _ _ _ => False)
/-- C(e, ..) -/
theorem pe_err (T : OexB X.K C) (iC : PySem.W.findIn X.K (.ref C) "__init__" = some (some (.ref fI))) (tI : PySem.W.typeIn X.K (.ref fI) = some (.type "function")) (F1 : FnOk X.prog X.w X.K X.mg X.base CX k fI fd ps sp) (hr : Room (k + 1) X.A) (hx : Passes CX X (fun _ _ _ => False))
    (hg : Gl X x) (hm : X.mg x = some (.ref C)) (hb : ErrB X.K fd ps n [] g gV) (hn : n ≤ 1000) (ha : PA X (e :: es) ta) (hdb : (x == ("__debug__" : Str)) = false := by decide) (he : starEach (e :: es) X.env = (false, eval e X.env) :: starEach es X.env := by rfl) (hpl : (backTo pos (starEach es X.env)).any (·.1) = false := by rfl) :
    PE X (.Call (.Name x p) (e :: es) [] pos) (tErrN C n 0 sp gV ta tNil) := by
  refine ⟨fun pins s σ H Q I h => ?_⟩
  refine wpAny_Call_Name_kw (ld_glob I hg hm ?_ hdb)
  refine PySem.W.callWith_K (h₀ := X.base) I.ok.mod.kin T.kC (thn (ha.run pos pins s σ H _ I h) fun us s1 ⟨vs, H1, I1, r1, l1, _, q1⟩ => ⟨I1.kIn, ?_⟩) he hpl
  have lu : us.length = n := (Paired.length r1).symm.trans l1
  exact run_oexB (us := us) (ys := g us []) (kw := []) T iC tI F1 hr hx I1 (by rw [lu, sizeLine_eq]; omega) (hb.rel r1 .nil) (fun a s kin => hb.to s a us [] kin lu rfl) q1
/-- C(k = v, ..) -/
theorem pe_errK0 (T : OexB X.K C) (iC : PySem.W.findIn X.K (.ref C) "__init__" = some (some (.ref fI))) (tI : PySem.W.typeIn X.K (.ref fI) = some (.type "function")) (F1 : FnOk X.prog X.w X.K X.mg X.base CX k fI fd ps sp) (hr : Room (k + 1) X.A) (hx : Passes CX X (fun _ _ _ => False))
    (hg : Gl X x) (hm : X.mg x = some (.ref C)) (hb : ErrB X.K fd ps 0 ks g gV) (hkw : PK X kws tk) (hall : (backToKw pos (keywordEach kws X.env)).all (·.1.isSome) = true := by rfl) (hks : (backToKw pos (keywordEach kws X.env)).filterMap (·.1) = ks := by rfl) (hdb : (x == ("__debug__" : Str)) = false := by decide)
    (hpl : ((backTo pos (starEach [] X.env)).any (·.1) || (backToKw pos (keywordEach kws X.env)).any (·.1.isNone)) = false := by rfl) :
    PE X (.Call (.Name x p) [] kws pos) (tErrN C 0 ks.length sp gV tNil tk) := by
  refine ⟨fun pins s σ H Q I h => ?_⟩
  refine wpAny_Call_Name_kw (ld_glob I hg hm ?_ hdb)
  refine PySem.W.callWith_KW0 (h₀ := X.base) I.ok.mod.kin T.kC hall ?_ hpl
  refine thn (hkw.run pos pins s σ H _ I h) fun ws s2 ⟨zs, H2, I2, rz, _, l2, q2⟩ => ⟨I2.kIn, ?_⟩
  rw [hks]
  exact run_oexB (us := []) (ys := g [] ws) T iC tI F1 hr hx I2 (Nat.zero_le _) (hb.rel .nil rz) (fun a s kin => hb.to s a [] ws kin rfl ((Paired.length rz).symm.trans l2)) q2
/-- C(e, .., k = v, ..) -/
theorem pe_errK (T : OexB X.K C) (iC : PySem.W.findIn X.K (.ref C) "__init__" = some (some (.ref fI))) (tI : PySem.W.typeIn X.K (.ref fI) = some (.type "function")) (F1 : FnOk X.prog X.w X.K X.mg X.base CX k fI fd ps sp) (hr : Room (k + 1) X.A) (hx : Passes CX X (fun _ _ _ => False))
    (hg : Gl X x) (hm : X.mg x = some (.ref C)) (hb : ErrB X.K fd ps n ks g gV) (hn : n ≤ 1000) (ha : PA X (e :: es) ta) (hkw : PK X kws tk) (hall : (backToKw pos (keywordEach kws X.env)).all (·.1.isSome) = true := by rfl) (hks : (backToKw pos (keywordEach kws X.env)).filterMap (·.1) = ks := by rfl)
    (hdb : (x == ("__debug__" : Str)) = false := by decide) (he : starEach (e :: es) X.env = (false, eval e X.env) :: starEach es X.env := by rfl) (hpl : ((backTo pos (starEach (e :: es) X.env)).any (·.1) || (backToKw pos (keywordEach kws X.env)).any (·.1.isNone)) = false := by rfl) :
    PE X (.Call (.Name x p) (e :: es) kws pos) (tErrN C n ks.length sp gV ta tk) := by
  refine ⟨fun pins s σ H Q I h => ?_⟩
  refine wpAny_Call_Name_kw (ld_glob I hg hm ?_ hdb)
  refine PySem.W.callWith_KW (h₀ := X.base) I.ok.mod.kin T.kC hall (thn (ha.run pos pins s σ H _ I h) fun us s1 ⟨vs, H1, I1, r1, q1⟩ => ?_) hpl he
  refine thn (hkw.run pos pins s1 σ H1 _ I1 q1) fun ws s2 ⟨zs, H2, I2, rz, l1, l2, q2⟩ => ⟨I2.kIn, ?_⟩
  rw [hks]
  have lu : us.length = n := (Paired.length r1).symm.trans l1
  exact run_oexB (us := us) (ys := g us ws) T iC tI F1 hr hx I2 (by rw [lu, sizeLine_eq]; omega) (hb.rel r1 rz) (fun a s kin => hb.to s a us ws kin lu ((Paired.length rz).symm.trans l2)) q2
/-- C() -/
theorem pe_err0 (T : OexB X.K C) (iC : PySem.W.findIn X.K (.ref C) "__init__" = some (some (.ref fI))) (tI : PySem.W.typeIn X.K (.ref fI) = some (.type "function")) (F1 : FnOk X.prog X.w X.K X.mg X.base CX k fI fd ps sp) (hr : Room (k + 1) X.A) (hx : Passes CX X (fun _ _ _ => False))
    (hg : Gl X x) (hm : X.mg x = some (.ref C)) (hb : ErrB X.K fd ps 0 [] g gV) (hdb : (x == ("__debug__" : Str)) = false := by decide) :
    PE X (.Call (.Name x p) [] [] pos) (tErrN C 0 0 sp gV tNil tNil) := by
  refine ⟨fun pins s σ H Q I h => ?_⟩
  refine wpAny_Call_Name_kw (ld_glob I hg hm ?_ hdb)
  obtain ⟨_, _, q2⟩ := h
  refine PySem.W.callWith_K0 (I.kIn.keeps fun b o e => e) T.kC ?_
  exact run_oexB (us := []) (ys := g [] []) (kw := []) T iC tI F1 hr hx (I.tok _) (Nat.zero_le _) (hb.rel .nil .nil) (fun a s kin => hb.to s a [] [] kin rfl rfl) q2
end
/-- e.f, e an own error -/
def tOfld (K : PySem.W.Frag) (f : Str) (te : TE) : TE := fun σ H Q => te σ H fun x H1 => ∃ (a C d : Addr) (fs : List (Str × V)) (v : V), x = .ref a ∧ XfC K C ∧ PySem.W.findIn K (.ref C) f = some none ∧ H1 a = some (exo a C (some d)) ∧ H1 d = some (exd d fs) ∧ fs.lookup f = some v ∧ Q v H1
theorem pe_ofld {X : Cx} {e : Expr} {te : TE} {pos : Pos} {f : Str} (he : PE X e te) (hb : attributeBase e f X.env (eval e X.env) = eval e X.env := by rfl) : PE X (.Attribute e f pos) (tOfld X.K f te) := by
  refine ⟨fun pins s σ H Q I h => ?_⟩
  refine attr_of hb (thn (he.run pins s σ H _ I h) fun u s1 ⟨x, H1, I1, rx, a, C, d, fs, v, ex, T, no, ea, ed, l, q⟩ => ?_)
  subst ex
  obtain rfl : u = Value.ref a := rx
  obtain ⟨t1, ho⟩ := exo_at I1.hok ea
  obtain ⟨mA, ns, rel⟩ := exd_at I1.hok ed
  obtain ⟨od, hd, hl⟩ := lookIn_ns ns
  obtain ⟨u, hu, ru⟩ := RelO.some_of (v := v) (o := mA f) (by rw [← l]; exact rel f)
  exact HandSPX.exc_get I1.kIn (ox := { cls := .ref C, dict := some d, data := .fields #[.ref t1, .none, .none, .none, .bool false, .none] }) (od := some od) ⟨ho, rfl, rfl, hd⟩ T.ga T.gg T.exC (PySem.W.findObj_own T.hdC no rfl (by rw [hl, hu])) (handed_of ru) ⟨v, H1, I1.tok _, ru, q⟩
end LB

/-! ### == of nested lists, tuples and dicts -/
namespace LDe
open PySem L2 PySem.Spec PyProof.Rows
/-- two lists, two tuples, or two dicts, the parts alike by E -/
def EqB (K : PySem.W.Frag) (H : Hp) (E : V → V → Prop) (x y : V) : Prop :=
  EqR K H E x y ∨ ∃ a b xs ys, x = .ref a ∧ y = .ref b ∧ SqT K H a xs ∧ SqT K H b ys ∧ Paired E xs ys
def EqN (K : PySem.W.Frag) (H : Hp) : Nat → V → V → Prop
  | 0 => fun _ _ => False
  | n + 1 => fun x y => (x = y ∧ flatB x = true) ∨ (∃ a, x = .ref a ∧ y = .ref a) ∨ EqB K H (EqN K H n) x y
section
variable {X : Cx} {pins : List (Addr × Obj)} {σ : L2.St} {H : Hp} {s : Shared}
theorem eqB_run (I : L2.Inv X pins σ H s) {A : Around} {F : V → V → Prop} (hu : A.units < cLine) (ih : ∀ x y v u, F x y → RelV x v → RelV y u → SeqAt.EqP X.prog X.w A.in1 s v u true) {x y : V} {v u : Value} (h : EqB X.K H F x y) (rx : RelV x v) (ry : RelV y u)
    (E Q : Value → Shared → Prop) (q : Q (.bool true) s) : wpAny (model X.prog X.w) A (richCompare .Eq v u) Q E s := by
  rcases h with h | ⟨a, b, xs, ys, rfl, rfl, ha, hb, hp⟩
  · exact eqR_run I hu ih h rx ry E Q q
  · cases (show v = Value.ref a from rx)
    cases (show u = Value.ref b from ry)
    obtain ⟨us, r1, p1, _⟩ := I.tuple ha
    obtain ⟨ws, r2, p2, _⟩ := I.tuple hb
    have sz : us.toArray.size = ws.toArray.size := by
      rw [List.size_toArray, List.size_toArray, ← r1.length, ← r2.length]
      exact Paired.length hp
    refine GQ.rc_tupG sz hu (fun _ s' => s' = s) p1 p2 (fun i h1 h2 s' e => ?_) (fun s' e => by rw [e]; exact q) rfl
    subst e
    have k := items_run ih hp r1 r2 i (by simpa using h1) (by simpa using h2)
    have k : SeqAt.EqP X.prog X.w A.in1 s' us.toArray[i] ws.toArray[i] true := by simpa using k
    exact k _ _ ⟨rfl, rfl⟩
theorem eqN_run (I : L2.Inv X pins σ H s) : ∀ (n : Nat) (A : Around), A.units + n < cLine → ∀ (x y : V) (v u : Value), EqN X.K H n x y → RelV x v → RelV y u → SeqAt.EqP X.prog X.w A s v u true
  | 0, _, _, _, _, _, _, h, _, _ => (show False from h).elim
  | n + 1, A, hu, x, y, v, u, h, rx, ry => by
    rcases h with ⟨rfl, f⟩ | ⟨a, rfl, rfl⟩ | h
    · exact (eqAt_same rx ry f).eqP
    · cases (show v = Value.ref a from rx)
      cases (show u = Value.ref a from ry)
      exact (SeqAt.EqAt.same _).eqP
    have step := eqB_run I (A := A) (by omega) (eqN_run I n A.in1 (by show A.units + 1 + n < cLine; omega)) h rx ry
    obtain ⟨a, b, rfl, rfl⟩ : ∃ a b, x = .ref a ∧ y = .ref b := by
      rcases h with (⟨a, b, _, _, e1, e2, _⟩ | ⟨a, b, _, _, e1, e2, _⟩) | ⟨a, b, _, _, e1, e2, _⟩ <;> exact ⟨a, b, e1, e2⟩
    cases (show v = Value.ref a from rx)
    cases (show u = Value.ref b from ry)
    by_cases c : a = b
    · subst c
      exact (SeqAt.EqAt.same _).eqP
    · exact SeqAt.eqP_refs c step
end
/-- a == b, two lists, tuples or dicts that are equal -/
def rEqN (K : PySem.W.Frag) : R2 := fun x y H Q => ∃ n, n ≤ 60 ∧ EqB K H (EqN K H n) x y ∧ Q (.bl true) H
theorem op_eqN {X : Cx} (hu : X.A.units + 64 < cLine) : OpR X (compareOp .Eq) (rEqN X.K) := by
  intro pins s σ H x y v u Q I rx ry h
  obtain ⟨n, hn, h, q⟩ := h
  exact eqB_run I (A := X.A) (by omega) (eqN_run I n X.A.in1 (by show X.A.units + 1 + n < cLine; omega)) h rx ry _ _ ⟨.bl true, H, I, rfl, q⟩
end LDe

/-! ### own error classes over three built-in errors: one test a class -/
namespace LB
open PySem PySem.W PySem.Calls PyProof.Rows PySem.HandSPX
open Builtin Builtin.ObjectAttr
theorem store_LookupError : StoreFacts "LookupError" [.type "LookupError", .type "Exception", .type "BaseException", .type "object"] "object.__setattr__" "object" where
  mro := by kernel_rfl
  slot := .of (owner := "object") (n := "__setattr__") (by rw [typeLookup_type, builtinLookup_eq_fast]; kernel_rfl) (by decide +kernel) (by decide +kernel) (by decide +kernel)
    (by first | exact .inl (by decide +kernel) | exact .inr (by decide +kernel)) (by rw [isSubtype_type]; kernel_rfl)
  entry := F.entry_object_sa
  kind := by decide +kernel
  split := by decide +kernel
  hasOwner := by decide +kernel
  args := fun a b c => by unfold argsOk; kernel_rfl
  passes := fun self => by kernel_rfl
theorem store_RuntimeError : StoreFacts "RuntimeError" [.type "RuntimeError", .type "Exception", .type "BaseException", .type "object"] "object.__setattr__" "object" where
  mro := by kernel_rfl
  slot := .of (owner := "object") (n := "__setattr__") (by rw [typeLookup_type, builtinLookup_eq_fast]; kernel_rfl) (by decide +kernel) (by decide +kernel) (by decide +kernel)
    (by first | exact .inl (by decide +kernel) | exact .inr (by decide +kernel)) (by rw [isSubtype_type]; kernel_rfl)
  entry := F.entry_object_sa
  kind := by decide +kernel
  split := by decide +kernel
  hasOwner := by decide +kernel
  args := fun a b c => by unfold argsOk; kernel_rfl
  passes := fun self => by kernel_rfl
theorem tailV : Tail "ValueError" "ValueError.__new__" "ValueError.__init__" [.type "ValueError", .type "Exception", .type "BaseException", .type "object"] := ⟨F.excBase_ValueError, F.store_ValueError, by decide +kernel⟩
theorem tailL : Tail "LookupError" "LookupError.__new__" "LookupError.__init__" [.type "LookupError", .type "Exception", .type "BaseException", .type "object"] := ⟨F.excBase_LookupError, store_LookupError, by decide +kernel⟩
theorem tailR : Tail "RuntimeError" "RuntimeError.__new__" "RuntimeError.__init__" [.type "RuntimeError", .type "Exception", .type "BaseException", .type "object"] := ⟨F.excBase_RuntimeError, store_RuntimeError, by decide +kernel⟩
def tyB : List String → List Value → Bool
  | [], [] => true
  | n :: ns, .type m :: r => (n == m) && tyB ns r
  | _, _ => false
theorem tyB_ok : ∀ {ns : List String} {l : List Value}, tyB ns l = true → l = ns.map Value.type
  | [], [], _ => rfl
  | n :: ns, .type m :: r, h => by
    unfold tyB at h
    obtain ⟨h1, h2⟩ := Bool.and_eq_true_iff.mp h
    rw [tyB_ok h2, beq_iff_eq.mp h1]
    rfl
/-- own classes, then these -/
def overB (ns : List String) : List Value → Bool
  | .ref _ :: r => overB ns r
  | l => tyB ns l
theorem overB_ok {ns : List String} : ∀ {l : List Value}, overB ns l = true → Over (ns.map Value.type) l := by
  intro l
  induction l with
  | nil => intro h; exact ⟨[], tyB_ok h⟩
  | cons a r ih =>
    intro h
    by_cases c : ∃ x, a = .ref x
    · obtain ⟨x, rfl⟩ := c
      exact (ih h).cons x
    · exact ⟨[], by
        have h' : tyB ns (a :: r) = true := by
          cases a <;> first | exact h | exact absurd ⟨_, rfl⟩ c
        exact tyB_ok h'⟩
def exB (K : PySem.W.Frag) (C : Addr) : Bool := match K.lookup C with
  | some ⟨.type "type", _, .cls cd, sl⟩ => (match cd.mro, sl.toList with
    | .ref C' :: bm, [_, _, _, _, some (.builtin n), _] => C' == C && !cd.hasDel && cd.hasDict && (n == "ValueError.__new__" && overB ["ValueError", "Exception", "BaseException", "object"] bm || n == "LookupError.__new__" && overB ["LookupError", "Exception", "BaseException", "object"] bm || n == "RuntimeError.__new__" && overB ["RuntimeError", "Exception", "BaseException", "object"] bm)
    | _, _ => false)
  | _ => false
theorem ex_of {K : PySem.W.Frag} {C : Addr} (q : exB K C = true) : ∃ B nw ini tl nm q N bs bm sn sub ab col dd k0 k1 k2 k3 k5, K.lookup C = some (excClassObj nm q C N bs bm true sn sub ab col dd k0 k1 k2 k3 k5 nw) ∧ Tail B nw ini tl ∧ Over tl bm := by
  unfold exB at q
  split at q
  · rename_i dd cd sl ho
    split at q
    · rename_i C' bm k0 k1 k2 k3 n k5 hm hs
      simp only [Bool.and_eq_true, Bool.or_eq_true, beq_iff_eq, Bool.not_eq_true'] at q
      obtain ⟨⟨⟨rfl, hdel⟩, hdct⟩, ht⟩ := q
      obtain ⟨nm, bs, mro, ns, qn, hd, sn, sub, ab, col, del⟩ := cd
      dsimp only at hm hdel hdct
      subst hm hdel hdct
      have hsl : sl = #[k0, k1, k2, k3, some (.builtin n), k5] := by
        obtain ⟨l⟩ := sl
        simp only at hs
        rw [hs]
      subst hsl
      rcases ht with (⟨rfl, h⟩ | ⟨rfl, h⟩) | ⟨rfl, h⟩
      · exact ⟨_, _, _, _, nm, qn, ns, bs, bm, sn, sub, ab, col, dd, k0, k1, k2, k3, k5, ho, tailV, overB_ok h⟩
      · exact ⟨_, _, _, _, nm, qn, ns, bs, bm, sn, sub, ab, col, dd, k0, k1, k2, k3, k5, ho, tailL, overB_ok h⟩
      · exact ⟨_, _, _, _, nm, qn, ns, bs, bm, sn, sub, ab, col, dd, k0, k1, k2, k3, k5, ho, tailR, overB_ok h⟩
    · cases q
  · cases q
end LB
namespace LB
open PySem L2 PySem.Spec PyProof.Rows
/-- all that is told of one error class -/
def clsB (K : PySem.W.Frag) (C fI : Addr) (fs : List Str) : Bool :=
  exB K C && (decide (PySem.W.findIn K (.ref C) "__setattr__" = some (some (.builtin "object.__setattr__"))) && (decide (PySem.W.typeIn K (.ref C) = some (.type "type")) && (PySem.W.keepIn K (.ref C) && (decide (PySem.W.findIn K (.ref C) "__init__" = some (some (.ref fI))) &&
  (decide (PySem.W.typeIn K (.ref fI) = some (.type "function")) && (xfB K C && ((PySem.W.clsIn K C).isSome && (decide (PySem.W.findIn K (.ref C) "__class__" = some (some (.builtin "object.__class__"))) && (decide (PySem.W.mroIn K C (.type "object") = some true) && fs.all fun f => decide (PySem.W.findIn K (.ref C) f = some none))))))))))
theorem cls_of {K : PySem.W.Frag} {C fI : Addr} {fs : List Str} (hn : PySem.W.specialIn K (.builtin "object.__class__") "__get__" = some (some (.builtin "getset_descriptor.__get__"))) (htk : PySem.W.takesIn K (.builtin "object.__class__") = some true) (h : clsB K C fI fs = true) :
    OexB K C ∧ PySem.W.findIn K (.ref C) "__init__" = some (some (.ref fI)) ∧ PySem.W.typeIn K (.ref fI) = some (.type "function") ∧ XfC K C ∧ LC.IsC K C ∧ ∀ f ∈ fs, PySem.W.findIn K (.ref C) f = some none := by
  unfold clsB at h
  simp only [Bool.and_eq_true, decide_eq_true_eq, List.all_eq_true] at h
  obtain ⟨h1, h2, h3, h4, h5, h6, h7, h8, h9, h10, h11⟩ := h
  have X := xfB_ok h7
  exact ⟨⟨ex_of h1, h2, X.exC, h3, h4⟩, h5, h6, X, ⟨h8, X.ga, X.gg, X.exC, h9, hn, htk, h10⟩, h11⟩
end LB


/-! the head by facts: a Hook of one's own -/
namespace LH
open PySem PySem.Spec PyProof.Rows L2 He
/-- a def: where it stands, its text, its closure, its defaults -/
structure FnA where
  at_ : PySem.W.Frag → Addr
  name : Str
  qual : Str
  params : Arguments
  body : List Stmt
  scope : Scope
  clo : List (Str × (PySem.W.Frag → Addr)) := []
  dfl : List Dv := []
  kwd : List (Str × Dv) := []
abbrev FnZ : Type := Option (Str × Str × Arguments × FuncBody × Scope × Addr × Addr)
def fnZ (K : PySem.W.Frag) (a : Addr) : FnZ := match K.lookup a with
  | some ⟨_, _, .func fd, _⟩ => some (fd.name, fd.qualname, fd.params, fd.body, fd.scope, fd.globals, fd.builtins)
  | _ => none
def FnA.val (d : FnA) : FnZ := some (d.name, d.qual, d.params, .stmts d.body, d.scope, mainGlobals, builtinsNs)
def FnA.dvs (K : PySem.W.Frag) (d : FnA) : List V := d.dfl.map (Dv.v K)
def FnA.kws (K : PySem.W.Frag) (d : FnA) : List (Str × V) := d.kwd.map fun q => (q.1, q.2.v K)
def FnA.cls (K : PySem.W.Frag) (d : FnA) : List (Str × Addr) := d.clo.map fun q => (q.1, q.2 K)
def FnA.ok (K : PySem.W.Frag) (d : FnA) : Bool := PySem.W.keepIn K (.ref (d.at_ K)) && (match K.lookup (d.at_ K) with
  | some ⟨_, _, .func fd, _⟩ => PySem.W.codeIn K fd.code d.qual && (dflB K fd.defaults (d.dvs K) && (kwdB K fd.kwdefaults (d.kws K) && decide (fd.closure = d.cls K)))
  | _ => false)
theorem FnA.get {K : PySem.W.Frag} {d : FnA} (e : fnZ K (d.at_ K) = d.val) (c : d.ok K = true) :
    ∃ oc od dV kV doc pm an cdv ct osl, K.lookup (d.at_ K) = some ⟨oc, od, .func ⟨d.name, d.qual, d.params, .stmts d.body, d.scope, mainGlobals, d.cls K, dV, kV, doc, pm, an, cdv, ct, builtinsNs⟩, osl⟩ ∧ PySem.W.codeIn K cdv d.qual = true ∧ DflV K dV (d.dvs K) ∧ KwdV K kV (d.kws K) ∧ PySem.W.keepIn K (.ref (d.at_ K)) = true := by
  obtain ⟨kp, c2⟩ := ba c
  unfold fnZ at e
  cases q : K.lookup (d.at_ K) with
  | none =>
    rw [q] at c2
    cases c2
  | some o =>
    obtain ⟨oc, od, dt, osl⟩ := o
    rw [q] at c2 e
    cases dt with
    | func fd =>
      obtain ⟨n1, n2, n3, n4, n5, n6, n7, n8, n9, n10, n11, n12, n13, n14, n15⟩ := fd
      have e2 : (some (n1, n2, n3, n4, n5, n6, n15) : FnZ) = some (d.name, d.qual, d.params, .stmts d.body, d.scope, mainGlobals, builtinsNs) := e
      simp only [Option.some.injEq, Prod.mk.injEq] at e2
      obtain ⟨h1, h2, h3, h4, h5, h6, h8⟩ := e2
      subst h1 h2 h3 h4 h5 h6 h8
      have c3 : (PySem.W.codeIn K n13 d.qual && (dflB K n8 (d.dvs K) && (kwdB K n9 (d.kws K) && decide (n7 = d.cls K)))) = true := c2
      obtain ⟨k1, k2⟩ := ba c3
      obtain ⟨k3, k4⟩ := ba k2
      obtain ⟨k5, k6⟩ := ba k4
      have e7 := of_decide_eq_true k6
      subst e7
      exact ⟨oc, od, n8, n9, n10, n11, n12, n13, n14, osl, rfl, k1, dflB_ok k3, kwdB_ok k5, kp⟩
    | _ => cases c2
theorem dfl_none {K : PySem.W.Frag} {dV : Value} (h : DflV K dV []) : dV = .none := by
  rcases h with ⟨_, e⟩ | ⟨n, _⟩
  · exact e
  · exact absurd rfl n
/-- a def without closure -/
theorem FnA.plain {K : PySem.W.Frag} {d : FnA} (e : fnZ K (d.at_ K) = d.val) (c : d.ok K = true) (h0 : d.clo = []) :
    ∃ oc od dV kV doc pm an cdv ct osl, K.lookup (d.at_ K) = some ⟨oc, od, .func (PySem.W.fnOf d.name d.qual d.params d.body d.scope dV kV doc pm an cdv ct), osl⟩ ∧ PySem.W.codeIn K cdv d.qual = true ∧ DflV K dV (d.dvs K) ∧ KwdV K kV (d.kws K) ∧ PySem.W.keepIn K (.ref (d.at_ K)) = true := by
  obtain ⟨oc, od, dV, kV, doc, pm, an, cdv, ct, osl, h1, h⟩ := FnA.get e c
  have e0 : d.cls K = [] := by unfold FnA.cls; rw [h0]; rfl
  rw [e0] at h1
  exact ⟨oc, od, dV, kV, doc, pm, an, cdv, ct, osl, h1, h⟩
/-- .. without defaults -/
theorem FnA.bare {K : PySem.W.Frag} {d : FnA} (e : fnZ K (d.at_ K) = d.val) (c : d.ok K = true) (h0 : d.clo = []) (h1 : d.dfl = []) :
    ∃ oc od kV doc pm an cdv ct osl, K.lookup (d.at_ K) = some ⟨oc, od, .func (PySem.W.fnOf d.name d.qual d.params d.body d.scope .none kV doc pm an cdv ct), osl⟩ ∧ PySem.W.codeIn K cdv d.qual = true ∧ PySem.W.keepIn K (.ref (d.at_ K)) = true := by
  obtain ⟨oc, od, dV, kV, doc, pm, an, cdv, ct, osl, l, c, dd, _, kp⟩ := FnA.plain e c h0
  have e1 : d.dvs K = [] := by unfold FnA.dvs; rw [h1]; rfl
  rw [e1] at dd
  rw [dfl_none dd] at l
  exact ⟨oc, od, kV, doc, pm, an, cdv, ct, osl, l, c, kp⟩
theorem FnA.funD {K : PySem.W.Frag} {d : FnA} (e : fnZ K (d.at_ K) = d.val) (c : d.ok K = true) (h0 : d.clo = []) : ∃ fd, FunD K d.name d.qual d.params d.body d.scope (d.dvs K) (d.kws K) (d.at_ K) fd := by
  obtain ⟨oc, od, dV, kV, doc, pm, an, cdv, ct, osl, l, cd, dd, kk, kp⟩ := FnA.plain e c h0
  exact ⟨_, ⟨oc, od, dV, kV, doc, pm, an, cdv, ct, osl, rfl, l, cd, dd, kk⟩, kp⟩
/-! ### addresses -/
/-- a property's getter -/
def getr (K : PySem.W.Frag) (p : Addr) : Addr := match PySem.W.recIn K p "property" with
  | some (.ref f :: _) => f
  | _ => 0
def propB (K : PySem.W.Frag) (p : Addr) : Bool := match PySem.W.recIn K p "property" with
  | some (.ref _ :: _) => true
  | _ => false
theorem prop_ok {K : PySem.W.Frag} {p : Addr} (h : propB K p = true) : ∃ r, PySem.W.recIn K p "property" = some (.ref (getr K p) :: r) := by
  unfold propB at h
  unfold getr
  split at h
  · next f r e => exact ⟨r, by rw [e]⟩
  · cases h
def codeAt (K : PySem.W.Frag) (a : Addr) : Addr := match K.lookup a with
  | some ⟨_, _, .func fd, _⟩ => (match fd.code with
    | .ref c => c
    | _ => 0)
  | _ => 0
def tabAt (K : PySem.W.Frag) (a : Addr) : Addr := tabOf K (codeAt K a)
theorem code_at {K : PySem.W.Frag} {a : Addr} {oc : Value} {od : Option Addr} {osl : Array (Option Value)} {fd : FuncData} (l : K.lookup a = some ⟨oc, od, .func fd, osl⟩) {q : Str} (h : PySem.W.codeIn K fd.code q = true) : fd.code = .ref (codeAt K a) := by
  obtain ⟨c, e⟩ := codeIn_ref h
  unfold codeAt
  rw [l]
  show fd.code = .ref (match fd.code with | .ref c => c | _ => 0)
  rw [e]
/-- an own error's class over ValueError -/
def oexB (K : PySem.W.Frag) (C : Addr) : Bool := match K.lookup C with
  | some ⟨.type "type", _, .cls cd, sl⟩ => (match cd.mro, sl.toList with
    | .ref C' :: bm, [_, _, _, _, some (.builtin n), _] => C' == C && n == "ValueError.__new__" && !cd.hasDel && cd.hasDict && PySem.HandSPX.refsVE bm
    | _, _ => false)
  | _ => false
theorem oex_of {K : PySem.W.Frag} {C : Addr} (q : oexB K C = true) : ∃ nm q N bs bm sn sub ab col dd k0 k1 k2 k3 k5, K.lookup C = some (excClassObj nm q C N bs bm true sn sub ab col dd k0 k1 k2 k3 k5 "ValueError.__new__") ∧ PySem.HandSPX.refsVE bm = true := by
  unfold oexB at q
  split at q
  · rename_i dd cd sl ho
    split at q
    · rename_i C' bm k0 k1 k2 k3 n k5 hm hs
      simp only [Bool.and_eq_true, beq_iff_eq, Bool.not_eq_true'] at q
      obtain ⟨⟨⟨⟨rfl, rfl⟩, hdel⟩, hdct⟩, ht⟩ := q
      obtain ⟨nm, bs, mro, ns, qn, hd, sn, sub, ab, col, del⟩ := cd
      dsimp only at hm hdel hdct
      subst hm hdel hdct
      have hsl : sl = #[k0, k1, k2, k3, some (.builtin "ValueError.__new__"), k5] := by
        obtain ⟨l⟩ := sl
        simp only at hs
        rw [hs]
      subst hsl
      exact ⟨nm, qn, ns, bs, bm, sn, sub, ab, col, dd, k0, k1, k2, k3, k5, ho, ht⟩
    · cases q
  · cases q
/-- a class constant that an int is, as the class itself tells it -/
def cvB (K : PySem.W.Frag) (C : Addr) (mc : Value) (f : Str) (v : V) : Bool := match PySem.W.findCls K (.ref C) mc f with
  | some (.val u) => relB v u
  | _ => false
theorem cv_ok {K : PySem.W.Frag} {C : Addr} {mc : Value} {f : Str} {v : V} (h : cvB K C mc f v = true) : ∃ u, PySem.W.findCls K (.ref C) mc f = some (.val u) ∧ RelV v u := by
  unfold cvB at h
  split at h
  · next u e => exact ⟨u, e, relB_ok h⟩
  · cases h
/-- a constant of a class, as an instance tells it -/
def coB (K : PySem.W.Frag) (C : Addr) (f : Str) (v : V) : Bool := match PySem.W.findIn K (.ref C) f with
  | some (some u) => relB v u && eqO (PySem.W.specialIn K u "__get__") (some none)
  | _ => false
theorem co_ok {K : PySem.W.Frag} {C : Addr} {f : Str} {v : V} (h : coB K C f v = true) (hc : PySem.W.copiedNames.contains f = false := by decide) : ∃ u, Con K C f v u := by
  unfold coB at h
  split at h
  · next u e =>
    obtain ⟨h1, h2⟩ := ba h
    exact ⟨u, e, relB_ok h1, eqO_ok h2, hc⟩
  · cases h
/-- a tuple of plain values -/
def relsB : List V → List Value → Bool
  | [], [] => true
  | v :: vs, u :: us => relB v u && relsB vs us
  | _, _ => false
theorem relsB_ok : ∀ {vs : List V} {us : List Value}, relsB vs us = true → Vals vs us
  | [], [], _ => .nil
  | _ :: _, _ :: _, h => .cons (relB_ok (ba h).1) (relsB_ok (ba h).2)
def tupB (K : PySem.W.Frag) (a : Addr) (vs : List V) : Bool := match K.lookup a with
  | some ⟨.type "tuple", _, .seq its _, _⟩ => decide (its.size ≤ sizeLine) && relsB vs its.toList
  | _ => false
theorem tup_ok {K : PySem.W.Frag} {a : Addr} {vs : List V} (h : tupB K a vs = true) : ∃ (o : Obj) (its : Array Value) (n : Nat), K.lookup a = some o ∧ o.cls = .type "tuple" ∧ o.data = .seq its n ∧ its.size ≤ sizeLine ∧ Vals vs its.toList := by
  unfold tupB at h
  split at h
  · next its n sl e =>
    obtain ⟨h1, h2⟩ := ba h
    exact ⟨_, its, n, e, rfl, rfl, of_decide_eq_true h1, relsB_ok h2⟩
  · cases h
/-! ### constants of the module -/
def intB (K : PySem.W.Frag) (x : Str) (i : Int) : Bool := (Fa.int x i).ok K
def strB (K : PySem.W.Frag) (x z : Str) : Bool := (Fa.str x z).ok K
/-! ### the Hook -/
structure Says (fn : List FnA) (ex : PySem.W.Frag → List Bool) (tf : List (PySem.W.Frag → Addr)) (h : Heap) (K : PySem.W.Frag) : Prop where
  fns : fn.map (fun d => fnZ K (d.at_ K)) = fn.map FnA.val
  oks : fn.all (fun d => d.ok K) = true
  more : (ex K).all id = true
  hd : ∀ f ∈ tf, PySem.W.codeHdIn K (codeAt K (f K)) (tabAt K (f K)) = true
  out : ∀ f ∈ tf, K.lookup (tabAt K (f K)) = none
  empty : ∀ f ∈ tf, h.get? (tabAt K (f K)) = some { cls := .none, data := .fields #[] }
def tabsB (g : Addr → Option Obj) (tf : List (PySem.W.Frag → Addr)) (K : PySem.W.Frag) : Bool := tf.all fun f => PySem.W.codeHdIn K (codeAt K (f K)) (tabAt K (f K)) && (match g (tabAt K (f K)) with
  | some o => emptyTab o
  | none => false)
/-- the addresses that are looked at -/
def asZ (g : Addr → Option Obj) (n : Nat) : List Addr := cStatics :: asD g n
abbrev AlZ : Type := List FnZ × Bool
def obsZ (n : Nat) (fn : List FnA) (ex : PySem.W.Frag → List Bool) (tf : List (PySem.W.Frag → Addr)) (g : Addr → Option Obj) : AlZ :=
  (fn.map fun d => fnZ (frT g (asZ g n)) (d.at_ (frT g (asZ g n))), fn.all (fun d => d.ok (frT g (asZ g n))) && ((ex (frT g (asZ g n))).all id && tabsB g tf (frT g (asZ g n))))
def valZ (fn : List FnA) : AlZ := (fn.map FnA.val, true)
theorem says_of {n : Nat} {fn : List FnA} {ex : PySem.W.Frag → List Bool} {tf : List (PySem.W.Frag → Addr)} {h : Heap} (e : obsZ n fn ex tf h.get? = valZ fn) : Says fn ex tf h (frT h.get? (asZ h.get? n)) := by
  have e1 : fn.map (fun d => fnZ (frT h.get? (asZ h.get? n)) (d.at_ (frT h.get? (asZ h.get? n)))) = fn.map FnA.val := congrArg (fun z : AlZ => z.1) e
  have e2 : (fn.all (fun d => d.ok (frT h.get? (asZ h.get? n))) && ((ex (frT h.get? (asZ h.get? n))).all id && tabsB h.get? tf (frT h.get? (asZ h.get? n)))) = true := congrArg (fun z : AlZ => z.2) e
  obtain ⟨h1, h2⟩ := ba e2
  obtain ⟨h3, h4⟩ := ba h2
  have key : ∀ f ∈ tf, PySem.W.codeHdIn (frT h.get? (asZ h.get? n)) (codeAt (frT h.get? (asZ h.get? n)) (f (frT h.get? (asZ h.get? n)))) (tabAt (frT h.get? (asZ h.get? n)) (f (frT h.get? (asZ h.get? n)))) = true ∧ ∃ o, h.get? (tabAt (frT h.get? (asZ h.get? n)) (f (frT h.get? (asZ h.get? n)))) = some o ∧ emptyTab o = true := fun f hf => by
    obtain ⟨h5, h6⟩ := ba (List.all_eq_true.mp h4 f hf)
    refine ⟨h5, ?_⟩
    cases q : h.get? (tabAt (frT h.get? (asZ h.get? n)) (f (frT h.get? (asZ h.get? n)))) with
    | none =>
      rw [q] at h6
      cases h6
    | some o =>
      rw [q] at h6
      exact ⟨o, rfl, h6⟩
  exact ⟨e1, h1, h3, fun f hf => (key f hf).1, fun f hf => by
    obtain ⟨_, o, q, z⟩ := key f hf
    exact frT_none q z, fun f hf => by
    obtain ⟨_, o, q, z⟩ := key f hf
    rw [q, emptyTab_eq z]⟩
def hookZ (n : Nat) (fn : List FnA) (ex : PySem.W.Frag → List Bool) (tf : List (PySem.W.Frag → Addr)) : PySem.W.Hook where
  α := AlZ
  obs := fun s => obsZ n fn ex tf s.heap.get?
  val := fun _ => valZ fn
  says := fun _ h => ∃ K : PySem.W.Frag, K.In h ∧ Says fn ex tf h K
  of := fun _ _ e => ⟨_, frT_in, says_of e⟩
  keeps := fun _ _ _ ⟨K, hK, c⟩ k => ⟨K, PySem.W.Frag.In.keeps hK k, ⟨c.fns, c.oks, c.more, c.hd, c.out, fun f hf => k _ _ (c.empty f hf)⟩⟩
theorem obsZ_eq {n : Nat} {fn : List FnA} {ex : PySem.W.Frag → List Bool} {tf : List (PySem.W.Frag → Addr)} {g : Addr → Option Obj} {s : Shared} (h : ∀ a, g a = s.heap.get? a) : obsZ n fn ex tf g = (hookZ n fn ex tf).obs s := by
  have e : g = s.heap.get? := funext h
  rw [e] <;> rfl
section
variable {fn : List FnA} {ex : PySem.W.Frag → List Bool} {tf : List (PySem.W.Frag → Addr)} {h : Heap} {K : PySem.W.Frag}
theorem Says.b (c : Says fn ex tf h K) (i : Nat) {b : Bool} (e : (ex K)[i]? = some b := by rfl) : b = true := List.all_eq_true.mp c.more b (List.mem_of_getElem? e)
theorem Says.f (c : Says fn ex tf h K) (i : Nat) {d : FnA} (e : fn[i]? = some d := by rfl) : fnZ K (d.at_ K) = d.val ∧ d.ok K = true := by
  have e2 : (fn.map fun d => fnZ K (d.at_ K))[i]? = (fn.map FnA.val)[i]? := by rw [c.fns]
  rw [List.getElem?_map, List.getElem?_map, e] at e2
  exact ⟨Option.some.inj e2, List.all_eq_true.mp c.oks d (List.mem_of_getElem? e)⟩
end
end LH

namespace k00
open PySem L2 LC
def top (i : Nat) : Stmt := PySem.Challenge.pw_surelet_k00_errors_by_themselves.main.body.getD i (.Pass ⟨0, 0, 0, 0⟩)
abbrev sInvalidNumber_init : Stmt := inClass (top 4) 0
abbrev NmInvalidNumber_init : List Str := ["self", "value"]
abbrev PInvalidNumber_init : List Str := ["self", "value"]
theorem scInvalidNumber_init : FnScope NmInvalidNumber_init PInvalidNumber_init (defScope sInvalidNumber_init) := ⟨rfl, rfl, rfl, by decide +kernel, rfl, by decide +kernel, by decide +kernel⟩
abbrev sInvalidName_init : Stmt := inClass (top 5) 0
abbrev NmInvalidName_init : List Str := ["self", "value"]
abbrev PInvalidName_init : List Str := ["self", "value"]
theorem scInvalidName_init : FnScope NmInvalidName_init PInvalidName_init (defScope sInvalidName_init) := ⟨rfl, rfl, rfl, by decide +kernel, rfl, by decide +kernel, by decide +kernel⟩
abbrev sInvalidText_init : Stmt := inClass (top 6) 0
abbrev NmInvalidText_init : List Str := ["self", "text"]
abbrev PInvalidText_init : List Str := ["self", "text"]
theorem scInvalidText_init : FnScope NmInvalidText_init PInvalidText_init (defScope sInvalidText_init) := ⟨rfl, rfl, rfl, by decide +kernel, rfl, by decide +kernel, by decide +kernel⟩
abbrev sInvalidBorders_init : Stmt := inClass (top 7) 0
abbrev NmInvalidBorders_init : List Str := ["self", "at"]
abbrev PInvalidBorders_init : List Str := ["self", "at"]
theorem scInvalidBorders_init : FnScope NmInvalidBorders_init PInvalidBorders_init (defScope sInvalidBorders_init) := ⟨rfl, rfl, rfl, by decide +kernel, rfl, by decide +kernel, by decide +kernel⟩
abbrev sInvalidRest_init : Stmt := inClass (top 8) 0
abbrev NmInvalidRest_init : List Str := ["self", "value"]
abbrev PInvalidRest_init : List Str := ["self", "value"]
theorem scInvalidRest_init : FnScope NmInvalidRest_init PInvalidRest_init (defScope sInvalidRest_init) := ⟨rfl, rfl, rfl, by decide +kernel, rfl, by decide +kernel, by decide +kernel⟩
abbrev sInvalidRule_init : Stmt := inClass (top 9) 0
abbrev NmInvalidRule_init : List Str := ["self", "value"]
abbrev PInvalidRule_init : List Str := ["self", "value"]
theorem scInvalidRule_init : FnScope NmInvalidRule_init PInvalidRule_init (defScope sInvalidRule_init) := ⟨rfl, rfl, rfl, by decide +kernel, rfl, by decide +kernel, by decide +kernel⟩
abbrev sInvalidPlace_init : Stmt := inClass (top 10) 0
abbrev NmInvalidPlace_init : List Str := ["self", "at"]
abbrev PInvalidPlace_init : List Str := ["self", "at"]
theorem scInvalidPlace_init : FnScope NmInvalidPlace_init PInvalidPlace_init (defScope sInvalidPlace_init) := ⟨rfl, rfl, rfl, by decide +kernel, rfl, by decide +kernel, by decide +kernel⟩
abbrev sInvalidServer_init : Stmt := inClass (top 11) 0
abbrev NmInvalidServer_init : List Str := ["self", "at"]
abbrev PInvalidServer_init : List Str := ["self", "at"]
theorem scInvalidServer_init : FnScope NmInvalidServer_init PInvalidServer_init (defScope sInvalidServer_init) := ⟨rfl, rfl, rfl, by decide +kernel, rfl, by decide +kernel, by decide +kernel⟩
abbrev sInvalidTree_init : Stmt := inClass (top 12) 0
abbrev NmInvalidTree_init : List Str := ["self", "at"]
abbrev PInvalidTree_init : List Str := ["self", "at"]
theorem scInvalidTree_init : FnScope NmInvalidTree_init PInvalidTree_init (defScope sInvalidTree_init) := ⟨rfl, rfl, rfl, by decide +kernel, rfl, by decide +kernel, by decide +kernel⟩
abbrev sInvalidCustomer_init : Stmt := inClass (top 13) 0
abbrev NmInvalidCustomer_init : List Str := ["self", "at"]
abbrev PInvalidCustomer_init : List Str := ["self", "at"]
theorem scInvalidCustomer_init : FnScope NmInvalidCustomer_init PInvalidCustomer_init (defScope sInvalidCustomer_init) := ⟨rfl, rfl, rfl, by decide +kernel, rfl, by decide +kernel, by decide +kernel⟩
abbrev sInvalidRoom_init : Stmt := inClass (top 14) 0
abbrev NmInvalidRoom_init : List Str := ["self", "at"]
abbrev PInvalidRoom_init : List Str := ["self", "at"]
theorem scInvalidRoom_init : FnScope NmInvalidRoom_init PInvalidRoom_init (defScope sInvalidRoom_init) := ⟨rfl, rfl, rfl, by decide +kernel, rfl, by decide +kernel, by decide +kernel⟩
abbrev sInvalidRow_init : Stmt := inClass (top 15) 0
abbrev NmInvalidRow_init : List Str := ["self", "at"]
abbrev PInvalidRow_init : List Str := ["self", "at"]
theorem scInvalidRow_init : FnScope NmInvalidRow_init PInvalidRow_init (defScope sInvalidRow_init) := ⟨rfl, rfl, rfl, by decide +kernel, rfl, by decide +kernel, by decide +kernel⟩
abbrev sInvalidParts_init : Stmt := inClass (top 16) 0
abbrev NmInvalidParts_init : List Str := ["self", "value"]
abbrev PInvalidParts_init : List Str := ["self", "value"]
theorem scInvalidParts_init : FnScope NmInvalidParts_init PInvalidParts_init (defScope sInvalidParts_init) := ⟨rfl, rfl, rfl, by decide +kernel, rfl, by decide +kernel, by decide +kernel⟩
abbrev sInvalidCut_init : Stmt := inClass (top 17) 0
abbrev NmInvalidCut_init : List Str := ["self", "at"]
abbrev PInvalidCut_init : List Str := ["self", "at"]
theorem scInvalidCut_init : FnScope NmInvalidCut_init PInvalidCut_init (defScope sInvalidCut_init) := ⟨rfl, rfl, rfl, by decide +kernel, rfl, by decide +kernel, by decide +kernel⟩
abbrev sInvalidDeed_init : Stmt := inClass (top 18) 0
abbrev NmInvalidDeed_init : List Str := ["self", "value"]
abbrev PInvalidDeed_init : List Str := ["self", "value"]
theorem scInvalidDeed_init : FnScope NmInvalidDeed_init PInvalidDeed_init (defScope sInvalidDeed_init) := ⟨rfl, rfl, rfl, by decide +kernel, rfl, by decide +kernel, by decide +kernel⟩
abbrev sInvalidEvent_init : Stmt := inClass (top 19) 0
abbrev NmInvalidEvent_init : List Str := ["self", "value"]
abbrev PInvalidEvent_init : List Str := ["self", "value"]
theorem scInvalidEvent_init : FnScope NmInvalidEvent_init PInvalidEvent_init (defScope sInvalidEvent_init) := ⟨rfl, rfl, rfl, by decide +kernel, rfl, by decide +kernel, by decide +kernel⟩
abbrev sBadTree_init : Stmt := inClass (top 20) 0
abbrev NmBadTree_init : List Str := ["self", "place"]
abbrev PBadTree_init : List Str := ["self", "place"]
theorem scBadTree_init : FnScope NmBadTree_init PBadTree_init (defScope sBadTree_init) := ⟨rfl, rfl, rfl, by decide +kernel, rfl, by decide +kernel, by decide +kernel⟩
abbrev sBadReading_init : Stmt := inClass (top 21) 0
abbrev NmBadReading_init : List Str := ["self", "server", "reading"]
abbrev PBadReading_init : List Str := ["self", "server", "reading"]
theorem scBadReading_init : FnScope NmBadReading_init PBadReading_init (defScope sBadReading_init) := ⟨rfl, rfl, rfl, by decide +kernel, rfl, by decide +kernel, by decide +kernel⟩
abbrev sBadMoment_init : Stmt := inClass (top 22) 0
abbrev NmBadMoment_init : List Str := ["self", "moment"]
abbrev PBadMoment_init : List Str := ["self", "moment"]
theorem scBadMoment_init : FnScope NmBadMoment_init PBadMoment_init (defScope sBadMoment_init) := ⟨rfl, rfl, rfl, by decide +kernel, rfl, by decide +kernel, by decide +kernel⟩
abbrev sTooMany_init : Stmt := inClass (top 23) 0
abbrev NmTooMany_init : List Str := ["self", "what", "count"]
abbrev PTooMany_init : List Str := ["self", "what", "count"]
theorem scTooMany_init : FnScope NmTooMany_init PTooMany_init (defScope sTooMany_init) := ⟨rfl, rfl, rfl, by decide +kernel, rfl, by decide +kernel, by decide +kernel⟩
abbrev sOver_init : Stmt := inClass (top 24) 0
abbrev NmOver_init : List Str := ["self", "value"]
abbrev POver_init : List Str := ["self", "value"]
theorem scOver_init : FnScope NmOver_init POver_init (defScope sOver_init) := ⟨rfl, rfl, rfl, by decide +kernel, rfl, by decide +kernel, by decide +kernel⟩
abbrev sNotHeld_init : Stmt := inClass (top 25) 0
abbrev NmNotHeld_init : List Str := ["self", "place", "n"]
abbrev PNotHeld_init : List Str := ["self", "place", "n"]
theorem scNotHeld_init : FnScope NmNotHeld_init PNotHeld_init (defScope sNotHeld_init) := ⟨rfl, rfl, rfl, by decide +kernel, rfl, by decide +kernel, by decide +kernel⟩
abbrev sNoElder_init : Stmt := inClass (top 26) 0
abbrev NmNoElder_init : List Str := ["self", "place"]
abbrev PNoElder_init : List Str := ["self", "place"]
theorem scNoElder_init : FnScope NmNoElder_init PNoElder_init (defScope sNoElder_init) := ⟨rfl, rfl, rfl, by decide +kernel, rfl, by decide +kernel, by decide +kernel⟩
abbrev sWrongLetter_init : Stmt := inClass (top 27) 0
abbrev NmWrongLetter_init : List Str := ["self", "letter"]
abbrev PWrongLetter_init : List Str := ["self", "letter"]
theorem scWrongLetter_init : FnScope NmWrongLetter_init PWrongLetter_init (defScope sWrongLetter_init) := ⟨rfl, rfl, rfl, by decide +kernel, rfl, by decide +kernel, by decide +kernel⟩
abbrev sElsewhere_init : Stmt := inClass (top 28) 0
abbrev NmElsewhere_init : List Str := ["self", "room"]
abbrev PElsewhere_init : List Str := ["self", "room"]
theorem scElsewhere_init : FnScope NmElsewhere_init PElsewhere_init (defScope sElsewhere_init) := ⟨rfl, rfl, rfl, by decide +kernel, rfl, by decide +kernel, by decide +kernel⟩
abbrev sNotLacking_init : Stmt := inClass (top 29) 0
abbrev NmNotLacking_init : List Str := ["self", "ready"]
abbrev PNotLacking_init : List Str := ["self", "ready"]
theorem scNotLacking_init : FnScope NmNotLacking_init PNotLacking_init (defScope sNotLacking_init) := ⟨rfl, rfl, rfl, by decide +kernel, rfl, by decide +kernel, by decide +kernel⟩
abbrev sNotSettled_init : Stmt := inClass (top 30) 0
abbrev NmNotSettled_init : List Str := ["self"]
abbrev PNotSettled_init : List Str := ["self"]
theorem scNotSettled_init : FnScope NmNotSettled_init PNotSettled_init (defScope sNotSettled_init) := ⟨rfl, rfl, rfl, by decide +kernel, rfl, by decide +kernel, by decide +kernel⟩
abbrev sEarly_init : Stmt := inClass (top 31) 0
abbrev NmEarly_init : List Str := ["self", "at"]
abbrev PEarly_init : List Str := ["self", "at"]
theorem scEarly_init : FnScope NmEarly_init PEarly_init (defScope sEarly_init) := ⟨rfl, rfl, rfl, by decide +kernel, rfl, by decide +kernel, by decide +kernel⟩
abbrev sNotPrompt_init : Stmt := inClass (top 32) 0
abbrev NmNotPrompt_init : List Str := ["self", "at"]
abbrev PNotPrompt_init : List Str := ["self", "at"]
theorem scNotPrompt_init : FnScope NmNotPrompt_init PNotPrompt_init (defScope sNotPrompt_init) := ⟨rfl, rfl, rfl, by decide +kernel, rfl, by decide +kernel, by decide +kernel⟩
abbrev sRefused_init : Stmt := inClass (top 33) 0
abbrev NmRefused_init : List Str := ["self", "at"]
abbrev PRefused_init : List Str := ["self", "at"]
theorem scRefused_init : FnScope NmRefused_init PRefused_init (defScope sRefused_init) := ⟨rfl, rfl, rfl, by decide +kernel, rfl, by decide +kernel, by decide +kernel⟩
abbrev sUnknownName_init : Stmt := inClass (top 34) 0
abbrev NmUnknownName_init : List Str := ["self", "name"]
abbrev PUnknownName_init : List Str := ["self", "name"]
theorem scUnknownName_init : FnScope NmUnknownName_init PUnknownName_init (defScope sUnknownName_init) := ⟨rfl, rfl, rfl, by decide +kernel, rfl, by decide +kernel, by decide +kernel⟩
abbrev sUnknownLot_init : Stmt := inClass (top 35) 0
abbrev NmUnknownLot_init : List Str := ["self", "place", "number"]
abbrev PUnknownLot_init : List Str := ["self", "place", "number"]
theorem scUnknownLot_init : FnScope NmUnknownLot_init PUnknownLot_init (defScope sUnknownLot_init) := ⟨rfl, rfl, rfl, by decide +kernel, rfl, by decide +kernel, by decide +kernel⟩
abbrev sUnknownLoan_init : Stmt := inClass (top 36) 0
abbrev NmUnknownLoan_init : List Str := ["self", "number"]
abbrev PUnknownLoan_init : List Str := ["self", "number"]
theorem scUnknownLoan_init : FnScope NmUnknownLoan_init PUnknownLoan_init (defScope sUnknownLoan_init) := ⟨rfl, rfl, rfl, by decide +kernel, rfl, by decide +kernel, by decide +kernel⟩
abbrev sNoSuchLetter_init : Stmt := inClass (top 37) 0
abbrev NmNoSuchLetter_init : List Str := ["self", "index"]
abbrev PNoSuchLetter_init : List Str := ["self", "index"]
theorem scNoSuchLetter_init : FnScope NmNoSuchLetter_init PNoSuchLetter_init (defScope sNoSuchLetter_init) := ⟨rfl, rfl, rfl, by decide +kernel, rfl, by decide +kernel, by decide +kernel⟩
abbrev sFallen_init : Stmt := inClass (top 38) 0
abbrev NmFallen_init : List Str := ["self", "name"]
abbrev PFallen_init : List Str := ["self", "name"]
theorem scFallen_init : FnScope NmFallen_init PFallen_init (defScope sFallen_init) := ⟨rfl, rfl, rfl, by decide +kernel, rfl, by decide +kernel, by decide +kernel⟩
abbrev sNotFallen_init : Stmt := inClass (top 39) 0
abbrev NmNotFallen_init : List Str := ["self", "name"]
abbrev PNotFallen_init : List Str := ["self", "name"]
theorem scNotFallen_init : FnScope NmNotFallen_init PNotFallen_init (defScope sNotFallen_init) := ⟨rfl, rfl, rfl, by decide +kernel, rfl, by decide +kernel, by decide +kernel⟩
abbrev sbag : Stmt := top 41
abbrev Nmbag : List Str := ["_law_script", "_law_seed", "_law_item"]
abbrev Pbag : List Str := ["_law_script"]
theorem scbag : FnScope Nmbag Pbag (defScope sbag) := ⟨rfl, rfl, rfl, by decide +kernel, rfl, by decide +kernel, by decide +kernel⟩
abbrev sdraw : Stmt := top 42
abbrev Nmdraw : List Str := ["_law_bag_here", "_law_limit", "_law_item", "_law_digit"]
abbrev Pdraw : List Str := ["_law_bag_here", "_law_limit"]
theorem scdraw : FnScope Nmdraw Pdraw (defScope sdraw) := ⟨rfl, rfl, rfl, by decide +kernel, rfl, by decide +kernel, by decide +kernel⟩
abbrev sof : Stmt := top 43
abbrev Nmof : List Str := ["_law_bag_here", "_law_things"]
abbrev Pof : List Str := ["_law_bag_here", "_law_things"]
theorem scof : FnScope Nmof Pof (defScope sof) := ⟨rfl, rfl, rfl, by decide +kernel, rfl, by decide +kernel, by decide +kernel⟩
abbrev slike : Stmt := top 44
abbrev Nmlike : List Str := ["_law_told_here", "_law_due_here", "_law_a", "_law_b"]
abbrev Plike : List Str := ["_law_told_here", "_law_due_here"]
theorem sclike : FnScope Nmlike Plike (defScope slike) := ⟨rfl, rfl, rfl, by decide +kernel, rfl, by decide +kernel, by decide +kernel⟩
abbrev swords : Stmt := top 51
abbrev Nmwords : List Str := ["_law_pick"]
abbrev Pwords : List Str := ["_law_pick"]
theorem scwords : FnScope Nmwords Pwords (defScope swords) := ⟨rfl, rfl, rfl, by decide +kernel, rfl, by decide +kernel, by decide +kernel⟩
abbrev sdue : Stmt := top 52
abbrev Nmdue : List Str := ["_law_pick"]
abbrev Pdue : List Str := ["_law_pick"]
theorem scdue : FnScope Nmdue Pdue (defScope sdue) := ⟨rfl, rfl, rfl, by decide +kernel, rfl, by decide +kernel, by decide +kernel⟩
abbrev sfirst : Stmt := top 45
abbrev Nmfirst : List Str := ["_law_pick", "_law_a", "_law_way"]
abbrev Pfirst : List Str := ["_law_pick", "_law_a", "_law_way"]
theorem scfirst : FnScope Nmfirst Pfirst (defScope sfirst) := ⟨rfl, rfl, rfl, by decide +kernel, rfl, by decide +kernel, by decide +kernel⟩
abbrev ssecond : Stmt := top 46
abbrev Nmsecond : List Str := ["_law_pick", "_law_a", "_law_way"]
abbrev Psecond : List Str := ["_law_pick", "_law_a", "_law_way"]
theorem scsecond : FnScope Nmsecond Psecond (defScope ssecond) := ⟨rfl, rfl, rfl, by decide +kernel, rfl, by decide +kernel, by decide +kernel⟩
abbrev sboth : Stmt := top 47
abbrev Nmboth : List Str := ["_law_pick", "_law_a", "_law_b", "_law_way"]
abbrev Pboth : List Str := ["_law_pick", "_law_a", "_law_b", "_law_way"]
theorem scboth : FnScope Nmboth Pboth (defScope sboth) := ⟨rfl, rfl, rfl, by decide +kernel, rfl, by decide +kernel, by decide +kernel⟩
abbrev stold : Stmt := top 48
abbrev Nmtold : List Str := ["_law_error", "_law_words_here", "_law_some", "_law_word"]
abbrev Ptold : List Str := ["_law_error", "_law_words_here"]
theorem sctold : FnScope Nmtold Ptold (defScope stold) := ⟨rfl, rfl, rfl, by decide +kernel, rfl, by decide +kernel, by decide +kernel⟩
abbrev skinds : Stmt := top 49
abbrev Nmkinds : List Str := ["_law_error", "_law_some", "_law_pair"]
abbrev Pkinds : List Str := ["_law_error"]
theorem sckinds : FnScope Nmkinds Pkinds (defScope skinds) := ⟨rfl, rfl, rfl, by decide +kernel, rfl, by decide +kernel, by decide +kernel⟩
abbrev skinds_too : Stmt := top 50
abbrev Nmkinds_too : List Str := ["_law_error", "_law_some", "_law_pair"]
abbrev Pkinds_too : List Str := ["_law_error"]
theorem sckinds_too : FnScope Nmkinds_too Pkinds_too (defScope skinds_too) := ⟨rfl, rfl, rfl, by decide +kernel, rfl, by decide +kernel, by decide +kernel⟩
abbrev sdict : Stmt := top 54
abbrev Nmdict : List Str := ["_law_parts", "_law_some", "_law_k"]
abbrev Pdict : List Str := ["_law_parts"]
theorem scdict : FnScope Nmdict Pdict (defScope sdict) := ⟨rfl, rfl, rfl, by decide +kernel, rfl, by decide +kernel, by decide +kernel⟩
abbrev sthing : Stmt := top 53
abbrev Nmthing : List Str := ["_law_bag_here", "_law_deep", "_law_pick", "_law_parts", "_law_k"]
abbrev Pthing : List Str := ["_law_bag_here", "_law_deep"]
theorem scthing : FnScope Nmthing Pthing (defScope sthing) := ⟨rfl, rfl, rfl, by decide +kernel, rfl, by decide +kernel, by decide +kernel⟩
abbrev scopied : Stmt := top 55
abbrev Nmcopied : List Str := ["_law_thing_here", "_law_part", "_law_k"]
abbrev Pcopied : List Str := ["_law_thing_here"]
theorem sccopied : FnScope Nmcopied Pcopied (defScope scopied) := ⟨rfl, rfl, rfl, by decide +kernel, rfl, by decide +kernel, by decide +kernel⟩
abbrev smade : Stmt := top 56
abbrev Nmmade : List Str := ["_law_pick", "_law_pair", "_law_way", "_law_error"]
abbrev Pmade : List Str := ["_law_pick", "_law_pair", "_law_way"]
theorem scmade : FnScope Nmmade Pmade (defScope smade) := ⟨rfl, rfl, rfl, by decide +kernel, rfl, by decide +kernel, by decide +kernel⟩
abbrev sso : Stmt := top 57
abbrev Nmso : List Str := ["_law_bag_here", "_law_pick", "_law_words_here", "_law_pairs", "_law_k", "_law_dues", "_law_errors", "_law_pair", "_law_due_here"]
abbrev Pso : List Str := ["_law_bag_here", "_law_pick"]
theorem scso : FnScope Nmso Pso (defScope sso) := ⟨rfl, rfl, rfl, by decide +kernel, rfl, by decide +kernel, by decide +kernel⟩
abbrev slaw : Stmt := top 58
abbrev Nmlaw : List Str := ["_law_script", "_law_bag_here", "_law_pick"]
abbrev Plaw : List Str := ["_law_script"]
theorem sclaw : FnScope Nmlaw Plaw (defScope slaw) := ⟨rfl, rfl, rfl, by decide +kernel, rfl, by decide +kernel, by decide +kernel⟩
structure Txt (K : PySem.W.Frag) (mg : Str → Option Value) : Prop where
  n_ArithmeticError : mg "ArithmeticError" = none
  n_IndexError : mg "IndexError" = none
  n_KeyError : mg "KeyError" = none
  n_LookupError : mg "LookupError" = none
  n_NotImplementedError : mg "NotImplementedError" = none
  n_RuntimeError : mg "RuntimeError" = none
  n_TypeError : mg "TypeError" = none
  n_ValueError : mg "ValueError" = none
  n_ZeroDivisionError : mg "ZeroDivisionError" = none
  n_all : mg "all" = none
  n_bool : mg "bool" = none
  n_dict : mg "dict" = none
  n_int : mg "int" = none
  n_isinstance : mg "isinstance" = none
  n_len : mg "len" = none
  n_list : mg "list" = none
  n_range : mg "range" = none
  n_str : mg "str" = none
  n_tuple : mg "tuple" = none
  n_zip : mg "zip" = none
open RM
structure Ar where
  (cl fi : Nat → Addr)
  (fd : Nat → FuncData)
  (bs : Nat → Addr)
/-! ### alike, dicts too -/
def Lq (H : Hp) : Nat → V → V → Prop
  | 0, x, y => x = y ∧ Sc x
  | n + 1, x, y => (x = y ∧ Sc x) ∨ (∃ (p q : Addr) (ks ls : List (Key × V)), x = .ref p ∧ y = .ref q ∧ H p = some (.dK ks) ∧ H q = some (.dK ls) ∧ ks.length = ls.length ∧ ∀ z ∈ ks, ∃ u, valV ls z.1 = some u ∧ Lq H n z.2 u) ∨
    ∃ (b : Bool) (p q : Addr) (xs ys : List V), x = .ref p ∧ y = .ref q ∧ H p = some (mkO b xs) ∧ H q = some (mkO b ys) ∧ xs.length = ys.length ∧ xs.length ≤ 1000000 ∧ ∀ (i : Nat) (u v : V), xs[i]? = some u → ys[i]? = some v → Lq H n u v
def DD (H : Hp) (m : Nat) (ks ls : List (Key × V)) : Prop := ∃ j, m = j + 1 ∧ ks.length = ls.length ∧ ∀ z ∈ ks, ∃ u, valV ls z.1 = some u ∧ Lq H j z.2 u
theorem Lq.same {H H' : Hp} (s : L2.Same H H') : ∀ {n : Nat} {x y : V}, Lq H n x y → Lq H' n x y
  | 0, _, _, h => h
  | n + 1, _, _, .inl h => .inl h
  | n + 1, _, _, .inr (.inl ⟨p, q, ks, ls, e1, e2, h, h', l, r⟩) => .inr (.inl ⟨p, q, ks, ls, e1, e2, s _ _ h, s _ _ h', l, fun z hz => by
      obtain ⟨u, e, q⟩ := r z hz
      exact ⟨u, e, q.same s⟩⟩)
  | n + 1, _, _, .inr (.inr ⟨b, p, q, xs, ys, e1, e2, h1, h2, h3, h4, h5⟩) => .inr (.inr ⟨b, p, q, xs, ys, e1, e2, s _ _ h1, s _ _ h2, h3, h4, fun i u v a c => (h5 i u v a c).same s⟩)
theorem Lq.sc {H : Hp} {x : V} (h : Sc x) : ∀ n, Lq H n x x
  | 0 => ⟨rfl, h⟩
  | _ + 1 => .inl ⟨rfl, h⟩
theorem Lq.cases {H : Hp} {m : Nat} {u v : V} (h : Lq H m u v) : (u = v ∧ Sc u) ∨ (∃ (p q : Addr) (ks ls : List (Key × V)), u = .ref p ∧ v = .ref q ∧ H p = some (.dK ks) ∧ H q = some (.dK ls) ∧ DD H m ks ls) ∨
    ∃ j, m = j + 1 ∧ ∃ (b : Bool) (p q : Addr) (xs ys : List V), u = .ref p ∧ v = .ref q ∧ H p = some (mkO b xs) ∧ H q = some (mkO b ys) ∧ xs.length = ys.length ∧ xs.length ≤ 1000000 ∧ ∀ (i : Nat) (u v : V), xs[i]? = some u → ys[i]? = some v → Lq H j u v := by
  cases m with
  | zero => exact .inl h
  | succ j =>
    rcases h with h | ⟨p, q, ks, ls, e1, e2, h1, h2, l, r⟩ | h
    · exact .inl h
    · exact .inr (.inl ⟨p, q, ks, ls, e1, e2, h1, h2, j, rfl, l, r⟩)
    · exact .inr (.inr ⟨j, rfl, h⟩)
theorem sc_flat {x : V} (h : Sc x) : flatB x = true := by cases x <;> first | rfl | exact h.elim
theorem paired_of {E : V → V → Prop} : ∀ {xs ys : List V}, xs.length = ys.length → (∀ (i : Nat) (u v : V), xs[i]? = some u → ys[i]? = some v → E u v) → Paired E xs ys
  | [], [], _, _ => .nil
  | x :: xs, y :: ys, l, h => .cons (h 0 x y rfl rfl) (paired_of (Nat.succ.inj l) fun i u v a c => h (i + 1) u v a c)
theorem Lq.eqN {K : PySem.W.Frag} {H : Hp} : ∀ {n : Nat} {x y : V}, Lq H n x y → LDe.EqN K H (n + 1) x y
  | 0, _, _, h => .inl ⟨h.1, sc_flat h.2⟩
  | n + 1, _, _, .inl h => .inl ⟨h.1, sc_flat h.2⟩
  | n + 1, _, _, .inr (.inl ⟨p, q, ks, ls, e1, e2, h1, h2, l, r⟩) => .inr (.inr (.inl (.inr ⟨p, q, ks, ls, e1, e2, h1, h2, l, fun z hz => by
      obtain ⟨u, e, q⟩ := r z hz
      exact ⟨u, e, q.eqN⟩⟩)))
  | n + 1, _, _, .inr (.inr ⟨true, p, q, xs, ys, e1, e2, h1, h2, h3, _, h5⟩) => .inr (.inr (.inl (.inl ⟨p, q, xs, ys, e1, e2, SqL.of h1, SqL.of h2, paired_of h3 fun i u v a c => (h5 i u v a c).eqN⟩)))
  | n + 1, _, _, .inr (.inr ⟨false, p, q, xs, ys, e1, e2, h1, h2, h3, _, h5⟩) => .inr (.inr (.inr ⟨p, q, xs, ys, e1, e2, SqT.of h1, SqT.of h2, paired_of h3 fun i u v a c => (h5 i u v a c).eqN⟩))
theorem DD.eqB {K : PySem.W.Frag} {H : Hp} {m : Nat} {p q : Addr} {ks ls : List (Key × V)} (h1 : H p = some (.dK ks)) (h2 : H q = some (.dK ls)) (d : DD H m ks ls) : LDe.EqB K H (LDe.EqN K H m) (.ref p) (.ref q) := by
  obtain ⟨j, rfl, l, r⟩ := d
  refine .inl (.inr ⟨p, q, ks, ls, rfl, rfl, h1, h2, l, fun z hz => ?_⟩)
  obtain ⟨u, e, w⟩ := r z hz
  exact ⟨u, e, w.eqN⟩
theorem DD.same {H H' : Hp} (s : L2.Same H H') {m : Nat} {ks ls : List (Key × V)} (d : DD H m ks ls) : DD H' m ks ls := by
  obtain ⟨j, e, l, r⟩ := d
  refine ⟨j, e, l, fun z hz => ?_⟩
  obtain ⟨u, e, w⟩ := r z hz
  exact ⟨u, e, w.same s⟩
theorem kLT_dK {K : PySem.W.Frag} : PySem.W.kitAny K (.type "dict") [.type "list", .type "tuple"] = some false := kitAny_cons (kit_ty (show kitB "dict" "list" = some false by decide +kernel)) (fun _ => kitAny_cons (kit_ty (show kitB "dict" "tuple" = some false by decide +kernel)) (fun _ => kitAny_nil) (fun h => absurd h (by simp))) (fun h => absurd h (by simp))
/-- == of scalars, or of dicts deeply -/
def rEqD (K : PySem.W.Frag) : R2 := fun x y H Q => rEq x y H Q ∨ LDe.rEqN K x y H Q
theorem op_eqD {X : Cx} (hu : X.A.units + 64 < cLine) : OpR X (compareOp .Eq) (rEqD X.K) := by
  intro pins s σ H x y v u Q I rx ry h
  rcases h with h | h
  · exact op_eq pins s σ H x y v u Q I rx ry h
  · exact LDe.op_eqN hu pins s σ H x y v u Q I rx ry h
/-! ### the errors -/
/-- what an __init__ stores -/
def fE (nm : Str) (ps : List Str) (vs : List V) : List (Str × V) := ("code", .str nm) :: (ps.zip vs).reverse
def gp {α : Type} (us _ws : List α) : List α := us
def gk {α : Type} (_us ws : List α) : List α := ws
def gr {α : Type} (_us ws : List α) : List α := ws.reverse
def gm {α : Type} (us ws : List α) : List α := us ++ ws
/-- one class -/
structure EM (P : Program) (w : World) (K : PySem.W.Frag) (mg : Str → Option Value) (base : Heap) (C fI : Addr) (fd : FuncData) (nm : Str) (ps : List Str) : Prop where
  ox : LB.OexB K C
  iC : PySem.W.findIn K (.ref C) "__init__" = some (some (.ref fI))
  tI : PySem.W.typeIn K (.ref fI) = some (.type "function")
  gC : mg nm = some (.ref C)
  xf : XfC K C
  is : IsC K C
  no : ∀ f ∈ (("code" : Str) :: ps), PySem.W.findIn K (.ref C) f = some none
  g : FnOk P w K mg base CX0 1 fI fd ("self" :: ps) (LX.spErr C ps.length (fE nm ps))
  b : LB.ErrB K fd ("self" :: ps) ps.length [] gp gp
structure EM0 (P : Program) (w : World) (K : PySem.W.Frag) (mg : Str → Option Value) (base : Heap) (C fI : Addr) (fd : FuncData) (nm : Str) : Prop extends EM P w K mg base C fI fd nm [] where
  b0 : LB.ErrB K fd ["self"] 0 [] gp gp
structure EM1 (P : Program) (w : World) (K : PySem.W.Frag) (mg : Str → Option Value) (base : Heap) (C fI : Addr) (fd : FuncData) (nm p : Str) : Prop extends EM P w K mg base C fI fd nm [p] where
  bk : LB.ErrB K fd ["self", p] 0 [p] gk gk
structure EM2 (P : Program) (w : World) (K : PySem.W.Frag) (mg : Str → Option Value) (base : Heap) (C fI : Addr) (fd : FuncData) (nm p q : Str) : Prop extends EM P w K mg base C fI fd nm [p, q] where
  bk : LB.ErrB K fd ["self", p, q] 0 [p, q] gk gk
  br : LB.ErrB K fd ["self", p, q] 0 [q, p] gr gr
  bm : LB.ErrB K fd ["self", p, q] 1 [q] gm gm
/-! ### tests of a word -/
theorem inS (p : Str) : ∀ zs : List Str, inV (.str p) (zs.map V.str) = decide (p ∈ zs)
  | [] => by simp [inV]
  | z :: zs => by
    have ih := inS p zs
    unfold inV at ih ⊢
    rw [List.map_cons, List.any_cons, ih]
    have e : eqV (.str z) (.str p) = decide (p = z) := by
      show (z == p) = _
      by_cases h : z = p
      · rw [h, decide_eq_true rfl]
        exact beq_self_eq_true p
      · rw [decide_eq_false (fun q => h q.symm)]
        exact beq_false_of_ne h
    rw [e]
    simp
theorem ite_in {p : Str} (zs : List Str) {A B : Prop} (h1 : p ∈ zs → A) (h2 : p ∉ zs → B) : if (if (false : Bool) = true then !inV (.str p) (zs.map V.str) else inV (.str p) (zs.map V.str)) = true then A else B := by
  rw [if_neg Bool.false_ne_true, inS]
  exact ite_d h1 h2
theorem flat_s (zs : List Str) : (zs.map V.str).all flatV = true := by
  rw [List.all_eq_true]
  intro x hx
  obtain ⟨z, _, rfl⟩ := List.mem_map.mp hx
  rfl
def tyL : List String := ["ValueError", "LookupError", "RuntimeError", "IndexError", "KeyError", "ArithmeticError", "ZeroDivisionError", "TypeError", "NotImplementedError"]
def tyOf : Nat → String
  | 0 => "ValueError"
  | 1 => "LookupError"
  | _ => "RuntimeError"
def tE0 : List (Str × List Str × Nat) := [(("InvalidNumber" : Str), (["value"] : List Str), 0), (("InvalidName" : Str), (["value"] : List Str), 0), (("InvalidText" : Str), (["text"] : List Str), 0), (("InvalidBorders" : Str), (["at"] : List Str), 0), (("InvalidRest" : Str), (["value"] : List Str), 0), (("InvalidRule" : Str), (["value"] : List Str), 0), (("InvalidPlace" : Str), (["at"] : List Str), 0), (("InvalidServer" : Str), (["at"] : List Str), 0), (("InvalidTree" : Str), (["at"] : List Str), 0)]
def tE1 : List (Str × List Str × Nat) := [(("InvalidCustomer" : Str), (["at"] : List Str), 0), (("InvalidRoom" : Str), (["at"] : List Str), 0), (("InvalidRow" : Str), (["at"] : List Str), 0), (("InvalidParts" : Str), (["value"] : List Str), 0), (("InvalidCut" : Str), (["at"] : List Str), 0), (("InvalidDeed" : Str), (["value"] : List Str), 0), (("InvalidEvent" : Str), (["value"] : List Str), 0), (("BadTree" : Str), (["place"] : List Str), 0), (("BadReading" : Str), (["server", "reading"] : List Str), 0)]
def tE2 : List (Str × List Str × Nat) := [(("BadMoment" : Str), (["moment"] : List Str), 0), (("TooMany" : Str), (["what", "count"] : List Str), 0), (("Over" : Str), (["value"] : List Str), 0), (("NotHeld" : Str), (["place", "n"] : List Str), 0), (("NoElder" : Str), (["place"] : List Str), 0), (("WrongLetter" : Str), (["letter"] : List Str), 0), (("Elsewhere" : Str), (["room"] : List Str), 0), (("NotLacking" : Str), (["ready"] : List Str), 0), (("NotSettled" : Str), ([] : List Str), 0)]
def tE3 : List (Str × List Str × Nat) := [(("Early" : Str), (["at"] : List Str), 0), (("NotPrompt" : Str), (["at"] : List Str), 0), (("Refused" : Str), (["at"] : List Str), 0), (("UnknownName" : Str), (["name"] : List Str), 1), (("UnknownLot" : Str), (["place", "number"] : List Str), 1), (("UnknownLoan" : Str), (["number"] : List Str), 1), (("NoSuchLetter" : Str), (["index"] : List Str), 1), (("Fallen" : Str), (["name"] : List Str), 2), (("NotFallen" : Str), (["name"] : List Str), 2)]
def tE : List (Str × List Str × Nat) := tE0 ++ tE1 ++ tE2 ++ tE3
structure All (P : Program) (w : World) (K : PySem.W.Frag) (mg : Str → Option Value) (base : Heap) (r : Ar) : Prop where
  a0 : EM1 P w K mg base (r.cl 0) (r.fi 0) (r.fd 0) "InvalidNumber" "value"
  a1 : EM1 P w K mg base (r.cl 1) (r.fi 1) (r.fd 1) "InvalidName" "value"
  a2 : EM1 P w K mg base (r.cl 2) (r.fi 2) (r.fd 2) "InvalidText" "text"
  a3 : EM1 P w K mg base (r.cl 3) (r.fi 3) (r.fd 3) "InvalidBorders" "at"
  a4 : EM1 P w K mg base (r.cl 4) (r.fi 4) (r.fd 4) "InvalidRest" "value"
  a5 : EM1 P w K mg base (r.cl 5) (r.fi 5) (r.fd 5) "InvalidRule" "value"
  a6 : EM1 P w K mg base (r.cl 6) (r.fi 6) (r.fd 6) "InvalidPlace" "at"
  a7 : EM1 P w K mg base (r.cl 7) (r.fi 7) (r.fd 7) "InvalidServer" "at"
  a8 : EM1 P w K mg base (r.cl 8) (r.fi 8) (r.fd 8) "InvalidTree" "at"
  a9 : EM1 P w K mg base (r.cl 9) (r.fi 9) (r.fd 9) "InvalidCustomer" "at"
  a10 : EM1 P w K mg base (r.cl 10) (r.fi 10) (r.fd 10) "InvalidRoom" "at"
  a11 : EM1 P w K mg base (r.cl 11) (r.fi 11) (r.fd 11) "InvalidRow" "at"
  a12 : EM1 P w K mg base (r.cl 12) (r.fi 12) (r.fd 12) "InvalidParts" "value"
  a13 : EM1 P w K mg base (r.cl 13) (r.fi 13) (r.fd 13) "InvalidCut" "at"
  a14 : EM1 P w K mg base (r.cl 14) (r.fi 14) (r.fd 14) "InvalidDeed" "value"
  a15 : EM1 P w K mg base (r.cl 15) (r.fi 15) (r.fd 15) "InvalidEvent" "value"
  a16 : EM1 P w K mg base (r.cl 16) (r.fi 16) (r.fd 16) "BadTree" "place"
  a17 : EM2 P w K mg base (r.cl 17) (r.fi 17) (r.fd 17) "BadReading" "server" "reading"
  a18 : EM1 P w K mg base (r.cl 18) (r.fi 18) (r.fd 18) "BadMoment" "moment"
  a19 : EM2 P w K mg base (r.cl 19) (r.fi 19) (r.fd 19) "TooMany" "what" "count"
  a20 : EM1 P w K mg base (r.cl 20) (r.fi 20) (r.fd 20) "Over" "value"
  a21 : EM2 P w K mg base (r.cl 21) (r.fi 21) (r.fd 21) "NotHeld" "place" "n"
  a22 : EM1 P w K mg base (r.cl 22) (r.fi 22) (r.fd 22) "NoElder" "place"
  a23 : EM1 P w K mg base (r.cl 23) (r.fi 23) (r.fd 23) "WrongLetter" "letter"
  a24 : EM1 P w K mg base (r.cl 24) (r.fi 24) (r.fd 24) "Elsewhere" "room"
  a25 : EM1 P w K mg base (r.cl 25) (r.fi 25) (r.fd 25) "NotLacking" "ready"
  a26 : EM0 P w K mg base (r.cl 26) (r.fi 26) (r.fd 26) "NotSettled"
  a27 : EM1 P w K mg base (r.cl 27) (r.fi 27) (r.fd 27) "Early" "at"
  a28 : EM1 P w K mg base (r.cl 28) (r.fi 28) (r.fd 28) "NotPrompt" "at"
  a29 : EM1 P w K mg base (r.cl 29) (r.fi 29) (r.fd 29) "Refused" "at"
  a30 : EM1 P w K mg base (r.cl 30) (r.fi 30) (r.fd 30) "UnknownName" "name"
  a31 : EM2 P w K mg base (r.cl 31) (r.fi 31) (r.fd 31) "UnknownLot" "place" "number"
  a32 : EM1 P w K mg base (r.cl 32) (r.fi 32) (r.fd 32) "UnknownLoan" "number"
  a33 : EM1 P w K mg base (r.cl 33) (r.fi 33) (r.fd 33) "NoSuchLetter" "index"
  a34 : EM1 P w K mg base (r.cl 34) (r.fi 34) (r.fd 34) "Fallen" "name"
  a35 : EM1 P w K mg base (r.cl 35) (r.fi 35) (r.fd 35) "NotFallen" "name"
  g0 : mg "SureletError" = some (.ref (r.bs 0))
  g1 : mg "Missing" = some (.ref (r.bs 1))
  g2 : mg "NotNow" = some (.ref (r.bs 2))
  kk : ∀ i j, i < 36 → j < 36 → PySem.W.kitOne K (.ref (r.cl i)) (.ref (r.cl j)) = some (decide (i = j))
  kb : ∀ i j, i < 36 → j < 3 → PySem.W.kitOne K (.ref (r.cl i)) (.ref (r.bs j)) = some (decide ((tE.getD i default).2.2 = j))
  kt : ∀ i, i < 36 → ∀ t ∈ tyL, PySem.W.kitOne K (.ref (r.cl i)) (.type t) = some (tyOf (tE.getD i default).2.2 == t)
/-! ### an error made -/
def MkE (r : Ar) (p : Str) (us : List V) (H H' : Hp) (v : V) : Prop := ∃ (a : Addr) (i : Nat) (ps : List Str) (b : Nat) (d : Addr), v = .ref a ∧ tE[i]? = some (p, ps, b) ∧ ps.length = us.length ∧ H' a = some (exo a (r.cl i) (some d)) ∧ H' d = some (exd d (fE p ps us)) ∧ L2.Same H H'
theorem mk_end {r : Ar} {p : Str} {us : List V} {H : Hp} {Q : VK} {i n : Nat} {ps : List Str} {b : Nat} (k : ∀ v H', MkE r p us H H' v → Q v H') (ht : tE[i]? = some (p, ps, b)) (hl : ps.length = us.length) (hn : us.length = n) :
    ∀ a, H a = none → LX.spErr (r.cl i) n (fE p ps) (.ref a :: us) (upd H a (exo a (r.cl i) none)) (fun v H3 => v = .non ∧ Q (.ref a) H3) (fun _ _ _ => False) := fun a na =>
  ⟨a, us, rfl, hn, upd_same, fun d H' hd e1 e2 ks => ⟨rfl, k _ _ ⟨a, i, ps, b, d, rfl, ht, hl, e1, e2, fun b o e => by
    have nb : b ≠ a := ne_of_none e na
    exact ks b o nb (by rw [upd_ne nb]; exact e)⟩⟩⟩
def ErA (r : Ar) (H : Hp) (p : Str) (ps : List Str) (us : List V) (v : V) : Prop := ∃ (a : Addr) (i b : Nat) (d : Addr), v = .ref a ∧ tE[i]? = some (p, ps, b) ∧ ps.length = us.length ∧ H a = some (exo a (r.cl i) (some d)) ∧ H d = some (exd d (fE p ps us))
theorem tE_ok : tE.all (fun e => decide (e.2.1.Nodup) && !e.2.1.contains "code" && decide (e.2.1.length ≤ 2) && e.2.1.all (fun f => (["value", "text", "at", "place", "moment", "letter", "room", "ready", "name", "number", "index", "server", "reading", "what", "count", "n"] : List Str).contains f)) = true := by decide +kernel
theorem All.cls {P : Program} {w : World} {K : PySem.W.Frag} {mg : Str → Option Value} {base : Heap} {r : Ar} (EA : All P w K mg base r) {i : Nat} {p : Str} {ps : List Str} {b : Nat} (h : tE[i]? = some (p, ps, b)) :
    XfC K (r.cl i) ∧ IsC K (r.cl i) ∧ ∀ f ∈ (("code" : Str) :: ps), PySem.W.findIn K (.ref (r.cl i)) f = some none := by
  match i, h with
  | 0, h => cases h; exact ⟨EA.a0.xf, EA.a0.is, EA.a0.no⟩
  | 1, h => cases h; exact ⟨EA.a1.xf, EA.a1.is, EA.a1.no⟩
  | 2, h => cases h; exact ⟨EA.a2.xf, EA.a2.is, EA.a2.no⟩
  | 3, h => cases h; exact ⟨EA.a3.xf, EA.a3.is, EA.a3.no⟩
  | 4, h => cases h; exact ⟨EA.a4.xf, EA.a4.is, EA.a4.no⟩
  | 5, h => cases h; exact ⟨EA.a5.xf, EA.a5.is, EA.a5.no⟩
  | 6, h => cases h; exact ⟨EA.a6.xf, EA.a6.is, EA.a6.no⟩
  | 7, h => cases h; exact ⟨EA.a7.xf, EA.a7.is, EA.a7.no⟩
  | 8, h => cases h; exact ⟨EA.a8.xf, EA.a8.is, EA.a8.no⟩
  | 9, h => cases h; exact ⟨EA.a9.xf, EA.a9.is, EA.a9.no⟩
  | 10, h => cases h; exact ⟨EA.a10.xf, EA.a10.is, EA.a10.no⟩
  | 11, h => cases h; exact ⟨EA.a11.xf, EA.a11.is, EA.a11.no⟩
  | 12, h => cases h; exact ⟨EA.a12.xf, EA.a12.is, EA.a12.no⟩
  | 13, h => cases h; exact ⟨EA.a13.xf, EA.a13.is, EA.a13.no⟩
  | 14, h => cases h; exact ⟨EA.a14.xf, EA.a14.is, EA.a14.no⟩
  | 15, h => cases h; exact ⟨EA.a15.xf, EA.a15.is, EA.a15.no⟩
  | 16, h => cases h; exact ⟨EA.a16.xf, EA.a16.is, EA.a16.no⟩
  | 17, h => cases h; exact ⟨EA.a17.xf, EA.a17.is, EA.a17.no⟩
  | 18, h => cases h; exact ⟨EA.a18.xf, EA.a18.is, EA.a18.no⟩
  | 19, h => cases h; exact ⟨EA.a19.xf, EA.a19.is, EA.a19.no⟩
  | 20, h => cases h; exact ⟨EA.a20.xf, EA.a20.is, EA.a20.no⟩
  | 21, h => cases h; exact ⟨EA.a21.xf, EA.a21.is, EA.a21.no⟩
  | 22, h => cases h; exact ⟨EA.a22.xf, EA.a22.is, EA.a22.no⟩
  | 23, h => cases h; exact ⟨EA.a23.xf, EA.a23.is, EA.a23.no⟩
  | 24, h => cases h; exact ⟨EA.a24.xf, EA.a24.is, EA.a24.no⟩
  | 25, h => cases h; exact ⟨EA.a25.xf, EA.a25.is, EA.a25.no⟩
  | 26, h => cases h; exact ⟨EA.a26.xf, EA.a26.is, EA.a26.no⟩
  | 27, h => cases h; exact ⟨EA.a27.xf, EA.a27.is, EA.a27.no⟩
  | 28, h => cases h; exact ⟨EA.a28.xf, EA.a28.is, EA.a28.no⟩
  | 29, h => cases h; exact ⟨EA.a29.xf, EA.a29.is, EA.a29.no⟩
  | 30, h => cases h; exact ⟨EA.a30.xf, EA.a30.is, EA.a30.no⟩
  | 31, h => cases h; exact ⟨EA.a31.xf, EA.a31.is, EA.a31.no⟩
  | 32, h => cases h; exact ⟨EA.a32.xf, EA.a32.is, EA.a32.no⟩
  | 33, h => cases h; exact ⟨EA.a33.xf, EA.a33.is, EA.a33.no⟩
  | 34, h => cases h; exact ⟨EA.a34.xf, EA.a34.is, EA.a34.no⟩
  | 35, h => cases h; exact ⟨EA.a35.xf, EA.a35.is, EA.a35.no⟩
  | n + 36, h => exact nomatch h
theorem tE_get {i : Nat} {p : Str} {ps : List Str} {b : Nat} (h : tE[i]? = some (p, ps, b)) : ps.Nodup ∧ ("code" : Str) ∉ ps ∧ ps.length ≤ 2 ∧ ∀ f ∈ ps, f ∈ (["value", "text", "at", "place", "moment", "letter", "room", "ready", "name", "number", "index", "server", "reading", "what", "count", "n"] : List Str) := by
  have q := List.all_eq_true.mp tE_ok _ (List.mem_of_getElem? h)
  simp only [Bool.and_eq_true, decide_eq_true_eq, Bool.not_eq_true', List.all_eq_true] at q
  obtain ⟨⟨⟨q1, q2⟩, q3⟩, q4⟩ := q
  exact ⟨q1, (fun z => by rw [List.contains_iff_mem.mpr z] at q2; exact absurd q2 (by decide)), q3, fun f hf => List.contains_iff_mem.mp (q4 f hf)⟩
theorem fE_look {p f : Str} {ps : List Str} {us : List V} {u : V} {i : Nat} (nd : ps.Nodup) (nc : ("code" : Str) ∉ ps) (h2 : ps.length ≤ 2) (hl : ps.length = us.length) (hf : ps[i]? = some f) (hu : us[i]? = some u) : (fE p ps us).lookup f = some u := by
  have fm : f ∈ ps := List.mem_of_getElem? hf
  have n0 : (f == ("code" : Str)) = false := beq_false_of_ne fun z => nc (z ▸ fm)
  match ps, us, hl, h2 with
  | [], [], _, _ => cases hf
  | [a], [x], _, _ =>
    match i, hf, hu with
    | 0, hf, hu =>
      cases hf
      cases hu
      simp [fE, List.lookup, n0]
  | [a, c], [x, y], _, _ =>
    have ne : a ≠ c := fun z => by simp [z] at nd
    match i, hf, hu with
    | 0, hf, hu =>
      have n1 : (a == c) = false := beq_false_of_ne ne
      cases hf
      cases hu
      simp [fE, List.lookup, n0, n1]
    | 1, hf, hu =>
      cases hf
      cases hu
      simp [fE, List.lookup, n0]
/-! ### rows of a name and a bool -/
def KN1 : List Str := ["InvalidNumber", "InvalidName", "InvalidRest", "InvalidRule", "InvalidParts", "InvalidDeed", "InvalidEvent", "Over", "InvalidText", "InvalidBorders", "InvalidPlace", "InvalidServer", "InvalidTree", "InvalidCustomer", "InvalidRoom", "InvalidRow", "InvalidCut", "Early", "NotPrompt", "Refused", "BadTree", "NoElder", "BadMoment", "WrongLetter", "Elsewhere", "NotLacking", "UnknownName", "Fallen", "NotFallen", "UnknownLoan"]
def KN2 : List Str := ["NoSuchLetter", "BadReading", "TooMany", "NotHeld", "UnknownLot", "NotSettled", "SureletError", "Missing", "NotNow", "ValueError", "LookupError", "RuntimeError", "IndexError", "KeyError", "ArithmeticError", "ZeroDivisionError", "TypeError", "NotImplementedError"]
structure KS (H0 H : Hp) (L : Addr) (ts : List Addr) (bs : List (Str × Bool)) : Prop where
  no : H0 L = none
  at_ : H L = some (.lst (ts.map V.ref))
  len : ts.length = bs.length
  rows : ∀ (j : Nat) (t : Addr) (b : Str × Bool), ts[j]? = some t → bs[j]? = some b → H t = some (.tup [.str b.1, .bl b.2])
  kp : Same H0 H
theorem KS.step {H0 H : Hp} {L T : Addr} {ts : List Addr} {bs : List (Str × Bool)} (s : KS H0 H L ts bs) (nT : H T = none) (c : Str) (q : Bool) : KS H0 (upd (upd H T (.tup [.str c, .bl q])) L (.lst (ts.map V.ref ++ [V.ref T]))) L (ts ++ [T]) (bs ++ [(c, q)]) where
  no := s.no
  at_ := by rw [upd_same, List.map_append]; rfl
  len := by rw [List.length_append, List.length_append, s.len]; rfl
  rows j t b h1 h2 := by
    have nl : ∀ {t : Addr} {xs : List V}, H t = some (.tup xs) → t ≠ L := fun h z => by rw [z, s.at_] at h; cases h
    rcases Nat.lt_or_ge j ts.length with h | h
    · rw [List.getElem?_append_left h] at h1
      rw [List.getElem?_append_left (s.len ▸ h)] at h2
      have e := s.rows j t b h1 h2
      rw [upd_ne (nl e), upd_ne (ne_of_none e nT)]
      exact e
    · rw [List.getElem?_append_right h] at h1
      rw [List.getElem?_append_right (by rw [← s.len]; exact h), ← s.len] at h2
      match j - ts.length, h1, h2 with
      | 0, h1, h2 =>
        cases h1
        cases h2
        have nTL : T ≠ L := fun z => by rw [z, s.at_] at nT; cases nT
        rw [upd_ne nTL, upd_same]
  kp a o e := by
    rw [upd_ne (ne_of_none e s.no), upd_ne (ne_of_none (s.kp a o e) nT)]
    exact s.kp a o e
theorem KS.nil {H : Hp} {L : Addr} (n : H L = none) : KS H (upd H L (.lst [])) L [] [] := ⟨n, upd_same, rfl, fun j t b h => by simp at h, same_new n⟩
theorem filter_fst {bs : List (Str × Bool)} (f : Str → Bool) (h : ∀ b ∈ bs, b.2 = f b.1) : (bs.filter (·.2)).map (fun b => V.str b.1) = ((bs.map (·.1)).filter f).map V.str := by
  induction bs with
  | nil => rfl
  | cons b r ih =>
    have e := h b (List.mem_cons_self ..)
    have ih := ih fun c hc => h c (List.mem_cons_of_mem _ hc)
    rw [List.map_cons, List.filter_cons, List.filter_cons, ← e]
    cases b.2 with
    | true => simpa using ih
    | false => simpa using ih
def bn : Nat → Str
  | 0 => "SureletError"
  | 1 => "Missing"
  | _ => "NotNow"
def tn : Nat → Str
  | 0 => "ValueError"
  | 1 => "LookupError"
  | _ => "RuntimeError"
/-- is an error of class p, base b, of the class named c? -/
def fK (p : Str) (b : Nat) (c : Str) : Bool := c == p || c == bn b || c == tn b
theorem fK_all : tE.all (fun e => tE.all (fun c => fK e.1 e.2.2 c.1 == (c.1 == e.1)) && (List.range 3).all (fun j => fK e.1 e.2.2 (bn j) == decide (e.2.2 = j)) && tyL.all (fun t => fK e.1 e.2.2 (Str.ofString t) == (tyOf e.2.2 == t))) = true := by decide +kernel
theorem tE_nd : (tE.map (·.1)).Nodup := by decide +kernel
theorem tE_len : tE.length = 36 := by decide +kernel
theorem fK_at {i : Nat} {p : Str} {ps : List Str} {b : Nat} (h : tE[i]? = some (p, ps, b)) : (∀ c ∈ tE, fK p b c.1 = (c.1 == p)) ∧ (∀ j < 3, fK p b (bn j) = decide (b = j)) ∧ ∀ t ∈ tyL, fK p b (Str.ofString t) = (tyOf b == t) := by
  have q := List.all_eq_true.mp fK_all _ (List.mem_of_getElem? h)
  simp only [Bool.and_eq_true, List.all_eq_true, beq_iff_eq, List.mem_range] at q
  exact ⟨q.1.1, q.1.2, q.2⟩
theorem tE_lt {i : Nat} {e : Str × List Str × Nat} (h : tE[i]? = some e) : i < 36 := tE_len ▸ (List.getElem?_eq_some_iff.mp h).1
theorem tE_getD {i : Nat} {e : Str × List Str × Nat} (h : tE[i]? = some e) : tE.getD i default = e := by rw [List.getD_eq_getElem?_getD, h]; rfl
theorem fK_cl {i j : Nat} {p c : Str} {ps qs : List Str} {b b' : Nat} (h : tE[i]? = some (p, ps, b)) (hj : tE[j]? = some (c, qs, b')) : decide (i = j) = fK p b c := by
  rw [(fK_at h).1 _ (List.mem_of_getElem? hj)]
  by_cases e : i = j
  · subst e
    rw [h] at hj
    cases hj
    rw [decide_eq_true rfl]
    exact (beq_self_eq_true p).symm
  · rw [decide_eq_false e]
    refine (beq_false_of_ne fun z => e ?_).symm
    have h1 : (tE.map (·.1))[i]? = some p := by rw [List.getElem?_map, h]; rfl
    have h2 : (tE.map (·.1))[j]? = some p := by rw [List.getElem?_map, hj, ← z]; rfl
    exact (List.getElem?_inj (by rw [List.length_map]; exact (List.getElem?_eq_some_iff.mp h).1) tE_nd).mp (h1.trans h2.symm)
theorem fK_b {i j : Nat} {p : Str} {ps : List Str} {b : Nat} (h : tE[i]? = some (p, ps, b)) (hj : j < 3) : decide ((tE.getD i default).2.2 = j) = fK p b (bn j) := by rw [tE_getD h, (fK_at h).2.1 j hj]
theorem fK_t {i : Nat} {t : String} {p : Str} {ps : List Str} {b : Nat} (h : tE[i]? = some (p, ps, b)) (ht : t ∈ tyL) : (tyOf (tE.getD i default).2.2 == t) = fK p b (Str.ofString t) := by rw [tE_getD h, (fK_at h).2.2 t ht]
def KT (H0 H : Hp) (L : Addr) (f : Str → Bool) (ns : List Str) : Prop := ∃ ts bs, KS H0 H L ts bs ∧ bs.map (·.1) = ns ∧ ∀ b ∈ bs, b.2 = f b.1
theorem KT.nil {H : Hp} {L : Addr} {f : Str → Bool} (n : H L = none) : KT H (upd H L (.lst [])) L f [] := ⟨[], [], KS.nil n, rfl, fun b h => by cases h⟩
theorem KT.kp {H0 H : Hp} {L : Addr} {f : Str → Bool} {ns : List Str} (s : KT H0 H L f ns) : Same H0 H := by
  obtain ⟨ts, bs, s, _⟩ := s
  exact s.kp
theorem KT.sq {K : PySem.W.Frag} {H0 H : Hp} {L : Addr} {f : Str → Bool} {ns : List Str} (s : KT H0 H L f ns) : ∃ xs, SqL K H L xs := by
  obtain ⟨ts, bs, s, _⟩ := s
  exact ⟨_, SqL.of s.at_⟩
theorem KT.app {H0 H : Hp} {L : Addr} {f : Str → Bool} {ns : List Str} (s : KT H0 H L f ns) (c : Str) {q : Bool} (hq : q = f c) (hn : ns.length < 1000) {Q : VK} (k : ∀ H', KT H0 H' L f (ns ++ [c]) → Q .non H') :
    ∀ T, H T = none → rAppend (.ref L) [.ref T] (upd H T (.tup [.str c, .bl q])) Q := fun T hT => by
  obtain ⟨ts, bs, s, rfl, h⟩ := s
  have nTL : L ≠ T := fun z => by rw [← z, s.at_] at hT; cases hT
  refine ⟨L, ts.map V.ref, .ref T, rfl, rfl, by rw [upd_ne nTL]; exact s.at_, ?_, k _ ⟨ts ++ [T], bs ++ [(c, q)], s.step hT c q, by rw [List.map_append]; rfl, fun b hb => ?_⟩⟩
  · rw [List.length_map] at hn
    rw [List.length_map, s.len, sizeLine_eq]
    omega
  · rcases List.mem_append.mp hb with hb | hb
    · exact h b hb
    · rw [List.mem_singleton] at hb
      subst hb
      exact hq
def Dq (p : Str) : List Str :=
  if p ∈ (["UnknownName", "UnknownLot", "UnknownLoan", "NoSuchLetter"] : List Str) then [p, "Missing", "LookupError"] else if p ∈ (["Fallen", "NotFallen"] : List Str) then [p, "NotNow", "RuntimeError"] else [p, "SureletError", "ValueError"]
theorem due_of : tE.all (fun e => decide (Dq e.1 = KN1.filter (fK e.1 e.2.2) ++ KN2.filter (fK e.1 e.2.2))) = true := by decide +kernel
/-- a comprehension over a list that stays, one test and one value an item -/
theorem lc_m {J : It} {G : Hp → Prop} {β : Type} {bs : List β} {v : β → V} (w : Walk J (bs.map v).length G (YAt (bs.map v))) {g : TG} {tt : TT} {te : TE} {vs : List Nat} {σ : St} {H1 : Hp} {D : Addr} {Qd : Hp → Prop} (hD : H1 D = none) (hl : bs.length ≤ 1000000) (hG : ∀ H, Same H1 H → G H) (keep : β → Bool) (f : β → V)
    (hs : ∀ b ∈ bs, ∀ (H : Hp) (Jy : V → Hp → Prop) (N : Hp → Prop), Same H1 H → (keep b = true → Jy (f b) H) → (keep b = false → N H) → g (v b) (wipe σ vs) H fun σ2 H2 => wipe σ2 vs = wipe σ vs ∧ tt σ2 H2 fun b H3 => if b = true then te σ2 H3 Jy else N H3)
    (hd : ∀ H', Same H1 H' → H' D = some (.lst ((bs.filter keep).map f)) → Qd H') :
    ∃ W : Nat → Nat → Hp → Prop, (∃ m, W 0 m (upd H1 D (.lst []))) ∧ ∀ i m H, W i m H →
      (J.stop i H ∧ Qd H) ∨ (J.go i H ∧ ∃ Nx : Hp → Prop, (∀ H', Nx H' → ∃ m', m' < m ∧ W (i + 1) m' H') ∧ ∀ x H', J.yld i H x H' → g x (wipe σ vs) H' fun σ2 H2 => wipe σ2 vs = wipe σ vs ∧ tt σ2 H2 fun b H3 =>
        if b = true then te σ2 H3 fun y H4 => ∃ acc, H4 D = some (.lst acc) ∧ acc.length < sizeLine ∧ Nx (upd H4 D (.lst (acc ++ [y]))) else Nx H3) := by
  refine lc_it w (fun i H => Same H1 H ∧ H D = some (.lst (((bs.take i).filter keep).map f))) ⟨same_new hD, upd_same⟩ (fun i H _ p => hG H p.1) ?_ (fun H p => hd H p.1 (by
    have e := p.2
    rw [List.length_map, List.take_length] at e
    exact e))
  rintro i x H H' hi ⟨s, e⟩ ⟨rfl, hx⟩
  rw [List.getElem?_map] at hx
  obtain ⟨b, hb, rfl⟩ := Option.map_eq_some_iff.mp hx
  have hlen : (((bs.take i).filter keep).map f).length < sizeLine := by
    rw [List.length_map]
    refine Nat.lt_of_le_of_lt (Nat.le_trans (List.length_filter_le _ _) (List.length_take_le' _ _)) (Nat.lt_of_le_of_lt hl (by decide))
  refine hs b (List.mem_of_getElem? hb) _ _ _ s (fun kx => ⟨_, e, hlen, fun c o q => by rw [upd_ne (ne_of_none q hD)]; exact s c o q, ?_⟩) (fun kx => ⟨s, ?_⟩)
  · rw [upd_same, List.take_add_one, hb, List.filter_append, List.map_append]
    show _ = some (HO.lst (_ ++ (List.filter keep [b]).map f))
    rw [List.filter_cons_of_pos kx]
    rfl
  · rw [e, List.take_add_one, hb, List.filter_append]
    show _ = some (HO.lst ((_ ++ List.filter keep [b]).map f))
    rw [List.filter_cons_of_neg (by rw [kx]; decide)]
    show _ = some (HO.lst ((_ ++ []).map f))
    rw [List.append_nil]
theorem lc_a {J : It} {G : Hp → Prop} {β : Type} {bs : List β} {v : β → V} (w : Walk J (bs.map v).length G (YAt (bs.map v))) {g : TG} {te : TE} {vs : List Nat} {σ : St} {H1 : Hp} {D : Addr} {Qd : Hp → Prop} (hD : H1 D = none) (hl : bs.length ≤ 1000000) (hG : ∀ H, Same H1 H → G H) (f : β → V)
    (hs : ∀ b ∈ bs, ∀ (H : Hp) (Jy : V → Hp → Prop), Same H1 H → Jy (f b) H → g (v b) (wipe σ vs) H fun σ2 H2 => wipe σ2 vs = wipe σ vs ∧ te σ2 H2 Jy)
    (hd : ∀ H', Same H1 H' → H' D = some (.lst (bs.map f)) → Qd H') :
    ∃ W : Nat → Nat → Hp → Prop, (∃ m, W 0 m (upd H1 D (.lst []))) ∧ ∀ i m H, W i m H →
      (J.stop i H ∧ Qd H) ∨ (J.go i H ∧ ∃ Nx : Hp → Prop, (∀ H', Nx H' → ∃ m', m' < m ∧ W (i + 1) m' H') ∧ ∀ x H', J.yld i H x H' → g x (wipe σ vs) H' fun σ2 H2 => wipe σ2 vs = wipe σ vs ∧ tYes σ2 H2 fun b H3 =>
        if b = true then te σ2 H3 fun y H4 => ∃ acc, H4 D = some (.lst acc) ∧ acc.length < sizeLine ∧ Nx (upd H4 D (.lst (acc ++ [y]))) else Nx H3) :=
  lc_m w hD hl hG (fun _ => true) f (fun b hb H Jy N s h _ => hs b hb H Jy s (h rfl)) (fun H' s e => hd H' s (by rw [e, List.filter_eq_self.mpr (fun _ _ => rfl)]))
theorem KT.zip {H0 H : Hp} {L : Addr} {f : Str → Bool} {ns : List Str} (s : KT H0 H L f ns) : ∃ zs : List (Addr × Str × Bool), H L = some (.lst (zs.map fun z => V.ref z.1)) ∧ zs.length = ns.length ∧ (∀ z ∈ zs, H z.1 = some (.tup [.str z.2.1, .bl z.2.2])) ∧ (zs.filter (·.2.2)).map (fun z => V.str z.2.1) = (ns.filter f).map V.str := by
  obtain ⟨ts, bs, s, rfl, h⟩ := s
  have e1 : (ts.zip bs).map (·.1) = ts := List.map_fst_zip (Nat.le_of_eq s.len)
  have e2 : (ts.zip bs).map (·.2) = bs := List.map_snd_zip (Nat.le_of_eq s.len.symm)
  refine ⟨ts.zip bs, ?_, ?_, fun z hz => ?_, ?_⟩
  · rw [s.at_]
    conv => lhs; rw [← e1]
    rw [List.map_map]
    rfl
  · rw [List.length_zip, s.len, Nat.min_self, List.length_map]
  · obtain ⟨j, hj, e⟩ := List.mem_iff_getElem.mp hz
    have q : (ts.zip bs)[j]? = some z := by rw [List.getElem?_eq_getElem hj, e]
    obtain ⟨q1, q2⟩ := List.getElem?_zip_eq_some.mp q
    exact s.rows j _ _ q1 q2
  · rw [← filter_fst f h]
    conv => rhs; rw [← e2]
    rw [List.filter_map, List.map_map]
    rfl
/-- k0, k1, .. -/
def kn (i : Nat) : Key := .inr (("k" : Str) ++ (toString (0 + (i : Int)) : Str))
def kvs3 : Nat → List V → List (Key × V)
  | _, [] => []
  | i, x :: r => (kn i, x) :: kvs3 (i + 1) r
theorem kn_ne : kn 0 ≠ kn 1 ∧ kn 0 ≠ kn 2 ∧ kn 1 ≠ kn 2 := by decide +kernel
theorem kn_fmt : ∀ {j : Nat}, j < 3 → (0 + (j : Int)).natAbs.log2 < 1920 ∧ (Str.empty ++ ("k" : Str)).length ≤ sizeLine ∧ ((Str.empty ++ ("k" : Str)) ++ (toString (0 + (j : Int)) : Str)).length ≤ sizeLine ∧ V.str ((Str.empty ++ ("k" : Str)) ++ (toString (0 + (j : Int)) : Str)) = kV (kn j)
  | 0, _ => ⟨by decide +kernel, by decide +kernel, by decide +kernel, congrArg V.str (by decide +kernel)⟩
  | 1, _ => ⟨by decide +kernel, by decide +kernel, by decide +kernel, congrArg V.str (by decide +kernel)⟩
  | 2, _ => ⟨by decide +kernel, by decide +kernel, by decide +kernel, congrArg V.str (by decide +kernel)⟩
  | n + 3, h => absurd h (by omega)
theorem kvs_len : ∀ {xs : List V} {i : Nat}, (kvs3 i xs).length = xs.length
  | [], _ => rfl
  | _ :: r, i => congrArg (· + 1) (kvs_len (xs := r) (i := i + 1))
theorem kvs_put {xs : List V} (hl : xs.length ≤ 3) {j : Nat} {u : V} (hu : xs[j]? = some u) : putK (kvs3 0 (xs.take j)) (kn j) u = kvs3 0 (xs.take (j + 1)) := by
  obtain ⟨n1, n2, n3⟩ := kn_ne
  have hj : j < xs.length := (List.getElem?_eq_some_iff.mp hu).1
  rcases xs with _ | ⟨a, _ | ⟨b, _ | ⟨c, _ | ⟨d, r⟩⟩⟩⟩
  · cases hu
  all_goals (rcases j with _ | _ | _ | j)
  all_goals (first | (simp at hj; done) | (simp at hl; done) | (simp only [List.length_cons] at hl; omega) | (simp only [List.length_cons, List.length_nil] at hj; omega) | skip)
  all_goals (cases hu; simp [putK, kvs3, n1, n2, n3])
/-! ### data, apart from the bag -/
def Dt (G : Addr → Prop) (H : Hp) : Nat → V → Prop
  | 0, v => Sc v
  | n + 1, v => Sc v ∨ (∃ (b : Bool) (p : Addr) (xs : List V), v = .ref p ∧ ¬ G p ∧ H p = some (mkO b xs) ∧ xs.length ≤ 3 ∧ ∀ x ∈ xs, Dt G H n x) ∨ ∃ (p : Addr) (xs : List V), v = .ref p ∧ ¬ G p ∧ H p = some (.dK (kvs3 0 xs)) ∧ xs.length ≤ 3 ∧ ∀ x ∈ xs, Dt G H n x
theorem Dt.sc {G : Addr → Prop} {H : Hp} {v : V} (h : Sc v) : ∀ n, Dt G H n v
  | 0 => h
  | _ + 1 => .inl h
theorem Dt.to {G G' : Addr → Prop} {H H' : Hp} (m : ∀ a, G' a → G a) (k : ∀ p o, ¬ G p → H p = some o → H' p = some o) : ∀ {n : Nat} {v : V}, Dt G H n v → Dt G' H' n v
  | 0, _, h => h
  | _ + 1, _, .inl h => .inl h
  | _ + 1, _, .inr (.inl ⟨b, p, xs, e, n, h, l, r⟩) => .inr (.inl ⟨b, p, xs, e, fun z => n (m p z), k p _ n h, l, fun x hx => (r x hx).to m k⟩)
  | _ + 1, _, .inr (.inr ⟨p, xs, e, n, h, l, r⟩) => .inr (.inr ⟨p, xs, e, fun z => n (m p z), k p _ n h, l, fun x hx => (r x hx).to m k⟩)
theorem Dt.kp {G : Addr → Prop} {g : Addr} {H H' : Hp} (hg : G g) (k : Kp g H H') {n : Nat} {v : V} (h : Dt G H n v) : Dt G H' n v := h.to (fun _ z => z) fun p o np e => k p o (fun z => np (z ▸ hg)) e
theorem Dt.same {G : Addr → Prop} {H H' : Hp} (k : L2.Same H H') {n : Nat} {v : V} (h : Dt G H n v) : Dt G H' n v := h.to (fun _ z => z) fun p o _ e => k p o e
theorem Dt.mut {G : Addr → Prop} {D : Addr} {H : Hp} {o : HO} (hg : G D) {n : Nat} {v : V} (h : Dt G H n v) : Dt G (upd H D o) n v := h.to (fun _ z => z) fun p o np e => by rw [upd_ne (fun z : p = D => np (by rw [z]; exact hg))]; exact e
theorem lc_dt {n m : Nat} {j : Nat} {te : TE} {vs : List Nat} {σ : L2.St} {g l : Addr} {H0 H1 : Hp} {D : Addr} {Qd : Hp → Prop} (R : Ok g l H0 H1) (hD : H1 D = none) (hn : n ≤ 1000000)
    (hw : ∀ x, wipe ((wipe σ vs).set j (some x)) vs = wipe σ vs)
    (he : ∀ (i : Nat) (H : Hp) (Q : VK), i < n → Ok g l H0 H → (∀ x H', Dt (fun a => H a ≠ none) H' m x → Ok g l H H' → Q x H') → te ((wipe σ vs).set j (some (.int (0 + (i : Int))))) H Q)
    (hd : ∀ H xs, Ok g l H0 H → H D = some (.lst xs) → xs.length = n → (∀ x ∈ xs, Dt (fun a => H0 a ≠ none ∨ a = D) H m x) → Qd H) :
    ∃ W : Nat → Nat → Hp → Prop, (∃ m, W 0 m (upd H1 D (.lst []))) ∧ ∀ i m H, W i m H →
      ((Itr 0 n).stop i H ∧ Qd H) ∨ ((Itr 0 n).go i H ∧ ∃ Nx : Hp → Prop, (∀ H', Nx H' → ∃ m', m' < m ∧ W (i + 1) m' H') ∧ ∀ x H', (Itr 0 n).yld i H x H' → gName j x (wipe σ vs) H' fun σ2 H2 => wipe σ2 vs = wipe σ vs ∧ tYes σ2 H2 fun b H3 =>
        if b = true then te σ2 H3 fun y H4 => ∃ acc, H4 D = some (.lst acc) ∧ acc.length < sizeLine ∧ Nx (upd H4 D (.lst (acc ++ [y]))) else Nx H3) := by
  have nD := R.bag.ne hD
  have gG : H0 g ≠ none ∨ g = D := .inl fun z => (R.b0.ne z).1 rfl
  refine lc_it walk_range (fun i H => i ≤ n ∧ Ok g l H1 H ∧ ∃ xs, H D = some (.lst xs) ∧ xs.length = i ∧ ∀ x ∈ xs, Dt (fun a => H0 a ≠ none ∨ a = D) H m x) ⟨Nat.zero_le _, Ok.new (Ok.refl R.bag) hD, [], upd_same, rfl, fun x hx => by cases hx⟩ (fun _ _ _ _ => trivial) ?_ ?_
  · rintro i x H H' hi ⟨_, r, xs, h1, h2, h3⟩ ⟨rfl, rfl⟩
    refine ⟨hw _, ?_⟩
    refine he i _ _ hi (R.trans r) fun x H2 fx r2 => ?_
    have h4 := r2.kp D _ nD.1 h1
    refine ⟨xs, h4, Nat.lt_of_lt_of_le (by omega : xs.length < 1000000 + 1) (by decide), hi, (r.trans r2).mut hD, xs ++ [x], upd_same, by rw [List.length_append, h2]; rfl, fun y hy => ?_⟩
    refine Dt.mut (.inr rfl) ?_
    rcases List.mem_append.mp hy with hy | hy
    · exact (h3 y hy).kp gG r2.kp
    · rw [List.mem_singleton] at hy
      rw [hy]
      refine fx.to (fun a z => ?_) fun p o _ e => e
      rcases z with z | rfl
      · exact fun w => z ((R.trans r).free w)
      · rw [h1]
        exact fun w => by cases w
  · rintro H ⟨_, r, xs, h1, h2, h3⟩
    exact hd H xs (R.trans r) h1 h2 h3
theorem one_strs : ∀ {xs : List V}, (∀ x ∈ xs, ∃ c : Nat, x = V.str ⟨#[c]⟩) → ∃ ys : List Str, xs = ys.map V.str ∧ (ys.map fun y => y.length).sum = ys.length
  | [], _ => ⟨[], rfl, rfl⟩
  | x :: r, h => by
    obtain ⟨c, rfl⟩ := h x (List.mem_cons_self ..)
    obtain ⟨ys, e, s⟩ := one_strs (xs := r) fun z hz => h z (List.mem_cons_of_mem _ hz)
    refine ⟨⟨#[c]⟩ :: ys, by rw [e]; rfl, ?_⟩
    rw [List.map_cons, List.sum_cons, s, List.length_cons, Nat.add_comm]
    rfl
/-! ### copies -/
def Lg (G : Addr → Prop) (H : Hp) : Nat → V → V → Prop
  | 0, x, y => x = y ∧ Sc x
  | n + 1, x, y => (x = y ∧ Sc x) ∨ ∃ (p q : Addr) (xs ys : List V), x = .ref p ∧ y = .ref q ∧ ¬ G p ∧ ¬ G q ∧ ((∃ b, H p = some (mkO b xs) ∧ H q = some (mkO b ys)) ∨ (H p = some (.dK (kvs3 0 xs)) ∧ H q = some (.dK (kvs3 0 ys)))) ∧ xs.length = ys.length ∧ xs.length ≤ 3 ∧ ∀ (i : Nat) (u v : V), xs[i]? = some u → ys[i]? = some v → Lg G H n u v
theorem Lg.sc {G : Addr → Prop} {H : Hp} {x : V} (h : Sc x) : ∀ n, Lg G H n x x
  | 0 => ⟨rfl, h⟩
  | _ + 1 => .inl ⟨rfl, h⟩
theorem Lg.to {G G' : Addr → Prop} {H H' : Hp} (m : ∀ a, G' a → G a) (k : ∀ p o, ¬ G p → H p = some o → H' p = some o) : ∀ {n : Nat} {x y : V}, Lg G H n x y → Lg G' H' n x y
  | 0, _, _, h => h
  | _ + 1, _, _, .inl h => .inl h
  | _ + 1, _, _, .inr ⟨p, q, xs, ys, e1, e2, n1, n2, h, l, l3, r⟩ => .inr ⟨p, q, xs, ys, e1, e2, fun z => n1 (m p z), fun z => n2 (m q z), (by
      rcases h with ⟨b, h1, h2⟩ | ⟨h1, h2⟩
      · exact .inl ⟨b, k _ _ n1 h1, k _ _ n2 h2⟩
      · exact .inr ⟨k _ _ n1 h1, k _ _ n2 h2⟩), l, l3, fun i u v a c => (r i u v a c).to m k⟩
theorem kvs_val {xs : List V} (hl : xs.length ≤ 3) {i : Nat} {u : V} (h : xs[i]? = some u) : valV (kvs3 0 xs) (kn i) = some u := by
  obtain ⟨n1, n2, n3⟩ := kn_ne
  have hj : i < xs.length := (List.getElem?_eq_some_iff.mp h).1
  rcases xs with _ | ⟨a, _ | ⟨b, _ | ⟨c, _ | ⟨d, r⟩⟩⟩⟩
  · cases h
  all_goals (rcases i with _ | _ | _ | i)
  all_goals (first | (simp at hj; done) | (simp at hl; done) | (simp only [List.length_cons] at hl; omega) | (simp only [List.length_cons, List.length_nil] at hj; omega) | skip)
  all_goals (cases h; simp [valV, kvs3, n1, n2, n3])
theorem kvs_mem {xs : List V} : ∀ {j : Nat} {z : Key × V}, z ∈ kvs3 j xs → ∃ i, xs[i]? = some z.2 ∧ z.1 = kn (j + i) := by
  induction xs with
  | nil => intro j z h; cases h
  | cons x r ih =>
    intro j z h
    rcases List.mem_cons.mp h with rfl | h
    · exact ⟨0, rfl, rfl⟩
    · obtain ⟨i, e, q⟩ := ih h
      exact ⟨i + 1, e, by rw [q]; congr 1; omega⟩
theorem Lg.lq {G : Addr → Prop} {H : Hp} : ∀ {n : Nat} {x y : V}, Lg G H n x y → Lq H n x y
  | 0, _, _, h => h
  | _ + 1, _, _, .inl h => .inl h
  | n + 1, _, _, .inr ⟨p, q, xs, ys, e1, e2, n1, n2, h, l, l3, r⟩ => by
    rcases h with ⟨b, h1, h2⟩ | ⟨h1, h2⟩
    · exact .inr (.inr ⟨b, p, q, xs, ys, e1, e2, h1, h2, l, by omega, fun i u v a c => (r i u v a c).lq⟩)
    · refine .inr (.inl ⟨p, q, _, _, e1, e2, h1, h2, by rw [kvs_len, kvs_len, l], fun z hz => ?_⟩)
      obtain ⟨i, e, k⟩ := kvs_mem hz
      have hi : i < ys.length := l ▸ (List.getElem?_eq_some_iff.mp e).1
      have ey : ys[i]? = some ys[i] := List.getElem?_eq_getElem hi
      refine ⟨ys[i], ?_, (r i _ _ e ey).lq⟩
      rw [k, Nat.zero_add]
      exact kvs_val (l ▸ l3) ey
theorem Dt.avoid {G : Addr → Prop} {H : Hp} {D : Addr} (hD : H D = none) : ∀ {n : Nat} {v : V}, Dt G H n v → Dt (fun a => G a ∨ a = D) H n v
  | 0, _, h => h
  | _ + 1, _, .inl h => .inl h
  | _ + 1, _, .inr (.inl ⟨b, p, xs, e, n, h, l, r⟩) => .inr (.inl ⟨b, p, xs, e, (by
      rintro (z | z)
      · exact n z
      · rw [z, hD] at h
        cases h), h, l, fun x hx => (r x hx).avoid hD⟩)
  | _ + 1, _, .inr (.inr ⟨p, xs, e, n, h, l, r⟩) => .inr (.inr ⟨p, xs, e, (by
      rintro (z | z)
      · exact n z
      · rw [z, hD] at h
        cases h), h, l, fun x hx => (r x hx).avoid hD⟩)
theorem same_occ {H H' : Hp} (s : L2.Same H H') {a : Addr} (h : H a ≠ none) : H' a ≠ none := by
  cases q : H a with
  | none => exact absurd q h
  | some o => rw [s _ _ q]; exact fun z => by cases z
theorem same_free {H H' : Hp} (s : L2.Same H H') {a : Addr} (h : H' a = none) : H a = none := by
  cases q : H a with
  | none => rfl
  | some o => rw [s _ _ q] at h; cases h
/-- a comprehension that copies -/
theorem lc_cp {J : It} {GH : Hp → Prop} {Y : Nat → Hp → V → Hp → Prop} {xs : List V} (w : Walk J xs.length GH Y) {g : TG} {te : TE} {vs : List Nat} {σ : St} {H1 : Hp} {D : Addr} {Qd : Hp → Prop} {G : Addr → Prop} {m : Nat} (hD : H1 D = none) (hl : xs.length ≤ 1000000) (hG : ∀ H, Same H1 H → GH H)
    (hY : ∀ i x H H', i < xs.length → Y i H x H' → H' = H)
    (hs : ∀ (i : Nat) (u x : V) (H : Hp) (Jy : VK), xs[i]? = some u → Y i H x H → Same H1 H → (∃ zs, H D = some (.lst zs)) → (∀ y H', Same H H' → Lg (fun a => G a ∨ a = D) H' m u y → Jy y H') → g x (wipe σ vs) H fun σ2 H2 => wipe σ2 vs = wipe σ vs ∧ te σ2 H2 Jy)
    (hd : ∀ H' ys, Same H1 H' → H' D = some (.lst ys) → xs.length = ys.length → (∀ (i : Nat) (u v : V), xs[i]? = some u → ys[i]? = some v → Lg (fun a => G a ∨ a = D) H' m u v) → Qd H') :
    ∃ W : Nat → Nat → Hp → Prop, (∃ m, W 0 m (upd H1 D (.lst []))) ∧ ∀ i m H, W i m H →
      (J.stop i H ∧ Qd H) ∨ (J.go i H ∧ ∃ Nx : Hp → Prop, (∀ H', Nx H' → ∃ m', m' < m ∧ W (i + 1) m' H') ∧ ∀ x H', J.yld i H x H' → g x (wipe σ vs) H' fun σ2 H2 => wipe σ2 vs = wipe σ vs ∧ tYes σ2 H2 fun b H3 =>
        if b = true then te σ2 H3 fun y H4 => ∃ acc, H4 D = some (.lst acc) ∧ acc.length < sizeLine ∧ Nx (upd H4 D (.lst (acc ++ [y]))) else Nx H3) := by
  refine lc_it w (fun i H => Same H1 H ∧ ∃ ys, H D = some (.lst ys) ∧ ys.length = i ∧ i ≤ xs.length ∧ ∀ (j : Nat) (u v : V), xs[j]? = some u → ys[j]? = some v → Lg (fun a => G a ∨ a = D) H m u v)
    ⟨same_new hD, [], upd_same, rfl, Nat.zero_le _, fun j u v _ e => by simp at e⟩ (fun i H _ p => hG H p.1) ?_ ?_
  · rintro i x H H' hi ⟨s, ys, e, ln, _, r⟩ hy
    obtain rfl := hY i x H H' hi hy
    have hu : xs[i]? = some xs[i] := List.getElem?_eq_getElem hi
    refine hs i xs[i] x H' _ hu hy s ⟨_, e⟩ fun y H2 s2 q => ?_
    have e2 := s2 _ _ e
    refine ⟨ys, e2, Nat.lt_of_le_of_lt (by omega : ys.length ≤ 1000000) (by decide), fun c o z => by rw [upd_ne (ne_of_none z hD)]; exact s2 c o (s c o z), ys ++ [y], upd_same, by rw [List.length_append, ln]; rfl, hi, fun j u v a c => ?_⟩
    have go : ∀ {u v : V}, Lg (fun a => G a ∨ a = D) H2 m u v → Lg (fun a => G a ∨ a = D) (upd H2 D (.lst (ys ++ [y]))) m u v := fun t => t.to (fun _ z => z) fun p o np z => by rw [upd_ne (fun w : p = D => np (.inr w))]; exact z
    rcases Nat.lt_or_ge j ys.length with h | h
    · rw [List.getElem?_append_left h] at c
      exact go ((r j u v a c).to (fun _ z => z) fun p o _ z => s2 p o z)
    · rw [List.getElem?_append_right h] at c
      match q0 : j - ys.length, c with
      | 0, c =>
        obtain rfl : j = i := by omega
        rw [hu] at a
        cases a
        cases c
        exact go q
  · rintro H ⟨s, ys, e, ln, _, r⟩
    exact hd H ys s e ln.symm r
/-! ### one comprehension for all -/
theorem lc_one {J : It} {GH : Hp → Prop} {Y : Nat → Hp → V → Hp → Prop} {xs : List V} (w : Walk J xs.length GH Y) {gt : TG} {te : TE} {vs : List Nat} {σ : St} {g l : Addr} {H0 H1 : Hp} {D : Addr} {Qd : Hp → Prop} (F : Hp → V → V → Prop) (R : Ok g l H0 H1) (hD : H1 D = none) (hl : xs.length ≤ 1000000)
    (hGH : ∀ H, Ok g l H1 H → GH H) (hY : ∀ i x H H', i < xs.length → Y i H x H' → H' = H) (hF : ∀ u y H H', F H u y → Ok g l H H' → F H' u y) (hG : ∀ u y H zs ys, H D = some (.lst zs) → F H u y → F (upd H D (.lst ys)) u y)
    (hs : ∀ (i : Nat) (u x : V) (H : Hp) (Jy : VK), xs[i]? = some u → Y i H x H → Ok g l H1 H → (∃ zs, H D = some (.lst zs)) → (∀ y H', F H' u y → Ok g l H H' → Jy y H') → gt x (wipe σ vs) H fun σ2 H2 => wipe σ2 vs = wipe σ vs ∧ te σ2 H2 Jy)
    (hd : ∀ H' ys, Ok g l H0 H' → Ok g l H1 H' → H' D = some (.lst ys) → xs.length = ys.length → (∀ (i : Nat) (u v : V), xs[i]? = some u → ys[i]? = some v → F H' u v) → Qd H') :
    ∃ W : Nat → Nat → Hp → Prop, (∃ m, W 0 m (upd H1 D (.lst []))) ∧ ∀ i m H, W i m H →
      (J.stop i H ∧ Qd H) ∨ (J.go i H ∧ ∃ Nx : Hp → Prop, (∀ H', Nx H' → ∃ m', m' < m ∧ W (i + 1) m' H') ∧ ∀ x H', J.yld i H x H' → gt x (wipe σ vs) H' fun σ2 H2 => wipe σ2 vs = wipe σ vs ∧ tYes σ2 H2 fun b H3 =>
        if b = true then te σ2 H3 fun y H4 => ∃ acc, H4 D = some (.lst acc) ∧ acc.length < sizeLine ∧ Nx (upd H4 D (.lst (acc ++ [y]))) else Nx H3) := by
  have nD := R.bag.ne hD
  refine lc_it w (fun i H => Ok g l H1 H ∧ ∃ ys, H D = some (.lst ys) ∧ ys.length = i ∧ i ≤ xs.length ∧ ∀ (j : Nat) (u v : V), xs[j]? = some u → ys[j]? = some v → F H u v)
    ⟨(Ok.refl R.bag).new hD, [], upd_same, rfl, Nat.zero_le _, fun j u v _ e => by simp at e⟩ (fun i H _ p => hGH H p.1) ?_ ?_
  · rintro i x H H' hi ⟨s, ys, e, ln, _, r⟩ hy
    obtain rfl := hY i x H H' hi hy
    have hu : xs[i]? = some xs[i] := List.getElem?_eq_getElem hi
    refine hs i xs[i] x H' _ hu hy s ⟨_, e⟩ fun y H2 q s2 => ?_
    have e2 := s2.kp D _ nD.1 e
    refine ⟨ys, e2, Nat.lt_of_le_of_lt (by omega : ys.length ≤ 1000000) (by decide), (s.trans s2).mut hD, ys ++ [y], upd_same, by rw [List.length_append, ln]; rfl, hi, fun j u v a c => ?_⟩
    refine hG u v H2 ys _ e2 ?_
    rcases Nat.lt_or_ge j ys.length with h | h
    · rw [List.getElem?_append_left h] at c
      exact hF u v _ _ (r j u v a c) s2
    · rw [List.getElem?_append_right h] at c
      match q0 : j - ys.length, c with
      | 0, c =>
        obtain rfl : j = i := by omega
        rw [hu] at a
        cases a
        cases c
        exact q
  · rintro H ⟨s, ys, e, ln, _, r⟩
    exact hd H ys (R.trans s) s e ln.symm r
def rLof (K : PySem.W.Frag) : List V → Hp → VK → Prop := fun xs H Q => ∃ p ys, xs = [.ref p] ∧ (SqL K H p ys ∨ SqT K H p ys) ∧ ∀ l, H l = none → Q (.ref l) (upd H l (.lst ys))
def rLs (K : PySem.W.Frag) : List V → Hp → VK → Prop := fun xs H Q => ∃ p ys, xs = [.ref p] ∧ (SqL K H p ys ∨ SqT K H p ys) ∧ Q (.int ys.length) H
/-- a pair of things -/
def Pr (G : Addr → Prop) (H : Hp) (v : V) : Prop := ∃ (T : Addr) (x y : V), v = .ref T ∧ ¬ G T ∧ H T = some (.tup [x, y]) ∧ Dt G H 2 x ∧ Dt G H 2 y
theorem Pr.to {G G' : Addr → Prop} {H H' : Hp} {v : V} (m : ∀ a, G' a → G a) (k : ∀ p o, ¬ G p → H p = some o → H' p = some o) (h : Pr G H v) : Pr G' H' v := by
  obtain ⟨T, x, y, e, n, h, d1, d2⟩ := h
  exact ⟨T, x, y, e, fun z => n (m _ z), k _ _ n h, d1.to m k, d2.to m k⟩
/-! ### dues and errors -/
/-- a pair and what is due of its error -/
def Du (G : Addr → Prop) (p : Str) (n : Nat) (H : Hp) (u v : V) : Prop := ∃ (T E : Addr) (x y x' y' : V), u = .ref T ∧ v = .ref E ∧ ¬ G T ∧ ¬ G E ∧ H T = some (.tup [x, y]) ∧ H E = some (.lst (.str p :: [x', y'].take n)) ∧ Lg G H 2 x x' ∧ Lg G H 2 y y'
theorem Du.to {G G' : Addr → Prop} {p : Str} {n : Nat} {H H' : Hp} {u v : V} (m : ∀ a, G' a → G a) (k : ∀ p o, ¬ G p → H p = some o → H' p = some o) (h : Du G p n H u v) : Du G' p n H' u v := by
  obtain ⟨T, E, x, y, x', y', e1, e2, n1, n2, h1, h2, l1, l2⟩ := h
  exact ⟨T, E, x, y, x', y', e1, e2, fun z => n1 (m _ z), fun z => n2 (m _ z), k _ _ n1 h1, k _ _ n2 h2, l1.to m k, l2.to m k⟩
theorem lg_pair {G : Addr → Prop} {H : Hp} {T : Addr} {x y v : V} (hT : H T = some (.tup [x, y])) (h : Lg G H 3 (.ref T) v) : ∃ (T' : Addr) (x' y' : V), v = .ref T' ∧ ¬ G T' ∧ H T' = some (.tup [x', y']) ∧ Lg G H 2 x x' ∧ Lg G H 2 y y' := by
  rcases h with ⟨_, h⟩ | ⟨p, q, xs, ys, e1, e2, n1, n2, h, l, _, r⟩
  · exact h.elim
  · cases e1
    rcases h with ⟨b, h1, h2⟩ | ⟨h1, _⟩
    · rw [hT] at h1
      cases b with
      | true => cases h1
      | false =>
        cases h1
        match ys, l with
        | [x', y'], _ => exact ⟨q, x', y', e2, n2, h2, r 0 _ _ rfl rfl, r 1 _ _ rfl rfl⟩
    · rw [hT] at h1
      cases h1
theorem cut_take {x y : V} : ∀ {n : Nat}, n ≤ 2 → cutV [x, y] none (some (n : Int)) = [x, y].take n
  | 0, _ => rfl
  | 1, _ => rfl
  | 2, _ => rfl
  | n + 3, h => absurd h (by omega)
/-- an error stands while lists change -/
theorem ErA.to {r : Ar} {H H' : Hp} {p : Str} {ps : List Str} {us : List V} {v : V} (k : ∀ q o, (∀ zs, o ≠ HO.lst zs) → H q = some o → H' q = some o) (h : ErA r H p ps us v) : ErA r H' p ps us v := by
  obtain ⟨a, i, b, d, e1, e2, e3, e4, e5⟩ := h
  exact ⟨a, i, b, d, e1, e2, e3, k _ _ (fun zs z => by cases z) e4, k _ _ (fun zs z => by cases z) e5⟩
theorem MkE.er {r : Ar} {p : Str} {us : List V} {H H' : Hp} {v : V} {i : Nat} {ps : List Str} {b : Nat} (hi : tE[i]? = some (p, ps, b)) (h : MkE r p us H H' v) : ErA r H' p ps us v ∧ L2.Same H H' := by
  obtain ⟨a, j, qs, c, d, e1, e2, e3, e4, e5, e6⟩ := h
  have ij : i = j := (List.getElem?_inj (by rw [List.length_map]; exact (List.getElem?_eq_some_iff.mp hi).1) tE_nd).mp (show (tE.map (·.1))[i]? = (tE.map (·.1))[j]? by rw [List.getElem?_map, List.getElem?_map, hi, e2]; rfl)
  subst ij
  rw [hi] at e2
  cases e2
  exact ⟨⟨a, i, b, d, e1, hi, e3, e4, e5⟩, e6⟩
theorem cut_tail {a x y : V} : ∀ {n : Nat}, n ≤ 2 → cutV (a :: [x, y].take n) (some 1) none = [x, y].take n
  | 0, _ => rfl
  | 1, _ => rfl
  | 2, _ => rfl
  | n + 3, h => absurd h (by omega)
theorem take_pair {P : V → V → Prop} {x y x' y' : V} (h1 : P x x') (h2 : P y y') : ∀ {n : Nat}, n ≤ 2 → ∀ (i : Nat) (u v : V), ([x, y].take n)[i]? = some u → ([x', y'].take n)[i]? = some v → P u v
  | 0, _, i, u, v, a, _ => by simp at a
  | 1, _, 0, u, v, a, c => by
    cases a
    cases c
    exact h1
  | 1, _, i + 1, u, v, a, _ => by simp at a
  | 2, _, 0, u, v, a, c => by
    cases a
    cases c
    exact h1
  | 2, _, 1, u, v, a, c => by
    cases a
    cases c
    exact h2
  | 2, _, i + 2, u, v, a, _ => by simp at a
  | n + 3, h, _, _, _, _, _ => absurd h (by omega)
theorem take_len {x y x' y' : V} {n : Nat} : ([x, y].take n).length = ([x', y'].take n).length := by rw [List.length_take, List.length_take]; rfl
theorem lq_lst {H : Hp} {n : Nat} {p q : Addr} {xs ys : List V} (h1 : H p = some (.lst xs)) (h2 : H q = some (.lst ys)) (l : xs.length = ys.length) (l3 : xs.length ≤ 100) (r : ∀ (i : Nat) (u v : V), xs[i]? = some u → ys[i]? = some v → Lq H n u v) : Lq H (n + 1) (.ref p) (.ref q) :=
  .inr (.inr ⟨true, p, q, xs, ys, rfl, rfl, h1, h2, l, by omega, r⟩)
theorem tE_uniq {i j : Nat} {p : Str} {ps qs : List Str} {b c : Nat} (hi : tE[i]? = some (p, ps, b)) (hj : tE[j]? = some (p, qs, c)) : c = b := by
  have ij : i = j := (List.getElem?_inj (by rw [List.length_map]; exact (List.getElem?_eq_some_iff.mp hi).1) tE_nd).mp (show (tE.map (·.1))[i]? = (tE.map (·.1))[j]? by rw [List.getElem?_map, List.getElem?_map, hi, hj]; rfl)
  subst ij
  rw [hi] at hj
  cases hj
  rfl
theorem dp_strs {K : PySem.W.Frag} {H : Hp} : ∀ zs : List Str, L2.DpAll K H (zs.map V.str) (zs.map PyData.str)
  | [] => .nil
  | z :: zs => .cons (.str z) (dp_strs zs)
def Er (r : Ar) (p : Str) (ps : List Str) (H : Hp) (u v : V) : Prop := ∃ (T : Addr) (x y : V), u = .ref T ∧ H T = some (.tup [x, y]) ∧ ErA r H p ps ([x, y].take ps.length) v
theorem Er.to {r : Ar} {H H' : Hp} {p : Str} {ps : List Str} {u v : V} (k : ∀ q o, (∀ zs, o ≠ HO.lst zs) → H q = some o → H' q = some o) (h : Er r p ps H u v) : Er r p ps H' u v := by
  obtain ⟨T, x, y, e1, e2, e3⟩ := h
  exact ⟨T, x, y, e1, k _ _ (fun zs z => by cases z) e2, e3.to k⟩
theorem Er.two {r : Ar} {G : Addr → Prop} {p : Str} {ps : List Str} {H : Hp} {u d e : V} (h1 : Du G p ps.length H u d) (h2 : Er r p ps H u e) : ∃ (T E : Addr) (x y x' y' : V), u = .ref T ∧ d = .ref E ∧ ¬ G T ∧ ¬ G E ∧ H T = some (.tup [x, y]) ∧ H E = some (.lst (.str p :: [x', y'].take ps.length)) ∧ Lg G H 2 x x' ∧ Lg G H 2 y y' ∧ ErA r H p ps ([x, y].take ps.length) e := by
  obtain ⟨T, E, x, y, x', y', e1, e2, n1, n2, h1, h3, l1, l2⟩ := h1
  obtain ⟨T2, x2, y2, f1, f2, f3⟩ := h2
  rw [e1] at f1
  cases f1
  rw [h1] at f2
  cases f2
  exact ⟨T, E, x, y, x', y', e1, e2, n1, n2, h1, h3, l1, l2, f3⟩
theorem vals_rev {zs : List V} {ws : List Value} (r : Vals zs ws) : Vals zs.reverse ws.reverse := by
  induction r with
  | nil => exact .nil
  | cons h t ih =>
    rw [List.reverse_cons, List.reverse_cons]
    exact Vals.append ih (.cons h .nil)

end k00
namespace k00
open PySem L2 LC RM
abbrev spInvalidNumber_init (C : Addr) : Sp := LX.spErr C 1 (fE "InvalidNumber" ["value"])
theorem ok_InvalidNumber_init {P : Program} {w : World} {K : PySem.W.Frag} {mg : Str → Option Value} {base : Heap} {f : Addr} {fd : FuncData} (F0 : Fun K "__init__" "InvalidNumber.__init__" sInvalidNumber_init f fd) (T : Txt K mg) {C : Addr} (ox : LB.OexB K C) (no : ∀ f ∈ (("code" : Str) :: ["value"]), PySem.W.findIn K (.ref C) f = some none) :
    FnOk P w K mg base CX0 1 f fd PInvalidNumber_init (spInvalidNumber_init C) := by
  refine F0.ok scInvalidNumber_init (fun vs H Q E h => ?_) (fun cdv A outer s H vs Q E hr h => ?_)
  · obtain ⟨x, ws, rfl, hw, _⟩ := h
    show ws.length + 1 = 2
    rw [hw]
  · obtain ⟨x, ws, rfl, hw, ha, k⟩ := h
    obtain ⟨u, rfl⟩ : ∃ u : V, ws = [u] := by
      match ws, hw with
      | [u], _ => exact ⟨u, rfl⟩
    refine ⟨_, (pss_cons (LB.ps_ostB (pv 0) (pv 1))
        (pss_one (LB.ps_ostB (pv 0) pe_str))), ?_⟩
    refine ⟨_, rfl, _, rfl, x, C, rfl, ox, no "value" (by simp), .inl ⟨ha, fun d hd da => ?_⟩⟩
    refine ⟨_, rfl, x, C, rfl, ox, no "code" (by simp), .inr ⟨d, _, upd_same, by rw [upd_ne da]; exact upd_same, (by show 1 ≤ 900; decide), ?_⟩⟩
    refine k d _ hd (by rw [upd_ne (Ne.symm da)]; exact upd_same) upd_same (fun b o hb e => ?_)
    have nd := ne_of_none e hd
    rw [upd_ne nd, upd_ne hb, upd_ne nd]
    exact e
theorem em_InvalidNumber_init {P : Program} {w : World} {K : PySem.W.Frag} {mg : Str → Option Value} {base : Heap} {C f : Addr} {fd : FuncData} (F : Fun K "__init__" "InvalidNumber.__init__" sInvalidNumber_init f fd) (x : LB.OexB K C ∧ PySem.W.findIn K (.ref C) "__init__" = some (some (.ref f)) ∧ PySem.W.typeIn K (.ref f) = some (.type "function") ∧ XfC K C ∧ IsC K C ∧ ∀ z ∈ (("code" : Str) :: ["value"]), PySem.W.findIn K (.ref C) z = some none) (gC : mg "InvalidNumber" = some (.ref C)) (G : FnOk P w K mg base CX0 1 f fd PInvalidNumber_init (spInvalidNumber_init C)) : EM1 P w K mg base C f fd "InvalidNumber" "value" := by
  obtain ⟨ox, iC, tI, xf, is, no⟩ := x
  obtain ⟨oc, od, kV, doc, pm, an, cdv, ct, osl, rfl, lk, hcd⟩ := F.ex
  exact { ox := ox, iC := iC, tI := tI, gC := gC, xf := xf, is := is, no := no, g := G, b := ⟨fun s a us ws _ hu hw => match us, ws, hu, hw with | [u], [], _, _ => .of_eq rfl, fun r1 _ => r1⟩, bk := ⟨fun s a us ws _ hu hw => match us, ws, hu, hw with | [], [u], _, _ => .of_eq rfl, fun _ r2 => r2⟩ }
end k00
namespace k00
open PySem L2 LC RM
abbrev spInvalidName_init (C : Addr) : Sp := LX.spErr C 1 (fE "InvalidName" ["value"])
theorem ok_InvalidName_init {P : Program} {w : World} {K : PySem.W.Frag} {mg : Str → Option Value} {base : Heap} {f : Addr} {fd : FuncData} (F0 : Fun K "__init__" "InvalidName.__init__" sInvalidName_init f fd) (T : Txt K mg) {C : Addr} (ox : LB.OexB K C) (no : ∀ f ∈ (("code" : Str) :: ["value"]), PySem.W.findIn K (.ref C) f = some none) :
    FnOk P w K mg base CX0 1 f fd PInvalidName_init (spInvalidName_init C) := by
  refine F0.ok scInvalidName_init (fun vs H Q E h => ?_) (fun cdv A outer s H vs Q E hr h => ?_)
  · obtain ⟨x, ws, rfl, hw, _⟩ := h
    show ws.length + 1 = 2
    rw [hw]
  · obtain ⟨x, ws, rfl, hw, ha, k⟩ := h
    obtain ⟨u, rfl⟩ : ∃ u : V, ws = [u] := by
      match ws, hw with
      | [u], _ => exact ⟨u, rfl⟩
    refine ⟨_, (pss_cons (LB.ps_ostB (pv 0) (pv 1))
        (pss_one (LB.ps_ostB (pv 0) pe_str))), ?_⟩
    refine ⟨_, rfl, _, rfl, x, C, rfl, ox, no "value" (by simp), .inl ⟨ha, fun d hd da => ?_⟩⟩
    refine ⟨_, rfl, x, C, rfl, ox, no "code" (by simp), .inr ⟨d, _, upd_same, by rw [upd_ne da]; exact upd_same, (by show 1 ≤ 900; decide), ?_⟩⟩
    refine k d _ hd (by rw [upd_ne (Ne.symm da)]; exact upd_same) upd_same (fun b o hb e => ?_)
    have nd := ne_of_none e hd
    rw [upd_ne nd, upd_ne hb, upd_ne nd]
    exact e
theorem em_InvalidName_init {P : Program} {w : World} {K : PySem.W.Frag} {mg : Str → Option Value} {base : Heap} {C f : Addr} {fd : FuncData} (F : Fun K "__init__" "InvalidName.__init__" sInvalidName_init f fd) (x : LB.OexB K C ∧ PySem.W.findIn K (.ref C) "__init__" = some (some (.ref f)) ∧ PySem.W.typeIn K (.ref f) = some (.type "function") ∧ XfC K C ∧ IsC K C ∧ ∀ z ∈ (("code" : Str) :: ["value"]), PySem.W.findIn K (.ref C) z = some none) (gC : mg "InvalidName" = some (.ref C)) (G : FnOk P w K mg base CX0 1 f fd PInvalidName_init (spInvalidName_init C)) : EM1 P w K mg base C f fd "InvalidName" "value" := by
  obtain ⟨ox, iC, tI, xf, is, no⟩ := x
  obtain ⟨oc, od, kV, doc, pm, an, cdv, ct, osl, rfl, lk, hcd⟩ := F.ex
  exact { ox := ox, iC := iC, tI := tI, gC := gC, xf := xf, is := is, no := no, g := G, b := ⟨fun s a us ws _ hu hw => match us, ws, hu, hw with | [u], [], _, _ => .of_eq rfl, fun r1 _ => r1⟩, bk := ⟨fun s a us ws _ hu hw => match us, ws, hu, hw with | [], [u], _, _ => .of_eq rfl, fun _ r2 => r2⟩ }
end k00
namespace k00
open PySem L2 LC RM
abbrev spInvalidText_init (C : Addr) : Sp := LX.spErr C 1 (fE "InvalidText" ["text"])
theorem ok_InvalidText_init {P : Program} {w : World} {K : PySem.W.Frag} {mg : Str → Option Value} {base : Heap} {f : Addr} {fd : FuncData} (F0 : Fun K "__init__" "InvalidText.__init__" sInvalidText_init f fd) (T : Txt K mg) {C : Addr} (ox : LB.OexB K C) (no : ∀ f ∈ (("code" : Str) :: ["text"]), PySem.W.findIn K (.ref C) f = some none) :
    FnOk P w K mg base CX0 1 f fd PInvalidText_init (spInvalidText_init C) := by
  refine F0.ok scInvalidText_init (fun vs H Q E h => ?_) (fun cdv A outer s H vs Q E hr h => ?_)
  · obtain ⟨x, ws, rfl, hw, _⟩ := h
    show ws.length + 1 = 2
    rw [hw]
  · obtain ⟨x, ws, rfl, hw, ha, k⟩ := h
    obtain ⟨u, rfl⟩ : ∃ u : V, ws = [u] := by
      match ws, hw with
      | [u], _ => exact ⟨u, rfl⟩
    refine ⟨_, (pss_cons (LB.ps_ostB (pv 0) (pv 1))
        (pss_one (LB.ps_ostB (pv 0) pe_str))), ?_⟩
    refine ⟨_, rfl, _, rfl, x, C, rfl, ox, no "text" (by simp), .inl ⟨ha, fun d hd da => ?_⟩⟩
    refine ⟨_, rfl, x, C, rfl, ox, no "code" (by simp), .inr ⟨d, _, upd_same, by rw [upd_ne da]; exact upd_same, (by show 1 ≤ 900; decide), ?_⟩⟩
    refine k d _ hd (by rw [upd_ne (Ne.symm da)]; exact upd_same) upd_same (fun b o hb e => ?_)
    have nd := ne_of_none e hd
    rw [upd_ne nd, upd_ne hb, upd_ne nd]
    exact e
theorem em_InvalidText_init {P : Program} {w : World} {K : PySem.W.Frag} {mg : Str → Option Value} {base : Heap} {C f : Addr} {fd : FuncData} (F : Fun K "__init__" "InvalidText.__init__" sInvalidText_init f fd) (x : LB.OexB K C ∧ PySem.W.findIn K (.ref C) "__init__" = some (some (.ref f)) ∧ PySem.W.typeIn K (.ref f) = some (.type "function") ∧ XfC K C ∧ IsC K C ∧ ∀ z ∈ (("code" : Str) :: ["text"]), PySem.W.findIn K (.ref C) z = some none) (gC : mg "InvalidText" = some (.ref C)) (G : FnOk P w K mg base CX0 1 f fd PInvalidText_init (spInvalidText_init C)) : EM1 P w K mg base C f fd "InvalidText" "text" := by
  obtain ⟨ox, iC, tI, xf, is, no⟩ := x
  obtain ⟨oc, od, kV, doc, pm, an, cdv, ct, osl, rfl, lk, hcd⟩ := F.ex
  exact { ox := ox, iC := iC, tI := tI, gC := gC, xf := xf, is := is, no := no, g := G, b := ⟨fun s a us ws _ hu hw => match us, ws, hu, hw with | [u], [], _, _ => .of_eq rfl, fun r1 _ => r1⟩, bk := ⟨fun s a us ws _ hu hw => match us, ws, hu, hw with | [], [u], _, _ => .of_eq rfl, fun _ r2 => r2⟩ }
end k00
namespace k00
open PySem L2 LC RM
abbrev spInvalidBorders_init (C : Addr) : Sp := LX.spErr C 1 (fE "InvalidBorders" ["at"])
theorem ok_InvalidBorders_init {P : Program} {w : World} {K : PySem.W.Frag} {mg : Str → Option Value} {base : Heap} {f : Addr} {fd : FuncData} (F0 : Fun K "__init__" "InvalidBorders.__init__" sInvalidBorders_init f fd) (T : Txt K mg) {C : Addr} (ox : LB.OexB K C) (no : ∀ f ∈ (("code" : Str) :: ["at"]), PySem.W.findIn K (.ref C) f = some none) :
    FnOk P w K mg base CX0 1 f fd PInvalidBorders_init (spInvalidBorders_init C) := by
  refine F0.ok scInvalidBorders_init (fun vs H Q E h => ?_) (fun cdv A outer s H vs Q E hr h => ?_)
  · obtain ⟨x, ws, rfl, hw, _⟩ := h
    show ws.length + 1 = 2
    rw [hw]
  · obtain ⟨x, ws, rfl, hw, ha, k⟩ := h
    obtain ⟨u, rfl⟩ : ∃ u : V, ws = [u] := by
      match ws, hw with
      | [u], _ => exact ⟨u, rfl⟩
    refine ⟨_, (pss_cons (LB.ps_ostB (pv 0) (pv 1))
        (pss_one (LB.ps_ostB (pv 0) pe_str))), ?_⟩
    refine ⟨_, rfl, _, rfl, x, C, rfl, ox, no "at" (by simp), .inl ⟨ha, fun d hd da => ?_⟩⟩
    refine ⟨_, rfl, x, C, rfl, ox, no "code" (by simp), .inr ⟨d, _, upd_same, by rw [upd_ne da]; exact upd_same, (by show 1 ≤ 900; decide), ?_⟩⟩
    refine k d _ hd (by rw [upd_ne (Ne.symm da)]; exact upd_same) upd_same (fun b o hb e => ?_)
    have nd := ne_of_none e hd
    rw [upd_ne nd, upd_ne hb, upd_ne nd]
    exact e
theorem em_InvalidBorders_init {P : Program} {w : World} {K : PySem.W.Frag} {mg : Str → Option Value} {base : Heap} {C f : Addr} {fd : FuncData} (F : Fun K "__init__" "InvalidBorders.__init__" sInvalidBorders_init f fd) (x : LB.OexB K C ∧ PySem.W.findIn K (.ref C) "__init__" = some (some (.ref f)) ∧ PySem.W.typeIn K (.ref f) = some (.type "function") ∧ XfC K C ∧ IsC K C ∧ ∀ z ∈ (("code" : Str) :: ["at"]), PySem.W.findIn K (.ref C) z = some none) (gC : mg "InvalidBorders" = some (.ref C)) (G : FnOk P w K mg base CX0 1 f fd PInvalidBorders_init (spInvalidBorders_init C)) : EM1 P w K mg base C f fd "InvalidBorders" "at" := by
  obtain ⟨ox, iC, tI, xf, is, no⟩ := x
  obtain ⟨oc, od, kV, doc, pm, an, cdv, ct, osl, rfl, lk, hcd⟩ := F.ex
  exact { ox := ox, iC := iC, tI := tI, gC := gC, xf := xf, is := is, no := no, g := G, b := ⟨fun s a us ws _ hu hw => match us, ws, hu, hw with | [u], [], _, _ => .of_eq rfl, fun r1 _ => r1⟩, bk := ⟨fun s a us ws _ hu hw => match us, ws, hu, hw with | [], [u], _, _ => .of_eq rfl, fun _ r2 => r2⟩ }
end k00
namespace k00
open PySem L2 LC RM
abbrev spInvalidRest_init (C : Addr) : Sp := LX.spErr C 1 (fE "InvalidRest" ["value"])
theorem ok_InvalidRest_init {P : Program} {w : World} {K : PySem.W.Frag} {mg : Str → Option Value} {base : Heap} {f : Addr} {fd : FuncData} (F0 : Fun K "__init__" "InvalidRest.__init__" sInvalidRest_init f fd) (T : Txt K mg) {C : Addr} (ox : LB.OexB K C) (no : ∀ f ∈ (("code" : Str) :: ["value"]), PySem.W.findIn K (.ref C) f = some none) :
    FnOk P w K mg base CX0 1 f fd PInvalidRest_init (spInvalidRest_init C) := by
  refine F0.ok scInvalidRest_init (fun vs H Q E h => ?_) (fun cdv A outer s H vs Q E hr h => ?_)
  · obtain ⟨x, ws, rfl, hw, _⟩ := h
    show ws.length + 1 = 2
    rw [hw]
  · obtain ⟨x, ws, rfl, hw, ha, k⟩ := h
    obtain ⟨u, rfl⟩ : ∃ u : V, ws = [u] := by
      match ws, hw with
      | [u], _ => exact ⟨u, rfl⟩
    refine ⟨_, (pss_cons (LB.ps_ostB (pv 0) (pv 1))
        (pss_one (LB.ps_ostB (pv 0) pe_str))), ?_⟩
    refine ⟨_, rfl, _, rfl, x, C, rfl, ox, no "value" (by simp), .inl ⟨ha, fun d hd da => ?_⟩⟩
    refine ⟨_, rfl, x, C, rfl, ox, no "code" (by simp), .inr ⟨d, _, upd_same, by rw [upd_ne da]; exact upd_same, (by show 1 ≤ 900; decide), ?_⟩⟩
    refine k d _ hd (by rw [upd_ne (Ne.symm da)]; exact upd_same) upd_same (fun b o hb e => ?_)
    have nd := ne_of_none e hd
    rw [upd_ne nd, upd_ne hb, upd_ne nd]
    exact e
theorem em_InvalidRest_init {P : Program} {w : World} {K : PySem.W.Frag} {mg : Str → Option Value} {base : Heap} {C f : Addr} {fd : FuncData} (F : Fun K "__init__" "InvalidRest.__init__" sInvalidRest_init f fd) (x : LB.OexB K C ∧ PySem.W.findIn K (.ref C) "__init__" = some (some (.ref f)) ∧ PySem.W.typeIn K (.ref f) = some (.type "function") ∧ XfC K C ∧ IsC K C ∧ ∀ z ∈ (("code" : Str) :: ["value"]), PySem.W.findIn K (.ref C) z = some none) (gC : mg "InvalidRest" = some (.ref C)) (G : FnOk P w K mg base CX0 1 f fd PInvalidRest_init (spInvalidRest_init C)) : EM1 P w K mg base C f fd "InvalidRest" "value" := by
  obtain ⟨ox, iC, tI, xf, is, no⟩ := x
  obtain ⟨oc, od, kV, doc, pm, an, cdv, ct, osl, rfl, lk, hcd⟩ := F.ex
  exact { ox := ox, iC := iC, tI := tI, gC := gC, xf := xf, is := is, no := no, g := G, b := ⟨fun s a us ws _ hu hw => match us, ws, hu, hw with | [u], [], _, _ => .of_eq rfl, fun r1 _ => r1⟩, bk := ⟨fun s a us ws _ hu hw => match us, ws, hu, hw with | [], [u], _, _ => .of_eq rfl, fun _ r2 => r2⟩ }
end k00
namespace k00
open PySem L2 LC RM
abbrev spInvalidRule_init (C : Addr) : Sp := LX.spErr C 1 (fE "InvalidRule" ["value"])
theorem ok_InvalidRule_init {P : Program} {w : World} {K : PySem.W.Frag} {mg : Str → Option Value} {base : Heap} {f : Addr} {fd : FuncData} (F0 : Fun K "__init__" "InvalidRule.__init__" sInvalidRule_init f fd) (T : Txt K mg) {C : Addr} (ox : LB.OexB K C) (no : ∀ f ∈ (("code" : Str) :: ["value"]), PySem.W.findIn K (.ref C) f = some none) :
    FnOk P w K mg base CX0 1 f fd PInvalidRule_init (spInvalidRule_init C) := by
  refine F0.ok scInvalidRule_init (fun vs H Q E h => ?_) (fun cdv A outer s H vs Q E hr h => ?_)
  · obtain ⟨x, ws, rfl, hw, _⟩ := h
    show ws.length + 1 = 2
    rw [hw]
  · obtain ⟨x, ws, rfl, hw, ha, k⟩ := h
    obtain ⟨u, rfl⟩ : ∃ u : V, ws = [u] := by
      match ws, hw with
      | [u], _ => exact ⟨u, rfl⟩
    refine ⟨_, (pss_cons (LB.ps_ostB (pv 0) (pv 1))
        (pss_one (LB.ps_ostB (pv 0) pe_str))), ?_⟩
    refine ⟨_, rfl, _, rfl, x, C, rfl, ox, no "value" (by simp), .inl ⟨ha, fun d hd da => ?_⟩⟩
    refine ⟨_, rfl, x, C, rfl, ox, no "code" (by simp), .inr ⟨d, _, upd_same, by rw [upd_ne da]; exact upd_same, (by show 1 ≤ 900; decide), ?_⟩⟩
    refine k d _ hd (by rw [upd_ne (Ne.symm da)]; exact upd_same) upd_same (fun b o hb e => ?_)
    have nd := ne_of_none e hd
    rw [upd_ne nd, upd_ne hb, upd_ne nd]
    exact e
theorem em_InvalidRule_init {P : Program} {w : World} {K : PySem.W.Frag} {mg : Str → Option Value} {base : Heap} {C f : Addr} {fd : FuncData} (F : Fun K "__init__" "InvalidRule.__init__" sInvalidRule_init f fd) (x : LB.OexB K C ∧ PySem.W.findIn K (.ref C) "__init__" = some (some (.ref f)) ∧ PySem.W.typeIn K (.ref f) = some (.type "function") ∧ XfC K C ∧ IsC K C ∧ ∀ z ∈ (("code" : Str) :: ["value"]), PySem.W.findIn K (.ref C) z = some none) (gC : mg "InvalidRule" = some (.ref C)) (G : FnOk P w K mg base CX0 1 f fd PInvalidRule_init (spInvalidRule_init C)) : EM1 P w K mg base C f fd "InvalidRule" "value" := by
  obtain ⟨ox, iC, tI, xf, is, no⟩ := x
  obtain ⟨oc, od, kV, doc, pm, an, cdv, ct, osl, rfl, lk, hcd⟩ := F.ex
  exact { ox := ox, iC := iC, tI := tI, gC := gC, xf := xf, is := is, no := no, g := G, b := ⟨fun s a us ws _ hu hw => match us, ws, hu, hw with | [u], [], _, _ => .of_eq rfl, fun r1 _ => r1⟩, bk := ⟨fun s a us ws _ hu hw => match us, ws, hu, hw with | [], [u], _, _ => .of_eq rfl, fun _ r2 => r2⟩ }
end k00
namespace k00
open PySem L2 LC RM
abbrev spInvalidPlace_init (C : Addr) : Sp := LX.spErr C 1 (fE "InvalidPlace" ["at"])
theorem ok_InvalidPlace_init {P : Program} {w : World} {K : PySem.W.Frag} {mg : Str → Option Value} {base : Heap} {f : Addr} {fd : FuncData} (F0 : Fun K "__init__" "InvalidPlace.__init__" sInvalidPlace_init f fd) (T : Txt K mg) {C : Addr} (ox : LB.OexB K C) (no : ∀ f ∈ (("code" : Str) :: ["at"]), PySem.W.findIn K (.ref C) f = some none) :
    FnOk P w K mg base CX0 1 f fd PInvalidPlace_init (spInvalidPlace_init C) := by
  refine F0.ok scInvalidPlace_init (fun vs H Q E h => ?_) (fun cdv A outer s H vs Q E hr h => ?_)
  · obtain ⟨x, ws, rfl, hw, _⟩ := h
    show ws.length + 1 = 2
    rw [hw]
  · obtain ⟨x, ws, rfl, hw, ha, k⟩ := h
    obtain ⟨u, rfl⟩ : ∃ u : V, ws = [u] := by
      match ws, hw with
      | [u], _ => exact ⟨u, rfl⟩
    refine ⟨_, (pss_cons (LB.ps_ostB (pv 0) (pv 1))
        (pss_one (LB.ps_ostB (pv 0) pe_str))), ?_⟩
    refine ⟨_, rfl, _, rfl, x, C, rfl, ox, no "at" (by simp), .inl ⟨ha, fun d hd da => ?_⟩⟩
    refine ⟨_, rfl, x, C, rfl, ox, no "code" (by simp), .inr ⟨d, _, upd_same, by rw [upd_ne da]; exact upd_same, (by show 1 ≤ 900; decide), ?_⟩⟩
    refine k d _ hd (by rw [upd_ne (Ne.symm da)]; exact upd_same) upd_same (fun b o hb e => ?_)
    have nd := ne_of_none e hd
    rw [upd_ne nd, upd_ne hb, upd_ne nd]
    exact e
theorem em_InvalidPlace_init {P : Program} {w : World} {K : PySem.W.Frag} {mg : Str → Option Value} {base : Heap} {C f : Addr} {fd : FuncData} (F : Fun K "__init__" "InvalidPlace.__init__" sInvalidPlace_init f fd) (x : LB.OexB K C ∧ PySem.W.findIn K (.ref C) "__init__" = some (some (.ref f)) ∧ PySem.W.typeIn K (.ref f) = some (.type "function") ∧ XfC K C ∧ IsC K C ∧ ∀ z ∈ (("code" : Str) :: ["at"]), PySem.W.findIn K (.ref C) z = some none) (gC : mg "InvalidPlace" = some (.ref C)) (G : FnOk P w K mg base CX0 1 f fd PInvalidPlace_init (spInvalidPlace_init C)) : EM1 P w K mg base C f fd "InvalidPlace" "at" := by
  obtain ⟨ox, iC, tI, xf, is, no⟩ := x
  obtain ⟨oc, od, kV, doc, pm, an, cdv, ct, osl, rfl, lk, hcd⟩ := F.ex
  exact { ox := ox, iC := iC, tI := tI, gC := gC, xf := xf, is := is, no := no, g := G, b := ⟨fun s a us ws _ hu hw => match us, ws, hu, hw with | [u], [], _, _ => .of_eq rfl, fun r1 _ => r1⟩, bk := ⟨fun s a us ws _ hu hw => match us, ws, hu, hw with | [], [u], _, _ => .of_eq rfl, fun _ r2 => r2⟩ }
end k00
namespace k00
open PySem L2 LC RM
abbrev spInvalidServer_init (C : Addr) : Sp := LX.spErr C 1 (fE "InvalidServer" ["at"])
theorem ok_InvalidServer_init {P : Program} {w : World} {K : PySem.W.Frag} {mg : Str → Option Value} {base : Heap} {f : Addr} {fd : FuncData} (F0 : Fun K "__init__" "InvalidServer.__init__" sInvalidServer_init f fd) (T : Txt K mg) {C : Addr} (ox : LB.OexB K C) (no : ∀ f ∈ (("code" : Str) :: ["at"]), PySem.W.findIn K (.ref C) f = some none) :
    FnOk P w K mg base CX0 1 f fd PInvalidServer_init (spInvalidServer_init C) := by
  refine F0.ok scInvalidServer_init (fun vs H Q E h => ?_) (fun cdv A outer s H vs Q E hr h => ?_)
  · obtain ⟨x, ws, rfl, hw, _⟩ := h
    show ws.length + 1 = 2
    rw [hw]
  · obtain ⟨x, ws, rfl, hw, ha, k⟩ := h
    obtain ⟨u, rfl⟩ : ∃ u : V, ws = [u] := by
      match ws, hw with
      | [u], _ => exact ⟨u, rfl⟩
    refine ⟨_, (pss_cons (LB.ps_ostB (pv 0) (pv 1))
        (pss_one (LB.ps_ostB (pv 0) pe_str))), ?_⟩
    refine ⟨_, rfl, _, rfl, x, C, rfl, ox, no "at" (by simp), .inl ⟨ha, fun d hd da => ?_⟩⟩
    refine ⟨_, rfl, x, C, rfl, ox, no "code" (by simp), .inr ⟨d, _, upd_same, by rw [upd_ne da]; exact upd_same, (by show 1 ≤ 900; decide), ?_⟩⟩
    refine k d _ hd (by rw [upd_ne (Ne.symm da)]; exact upd_same) upd_same (fun b o hb e => ?_)
    have nd := ne_of_none e hd
    rw [upd_ne nd, upd_ne hb, upd_ne nd]
    exact e
theorem em_InvalidServer_init {P : Program} {w : World} {K : PySem.W.Frag} {mg : Str → Option Value} {base : Heap} {C f : Addr} {fd : FuncData} (F : Fun K "__init__" "InvalidServer.__init__" sInvalidServer_init f fd) (x : LB.OexB K C ∧ PySem.W.findIn K (.ref C) "__init__" = some (some (.ref f)) ∧ PySem.W.typeIn K (.ref f) = some (.type "function") ∧ XfC K C ∧ IsC K C ∧ ∀ z ∈ (("code" : Str) :: ["at"]), PySem.W.findIn K (.ref C) z = some none) (gC : mg "InvalidServer" = some (.ref C)) (G : FnOk P w K mg base CX0 1 f fd PInvalidServer_init (spInvalidServer_init C)) : EM1 P w K mg base C f fd "InvalidServer" "at" := by
  obtain ⟨ox, iC, tI, xf, is, no⟩ := x
  obtain ⟨oc, od, kV, doc, pm, an, cdv, ct, osl, rfl, lk, hcd⟩ := F.ex
  exact { ox := ox, iC := iC, tI := tI, gC := gC, xf := xf, is := is, no := no, g := G, b := ⟨fun s a us ws _ hu hw => match us, ws, hu, hw with | [u], [], _, _ => .of_eq rfl, fun r1 _ => r1⟩, bk := ⟨fun s a us ws _ hu hw => match us, ws, hu, hw with | [], [u], _, _ => .of_eq rfl, fun _ r2 => r2⟩ }
end k00
namespace k00
open PySem L2 LC RM
abbrev spInvalidTree_init (C : Addr) : Sp := LX.spErr C 1 (fE "InvalidTree" ["at"])
theorem ok_InvalidTree_init {P : Program} {w : World} {K : PySem.W.Frag} {mg : Str → Option Value} {base : Heap} {f : Addr} {fd : FuncData} (F0 : Fun K "__init__" "InvalidTree.__init__" sInvalidTree_init f fd) (T : Txt K mg) {C : Addr} (ox : LB.OexB K C) (no : ∀ f ∈ (("code" : Str) :: ["at"]), PySem.W.findIn K (.ref C) f = some none) :
    FnOk P w K mg base CX0 1 f fd PInvalidTree_init (spInvalidTree_init C) := by
  refine F0.ok scInvalidTree_init (fun vs H Q E h => ?_) (fun cdv A outer s H vs Q E hr h => ?_)
  · obtain ⟨x, ws, rfl, hw, _⟩ := h
    show ws.length + 1 = 2
    rw [hw]
  · obtain ⟨x, ws, rfl, hw, ha, k⟩ := h
    obtain ⟨u, rfl⟩ : ∃ u : V, ws = [u] := by
      match ws, hw with
      | [u], _ => exact ⟨u, rfl⟩
    refine ⟨_, (pss_cons (LB.ps_ostB (pv 0) (pv 1))
        (pss_one (LB.ps_ostB (pv 0) pe_str))), ?_⟩
    refine ⟨_, rfl, _, rfl, x, C, rfl, ox, no "at" (by simp), .inl ⟨ha, fun d hd da => ?_⟩⟩
    refine ⟨_, rfl, x, C, rfl, ox, no "code" (by simp), .inr ⟨d, _, upd_same, by rw [upd_ne da]; exact upd_same, (by show 1 ≤ 900; decide), ?_⟩⟩
    refine k d _ hd (by rw [upd_ne (Ne.symm da)]; exact upd_same) upd_same (fun b o hb e => ?_)
    have nd := ne_of_none e hd
    rw [upd_ne nd, upd_ne hb, upd_ne nd]
    exact e
theorem em_InvalidTree_init {P : Program} {w : World} {K : PySem.W.Frag} {mg : Str → Option Value} {base : Heap} {C f : Addr} {fd : FuncData} (F : Fun K "__init__" "InvalidTree.__init__" sInvalidTree_init f fd) (x : LB.OexB K C ∧ PySem.W.findIn K (.ref C) "__init__" = some (some (.ref f)) ∧ PySem.W.typeIn K (.ref f) = some (.type "function") ∧ XfC K C ∧ IsC K C ∧ ∀ z ∈ (("code" : Str) :: ["at"]), PySem.W.findIn K (.ref C) z = some none) (gC : mg "InvalidTree" = some (.ref C)) (G : FnOk P w K mg base CX0 1 f fd PInvalidTree_init (spInvalidTree_init C)) : EM1 P w K mg base C f fd "InvalidTree" "at" := by
  obtain ⟨ox, iC, tI, xf, is, no⟩ := x
  obtain ⟨oc, od, kV, doc, pm, an, cdv, ct, osl, rfl, lk, hcd⟩ := F.ex
  exact { ox := ox, iC := iC, tI := tI, gC := gC, xf := xf, is := is, no := no, g := G, b := ⟨fun s a us ws _ hu hw => match us, ws, hu, hw with | [u], [], _, _ => .of_eq rfl, fun r1 _ => r1⟩, bk := ⟨fun s a us ws _ hu hw => match us, ws, hu, hw with | [], [u], _, _ => .of_eq rfl, fun _ r2 => r2⟩ }
end k00
namespace k00
open PySem L2 LC RM
abbrev spInvalidCustomer_init (C : Addr) : Sp := LX.spErr C 1 (fE "InvalidCustomer" ["at"])
theorem ok_InvalidCustomer_init {P : Program} {w : World} {K : PySem.W.Frag} {mg : Str → Option Value} {base : Heap} {f : Addr} {fd : FuncData} (F0 : Fun K "__init__" "InvalidCustomer.__init__" sInvalidCustomer_init f fd) (T : Txt K mg) {C : Addr} (ox : LB.OexB K C) (no : ∀ f ∈ (("code" : Str) :: ["at"]), PySem.W.findIn K (.ref C) f = some none) :
    FnOk P w K mg base CX0 1 f fd PInvalidCustomer_init (spInvalidCustomer_init C) := by
  refine F0.ok scInvalidCustomer_init (fun vs H Q E h => ?_) (fun cdv A outer s H vs Q E hr h => ?_)
  · obtain ⟨x, ws, rfl, hw, _⟩ := h
    show ws.length + 1 = 2
    rw [hw]
  · obtain ⟨x, ws, rfl, hw, ha, k⟩ := h
    obtain ⟨u, rfl⟩ : ∃ u : V, ws = [u] := by
      match ws, hw with
      | [u], _ => exact ⟨u, rfl⟩
    refine ⟨_, (pss_cons (LB.ps_ostB (pv 0) (pv 1))
        (pss_one (LB.ps_ostB (pv 0) pe_str))), ?_⟩
    refine ⟨_, rfl, _, rfl, x, C, rfl, ox, no "at" (by simp), .inl ⟨ha, fun d hd da => ?_⟩⟩
    refine ⟨_, rfl, x, C, rfl, ox, no "code" (by simp), .inr ⟨d, _, upd_same, by rw [upd_ne da]; exact upd_same, (by show 1 ≤ 900; decide), ?_⟩⟩
    refine k d _ hd (by rw [upd_ne (Ne.symm da)]; exact upd_same) upd_same (fun b o hb e => ?_)
    have nd := ne_of_none e hd
    rw [upd_ne nd, upd_ne hb, upd_ne nd]
    exact e
theorem em_InvalidCustomer_init {P : Program} {w : World} {K : PySem.W.Frag} {mg : Str → Option Value} {base : Heap} {C f : Addr} {fd : FuncData} (F : Fun K "__init__" "InvalidCustomer.__init__" sInvalidCustomer_init f fd) (x : LB.OexB K C ∧ PySem.W.findIn K (.ref C) "__init__" = some (some (.ref f)) ∧ PySem.W.typeIn K (.ref f) = some (.type "function") ∧ XfC K C ∧ IsC K C ∧ ∀ z ∈ (("code" : Str) :: ["at"]), PySem.W.findIn K (.ref C) z = some none) (gC : mg "InvalidCustomer" = some (.ref C)) (G : FnOk P w K mg base CX0 1 f fd PInvalidCustomer_init (spInvalidCustomer_init C)) : EM1 P w K mg base C f fd "InvalidCustomer" "at" := by
  obtain ⟨ox, iC, tI, xf, is, no⟩ := x
  obtain ⟨oc, od, kV, doc, pm, an, cdv, ct, osl, rfl, lk, hcd⟩ := F.ex
  exact { ox := ox, iC := iC, tI := tI, gC := gC, xf := xf, is := is, no := no, g := G, b := ⟨fun s a us ws _ hu hw => match us, ws, hu, hw with | [u], [], _, _ => .of_eq rfl, fun r1 _ => r1⟩, bk := ⟨fun s a us ws _ hu hw => match us, ws, hu, hw with | [], [u], _, _ => .of_eq rfl, fun _ r2 => r2⟩ }
end k00
namespace k00
open PySem L2 LC RM
abbrev spInvalidRoom_init (C : Addr) : Sp := LX.spErr C 1 (fE "InvalidRoom" ["at"])
theorem ok_InvalidRoom_init {P : Program} {w : World} {K : PySem.W.Frag} {mg : Str → Option Value} {base : Heap} {f : Addr} {fd : FuncData} (F0 : Fun K "__init__" "InvalidRoom.__init__" sInvalidRoom_init f fd) (T : Txt K mg) {C : Addr} (ox : LB.OexB K C) (no : ∀ f ∈ (("code" : Str) :: ["at"]), PySem.W.findIn K (.ref C) f = some none) :
    FnOk P w K mg base CX0 1 f fd PInvalidRoom_init (spInvalidRoom_init C) := by
  refine F0.ok scInvalidRoom_init (fun vs H Q E h => ?_) (fun cdv A outer s H vs Q E hr h => ?_)
  · obtain ⟨x, ws, rfl, hw, _⟩ := h
    show ws.length + 1 = 2
    rw [hw]
  · obtain ⟨x, ws, rfl, hw, ha, k⟩ := h
    obtain ⟨u, rfl⟩ : ∃ u : V, ws = [u] := by
      match ws, hw with
      | [u], _ => exact ⟨u, rfl⟩
    refine ⟨_, (pss_cons (LB.ps_ostB (pv 0) (pv 1))
        (pss_one (LB.ps_ostB (pv 0) pe_str))), ?_⟩
    refine ⟨_, rfl, _, rfl, x, C, rfl, ox, no "at" (by simp), .inl ⟨ha, fun d hd da => ?_⟩⟩
    refine ⟨_, rfl, x, C, rfl, ox, no "code" (by simp), .inr ⟨d, _, upd_same, by rw [upd_ne da]; exact upd_same, (by show 1 ≤ 900; decide), ?_⟩⟩
    refine k d _ hd (by rw [upd_ne (Ne.symm da)]; exact upd_same) upd_same (fun b o hb e => ?_)
    have nd := ne_of_none e hd
    rw [upd_ne nd, upd_ne hb, upd_ne nd]
    exact e
theorem em_InvalidRoom_init {P : Program} {w : World} {K : PySem.W.Frag} {mg : Str → Option Value} {base : Heap} {C f : Addr} {fd : FuncData} (F : Fun K "__init__" "InvalidRoom.__init__" sInvalidRoom_init f fd) (x : LB.OexB K C ∧ PySem.W.findIn K (.ref C) "__init__" = some (some (.ref f)) ∧ PySem.W.typeIn K (.ref f) = some (.type "function") ∧ XfC K C ∧ IsC K C ∧ ∀ z ∈ (("code" : Str) :: ["at"]), PySem.W.findIn K (.ref C) z = some none) (gC : mg "InvalidRoom" = some (.ref C)) (G : FnOk P w K mg base CX0 1 f fd PInvalidRoom_init (spInvalidRoom_init C)) : EM1 P w K mg base C f fd "InvalidRoom" "at" := by
  obtain ⟨ox, iC, tI, xf, is, no⟩ := x
  obtain ⟨oc, od, kV, doc, pm, an, cdv, ct, osl, rfl, lk, hcd⟩ := F.ex
  exact { ox := ox, iC := iC, tI := tI, gC := gC, xf := xf, is := is, no := no, g := G, b := ⟨fun s a us ws _ hu hw => match us, ws, hu, hw with | [u], [], _, _ => .of_eq rfl, fun r1 _ => r1⟩, bk := ⟨fun s a us ws _ hu hw => match us, ws, hu, hw with | [], [u], _, _ => .of_eq rfl, fun _ r2 => r2⟩ }
end k00
namespace k00
open PySem L2 LC RM
abbrev spInvalidRow_init (C : Addr) : Sp := LX.spErr C 1 (fE "InvalidRow" ["at"])
theorem ok_InvalidRow_init {P : Program} {w : World} {K : PySem.W.Frag} {mg : Str → Option Value} {base : Heap} {f : Addr} {fd : FuncData} (F0 : Fun K "__init__" "InvalidRow.__init__" sInvalidRow_init f fd) (T : Txt K mg) {C : Addr} (ox : LB.OexB K C) (no : ∀ f ∈ (("code" : Str) :: ["at"]), PySem.W.findIn K (.ref C) f = some none) :
    FnOk P w K mg base CX0 1 f fd PInvalidRow_init (spInvalidRow_init C) := by
  refine F0.ok scInvalidRow_init (fun vs H Q E h => ?_) (fun cdv A outer s H vs Q E hr h => ?_)
  · obtain ⟨x, ws, rfl, hw, _⟩ := h
    show ws.length + 1 = 2
    rw [hw]
  · obtain ⟨x, ws, rfl, hw, ha, k⟩ := h
    obtain ⟨u, rfl⟩ : ∃ u : V, ws = [u] := by
      match ws, hw with
      | [u], _ => exact ⟨u, rfl⟩
    refine ⟨_, (pss_cons (LB.ps_ostB (pv 0) (pv 1))
        (pss_one (LB.ps_ostB (pv 0) pe_str))), ?_⟩
    refine ⟨_, rfl, _, rfl, x, C, rfl, ox, no "at" (by simp), .inl ⟨ha, fun d hd da => ?_⟩⟩
    refine ⟨_, rfl, x, C, rfl, ox, no "code" (by simp), .inr ⟨d, _, upd_same, by rw [upd_ne da]; exact upd_same, (by show 1 ≤ 900; decide), ?_⟩⟩
    refine k d _ hd (by rw [upd_ne (Ne.symm da)]; exact upd_same) upd_same (fun b o hb e => ?_)
    have nd := ne_of_none e hd
    rw [upd_ne nd, upd_ne hb, upd_ne nd]
    exact e
theorem em_InvalidRow_init {P : Program} {w : World} {K : PySem.W.Frag} {mg : Str → Option Value} {base : Heap} {C f : Addr} {fd : FuncData} (F : Fun K "__init__" "InvalidRow.__init__" sInvalidRow_init f fd) (x : LB.OexB K C ∧ PySem.W.findIn K (.ref C) "__init__" = some (some (.ref f)) ∧ PySem.W.typeIn K (.ref f) = some (.type "function") ∧ XfC K C ∧ IsC K C ∧ ∀ z ∈ (("code" : Str) :: ["at"]), PySem.W.findIn K (.ref C) z = some none) (gC : mg "InvalidRow" = some (.ref C)) (G : FnOk P w K mg base CX0 1 f fd PInvalidRow_init (spInvalidRow_init C)) : EM1 P w K mg base C f fd "InvalidRow" "at" := by
  obtain ⟨ox, iC, tI, xf, is, no⟩ := x
  obtain ⟨oc, od, kV, doc, pm, an, cdv, ct, osl, rfl, lk, hcd⟩ := F.ex
  exact { ox := ox, iC := iC, tI := tI, gC := gC, xf := xf, is := is, no := no, g := G, b := ⟨fun s a us ws _ hu hw => match us, ws, hu, hw with | [u], [], _, _ => .of_eq rfl, fun r1 _ => r1⟩, bk := ⟨fun s a us ws _ hu hw => match us, ws, hu, hw with | [], [u], _, _ => .of_eq rfl, fun _ r2 => r2⟩ }
end k00
namespace k00
open PySem L2 LC RM
abbrev spInvalidParts_init (C : Addr) : Sp := LX.spErr C 1 (fE "InvalidParts" ["value"])
theorem ok_InvalidParts_init {P : Program} {w : World} {K : PySem.W.Frag} {mg : Str → Option Value} {base : Heap} {f : Addr} {fd : FuncData} (F0 : Fun K "__init__" "InvalidParts.__init__" sInvalidParts_init f fd) (T : Txt K mg) {C : Addr} (ox : LB.OexB K C) (no : ∀ f ∈ (("code" : Str) :: ["value"]), PySem.W.findIn K (.ref C) f = some none) :
    FnOk P w K mg base CX0 1 f fd PInvalidParts_init (spInvalidParts_init C) := by
  refine F0.ok scInvalidParts_init (fun vs H Q E h => ?_) (fun cdv A outer s H vs Q E hr h => ?_)
  · obtain ⟨x, ws, rfl, hw, _⟩ := h
    show ws.length + 1 = 2
    rw [hw]
  · obtain ⟨x, ws, rfl, hw, ha, k⟩ := h
    obtain ⟨u, rfl⟩ : ∃ u : V, ws = [u] := by
      match ws, hw with
      | [u], _ => exact ⟨u, rfl⟩
    refine ⟨_, (pss_cons (LB.ps_ostB (pv 0) (pv 1))
        (pss_one (LB.ps_ostB (pv 0) pe_str))), ?_⟩
    refine ⟨_, rfl, _, rfl, x, C, rfl, ox, no "value" (by simp), .inl ⟨ha, fun d hd da => ?_⟩⟩
    refine ⟨_, rfl, x, C, rfl, ox, no "code" (by simp), .inr ⟨d, _, upd_same, by rw [upd_ne da]; exact upd_same, (by show 1 ≤ 900; decide), ?_⟩⟩
    refine k d _ hd (by rw [upd_ne (Ne.symm da)]; exact upd_same) upd_same (fun b o hb e => ?_)
    have nd := ne_of_none e hd
    rw [upd_ne nd, upd_ne hb, upd_ne nd]
    exact e
theorem em_InvalidParts_init {P : Program} {w : World} {K : PySem.W.Frag} {mg : Str → Option Value} {base : Heap} {C f : Addr} {fd : FuncData} (F : Fun K "__init__" "InvalidParts.__init__" sInvalidParts_init f fd) (x : LB.OexB K C ∧ PySem.W.findIn K (.ref C) "__init__" = some (some (.ref f)) ∧ PySem.W.typeIn K (.ref f) = some (.type "function") ∧ XfC K C ∧ IsC K C ∧ ∀ z ∈ (("code" : Str) :: ["value"]), PySem.W.findIn K (.ref C) z = some none) (gC : mg "InvalidParts" = some (.ref C)) (G : FnOk P w K mg base CX0 1 f fd PInvalidParts_init (spInvalidParts_init C)) : EM1 P w K mg base C f fd "InvalidParts" "value" := by
  obtain ⟨ox, iC, tI, xf, is, no⟩ := x
  obtain ⟨oc, od, kV, doc, pm, an, cdv, ct, osl, rfl, lk, hcd⟩ := F.ex
  exact { ox := ox, iC := iC, tI := tI, gC := gC, xf := xf, is := is, no := no, g := G, b := ⟨fun s a us ws _ hu hw => match us, ws, hu, hw with | [u], [], _, _ => .of_eq rfl, fun r1 _ => r1⟩, bk := ⟨fun s a us ws _ hu hw => match us, ws, hu, hw with | [], [u], _, _ => .of_eq rfl, fun _ r2 => r2⟩ }
end k00
namespace k00
open PySem L2 LC RM
abbrev spInvalidCut_init (C : Addr) : Sp := LX.spErr C 1 (fE "InvalidCut" ["at"])
theorem ok_InvalidCut_init {P : Program} {w : World} {K : PySem.W.Frag} {mg : Str → Option Value} {base : Heap} {f : Addr} {fd : FuncData} (F0 : Fun K "__init__" "InvalidCut.__init__" sInvalidCut_init f fd) (T : Txt K mg) {C : Addr} (ox : LB.OexB K C) (no : ∀ f ∈ (("code" : Str) :: ["at"]), PySem.W.findIn K (.ref C) f = some none) :
    FnOk P w K mg base CX0 1 f fd PInvalidCut_init (spInvalidCut_init C) := by
  refine F0.ok scInvalidCut_init (fun vs H Q E h => ?_) (fun cdv A outer s H vs Q E hr h => ?_)
  · obtain ⟨x, ws, rfl, hw, _⟩ := h
    show ws.length + 1 = 2
    rw [hw]
  · obtain ⟨x, ws, rfl, hw, ha, k⟩ := h
    obtain ⟨u, rfl⟩ : ∃ u : V, ws = [u] := by
      match ws, hw with
      | [u], _ => exact ⟨u, rfl⟩
    refine ⟨_, (pss_cons (LB.ps_ostB (pv 0) (pv 1))
        (pss_one (LB.ps_ostB (pv 0) pe_str))), ?_⟩
    refine ⟨_, rfl, _, rfl, x, C, rfl, ox, no "at" (by simp), .inl ⟨ha, fun d hd da => ?_⟩⟩
    refine ⟨_, rfl, x, C, rfl, ox, no "code" (by simp), .inr ⟨d, _, upd_same, by rw [upd_ne da]; exact upd_same, (by show 1 ≤ 900; decide), ?_⟩⟩
    refine k d _ hd (by rw [upd_ne (Ne.symm da)]; exact upd_same) upd_same (fun b o hb e => ?_)
    have nd := ne_of_none e hd
    rw [upd_ne nd, upd_ne hb, upd_ne nd]
    exact e
theorem em_InvalidCut_init {P : Program} {w : World} {K : PySem.W.Frag} {mg : Str → Option Value} {base : Heap} {C f : Addr} {fd : FuncData} (F : Fun K "__init__" "InvalidCut.__init__" sInvalidCut_init f fd) (x : LB.OexB K C ∧ PySem.W.findIn K (.ref C) "__init__" = some (some (.ref f)) ∧ PySem.W.typeIn K (.ref f) = some (.type "function") ∧ XfC K C ∧ IsC K C ∧ ∀ z ∈ (("code" : Str) :: ["at"]), PySem.W.findIn K (.ref C) z = some none) (gC : mg "InvalidCut" = some (.ref C)) (G : FnOk P w K mg base CX0 1 f fd PInvalidCut_init (spInvalidCut_init C)) : EM1 P w K mg base C f fd "InvalidCut" "at" := by
  obtain ⟨ox, iC, tI, xf, is, no⟩ := x
  obtain ⟨oc, od, kV, doc, pm, an, cdv, ct, osl, rfl, lk, hcd⟩ := F.ex
  exact { ox := ox, iC := iC, tI := tI, gC := gC, xf := xf, is := is, no := no, g := G, b := ⟨fun s a us ws _ hu hw => match us, ws, hu, hw with | [u], [], _, _ => .of_eq rfl, fun r1 _ => r1⟩, bk := ⟨fun s a us ws _ hu hw => match us, ws, hu, hw with | [], [u], _, _ => .of_eq rfl, fun _ r2 => r2⟩ }
end k00
namespace k00
open PySem L2 LC RM
abbrev spInvalidDeed_init (C : Addr) : Sp := LX.spErr C 1 (fE "InvalidDeed" ["value"])
theorem ok_InvalidDeed_init {P : Program} {w : World} {K : PySem.W.Frag} {mg : Str → Option Value} {base : Heap} {f : Addr} {fd : FuncData} (F0 : Fun K "__init__" "InvalidDeed.__init__" sInvalidDeed_init f fd) (T : Txt K mg) {C : Addr} (ox : LB.OexB K C) (no : ∀ f ∈ (("code" : Str) :: ["value"]), PySem.W.findIn K (.ref C) f = some none) :
    FnOk P w K mg base CX0 1 f fd PInvalidDeed_init (spInvalidDeed_init C) := by
  refine F0.ok scInvalidDeed_init (fun vs H Q E h => ?_) (fun cdv A outer s H vs Q E hr h => ?_)
  · obtain ⟨x, ws, rfl, hw, _⟩ := h
    show ws.length + 1 = 2
    rw [hw]
  · obtain ⟨x, ws, rfl, hw, ha, k⟩ := h
    obtain ⟨u, rfl⟩ : ∃ u : V, ws = [u] := by
      match ws, hw with
      | [u], _ => exact ⟨u, rfl⟩
    refine ⟨_, (pss_cons (LB.ps_ostB (pv 0) (pv 1))
        (pss_one (LB.ps_ostB (pv 0) pe_str))), ?_⟩
    refine ⟨_, rfl, _, rfl, x, C, rfl, ox, no "value" (by simp), .inl ⟨ha, fun d hd da => ?_⟩⟩
    refine ⟨_, rfl, x, C, rfl, ox, no "code" (by simp), .inr ⟨d, _, upd_same, by rw [upd_ne da]; exact upd_same, (by show 1 ≤ 900; decide), ?_⟩⟩
    refine k d _ hd (by rw [upd_ne (Ne.symm da)]; exact upd_same) upd_same (fun b o hb e => ?_)
    have nd := ne_of_none e hd
    rw [upd_ne nd, upd_ne hb, upd_ne nd]
    exact e
theorem em_InvalidDeed_init {P : Program} {w : World} {K : PySem.W.Frag} {mg : Str → Option Value} {base : Heap} {C f : Addr} {fd : FuncData} (F : Fun K "__init__" "InvalidDeed.__init__" sInvalidDeed_init f fd) (x : LB.OexB K C ∧ PySem.W.findIn K (.ref C) "__init__" = some (some (.ref f)) ∧ PySem.W.typeIn K (.ref f) = some (.type "function") ∧ XfC K C ∧ IsC K C ∧ ∀ z ∈ (("code" : Str) :: ["value"]), PySem.W.findIn K (.ref C) z = some none) (gC : mg "InvalidDeed" = some (.ref C)) (G : FnOk P w K mg base CX0 1 f fd PInvalidDeed_init (spInvalidDeed_init C)) : EM1 P w K mg base C f fd "InvalidDeed" "value" := by
  obtain ⟨ox, iC, tI, xf, is, no⟩ := x
  obtain ⟨oc, od, kV, doc, pm, an, cdv, ct, osl, rfl, lk, hcd⟩ := F.ex
  exact { ox := ox, iC := iC, tI := tI, gC := gC, xf := xf, is := is, no := no, g := G, b := ⟨fun s a us ws _ hu hw => match us, ws, hu, hw with | [u], [], _, _ => .of_eq rfl, fun r1 _ => r1⟩, bk := ⟨fun s a us ws _ hu hw => match us, ws, hu, hw with | [], [u], _, _ => .of_eq rfl, fun _ r2 => r2⟩ }
end k00
namespace k00
open PySem L2 LC RM
abbrev spInvalidEvent_init (C : Addr) : Sp := LX.spErr C 1 (fE "InvalidEvent" ["value"])
theorem ok_InvalidEvent_init {P : Program} {w : World} {K : PySem.W.Frag} {mg : Str → Option Value} {base : Heap} {f : Addr} {fd : FuncData} (F0 : Fun K "__init__" "InvalidEvent.__init__" sInvalidEvent_init f fd) (T : Txt K mg) {C : Addr} (ox : LB.OexB K C) (no : ∀ f ∈ (("code" : Str) :: ["value"]), PySem.W.findIn K (.ref C) f = some none) :
    FnOk P w K mg base CX0 1 f fd PInvalidEvent_init (spInvalidEvent_init C) := by
  refine F0.ok scInvalidEvent_init (fun vs H Q E h => ?_) (fun cdv A outer s H vs Q E hr h => ?_)
  · obtain ⟨x, ws, rfl, hw, _⟩ := h
    show ws.length + 1 = 2
    rw [hw]
  · obtain ⟨x, ws, rfl, hw, ha, k⟩ := h
    obtain ⟨u, rfl⟩ : ∃ u : V, ws = [u] := by
      match ws, hw with
      | [u], _ => exact ⟨u, rfl⟩
    refine ⟨_, (pss_cons (LB.ps_ostB (pv 0) (pv 1))
        (pss_one (LB.ps_ostB (pv 0) pe_str))), ?_⟩
    refine ⟨_, rfl, _, rfl, x, C, rfl, ox, no "value" (by simp), .inl ⟨ha, fun d hd da => ?_⟩⟩
    refine ⟨_, rfl, x, C, rfl, ox, no "code" (by simp), .inr ⟨d, _, upd_same, by rw [upd_ne da]; exact upd_same, (by show 1 ≤ 900; decide), ?_⟩⟩
    refine k d _ hd (by rw [upd_ne (Ne.symm da)]; exact upd_same) upd_same (fun b o hb e => ?_)
    have nd := ne_of_none e hd
    rw [upd_ne nd, upd_ne hb, upd_ne nd]
    exact e
theorem em_InvalidEvent_init {P : Program} {w : World} {K : PySem.W.Frag} {mg : Str → Option Value} {base : Heap} {C f : Addr} {fd : FuncData} (F : Fun K "__init__" "InvalidEvent.__init__" sInvalidEvent_init f fd) (x : LB.OexB K C ∧ PySem.W.findIn K (.ref C) "__init__" = some (some (.ref f)) ∧ PySem.W.typeIn K (.ref f) = some (.type "function") ∧ XfC K C ∧ IsC K C ∧ ∀ z ∈ (("code" : Str) :: ["value"]), PySem.W.findIn K (.ref C) z = some none) (gC : mg "InvalidEvent" = some (.ref C)) (G : FnOk P w K mg base CX0 1 f fd PInvalidEvent_init (spInvalidEvent_init C)) : EM1 P w K mg base C f fd "InvalidEvent" "value" := by
  obtain ⟨ox, iC, tI, xf, is, no⟩ := x
  obtain ⟨oc, od, kV, doc, pm, an, cdv, ct, osl, rfl, lk, hcd⟩ := F.ex
  exact { ox := ox, iC := iC, tI := tI, gC := gC, xf := xf, is := is, no := no, g := G, b := ⟨fun s a us ws _ hu hw => match us, ws, hu, hw with | [u], [], _, _ => .of_eq rfl, fun r1 _ => r1⟩, bk := ⟨fun s a us ws _ hu hw => match us, ws, hu, hw with | [], [u], _, _ => .of_eq rfl, fun _ r2 => r2⟩ }
end k00
namespace k00
open PySem L2 LC RM
abbrev spBadTree_init (C : Addr) : Sp := LX.spErr C 1 (fE "BadTree" ["place"])
theorem ok_BadTree_init {P : Program} {w : World} {K : PySem.W.Frag} {mg : Str → Option Value} {base : Heap} {f : Addr} {fd : FuncData} (F0 : Fun K "__init__" "BadTree.__init__" sBadTree_init f fd) (T : Txt K mg) {C : Addr} (ox : LB.OexB K C) (no : ∀ f ∈ (("code" : Str) :: ["place"]), PySem.W.findIn K (.ref C) f = some none) :
    FnOk P w K mg base CX0 1 f fd PBadTree_init (spBadTree_init C) := by
  refine F0.ok scBadTree_init (fun vs H Q E h => ?_) (fun cdv A outer s H vs Q E hr h => ?_)
  · obtain ⟨x, ws, rfl, hw, _⟩ := h
    show ws.length + 1 = 2
    rw [hw]
  · obtain ⟨x, ws, rfl, hw, ha, k⟩ := h
    obtain ⟨u, rfl⟩ : ∃ u : V, ws = [u] := by
      match ws, hw with
      | [u], _ => exact ⟨u, rfl⟩
    refine ⟨_, (pss_cons (LB.ps_ostB (pv 0) (pv 1))
        (pss_one (LB.ps_ostB (pv 0) pe_str))), ?_⟩
    refine ⟨_, rfl, _, rfl, x, C, rfl, ox, no "place" (by simp), .inl ⟨ha, fun d hd da => ?_⟩⟩
    refine ⟨_, rfl, x, C, rfl, ox, no "code" (by simp), .inr ⟨d, _, upd_same, by rw [upd_ne da]; exact upd_same, (by show 1 ≤ 900; decide), ?_⟩⟩
    refine k d _ hd (by rw [upd_ne (Ne.symm da)]; exact upd_same) upd_same (fun b o hb e => ?_)
    have nd := ne_of_none e hd
    rw [upd_ne nd, upd_ne hb, upd_ne nd]
    exact e
theorem em_BadTree_init {P : Program} {w : World} {K : PySem.W.Frag} {mg : Str → Option Value} {base : Heap} {C f : Addr} {fd : FuncData} (F : Fun K "__init__" "BadTree.__init__" sBadTree_init f fd) (x : LB.OexB K C ∧ PySem.W.findIn K (.ref C) "__init__" = some (some (.ref f)) ∧ PySem.W.typeIn K (.ref f) = some (.type "function") ∧ XfC K C ∧ IsC K C ∧ ∀ z ∈ (("code" : Str) :: ["place"]), PySem.W.findIn K (.ref C) z = some none) (gC : mg "BadTree" = some (.ref C)) (G : FnOk P w K mg base CX0 1 f fd PBadTree_init (spBadTree_init C)) : EM1 P w K mg base C f fd "BadTree" "place" := by
  obtain ⟨ox, iC, tI, xf, is, no⟩ := x
  obtain ⟨oc, od, kV, doc, pm, an, cdv, ct, osl, rfl, lk, hcd⟩ := F.ex
  exact { ox := ox, iC := iC, tI := tI, gC := gC, xf := xf, is := is, no := no, g := G, b := ⟨fun s a us ws _ hu hw => match us, ws, hu, hw with | [u], [], _, _ => .of_eq rfl, fun r1 _ => r1⟩, bk := ⟨fun s a us ws _ hu hw => match us, ws, hu, hw with | [], [u], _, _ => .of_eq rfl, fun _ r2 => r2⟩ }
end k00
namespace k00
open PySem L2 LC RM
abbrev spBadReading_init (C : Addr) : Sp := LX.spErr C 2 (fE "BadReading" ["server", "reading"])
theorem ok_BadReading_init {P : Program} {w : World} {K : PySem.W.Frag} {mg : Str → Option Value} {base : Heap} {f : Addr} {fd : FuncData} (F0 : Fun K "__init__" "BadReading.__init__" sBadReading_init f fd) (T : Txt K mg) {C : Addr} (ox : LB.OexB K C) (no : ∀ f ∈ (("code" : Str) :: ["server", "reading"]), PySem.W.findIn K (.ref C) f = some none) :
    FnOk P w K mg base CX0 1 f fd PBadReading_init (spBadReading_init C) := by
  refine F0.ok scBadReading_init (fun vs H Q E h => ?_) (fun cdv A outer s H vs Q E hr h => ?_)
  · obtain ⟨x, ws, rfl, hw, _⟩ := h
    show ws.length + 1 = 3
    rw [hw]
  · obtain ⟨x, ws, rfl, hw, ha, k⟩ := h
    obtain ⟨u, v, rfl⟩ : ∃ u v : V, ws = [u, v] := by
      match ws, hw with
      | [u, v], _ => exact ⟨u, v, rfl⟩
    refine ⟨_, (pss_cons (LB.ps_ostB (pv 0) (pv 1))
        (pss_cons (LB.ps_ostB (pv 0) (pv 2))
        (pss_one (LB.ps_ostB (pv 0) pe_str)))), ?_⟩
    refine ⟨_, rfl, _, rfl, x, C, rfl, ox, no "server" (by simp), .inl ⟨ha, fun d hd da => ?_⟩⟩
    refine ⟨_, rfl, _, rfl, x, C, rfl, ox, no "reading" (by simp), .inr ⟨d, _, upd_same, by rw [upd_ne da]; exact upd_same, (by show 1 ≤ 900; decide), ?_⟩⟩
    refine ⟨_, rfl, x, C, rfl, ox, no "code" (by simp), .inr ⟨d, _, by rw [upd_ne (Ne.symm da)]; exact upd_same, upd_same, (by show 2 ≤ 900; decide), ?_⟩⟩
    refine k d _ hd (by rw [upd_ne (Ne.symm da), upd_ne (Ne.symm da)]; exact upd_same) upd_same (fun b o hb e => ?_)
    have nd := ne_of_none e hd
    rw [upd_ne nd, upd_ne nd, upd_ne hb, upd_ne nd]
    exact e
theorem em_BadReading_init {P : Program} {w : World} {K : PySem.W.Frag} {mg : Str → Option Value} {base : Heap} {C f : Addr} {fd : FuncData} (F : Fun K "__init__" "BadReading.__init__" sBadReading_init f fd) (x : LB.OexB K C ∧ PySem.W.findIn K (.ref C) "__init__" = some (some (.ref f)) ∧ PySem.W.typeIn K (.ref f) = some (.type "function") ∧ XfC K C ∧ IsC K C ∧ ∀ z ∈ (("code" : Str) :: ["server", "reading"]), PySem.W.findIn K (.ref C) z = some none) (gC : mg "BadReading" = some (.ref C)) (G : FnOk P w K mg base CX0 1 f fd PBadReading_init (spBadReading_init C)) : EM2 P w K mg base C f fd "BadReading" "server" "reading" := by
  obtain ⟨ox, iC, tI, xf, is, no⟩ := x
  obtain ⟨oc, od, kV, doc, pm, an, cdv, ct, osl, rfl, lk, hcd⟩ := F.ex
  exact { ox := ox, iC := iC, tI := tI, gC := gC, xf := xf, is := is, no := no, g := G, b := ⟨fun s a us ws _ hu hw => match us, ws, hu, hw with | [u, v], [], _, _ => .of_eq rfl, fun r1 _ => r1⟩, bk := ⟨fun s a us ws _ hu hw => match us, ws, hu, hw with | [], [u, v], _, _ => .of_eq rfl, fun _ r2 => r2⟩, br := ⟨fun s a us ws _ hu hw => match us, ws, hu, hw with | [], [u, v], _, _ => .of_eq rfl, fun _ r2 => vals_rev r2⟩, bm := ⟨fun s a us ws _ hu hw => match us, ws, hu, hw with | [u], [v], _, _ => .of_eq rfl, fun r1 r2 => Vals.append r1 r2⟩ }
end k00
namespace k00
open PySem L2 LC RM
abbrev spBadMoment_init (C : Addr) : Sp := LX.spErr C 1 (fE "BadMoment" ["moment"])
theorem ok_BadMoment_init {P : Program} {w : World} {K : PySem.W.Frag} {mg : Str → Option Value} {base : Heap} {f : Addr} {fd : FuncData} (F0 : Fun K "__init__" "BadMoment.__init__" sBadMoment_init f fd) (T : Txt K mg) {C : Addr} (ox : LB.OexB K C) (no : ∀ f ∈ (("code" : Str) :: ["moment"]), PySem.W.findIn K (.ref C) f = some none) :
    FnOk P w K mg base CX0 1 f fd PBadMoment_init (spBadMoment_init C) := by
  refine F0.ok scBadMoment_init (fun vs H Q E h => ?_) (fun cdv A outer s H vs Q E hr h => ?_)
  · obtain ⟨x, ws, rfl, hw, _⟩ := h
    show ws.length + 1 = 2
    rw [hw]
  · obtain ⟨x, ws, rfl, hw, ha, k⟩ := h
    obtain ⟨u, rfl⟩ : ∃ u : V, ws = [u] := by
      match ws, hw with
      | [u], _ => exact ⟨u, rfl⟩
    refine ⟨_, (pss_cons (LB.ps_ostB (pv 0) (pv 1))
        (pss_one (LB.ps_ostB (pv 0) pe_str))), ?_⟩
    refine ⟨_, rfl, _, rfl, x, C, rfl, ox, no "moment" (by simp), .inl ⟨ha, fun d hd da => ?_⟩⟩
    refine ⟨_, rfl, x, C, rfl, ox, no "code" (by simp), .inr ⟨d, _, upd_same, by rw [upd_ne da]; exact upd_same, (by show 1 ≤ 900; decide), ?_⟩⟩
    refine k d _ hd (by rw [upd_ne (Ne.symm da)]; exact upd_same) upd_same (fun b o hb e => ?_)
    have nd := ne_of_none e hd
    rw [upd_ne nd, upd_ne hb, upd_ne nd]
    exact e
theorem em_BadMoment_init {P : Program} {w : World} {K : PySem.W.Frag} {mg : Str → Option Value} {base : Heap} {C f : Addr} {fd : FuncData} (F : Fun K "__init__" "BadMoment.__init__" sBadMoment_init f fd) (x : LB.OexB K C ∧ PySem.W.findIn K (.ref C) "__init__" = some (some (.ref f)) ∧ PySem.W.typeIn K (.ref f) = some (.type "function") ∧ XfC K C ∧ IsC K C ∧ ∀ z ∈ (("code" : Str) :: ["moment"]), PySem.W.findIn K (.ref C) z = some none) (gC : mg "BadMoment" = some (.ref C)) (G : FnOk P w K mg base CX0 1 f fd PBadMoment_init (spBadMoment_init C)) : EM1 P w K mg base C f fd "BadMoment" "moment" := by
  obtain ⟨ox, iC, tI, xf, is, no⟩ := x
  obtain ⟨oc, od, kV, doc, pm, an, cdv, ct, osl, rfl, lk, hcd⟩ := F.ex
  exact { ox := ox, iC := iC, tI := tI, gC := gC, xf := xf, is := is, no := no, g := G, b := ⟨fun s a us ws _ hu hw => match us, ws, hu, hw with | [u], [], _, _ => .of_eq rfl, fun r1 _ => r1⟩, bk := ⟨fun s a us ws _ hu hw => match us, ws, hu, hw with | [], [u], _, _ => .of_eq rfl, fun _ r2 => r2⟩ }
end k00
namespace k00
open PySem L2 LC RM
abbrev spTooMany_init (C : Addr) : Sp := LX.spErr C 2 (fE "TooMany" ["what", "count"])
theorem ok_TooMany_init {P : Program} {w : World} {K : PySem.W.Frag} {mg : Str → Option Value} {base : Heap} {f : Addr} {fd : FuncData} (F0 : Fun K "__init__" "TooMany.__init__" sTooMany_init f fd) (T : Txt K mg) {C : Addr} (ox : LB.OexB K C) (no : ∀ f ∈ (("code" : Str) :: ["what", "count"]), PySem.W.findIn K (.ref C) f = some none) :
    FnOk P w K mg base CX0 1 f fd PTooMany_init (spTooMany_init C) := by
  refine F0.ok scTooMany_init (fun vs H Q E h => ?_) (fun cdv A outer s H vs Q E hr h => ?_)
  · obtain ⟨x, ws, rfl, hw, _⟩ := h
    show ws.length + 1 = 3
    rw [hw]
  · obtain ⟨x, ws, rfl, hw, ha, k⟩ := h
    obtain ⟨u, v, rfl⟩ : ∃ u v : V, ws = [u, v] := by
      match ws, hw with
      | [u, v], _ => exact ⟨u, v, rfl⟩
    refine ⟨_, (pss_cons (LB.ps_ostB (pv 0) (pv 1))
        (pss_cons (LB.ps_ostB (pv 0) (pv 2))
        (pss_one (LB.ps_ostB (pv 0) pe_str)))), ?_⟩
    refine ⟨_, rfl, _, rfl, x, C, rfl, ox, no "what" (by simp), .inl ⟨ha, fun d hd da => ?_⟩⟩
    refine ⟨_, rfl, _, rfl, x, C, rfl, ox, no "count" (by simp), .inr ⟨d, _, upd_same, by rw [upd_ne da]; exact upd_same, (by show 1 ≤ 900; decide), ?_⟩⟩
    refine ⟨_, rfl, x, C, rfl, ox, no "code" (by simp), .inr ⟨d, _, by rw [upd_ne (Ne.symm da)]; exact upd_same, upd_same, (by show 2 ≤ 900; decide), ?_⟩⟩
    refine k d _ hd (by rw [upd_ne (Ne.symm da), upd_ne (Ne.symm da)]; exact upd_same) upd_same (fun b o hb e => ?_)
    have nd := ne_of_none e hd
    rw [upd_ne nd, upd_ne nd, upd_ne hb, upd_ne nd]
    exact e
theorem em_TooMany_init {P : Program} {w : World} {K : PySem.W.Frag} {mg : Str → Option Value} {base : Heap} {C f : Addr} {fd : FuncData} (F : Fun K "__init__" "TooMany.__init__" sTooMany_init f fd) (x : LB.OexB K C ∧ PySem.W.findIn K (.ref C) "__init__" = some (some (.ref f)) ∧ PySem.W.typeIn K (.ref f) = some (.type "function") ∧ XfC K C ∧ IsC K C ∧ ∀ z ∈ (("code" : Str) :: ["what", "count"]), PySem.W.findIn K (.ref C) z = some none) (gC : mg "TooMany" = some (.ref C)) (G : FnOk P w K mg base CX0 1 f fd PTooMany_init (spTooMany_init C)) : EM2 P w K mg base C f fd "TooMany" "what" "count" := by
  obtain ⟨ox, iC, tI, xf, is, no⟩ := x
  obtain ⟨oc, od, kV, doc, pm, an, cdv, ct, osl, rfl, lk, hcd⟩ := F.ex
  exact { ox := ox, iC := iC, tI := tI, gC := gC, xf := xf, is := is, no := no, g := G, b := ⟨fun s a us ws _ hu hw => match us, ws, hu, hw with | [u, v], [], _, _ => .of_eq rfl, fun r1 _ => r1⟩, bk := ⟨fun s a us ws _ hu hw => match us, ws, hu, hw with | [], [u, v], _, _ => .of_eq rfl, fun _ r2 => r2⟩, br := ⟨fun s a us ws _ hu hw => match us, ws, hu, hw with | [], [u, v], _, _ => .of_eq rfl, fun _ r2 => vals_rev r2⟩, bm := ⟨fun s a us ws _ hu hw => match us, ws, hu, hw with | [u], [v], _, _ => .of_eq rfl, fun r1 r2 => Vals.append r1 r2⟩ }
end k00
namespace k00
open PySem L2 LC RM
abbrev spOver_init (C : Addr) : Sp := LX.spErr C 1 (fE "Over" ["value"])
theorem ok_Over_init {P : Program} {w : World} {K : PySem.W.Frag} {mg : Str → Option Value} {base : Heap} {f : Addr} {fd : FuncData} (F0 : Fun K "__init__" "Over.__init__" sOver_init f fd) (T : Txt K mg) {C : Addr} (ox : LB.OexB K C) (no : ∀ f ∈ (("code" : Str) :: ["value"]), PySem.W.findIn K (.ref C) f = some none) :
    FnOk P w K mg base CX0 1 f fd POver_init (spOver_init C) := by
  refine F0.ok scOver_init (fun vs H Q E h => ?_) (fun cdv A outer s H vs Q E hr h => ?_)
  · obtain ⟨x, ws, rfl, hw, _⟩ := h
    show ws.length + 1 = 2
    rw [hw]
  · obtain ⟨x, ws, rfl, hw, ha, k⟩ := h
    obtain ⟨u, rfl⟩ : ∃ u : V, ws = [u] := by
      match ws, hw with
      | [u], _ => exact ⟨u, rfl⟩
    refine ⟨_, (pss_cons (LB.ps_ostB (pv 0) (pv 1))
        (pss_one (LB.ps_ostB (pv 0) pe_str))), ?_⟩
    refine ⟨_, rfl, _, rfl, x, C, rfl, ox, no "value" (by simp), .inl ⟨ha, fun d hd da => ?_⟩⟩
    refine ⟨_, rfl, x, C, rfl, ox, no "code" (by simp), .inr ⟨d, _, upd_same, by rw [upd_ne da]; exact upd_same, (by show 1 ≤ 900; decide), ?_⟩⟩
    refine k d _ hd (by rw [upd_ne (Ne.symm da)]; exact upd_same) upd_same (fun b o hb e => ?_)
    have nd := ne_of_none e hd
    rw [upd_ne nd, upd_ne hb, upd_ne nd]
    exact e
theorem em_Over_init {P : Program} {w : World} {K : PySem.W.Frag} {mg : Str → Option Value} {base : Heap} {C f : Addr} {fd : FuncData} (F : Fun K "__init__" "Over.__init__" sOver_init f fd) (x : LB.OexB K C ∧ PySem.W.findIn K (.ref C) "__init__" = some (some (.ref f)) ∧ PySem.W.typeIn K (.ref f) = some (.type "function") ∧ XfC K C ∧ IsC K C ∧ ∀ z ∈ (("code" : Str) :: ["value"]), PySem.W.findIn K (.ref C) z = some none) (gC : mg "Over" = some (.ref C)) (G : FnOk P w K mg base CX0 1 f fd POver_init (spOver_init C)) : EM1 P w K mg base C f fd "Over" "value" := by
  obtain ⟨ox, iC, tI, xf, is, no⟩ := x
  obtain ⟨oc, od, kV, doc, pm, an, cdv, ct, osl, rfl, lk, hcd⟩ := F.ex
  exact { ox := ox, iC := iC, tI := tI, gC := gC, xf := xf, is := is, no := no, g := G, b := ⟨fun s a us ws _ hu hw => match us, ws, hu, hw with | [u], [], _, _ => .of_eq rfl, fun r1 _ => r1⟩, bk := ⟨fun s a us ws _ hu hw => match us, ws, hu, hw with | [], [u], _, _ => .of_eq rfl, fun _ r2 => r2⟩ }
end k00
namespace k00
open PySem L2 LC RM
abbrev spNotHeld_init (C : Addr) : Sp := LX.spErr C 2 (fE "NotHeld" ["place", "n"])
theorem ok_NotHeld_init {P : Program} {w : World} {K : PySem.W.Frag} {mg : Str → Option Value} {base : Heap} {f : Addr} {fd : FuncData} (F0 : Fun K "__init__" "NotHeld.__init__" sNotHeld_init f fd) (T : Txt K mg) {C : Addr} (ox : LB.OexB K C) (no : ∀ f ∈ (("code" : Str) :: ["place", "n"]), PySem.W.findIn K (.ref C) f = some none) :
    FnOk P w K mg base CX0 1 f fd PNotHeld_init (spNotHeld_init C) := by
  refine F0.ok scNotHeld_init (fun vs H Q E h => ?_) (fun cdv A outer s H vs Q E hr h => ?_)
  · obtain ⟨x, ws, rfl, hw, _⟩ := h
    show ws.length + 1 = 3
    rw [hw]
  · obtain ⟨x, ws, rfl, hw, ha, k⟩ := h
    obtain ⟨u, v, rfl⟩ : ∃ u v : V, ws = [u, v] := by
      match ws, hw with
      | [u, v], _ => exact ⟨u, v, rfl⟩
    refine ⟨_, (pss_cons (LB.ps_ostB (pv 0) (pv 1))
        (pss_cons (LB.ps_ostB (pv 0) (pv 2))
        (pss_one (LB.ps_ostB (pv 0) pe_str)))), ?_⟩
    refine ⟨_, rfl, _, rfl, x, C, rfl, ox, no "place" (by simp), .inl ⟨ha, fun d hd da => ?_⟩⟩
    refine ⟨_, rfl, _, rfl, x, C, rfl, ox, no "n" (by simp), .inr ⟨d, _, upd_same, by rw [upd_ne da]; exact upd_same, (by show 1 ≤ 900; decide), ?_⟩⟩
    refine ⟨_, rfl, x, C, rfl, ox, no "code" (by simp), .inr ⟨d, _, by rw [upd_ne (Ne.symm da)]; exact upd_same, upd_same, (by show 2 ≤ 900; decide), ?_⟩⟩
    refine k d _ hd (by rw [upd_ne (Ne.symm da), upd_ne (Ne.symm da)]; exact upd_same) upd_same (fun b o hb e => ?_)
    have nd := ne_of_none e hd
    rw [upd_ne nd, upd_ne nd, upd_ne hb, upd_ne nd]
    exact e
theorem em_NotHeld_init {P : Program} {w : World} {K : PySem.W.Frag} {mg : Str → Option Value} {base : Heap} {C f : Addr} {fd : FuncData} (F : Fun K "__init__" "NotHeld.__init__" sNotHeld_init f fd) (x : LB.OexB K C ∧ PySem.W.findIn K (.ref C) "__init__" = some (some (.ref f)) ∧ PySem.W.typeIn K (.ref f) = some (.type "function") ∧ XfC K C ∧ IsC K C ∧ ∀ z ∈ (("code" : Str) :: ["place", "n"]), PySem.W.findIn K (.ref C) z = some none) (gC : mg "NotHeld" = some (.ref C)) (G : FnOk P w K mg base CX0 1 f fd PNotHeld_init (spNotHeld_init C)) : EM2 P w K mg base C f fd "NotHeld" "place" "n" := by
  obtain ⟨ox, iC, tI, xf, is, no⟩ := x
  obtain ⟨oc, od, kV, doc, pm, an, cdv, ct, osl, rfl, lk, hcd⟩ := F.ex
  exact { ox := ox, iC := iC, tI := tI, gC := gC, xf := xf, is := is, no := no, g := G, b := ⟨fun s a us ws _ hu hw => match us, ws, hu, hw with | [u, v], [], _, _ => .of_eq rfl, fun r1 _ => r1⟩, bk := ⟨fun s a us ws _ hu hw => match us, ws, hu, hw with | [], [u, v], _, _ => .of_eq rfl, fun _ r2 => r2⟩, br := ⟨fun s a us ws _ hu hw => match us, ws, hu, hw with | [], [u, v], _, _ => .of_eq rfl, fun _ r2 => vals_rev r2⟩, bm := ⟨fun s a us ws _ hu hw => match us, ws, hu, hw with | [u], [v], _, _ => .of_eq rfl, fun r1 r2 => Vals.append r1 r2⟩ }
end k00
namespace k00
open PySem L2 LC RM
abbrev spNoElder_init (C : Addr) : Sp := LX.spErr C 1 (fE "NoElder" ["place"])
theorem ok_NoElder_init {P : Program} {w : World} {K : PySem.W.Frag} {mg : Str → Option Value} {base : Heap} {f : Addr} {fd : FuncData} (F0 : Fun K "__init__" "NoElder.__init__" sNoElder_init f fd) (T : Txt K mg) {C : Addr} (ox : LB.OexB K C) (no : ∀ f ∈ (("code" : Str) :: ["place"]), PySem.W.findIn K (.ref C) f = some none) :
    FnOk P w K mg base CX0 1 f fd PNoElder_init (spNoElder_init C) := by
  refine F0.ok scNoElder_init (fun vs H Q E h => ?_) (fun cdv A outer s H vs Q E hr h => ?_)
  · obtain ⟨x, ws, rfl, hw, _⟩ := h
    show ws.length + 1 = 2
    rw [hw]
  · obtain ⟨x, ws, rfl, hw, ha, k⟩ := h
    obtain ⟨u, rfl⟩ : ∃ u : V, ws = [u] := by
      match ws, hw with
      | [u], _ => exact ⟨u, rfl⟩
    refine ⟨_, (pss_cons (LB.ps_ostB (pv 0) (pv 1))
        (pss_one (LB.ps_ostB (pv 0) pe_str))), ?_⟩
    refine ⟨_, rfl, _, rfl, x, C, rfl, ox, no "place" (by simp), .inl ⟨ha, fun d hd da => ?_⟩⟩
    refine ⟨_, rfl, x, C, rfl, ox, no "code" (by simp), .inr ⟨d, _, upd_same, by rw [upd_ne da]; exact upd_same, (by show 1 ≤ 900; decide), ?_⟩⟩
    refine k d _ hd (by rw [upd_ne (Ne.symm da)]; exact upd_same) upd_same (fun b o hb e => ?_)
    have nd := ne_of_none e hd
    rw [upd_ne nd, upd_ne hb, upd_ne nd]
    exact e
theorem em_NoElder_init {P : Program} {w : World} {K : PySem.W.Frag} {mg : Str → Option Value} {base : Heap} {C f : Addr} {fd : FuncData} (F : Fun K "__init__" "NoElder.__init__" sNoElder_init f fd) (x : LB.OexB K C ∧ PySem.W.findIn K (.ref C) "__init__" = some (some (.ref f)) ∧ PySem.W.typeIn K (.ref f) = some (.type "function") ∧ XfC K C ∧ IsC K C ∧ ∀ z ∈ (("code" : Str) :: ["place"]), PySem.W.findIn K (.ref C) z = some none) (gC : mg "NoElder" = some (.ref C)) (G : FnOk P w K mg base CX0 1 f fd PNoElder_init (spNoElder_init C)) : EM1 P w K mg base C f fd "NoElder" "place" := by
  obtain ⟨ox, iC, tI, xf, is, no⟩ := x
  obtain ⟨oc, od, kV, doc, pm, an, cdv, ct, osl, rfl, lk, hcd⟩ := F.ex
  exact { ox := ox, iC := iC, tI := tI, gC := gC, xf := xf, is := is, no := no, g := G, b := ⟨fun s a us ws _ hu hw => match us, ws, hu, hw with | [u], [], _, _ => .of_eq rfl, fun r1 _ => r1⟩, bk := ⟨fun s a us ws _ hu hw => match us, ws, hu, hw with | [], [u], _, _ => .of_eq rfl, fun _ r2 => r2⟩ }
end k00
namespace k00
open PySem L2 LC RM
abbrev spWrongLetter_init (C : Addr) : Sp := LX.spErr C 1 (fE "WrongLetter" ["letter"])
theorem ok_WrongLetter_init {P : Program} {w : World} {K : PySem.W.Frag} {mg : Str → Option Value} {base : Heap} {f : Addr} {fd : FuncData} (F0 : Fun K "__init__" "WrongLetter.__init__" sWrongLetter_init f fd) (T : Txt K mg) {C : Addr} (ox : LB.OexB K C) (no : ∀ f ∈ (("code" : Str) :: ["letter"]), PySem.W.findIn K (.ref C) f = some none) :
    FnOk P w K mg base CX0 1 f fd PWrongLetter_init (spWrongLetter_init C) := by
  refine F0.ok scWrongLetter_init (fun vs H Q E h => ?_) (fun cdv A outer s H vs Q E hr h => ?_)
  · obtain ⟨x, ws, rfl, hw, _⟩ := h
    show ws.length + 1 = 2
    rw [hw]
  · obtain ⟨x, ws, rfl, hw, ha, k⟩ := h
    obtain ⟨u, rfl⟩ : ∃ u : V, ws = [u] := by
      match ws, hw with
      | [u], _ => exact ⟨u, rfl⟩
    refine ⟨_, (pss_cons (LB.ps_ostB (pv 0) (pv 1))
        (pss_one (LB.ps_ostB (pv 0) pe_str))), ?_⟩
    refine ⟨_, rfl, _, rfl, x, C, rfl, ox, no "letter" (by simp), .inl ⟨ha, fun d hd da => ?_⟩⟩
    refine ⟨_, rfl, x, C, rfl, ox, no "code" (by simp), .inr ⟨d, _, upd_same, by rw [upd_ne da]; exact upd_same, (by show 1 ≤ 900; decide), ?_⟩⟩
    refine k d _ hd (by rw [upd_ne (Ne.symm da)]; exact upd_same) upd_same (fun b o hb e => ?_)
    have nd := ne_of_none e hd
    rw [upd_ne nd, upd_ne hb, upd_ne nd]
    exact e
theorem em_WrongLetter_init {P : Program} {w : World} {K : PySem.W.Frag} {mg : Str → Option Value} {base : Heap} {C f : Addr} {fd : FuncData} (F : Fun K "__init__" "WrongLetter.__init__" sWrongLetter_init f fd) (x : LB.OexB K C ∧ PySem.W.findIn K (.ref C) "__init__" = some (some (.ref f)) ∧ PySem.W.typeIn K (.ref f) = some (.type "function") ∧ XfC K C ∧ IsC K C ∧ ∀ z ∈ (("code" : Str) :: ["letter"]), PySem.W.findIn K (.ref C) z = some none) (gC : mg "WrongLetter" = some (.ref C)) (G : FnOk P w K mg base CX0 1 f fd PWrongLetter_init (spWrongLetter_init C)) : EM1 P w K mg base C f fd "WrongLetter" "letter" := by
  obtain ⟨ox, iC, tI, xf, is, no⟩ := x
  obtain ⟨oc, od, kV, doc, pm, an, cdv, ct, osl, rfl, lk, hcd⟩ := F.ex
  exact { ox := ox, iC := iC, tI := tI, gC := gC, xf := xf, is := is, no := no, g := G, b := ⟨fun s a us ws _ hu hw => match us, ws, hu, hw with | [u], [], _, _ => .of_eq rfl, fun r1 _ => r1⟩, bk := ⟨fun s a us ws _ hu hw => match us, ws, hu, hw with | [], [u], _, _ => .of_eq rfl, fun _ r2 => r2⟩ }
end k00
namespace k00
open PySem L2 LC RM
abbrev spElsewhere_init (C : Addr) : Sp := LX.spErr C 1 (fE "Elsewhere" ["room"])
theorem ok_Elsewhere_init {P : Program} {w : World} {K : PySem.W.Frag} {mg : Str → Option Value} {base : Heap} {f : Addr} {fd : FuncData} (F0 : Fun K "__init__" "Elsewhere.__init__" sElsewhere_init f fd) (T : Txt K mg) {C : Addr} (ox : LB.OexB K C) (no : ∀ f ∈ (("code" : Str) :: ["room"]), PySem.W.findIn K (.ref C) f = some none) :
    FnOk P w K mg base CX0 1 f fd PElsewhere_init (spElsewhere_init C) := by
  refine F0.ok scElsewhere_init (fun vs H Q E h => ?_) (fun cdv A outer s H vs Q E hr h => ?_)
  · obtain ⟨x, ws, rfl, hw, _⟩ := h
    show ws.length + 1 = 2
    rw [hw]
  · obtain ⟨x, ws, rfl, hw, ha, k⟩ := h
    obtain ⟨u, rfl⟩ : ∃ u : V, ws = [u] := by
      match ws, hw with
      | [u], _ => exact ⟨u, rfl⟩
    refine ⟨_, (pss_cons (LB.ps_ostB (pv 0) (pv 1))
        (pss_one (LB.ps_ostB (pv 0) pe_str))), ?_⟩
    refine ⟨_, rfl, _, rfl, x, C, rfl, ox, no "room" (by simp), .inl ⟨ha, fun d hd da => ?_⟩⟩
    refine ⟨_, rfl, x, C, rfl, ox, no "code" (by simp), .inr ⟨d, _, upd_same, by rw [upd_ne da]; exact upd_same, (by show 1 ≤ 900; decide), ?_⟩⟩
    refine k d _ hd (by rw [upd_ne (Ne.symm da)]; exact upd_same) upd_same (fun b o hb e => ?_)
    have nd := ne_of_none e hd
    rw [upd_ne nd, upd_ne hb, upd_ne nd]
    exact e
theorem em_Elsewhere_init {P : Program} {w : World} {K : PySem.W.Frag} {mg : Str → Option Value} {base : Heap} {C f : Addr} {fd : FuncData} (F : Fun K "__init__" "Elsewhere.__init__" sElsewhere_init f fd) (x : LB.OexB K C ∧ PySem.W.findIn K (.ref C) "__init__" = some (some (.ref f)) ∧ PySem.W.typeIn K (.ref f) = some (.type "function") ∧ XfC K C ∧ IsC K C ∧ ∀ z ∈ (("code" : Str) :: ["room"]), PySem.W.findIn K (.ref C) z = some none) (gC : mg "Elsewhere" = some (.ref C)) (G : FnOk P w K mg base CX0 1 f fd PElsewhere_init (spElsewhere_init C)) : EM1 P w K mg base C f fd "Elsewhere" "room" := by
  obtain ⟨ox, iC, tI, xf, is, no⟩ := x
  obtain ⟨oc, od, kV, doc, pm, an, cdv, ct, osl, rfl, lk, hcd⟩ := F.ex
  exact { ox := ox, iC := iC, tI := tI, gC := gC, xf := xf, is := is, no := no, g := G, b := ⟨fun s a us ws _ hu hw => match us, ws, hu, hw with | [u], [], _, _ => .of_eq rfl, fun r1 _ => r1⟩, bk := ⟨fun s a us ws _ hu hw => match us, ws, hu, hw with | [], [u], _, _ => .of_eq rfl, fun _ r2 => r2⟩ }
end k00
namespace k00
open PySem L2 LC RM
abbrev spNotLacking_init (C : Addr) : Sp := LX.spErr C 1 (fE "NotLacking" ["ready"])
theorem ok_NotLacking_init {P : Program} {w : World} {K : PySem.W.Frag} {mg : Str → Option Value} {base : Heap} {f : Addr} {fd : FuncData} (F0 : Fun K "__init__" "NotLacking.__init__" sNotLacking_init f fd) (T : Txt K mg) {C : Addr} (ox : LB.OexB K C) (no : ∀ f ∈ (("code" : Str) :: ["ready"]), PySem.W.findIn K (.ref C) f = some none) :
    FnOk P w K mg base CX0 1 f fd PNotLacking_init (spNotLacking_init C) := by
  refine F0.ok scNotLacking_init (fun vs H Q E h => ?_) (fun cdv A outer s H vs Q E hr h => ?_)
  · obtain ⟨x, ws, rfl, hw, _⟩ := h
    show ws.length + 1 = 2
    rw [hw]
  · obtain ⟨x, ws, rfl, hw, ha, k⟩ := h
    obtain ⟨u, rfl⟩ : ∃ u : V, ws = [u] := by
      match ws, hw with
      | [u], _ => exact ⟨u, rfl⟩
    refine ⟨_, (pss_cons (LB.ps_ostB (pv 0) (pv 1))
        (pss_one (LB.ps_ostB (pv 0) pe_str))), ?_⟩
    refine ⟨_, rfl, _, rfl, x, C, rfl, ox, no "ready" (by simp), .inl ⟨ha, fun d hd da => ?_⟩⟩
    refine ⟨_, rfl, x, C, rfl, ox, no "code" (by simp), .inr ⟨d, _, upd_same, by rw [upd_ne da]; exact upd_same, (by show 1 ≤ 900; decide), ?_⟩⟩
    refine k d _ hd (by rw [upd_ne (Ne.symm da)]; exact upd_same) upd_same (fun b o hb e => ?_)
    have nd := ne_of_none e hd
    rw [upd_ne nd, upd_ne hb, upd_ne nd]
    exact e
theorem em_NotLacking_init {P : Program} {w : World} {K : PySem.W.Frag} {mg : Str → Option Value} {base : Heap} {C f : Addr} {fd : FuncData} (F : Fun K "__init__" "NotLacking.__init__" sNotLacking_init f fd) (x : LB.OexB K C ∧ PySem.W.findIn K (.ref C) "__init__" = some (some (.ref f)) ∧ PySem.W.typeIn K (.ref f) = some (.type "function") ∧ XfC K C ∧ IsC K C ∧ ∀ z ∈ (("code" : Str) :: ["ready"]), PySem.W.findIn K (.ref C) z = some none) (gC : mg "NotLacking" = some (.ref C)) (G : FnOk P w K mg base CX0 1 f fd PNotLacking_init (spNotLacking_init C)) : EM1 P w K mg base C f fd "NotLacking" "ready" := by
  obtain ⟨ox, iC, tI, xf, is, no⟩ := x
  obtain ⟨oc, od, kV, doc, pm, an, cdv, ct, osl, rfl, lk, hcd⟩ := F.ex
  exact { ox := ox, iC := iC, tI := tI, gC := gC, xf := xf, is := is, no := no, g := G, b := ⟨fun s a us ws _ hu hw => match us, ws, hu, hw with | [u], [], _, _ => .of_eq rfl, fun r1 _ => r1⟩, bk := ⟨fun s a us ws _ hu hw => match us, ws, hu, hw with | [], [u], _, _ => .of_eq rfl, fun _ r2 => r2⟩ }
end k00
namespace k00
open PySem L2 LC RM
abbrev spNotSettled_init (C : Addr) : Sp := LX.spErr C 0 (fE "NotSettled" [])
theorem ok_NotSettled_init {P : Program} {w : World} {K : PySem.W.Frag} {mg : Str → Option Value} {base : Heap} {f : Addr} {fd : FuncData} (F0 : Fun K "__init__" "NotSettled.__init__" sNotSettled_init f fd) (T : Txt K mg) {C : Addr} (ox : LB.OexB K C) (no : ∀ f ∈ (("code" : Str) :: []), PySem.W.findIn K (.ref C) f = some none) :
    FnOk P w K mg base CX0 1 f fd PNotSettled_init (spNotSettled_init C) := by
  refine F0.ok scNotSettled_init (fun vs H Q E h => ?_) (fun cdv A outer s H vs Q E hr h => ?_)
  · obtain ⟨x, ws, rfl, hw, _⟩ := h
    show ws.length + 1 = 1
    rw [hw]
  · obtain ⟨x, ws, rfl, hw, ha, k⟩ := h
    obtain rfl : ws = [] := List.length_eq_zero_iff.mp hw
    refine ⟨_, (pss_one (LB.ps_ostB (pv 0) pe_str)), ?_⟩
    refine ⟨_, rfl, x, C, rfl, ox, no "code" (by simp), .inl ⟨ha, fun d hd da => ?_⟩⟩
    refine k d _ hd upd_same (by rw [upd_ne da]; exact upd_same) (fun b o hb e => ?_)
    rw [upd_ne hb, upd_ne (ne_of_none e hd)]
    exact e
theorem em_NotSettled_init {P : Program} {w : World} {K : PySem.W.Frag} {mg : Str → Option Value} {base : Heap} {C f : Addr} {fd : FuncData} (F : Fun K "__init__" "NotSettled.__init__" sNotSettled_init f fd) (x : LB.OexB K C ∧ PySem.W.findIn K (.ref C) "__init__" = some (some (.ref f)) ∧ PySem.W.typeIn K (.ref f) = some (.type "function") ∧ XfC K C ∧ IsC K C ∧ ∀ z ∈ (("code" : Str) :: []), PySem.W.findIn K (.ref C) z = some none) (gC : mg "NotSettled" = some (.ref C)) (G : FnOk P w K mg base CX0 1 f fd PNotSettled_init (spNotSettled_init C)) : EM0 P w K mg base C f fd "NotSettled" := by
  obtain ⟨ox, iC, tI, xf, is, no⟩ := x
  obtain ⟨oc, od, kV, doc, pm, an, cdv, ct, osl, rfl, lk, hcd⟩ := F.ex
  exact { ox := ox, iC := iC, tI := tI, gC := gC, xf := xf, is := is, no := no, g := G, b := ⟨fun s a us ws _ hu hw => match us, ws, hu, hw with | [], [], _, _ => .of_eq rfl, fun r1 _ => r1⟩, b0 := ⟨fun s a us ws _ hu hw => match us, ws, hu, hw with | [], [], _, _ => .of_eq rfl, fun r1 _ => r1⟩ }
end k00
namespace k00
open PySem L2 LC RM
abbrev spEarly_init (C : Addr) : Sp := LX.spErr C 1 (fE "Early" ["at"])
theorem ok_Early_init {P : Program} {w : World} {K : PySem.W.Frag} {mg : Str → Option Value} {base : Heap} {f : Addr} {fd : FuncData} (F0 : Fun K "__init__" "Early.__init__" sEarly_init f fd) (T : Txt K mg) {C : Addr} (ox : LB.OexB K C) (no : ∀ f ∈ (("code" : Str) :: ["at"]), PySem.W.findIn K (.ref C) f = some none) :
    FnOk P w K mg base CX0 1 f fd PEarly_init (spEarly_init C) := by
  refine F0.ok scEarly_init (fun vs H Q E h => ?_) (fun cdv A outer s H vs Q E hr h => ?_)
  · obtain ⟨x, ws, rfl, hw, _⟩ := h
    show ws.length + 1 = 2
    rw [hw]
  · obtain ⟨x, ws, rfl, hw, ha, k⟩ := h
    obtain ⟨u, rfl⟩ : ∃ u : V, ws = [u] := by
      match ws, hw with
      | [u], _ => exact ⟨u, rfl⟩
    refine ⟨_, (pss_cons (LB.ps_ostB (pv 0) (pv 1))
        (pss_one (LB.ps_ostB (pv 0) pe_str))), ?_⟩
    refine ⟨_, rfl, _, rfl, x, C, rfl, ox, no "at" (by simp), .inl ⟨ha, fun d hd da => ?_⟩⟩
    refine ⟨_, rfl, x, C, rfl, ox, no "code" (by simp), .inr ⟨d, _, upd_same, by rw [upd_ne da]; exact upd_same, (by show 1 ≤ 900; decide), ?_⟩⟩
    refine k d _ hd (by rw [upd_ne (Ne.symm da)]; exact upd_same) upd_same (fun b o hb e => ?_)
    have nd := ne_of_none e hd
    rw [upd_ne nd, upd_ne hb, upd_ne nd]
    exact e
theorem em_Early_init {P : Program} {w : World} {K : PySem.W.Frag} {mg : Str → Option Value} {base : Heap} {C f : Addr} {fd : FuncData} (F : Fun K "__init__" "Early.__init__" sEarly_init f fd) (x : LB.OexB K C ∧ PySem.W.findIn K (.ref C) "__init__" = some (some (.ref f)) ∧ PySem.W.typeIn K (.ref f) = some (.type "function") ∧ XfC K C ∧ IsC K C ∧ ∀ z ∈ (("code" : Str) :: ["at"]), PySem.W.findIn K (.ref C) z = some none) (gC : mg "Early" = some (.ref C)) (G : FnOk P w K mg base CX0 1 f fd PEarly_init (spEarly_init C)) : EM1 P w K mg base C f fd "Early" "at" := by
  obtain ⟨ox, iC, tI, xf, is, no⟩ := x
  obtain ⟨oc, od, kV, doc, pm, an, cdv, ct, osl, rfl, lk, hcd⟩ := F.ex
  exact { ox := ox, iC := iC, tI := tI, gC := gC, xf := xf, is := is, no := no, g := G, b := ⟨fun s a us ws _ hu hw => match us, ws, hu, hw with | [u], [], _, _ => .of_eq rfl, fun r1 _ => r1⟩, bk := ⟨fun s a us ws _ hu hw => match us, ws, hu, hw with | [], [u], _, _ => .of_eq rfl, fun _ r2 => r2⟩ }
end k00
namespace k00
open PySem L2 LC RM
abbrev spNotPrompt_init (C : Addr) : Sp := LX.spErr C 1 (fE "NotPrompt" ["at"])
theorem ok_NotPrompt_init {P : Program} {w : World} {K : PySem.W.Frag} {mg : Str → Option Value} {base : Heap} {f : Addr} {fd : FuncData} (F0 : Fun K "__init__" "NotPrompt.__init__" sNotPrompt_init f fd) (T : Txt K mg) {C : Addr} (ox : LB.OexB K C) (no : ∀ f ∈ (("code" : Str) :: ["at"]), PySem.W.findIn K (.ref C) f = some none) :
    FnOk P w K mg base CX0 1 f fd PNotPrompt_init (spNotPrompt_init C) := by
  refine F0.ok scNotPrompt_init (fun vs H Q E h => ?_) (fun cdv A outer s H vs Q E hr h => ?_)
  · obtain ⟨x, ws, rfl, hw, _⟩ := h
    show ws.length + 1 = 2
    rw [hw]
  · obtain ⟨x, ws, rfl, hw, ha, k⟩ := h
    obtain ⟨u, rfl⟩ : ∃ u : V, ws = [u] := by
      match ws, hw with
      | [u], _ => exact ⟨u, rfl⟩
    refine ⟨_, (pss_cons (LB.ps_ostB (pv 0) (pv 1))
        (pss_one (LB.ps_ostB (pv 0) pe_str))), ?_⟩
    refine ⟨_, rfl, _, rfl, x, C, rfl, ox, no "at" (by simp), .inl ⟨ha, fun d hd da => ?_⟩⟩
    refine ⟨_, rfl, x, C, rfl, ox, no "code" (by simp), .inr ⟨d, _, upd_same, by rw [upd_ne da]; exact upd_same, (by show 1 ≤ 900; decide), ?_⟩⟩
    refine k d _ hd (by rw [upd_ne (Ne.symm da)]; exact upd_same) upd_same (fun b o hb e => ?_)
    have nd := ne_of_none e hd
    rw [upd_ne nd, upd_ne hb, upd_ne nd]
    exact e
theorem em_NotPrompt_init {P : Program} {w : World} {K : PySem.W.Frag} {mg : Str → Option Value} {base : Heap} {C f : Addr} {fd : FuncData} (F : Fun K "__init__" "NotPrompt.__init__" sNotPrompt_init f fd) (x : LB.OexB K C ∧ PySem.W.findIn K (.ref C) "__init__" = some (some (.ref f)) ∧ PySem.W.typeIn K (.ref f) = some (.type "function") ∧ XfC K C ∧ IsC K C ∧ ∀ z ∈ (("code" : Str) :: ["at"]), PySem.W.findIn K (.ref C) z = some none) (gC : mg "NotPrompt" = some (.ref C)) (G : FnOk P w K mg base CX0 1 f fd PNotPrompt_init (spNotPrompt_init C)) : EM1 P w K mg base C f fd "NotPrompt" "at" := by
  obtain ⟨ox, iC, tI, xf, is, no⟩ := x
  obtain ⟨oc, od, kV, doc, pm, an, cdv, ct, osl, rfl, lk, hcd⟩ := F.ex
  exact { ox := ox, iC := iC, tI := tI, gC := gC, xf := xf, is := is, no := no, g := G, b := ⟨fun s a us ws _ hu hw => match us, ws, hu, hw with | [u], [], _, _ => .of_eq rfl, fun r1 _ => r1⟩, bk := ⟨fun s a us ws _ hu hw => match us, ws, hu, hw with | [], [u], _, _ => .of_eq rfl, fun _ r2 => r2⟩ }
end k00
namespace k00
open PySem L2 LC RM
abbrev spRefused_init (C : Addr) : Sp := LX.spErr C 1 (fE "Refused" ["at"])
theorem ok_Refused_init {P : Program} {w : World} {K : PySem.W.Frag} {mg : Str → Option Value} {base : Heap} {f : Addr} {fd : FuncData} (F0 : Fun K "__init__" "Refused.__init__" sRefused_init f fd) (T : Txt K mg) {C : Addr} (ox : LB.OexB K C) (no : ∀ f ∈ (("code" : Str) :: ["at"]), PySem.W.findIn K (.ref C) f = some none) :
    FnOk P w K mg base CX0 1 f fd PRefused_init (spRefused_init C) := by
  refine F0.ok scRefused_init (fun vs H Q E h => ?_) (fun cdv A outer s H vs Q E hr h => ?_)
  · obtain ⟨x, ws, rfl, hw, _⟩ := h
    show ws.length + 1 = 2
    rw [hw]
  · obtain ⟨x, ws, rfl, hw, ha, k⟩ := h
    obtain ⟨u, rfl⟩ : ∃ u : V, ws = [u] := by
      match ws, hw with
      | [u], _ => exact ⟨u, rfl⟩
    refine ⟨_, (pss_cons (LB.ps_ostB (pv 0) (pv 1))
        (pss_one (LB.ps_ostB (pv 0) pe_str))), ?_⟩
    refine ⟨_, rfl, _, rfl, x, C, rfl, ox, no "at" (by simp), .inl ⟨ha, fun d hd da => ?_⟩⟩
    refine ⟨_, rfl, x, C, rfl, ox, no "code" (by simp), .inr ⟨d, _, upd_same, by rw [upd_ne da]; exact upd_same, (by show 1 ≤ 900; decide), ?_⟩⟩
    refine k d _ hd (by rw [upd_ne (Ne.symm da)]; exact upd_same) upd_same (fun b o hb e => ?_)
    have nd := ne_of_none e hd
    rw [upd_ne nd, upd_ne hb, upd_ne nd]
    exact e
theorem em_Refused_init {P : Program} {w : World} {K : PySem.W.Frag} {mg : Str → Option Value} {base : Heap} {C f : Addr} {fd : FuncData} (F : Fun K "__init__" "Refused.__init__" sRefused_init f fd) (x : LB.OexB K C ∧ PySem.W.findIn K (.ref C) "__init__" = some (some (.ref f)) ∧ PySem.W.typeIn K (.ref f) = some (.type "function") ∧ XfC K C ∧ IsC K C ∧ ∀ z ∈ (("code" : Str) :: ["at"]), PySem.W.findIn K (.ref C) z = some none) (gC : mg "Refused" = some (.ref C)) (G : FnOk P w K mg base CX0 1 f fd PRefused_init (spRefused_init C)) : EM1 P w K mg base C f fd "Refused" "at" := by
  obtain ⟨ox, iC, tI, xf, is, no⟩ := x
  obtain ⟨oc, od, kV, doc, pm, an, cdv, ct, osl, rfl, lk, hcd⟩ := F.ex
  exact { ox := ox, iC := iC, tI := tI, gC := gC, xf := xf, is := is, no := no, g := G, b := ⟨fun s a us ws _ hu hw => match us, ws, hu, hw with | [u], [], _, _ => .of_eq rfl, fun r1 _ => r1⟩, bk := ⟨fun s a us ws _ hu hw => match us, ws, hu, hw with | [], [u], _, _ => .of_eq rfl, fun _ r2 => r2⟩ }
end k00
namespace k00
open PySem L2 LC RM
abbrev spUnknownName_init (C : Addr) : Sp := LX.spErr C 1 (fE "UnknownName" ["name"])
theorem ok_UnknownName_init {P : Program} {w : World} {K : PySem.W.Frag} {mg : Str → Option Value} {base : Heap} {f : Addr} {fd : FuncData} (F0 : Fun K "__init__" "UnknownName.__init__" sUnknownName_init f fd) (T : Txt K mg) {C : Addr} (ox : LB.OexB K C) (no : ∀ f ∈ (("code" : Str) :: ["name"]), PySem.W.findIn K (.ref C) f = some none) :
    FnOk P w K mg base CX0 1 f fd PUnknownName_init (spUnknownName_init C) := by
  refine F0.ok scUnknownName_init (fun vs H Q E h => ?_) (fun cdv A outer s H vs Q E hr h => ?_)
  · obtain ⟨x, ws, rfl, hw, _⟩ := h
    show ws.length + 1 = 2
    rw [hw]
  · obtain ⟨x, ws, rfl, hw, ha, k⟩ := h
    obtain ⟨u, rfl⟩ : ∃ u : V, ws = [u] := by
      match ws, hw with
      | [u], _ => exact ⟨u, rfl⟩
    refine ⟨_, (pss_cons (LB.ps_ostB (pv 0) (pv 1))
        (pss_one (LB.ps_ostB (pv 0) pe_str))), ?_⟩
    refine ⟨_, rfl, _, rfl, x, C, rfl, ox, no "name" (by simp), .inl ⟨ha, fun d hd da => ?_⟩⟩
    refine ⟨_, rfl, x, C, rfl, ox, no "code" (by simp), .inr ⟨d, _, upd_same, by rw [upd_ne da]; exact upd_same, (by show 1 ≤ 900; decide), ?_⟩⟩
    refine k d _ hd (by rw [upd_ne (Ne.symm da)]; exact upd_same) upd_same (fun b o hb e => ?_)
    have nd := ne_of_none e hd
    rw [upd_ne nd, upd_ne hb, upd_ne nd]
    exact e
theorem em_UnknownName_init {P : Program} {w : World} {K : PySem.W.Frag} {mg : Str → Option Value} {base : Heap} {C f : Addr} {fd : FuncData} (F : Fun K "__init__" "UnknownName.__init__" sUnknownName_init f fd) (x : LB.OexB K C ∧ PySem.W.findIn K (.ref C) "__init__" = some (some (.ref f)) ∧ PySem.W.typeIn K (.ref f) = some (.type "function") ∧ XfC K C ∧ IsC K C ∧ ∀ z ∈ (("code" : Str) :: ["name"]), PySem.W.findIn K (.ref C) z = some none) (gC : mg "UnknownName" = some (.ref C)) (G : FnOk P w K mg base CX0 1 f fd PUnknownName_init (spUnknownName_init C)) : EM1 P w K mg base C f fd "UnknownName" "name" := by
  obtain ⟨ox, iC, tI, xf, is, no⟩ := x
  obtain ⟨oc, od, kV, doc, pm, an, cdv, ct, osl, rfl, lk, hcd⟩ := F.ex
  exact { ox := ox, iC := iC, tI := tI, gC := gC, xf := xf, is := is, no := no, g := G, b := ⟨fun s a us ws _ hu hw => match us, ws, hu, hw with | [u], [], _, _ => .of_eq rfl, fun r1 _ => r1⟩, bk := ⟨fun s a us ws _ hu hw => match us, ws, hu, hw with | [], [u], _, _ => .of_eq rfl, fun _ r2 => r2⟩ }
end k00
namespace k00
open PySem L2 LC RM
abbrev spUnknownLot_init (C : Addr) : Sp := LX.spErr C 2 (fE "UnknownLot" ["place", "number"])
theorem ok_UnknownLot_init {P : Program} {w : World} {K : PySem.W.Frag} {mg : Str → Option Value} {base : Heap} {f : Addr} {fd : FuncData} (F0 : Fun K "__init__" "UnknownLot.__init__" sUnknownLot_init f fd) (T : Txt K mg) {C : Addr} (ox : LB.OexB K C) (no : ∀ f ∈ (("code" : Str) :: ["place", "number"]), PySem.W.findIn K (.ref C) f = some none) :
    FnOk P w K mg base CX0 1 f fd PUnknownLot_init (spUnknownLot_init C) := by
  refine F0.ok scUnknownLot_init (fun vs H Q E h => ?_) (fun cdv A outer s H vs Q E hr h => ?_)
  · obtain ⟨x, ws, rfl, hw, _⟩ := h
    show ws.length + 1 = 3
    rw [hw]
  · obtain ⟨x, ws, rfl, hw, ha, k⟩ := h
    obtain ⟨u, v, rfl⟩ : ∃ u v : V, ws = [u, v] := by
      match ws, hw with
      | [u, v], _ => exact ⟨u, v, rfl⟩
    refine ⟨_, (pss_cons (LB.ps_ostB (pv 0) (pv 1))
        (pss_cons (LB.ps_ostB (pv 0) (pv 2))
        (pss_one (LB.ps_ostB (pv 0) pe_str)))), ?_⟩
    refine ⟨_, rfl, _, rfl, x, C, rfl, ox, no "place" (by simp), .inl ⟨ha, fun d hd da => ?_⟩⟩
    refine ⟨_, rfl, _, rfl, x, C, rfl, ox, no "number" (by simp), .inr ⟨d, _, upd_same, by rw [upd_ne da]; exact upd_same, (by show 1 ≤ 900; decide), ?_⟩⟩
    refine ⟨_, rfl, x, C, rfl, ox, no "code" (by simp), .inr ⟨d, _, by rw [upd_ne (Ne.symm da)]; exact upd_same, upd_same, (by show 2 ≤ 900; decide), ?_⟩⟩
    refine k d _ hd (by rw [upd_ne (Ne.symm da), upd_ne (Ne.symm da)]; exact upd_same) upd_same (fun b o hb e => ?_)
    have nd := ne_of_none e hd
    rw [upd_ne nd, upd_ne nd, upd_ne hb, upd_ne nd]
    exact e
theorem em_UnknownLot_init {P : Program} {w : World} {K : PySem.W.Frag} {mg : Str → Option Value} {base : Heap} {C f : Addr} {fd : FuncData} (F : Fun K "__init__" "UnknownLot.__init__" sUnknownLot_init f fd) (x : LB.OexB K C ∧ PySem.W.findIn K (.ref C) "__init__" = some (some (.ref f)) ∧ PySem.W.typeIn K (.ref f) = some (.type "function") ∧ XfC K C ∧ IsC K C ∧ ∀ z ∈ (("code" : Str) :: ["place", "number"]), PySem.W.findIn K (.ref C) z = some none) (gC : mg "UnknownLot" = some (.ref C)) (G : FnOk P w K mg base CX0 1 f fd PUnknownLot_init (spUnknownLot_init C)) : EM2 P w K mg base C f fd "UnknownLot" "place" "number" := by
  obtain ⟨ox, iC, tI, xf, is, no⟩ := x
  obtain ⟨oc, od, kV, doc, pm, an, cdv, ct, osl, rfl, lk, hcd⟩ := F.ex
  exact { ox := ox, iC := iC, tI := tI, gC := gC, xf := xf, is := is, no := no, g := G, b := ⟨fun s a us ws _ hu hw => match us, ws, hu, hw with | [u, v], [], _, _ => .of_eq rfl, fun r1 _ => r1⟩, bk := ⟨fun s a us ws _ hu hw => match us, ws, hu, hw with | [], [u, v], _, _ => .of_eq rfl, fun _ r2 => r2⟩, br := ⟨fun s a us ws _ hu hw => match us, ws, hu, hw with | [], [u, v], _, _ => .of_eq rfl, fun _ r2 => vals_rev r2⟩, bm := ⟨fun s a us ws _ hu hw => match us, ws, hu, hw with | [u], [v], _, _ => .of_eq rfl, fun r1 r2 => Vals.append r1 r2⟩ }
end k00
namespace k00
open PySem L2 LC RM
abbrev spUnknownLoan_init (C : Addr) : Sp := LX.spErr C 1 (fE "UnknownLoan" ["number"])
theorem ok_UnknownLoan_init {P : Program} {w : World} {K : PySem.W.Frag} {mg : Str → Option Value} {base : Heap} {f : Addr} {fd : FuncData} (F0 : Fun K "__init__" "UnknownLoan.__init__" sUnknownLoan_init f fd) (T : Txt K mg) {C : Addr} (ox : LB.OexB K C) (no : ∀ f ∈ (("code" : Str) :: ["number"]), PySem.W.findIn K (.ref C) f = some none) :
    FnOk P w K mg base CX0 1 f fd PUnknownLoan_init (spUnknownLoan_init C) := by
  refine F0.ok scUnknownLoan_init (fun vs H Q E h => ?_) (fun cdv A outer s H vs Q E hr h => ?_)
  · obtain ⟨x, ws, rfl, hw, _⟩ := h
    show ws.length + 1 = 2
    rw [hw]
  · obtain ⟨x, ws, rfl, hw, ha, k⟩ := h
    obtain ⟨u, rfl⟩ : ∃ u : V, ws = [u] := by
      match ws, hw with
      | [u], _ => exact ⟨u, rfl⟩
    refine ⟨_, (pss_cons (LB.ps_ostB (pv 0) (pv 1))
        (pss_one (LB.ps_ostB (pv 0) pe_str))), ?_⟩
    refine ⟨_, rfl, _, rfl, x, C, rfl, ox, no "number" (by simp), .inl ⟨ha, fun d hd da => ?_⟩⟩
    refine ⟨_, rfl, x, C, rfl, ox, no "code" (by simp), .inr ⟨d, _, upd_same, by rw [upd_ne da]; exact upd_same, (by show 1 ≤ 900; decide), ?_⟩⟩
    refine k d _ hd (by rw [upd_ne (Ne.symm da)]; exact upd_same) upd_same (fun b o hb e => ?_)
    have nd := ne_of_none e hd
    rw [upd_ne nd, upd_ne hb, upd_ne nd]
    exact e
theorem em_UnknownLoan_init {P : Program} {w : World} {K : PySem.W.Frag} {mg : Str → Option Value} {base : Heap} {C f : Addr} {fd : FuncData} (F : Fun K "__init__" "UnknownLoan.__init__" sUnknownLoan_init f fd) (x : LB.OexB K C ∧ PySem.W.findIn K (.ref C) "__init__" = some (some (.ref f)) ∧ PySem.W.typeIn K (.ref f) = some (.type "function") ∧ XfC K C ∧ IsC K C ∧ ∀ z ∈ (("code" : Str) :: ["number"]), PySem.W.findIn K (.ref C) z = some none) (gC : mg "UnknownLoan" = some (.ref C)) (G : FnOk P w K mg base CX0 1 f fd PUnknownLoan_init (spUnknownLoan_init C)) : EM1 P w K mg base C f fd "UnknownLoan" "number" := by
  obtain ⟨ox, iC, tI, xf, is, no⟩ := x
  obtain ⟨oc, od, kV, doc, pm, an, cdv, ct, osl, rfl, lk, hcd⟩ := F.ex
  exact { ox := ox, iC := iC, tI := tI, gC := gC, xf := xf, is := is, no := no, g := G, b := ⟨fun s a us ws _ hu hw => match us, ws, hu, hw with | [u], [], _, _ => .of_eq rfl, fun r1 _ => r1⟩, bk := ⟨fun s a us ws _ hu hw => match us, ws, hu, hw with | [], [u], _, _ => .of_eq rfl, fun _ r2 => r2⟩ }
end k00
namespace k00
open PySem L2 LC RM
abbrev spNoSuchLetter_init (C : Addr) : Sp := LX.spErr C 1 (fE "NoSuchLetter" ["index"])
theorem ok_NoSuchLetter_init {P : Program} {w : World} {K : PySem.W.Frag} {mg : Str → Option Value} {base : Heap} {f : Addr} {fd : FuncData} (F0 : Fun K "__init__" "NoSuchLetter.__init__" sNoSuchLetter_init f fd) (T : Txt K mg) {C : Addr} (ox : LB.OexB K C) (no : ∀ f ∈ (("code" : Str) :: ["index"]), PySem.W.findIn K (.ref C) f = some none) :
    FnOk P w K mg base CX0 1 f fd PNoSuchLetter_init (spNoSuchLetter_init C) := by
  refine F0.ok scNoSuchLetter_init (fun vs H Q E h => ?_) (fun cdv A outer s H vs Q E hr h => ?_)
  · obtain ⟨x, ws, rfl, hw, _⟩ := h
    show ws.length + 1 = 2
    rw [hw]
  · obtain ⟨x, ws, rfl, hw, ha, k⟩ := h
    obtain ⟨u, rfl⟩ : ∃ u : V, ws = [u] := by
      match ws, hw with
      | [u], _ => exact ⟨u, rfl⟩
    refine ⟨_, (pss_cons (LB.ps_ostB (pv 0) (pv 1))
        (pss_one (LB.ps_ostB (pv 0) pe_str))), ?_⟩
    refine ⟨_, rfl, _, rfl, x, C, rfl, ox, no "index" (by simp), .inl ⟨ha, fun d hd da => ?_⟩⟩
    refine ⟨_, rfl, x, C, rfl, ox, no "code" (by simp), .inr ⟨d, _, upd_same, by rw [upd_ne da]; exact upd_same, (by show 1 ≤ 900; decide), ?_⟩⟩
    refine k d _ hd (by rw [upd_ne (Ne.symm da)]; exact upd_same) upd_same (fun b o hb e => ?_)
    have nd := ne_of_none e hd
    rw [upd_ne nd, upd_ne hb, upd_ne nd]
    exact e
theorem em_NoSuchLetter_init {P : Program} {w : World} {K : PySem.W.Frag} {mg : Str → Option Value} {base : Heap} {C f : Addr} {fd : FuncData} (F : Fun K "__init__" "NoSuchLetter.__init__" sNoSuchLetter_init f fd) (x : LB.OexB K C ∧ PySem.W.findIn K (.ref C) "__init__" = some (some (.ref f)) ∧ PySem.W.typeIn K (.ref f) = some (.type "function") ∧ XfC K C ∧ IsC K C ∧ ∀ z ∈ (("code" : Str) :: ["index"]), PySem.W.findIn K (.ref C) z = some none) (gC : mg "NoSuchLetter" = some (.ref C)) (G : FnOk P w K mg base CX0 1 f fd PNoSuchLetter_init (spNoSuchLetter_init C)) : EM1 P w K mg base C f fd "NoSuchLetter" "index" := by
  obtain ⟨ox, iC, tI, xf, is, no⟩ := x
  obtain ⟨oc, od, kV, doc, pm, an, cdv, ct, osl, rfl, lk, hcd⟩ := F.ex
  exact { ox := ox, iC := iC, tI := tI, gC := gC, xf := xf, is := is, no := no, g := G, b := ⟨fun s a us ws _ hu hw => match us, ws, hu, hw with | [u], [], _, _ => .of_eq rfl, fun r1 _ => r1⟩, bk := ⟨fun s a us ws _ hu hw => match us, ws, hu, hw with | [], [u], _, _ => .of_eq rfl, fun _ r2 => r2⟩ }
end k00
namespace k00
open PySem L2 LC RM
abbrev spFallen_init (C : Addr) : Sp := LX.spErr C 1 (fE "Fallen" ["name"])
theorem ok_Fallen_init {P : Program} {w : World} {K : PySem.W.Frag} {mg : Str → Option Value} {base : Heap} {f : Addr} {fd : FuncData} (F0 : Fun K "__init__" "Fallen.__init__" sFallen_init f fd) (T : Txt K mg) {C : Addr} (ox : LB.OexB K C) (no : ∀ f ∈ (("code" : Str) :: ["name"]), PySem.W.findIn K (.ref C) f = some none) :
    FnOk P w K mg base CX0 1 f fd PFallen_init (spFallen_init C) := by
  refine F0.ok scFallen_init (fun vs H Q E h => ?_) (fun cdv A outer s H vs Q E hr h => ?_)
  · obtain ⟨x, ws, rfl, hw, _⟩ := h
    show ws.length + 1 = 2
    rw [hw]
  · obtain ⟨x, ws, rfl, hw, ha, k⟩ := h
    obtain ⟨u, rfl⟩ : ∃ u : V, ws = [u] := by
      match ws, hw with
      | [u], _ => exact ⟨u, rfl⟩
    refine ⟨_, (pss_cons (LB.ps_ostB (pv 0) (pv 1))
        (pss_one (LB.ps_ostB (pv 0) pe_str))), ?_⟩
    refine ⟨_, rfl, _, rfl, x, C, rfl, ox, no "name" (by simp), .inl ⟨ha, fun d hd da => ?_⟩⟩
    refine ⟨_, rfl, x, C, rfl, ox, no "code" (by simp), .inr ⟨d, _, upd_same, by rw [upd_ne da]; exact upd_same, (by show 1 ≤ 900; decide), ?_⟩⟩
    refine k d _ hd (by rw [upd_ne (Ne.symm da)]; exact upd_same) upd_same (fun b o hb e => ?_)
    have nd := ne_of_none e hd
    rw [upd_ne nd, upd_ne hb, upd_ne nd]
    exact e
theorem em_Fallen_init {P : Program} {w : World} {K : PySem.W.Frag} {mg : Str → Option Value} {base : Heap} {C f : Addr} {fd : FuncData} (F : Fun K "__init__" "Fallen.__init__" sFallen_init f fd) (x : LB.OexB K C ∧ PySem.W.findIn K (.ref C) "__init__" = some (some (.ref f)) ∧ PySem.W.typeIn K (.ref f) = some (.type "function") ∧ XfC K C ∧ IsC K C ∧ ∀ z ∈ (("code" : Str) :: ["name"]), PySem.W.findIn K (.ref C) z = some none) (gC : mg "Fallen" = some (.ref C)) (G : FnOk P w K mg base CX0 1 f fd PFallen_init (spFallen_init C)) : EM1 P w K mg base C f fd "Fallen" "name" := by
  obtain ⟨ox, iC, tI, xf, is, no⟩ := x
  obtain ⟨oc, od, kV, doc, pm, an, cdv, ct, osl, rfl, lk, hcd⟩ := F.ex
  exact { ox := ox, iC := iC, tI := tI, gC := gC, xf := xf, is := is, no := no, g := G, b := ⟨fun s a us ws _ hu hw => match us, ws, hu, hw with | [u], [], _, _ => .of_eq rfl, fun r1 _ => r1⟩, bk := ⟨fun s a us ws _ hu hw => match us, ws, hu, hw with | [], [u], _, _ => .of_eq rfl, fun _ r2 => r2⟩ }
end k00
namespace k00
open PySem L2 LC RM
abbrev spNotFallen_init (C : Addr) : Sp := LX.spErr C 1 (fE "NotFallen" ["name"])
theorem ok_NotFallen_init {P : Program} {w : World} {K : PySem.W.Frag} {mg : Str → Option Value} {base : Heap} {f : Addr} {fd : FuncData} (F0 : Fun K "__init__" "NotFallen.__init__" sNotFallen_init f fd) (T : Txt K mg) {C : Addr} (ox : LB.OexB K C) (no : ∀ f ∈ (("code" : Str) :: ["name"]), PySem.W.findIn K (.ref C) f = some none) :
    FnOk P w K mg base CX0 1 f fd PNotFallen_init (spNotFallen_init C) := by
  refine F0.ok scNotFallen_init (fun vs H Q E h => ?_) (fun cdv A outer s H vs Q E hr h => ?_)
  · obtain ⟨x, ws, rfl, hw, _⟩ := h
    show ws.length + 1 = 2
    rw [hw]
  · obtain ⟨x, ws, rfl, hw, ha, k⟩ := h
    obtain ⟨u, rfl⟩ : ∃ u : V, ws = [u] := by
      match ws, hw with
      | [u], _ => exact ⟨u, rfl⟩
    refine ⟨_, (pss_cons (LB.ps_ostB (pv 0) (pv 1))
        (pss_one (LB.ps_ostB (pv 0) pe_str))), ?_⟩
    refine ⟨_, rfl, _, rfl, x, C, rfl, ox, no "name" (by simp), .inl ⟨ha, fun d hd da => ?_⟩⟩
    refine ⟨_, rfl, x, C, rfl, ox, no "code" (by simp), .inr ⟨d, _, upd_same, by rw [upd_ne da]; exact upd_same, (by show 1 ≤ 900; decide), ?_⟩⟩
    refine k d _ hd (by rw [upd_ne (Ne.symm da)]; exact upd_same) upd_same (fun b o hb e => ?_)
    have nd := ne_of_none e hd
    rw [upd_ne nd, upd_ne hb, upd_ne nd]
    exact e
theorem em_NotFallen_init {P : Program} {w : World} {K : PySem.W.Frag} {mg : Str → Option Value} {base : Heap} {C f : Addr} {fd : FuncData} (F : Fun K "__init__" "NotFallen.__init__" sNotFallen_init f fd) (x : LB.OexB K C ∧ PySem.W.findIn K (.ref C) "__init__" = some (some (.ref f)) ∧ PySem.W.typeIn K (.ref f) = some (.type "function") ∧ XfC K C ∧ IsC K C ∧ ∀ z ∈ (("code" : Str) :: ["name"]), PySem.W.findIn K (.ref C) z = some none) (gC : mg "NotFallen" = some (.ref C)) (G : FnOk P w K mg base CX0 1 f fd PNotFallen_init (spNotFallen_init C)) : EM1 P w K mg base C f fd "NotFallen" "name" := by
  obtain ⟨ox, iC, tI, xf, is, no⟩ := x
  obtain ⟨oc, od, kV, doc, pm, an, cdv, ct, osl, rfl, lk, hcd⟩ := F.ex
  exact { ox := ox, iC := iC, tI := tI, gC := gC, xf := xf, is := is, no := no, g := G, b := ⟨fun s a us ws _ hu hw => match us, ws, hu, hw with | [u], [], _, _ => .of_eq rfl, fun r1 _ => r1⟩, bk := ⟨fun s a us ws _ hu hw => match us, ws, hu, hw with | [], [u], _, _ => .of_eq rfl, fun _ r2 => r2⟩ }
end k00
namespace k00
open PySem L2 LC RM
def spbag (K : PySem.W.Frag) : Sp := fun vs H Q _ => ∃ (a : Addr) (ns : List Int), vs = [.ref a] ∧ SqL K H a (ns.map V.int) ∧ ns.length ≤ 63 ∧ ∀ g H', H g = none → Same H H' → (∃ l, Bag l H' g) → Q (.ref g) H'
theorem ok_bag {P : Program} {w : World} {K : PySem.W.Frag} {mg : Str → Option Value} {base : Heap} {f : Addr} {fd : FuncData} (D : Def K mg "_law_bag" sbag Pbag f fd) (T : Txt K mg) :
    FnOk P w K mg base CX0 1 f fd Pbag (spbag K) := by
  refine D.F.ok scbag (fun vs H Q E h => ?_) (fun cdv A outer s H vs Q E hr h => ?_)
  · obtain ⟨a, ns, rfl, hS, hl, k⟩ := h
    rfl
  · obtain ⟨a, ns, rfl, hS, hl, k⟩ := h
    refine ⟨_, (pss_cons (ps_set (i := 1) scbag.nd rfl (Or.inl rfl) pe_int)
        (pss_cons (ps_for PassesOwn.never rfl (pi_list (pe_slice (show SlR _ (rSlL K) from sl_list) (pv 0) po_none (po_some pe_int))) (pg_name (i := 2) scbag.nd rfl (Or.inl rfl))
          (pss_one (ps_set (i := 1) scbag.nd rfl (Or.inl rfl) (pe_op op_mod (pe_callTy call_int1 (by rfl) T.n_int (by decide +kernel) (pa_cons (pe_op op_add (pe_op op_add (pe_op op_mul (pv 1) pe_int) (pe_op op_mod (pe_callTy call_int1 (by rfl) T.n_int (by decide +kernel) (pa_cons (pv 2) pa_nil)) pe_int)) pe_int) pa_nil)) pe_int))))
        (pss_one (ps_ret (pe_lst (pa_cons (pe_callTy (show CallR _ (.type "list") (rLof K) from call_list_of) (by rfl) T.n_list (by decide +kernel) (pa_cons (pe_slice (show SlR _ (rSlL K) from sl_list) (pv 0) po_none (po_some pe_int)) pa_nil)) (pa_cons pe_int (pa_cons pe_int (pa_cons (pv 1) (pa_cons pe_int pa_nil)))))))))), ?_⟩
    obtain ⟨ms, hms, hml⟩ := cut_ints ns none (some 63)
    refine ⟨_, rfl, _, rfl, a, _, rfl, hS, fun p hp => ?_⟩
    rw [hms]
    have s1 : Same H (upd H p (.lst (ms.map V.int))) := same_new hp
    refine ⟨p, rfl, ⟨_, SqL.of upd_same⟩, for_list (K := K) (a := p) (xs := ms.map V.int) (fun i σ H' => ∃ (s : Int) (v : Option V), σ = [some (.ref a), some (.int s), v] ∧ 0 ≤ s ∧ s < 2147483399 ∧ Same (upd H p (.lst (ms.map V.int))) H')
      ⟨13962, none, rfl, by decide, by decide, Same.refl _⟩ (fun i σ H' _ ⟨_, _, _, _, _, R⟩ => R.seq (SqL.of upd_same)) ?_ ?_⟩
    · rintro i y σ H' hi ⟨s, v, rfl, h1, h2, R⟩
      obtain ⟨u, rfl⟩ := int_of hi
      refine ⟨_, rfl, _, _, rfl, rfl, .inr ⟨by decide, by decide⟩, _, rfl, .inl ⟨_, rfl, _, _, rfl, rfl, (by show (0 : Int) < 2147483563; decide), _, _, rfl, rfl, _, _, rfl, rfl, .inl ⟨_, rfl, _, _, rfl, rfl, (by show (0 : Int) < 2147483399; decide), ?_⟩⟩⟩
      refine ⟨_, _, rfl, Int.emod_nonneg _ (by decide), Int.emod_lt_of_pos _ (by decide), R⟩
    · rintro σ H' ⟨s, v, rfl, h1, h2, R⟩
      refine ⟨_, rfl, _, rfl, a, _, rfl, (s1.trans R).seq hS, fun q hq => ?_⟩
      rw [hms]
      refine ⟨q, _, rfl, .inl (SqL.of upd_same), fun l hl' => ?_⟩
      refine ⟨_, rfl, (by show 5 ≤ sizeLine; decide), fun g hg => ?_⟩
      have r1 : Same H' (upd H' q (.lst (ms.map V.int))) := same_new hq
      have r2 := same_new (o := .lst (ms.map V.int)) hl'
      have r3 := same_new (o := .lst [V.ref l, V.int 0, V.int 0, V.int s, V.int 0]) hg
      refine k g _ (s1.free (R.free (r1.free (r2.free hg)))) (s1.trans (R.trans (r1.trans (r2.trans r3)))) ?_
      have ne : l ≠ g := fun e => by
        rw [← e, upd_same] at hg
        cases hg
      exact ⟨l, ms, 0, 0, s, 0, upd_same, ne, by rw [upd_ne ne]; exact upd_same, Int.le_refl _, Int.natCast_nonneg _, Int.le_refl _, h1, h2⟩
end k00
namespace k00
open PySem L2 LC RM
def spdraw : Sp := fun vs H Q _ => ∃ (g l : Addr) (n : Int), vs = [.ref g, .int n] ∧ Bag l H g ∧ 0 < n ∧ n < 1073741824 ∧ ∀ (d : Int) (H' : Hp), 0 ≤ d → d < n → Ok g l H H' → Q (.int d) H'
theorem ok_draw {P : Program} {w : World} {K : PySem.W.Frag} {mg : Str → Option Value} {base : Heap} {f : Addr} {fd : FuncData} (D : Def K mg "_law_draw" sdraw Pdraw f fd) (T : Txt K mg) :
    FnOk P w K mg base CX0 1 f fd Pdraw (spdraw) := by
  refine D.F.ok scdraw (fun vs H Q E h => ?_) (fun cdv A outer s H vs Q E hr h => ?_)
  · obtain ⟨g, l, n, rfl, B, n0, n1, k⟩ := h
    rfl
  · obtain ⟨g, l, n, rfl, B, n0, n1, k⟩ := h
    refine ⟨_, (pss_cons (ps_asg (pe_op op_add (pe_ix ix_list (pv 0) pe_int (fun _ _ => rfl)) pe_int) (pg_sub (pv 0) pe_int set_list))
        (Evl.pss_cut (ps_if (PW.pt (pw_and (pt_cmpR op_eq (pe_ix ix_list (pv 0) pe_int (fun _ _ => rfl)) pe_int (nomark _)) (pw_and1 (pt_cmpR op_lt (pe_ix ix_list (pv 0) pe_int (fun _ _ => rfl)) (pe_callB call_len (by rfl) T.n_len PySem.boot_len (pa_cons (pe_ix ix_list (pv 0) pe_int (fun _ _ => rfl)) pa_nil)) (nomark _))))) (pss_cons (ps_set (i := 2) scdraw.nd rfl (Or.inl rfl) (pe_ix ix_list (pe_ix ix_list (pv 0) pe_int (fun _ _ => rfl)) (pe_ix ix_list (pv 0) pe_int (fun _ _ => rfl)) (fun _ _ => rfl)))
        (pss_cons (ps_asg (pe_op op_add (pe_ix ix_list (pv 0) pe_int (fun _ _ => rfl)) pe_int) (pg_sub (pv 0) pe_int set_list))
        (pss_one (ps_if (pt_cmpR op_ge (pv 2) (pe_op op_pow pe_int pe_int) (nomark _)) (pss_one (ps_asg (pv 2) (pg_sub (pv 0) pe_int set_list))) (pss_one (ps_asg (pe_op op_mod (pe_callTy call_int1 (by rfl) T.n_int (by decide +kernel) (pa_cons (pe_op op_add (pe_op op_add (pe_op op_mul (pe_ix ix_list (pv 0) pe_int (fun _ _ => rfl)) pe_int) (pe_op op_mul (pe_op op_mod (pe_callTy call_int1 (by rfl) T.n_int (by decide +kernel) (pa_cons (pv 2) pa_nil)) pe_int) pe_int)) pe_int) pa_nil)) pe_int) (pg_sub (pv 0) pe_int set_list))))))) pss_nil)
        (pss_cons (ps_if (pt_cmpR op_gt (pe_ix ix_list (pv 0) pe_int (fun _ _ => rfl)) pe_int (nomark _)) (pss_cons (ps_set (i := 3) scdraw.nd rfl (Or.inl rfl) (pe_op op_modN (pe_callTy call_int1 (by rfl) T.n_int (by decide +kernel) (pa_cons (pe_ix ix_list (pv 0) pe_int (fun _ _ => rfl)) pa_nil)) (pv 1)))
        (pss_cons (ps_asg (pe_op op_fdivN (pe_ix ix_list (pv 0) pe_int (fun _ _ => rfl)) (pv 1)) (pg_sub (pv 0) pe_int set_list))
        (pss_one (ps_ret (pv 3))))) pss_nil)
        (pss_cons (ps_asg (pe_op op_mod (pe_callTy call_int1 (by rfl) T.n_int (by decide +kernel) (pa_cons (pe_op op_add (pe_op op_add (pe_op op_pow (pe_ix ix_list (pv 0) pe_int (fun _ _ => rfl)) pe_int) (pe_op op_mul (pe_ix ix_list (pv 0) pe_int (fun _ _ => rfl)) pe_int)) pe_int) pa_nil)) pe_int) (pg_sub (pv 0) pe_int set_list))
        (pss_one (ps_ret (pe_op op_modN (pe_callTy call_int1 (by rfl) T.n_int (by decide +kernel) (pa_cons (pe_op op_add (pe_op op_fdiv (pe_ix ix_list (pv 0) pe_int (fun _ _ => rfl)) pe_int) (pe_op op_mul (pe_op op_mod (pe_callTy call_int1 (by rfl) T.n_int (by decide +kernel) (pa_cons (pe_ix ix_list (pv 0) pe_int (fun _ _ => rfl)) pa_nil)) pe_int) pe_int)) pa_nil)) (pv 1)))))))), ?_⟩
    obtain ⟨ns, i, d, s, c, hg, lg, hl, i0, i1, d0, s0, s1⟩ := id B
    have up : ∀ (i' d' s' c' : Int) (H1 : Hp), Kp g H H1 → H1 l = some (.lst (ns.map V.int)) → Kp g H (upd H1 g (.lst [.ref l, .int i', .int d', .int s', .int c'])) ∧ upd H1 g (.lst [.ref l, .int i', .int d', .int s', .int c']) l = some (.lst (ns.map V.int)) :=
      fun i' d' s' c' H1 r q => ⟨r.bag, by rw [upd_ne lg]; exact q⟩
    -- b[4] = b[4] + 1
    refine ⟨_, rfl, _, _, _, _, rfl, rfl, SqL.of hg, rfl, _, _, rfl, rfl, _, rfl, g, _, _, 4, rfl, rfl, hg, rfl, ?_⟩
    obtain ⟨K1, L1⟩ := up i d s (c + 1) H (Kp.refl g H) hl
    -- the joined ways
    refine ⟨fun σ H' => ∃ (i' d' s' : Int) (v w : Option V), σ = [some (.ref g), some (.int n), v, w] ∧ H' g = some (.lst [.ref l, .int i', .int d', .int s', .int (c + 1)]) ∧ Kp g H H' ∧ H' l = some (.lst (ns.map V.int)) ∧ 0 ≤ i' ∧ i' ≤ ns.length ∧ 0 ≤ d' ∧ 0 ≤ s' ∧ s' < 2147483399, ?_, ?_⟩
    · refine ⟨_, rfl, _, _, _, _, rfl, rfl, SqL.of upd_same, rfl, rfl, _, rfl, ?_⟩
      refine ite_eq (fun e1 => ?_) (fun e1 => ?_)
      · refine ⟨_, rfl, _, _, _, _, rfl, rfl, SqL.of upd_same, rfl, _, rfl, _, _, _, _, rfl, rfl, SqL.of upd_same, rfl, _, _, rfl, .inl ⟨_, SqL.of L1, rfl⟩, _, _, rfl, rfl, _, rfl, ?_⟩
        refine ite_d (fun e2 => ?_) (fun e2 => ?_)
        · rw [List.length_map] at e2
          obtain ⟨j, rfl⟩ : ∃ j : Nat, i = (j : Int) := ⟨i.toNat, by omega⟩
          have hj : j < ns.length := by omega
          have hx : (ns.map V.int)[j]? = some (V.int ns[j]) := by rw [List.getElem?_map, List.getElem?_eq_getElem hj]; rfl
          -- item = b[0][b[1]]; b[1] = b[1] + 1
          refine ⟨_, rfl, _, _, _, _, rfl, rfl, SqL.of upd_same, rfl, _, rfl, _, _, _, _, rfl, rfl, SqL.of upd_same, rfl, _, _, _, _, rfl, rfl, SqL.of L1, atI_nat hx, ?_⟩
          refine ⟨_, rfl, _, _, _, _, rfl, rfl, SqL.of upd_same, rfl, _, _, rfl, rfl, _, rfl, g, _, _, 1, rfl, rfl, upd_same, rfl, ?_⟩
          obtain ⟨K2, L2⟩ := up ((j : Int) + 1) d s (c + 1) _ K1 L1
          refine ⟨_, rfl, _, _, rfl, rfl, ⟨by decide, by decide, by decide⟩, _, _, rfl, rfl, _, rfl, ?_⟩
          refine ite_d (fun e3 => ?_) (fun e3 => ?_)
          · refine ⟨_, rfl, _, rfl, g, _, _, 2, rfl, rfl, upd_same, rfl, ?_⟩
            obtain ⟨K3, L3⟩ := up ((j : Int) + 1) ns[j] s (c + 1) _ K2 L2
            exact ⟨_, _, _, _, _, rfl, upd_same, K3, L3, by omega, by omega, Int.le_trans (by decide) e3, s0, s1⟩
          · refine ⟨_, rfl, _, _, _, _, rfl, rfl, SqL.of upd_same, rfl, _, _, rfl, rfl, .inr ⟨by decide, by decide⟩, _, rfl, .inl ⟨_, rfl, _, _, rfl, rfl, (by show (0 : Int) < 2147483549; decide), _, _, rfl, rfl, .inr ⟨by decide, by decide⟩, _, _, rfl, rfl, _, _, rfl, rfl, .inl ⟨_, rfl, _, _, rfl, rfl, (by show (0 : Int) < 2147483399; decide), ?_⟩⟩⟩
            refine ⟨_, rfl, g, _, _, 3, rfl, rfl, upd_same, rfl, ?_⟩
            obtain ⟨K3, L3⟩ := up ((j : Int) + 1) d ((s * 69621 + ns[j] % 2147483549 * 30103 + 89) % 2147483399) (c + 1) _ K2 L2
            exact ⟨_, _, _, _, _, rfl, upd_same, K3, L3, by omega, by omega, d0, Int.emod_nonneg _ (by decide), Int.emod_lt_of_pos _ (by decide)⟩
        · exact ⟨_, _, _, _, _, rfl, upd_same, K1, L1, i0, i1, d0, s0, s1⟩
      · refine iteF ?_
        exact ⟨_, _, _, _, _, rfl, upd_same, K1, L1, i0, i1, d0, s0, s1⟩
    · rintro σ H' ⟨i', d', s', v, w, rfl, hg', K1, L1, i0, i1, d0, s0, s1⟩
      have bag : ∀ (d'' s'' : Int), 0 ≤ d'' → 0 ≤ s'' → s'' < 2147483399 → Bag l (upd H' g (.lst [.ref l, .int i', .int d'', .int s'', .int (c + 1)])) g := fun d'' s'' h1 h2 h3 =>
        ⟨ns, i', d'', s'', c + 1, upd_same, lg, by rw [upd_ne lg]; exact L1, i0, i1, h1, h2, h3⟩
      refine ⟨_, rfl, _, _, _, _, rfl, rfl, SqL.of hg', rfl, _, _, rfl, rfl, _, rfl, ?_⟩
      refine ite_d (fun e1 => ?_) (fun e1 => ?_)
      · refine ⟨_, rfl, _, _, _, _, rfl, rfl, SqL.of hg', rfl, .inl ⟨_, rfl, _, rfl, _, _, rfl, rfl, (by omega), ?_⟩⟩
        refine ⟨_, rfl, _, _, _, _, rfl, rfl, SqL.of hg', rfl, _, rfl, _, _, rfl, rfl, ⟨by omega, by omega⟩, _, rfl, g, _, _, 2, rfl, rfl, hg', rfl, _, rfl, ?_⟩
        refine k _ _ (fmod_nn _ n0) (fmod_lt _ n0) ⟨B, K1.bag, bag _ s' ?_ s0 s1⟩
        rw [Int.fdiv_eq_ediv_of_nonneg _ (Int.le_of_lt n0)]
        exact Int.ediv_nonneg d0 (Int.le_of_lt n0)
      · refine ⟨_, rfl, _, _, _, _, rfl, rfl, SqL.of hg', rfl, _, _, rfl, rfl, ⟨by decide, by decide, by omega⟩, _, rfl, _, _, _, _, rfl, rfl, SqL.of hg', rfl, _, _, rfl, rfl, .inr ⟨by decide, by decide⟩, _, _, rfl, rfl, _, _, rfl, rfl, .inl ⟨_, rfl, _, _, rfl, rfl, (by show (0 : Int) < 2147483399; decide), ?_⟩⟩
        refine ⟨_, rfl, g, _, _, 3, rfl, rfl, hg', rfl, ?_⟩
        refine ⟨_, rfl, _, _, _, _, rfl, rfl, SqL.of upd_same, rfl, _, _, rfl, rfl, ⟨by decide, by decide⟩, _, rfl, _, _, _, _, rfl, rfl, SqL.of upd_same, rfl, .inl ⟨_, rfl, _, _, rfl, rfl, (by show (0 : Int) < 7901; decide), _, _, rfl, rfl, .inr ⟨by decide, by decide⟩, _, _, rfl, rfl, .inl ⟨_, rfl, _, rfl, _, _, rfl, rfl, (by omega), ?_⟩⟩⟩
        exact k _ _ (fmod_nn _ n0) (fmod_lt _ n0) ⟨B, K1.bag, bag d' _ d0 (Int.emod_nonneg _ (by decide)) (Int.emod_lt_of_pos _ (by decide))⟩
end k00
namespace k00
open PySem L2 LC RM
inductive Src (K : PySem.W.Frag) (g : Addr) (H : Hp) : V → (V → Prop) → Prop where
  | lst {a : Addr} {xs : List V} (h : SqL K H a xs) (n : a ≠ g) (h0 : 0 < xs.length) (h1 : xs.length ≤ 1000000) : Src K g H (.ref a) fun x => x ∈ xs
  | tup {a : Addr} {xs : List V} (h : SqT K H a xs) (n : a ≠ g) (h0 : 0 < xs.length) (h1 : xs.length ≤ 1000000) : Src K g H (.ref a) fun x => x ∈ xs
  | str {z : Str} (h0 : 0 < z.length) (h1 : z.length ≤ 1000000) : Src K g H (.str z) fun x => ∃ c ∈ z.cps.toList, x = .str ⟨#[c]⟩
def spof (K : PySem.W.Frag) : Sp := fun vs H Q _ => ∃ (g l : Addr) (t : V) (F : V → Prop), vs = [.ref g, t] ∧ Bag l H g ∧ Src K g H t F ∧ ∀ x H', F x → Ok g l H H' → Q x H'
theorem ok_of {P : Program} {w : World} {K : PySem.W.Frag} {mg : Str → Option Value} {base : Heap} {f : Addr} {fd : FuncData} (D : Def K mg "_law_of" sof Pof f fd) (T : Txt K mg) {fdraw : Addr} {fddraw : FuncData} (Ddraw : Def K mg "_law_draw" sdraw Pdraw fdraw fddraw) (Gdraw : FnOk P w K mg base CX0 1 fdraw fddraw Pdraw (spdraw)) :
    FnOk P w K mg base CX0 2 f fd Pof (spof K) := by
  refine D.F.ok scof (fun vs H Q E h => ?_) (fun cdv A outer s H vs Q E hr h => ?_)
  · obtain ⟨g, l, t, F, rfl, B, S, k⟩ := h
    rfl
  · obtain ⟨g, l, t, F, rfl, B, S, k⟩ := h
    have hrdraw : Room 1 _ := hr.mono (by decide)
    refine ⟨_, (pss_one (ps_ret (pe_ix ix_seq (pv 1) (pe_call Gdraw hrdraw rfl Ddraw.g Ddraw.F.kp Ddraw.b .nil pass0 (pa_cons (pv 0) (pa_cons (pe_callB call_len (by rfl) T.n_len PySem.boot_len (pa_cons (pv 1) pa_nil)) pa_nil))) (fun _ _ => rfl)))), ?_⟩
    cases S with
    | @lst a xs h n h0 h1 =>
      refine ⟨_, rfl, _, rfl, _, rfl, _, _, rfl, .inl ⟨xs, h, rfl⟩, g, l, _, rfl, B, by omega, by omega, fun d H' d0 d1 r => ?_⟩
      obtain ⟨j, rfl⟩ : ∃ j : Nat, d = (j : Int) := ⟨d.toNat, by omega⟩
      have hj : j < xs.length := by omega
      exact .inl ⟨_, _, _, _, rfl, rfl, SqL.kp r.kp n h, atI_nat (List.getElem?_eq_getElem hj), k _ _ (List.getElem_mem hj) r⟩
    | @tup a xs h n h0 h1 =>
      refine ⟨_, rfl, _, rfl, _, rfl, _, _, rfl, .inr ⟨xs, h, rfl⟩, g, l, _, rfl, B, by omega, by omega, fun d H' d0 d1 r => ?_⟩
      obtain ⟨j, rfl⟩ : ∃ j : Nat, d = (j : Int) := ⟨d.toNat, by omega⟩
      have hj : j < xs.length := by omega
      exact .inr (.inl ⟨_, _, _, _, rfl, rfl, SqT.kp r.kp n h, atI_nat (List.getElem?_eq_getElem hj), k _ _ (List.getElem_mem hj) r⟩)
    | @str z h0 h1 =>
      have hz : z.length ≤ sizeLine := Nat.le_trans h1 (by decide)
      refine ⟨_, rfl, _, rfl, _, rfl, _, _, rfl, ⟨hz, rfl⟩, g, l, _, rfl, B, by omega, by omega, fun d H' d0 d1 r => ?_⟩
      obtain ⟨j, rfl⟩ : ∃ j : Nat, d = (j : Int) := ⟨d.toNat, by omega⟩
      have hj : j < z.cps.toList.length := by
        have e : z.cps.toList.length = z.length := rfl
        omega
      exact .inr (.inr ⟨_, _, _, rfl, rfl, hz, atI_nat (List.getElem?_eq_getElem hj), k _ _ ⟨_, List.getElem_mem hj, rfl⟩ r⟩)
/-- one of the things of a new list -/
theorem of_disp {K : PySem.W.Frag} {g l p : Addr} {H0 H : Hp} {xs : List V} {Q : VK} {E : XK} (R : Ok g l H0 H) (hp : H p = none) (h0 : 0 < xs.length) (h1 : xs.length ≤ 1000000) (k : ∀ x H', x ∈ xs → Kp g H H' → Ok g l H0 H' → Q x H') :
    spof K [.ref g, .ref p] (upd H p (.lst xs)) Q E := by
  refine ⟨g, l, .ref p, _, rfl, (R.new hp).bag, .lst (SqL.of upd_same) (R.bag.ne hp).1 h0 h1, fun x H' hx r => ?_⟩
  exact k x H' hx ((Ok.new (Ok.refl R.bag) hp).kp.trans r.kp) ((R.new hp).trans r)
end k00
namespace k00
open PySem L2 LC RM
def splike (n : Nat) : Sp := fun vs H Q _ => ∃ (u v : V) (m : Nat), vs = [u, v] ∧ m < n ∧ m ≤ 50 ∧ Lq H m u v ∧ ∀ H', Same H H' → Q (.bl true) H'
theorem no_like {vs : List V} {H : Hp} {Q : VK} {E : XK} (h : splike 0 vs H Q E) : False := by
  obtain ⟨_, _, _, _, h, _⟩ := h
  exact Nat.not_lt_zero _ h

theorem step_like {P : Program} {w : World} {K : PySem.W.Frag} {mg : Str → Option Value} {base : Heap} {f : Addr} {fd : FuncData} (D : Def K mg "_law_like" slike Plike f fd) (T : Txt K mg) {n : Nat} (Glike : FnOk P w K mg base CX0 (n + 0) f fd Plike (splike n)) :
    FnOk P w K mg base CX0 (n + 1) f fd Plike (splike (n + 1)) := by
  refine D.F.ok sclike (fun vs H Q E h => ?_) (fun cdv A outer s H vs Q E hr h => ?_)
  · obtain ⟨u, v, m, rfl, hm, hm2, hl, k⟩ := h
    rfl
  · obtain ⟨u, v, m, rfl, hm, hm2, hl, k⟩ := h
    have Dlike := D
    have hrlike : Room (n + 0) _ := hr
    refine ⟨_, (pss_cons (ps_if (pt_val (pe_callB call_isiT (by rfl) T.n_isinstance (by decide +kernel) (pa_cons (pv 1) (pa_cons (pe_tup (pa_cons (pe_ty "list" (by rfl) T.n_list (by decide +kernel)) (pa_cons (pe_ty "tuple" (by rfl) T.n_tuple (by decide +kernel)) pa_nil))) pa_nil)))) (pss_cons (ps_if (PW.pt (pw_or (pt_cmpR op_ne (pe_callB call_isi (by rfl) T.n_isinstance (by decide +kernel) (pa_cons (pv 0) (pa_cons (pe_ty "list" (by rfl) T.n_list (by decide +kernel)) pa_nil))) (pe_callB call_isi (by rfl) T.n_isinstance (by decide +kernel) (pa_cons (pv 1) (pa_cons (pe_ty "list" (by rfl) T.n_list (by decide +kernel)) pa_nil))) (nomark _)) (pw_or1 (pt_cmpR op_ne (pe_callB call_isi (by rfl) T.n_isinstance (by decide +kernel) (pa_cons (pv 0) (pa_cons (pe_ty "tuple" (by rfl) T.n_tuple (by decide +kernel)) pa_nil))) (pe_callB call_isi (by rfl) T.n_isinstance (by decide +kernel) (pa_cons (pv 1) (pa_cons (pe_ty "tuple" (by rfl) T.n_tuple (by decide +kernel)) pa_nil))) (nomark _))))) (pss_one (ps_ret pe_bl)) pss_nil)
        (pss_one (ps_ret (pe_and (pe_cmpR op_eq (pe_callB call_len (by rfl) T.n_len PySem.boot_len (pa_cons (pv 0) pa_nil)) (pe_callB call_len (by rfl) T.n_len PySem.boot_len (pa_cons (pv 1) pa_nil)) (nomark _)) (pe_one (pe_callB (cr_all rfl) (by rfl) T.n_all (by decide +kernel) (pa_cons (pe_lc (own := [("_law_a", 2), ("_law_b", 3)]) (g := gTup _ 2 (gCons (gName 2) (gCons (gName 3) gNil))) (tt := tYes) rfl sclike.nd (RZ.pi_zipA (by rfl) T.n_zip (pa_cons (pv 0) (pa_cons (pv 1) pa_nil))) (blkOk_by (own := [("_law_a", 2), ("_law_b", 3)]) (N := Nmlike) (sc := defScope slike) (by decide +kernel)) (fun _ _ _ _ _ => by exact (pg_tup rfl (pgs_cons (pg_name (i := 2) sclike.nd rfl (Or.inl rfl)) (pgs_cons (pg_name (i := 3) sclike.nd rfl (Or.inl rfl)) pgs_nil)))) (fun _ _ _ _ _ => pts_nil) (fun _ _ _ _ _ => (pe_call Glike hrlike rfl Dlike.g Dlike.F.kp Dlike.b .nil pass0 (pa_cons (pv 2) (pa_cons (pv 3) pa_nil))))) pa_nil))))))) pss_nil)
        (pss_cons (ps_if (PW.pt (pw_or (pt_cmpR op_isN (pv 1) pe_non (nomark _)) (pw_or1 (pt_cmpR op_isN (pv 0) pe_non (nomark _))))) (pss_one (ps_ret (pe_and (pe_cmpR op_isN (pv 1) pe_non (nomark _)) (pe_one (pe_cmpR op_isN (pv 0) pe_non (nomark _)))))) pss_nil)
        (pss_cons (ps_if (PW.pt (pw_or (pt_val (pe_callB call_isiT (by rfl) T.n_isinstance (by decide +kernel) (pa_cons (pv 0) (pa_cons (pe_tup (pa_cons (pe_ty "list" (by rfl) T.n_list (by decide +kernel)) (pa_cons (pe_ty "tuple" (by rfl) T.n_tuple (by decide +kernel)) pa_nil))) pa_nil)))) (pw_or1 (pt_cmpR op_ne (pe_callB call_isi (by rfl) T.n_isinstance (by decide +kernel) (pa_cons (pv 0) (pa_cons (pe_ty "bool" (by rfl) T.n_bool (by decide +kernel)) pa_nil))) (pe_callB call_isi (by rfl) T.n_isinstance (by decide +kernel) (pa_cons (pv 1) (pa_cons (pe_ty "bool" (by rfl) T.n_bool (by decide +kernel)) pa_nil))) (nomark _))))) (pss_one (ps_ret pe_bl)) pss_nil)
        (pss_cons (ps_if (PW.pt (pw_or (pt_cmpR op_ne (pe_callB call_isi (by rfl) T.n_isinstance (by decide +kernel) (pa_cons (pv 0) (pa_cons (pe_ty "str" (by rfl) T.n_str (by decide +kernel)) pa_nil))) (pe_callB call_isi (by rfl) T.n_isinstance (by decide +kernel) (pa_cons (pv 1) (pa_cons (pe_ty "str" (by rfl) T.n_str (by decide +kernel)) pa_nil))) (nomark _)) (pw_or1 (pt_cmpR op_ne (pe_callB call_isi (by rfl) T.n_isinstance (by decide +kernel) (pa_cons (pv 0) (pa_cons (pe_ty "int" (by rfl) T.n_int (by decide +kernel)) pa_nil))) (pe_callB call_isi (by rfl) T.n_isinstance (by decide +kernel) (pa_cons (pv 1) (pa_cons (pe_ty "int" (by rfl) T.n_int (by decide +kernel)) pa_nil))) (nomark _))))) (pss_one (ps_ret pe_bl)) pss_nil)
        (pss_cons (ps_if (pt_cmpR op_ne (pe_callB call_isi (by rfl) T.n_isinstance (by decide +kernel) (pa_cons (pv 0) (pa_cons (pe_ty "dict" (by rfl) T.n_dict (by decide +kernel)) pa_nil))) (pe_callB call_isi (by rfl) T.n_isinstance (by decide +kernel) (pa_cons (pv 1) (pa_cons (pe_ty "dict" (by rfl) T.n_dict (by decide +kernel)) pa_nil))) (nomark _)) (pss_one (ps_ret pe_bl)) pss_nil)
        (pss_one (ps_ret (pe_callTy call_bool1 (by rfl) T.n_bool (by decide +kernel) (pa_cons (pe_cmpR (op_eqD hr.units) (pv 0) (pv 1) (nomark _)) pa_nil))))))))), ?_⟩
    rcases hl.cases with ⟨rfl, hs⟩ | ⟨p, q, ks, ls, rfl, rfl, hp, hq, hok⟩ | ⟨j, rfl, bb, p, q, xs, ys, rfl, rfl, hp, hq, hn, hz, hi⟩
    · cases u with
      | int c =>
        refine ⟨_, rfl, (by show 2 ≤ sizeLine; decide), fun t1 ht1 => ?_⟩
        have s1 := same_new (o := .tup [.ty "list", .ty "tuple"]) ht1
        refine ⟨_, t1, _, _, _, false, rfl, upd_same, .cons (.ty _) (.cons (.ty _) .nil), .base (.int c), kLT_int, _, rfl, iteF ?_⟩
        generalize upd H t1 (.tup [.ty "list", .ty "tuple"]) = H1 at s1 ⊢
        refine ⟨_, rfl, rfl, _, rfl, ite_d (fun h => by cases h) (fun _ => ⟨_, rfl, rfl, _, rfl, ite_d (fun h => by cases h) (fun _ => ?_)⟩)⟩
        refine ⟨_, rfl, (by show 2 ≤ sizeLine; decide), fun t2 ht2 => ?_⟩
        have s2 := s1.trans (same_new (o := .tup [.ty "list", .ty "tuple"]) ht2)
        refine ⟨_, t2, _, _, _, false, rfl, upd_same, .cons (.ty _) (.cons (.ty _) .nil), .base (.int c), kLT_int, _, rfl, iteF ?_⟩
        generalize upd H1 t2 (.tup [.ty "list", .ty "tuple"]) = H2 at s2 ⊢
        refine ⟨_, rfl, _, _, _, _, _, rfl, .ty _, .base (.int c), kit_ty (show kitB "int" "bool" = some false by decide +kernel), _, rfl, _, _, _, _, _, rfl, .ty _, .base (.int c), kit_ty (show kitB "int" "bool" = some false by decide +kernel), rfl, _, rfl, iteF ?_⟩
        refine ⟨_, rfl, _, _, _, _, _, rfl, .ty _, .base (.int c), kit_ty (show kitB "int" "str" = some false by decide +kernel), _, rfl, _, _, _, _, _, rfl, .ty _, .base (.int c), kit_ty (show kitB "int" "str" = some false by decide +kernel), rfl, _, rfl, iteF ?_⟩
        refine ⟨_, rfl, _, _, _, _, _, rfl, .ty _, .base (.int c), kit_ty (show kitB "int" "int" = some true by decide +kernel), _, rfl, _, _, _, _, _, rfl, .ty _, .base (.int c), kit_ty (show kitB "int" "int" = some true by decide +kernel), rfl, _, rfl, iteF ?_⟩
        refine ⟨_, rfl, _, _, _, _, _, rfl, .ty _, .base (.int c), kit_ty (show kitB "int" "dict" = some false by decide +kernel), _, rfl, _, _, _, _, _, rfl, .ty _, .base (.int c), kit_ty (show kitB "int" "dict" = some false by decide +kernel), rfl, _, rfl, iteF ?_⟩
        refine ⟨_, rfl, _, rfl, .inl ⟨rfl, .inr ⟨_, rfl, ?_⟩⟩⟩
        rw [decide_eq_true rfl]
        exact k H2 s2
      | bl c =>
        refine ⟨_, rfl, (by show 2 ≤ sizeLine; decide), fun t1 ht1 => ?_⟩
        have s1 := same_new (o := .tup [.ty "list", .ty "tuple"]) ht1
        refine ⟨_, t1, _, _, _, false, rfl, upd_same, .cons (.ty _) (.cons (.ty _) .nil), .base (.bl c), kLT_bool, _, rfl, iteF ?_⟩
        generalize upd H t1 (.tup [.ty "list", .ty "tuple"]) = H1 at s1 ⊢
        refine ⟨_, rfl, rfl, _, rfl, ite_d (fun h => by cases h) (fun _ => ⟨_, rfl, rfl, _, rfl, ite_d (fun h => by cases h) (fun _ => ?_)⟩)⟩
        refine ⟨_, rfl, (by show 2 ≤ sizeLine; decide), fun t2 ht2 => ?_⟩
        have s2 := s1.trans (same_new (o := .tup [.ty "list", .ty "tuple"]) ht2)
        refine ⟨_, t2, _, _, _, false, rfl, upd_same, .cons (.ty _) (.cons (.ty _) .nil), .base (.bl c), kLT_bool, _, rfl, iteF ?_⟩
        generalize upd H1 t2 (.tup [.ty "list", .ty "tuple"]) = H2 at s2 ⊢
        refine ⟨_, rfl, _, _, _, _, _, rfl, .ty _, .base (.bl c), kit_ty (show kitB "bool" "bool" = some true by decide +kernel), _, rfl, _, _, _, _, _, rfl, .ty _, .base (.bl c), kit_ty (show kitB "bool" "bool" = some true by decide +kernel), rfl, _, rfl, iteF ?_⟩
        refine ⟨_, rfl, _, _, _, _, _, rfl, .ty _, .base (.bl c), kit_ty (show kitB "bool" "str" = some false by decide +kernel), _, rfl, _, _, _, _, _, rfl, .ty _, .base (.bl c), kit_ty (show kitB "bool" "str" = some false by decide +kernel), rfl, _, rfl, iteF ?_⟩
        refine ⟨_, rfl, _, _, _, _, _, rfl, .ty _, .base (.bl c), kit_ty (show kitB "bool" "int" = some true by decide +kernel), _, rfl, _, _, _, _, _, rfl, .ty _, .base (.bl c), kit_ty (show kitB "bool" "int" = some true by decide +kernel), rfl, _, rfl, iteF ?_⟩
        refine ⟨_, rfl, _, _, _, _, _, rfl, .ty _, .base (.bl c), kit_ty (show kitB "bool" "dict" = some false by decide +kernel), _, rfl, _, _, _, _, _, rfl, .ty _, .base (.bl c), kit_ty (show kitB "bool" "dict" = some false by decide +kernel), rfl, _, rfl, iteF ?_⟩
        refine ⟨_, rfl, _, rfl, .inl ⟨rfl, .inr ⟨_, rfl, ?_⟩⟩⟩
        rw [decide_eq_true rfl]
        exact k H2 s2
      | str c =>
        refine ⟨_, rfl, (by show 2 ≤ sizeLine; decide), fun t1 ht1 => ?_⟩
        have s1 := same_new (o := .tup [.ty "list", .ty "tuple"]) ht1
        refine ⟨_, t1, _, _, _, false, rfl, upd_same, .cons (.ty _) (.cons (.ty _) .nil), .base (.str c), kLT_str, _, rfl, iteF ?_⟩
        generalize upd H t1 (.tup [.ty "list", .ty "tuple"]) = H1 at s1 ⊢
        refine ⟨_, rfl, rfl, _, rfl, ite_d (fun h => by cases h) (fun _ => ⟨_, rfl, rfl, _, rfl, ite_d (fun h => by cases h) (fun _ => ?_)⟩)⟩
        refine ⟨_, rfl, (by show 2 ≤ sizeLine; decide), fun t2 ht2 => ?_⟩
        have s2 := s1.trans (same_new (o := .tup [.ty "list", .ty "tuple"]) ht2)
        refine ⟨_, t2, _, _, _, false, rfl, upd_same, .cons (.ty _) (.cons (.ty _) .nil), .base (.str c), kLT_str, _, rfl, iteF ?_⟩
        generalize upd H1 t2 (.tup [.ty "list", .ty "tuple"]) = H2 at s2 ⊢
        refine ⟨_, rfl, _, _, _, _, _, rfl, .ty _, .base (.str c), kit_ty (show kitB "str" "bool" = some false by decide +kernel), _, rfl, _, _, _, _, _, rfl, .ty _, .base (.str c), kit_ty (show kitB "str" "bool" = some false by decide +kernel), rfl, _, rfl, iteF ?_⟩
        refine ⟨_, rfl, _, _, _, _, _, rfl, .ty _, .base (.str c), kit_ty (show kitB "str" "str" = some true by decide +kernel), _, rfl, _, _, _, _, _, rfl, .ty _, .base (.str c), kit_ty (show kitB "str" "str" = some true by decide +kernel), rfl, _, rfl, iteF ?_⟩
        refine ⟨_, rfl, _, _, _, _, _, rfl, .ty _, .base (.str c), kit_ty (show kitB "str" "int" = some false by decide +kernel), _, rfl, _, _, _, _, _, rfl, .ty _, .base (.str c), kit_ty (show kitB "str" "int" = some false by decide +kernel), rfl, _, rfl, iteF ?_⟩
        refine ⟨_, rfl, _, _, _, _, _, rfl, .ty _, .base (.str c), kit_ty (show kitB "str" "dict" = some false by decide +kernel), _, rfl, _, _, _, _, _, rfl, .ty _, .base (.str c), kit_ty (show kitB "str" "dict" = some false by decide +kernel), rfl, _, rfl, iteF ?_⟩
        refine ⟨_, rfl, _, rfl, .inl ⟨rfl, .inr ⟨_, rfl, ?_⟩⟩⟩
        rw [decide_eq_true rfl]
        exact k H2 s2
      | non =>
        refine ⟨_, rfl, (by show 2 ≤ sizeLine; decide), fun t1 ht1 => ?_⟩
        have s1 := same_new (o := .tup [.ty "list", .ty "tuple"]) ht1
        refine ⟨_, t1, _, _, _, false, rfl, upd_same, .cons (.ty _) (.cons (.ty _) .nil), .base .non, kLT_non, _, rfl, iteF ?_⟩
        generalize upd H t1 (.tup [.ty "list", .ty "tuple"]) = H1 at s1 ⊢
        refine ⟨_, rfl, rfl, _, rfl, ite_d (fun _ => ⟨_, rfl, rfl, _, rfl, ite_d (fun _ => ⟨_, rfl, rfl, ?_⟩) (fun h => absurd rfl h)⟩) (fun h => absurd rfl h)⟩
        rw [decide_eq_true rfl]
        exact k H1 s1
      | _ => exact hs.elim
    · refine ⟨_, rfl, (by show 2 ≤ sizeLine; decide), fun t1 ht1 => ?_⟩
      have s1 := same_new (o := .tup [.ty "list", .ty "tuple"]) ht1
      refine ⟨_, t1, _, _, _, false, rfl, upd_same, .cons (.ty _) (.cons (.ty _) .nil), .base (.dK (by first | exact s1 _ _ hp | exact s1 _ _ hq)), kLT_dK, _, rfl, iteF ?_⟩
      have hp1 := s1 _ _ hp
      have hq1 := s1 _ _ hq
      generalize upd H t1 (.tup [.ty "list", .ty "tuple"]) = H1 at s1 hp1 hq1 ⊢
      refine ⟨_, rfl, rfl, _, rfl, ite_d (fun h => by cases h) (fun _ => ⟨_, rfl, rfl, _, rfl, ite_d (fun h => by cases h) (fun _ => ?_)⟩)⟩
      refine ⟨_, rfl, (by show 2 ≤ sizeLine; decide), fun t2 ht2 => ?_⟩
      have s2 := s1.trans (same_new (o := .tup [.ty "list", .ty "tuple"]) ht2)
      refine ⟨_, t2, _, _, _, false, rfl, upd_same, .cons (.ty _) (.cons (.ty _) .nil), .base (.dK (by first | exact s2 _ _ hp | exact s2 _ _ hq)), kLT_dK, _, rfl, iteF ?_⟩
      have hp2 := s2 _ _ hp
      have hq2 := s2 _ _ hq
      generalize upd H1 t2 (.tup [.ty "list", .ty "tuple"]) = H2 at s2 hp2 hq2 ⊢
      refine ⟨_, rfl, _, _, _, _, _, rfl, .ty _, .base (.dK (by first | exact hp2 | exact hq2)), kit_ty (show kitB "dict" "bool" = some false by decide +kernel), _, rfl, _, _, _, _, _, rfl, .ty _, .base (.dK (by first | exact hp2 | exact hq2)), kit_ty (show kitB "dict" "bool" = some false by decide +kernel), rfl, _, rfl, iteF ?_⟩
      refine ⟨_, rfl, _, _, _, _, _, rfl, .ty _, .base (.dK (by first | exact hp2 | exact hq2)), kit_ty (show kitB "dict" "str" = some false by decide +kernel), _, rfl, _, _, _, _, _, rfl, .ty _, .base (.dK (by first | exact hp2 | exact hq2)), kit_ty (show kitB "dict" "str" = some false by decide +kernel), rfl, _, rfl, iteF ?_⟩
      refine ⟨_, rfl, _, _, _, _, _, rfl, .ty _, .base (.dK (by first | exact hp2 | exact hq2)), kit_ty (show kitB "dict" "int" = some false by decide +kernel), _, rfl, _, _, _, _, _, rfl, .ty _, .base (.dK (by first | exact hp2 | exact hq2)), kit_ty (show kitB "dict" "int" = some false by decide +kernel), rfl, _, rfl, iteF ?_⟩
      refine ⟨_, rfl, _, _, _, _, _, rfl, .ty _, .base (.dK (by first | exact hp2 | exact hq2)), kit_ty (show kitB "dict" "dict" = some true by decide +kernel), _, rfl, _, _, _, _, _, rfl, .ty _, .base (.dK (by first | exact hp2 | exact hq2)), kit_ty (show kitB "dict" "dict" = some true by decide +kernel), rfl, _, rfl, iteF ?_⟩
      exact ⟨_, rfl, _, rfl, .inr ⟨m, by omega, (hok.same s2).eqB hp2 hq2, .inr ⟨_, rfl, k H2 s2⟩⟩⟩
    · cases bb with
      | true =>
        have hp : H p = some (.lst xs) := hp
        have hq : H q = some (.lst ys) := hq
        refine ⟨_, rfl, (by show 2 ≤ sizeLine; decide), fun t1 ht1 => ?_⟩
        have s1 := same_new (o := .tup [.ty "list", .ty "tuple"]) ht1
        have hp1 := s1 _ _ hp
        have hq1 := s1 _ _ hq
        refine ⟨_, t1, _, _, _, true, rfl, upd_same, .cons (.ty _) (.cons (.ty _) .nil), .base (.lst hq1), kLT_lst, _, rfl, iteT ?_⟩
        generalize upd H t1 (.tup [.ty "list", .ty "tuple"]) = H1 at s1 hp1 hq1 ⊢
        refine ⟨_, rfl, _, _, _, _, _, rfl, .ty _, .base (.lst hp1), kit_ty (show kitB "list" "list" = some true by decide +kernel), _, rfl, _, _, _, _, _, rfl, .ty _, .base (.lst hq1), kit_ty (show kitB "list" "list" = some true by decide +kernel), rfl, _, rfl, iteF ?_⟩
        refine ⟨_, rfl, _, _, _, _, _, rfl, .ty _, .base (.lst hp1), kit_ty (show kitB "list" "tuple" = some false by decide +kernel), _, rfl, _, _, _, _, _, rfl, .ty _, .base (.lst hq1), kit_ty (show kitB "list" "tuple" = some false by decide +kernel), rfl, _, rfl, iteF ?_⟩
        refine ⟨_, rfl, _, _, rfl, .inl ⟨_, SqL.of hp1, rfl⟩, _, rfl, _, _, rfl, .inl ⟨_, SqL.of hq1, rfl⟩, rfl, _, rfl, ite_d (fun _ => ?_) (fun h => absurd (by rw [hn]) h)⟩
        refine ⟨_, rfl, _, rfl, p, q, _, _, rfl, .inl ⟨SqL.of hp1, SqL.of hq1, fun D hD => ?_⟩⟩
        refine lc_it (walk_zip (K := K) (a := p) (b := q) (xs := xs) (ys := ys) (n := xs.length) (by rw [← hn, Nat.min_self])) (fun i H' => i ≤ xs.length ∧ Same H1 H' ∧ H' D = some (.lst ((List.replicate i true).map V.bl)))
          ⟨Nat.zero_le _, same_new hD, upd_same⟩ (fun i H' _ ⟨_, s, _⟩ => ⟨s.seq (SqL.of hp1), s.seq (SqL.of hq1)⟩) ?_ ?_
        · rintro i x H2 H3 hlt ⟨_, s2, h2⟩ ⟨T, x1, x2, rfl, hT, rfl, e1, e2⟩
          have nT : D ≠ T := ne_of_none h2 hT
          refine ⟨T, _, rfl, SqT.of upd_same, rfl, _, _, rfl, _, _, rfl, rfl, rfl, ?_⟩
          have s3 := same_new (o := .tup [x1, x2]) hT
          refine ⟨_, rfl, _, rfl, x1, x2, j, rfl, by omega, by omega, ((hi i x1 x2 e1 e2).same s1).same (s2.trans s3), fun H4 s4 => ⟨_, s4 _ _ (s3 _ _ h2), ?_, hlt, fun b o e => ?_, ?_⟩⟩
          · rw [List.length_map, List.length_replicate]
            exact Nat.lt_of_le_of_lt (Nat.le_trans (Nat.le_of_lt hlt) hz) (by decide)
          · rw [upd_ne (ne_of_none e hD)]
            exact s4 _ _ (s3 _ _ (s2 _ _ e))
          · rw [upd_same, List.replicate_succ', List.map_append]
            rfl
        · rintro H2 ⟨_, s2, h2⟩
          refine ⟨D, List.replicate xs.length true, rfl, SqL.of h2, ?_⟩
          have e : (List.replicate xs.length true).all id = true := by simp
          rw [e]
          exact k H2 (s1.trans s2)
      | false =>
        have hp : H p = some (.tup xs) := hp
        have hq : H q = some (.tup ys) := hq
        refine ⟨_, rfl, (by show 2 ≤ sizeLine; decide), fun t1 ht1 => ?_⟩
        have s1 := same_new (o := .tup [.ty "list", .ty "tuple"]) ht1
        have hp1 := s1 _ _ hp
        have hq1 := s1 _ _ hq
        refine ⟨_, t1, _, _, _, true, rfl, upd_same, .cons (.ty _) (.cons (.ty _) .nil), .base (.tup hq1), kLT_tup, _, rfl, iteT ?_⟩
        generalize upd H t1 (.tup [.ty "list", .ty "tuple"]) = H1 at s1 hp1 hq1 ⊢
        refine ⟨_, rfl, _, _, _, _, _, rfl, .ty _, .base (.tup hp1), kit_ty (show kitB "tuple" "list" = some false by decide +kernel), _, rfl, _, _, _, _, _, rfl, .ty _, .base (.tup hq1), kit_ty (show kitB "tuple" "list" = some false by decide +kernel), rfl, _, rfl, iteF ?_⟩
        refine ⟨_, rfl, _, _, _, _, _, rfl, .ty _, .base (.tup hp1), kit_ty (show kitB "tuple" "tuple" = some true by decide +kernel), _, rfl, _, _, _, _, _, rfl, .ty _, .base (.tup hq1), kit_ty (show kitB "tuple" "tuple" = some true by decide +kernel), rfl, _, rfl, iteF ?_⟩
        refine ⟨_, rfl, _, _, rfl, .inr ⟨_, SqT.of hp1, rfl⟩, _, rfl, _, _, rfl, .inr ⟨_, SqT.of hq1, rfl⟩, rfl, _, rfl, ite_d (fun _ => ?_) (fun h => absurd (by rw [hn]) h)⟩
        refine ⟨_, rfl, _, rfl, p, q, _, _, rfl, .inr ⟨SqT.of hp1, SqT.of hq1, fun D hD => ?_⟩⟩
        refine lc_it (walk_zipT (K := K) (a := p) (b := q) (xs := xs) (ys := ys) (n := xs.length) (by rw [← hn, Nat.min_self])) (fun i H' => i ≤ xs.length ∧ Same H1 H' ∧ H' D = some (.lst ((List.replicate i true).map V.bl)))
          ⟨Nat.zero_le _, same_new hD, upd_same⟩ (fun i H' _ ⟨_, s, _⟩ => ⟨sameT s (SqT.of hp1), sameT s (SqT.of hq1)⟩) ?_ ?_
        · rintro i x H2 H3 hlt ⟨_, s2, h2⟩ ⟨T, x1, x2, rfl, hT, rfl, e1, e2⟩
          have nT : D ≠ T := ne_of_none h2 hT
          refine ⟨T, _, rfl, SqT.of upd_same, rfl, _, _, rfl, _, _, rfl, rfl, rfl, ?_⟩
          have s3 := same_new (o := .tup [x1, x2]) hT
          refine ⟨_, rfl, _, rfl, x1, x2, j, rfl, by omega, by omega, ((hi i x1 x2 e1 e2).same s1).same (s2.trans s3), fun H4 s4 => ⟨_, s4 _ _ (s3 _ _ h2), ?_, hlt, fun b o e => ?_, ?_⟩⟩
          · rw [List.length_map, List.length_replicate]
            exact Nat.lt_of_le_of_lt (Nat.le_trans (Nat.le_of_lt hlt) hz) (by decide)
          · rw [upd_ne (ne_of_none e hD)]
            exact s4 _ _ (s3 _ _ (s2 _ _ e))
          · rw [upd_same, List.replicate_succ', List.map_append]
            rfl
        · rintro H2 ⟨_, s2, h2⟩
          refine ⟨D, List.replicate xs.length true, rfl, SqL.of h2, ?_⟩
          have e : (List.replicate xs.length true).all id = true := by simp
          rw [e]
          exact k H2 (s1.trans s2)
theorem ok_like {P : Program} {w : World} {K : PySem.W.Frag} {mg : Str → Option Value} {base : Heap} {f : Addr} {fd : FuncData} (D : Def K mg "_law_like" slike Plike f fd) (T : Txt K mg) :
    FnOk P w K mg base CX0 5 f fd Plike (splike 5) := by
  have go : ∀ n : Nat, FnOk P w K mg base CX0 (n + 0) f fd Plike (splike n) := fun n => by
    induction n with
    | zero => exact LC.fn_none fun vs H Q E h => no_like h
    | succ n ih => exact step_like D T ih
  exact go 5
end k00
namespace k00
open PySem L2 LC RM
def Wp (p : Str) : List Str :=
  if p ∈ (["InvalidNumber", "InvalidName", "InvalidRest", "InvalidRule", "InvalidParts", "InvalidDeed", "InvalidEvent", "Over"] : List Str) then (["value"] : List Str) else
  if p ∈ (["InvalidText"] : List Str) then (["text"] : List Str) else
  if p ∈ (["InvalidBorders", "InvalidPlace", "InvalidServer", "InvalidTree", "InvalidCustomer", "InvalidRoom", "InvalidRow", "InvalidCut", "Early", "NotPrompt", "Refused"] : List Str) then (["at"] : List Str) else
  if p ∈ (["BadTree", "NoElder"] : List Str) then (["place"] : List Str) else
  if p ∈ (["BadMoment"] : List Str) then (["moment"] : List Str) else
  if p ∈ (["WrongLetter"] : List Str) then (["letter"] : List Str) else
  if p ∈ (["Elsewhere"] : List Str) then (["room"] : List Str) else
  if p ∈ (["NotLacking"] : List Str) then (["ready"] : List Str) else
  if p ∈ (["UnknownName", "Fallen", "NotFallen"] : List Str) then (["name"] : List Str) else
  if p ∈ (["UnknownLoan"] : List Str) then (["number"] : List Str) else
  if p ∈ (["NoSuchLetter"] : List Str) then (["index"] : List Str) else
  if p = "BadReading" then (["server", "reading"] : List Str) else
  if p = "TooMany" then (["what", "count"] : List Str) else
  if p = "NotHeld" then (["place", "n"] : List Str) else
  if p = "UnknownLot" then (["place", "number"] : List Str) else
  ([] : List Str)

def spwords : Sp := fun vs H Q _ => ∃ p : Str, vs = [.str p] ∧ ∀ t H', Same H H' → H' t = some (.tup ((Wp p).map V.str)) → Q (.ref t) H'
theorem ok_words {P : Program} {w : World} {K : PySem.W.Frag} {mg : Str → Option Value} {base : Heap} {f : Addr} {fd : FuncData} (D : Def K mg "_law_words" swords Pwords f fd) (T : Txt K mg) :
    FnOk P w K mg base CX0 1 f fd Pwords (spwords) := by
  refine D.F.ok scwords (fun vs H Q E h => ?_) (fun cdv A outer s H vs Q E hr h => ?_)
  · obtain ⟨p, rfl, k⟩ := h
    rfl
  · obtain ⟨p, rfl, k⟩ := h
    refine ⟨_, (pss_cons (ps_if (pt_cmpR op_in_seq (pv 0) (pe_tup (pa_cons pe_str (pa_cons pe_str (pa_cons pe_str (pa_cons pe_str (pa_cons pe_str (pa_cons pe_str (pa_cons pe_str (pa_cons pe_str pa_nil))))))))) (by rfl)) (pss_one (ps_ret (pe_tup (pa_cons pe_str pa_nil)))) pss_nil)
        (pss_cons (ps_if (pt_cmpR op_in_seq (pv 0) (pe_tup (pa_cons pe_str pa_nil)) (by rfl)) (pss_one (ps_ret (pe_tup (pa_cons pe_str pa_nil)))) pss_nil)
        (pss_cons (ps_if (pt_cmpR op_in_seq (pv 0) (pe_tup (pa_cons pe_str (pa_cons pe_str (pa_cons pe_str (pa_cons pe_str (pa_cons pe_str (pa_cons pe_str (pa_cons pe_str (pa_cons pe_str (pa_cons pe_str (pa_cons pe_str (pa_cons pe_str pa_nil)))))))))))) (by rfl)) (pss_one (ps_ret (pe_tup (pa_cons pe_str pa_nil)))) pss_nil)
        (pss_cons (ps_if (pt_cmpR op_in_seq (pv 0) (pe_tup (pa_cons pe_str (pa_cons pe_str pa_nil))) (by rfl)) (pss_one (ps_ret (pe_tup (pa_cons pe_str pa_nil)))) pss_nil)
        (pss_cons (ps_if (pt_cmpR op_in_seq (pv 0) (pe_tup (pa_cons pe_str pa_nil)) (by rfl)) (pss_one (ps_ret (pe_tup (pa_cons pe_str pa_nil)))) pss_nil)
        (pss_cons (ps_if (pt_cmpR op_in_seq (pv 0) (pe_tup (pa_cons pe_str pa_nil)) (by rfl)) (pss_one (ps_ret (pe_tup (pa_cons pe_str pa_nil)))) pss_nil)
        (pss_cons (ps_if (pt_cmpR op_in_seq (pv 0) (pe_tup (pa_cons pe_str pa_nil)) (by rfl)) (pss_one (ps_ret (pe_tup (pa_cons pe_str pa_nil)))) pss_nil)
        (pss_cons (ps_if (pt_cmpR op_in_seq (pv 0) (pe_tup (pa_cons pe_str pa_nil)) (by rfl)) (pss_one (ps_ret (pe_tup (pa_cons pe_str pa_nil)))) pss_nil)
        (pss_cons (ps_if (pt_cmpR op_in_seq (pv 0) (pe_tup (pa_cons pe_str (pa_cons pe_str (pa_cons pe_str pa_nil)))) (by rfl)) (pss_one (ps_ret (pe_tup (pa_cons pe_str pa_nil)))) pss_nil)
        (pss_cons (ps_if (pt_cmpR op_in_seq (pv 0) (pe_tup (pa_cons pe_str pa_nil)) (by rfl)) (pss_one (ps_ret (pe_tup (pa_cons pe_str pa_nil)))) pss_nil)
        (pss_cons (ps_if (pt_cmpR op_in_seq (pv 0) (pe_tup (pa_cons pe_str pa_nil)) (by rfl)) (pss_one (ps_ret (pe_tup (pa_cons pe_str pa_nil)))) pss_nil)
        (pss_cons (ps_if (pt_cmpR op_eq (pv 0) pe_str (nomark _)) (pss_one (ps_ret (pe_tup (pa_cons pe_str (pa_cons pe_str pa_nil))))) pss_nil)
        (pss_cons (ps_if (pt_cmpR op_eq (pv 0) pe_str (nomark _)) (pss_one (ps_ret (pe_tup (pa_cons pe_str (pa_cons pe_str pa_nil))))) pss_nil)
        (pss_cons (ps_if (pt_cmpR op_eq (pv 0) pe_str (nomark _)) (pss_one (ps_ret (pe_tup (pa_cons pe_str (pa_cons pe_str pa_nil))))) pss_nil)
        (pss_cons (ps_if (pt_cmpR op_eq (pv 0) pe_str (nomark _)) (pss_one (ps_ret (pe_tup (pa_cons pe_str (pa_cons pe_str pa_nil))))) pss_nil)
        (pss_one (ps_ret (pe_tup pa_nil)))))))))))))))))), ?_⟩
    have s0 : Same H H := Same.refl H
    have k0 := k
    unfold Wp at k0
    refine ⟨_, rfl, (by show 8 ≤ sizeLine; decide), fun t0 ht0 => ⟨t0, (["InvalidNumber", "InvalidName", "InvalidRest", "InvalidRule", "InvalidParts", "InvalidDeed", "InvalidEvent", "Over"] : List Str).map V.str, rfl, .inr (SqT.of upd_same), rfl, flat_s _, _, rfl, ?_⟩⟩
    generalize hJ0 : upd H t0 _ = J0
    have s1 : Same H J0 := by rw [← hJ0]; exact s0.trans (same_new ht0)
    clear hJ0
    refine ite_in ["InvalidNumber", "InvalidName", "InvalidRest", "InvalidRule", "InvalidParts", "InvalidDeed", "InvalidEvent", "Over"] (fun e => ?_) (fun e => ?_)
    · exact ⟨(by show 1 ≤ sizeLine; decide), fun T hT => k0 T _ (s1.trans (same_new hT)) (by rw [if_pos e, upd_same]; rfl)⟩
    rw [if_neg e] at k0
    refine ⟨_, rfl, (by show 1 ≤ sizeLine; decide), fun t1 ht1 => ⟨t1, (["InvalidText"] : List Str).map V.str, rfl, .inr (SqT.of upd_same), rfl, flat_s _, _, rfl, ?_⟩⟩
    generalize hJ1 : upd J0 t1 _ = J1
    have s2 : Same H J1 := by rw [← hJ1]; exact s1.trans (same_new ht1)
    clear hJ1
    refine ite_in ["InvalidText"] (fun e => ?_) (fun e => ?_)
    · exact ⟨(by show 1 ≤ sizeLine; decide), fun T hT => k0 T _ (s2.trans (same_new hT)) (by rw [if_pos e, upd_same]; rfl)⟩
    rw [if_neg e] at k0
    refine ⟨_, rfl, (by show 11 ≤ sizeLine; decide), fun t2 ht2 => ⟨t2, (["InvalidBorders", "InvalidPlace", "InvalidServer", "InvalidTree", "InvalidCustomer", "InvalidRoom", "InvalidRow", "InvalidCut", "Early", "NotPrompt", "Refused"] : List Str).map V.str, rfl, .inr (SqT.of upd_same), rfl, flat_s _, _, rfl, ?_⟩⟩
    generalize hJ2 : upd J1 t2 _ = J2
    have s3 : Same H J2 := by rw [← hJ2]; exact s2.trans (same_new ht2)
    clear hJ2
    refine ite_in ["InvalidBorders", "InvalidPlace", "InvalidServer", "InvalidTree", "InvalidCustomer", "InvalidRoom", "InvalidRow", "InvalidCut", "Early", "NotPrompt", "Refused"] (fun e => ?_) (fun e => ?_)
    · exact ⟨(by show 1 ≤ sizeLine; decide), fun T hT => k0 T _ (s3.trans (same_new hT)) (by rw [if_pos e, upd_same]; rfl)⟩
    rw [if_neg e] at k0
    refine ⟨_, rfl, (by show 2 ≤ sizeLine; decide), fun t3 ht3 => ⟨t3, (["BadTree", "NoElder"] : List Str).map V.str, rfl, .inr (SqT.of upd_same), rfl, flat_s _, _, rfl, ?_⟩⟩
    generalize hJ3 : upd J2 t3 _ = J3
    have s4 : Same H J3 := by rw [← hJ3]; exact s3.trans (same_new ht3)
    clear hJ3
    refine ite_in ["BadTree", "NoElder"] (fun e => ?_) (fun e => ?_)
    · exact ⟨(by show 1 ≤ sizeLine; decide), fun T hT => k0 T _ (s4.trans (same_new hT)) (by rw [if_pos e, upd_same]; rfl)⟩
    rw [if_neg e] at k0
    refine ⟨_, rfl, (by show 1 ≤ sizeLine; decide), fun t4 ht4 => ⟨t4, (["BadMoment"] : List Str).map V.str, rfl, .inr (SqT.of upd_same), rfl, flat_s _, _, rfl, ?_⟩⟩
    generalize hJ4 : upd J3 t4 _ = J4
    have s5 : Same H J4 := by rw [← hJ4]; exact s4.trans (same_new ht4)
    clear hJ4
    refine ite_in ["BadMoment"] (fun e => ?_) (fun e => ?_)
    · exact ⟨(by show 1 ≤ sizeLine; decide), fun T hT => k0 T _ (s5.trans (same_new hT)) (by rw [if_pos e, upd_same]; rfl)⟩
    rw [if_neg e] at k0
    refine ⟨_, rfl, (by show 1 ≤ sizeLine; decide), fun t5 ht5 => ⟨t5, (["WrongLetter"] : List Str).map V.str, rfl, .inr (SqT.of upd_same), rfl, flat_s _, _, rfl, ?_⟩⟩
    generalize hJ5 : upd J4 t5 _ = J5
    have s6 : Same H J5 := by rw [← hJ5]; exact s5.trans (same_new ht5)
    clear hJ5
    refine ite_in ["WrongLetter"] (fun e => ?_) (fun e => ?_)
    · exact ⟨(by show 1 ≤ sizeLine; decide), fun T hT => k0 T _ (s6.trans (same_new hT)) (by rw [if_pos e, upd_same]; rfl)⟩
    rw [if_neg e] at k0
    refine ⟨_, rfl, (by show 1 ≤ sizeLine; decide), fun t6 ht6 => ⟨t6, (["Elsewhere"] : List Str).map V.str, rfl, .inr (SqT.of upd_same), rfl, flat_s _, _, rfl, ?_⟩⟩
    generalize hJ6 : upd J5 t6 _ = J6
    have s7 : Same H J6 := by rw [← hJ6]; exact s6.trans (same_new ht6)
    clear hJ6
    refine ite_in ["Elsewhere"] (fun e => ?_) (fun e => ?_)
    · exact ⟨(by show 1 ≤ sizeLine; decide), fun T hT => k0 T _ (s7.trans (same_new hT)) (by rw [if_pos e, upd_same]; rfl)⟩
    rw [if_neg e] at k0
    refine ⟨_, rfl, (by show 1 ≤ sizeLine; decide), fun t7 ht7 => ⟨t7, (["NotLacking"] : List Str).map V.str, rfl, .inr (SqT.of upd_same), rfl, flat_s _, _, rfl, ?_⟩⟩
    generalize hJ7 : upd J6 t7 _ = J7
    have s8 : Same H J7 := by rw [← hJ7]; exact s7.trans (same_new ht7)
    clear hJ7
    refine ite_in ["NotLacking"] (fun e => ?_) (fun e => ?_)
    · exact ⟨(by show 1 ≤ sizeLine; decide), fun T hT => k0 T _ (s8.trans (same_new hT)) (by rw [if_pos e, upd_same]; rfl)⟩
    rw [if_neg e] at k0
    refine ⟨_, rfl, (by show 3 ≤ sizeLine; decide), fun t8 ht8 => ⟨t8, (["UnknownName", "Fallen", "NotFallen"] : List Str).map V.str, rfl, .inr (SqT.of upd_same), rfl, flat_s _, _, rfl, ?_⟩⟩
    generalize hJ8 : upd J7 t8 _ = J8
    have s9 : Same H J8 := by rw [← hJ8]; exact s8.trans (same_new ht8)
    clear hJ8
    refine ite_in ["UnknownName", "Fallen", "NotFallen"] (fun e => ?_) (fun e => ?_)
    · exact ⟨(by show 1 ≤ sizeLine; decide), fun T hT => k0 T _ (s9.trans (same_new hT)) (by rw [if_pos e, upd_same]; rfl)⟩
    rw [if_neg e] at k0
    refine ⟨_, rfl, (by show 1 ≤ sizeLine; decide), fun t9 ht9 => ⟨t9, (["UnknownLoan"] : List Str).map V.str, rfl, .inr (SqT.of upd_same), rfl, flat_s _, _, rfl, ?_⟩⟩
    generalize hJ9 : upd J8 t9 _ = J9
    have s10 : Same H J9 := by rw [← hJ9]; exact s9.trans (same_new ht9)
    clear hJ9
    refine ite_in ["UnknownLoan"] (fun e => ?_) (fun e => ?_)
    · exact ⟨(by show 1 ≤ sizeLine; decide), fun T hT => k0 T _ (s10.trans (same_new hT)) (by rw [if_pos e, upd_same]; rfl)⟩
    rw [if_neg e] at k0
    refine ⟨_, rfl, (by show 1 ≤ sizeLine; decide), fun t10 ht10 => ⟨t10, (["NoSuchLetter"] : List Str).map V.str, rfl, .inr (SqT.of upd_same), rfl, flat_s _, _, rfl, ?_⟩⟩
    generalize hJ10 : upd J9 t10 _ = J10
    have s11 : Same H J10 := by rw [← hJ10]; exact s10.trans (same_new ht10)
    clear hJ10
    refine ite_in ["NoSuchLetter"] (fun e => ?_) (fun e => ?_)
    · exact ⟨(by show 1 ≤ sizeLine; decide), fun T hT => k0 T _ (s11.trans (same_new hT)) (by rw [if_pos e, upd_same]; rfl)⟩
    rw [if_neg e] at k0
    have s12 := s11
    refine ⟨_, rfl, rfl, _, rfl, ite_d (fun e => ?_) (fun e => ?_)⟩
    rotate_left
    have e : ¬ p = "BadReading" := fun z => e (congrArg V.str z)
    rotate_left
    have e : p = "BadReading" := V.str.inj e
    · exact ⟨(by show 2 ≤ sizeLine; decide), fun T hT => k0 T _ (s12.trans (same_new hT)) (by rw [if_pos e, upd_same]; rfl)⟩
    rw [if_neg e] at k0
    have s13 := s12
    refine ⟨_, rfl, rfl, _, rfl, ite_d (fun e => ?_) (fun e => ?_)⟩
    rotate_left
    have e : ¬ p = "TooMany" := fun z => e (congrArg V.str z)
    rotate_left
    have e : p = "TooMany" := V.str.inj e
    · exact ⟨(by show 2 ≤ sizeLine; decide), fun T hT => k0 T _ (s13.trans (same_new hT)) (by rw [if_pos e, upd_same]; rfl)⟩
    rw [if_neg e] at k0
    have s14 := s13
    refine ⟨_, rfl, rfl, _, rfl, ite_d (fun e => ?_) (fun e => ?_)⟩
    rotate_left
    have e : ¬ p = "NotHeld" := fun z => e (congrArg V.str z)
    rotate_left
    have e : p = "NotHeld" := V.str.inj e
    · exact ⟨(by show 2 ≤ sizeLine; decide), fun T hT => k0 T _ (s14.trans (same_new hT)) (by rw [if_pos e, upd_same]; rfl)⟩
    rw [if_neg e] at k0
    have s15 := s14
    refine ⟨_, rfl, rfl, _, rfl, ite_d (fun e => ?_) (fun e => ?_)⟩
    rotate_left
    have e : ¬ p = "UnknownLot" := fun z => e (congrArg V.str z)
    rotate_left
    have e : p = "UnknownLot" := V.str.inj e
    · exact ⟨(by show 2 ≤ sizeLine; decide), fun T hT => k0 T _ (s15.trans (same_new hT)) (by rw [if_pos e, upd_same]; rfl)⟩
    rw [if_neg e] at k0
    exact ⟨(by show 0 ≤ sizeLine; decide), fun T hT => k0 T _ (s15.trans (same_new hT)) upd_same⟩
end k00
namespace k00
open PySem L2 LC RM
def Dp (p : Str) : List Str :=
  if p ∈ (["UnknownName", "UnknownLot", "UnknownLoan", "NoSuchLetter"] : List Str) then ([p, "Missing", "LookupError"] : List Str) else
  if p ∈ (["Fallen", "NotFallen"] : List Str) then ([p, "NotNow", "RuntimeError"] : List Str) else
  ([p, "SureletError", "ValueError"] : List Str)

def spdue : Sp := fun vs H Q _ => ∃ p : Str, vs = [.str p] ∧ ∀ t H', Same H H' → H' t = some (.lst ((Dp p).map V.str)) → Q (.ref t) H'
theorem ok_due {P : Program} {w : World} {K : PySem.W.Frag} {mg : Str → Option Value} {base : Heap} {f : Addr} {fd : FuncData} (D : Def K mg "_law_due" sdue Pdue f fd) (T : Txt K mg) :
    FnOk P w K mg base CX0 1 f fd Pdue (spdue) := by
  refine D.F.ok scdue (fun vs H Q E h => ?_) (fun cdv A outer s H vs Q E hr h => ?_)
  · obtain ⟨p, rfl, k⟩ := h
    rfl
  · obtain ⟨p, rfl, k⟩ := h
    refine ⟨_, (pss_cons (ps_if (pt_cmpR op_in_seq (pv 0) (pe_tup (pa_cons pe_str (pa_cons pe_str (pa_cons pe_str (pa_cons pe_str pa_nil))))) (by rfl)) (pss_one (ps_ret (pe_lst (pa_cons (pv 0) (pa_cons pe_str (pa_cons pe_str pa_nil)))))) pss_nil)
        (pss_cons (ps_if (pt_cmpR op_in_seq (pv 0) (pe_tup (pa_cons pe_str (pa_cons pe_str pa_nil))) (by rfl)) (pss_one (ps_ret (pe_lst (pa_cons (pv 0) (pa_cons pe_str (pa_cons pe_str pa_nil)))))) pss_nil)
        (pss_one (ps_ret (pe_lst (pa_cons (pv 0) (pa_cons pe_str (pa_cons pe_str pa_nil)))))))), ?_⟩
    have s0 : Same H H := Same.refl H
    have k0 := k
    unfold Dp at k0
    refine ⟨_, rfl, (by show 4 ≤ sizeLine; decide), fun t0 ht0 => ⟨t0, (["UnknownName", "UnknownLot", "UnknownLoan", "NoSuchLetter"] : List Str).map V.str, rfl, .inr (SqT.of upd_same), rfl, flat_s _, _, rfl, ?_⟩⟩
    generalize hJ0 : upd H t0 _ = J0
    have s1 : Same H J0 := by rw [← hJ0]; exact s0.trans (same_new ht0)
    clear hJ0
    refine ite_in ["UnknownName", "UnknownLot", "UnknownLoan", "NoSuchLetter"] (fun e => ?_) (fun e => ?_)
    · exact ⟨_, rfl, (by show 3 ≤ sizeLine; decide), fun T hT => k0 T _ (s1.trans (same_new hT)) (by rw [if_pos e, upd_same]; rfl)⟩
    rw [if_neg e] at k0
    refine ⟨_, rfl, (by show 2 ≤ sizeLine; decide), fun t1 ht1 => ⟨t1, (["Fallen", "NotFallen"] : List Str).map V.str, rfl, .inr (SqT.of upd_same), rfl, flat_s _, _, rfl, ?_⟩⟩
    generalize hJ1 : upd J0 t1 _ = J1
    have s2 : Same H J1 := by rw [← hJ1]; exact s1.trans (same_new ht1)
    clear hJ1
    refine ite_in ["Fallen", "NotFallen"] (fun e => ?_) (fun e => ?_)
    · exact ⟨_, rfl, (by show 3 ≤ sizeLine; decide), fun T hT => k0 T _ (s2.trans (same_new hT)) (by rw [if_pos e, upd_same]; rfl)⟩
    rw [if_neg e] at k0
    exact ⟨_, rfl, (by show 3 ≤ sizeLine; decide), fun T hT => k0 T _ (s2.trans (same_new hT)) upd_same⟩
end k00
namespace k00
open PySem L2 LC RM
def Fp : List Str := ["InvalidNumber", "InvalidName", "InvalidRest", "InvalidRule", "InvalidParts", "InvalidDeed", "InvalidEvent", "Over", "InvalidText", "InvalidBorders", "InvalidPlace", "InvalidServer", "InvalidTree", "InvalidCustomer", "InvalidRoom", "InvalidRow"]

def spfirst (r : Ar) : Sp := fun vs H Q _ => ∃ (p : Str) (x : V) (m : Int), vs = [.str p, x, .int m] ∧ ∀ v H', (MkE r p [x] H H' v ∨ (v = .non ∧ H' = H ∧ p ∉ Fp)) → Q v H'
theorem ok_first {P : Program} {w : World} {K : PySem.W.Frag} {mg : Str → Option Value} {base : Heap} {f : Addr} {fd : FuncData} (D : Def K mg "_law_first" sfirst Pfirst f fd) (T : Txt K mg) {r : Ar} (EA : All P w K mg base r) :
    FnOk P w K mg base CX0 3 f fd Pfirst (spfirst r) := by
  refine D.F.ok scfirst (fun vs H Q E h => ?_) (fun cdv A outer s H vs Q E hr h => ?_)
  · obtain ⟨p, x, m, rfl, k⟩ := h
    rfl
  · obtain ⟨p, x, m, rfl, k⟩ := h
    have hrE : Room 2 _ := hr.mono (by decide)
    refine ⟨_, (pss_cons (ps_if (pt_cmpR op_eq (pv 0) pe_str (nomark _)) (pss_one (ps_ret (pe_ifExp (pt_cmpR op_lt (pv 2) pe_int (nomark _)) (LB.pe_err (EA.a0).ox (EA.a0).iC (EA.a0).tI (EA.a0).g hrE pass0 rfl (EA.a0).gC (EA.a0).b (by decide) (pa_cons (pv 1) pa_nil)) (LB.pe_errK0 (EA.a0).ox (EA.a0).iC (EA.a0).tI (EA.a0).g hrE pass0 rfl (EA.a0).gC (EA.a0).bk (pk_cons (pv 1) pk_nil))))) pss_nil)
        (pss_cons (ps_if (pt_cmpR op_eq (pv 0) pe_str (nomark _)) (pss_one (ps_ret (pe_ifExp (pt_cmpR op_lt (pv 2) pe_int (nomark _)) (LB.pe_err (EA.a1).ox (EA.a1).iC (EA.a1).tI (EA.a1).g hrE pass0 rfl (EA.a1).gC (EA.a1).b (by decide) (pa_cons (pv 1) pa_nil)) (LB.pe_errK0 (EA.a1).ox (EA.a1).iC (EA.a1).tI (EA.a1).g hrE pass0 rfl (EA.a1).gC (EA.a1).bk (pk_cons (pv 1) pk_nil))))) pss_nil)
        (pss_cons (ps_if (pt_cmpR op_eq (pv 0) pe_str (nomark _)) (pss_one (ps_ret (pe_ifExp (pt_cmpR op_lt (pv 2) pe_int (nomark _)) (LB.pe_err (EA.a4).ox (EA.a4).iC (EA.a4).tI (EA.a4).g hrE pass0 rfl (EA.a4).gC (EA.a4).b (by decide) (pa_cons (pv 1) pa_nil)) (LB.pe_errK0 (EA.a4).ox (EA.a4).iC (EA.a4).tI (EA.a4).g hrE pass0 rfl (EA.a4).gC (EA.a4).bk (pk_cons (pv 1) pk_nil))))) pss_nil)
        (pss_cons (ps_if (pt_cmpR op_eq (pv 0) pe_str (nomark _)) (pss_one (ps_ret (pe_ifExp (pt_cmpR op_lt (pv 2) pe_int (nomark _)) (LB.pe_err (EA.a5).ox (EA.a5).iC (EA.a5).tI (EA.a5).g hrE pass0 rfl (EA.a5).gC (EA.a5).b (by decide) (pa_cons (pv 1) pa_nil)) (LB.pe_errK0 (EA.a5).ox (EA.a5).iC (EA.a5).tI (EA.a5).g hrE pass0 rfl (EA.a5).gC (EA.a5).bk (pk_cons (pv 1) pk_nil))))) pss_nil)
        (pss_cons (ps_if (pt_cmpR op_eq (pv 0) pe_str (nomark _)) (pss_one (ps_ret (pe_ifExp (pt_cmpR op_lt (pv 2) pe_int (nomark _)) (LB.pe_err (EA.a12).ox (EA.a12).iC (EA.a12).tI (EA.a12).g hrE pass0 rfl (EA.a12).gC (EA.a12).b (by decide) (pa_cons (pv 1) pa_nil)) (LB.pe_errK0 (EA.a12).ox (EA.a12).iC (EA.a12).tI (EA.a12).g hrE pass0 rfl (EA.a12).gC (EA.a12).bk (pk_cons (pv 1) pk_nil))))) pss_nil)
        (pss_cons (ps_if (pt_cmpR op_eq (pv 0) pe_str (nomark _)) (pss_one (ps_ret (pe_ifExp (pt_cmpR op_lt (pv 2) pe_int (nomark _)) (LB.pe_err (EA.a14).ox (EA.a14).iC (EA.a14).tI (EA.a14).g hrE pass0 rfl (EA.a14).gC (EA.a14).b (by decide) (pa_cons (pv 1) pa_nil)) (LB.pe_errK0 (EA.a14).ox (EA.a14).iC (EA.a14).tI (EA.a14).g hrE pass0 rfl (EA.a14).gC (EA.a14).bk (pk_cons (pv 1) pk_nil))))) pss_nil)
        (pss_cons (ps_if (pt_cmpR op_eq (pv 0) pe_str (nomark _)) (pss_one (ps_ret (pe_ifExp (pt_cmpR op_lt (pv 2) pe_int (nomark _)) (LB.pe_err (EA.a15).ox (EA.a15).iC (EA.a15).tI (EA.a15).g hrE pass0 rfl (EA.a15).gC (EA.a15).b (by decide) (pa_cons (pv 1) pa_nil)) (LB.pe_errK0 (EA.a15).ox (EA.a15).iC (EA.a15).tI (EA.a15).g hrE pass0 rfl (EA.a15).gC (EA.a15).bk (pk_cons (pv 1) pk_nil))))) pss_nil)
        (pss_cons (ps_if (pt_cmpR op_eq (pv 0) pe_str (nomark _)) (pss_one (ps_ret (pe_ifExp (pt_cmpR op_lt (pv 2) pe_int (nomark _)) (LB.pe_err (EA.a20).ox (EA.a20).iC (EA.a20).tI (EA.a20).g hrE pass0 rfl (EA.a20).gC (EA.a20).b (by decide) (pa_cons (pv 1) pa_nil)) (LB.pe_errK0 (EA.a20).ox (EA.a20).iC (EA.a20).tI (EA.a20).g hrE pass0 rfl (EA.a20).gC (EA.a20).bk (pk_cons (pv 1) pk_nil))))) pss_nil)
        (pss_cons (ps_if (pt_cmpR op_eq (pv 0) pe_str (nomark _)) (pss_one (ps_ret (pe_ifExp (pt_cmpR op_lt (pv 2) pe_int (nomark _)) (LB.pe_err (EA.a2).ox (EA.a2).iC (EA.a2).tI (EA.a2).g hrE pass0 rfl (EA.a2).gC (EA.a2).b (by decide) (pa_cons (pv 1) pa_nil)) (LB.pe_errK0 (EA.a2).ox (EA.a2).iC (EA.a2).tI (EA.a2).g hrE pass0 rfl (EA.a2).gC (EA.a2).bk (pk_cons (pv 1) pk_nil))))) pss_nil)
        (pss_cons (ps_if (pt_cmpR op_eq (pv 0) pe_str (nomark _)) (pss_one (ps_ret (pe_ifExp (pt_cmpR op_lt (pv 2) pe_int (nomark _)) (LB.pe_err (EA.a3).ox (EA.a3).iC (EA.a3).tI (EA.a3).g hrE pass0 rfl (EA.a3).gC (EA.a3).b (by decide) (pa_cons (pv 1) pa_nil)) (LB.pe_errK0 (EA.a3).ox (EA.a3).iC (EA.a3).tI (EA.a3).g hrE pass0 rfl (EA.a3).gC (EA.a3).bk (pk_cons (pv 1) pk_nil))))) pss_nil)
        (pss_cons (ps_if (pt_cmpR op_eq (pv 0) pe_str (nomark _)) (pss_one (ps_ret (pe_ifExp (pt_cmpR op_lt (pv 2) pe_int (nomark _)) (LB.pe_err (EA.a6).ox (EA.a6).iC (EA.a6).tI (EA.a6).g hrE pass0 rfl (EA.a6).gC (EA.a6).b (by decide) (pa_cons (pv 1) pa_nil)) (LB.pe_errK0 (EA.a6).ox (EA.a6).iC (EA.a6).tI (EA.a6).g hrE pass0 rfl (EA.a6).gC (EA.a6).bk (pk_cons (pv 1) pk_nil))))) pss_nil)
        (pss_cons (ps_if (pt_cmpR op_eq (pv 0) pe_str (nomark _)) (pss_one (ps_ret (pe_ifExp (pt_cmpR op_lt (pv 2) pe_int (nomark _)) (LB.pe_err (EA.a7).ox (EA.a7).iC (EA.a7).tI (EA.a7).g hrE pass0 rfl (EA.a7).gC (EA.a7).b (by decide) (pa_cons (pv 1) pa_nil)) (LB.pe_errK0 (EA.a7).ox (EA.a7).iC (EA.a7).tI (EA.a7).g hrE pass0 rfl (EA.a7).gC (EA.a7).bk (pk_cons (pv 1) pk_nil))))) pss_nil)
        (pss_cons (ps_if (pt_cmpR op_eq (pv 0) pe_str (nomark _)) (pss_one (ps_ret (pe_ifExp (pt_cmpR op_lt (pv 2) pe_int (nomark _)) (LB.pe_err (EA.a8).ox (EA.a8).iC (EA.a8).tI (EA.a8).g hrE pass0 rfl (EA.a8).gC (EA.a8).b (by decide) (pa_cons (pv 1) pa_nil)) (LB.pe_errK0 (EA.a8).ox (EA.a8).iC (EA.a8).tI (EA.a8).g hrE pass0 rfl (EA.a8).gC (EA.a8).bk (pk_cons (pv 1) pk_nil))))) pss_nil)
        (pss_cons (ps_if (pt_cmpR op_eq (pv 0) pe_str (nomark _)) (pss_one (ps_ret (pe_ifExp (pt_cmpR op_lt (pv 2) pe_int (nomark _)) (LB.pe_err (EA.a9).ox (EA.a9).iC (EA.a9).tI (EA.a9).g hrE pass0 rfl (EA.a9).gC (EA.a9).b (by decide) (pa_cons (pv 1) pa_nil)) (LB.pe_errK0 (EA.a9).ox (EA.a9).iC (EA.a9).tI (EA.a9).g hrE pass0 rfl (EA.a9).gC (EA.a9).bk (pk_cons (pv 1) pk_nil))))) pss_nil)
        (pss_cons (ps_if (pt_cmpR op_eq (pv 0) pe_str (nomark _)) (pss_one (ps_ret (pe_ifExp (pt_cmpR op_lt (pv 2) pe_int (nomark _)) (LB.pe_err (EA.a10).ox (EA.a10).iC (EA.a10).tI (EA.a10).g hrE pass0 rfl (EA.a10).gC (EA.a10).b (by decide) (pa_cons (pv 1) pa_nil)) (LB.pe_errK0 (EA.a10).ox (EA.a10).iC (EA.a10).tI (EA.a10).g hrE pass0 rfl (EA.a10).gC (EA.a10).bk (pk_cons (pv 1) pk_nil))))) pss_nil)
        (pss_cons (ps_if (pt_cmpR op_eq (pv 0) pe_str (nomark _)) (pss_one (ps_ret (pe_ifExp (pt_cmpR op_lt (pv 2) pe_int (nomark _)) (LB.pe_err (EA.a11).ox (EA.a11).iC (EA.a11).tI (EA.a11).g hrE pass0 rfl (EA.a11).gC (EA.a11).b (by decide) (pa_cons (pv 1) pa_nil)) (LB.pe_errK0 (EA.a11).ox (EA.a11).iC (EA.a11).tI (EA.a11).g hrE pass0 rfl (EA.a11).gC (EA.a11).bk (pk_cons (pv 1) pk_nil))))) pss_nil)
        (pss_one (ps_ret pe_non)))))))))))))))))), ?_⟩
    refine ⟨_, rfl, rfl, _, rfl, ite_d (fun e => ?_) (fun e => ?_)⟩
    · obtain rfl : p = "InvalidNumber" := V.str.inj e
      have z : ∀ a, H a = none → LX.spErr (r.cl 0) 1 (fE "InvalidNumber" ["value"]) (.ref a :: [x]) (upd H a (exo a (r.cl 0) none)) (fun v H3 => v = .non ∧ Q (.ref a) H3) (fun _ _ _ => False) := mk_end (i := 0) (ps := ["value"]) (fun v H' h => k v H' (.inl h)) (by rfl) rfl rfl
      clear k
      refine ⟨_, rfl, _, _, rfl, rfl, _, rfl, ite_d (fun _ => ⟨_, rfl, rfl, rfl, z⟩) (fun _ => ⟨_, rfl, rfl, rfl, z⟩)⟩
    have n0 : ¬ p = "InvalidNumber" := fun z => e (congrArg V.str z)
    clear e
    refine ⟨_, rfl, rfl, _, rfl, ite_d (fun e => ?_) (fun e => ?_)⟩
    · obtain rfl : p = "InvalidName" := V.str.inj e
      have z : ∀ a, H a = none → LX.spErr (r.cl 1) 1 (fE "InvalidName" ["value"]) (.ref a :: [x]) (upd H a (exo a (r.cl 1) none)) (fun v H3 => v = .non ∧ Q (.ref a) H3) (fun _ _ _ => False) := mk_end (i := 1) (ps := ["value"]) (fun v H' h => k v H' (.inl h)) (by rfl) rfl rfl
      clear k
      refine ⟨_, rfl, _, _, rfl, rfl, _, rfl, ite_d (fun _ => ⟨_, rfl, rfl, rfl, z⟩) (fun _ => ⟨_, rfl, rfl, rfl, z⟩)⟩
    have n1 : ¬ p = "InvalidName" := fun z => e (congrArg V.str z)
    clear e
    refine ⟨_, rfl, rfl, _, rfl, ite_d (fun e => ?_) (fun e => ?_)⟩
    · obtain rfl : p = "InvalidRest" := V.str.inj e
      have z : ∀ a, H a = none → LX.spErr (r.cl 4) 1 (fE "InvalidRest" ["value"]) (.ref a :: [x]) (upd H a (exo a (r.cl 4) none)) (fun v H3 => v = .non ∧ Q (.ref a) H3) (fun _ _ _ => False) := mk_end (i := 4) (ps := ["value"]) (fun v H' h => k v H' (.inl h)) (by rfl) rfl rfl
      clear k
      refine ⟨_, rfl, _, _, rfl, rfl, _, rfl, ite_d (fun _ => ⟨_, rfl, rfl, rfl, z⟩) (fun _ => ⟨_, rfl, rfl, rfl, z⟩)⟩
    have n2 : ¬ p = "InvalidRest" := fun z => e (congrArg V.str z)
    clear e
    refine ⟨_, rfl, rfl, _, rfl, ite_d (fun e => ?_) (fun e => ?_)⟩
    · obtain rfl : p = "InvalidRule" := V.str.inj e
      have z : ∀ a, H a = none → LX.spErr (r.cl 5) 1 (fE "InvalidRule" ["value"]) (.ref a :: [x]) (upd H a (exo a (r.cl 5) none)) (fun v H3 => v = .non ∧ Q (.ref a) H3) (fun _ _ _ => False) := mk_end (i := 5) (ps := ["value"]) (fun v H' h => k v H' (.inl h)) (by rfl) rfl rfl
      clear k
      refine ⟨_, rfl, _, _, rfl, rfl, _, rfl, ite_d (fun _ => ⟨_, rfl, rfl, rfl, z⟩) (fun _ => ⟨_, rfl, rfl, rfl, z⟩)⟩
    have n3 : ¬ p = "InvalidRule" := fun z => e (congrArg V.str z)
    clear e
    refine ⟨_, rfl, rfl, _, rfl, ite_d (fun e => ?_) (fun e => ?_)⟩
    · obtain rfl : p = "InvalidParts" := V.str.inj e
      have z : ∀ a, H a = none → LX.spErr (r.cl 12) 1 (fE "InvalidParts" ["value"]) (.ref a :: [x]) (upd H a (exo a (r.cl 12) none)) (fun v H3 => v = .non ∧ Q (.ref a) H3) (fun _ _ _ => False) := mk_end (i := 12) (ps := ["value"]) (fun v H' h => k v H' (.inl h)) (by rfl) rfl rfl
      clear k
      refine ⟨_, rfl, _, _, rfl, rfl, _, rfl, ite_d (fun _ => ⟨_, rfl, rfl, rfl, z⟩) (fun _ => ⟨_, rfl, rfl, rfl, z⟩)⟩
    have n4 : ¬ p = "InvalidParts" := fun z => e (congrArg V.str z)
    clear e
    refine ⟨_, rfl, rfl, _, rfl, ite_d (fun e => ?_) (fun e => ?_)⟩
    · obtain rfl : p = "InvalidDeed" := V.str.inj e
      have z : ∀ a, H a = none → LX.spErr (r.cl 14) 1 (fE "InvalidDeed" ["value"]) (.ref a :: [x]) (upd H a (exo a (r.cl 14) none)) (fun v H3 => v = .non ∧ Q (.ref a) H3) (fun _ _ _ => False) := mk_end (i := 14) (ps := ["value"]) (fun v H' h => k v H' (.inl h)) (by rfl) rfl rfl
      clear k
      refine ⟨_, rfl, _, _, rfl, rfl, _, rfl, ite_d (fun _ => ⟨_, rfl, rfl, rfl, z⟩) (fun _ => ⟨_, rfl, rfl, rfl, z⟩)⟩
    have n5 : ¬ p = "InvalidDeed" := fun z => e (congrArg V.str z)
    clear e
    refine ⟨_, rfl, rfl, _, rfl, ite_d (fun e => ?_) (fun e => ?_)⟩
    · obtain rfl : p = "InvalidEvent" := V.str.inj e
      have z : ∀ a, H a = none → LX.spErr (r.cl 15) 1 (fE "InvalidEvent" ["value"]) (.ref a :: [x]) (upd H a (exo a (r.cl 15) none)) (fun v H3 => v = .non ∧ Q (.ref a) H3) (fun _ _ _ => False) := mk_end (i := 15) (ps := ["value"]) (fun v H' h => k v H' (.inl h)) (by rfl) rfl rfl
      clear k
      refine ⟨_, rfl, _, _, rfl, rfl, _, rfl, ite_d (fun _ => ⟨_, rfl, rfl, rfl, z⟩) (fun _ => ⟨_, rfl, rfl, rfl, z⟩)⟩
    have n6 : ¬ p = "InvalidEvent" := fun z => e (congrArg V.str z)
    clear e
    refine ⟨_, rfl, rfl, _, rfl, ite_d (fun e => ?_) (fun e => ?_)⟩
    · obtain rfl : p = "Over" := V.str.inj e
      have z : ∀ a, H a = none → LX.spErr (r.cl 20) 1 (fE "Over" ["value"]) (.ref a :: [x]) (upd H a (exo a (r.cl 20) none)) (fun v H3 => v = .non ∧ Q (.ref a) H3) (fun _ _ _ => False) := mk_end (i := 20) (ps := ["value"]) (fun v H' h => k v H' (.inl h)) (by rfl) rfl rfl
      clear k
      refine ⟨_, rfl, _, _, rfl, rfl, _, rfl, ite_d (fun _ => ⟨_, rfl, rfl, rfl, z⟩) (fun _ => ⟨_, rfl, rfl, rfl, z⟩)⟩
    have n7 : ¬ p = "Over" := fun z => e (congrArg V.str z)
    clear e
    refine ⟨_, rfl, rfl, _, rfl, ite_d (fun e => ?_) (fun e => ?_)⟩
    · obtain rfl : p = "InvalidText" := V.str.inj e
      have z : ∀ a, H a = none → LX.spErr (r.cl 2) 1 (fE "InvalidText" ["text"]) (.ref a :: [x]) (upd H a (exo a (r.cl 2) none)) (fun v H3 => v = .non ∧ Q (.ref a) H3) (fun _ _ _ => False) := mk_end (i := 2) (ps := ["text"]) (fun v H' h => k v H' (.inl h)) (by rfl) rfl rfl
      clear k
      refine ⟨_, rfl, _, _, rfl, rfl, _, rfl, ite_d (fun _ => ⟨_, rfl, rfl, rfl, z⟩) (fun _ => ⟨_, rfl, rfl, rfl, z⟩)⟩
    have n8 : ¬ p = "InvalidText" := fun z => e (congrArg V.str z)
    clear e
    refine ⟨_, rfl, rfl, _, rfl, ite_d (fun e => ?_) (fun e => ?_)⟩
    · obtain rfl : p = "InvalidBorders" := V.str.inj e
      have z : ∀ a, H a = none → LX.spErr (r.cl 3) 1 (fE "InvalidBorders" ["at"]) (.ref a :: [x]) (upd H a (exo a (r.cl 3) none)) (fun v H3 => v = .non ∧ Q (.ref a) H3) (fun _ _ _ => False) := mk_end (i := 3) (ps := ["at"]) (fun v H' h => k v H' (.inl h)) (by rfl) rfl rfl
      clear k
      refine ⟨_, rfl, _, _, rfl, rfl, _, rfl, ite_d (fun _ => ⟨_, rfl, rfl, rfl, z⟩) (fun _ => ⟨_, rfl, rfl, rfl, z⟩)⟩
    have n9 : ¬ p = "InvalidBorders" := fun z => e (congrArg V.str z)
    clear e
    refine ⟨_, rfl, rfl, _, rfl, ite_d (fun e => ?_) (fun e => ?_)⟩
    · obtain rfl : p = "InvalidPlace" := V.str.inj e
      have z : ∀ a, H a = none → LX.spErr (r.cl 6) 1 (fE "InvalidPlace" ["at"]) (.ref a :: [x]) (upd H a (exo a (r.cl 6) none)) (fun v H3 => v = .non ∧ Q (.ref a) H3) (fun _ _ _ => False) := mk_end (i := 6) (ps := ["at"]) (fun v H' h => k v H' (.inl h)) (by rfl) rfl rfl
      clear k
      refine ⟨_, rfl, _, _, rfl, rfl, _, rfl, ite_d (fun _ => ⟨_, rfl, rfl, rfl, z⟩) (fun _ => ⟨_, rfl, rfl, rfl, z⟩)⟩
    have n10 : ¬ p = "InvalidPlace" := fun z => e (congrArg V.str z)
    clear e
    refine ⟨_, rfl, rfl, _, rfl, ite_d (fun e => ?_) (fun e => ?_)⟩
    · obtain rfl : p = "InvalidServer" := V.str.inj e
      have z : ∀ a, H a = none → LX.spErr (r.cl 7) 1 (fE "InvalidServer" ["at"]) (.ref a :: [x]) (upd H a (exo a (r.cl 7) none)) (fun v H3 => v = .non ∧ Q (.ref a) H3) (fun _ _ _ => False) := mk_end (i := 7) (ps := ["at"]) (fun v H' h => k v H' (.inl h)) (by rfl) rfl rfl
      clear k
      refine ⟨_, rfl, _, _, rfl, rfl, _, rfl, ite_d (fun _ => ⟨_, rfl, rfl, rfl, z⟩) (fun _ => ⟨_, rfl, rfl, rfl, z⟩)⟩
    have n11 : ¬ p = "InvalidServer" := fun z => e (congrArg V.str z)
    clear e
    refine ⟨_, rfl, rfl, _, rfl, ite_d (fun e => ?_) (fun e => ?_)⟩
    · obtain rfl : p = "InvalidTree" := V.str.inj e
      have z : ∀ a, H a = none → LX.spErr (r.cl 8) 1 (fE "InvalidTree" ["at"]) (.ref a :: [x]) (upd H a (exo a (r.cl 8) none)) (fun v H3 => v = .non ∧ Q (.ref a) H3) (fun _ _ _ => False) := mk_end (i := 8) (ps := ["at"]) (fun v H' h => k v H' (.inl h)) (by rfl) rfl rfl
      clear k
      refine ⟨_, rfl, _, _, rfl, rfl, _, rfl, ite_d (fun _ => ⟨_, rfl, rfl, rfl, z⟩) (fun _ => ⟨_, rfl, rfl, rfl, z⟩)⟩
    have n12 : ¬ p = "InvalidTree" := fun z => e (congrArg V.str z)
    clear e
    refine ⟨_, rfl, rfl, _, rfl, ite_d (fun e => ?_) (fun e => ?_)⟩
    · obtain rfl : p = "InvalidCustomer" := V.str.inj e
      have z : ∀ a, H a = none → LX.spErr (r.cl 9) 1 (fE "InvalidCustomer" ["at"]) (.ref a :: [x]) (upd H a (exo a (r.cl 9) none)) (fun v H3 => v = .non ∧ Q (.ref a) H3) (fun _ _ _ => False) := mk_end (i := 9) (ps := ["at"]) (fun v H' h => k v H' (.inl h)) (by rfl) rfl rfl
      clear k
      refine ⟨_, rfl, _, _, rfl, rfl, _, rfl, ite_d (fun _ => ⟨_, rfl, rfl, rfl, z⟩) (fun _ => ⟨_, rfl, rfl, rfl, z⟩)⟩
    have n13 : ¬ p = "InvalidCustomer" := fun z => e (congrArg V.str z)
    clear e
    refine ⟨_, rfl, rfl, _, rfl, ite_d (fun e => ?_) (fun e => ?_)⟩
    · obtain rfl : p = "InvalidRoom" := V.str.inj e
      have z : ∀ a, H a = none → LX.spErr (r.cl 10) 1 (fE "InvalidRoom" ["at"]) (.ref a :: [x]) (upd H a (exo a (r.cl 10) none)) (fun v H3 => v = .non ∧ Q (.ref a) H3) (fun _ _ _ => False) := mk_end (i := 10) (ps := ["at"]) (fun v H' h => k v H' (.inl h)) (by rfl) rfl rfl
      clear k
      refine ⟨_, rfl, _, _, rfl, rfl, _, rfl, ite_d (fun _ => ⟨_, rfl, rfl, rfl, z⟩) (fun _ => ⟨_, rfl, rfl, rfl, z⟩)⟩
    have n14 : ¬ p = "InvalidRoom" := fun z => e (congrArg V.str z)
    clear e
    refine ⟨_, rfl, rfl, _, rfl, ite_d (fun e => ?_) (fun e => ?_)⟩
    · obtain rfl : p = "InvalidRow" := V.str.inj e
      have z : ∀ a, H a = none → LX.spErr (r.cl 11) 1 (fE "InvalidRow" ["at"]) (.ref a :: [x]) (upd H a (exo a (r.cl 11) none)) (fun v H3 => v = .non ∧ Q (.ref a) H3) (fun _ _ _ => False) := mk_end (i := 11) (ps := ["at"]) (fun v H' h => k v H' (.inl h)) (by rfl) rfl rfl
      clear k
      refine ⟨_, rfl, _, _, rfl, rfl, _, rfl, ite_d (fun _ => ⟨_, rfl, rfl, rfl, z⟩) (fun _ => ⟨_, rfl, rfl, rfl, z⟩)⟩
    have n15 : ¬ p = "InvalidRow" := fun z => e (congrArg V.str z)
    clear e
    exact k _ _ (.inr ⟨rfl, rfl, fun h => by
      simp only [Fp, List.mem_cons, List.not_mem_nil, or_false] at h
      rcases h with h | h | h | h | h | h | h | h | h | h | h | h | h | h | h | h
      · exact n0 h
      · exact n1 h
      · exact n2 h
      · exact n3 h
      · exact n4 h
      · exact n5 h
      · exact n6 h
      · exact n7 h
      · exact n8 h
      · exact n9 h
      · exact n10 h
      · exact n11 h
      · exact n12 h
      · exact n13 h
      · exact n14 h
      · exact n15 h
      ⟩)
end k00
namespace k00
open PySem L2 LC RM
def Gp : List Str := ["InvalidCut", "Early", "NotPrompt", "Refused", "BadTree", "NoElder", "BadMoment", "WrongLetter", "Elsewhere", "NotLacking", "UnknownName", "Fallen", "NotFallen", "UnknownLoan", "NoSuchLetter"]

def spsecond (r : Ar) : Sp := fun vs H Q _ => ∃ (p : Str) (x : V) (m : Int), vs = [.str p, x, .int m] ∧ ∀ v H', (MkE r p [x] H H' v ∨ (v = .non ∧ H' = H ∧ p ∉ Gp)) → Q v H'
theorem ok_second {P : Program} {w : World} {K : PySem.W.Frag} {mg : Str → Option Value} {base : Heap} {f : Addr} {fd : FuncData} (D : Def K mg "_law_second" ssecond Psecond f fd) (T : Txt K mg) {r : Ar} (EA : All P w K mg base r) :
    FnOk P w K mg base CX0 3 f fd Psecond (spsecond r) := by
  refine D.F.ok scsecond (fun vs H Q E h => ?_) (fun cdv A outer s H vs Q E hr h => ?_)
  · obtain ⟨p, x, m, rfl, k⟩ := h
    rfl
  · obtain ⟨p, x, m, rfl, k⟩ := h
    have hrE : Room 2 _ := hr.mono (by decide)
    refine ⟨_, (pss_cons (ps_if (pt_cmpR op_eq (pv 0) pe_str (nomark _)) (pss_one (ps_ret (pe_ifExp (pt_cmpR op_lt (pv 2) pe_int (nomark _)) (LB.pe_err (EA.a13).ox (EA.a13).iC (EA.a13).tI (EA.a13).g hrE pass0 rfl (EA.a13).gC (EA.a13).b (by decide) (pa_cons (pv 1) pa_nil)) (LB.pe_errK0 (EA.a13).ox (EA.a13).iC (EA.a13).tI (EA.a13).g hrE pass0 rfl (EA.a13).gC (EA.a13).bk (pk_cons (pv 1) pk_nil))))) pss_nil)
        (pss_cons (ps_if (pt_cmpR op_eq (pv 0) pe_str (nomark _)) (pss_one (ps_ret (pe_ifExp (pt_cmpR op_lt (pv 2) pe_int (nomark _)) (LB.pe_err (EA.a27).ox (EA.a27).iC (EA.a27).tI (EA.a27).g hrE pass0 rfl (EA.a27).gC (EA.a27).b (by decide) (pa_cons (pv 1) pa_nil)) (LB.pe_errK0 (EA.a27).ox (EA.a27).iC (EA.a27).tI (EA.a27).g hrE pass0 rfl (EA.a27).gC (EA.a27).bk (pk_cons (pv 1) pk_nil))))) pss_nil)
        (pss_cons (ps_if (pt_cmpR op_eq (pv 0) pe_str (nomark _)) (pss_one (ps_ret (pe_ifExp (pt_cmpR op_lt (pv 2) pe_int (nomark _)) (LB.pe_err (EA.a28).ox (EA.a28).iC (EA.a28).tI (EA.a28).g hrE pass0 rfl (EA.a28).gC (EA.a28).b (by decide) (pa_cons (pv 1) pa_nil)) (LB.pe_errK0 (EA.a28).ox (EA.a28).iC (EA.a28).tI (EA.a28).g hrE pass0 rfl (EA.a28).gC (EA.a28).bk (pk_cons (pv 1) pk_nil))))) pss_nil)
        (pss_cons (ps_if (pt_cmpR op_eq (pv 0) pe_str (nomark _)) (pss_one (ps_ret (pe_ifExp (pt_cmpR op_lt (pv 2) pe_int (nomark _)) (LB.pe_err (EA.a29).ox (EA.a29).iC (EA.a29).tI (EA.a29).g hrE pass0 rfl (EA.a29).gC (EA.a29).b (by decide) (pa_cons (pv 1) pa_nil)) (LB.pe_errK0 (EA.a29).ox (EA.a29).iC (EA.a29).tI (EA.a29).g hrE pass0 rfl (EA.a29).gC (EA.a29).bk (pk_cons (pv 1) pk_nil))))) pss_nil)
        (pss_cons (ps_if (pt_cmpR op_eq (pv 0) pe_str (nomark _)) (pss_one (ps_ret (pe_ifExp (pt_cmpR op_lt (pv 2) pe_int (nomark _)) (LB.pe_err (EA.a16).ox (EA.a16).iC (EA.a16).tI (EA.a16).g hrE pass0 rfl (EA.a16).gC (EA.a16).b (by decide) (pa_cons (pv 1) pa_nil)) (LB.pe_errK0 (EA.a16).ox (EA.a16).iC (EA.a16).tI (EA.a16).g hrE pass0 rfl (EA.a16).gC (EA.a16).bk (pk_cons (pv 1) pk_nil))))) pss_nil)
        (pss_cons (ps_if (pt_cmpR op_eq (pv 0) pe_str (nomark _)) (pss_one (ps_ret (pe_ifExp (pt_cmpR op_lt (pv 2) pe_int (nomark _)) (LB.pe_err (EA.a22).ox (EA.a22).iC (EA.a22).tI (EA.a22).g hrE pass0 rfl (EA.a22).gC (EA.a22).b (by decide) (pa_cons (pv 1) pa_nil)) (LB.pe_errK0 (EA.a22).ox (EA.a22).iC (EA.a22).tI (EA.a22).g hrE pass0 rfl (EA.a22).gC (EA.a22).bk (pk_cons (pv 1) pk_nil))))) pss_nil)
        (pss_cons (ps_if (pt_cmpR op_eq (pv 0) pe_str (nomark _)) (pss_one (ps_ret (pe_ifExp (pt_cmpR op_lt (pv 2) pe_int (nomark _)) (LB.pe_err (EA.a18).ox (EA.a18).iC (EA.a18).tI (EA.a18).g hrE pass0 rfl (EA.a18).gC (EA.a18).b (by decide) (pa_cons (pv 1) pa_nil)) (LB.pe_errK0 (EA.a18).ox (EA.a18).iC (EA.a18).tI (EA.a18).g hrE pass0 rfl (EA.a18).gC (EA.a18).bk (pk_cons (pv 1) pk_nil))))) pss_nil)
        (pss_cons (ps_if (pt_cmpR op_eq (pv 0) pe_str (nomark _)) (pss_one (ps_ret (pe_ifExp (pt_cmpR op_lt (pv 2) pe_int (nomark _)) (LB.pe_err (EA.a23).ox (EA.a23).iC (EA.a23).tI (EA.a23).g hrE pass0 rfl (EA.a23).gC (EA.a23).b (by decide) (pa_cons (pv 1) pa_nil)) (LB.pe_errK0 (EA.a23).ox (EA.a23).iC (EA.a23).tI (EA.a23).g hrE pass0 rfl (EA.a23).gC (EA.a23).bk (pk_cons (pv 1) pk_nil))))) pss_nil)
        (pss_cons (ps_if (pt_cmpR op_eq (pv 0) pe_str (nomark _)) (pss_one (ps_ret (pe_ifExp (pt_cmpR op_lt (pv 2) pe_int (nomark _)) (LB.pe_err (EA.a24).ox (EA.a24).iC (EA.a24).tI (EA.a24).g hrE pass0 rfl (EA.a24).gC (EA.a24).b (by decide) (pa_cons (pv 1) pa_nil)) (LB.pe_errK0 (EA.a24).ox (EA.a24).iC (EA.a24).tI (EA.a24).g hrE pass0 rfl (EA.a24).gC (EA.a24).bk (pk_cons (pv 1) pk_nil))))) pss_nil)
        (pss_cons (ps_if (pt_cmpR op_eq (pv 0) pe_str (nomark _)) (pss_one (ps_ret (pe_ifExp (pt_cmpR op_lt (pv 2) pe_int (nomark _)) (LB.pe_err (EA.a25).ox (EA.a25).iC (EA.a25).tI (EA.a25).g hrE pass0 rfl (EA.a25).gC (EA.a25).b (by decide) (pa_cons (pv 1) pa_nil)) (LB.pe_errK0 (EA.a25).ox (EA.a25).iC (EA.a25).tI (EA.a25).g hrE pass0 rfl (EA.a25).gC (EA.a25).bk (pk_cons (pv 1) pk_nil))))) pss_nil)
        (pss_cons (ps_if (pt_cmpR op_eq (pv 0) pe_str (nomark _)) (pss_one (ps_ret (pe_ifExp (pt_cmpR op_lt (pv 2) pe_int (nomark _)) (LB.pe_err (EA.a30).ox (EA.a30).iC (EA.a30).tI (EA.a30).g hrE pass0 rfl (EA.a30).gC (EA.a30).b (by decide) (pa_cons (pv 1) pa_nil)) (LB.pe_errK0 (EA.a30).ox (EA.a30).iC (EA.a30).tI (EA.a30).g hrE pass0 rfl (EA.a30).gC (EA.a30).bk (pk_cons (pv 1) pk_nil))))) pss_nil)
        (pss_cons (ps_if (pt_cmpR op_eq (pv 0) pe_str (nomark _)) (pss_one (ps_ret (pe_ifExp (pt_cmpR op_lt (pv 2) pe_int (nomark _)) (LB.pe_err (EA.a34).ox (EA.a34).iC (EA.a34).tI (EA.a34).g hrE pass0 rfl (EA.a34).gC (EA.a34).b (by decide) (pa_cons (pv 1) pa_nil)) (LB.pe_errK0 (EA.a34).ox (EA.a34).iC (EA.a34).tI (EA.a34).g hrE pass0 rfl (EA.a34).gC (EA.a34).bk (pk_cons (pv 1) pk_nil))))) pss_nil)
        (pss_cons (ps_if (pt_cmpR op_eq (pv 0) pe_str (nomark _)) (pss_one (ps_ret (pe_ifExp (pt_cmpR op_lt (pv 2) pe_int (nomark _)) (LB.pe_err (EA.a35).ox (EA.a35).iC (EA.a35).tI (EA.a35).g hrE pass0 rfl (EA.a35).gC (EA.a35).b (by decide) (pa_cons (pv 1) pa_nil)) (LB.pe_errK0 (EA.a35).ox (EA.a35).iC (EA.a35).tI (EA.a35).g hrE pass0 rfl (EA.a35).gC (EA.a35).bk (pk_cons (pv 1) pk_nil))))) pss_nil)
        (pss_cons (ps_if (pt_cmpR op_eq (pv 0) pe_str (nomark _)) (pss_one (ps_ret (pe_ifExp (pt_cmpR op_lt (pv 2) pe_int (nomark _)) (LB.pe_err (EA.a32).ox (EA.a32).iC (EA.a32).tI (EA.a32).g hrE pass0 rfl (EA.a32).gC (EA.a32).b (by decide) (pa_cons (pv 1) pa_nil)) (LB.pe_errK0 (EA.a32).ox (EA.a32).iC (EA.a32).tI (EA.a32).g hrE pass0 rfl (EA.a32).gC (EA.a32).bk (pk_cons (pv 1) pk_nil))))) pss_nil)
        (pss_cons (ps_if (pt_cmpR op_eq (pv 0) pe_str (nomark _)) (pss_one (ps_ret (pe_ifExp (pt_cmpR op_lt (pv 2) pe_int (nomark _)) (LB.pe_err (EA.a33).ox (EA.a33).iC (EA.a33).tI (EA.a33).g hrE pass0 rfl (EA.a33).gC (EA.a33).b (by decide) (pa_cons (pv 1) pa_nil)) (LB.pe_errK0 (EA.a33).ox (EA.a33).iC (EA.a33).tI (EA.a33).g hrE pass0 rfl (EA.a33).gC (EA.a33).bk (pk_cons (pv 1) pk_nil))))) pss_nil)
        (pss_one (ps_ret pe_non))))))))))))))))), ?_⟩
    refine ⟨_, rfl, rfl, _, rfl, ite_d (fun e => ?_) (fun e => ?_)⟩
    · obtain rfl : p = "InvalidCut" := V.str.inj e
      have z : ∀ a, H a = none → LX.spErr (r.cl 13) 1 (fE "InvalidCut" ["at"]) (.ref a :: [x]) (upd H a (exo a (r.cl 13) none)) (fun v H3 => v = .non ∧ Q (.ref a) H3) (fun _ _ _ => False) := mk_end (i := 13) (ps := ["at"]) (fun v H' h => k v H' (.inl h)) (by rfl) rfl rfl
      clear k
      refine ⟨_, rfl, _, _, rfl, rfl, _, rfl, ite_d (fun _ => ⟨_, rfl, rfl, rfl, z⟩) (fun _ => ⟨_, rfl, rfl, rfl, z⟩)⟩
    have n0 : ¬ p = "InvalidCut" := fun z => e (congrArg V.str z)
    clear e
    refine ⟨_, rfl, rfl, _, rfl, ite_d (fun e => ?_) (fun e => ?_)⟩
    · obtain rfl : p = "Early" := V.str.inj e
      have z : ∀ a, H a = none → LX.spErr (r.cl 27) 1 (fE "Early" ["at"]) (.ref a :: [x]) (upd H a (exo a (r.cl 27) none)) (fun v H3 => v = .non ∧ Q (.ref a) H3) (fun _ _ _ => False) := mk_end (i := 27) (ps := ["at"]) (fun v H' h => k v H' (.inl h)) (by rfl) rfl rfl
      clear k
      refine ⟨_, rfl, _, _, rfl, rfl, _, rfl, ite_d (fun _ => ⟨_, rfl, rfl, rfl, z⟩) (fun _ => ⟨_, rfl, rfl, rfl, z⟩)⟩
    have n1 : ¬ p = "Early" := fun z => e (congrArg V.str z)
    clear e
    refine ⟨_, rfl, rfl, _, rfl, ite_d (fun e => ?_) (fun e => ?_)⟩
    · obtain rfl : p = "NotPrompt" := V.str.inj e
      have z : ∀ a, H a = none → LX.spErr (r.cl 28) 1 (fE "NotPrompt" ["at"]) (.ref a :: [x]) (upd H a (exo a (r.cl 28) none)) (fun v H3 => v = .non ∧ Q (.ref a) H3) (fun _ _ _ => False) := mk_end (i := 28) (ps := ["at"]) (fun v H' h => k v H' (.inl h)) (by rfl) rfl rfl
      clear k
      refine ⟨_, rfl, _, _, rfl, rfl, _, rfl, ite_d (fun _ => ⟨_, rfl, rfl, rfl, z⟩) (fun _ => ⟨_, rfl, rfl, rfl, z⟩)⟩
    have n2 : ¬ p = "NotPrompt" := fun z => e (congrArg V.str z)
    clear e
    refine ⟨_, rfl, rfl, _, rfl, ite_d (fun e => ?_) (fun e => ?_)⟩
    · obtain rfl : p = "Refused" := V.str.inj e
      have z : ∀ a, H a = none → LX.spErr (r.cl 29) 1 (fE "Refused" ["at"]) (.ref a :: [x]) (upd H a (exo a (r.cl 29) none)) (fun v H3 => v = .non ∧ Q (.ref a) H3) (fun _ _ _ => False) := mk_end (i := 29) (ps := ["at"]) (fun v H' h => k v H' (.inl h)) (by rfl) rfl rfl
      clear k
      refine ⟨_, rfl, _, _, rfl, rfl, _, rfl, ite_d (fun _ => ⟨_, rfl, rfl, rfl, z⟩) (fun _ => ⟨_, rfl, rfl, rfl, z⟩)⟩
    have n3 : ¬ p = "Refused" := fun z => e (congrArg V.str z)
    clear e
    refine ⟨_, rfl, rfl, _, rfl, ite_d (fun e => ?_) (fun e => ?_)⟩
    · obtain rfl : p = "BadTree" := V.str.inj e
      have z : ∀ a, H a = none → LX.spErr (r.cl 16) 1 (fE "BadTree" ["place"]) (.ref a :: [x]) (upd H a (exo a (r.cl 16) none)) (fun v H3 => v = .non ∧ Q (.ref a) H3) (fun _ _ _ => False) := mk_end (i := 16) (ps := ["place"]) (fun v H' h => k v H' (.inl h)) (by rfl) rfl rfl
      clear k
      refine ⟨_, rfl, _, _, rfl, rfl, _, rfl, ite_d (fun _ => ⟨_, rfl, rfl, rfl, z⟩) (fun _ => ⟨_, rfl, rfl, rfl, z⟩)⟩
    have n4 : ¬ p = "BadTree" := fun z => e (congrArg V.str z)
    clear e
    refine ⟨_, rfl, rfl, _, rfl, ite_d (fun e => ?_) (fun e => ?_)⟩
    · obtain rfl : p = "NoElder" := V.str.inj e
      have z : ∀ a, H a = none → LX.spErr (r.cl 22) 1 (fE "NoElder" ["place"]) (.ref a :: [x]) (upd H a (exo a (r.cl 22) none)) (fun v H3 => v = .non ∧ Q (.ref a) H3) (fun _ _ _ => False) := mk_end (i := 22) (ps := ["place"]) (fun v H' h => k v H' (.inl h)) (by rfl) rfl rfl
      clear k
      refine ⟨_, rfl, _, _, rfl, rfl, _, rfl, ite_d (fun _ => ⟨_, rfl, rfl, rfl, z⟩) (fun _ => ⟨_, rfl, rfl, rfl, z⟩)⟩
    have n5 : ¬ p = "NoElder" := fun z => e (congrArg V.str z)
    clear e
    refine ⟨_, rfl, rfl, _, rfl, ite_d (fun e => ?_) (fun e => ?_)⟩
    · obtain rfl : p = "BadMoment" := V.str.inj e
      have z : ∀ a, H a = none → LX.spErr (r.cl 18) 1 (fE "BadMoment" ["moment"]) (.ref a :: [x]) (upd H a (exo a (r.cl 18) none)) (fun v H3 => v = .non ∧ Q (.ref a) H3) (fun _ _ _ => False) := mk_end (i := 18) (ps := ["moment"]) (fun v H' h => k v H' (.inl h)) (by rfl) rfl rfl
      clear k
      refine ⟨_, rfl, _, _, rfl, rfl, _, rfl, ite_d (fun _ => ⟨_, rfl, rfl, rfl, z⟩) (fun _ => ⟨_, rfl, rfl, rfl, z⟩)⟩
    have n6 : ¬ p = "BadMoment" := fun z => e (congrArg V.str z)
    clear e
    refine ⟨_, rfl, rfl, _, rfl, ite_d (fun e => ?_) (fun e => ?_)⟩
    · obtain rfl : p = "WrongLetter" := V.str.inj e
      have z : ∀ a, H a = none → LX.spErr (r.cl 23) 1 (fE "WrongLetter" ["letter"]) (.ref a :: [x]) (upd H a (exo a (r.cl 23) none)) (fun v H3 => v = .non ∧ Q (.ref a) H3) (fun _ _ _ => False) := mk_end (i := 23) (ps := ["letter"]) (fun v H' h => k v H' (.inl h)) (by rfl) rfl rfl
      clear k
      refine ⟨_, rfl, _, _, rfl, rfl, _, rfl, ite_d (fun _ => ⟨_, rfl, rfl, rfl, z⟩) (fun _ => ⟨_, rfl, rfl, rfl, z⟩)⟩
    have n7 : ¬ p = "WrongLetter" := fun z => e (congrArg V.str z)
    clear e
    refine ⟨_, rfl, rfl, _, rfl, ite_d (fun e => ?_) (fun e => ?_)⟩
    · obtain rfl : p = "Elsewhere" := V.str.inj e
      have z : ∀ a, H a = none → LX.spErr (r.cl 24) 1 (fE "Elsewhere" ["room"]) (.ref a :: [x]) (upd H a (exo a (r.cl 24) none)) (fun v H3 => v = .non ∧ Q (.ref a) H3) (fun _ _ _ => False) := mk_end (i := 24) (ps := ["room"]) (fun v H' h => k v H' (.inl h)) (by rfl) rfl rfl
      clear k
      refine ⟨_, rfl, _, _, rfl, rfl, _, rfl, ite_d (fun _ => ⟨_, rfl, rfl, rfl, z⟩) (fun _ => ⟨_, rfl, rfl, rfl, z⟩)⟩
    have n8 : ¬ p = "Elsewhere" := fun z => e (congrArg V.str z)
    clear e
    refine ⟨_, rfl, rfl, _, rfl, ite_d (fun e => ?_) (fun e => ?_)⟩
    · obtain rfl : p = "NotLacking" := V.str.inj e
      have z : ∀ a, H a = none → LX.spErr (r.cl 25) 1 (fE "NotLacking" ["ready"]) (.ref a :: [x]) (upd H a (exo a (r.cl 25) none)) (fun v H3 => v = .non ∧ Q (.ref a) H3) (fun _ _ _ => False) := mk_end (i := 25) (ps := ["ready"]) (fun v H' h => k v H' (.inl h)) (by rfl) rfl rfl
      clear k
      refine ⟨_, rfl, _, _, rfl, rfl, _, rfl, ite_d (fun _ => ⟨_, rfl, rfl, rfl, z⟩) (fun _ => ⟨_, rfl, rfl, rfl, z⟩)⟩
    have n9 : ¬ p = "NotLacking" := fun z => e (congrArg V.str z)
    clear e
    refine ⟨_, rfl, rfl, _, rfl, ite_d (fun e => ?_) (fun e => ?_)⟩
    · obtain rfl : p = "UnknownName" := V.str.inj e
      have z : ∀ a, H a = none → LX.spErr (r.cl 30) 1 (fE "UnknownName" ["name"]) (.ref a :: [x]) (upd H a (exo a (r.cl 30) none)) (fun v H3 => v = .non ∧ Q (.ref a) H3) (fun _ _ _ => False) := mk_end (i := 30) (ps := ["name"]) (fun v H' h => k v H' (.inl h)) (by rfl) rfl rfl
      clear k
      refine ⟨_, rfl, _, _, rfl, rfl, _, rfl, ite_d (fun _ => ⟨_, rfl, rfl, rfl, z⟩) (fun _ => ⟨_, rfl, rfl, rfl, z⟩)⟩
    have n10 : ¬ p = "UnknownName" := fun z => e (congrArg V.str z)
    clear e
    refine ⟨_, rfl, rfl, _, rfl, ite_d (fun e => ?_) (fun e => ?_)⟩
    · obtain rfl : p = "Fallen" := V.str.inj e
      have z : ∀ a, H a = none → LX.spErr (r.cl 34) 1 (fE "Fallen" ["name"]) (.ref a :: [x]) (upd H a (exo a (r.cl 34) none)) (fun v H3 => v = .non ∧ Q (.ref a) H3) (fun _ _ _ => False) := mk_end (i := 34) (ps := ["name"]) (fun v H' h => k v H' (.inl h)) (by rfl) rfl rfl
      clear k
      refine ⟨_, rfl, _, _, rfl, rfl, _, rfl, ite_d (fun _ => ⟨_, rfl, rfl, rfl, z⟩) (fun _ => ⟨_, rfl, rfl, rfl, z⟩)⟩
    have n11 : ¬ p = "Fallen" := fun z => e (congrArg V.str z)
    clear e
    refine ⟨_, rfl, rfl, _, rfl, ite_d (fun e => ?_) (fun e => ?_)⟩
    · obtain rfl : p = "NotFallen" := V.str.inj e
      have z : ∀ a, H a = none → LX.spErr (r.cl 35) 1 (fE "NotFallen" ["name"]) (.ref a :: [x]) (upd H a (exo a (r.cl 35) none)) (fun v H3 => v = .non ∧ Q (.ref a) H3) (fun _ _ _ => False) := mk_end (i := 35) (ps := ["name"]) (fun v H' h => k v H' (.inl h)) (by rfl) rfl rfl
      clear k
      refine ⟨_, rfl, _, _, rfl, rfl, _, rfl, ite_d (fun _ => ⟨_, rfl, rfl, rfl, z⟩) (fun _ => ⟨_, rfl, rfl, rfl, z⟩)⟩
    have n12 : ¬ p = "NotFallen" := fun z => e (congrArg V.str z)
    clear e
    refine ⟨_, rfl, rfl, _, rfl, ite_d (fun e => ?_) (fun e => ?_)⟩
    · obtain rfl : p = "UnknownLoan" := V.str.inj e
      have z : ∀ a, H a = none → LX.spErr (r.cl 32) 1 (fE "UnknownLoan" ["number"]) (.ref a :: [x]) (upd H a (exo a (r.cl 32) none)) (fun v H3 => v = .non ∧ Q (.ref a) H3) (fun _ _ _ => False) := mk_end (i := 32) (ps := ["number"]) (fun v H' h => k v H' (.inl h)) (by rfl) rfl rfl
      clear k
      refine ⟨_, rfl, _, _, rfl, rfl, _, rfl, ite_d (fun _ => ⟨_, rfl, rfl, rfl, z⟩) (fun _ => ⟨_, rfl, rfl, rfl, z⟩)⟩
    have n13 : ¬ p = "UnknownLoan" := fun z => e (congrArg V.str z)
    clear e
    refine ⟨_, rfl, rfl, _, rfl, ite_d (fun e => ?_) (fun e => ?_)⟩
    · obtain rfl : p = "NoSuchLetter" := V.str.inj e
      have z : ∀ a, H a = none → LX.spErr (r.cl 33) 1 (fE "NoSuchLetter" ["index"]) (.ref a :: [x]) (upd H a (exo a (r.cl 33) none)) (fun v H3 => v = .non ∧ Q (.ref a) H3) (fun _ _ _ => False) := mk_end (i := 33) (ps := ["index"]) (fun v H' h => k v H' (.inl h)) (by rfl) rfl rfl
      clear k
      refine ⟨_, rfl, _, _, rfl, rfl, _, rfl, ite_d (fun _ => ⟨_, rfl, rfl, rfl, z⟩) (fun _ => ⟨_, rfl, rfl, rfl, z⟩)⟩
    have n14 : ¬ p = "NoSuchLetter" := fun z => e (congrArg V.str z)
    clear e
    exact k _ _ (.inr ⟨rfl, rfl, fun h => by
      simp only [Gp, List.mem_cons, List.not_mem_nil, or_false] at h
      rcases h with h | h | h | h | h | h | h | h | h | h | h | h | h | h | h
      · exact n0 h
      · exact n1 h
      · exact n2 h
      · exact n3 h
      · exact n4 h
      · exact n5 h
      · exact n6 h
      · exact n7 h
      · exact n8 h
      · exact n9 h
      · exact n10 h
      · exact n11 h
      · exact n12 h
      · exact n13 h
      · exact n14 h
      ⟩)
end k00
namespace k00
open PySem L2 LC RM
def spboth (r : Ar) : Sp := fun vs H Q _ => ∃ (p : Str) (x y : V) (m : Int), vs = [.str p, x, y, .int m] ∧ p ∈ (["BadReading", "TooMany", "NotHeld", "UnknownLot", "NotSettled"] : List Str) ∧ ∀ us v H', ((us = [] ∧ p = "NotSettled") ∨ (us = [x, y] ∧ p ∈ (["BadReading", "TooMany", "NotHeld", "UnknownLot"] : List Str))) → MkE r p us H H' v → Q v H'
theorem ok_both {P : Program} {w : World} {K : PySem.W.Frag} {mg : Str → Option Value} {base : Heap} {f : Addr} {fd : FuncData} (D : Def K mg "_law_both" sboth Pboth f fd) (T : Txt K mg) {r : Ar} (EA : All P w K mg base r) :
    FnOk P w K mg base CX0 3 f fd Pboth (spboth r) := by
  refine D.F.ok scboth (fun vs H Q E h => ?_) (fun cdv A outer s H vs Q E hr h => ?_)
  · obtain ⟨p, x, y, m, rfl, hp, k⟩ := h
    rfl
  · obtain ⟨p, x, y, m, rfl, hp, k⟩ := h
    have hrE : Room 2 _ := hr.mono (by decide)
    refine ⟨_, (pss_cons (ps_if (PW.pt (pw_and (pt_cmpR op_eq (pv 0) pe_str (nomark _)) (pw_and1 (pt_cmpR op_lt (pv 3) pe_int (nomark _))))) (pss_one (ps_ret (pe_ifExp (pt_cmpR op_eq (pv 3) pe_int (nomark _)) (LB.pe_err (EA.a17).ox (EA.a17).iC (EA.a17).tI (EA.a17).g hrE pass0 rfl (EA.a17).gC (EA.a17).b (by decide) (pa_cons (pv 1) (pa_cons (pv 2) pa_nil))) (LB.pe_errK0 (EA.a17).ox (EA.a17).iC (EA.a17).tI (EA.a17).g hrE pass0 rfl (EA.a17).gC (EA.a17).bk (pk_cons (pv 1) (pk_cons (pv 2) pk_nil)))))) pss_nil)
        (pss_cons (ps_if (pt_cmpR op_eq (pv 0) pe_str (nomark _)) (pss_one (ps_ret (pe_ifExp (pt_cmpR op_eq (pv 3) pe_int (nomark _)) (LB.pe_errK0 (EA.a17).ox (EA.a17).iC (EA.a17).tI (EA.a17).g hrE pass0 rfl (EA.a17).gC (EA.a17).br (pk_cons (pv 2) (pk_cons (pv 1) pk_nil))) (LB.pe_errK (EA.a17).ox (EA.a17).iC (EA.a17).tI (EA.a17).g hrE pass0 rfl (EA.a17).gC (EA.a17).bm (by decide) (pa_cons (pv 1) pa_nil) (pk_cons (pv 2) pk_nil))))) pss_nil)
        (pss_cons (ps_if (PW.pt (pw_and (pt_cmpR op_eq (pv 0) pe_str (nomark _)) (pw_and1 (pt_cmpR op_lt (pv 3) pe_int (nomark _))))) (pss_one (ps_ret (pe_ifExp (pt_cmpR op_eq (pv 3) pe_int (nomark _)) (LB.pe_err (EA.a19).ox (EA.a19).iC (EA.a19).tI (EA.a19).g hrE pass0 rfl (EA.a19).gC (EA.a19).b (by decide) (pa_cons (pv 1) (pa_cons (pv 2) pa_nil))) (LB.pe_errK0 (EA.a19).ox (EA.a19).iC (EA.a19).tI (EA.a19).g hrE pass0 rfl (EA.a19).gC (EA.a19).bk (pk_cons (pv 1) (pk_cons (pv 2) pk_nil)))))) pss_nil)
        (pss_cons (ps_if (pt_cmpR op_eq (pv 0) pe_str (nomark _)) (pss_one (ps_ret (pe_ifExp (pt_cmpR op_eq (pv 3) pe_int (nomark _)) (LB.pe_errK0 (EA.a19).ox (EA.a19).iC (EA.a19).tI (EA.a19).g hrE pass0 rfl (EA.a19).gC (EA.a19).br (pk_cons (pv 2) (pk_cons (pv 1) pk_nil))) (LB.pe_errK (EA.a19).ox (EA.a19).iC (EA.a19).tI (EA.a19).g hrE pass0 rfl (EA.a19).gC (EA.a19).bm (by decide) (pa_cons (pv 1) pa_nil) (pk_cons (pv 2) pk_nil))))) pss_nil)
        (pss_cons (ps_if (PW.pt (pw_and (pt_cmpR op_eq (pv 0) pe_str (nomark _)) (pw_and1 (pt_cmpR op_lt (pv 3) pe_int (nomark _))))) (pss_one (ps_ret (pe_ifExp (pt_cmpR op_eq (pv 3) pe_int (nomark _)) (LB.pe_err (EA.a21).ox (EA.a21).iC (EA.a21).tI (EA.a21).g hrE pass0 rfl (EA.a21).gC (EA.a21).b (by decide) (pa_cons (pv 1) (pa_cons (pv 2) pa_nil))) (LB.pe_errK0 (EA.a21).ox (EA.a21).iC (EA.a21).tI (EA.a21).g hrE pass0 rfl (EA.a21).gC (EA.a21).bk (pk_cons (pv 1) (pk_cons (pv 2) pk_nil)))))) pss_nil)
        (pss_cons (ps_if (pt_cmpR op_eq (pv 0) pe_str (nomark _)) (pss_one (ps_ret (pe_ifExp (pt_cmpR op_eq (pv 3) pe_int (nomark _)) (LB.pe_errK0 (EA.a21).ox (EA.a21).iC (EA.a21).tI (EA.a21).g hrE pass0 rfl (EA.a21).gC (EA.a21).br (pk_cons (pv 2) (pk_cons (pv 1) pk_nil))) (LB.pe_errK (EA.a21).ox (EA.a21).iC (EA.a21).tI (EA.a21).g hrE pass0 rfl (EA.a21).gC (EA.a21).bm (by decide) (pa_cons (pv 1) pa_nil) (pk_cons (pv 2) pk_nil))))) pss_nil)
        (pss_cons (ps_if (PW.pt (pw_and (pt_cmpR op_eq (pv 0) pe_str (nomark _)) (pw_and1 (pt_cmpR op_lt (pv 3) pe_int (nomark _))))) (pss_one (ps_ret (pe_ifExp (pt_cmpR op_eq (pv 3) pe_int (nomark _)) (LB.pe_err (EA.a31).ox (EA.a31).iC (EA.a31).tI (EA.a31).g hrE pass0 rfl (EA.a31).gC (EA.a31).b (by decide) (pa_cons (pv 1) (pa_cons (pv 2) pa_nil))) (LB.pe_errK0 (EA.a31).ox (EA.a31).iC (EA.a31).tI (EA.a31).g hrE pass0 rfl (EA.a31).gC (EA.a31).bk (pk_cons (pv 1) (pk_cons (pv 2) pk_nil)))))) pss_nil)
        (pss_cons (ps_if (pt_cmpR op_eq (pv 0) pe_str (nomark _)) (pss_one (ps_ret (pe_ifExp (pt_cmpR op_eq (pv 3) pe_int (nomark _)) (LB.pe_errK0 (EA.a31).ox (EA.a31).iC (EA.a31).tI (EA.a31).g hrE pass0 rfl (EA.a31).gC (EA.a31).br (pk_cons (pv 2) (pk_cons (pv 1) pk_nil))) (LB.pe_errK (EA.a31).ox (EA.a31).iC (EA.a31).tI (EA.a31).g hrE pass0 rfl (EA.a31).gC (EA.a31).bm (by decide) (pa_cons (pv 1) pa_nil) (pk_cons (pv 2) pk_nil))))) pss_nil)
        (pss_one (ps_ret (LB.pe_err0 (EA.a26).ox (EA.a26).iC (EA.a26).tI (EA.a26).g hrE pass0 rfl (EA.a26).gC (EA.a26).b0))))))))))), ?_⟩
    refine ⟨_, rfl, rfl, _, rfl, ite_d (fun e => ?_) (fun e => ?_)⟩
    · obtain rfl : p = "BadReading" := V.str.inj e
      have z : ∀ a, H a = none → LX.spErr (r.cl 17) 2 (fE "BadReading" ["server", "reading"]) (.ref a :: [x, y]) (upd H a (exo a (r.cl 17) none)) (fun v H3 => v = .non ∧ Q (.ref a) H3) (fun _ _ _ => False) := mk_end (i := 17) (ps := ["server", "reading"]) (fun v H' h => k _ v H' (.inr ⟨rfl, by simp⟩) h) (by rfl) rfl rfl
      clear k hp
      refine ⟨_, rfl, _, _, rfl, rfl, _, rfl, ite_d (fun _ => ?_) (fun _ => ?_)⟩
      · exact ⟨_, rfl, rfl, _, rfl, ite_d (fun _ => ⟨_, rfl, _, rfl, rfl, rfl, z⟩) (fun _ => ⟨_, rfl, _, rfl, rfl, rfl, z⟩)⟩
      · exact ⟨_, rfl, rfl, _, rfl, ite_d (fun _ => ⟨_, rfl, rfl, _, rfl, ite_d (fun _ => ⟨_, rfl, _, rfl, rfl, rfl, z⟩) (fun _ => ⟨_, rfl, _, rfl, rfl, rfl, z⟩)⟩) (fun e => absurd rfl e)⟩
    have n17 : ¬ p = "BadReading" := fun z => e (congrArg V.str z)
    refine iteF ⟨_, rfl, rfl, _, rfl, ite_d (fun e2 => absurd e2 e) (fun _ => ?_)⟩
    clear e
    refine ⟨_, rfl, rfl, _, rfl, ite_d (fun e => ?_) (fun e => ?_)⟩
    · obtain rfl : p = "TooMany" := V.str.inj e
      have z : ∀ a, H a = none → LX.spErr (r.cl 19) 2 (fE "TooMany" ["what", "count"]) (.ref a :: [x, y]) (upd H a (exo a (r.cl 19) none)) (fun v H3 => v = .non ∧ Q (.ref a) H3) (fun _ _ _ => False) := mk_end (i := 19) (ps := ["what", "count"]) (fun v H' h => k _ v H' (.inr ⟨rfl, by simp⟩) h) (by rfl) rfl rfl
      clear k hp
      refine ⟨_, rfl, _, _, rfl, rfl, _, rfl, ite_d (fun _ => ?_) (fun _ => ?_)⟩
      · exact ⟨_, rfl, rfl, _, rfl, ite_d (fun _ => ⟨_, rfl, _, rfl, rfl, rfl, z⟩) (fun _ => ⟨_, rfl, _, rfl, rfl, rfl, z⟩)⟩
      · exact ⟨_, rfl, rfl, _, rfl, ite_d (fun _ => ⟨_, rfl, rfl, _, rfl, ite_d (fun _ => ⟨_, rfl, _, rfl, rfl, rfl, z⟩) (fun _ => ⟨_, rfl, _, rfl, rfl, rfl, z⟩)⟩) (fun e => absurd rfl e)⟩
    have n19 : ¬ p = "TooMany" := fun z => e (congrArg V.str z)
    refine iteF ⟨_, rfl, rfl, _, rfl, ite_d (fun e2 => absurd e2 e) (fun _ => ?_)⟩
    clear e
    refine ⟨_, rfl, rfl, _, rfl, ite_d (fun e => ?_) (fun e => ?_)⟩
    · obtain rfl : p = "NotHeld" := V.str.inj e
      have z : ∀ a, H a = none → LX.spErr (r.cl 21) 2 (fE "NotHeld" ["place", "n"]) (.ref a :: [x, y]) (upd H a (exo a (r.cl 21) none)) (fun v H3 => v = .non ∧ Q (.ref a) H3) (fun _ _ _ => False) := mk_end (i := 21) (ps := ["place", "n"]) (fun v H' h => k _ v H' (.inr ⟨rfl, by simp⟩) h) (by rfl) rfl rfl
      clear k hp
      refine ⟨_, rfl, _, _, rfl, rfl, _, rfl, ite_d (fun _ => ?_) (fun _ => ?_)⟩
      · exact ⟨_, rfl, rfl, _, rfl, ite_d (fun _ => ⟨_, rfl, _, rfl, rfl, rfl, z⟩) (fun _ => ⟨_, rfl, _, rfl, rfl, rfl, z⟩)⟩
      · exact ⟨_, rfl, rfl, _, rfl, ite_d (fun _ => ⟨_, rfl, rfl, _, rfl, ite_d (fun _ => ⟨_, rfl, _, rfl, rfl, rfl, z⟩) (fun _ => ⟨_, rfl, _, rfl, rfl, rfl, z⟩)⟩) (fun e => absurd rfl e)⟩
    have n21 : ¬ p = "NotHeld" := fun z => e (congrArg V.str z)
    refine iteF ⟨_, rfl, rfl, _, rfl, ite_d (fun e2 => absurd e2 e) (fun _ => ?_)⟩
    clear e
    refine ⟨_, rfl, rfl, _, rfl, ite_d (fun e => ?_) (fun e => ?_)⟩
    · obtain rfl : p = "UnknownLot" := V.str.inj e
      have z : ∀ a, H a = none → LX.spErr (r.cl 31) 2 (fE "UnknownLot" ["place", "number"]) (.ref a :: [x, y]) (upd H a (exo a (r.cl 31) none)) (fun v H3 => v = .non ∧ Q (.ref a) H3) (fun _ _ _ => False) := mk_end (i := 31) (ps := ["place", "number"]) (fun v H' h => k _ v H' (.inr ⟨rfl, by simp⟩) h) (by rfl) rfl rfl
      clear k hp
      refine ⟨_, rfl, _, _, rfl, rfl, _, rfl, ite_d (fun _ => ?_) (fun _ => ?_)⟩
      · exact ⟨_, rfl, rfl, _, rfl, ite_d (fun _ => ⟨_, rfl, _, rfl, rfl, rfl, z⟩) (fun _ => ⟨_, rfl, _, rfl, rfl, rfl, z⟩)⟩
      · exact ⟨_, rfl, rfl, _, rfl, ite_d (fun _ => ⟨_, rfl, rfl, _, rfl, ite_d (fun _ => ⟨_, rfl, _, rfl, rfl, rfl, z⟩) (fun _ => ⟨_, rfl, _, rfl, rfl, rfl, z⟩)⟩) (fun e => absurd rfl e)⟩
    have n31 : ¬ p = "UnknownLot" := fun z => e (congrArg V.str z)
    refine iteF ⟨_, rfl, rfl, _, rfl, ite_d (fun e2 => absurd e2 e) (fun _ => ?_)⟩
    clear e
    obtain rfl : p = "NotSettled" := by
      simp only [List.mem_cons, List.not_mem_nil, or_false] at hp
      rcases hp with h | h | h | h | h
      · exact absurd h n17
      · exact absurd h n19
      · exact absurd h n21
      · exact absurd h n31
      · exact h
    exact ⟨rfl, rfl, mk_end (i := 26) (ps := []) (fun v H' h => k _ v H' (.inl ⟨rfl, rfl⟩) h) (by rfl) rfl rfl⟩
end k00
namespace k00
open PySem L2 LC RM
def sptold (r : Ar) : Sp := fun vs H Q _ => ∃ (p : Str) (ps : List Str) (us : List V) (v : V) (t : Addr), vs = [v, .ref t] ∧ ErA r H p ps us v ∧ H t = some (.tup (ps.map V.str)) ∧ ∀ l H', Same H H' → H' l = some (.lst (.str p :: us)) → Q (.ref l) H'
theorem ok_told {P : Program} {w : World} {K : PySem.W.Frag} {mg : Str → Option Value} {base : Heap} {f : Addr} {fd : FuncData} (D : Def K mg "_law_told" stold Ptold f fd) (T : Txt K mg) {r : Ar} (EA : All P w K mg base r) :
    FnOk P w K mg base CX0 1 f fd Ptold (sptold r) := by
  refine D.F.ok sctold (fun vs H Q E h => ?_) (fun cdv A outer s H vs Q E hr h => ?_)
  · obtain ⟨p, ps, us, v, t, rfl, he, ht, k⟩ := h
    rfl
  · obtain ⟨p, ps, us, v, t, rfl, he, ht, k⟩ := h
    refine ⟨_, (pss_cons (ps_set (i := 2) sctold.nd rfl (Or.inl rfl) (pe_lst (pa_cons (LB.pe_ofld (pv 0) rfl) pa_nil)))
        (pss_cons (ps_for PassesOwn.never rfl (pi_tup (pv 1)) (pg_name (i := 3) sctold.nd rfl (Or.inl rfl))
          (pss_one (ps_if (pt_cmpR op_eq (pv 3) pe_str (nomark _)) (pss_one (ps_expr (pe_bm PySem.F.plainAttrs_list PySem.F.slot_list_append PySem.F.type_list_append mt_append (pv 2) (pa_cons (LB.pe_ofld (pv 0) rfl) pa_nil)))) (pss_one (ps_if (pt_cmpR op_eq (pv 3) pe_str (nomark _)) (pss_one (ps_expr (pe_bm PySem.F.plainAttrs_list PySem.F.slot_list_append PySem.F.type_list_append mt_append (pv 2) (pa_cons (LB.pe_ofld (pv 0) rfl) pa_nil)))) (pss_one (ps_if (pt_cmpR op_eq (pv 3) pe_str (nomark _)) (pss_one (ps_expr (pe_bm PySem.F.plainAttrs_list PySem.F.slot_list_append PySem.F.type_list_append mt_append (pv 2) (pa_cons (LB.pe_ofld (pv 0) rfl) pa_nil)))) (pss_one (ps_if (pt_cmpR op_eq (pv 3) pe_str (nomark _)) (pss_one (ps_expr (pe_bm PySem.F.plainAttrs_list PySem.F.slot_list_append PySem.F.type_list_append mt_append (pv 2) (pa_cons (LB.pe_ofld (pv 0) rfl) pa_nil)))) (pss_one (ps_if (pt_cmpR op_eq (pv 3) pe_str (nomark _)) (pss_one (ps_expr (pe_bm PySem.F.plainAttrs_list PySem.F.slot_list_append PySem.F.type_list_append mt_append (pv 2) (pa_cons (LB.pe_ofld (pv 0) rfl) pa_nil)))) (pss_one (ps_if (pt_cmpR op_eq (pv 3) pe_str (nomark _)) (pss_one (ps_expr (pe_bm PySem.F.plainAttrs_list PySem.F.slot_list_append PySem.F.type_list_append mt_append (pv 2) (pa_cons (LB.pe_ofld (pv 0) rfl) pa_nil)))) (pss_one (ps_if (pt_cmpR op_eq (pv 3) pe_str (nomark _)) (pss_one (ps_expr (pe_bm PySem.F.plainAttrs_list PySem.F.slot_list_append PySem.F.type_list_append mt_append (pv 2) (pa_cons (LB.pe_ofld (pv 0) rfl) pa_nil)))) (pss_one (ps_if (pt_cmpR op_eq (pv 3) pe_str (nomark _)) (pss_one (ps_expr (pe_bm PySem.F.plainAttrs_list PySem.F.slot_list_append PySem.F.type_list_append mt_append (pv 2) (pa_cons (LB.pe_ofld (pv 0) rfl) pa_nil)))) (pss_one (ps_if (pt_cmpR op_eq (pv 3) pe_str (nomark _)) (pss_one (ps_expr (pe_bm PySem.F.plainAttrs_list PySem.F.slot_list_append PySem.F.type_list_append mt_append (pv 2) (pa_cons (LB.pe_ofld (pv 0) rfl) pa_nil)))) (pss_one (ps_if (pt_cmpR op_eq (pv 3) pe_str (nomark _)) (pss_one (ps_expr (pe_bm PySem.F.plainAttrs_list PySem.F.slot_list_append PySem.F.type_list_append mt_append (pv 2) (pa_cons (LB.pe_ofld (pv 0) rfl) pa_nil)))) (pss_one (ps_if (pt_cmpR op_eq (pv 3) pe_str (nomark _)) (pss_one (ps_expr (pe_bm PySem.F.plainAttrs_list PySem.F.slot_list_append PySem.F.type_list_append mt_append (pv 2) (pa_cons (LB.pe_ofld (pv 0) rfl) pa_nil)))) (pss_one (ps_if (pt_cmpR op_eq (pv 3) pe_str (nomark _)) (pss_one (ps_expr (pe_bm PySem.F.plainAttrs_list PySem.F.slot_list_append PySem.F.type_list_append mt_append (pv 2) (pa_cons (LB.pe_ofld (pv 0) rfl) pa_nil)))) (pss_one (ps_if (pt_cmpR op_eq (pv 3) pe_str (nomark _)) (pss_one (ps_expr (pe_bm PySem.F.plainAttrs_list PySem.F.slot_list_append PySem.F.type_list_append mt_append (pv 2) (pa_cons (LB.pe_ofld (pv 0) rfl) pa_nil)))) (pss_one (ps_if (pt_cmpR op_eq (pv 3) pe_str (nomark _)) (pss_one (ps_expr (pe_bm PySem.F.plainAttrs_list PySem.F.slot_list_append PySem.F.type_list_append mt_append (pv 2) (pa_cons (LB.pe_ofld (pv 0) rfl) pa_nil)))) (pss_one (ps_if (pt_cmpR op_eq (pv 3) pe_str (nomark _)) (pss_one (ps_expr (pe_bm PySem.F.plainAttrs_list PySem.F.slot_list_append PySem.F.type_list_append mt_append (pv 2) (pa_cons (LB.pe_ofld (pv 0) rfl) pa_nil)))) (pss_one (ps_if (pt_cmpR op_eq (pv 3) pe_str (nomark _)) (pss_one (ps_expr (pe_bm PySem.F.plainAttrs_list PySem.F.slot_list_append PySem.F.type_list_append mt_append (pv 2) (pa_cons (LB.pe_ofld (pv 0) rfl) pa_nil)))) pss_nil)))))))))))))))))))))))))))))))))
        (pss_one (ps_ret (pv 2))))), ?_⟩
    obtain ⟨a, i, b, d, rfl, hi, hl, ea, ed⟩ := he
    obtain ⟨xf, _, no⟩ := EA.cls hi
    obtain ⟨nd, nc, h2, hw⟩ := tE_get hi
    refine ⟨_, rfl, a, r.cl i, d, _, .str p, rfl, xf, no _ (List.mem_cons_self ..), ea, ed, rfl, (by show 1 ≤ sizeLine; decide), fun L hL => ?_⟩
    have sm : ∀ ys, Same H (upd H L (.lst ys)) := fun ys => same_new hL
    refine ⟨_, rfl, t, rfl, ⟨_, SqT.of (sm _ _ _ ht)⟩, for_tup (K := K) (a := t) (xs := ps.map V.str) (fun j σ H' => (∃ x : Option V, σ = [some (.ref a), some (.ref t), some (.ref L), x]) ∧ H' = upd H L (.lst (.str p :: us.take j)))
      ⟨⟨_, rfl⟩, rfl⟩ (fun j σ H' _ ⟨_, e⟩ => by rw [e]; exact SqT.of (sm _ _ _ ht)) ?_ ?_⟩
    · rintro j y σ H' hj ⟨⟨x0, rfl⟩, rfl⟩
      obtain ⟨f, hf, rfl⟩ : ∃ f, ps[j]? = some f ∧ V.str f = y := by
        rw [List.getElem?_map] at hj
        cases e : ps[j]? with
        | none => rw [e] at hj; cases hj
        | some f => rw [e] at hj; exact ⟨f, rfl, Option.some.inj hj⟩
      have fm := List.mem_of_getElem? hf
      have jl : j < us.length := hl ▸ (List.getElem?_eq_some_iff.mp hf).1
      have hu : us[j]? = some us[j] := List.getElem?_eq_getElem jl
      have lk := fE_look (p := p) nd nc h2 hl hf hu
      have nf := no f (List.mem_cons_of_mem _ fm)
      have kw := hw f fm
      have en : (.str p :: us.take j : List V) ++ [us[j]] = .str p :: us.take (j + 1) := by
        rw [List.take_succ_eq_append_getElem jl, List.cons_append]
      have fin : upd (upd H L (.lst (.str p :: us.take j))) L (.lst ((.str p :: us.take j) ++ [us[j]])) = upd H L (.lst (.str p :: us.take (j + 1))) := by
        rw [upd_upd, en]
      have ln : (.str p :: us.take j : List V).length < sizeLine := by
        rw [List.length_cons, List.length_take, sizeLine_eq]
        omega
      have eL : upd H L (.lst (.str p :: us.take j)) L = some (.lst (.str p :: us.take j)) := upd_same
      have ea2 := sm (.str p :: us.take j) _ _ ea
      have ed2 := sm (.str p :: us.take j) _ _ ed
      clear hj hu
      show tIfS _ _ _ _ _ _
      refine ⟨_, rfl, rfl, _, rfl, ite_d (fun e => ?_) (fun e => ?_)⟩
      · obtain rfl : f = "value" := V.str.inj e
        exact ⟨_, rfl, .inl ⟨rfl, _, SqL.of eL⟩, _, rfl, a, r.cl i, d, _, _, rfl, xf, nf, ea2, ed2, lk, L, _, _, rfl, rfl, eL, ln, ⟨_, rfl⟩, fin⟩
      have n0 : ¬ f = "value" := fun z => e (congrArg V.str z)
      clear e
      refine ⟨_, rfl, rfl, _, rfl, ite_d (fun e => ?_) (fun e => ?_)⟩
      · obtain rfl : f = "text" := V.str.inj e
        exact ⟨_, rfl, .inl ⟨rfl, _, SqL.of eL⟩, _, rfl, a, r.cl i, d, _, _, rfl, xf, nf, ea2, ed2, lk, L, _, _, rfl, rfl, eL, ln, ⟨_, rfl⟩, fin⟩
      have n1 : ¬ f = "text" := fun z => e (congrArg V.str z)
      clear e
      refine ⟨_, rfl, rfl, _, rfl, ite_d (fun e => ?_) (fun e => ?_)⟩
      · obtain rfl : f = "at" := V.str.inj e
        exact ⟨_, rfl, .inl ⟨rfl, _, SqL.of eL⟩, _, rfl, a, r.cl i, d, _, _, rfl, xf, nf, ea2, ed2, lk, L, _, _, rfl, rfl, eL, ln, ⟨_, rfl⟩, fin⟩
      have n2 : ¬ f = "at" := fun z => e (congrArg V.str z)
      clear e
      refine ⟨_, rfl, rfl, _, rfl, ite_d (fun e => ?_) (fun e => ?_)⟩
      · obtain rfl : f = "place" := V.str.inj e
        exact ⟨_, rfl, .inl ⟨rfl, _, SqL.of eL⟩, _, rfl, a, r.cl i, d, _, _, rfl, xf, nf, ea2, ed2, lk, L, _, _, rfl, rfl, eL, ln, ⟨_, rfl⟩, fin⟩
      have n3 : ¬ f = "place" := fun z => e (congrArg V.str z)
      clear e
      refine ⟨_, rfl, rfl, _, rfl, ite_d (fun e => ?_) (fun e => ?_)⟩
      · obtain rfl : f = "moment" := V.str.inj e
        exact ⟨_, rfl, .inl ⟨rfl, _, SqL.of eL⟩, _, rfl, a, r.cl i, d, _, _, rfl, xf, nf, ea2, ed2, lk, L, _, _, rfl, rfl, eL, ln, ⟨_, rfl⟩, fin⟩
      have n4 : ¬ f = "moment" := fun z => e (congrArg V.str z)
      clear e
      refine ⟨_, rfl, rfl, _, rfl, ite_d (fun e => ?_) (fun e => ?_)⟩
      · obtain rfl : f = "letter" := V.str.inj e
        exact ⟨_, rfl, .inl ⟨rfl, _, SqL.of eL⟩, _, rfl, a, r.cl i, d, _, _, rfl, xf, nf, ea2, ed2, lk, L, _, _, rfl, rfl, eL, ln, ⟨_, rfl⟩, fin⟩
      have n5 : ¬ f = "letter" := fun z => e (congrArg V.str z)
      clear e
      refine ⟨_, rfl, rfl, _, rfl, ite_d (fun e => ?_) (fun e => ?_)⟩
      · obtain rfl : f = "room" := V.str.inj e
        exact ⟨_, rfl, .inl ⟨rfl, _, SqL.of eL⟩, _, rfl, a, r.cl i, d, _, _, rfl, xf, nf, ea2, ed2, lk, L, _, _, rfl, rfl, eL, ln, ⟨_, rfl⟩, fin⟩
      have n6 : ¬ f = "room" := fun z => e (congrArg V.str z)
      clear e
      refine ⟨_, rfl, rfl, _, rfl, ite_d (fun e => ?_) (fun e => ?_)⟩
      · obtain rfl : f = "ready" := V.str.inj e
        exact ⟨_, rfl, .inl ⟨rfl, _, SqL.of eL⟩, _, rfl, a, r.cl i, d, _, _, rfl, xf, nf, ea2, ed2, lk, L, _, _, rfl, rfl, eL, ln, ⟨_, rfl⟩, fin⟩
      have n7 : ¬ f = "ready" := fun z => e (congrArg V.str z)
      clear e
      refine ⟨_, rfl, rfl, _, rfl, ite_d (fun e => ?_) (fun e => ?_)⟩
      · obtain rfl : f = "name" := V.str.inj e
        exact ⟨_, rfl, .inl ⟨rfl, _, SqL.of eL⟩, _, rfl, a, r.cl i, d, _, _, rfl, xf, nf, ea2, ed2, lk, L, _, _, rfl, rfl, eL, ln, ⟨_, rfl⟩, fin⟩
      have n8 : ¬ f = "name" := fun z => e (congrArg V.str z)
      clear e
      refine ⟨_, rfl, rfl, _, rfl, ite_d (fun e => ?_) (fun e => ?_)⟩
      · obtain rfl : f = "number" := V.str.inj e
        exact ⟨_, rfl, .inl ⟨rfl, _, SqL.of eL⟩, _, rfl, a, r.cl i, d, _, _, rfl, xf, nf, ea2, ed2, lk, L, _, _, rfl, rfl, eL, ln, ⟨_, rfl⟩, fin⟩
      have n9 : ¬ f = "number" := fun z => e (congrArg V.str z)
      clear e
      refine ⟨_, rfl, rfl, _, rfl, ite_d (fun e => ?_) (fun e => ?_)⟩
      · obtain rfl : f = "index" := V.str.inj e
        exact ⟨_, rfl, .inl ⟨rfl, _, SqL.of eL⟩, _, rfl, a, r.cl i, d, _, _, rfl, xf, nf, ea2, ed2, lk, L, _, _, rfl, rfl, eL, ln, ⟨_, rfl⟩, fin⟩
      have n10 : ¬ f = "index" := fun z => e (congrArg V.str z)
      clear e
      refine ⟨_, rfl, rfl, _, rfl, ite_d (fun e => ?_) (fun e => ?_)⟩
      · obtain rfl : f = "server" := V.str.inj e
        exact ⟨_, rfl, .inl ⟨rfl, _, SqL.of eL⟩, _, rfl, a, r.cl i, d, _, _, rfl, xf, nf, ea2, ed2, lk, L, _, _, rfl, rfl, eL, ln, ⟨_, rfl⟩, fin⟩
      have n11 : ¬ f = "server" := fun z => e (congrArg V.str z)
      clear e
      refine ⟨_, rfl, rfl, _, rfl, ite_d (fun e => ?_) (fun e => ?_)⟩
      · obtain rfl : f = "reading" := V.str.inj e
        exact ⟨_, rfl, .inl ⟨rfl, _, SqL.of eL⟩, _, rfl, a, r.cl i, d, _, _, rfl, xf, nf, ea2, ed2, lk, L, _, _, rfl, rfl, eL, ln, ⟨_, rfl⟩, fin⟩
      have n12 : ¬ f = "reading" := fun z => e (congrArg V.str z)
      clear e
      refine ⟨_, rfl, rfl, _, rfl, ite_d (fun e => ?_) (fun e => ?_)⟩
      · obtain rfl : f = "what" := V.str.inj e
        exact ⟨_, rfl, .inl ⟨rfl, _, SqL.of eL⟩, _, rfl, a, r.cl i, d, _, _, rfl, xf, nf, ea2, ed2, lk, L, _, _, rfl, rfl, eL, ln, ⟨_, rfl⟩, fin⟩
      have n13 : ¬ f = "what" := fun z => e (congrArg V.str z)
      clear e
      refine ⟨_, rfl, rfl, _, rfl, ite_d (fun e => ?_) (fun e => ?_)⟩
      · obtain rfl : f = "count" := V.str.inj e
        exact ⟨_, rfl, .inl ⟨rfl, _, SqL.of eL⟩, _, rfl, a, r.cl i, d, _, _, rfl, xf, nf, ea2, ed2, lk, L, _, _, rfl, rfl, eL, ln, ⟨_, rfl⟩, fin⟩
      have n14 : ¬ f = "count" := fun z => e (congrArg V.str z)
      clear e
      refine ⟨_, rfl, rfl, _, rfl, ite_d (fun e => ?_) (fun e => ?_)⟩
      · obtain rfl : f = "n" := V.str.inj e
        exact ⟨_, rfl, .inl ⟨rfl, _, SqL.of eL⟩, _, rfl, a, r.cl i, d, _, _, rfl, xf, nf, ea2, ed2, lk, L, _, _, rfl, rfl, eL, ln, ⟨_, rfl⟩, fin⟩
      have n15 : ¬ f = "n" := fun z => e (congrArg V.str z)
      clear e
      simp only [List.mem_cons, List.not_mem_nil, or_false] at kw
      rcases kw with h | h | h | h | h | h | h | h | h | h | h | h | h | h | h | h
      · exact absurd h n0
      · exact absurd h n1
      · exact absurd h n2
      · exact absurd h n3
      · exact absurd h n4
      · exact absurd h n5
      · exact absurd h n6
      · exact absurd h n7
      · exact absurd h n8
      · exact absurd h n9
      · exact absurd h n10
      · exact absurd h n11
      · exact absurd h n12
      · exact absurd h n13
      · exact absurd h n14
      · exact absurd h n15
    · rintro σ H' ⟨⟨x0, rfl⟩, rfl⟩
      refine ⟨_, rfl, k L _ (sm _) ?_⟩
      rw [List.length_map, hl, List.take_length]
      exact upd_same
end k00
namespace k00
open PySem L2 LC RM
def spkinds (r : Ar) : Sp := fun vs H Q _ => ∃ (p : Str) (ps : List Str) (us : List V) (v : V), vs = [v] ∧ ErA r H p ps us v ∧ ∀ b l H', (∃ i : Nat, tE[i]? = some (p, ps, b)) → Same H H' → H' l = some (.lst ((KN1.filter (fK p b)).map V.str)) → Q (.ref l) H'
theorem ok_kinds {P : Program} {w : World} {K : PySem.W.Frag} {mg : Str → Option Value} {base : Heap} {f : Addr} {fd : FuncData} (D : Def K mg "_law_kinds" skinds Pkinds f fd) (T : Txt K mg) {r : Ar} (EA : All P w K mg base r) :
    FnOk P w K mg base CX0 1 f fd Pkinds (spkinds r) := by
  refine D.F.ok sckinds (fun vs H Q E h => ?_) (fun cdv A outer s H vs Q E hr h => ?_)
  · obtain ⟨p, ps, us, v, rfl, he, k⟩ := h
    rfl
  · obtain ⟨p, ps, us, v, rfl, he, k⟩ := h
    refine ⟨_, (pss_cons (ps_set (i := 1) sckinds.nd rfl (Or.inl rfl) (pe_lst pa_nil))
        (pss_cons (ps_expr (pe_bm PySem.F.plainAttrs_list PySem.F.slot_list_append PySem.F.type_list_append mt_append (pv 1) (pa_cons (pe_tup (pa_cons pe_str (pa_cons (pe_callB call_isX (by rfl) T.n_isinstance (by decide +kernel) (pa_cons (pv 0) (pa_cons (pe_glob rfl EA.a0.gC (show RelV (.ref (r.cl 0)) _ from rfl)) pa_nil))) pa_nil))) pa_nil)))
        (pss_cons (ps_expr (pe_bm PySem.F.plainAttrs_list PySem.F.slot_list_append PySem.F.type_list_append mt_append (pv 1) (pa_cons (pe_tup (pa_cons pe_str (pa_cons (pe_callB call_isX (by rfl) T.n_isinstance (by decide +kernel) (pa_cons (pv 0) (pa_cons (pe_glob rfl EA.a1.gC (show RelV (.ref (r.cl 1)) _ from rfl)) pa_nil))) pa_nil))) pa_nil)))
        (pss_cons (ps_expr (pe_bm PySem.F.plainAttrs_list PySem.F.slot_list_append PySem.F.type_list_append mt_append (pv 1) (pa_cons (pe_tup (pa_cons pe_str (pa_cons (pe_callB call_isX (by rfl) T.n_isinstance (by decide +kernel) (pa_cons (pv 0) (pa_cons (pe_glob rfl EA.a4.gC (show RelV (.ref (r.cl 4)) _ from rfl)) pa_nil))) pa_nil))) pa_nil)))
        (pss_cons (ps_expr (pe_bm PySem.F.plainAttrs_list PySem.F.slot_list_append PySem.F.type_list_append mt_append (pv 1) (pa_cons (pe_tup (pa_cons pe_str (pa_cons (pe_callB call_isX (by rfl) T.n_isinstance (by decide +kernel) (pa_cons (pv 0) (pa_cons (pe_glob rfl EA.a5.gC (show RelV (.ref (r.cl 5)) _ from rfl)) pa_nil))) pa_nil))) pa_nil)))
        (pss_cons (ps_expr (pe_bm PySem.F.plainAttrs_list PySem.F.slot_list_append PySem.F.type_list_append mt_append (pv 1) (pa_cons (pe_tup (pa_cons pe_str (pa_cons (pe_callB call_isX (by rfl) T.n_isinstance (by decide +kernel) (pa_cons (pv 0) (pa_cons (pe_glob rfl EA.a12.gC (show RelV (.ref (r.cl 12)) _ from rfl)) pa_nil))) pa_nil))) pa_nil)))
        (pss_cons (ps_expr (pe_bm PySem.F.plainAttrs_list PySem.F.slot_list_append PySem.F.type_list_append mt_append (pv 1) (pa_cons (pe_tup (pa_cons pe_str (pa_cons (pe_callB call_isX (by rfl) T.n_isinstance (by decide +kernel) (pa_cons (pv 0) (pa_cons (pe_glob rfl EA.a14.gC (show RelV (.ref (r.cl 14)) _ from rfl)) pa_nil))) pa_nil))) pa_nil)))
        (pss_cons (ps_expr (pe_bm PySem.F.plainAttrs_list PySem.F.slot_list_append PySem.F.type_list_append mt_append (pv 1) (pa_cons (pe_tup (pa_cons pe_str (pa_cons (pe_callB call_isX (by rfl) T.n_isinstance (by decide +kernel) (pa_cons (pv 0) (pa_cons (pe_glob rfl EA.a15.gC (show RelV (.ref (r.cl 15)) _ from rfl)) pa_nil))) pa_nil))) pa_nil)))
        (pss_cons (ps_expr (pe_bm PySem.F.plainAttrs_list PySem.F.slot_list_append PySem.F.type_list_append mt_append (pv 1) (pa_cons (pe_tup (pa_cons pe_str (pa_cons (pe_callB call_isX (by rfl) T.n_isinstance (by decide +kernel) (pa_cons (pv 0) (pa_cons (pe_glob rfl EA.a20.gC (show RelV (.ref (r.cl 20)) _ from rfl)) pa_nil))) pa_nil))) pa_nil)))
        (pss_cons (ps_expr (pe_bm PySem.F.plainAttrs_list PySem.F.slot_list_append PySem.F.type_list_append mt_append (pv 1) (pa_cons (pe_tup (pa_cons pe_str (pa_cons (pe_callB call_isX (by rfl) T.n_isinstance (by decide +kernel) (pa_cons (pv 0) (pa_cons (pe_glob rfl EA.a2.gC (show RelV (.ref (r.cl 2)) _ from rfl)) pa_nil))) pa_nil))) pa_nil)))
        (pss_cons (ps_expr (pe_bm PySem.F.plainAttrs_list PySem.F.slot_list_append PySem.F.type_list_append mt_append (pv 1) (pa_cons (pe_tup (pa_cons pe_str (pa_cons (pe_callB call_isX (by rfl) T.n_isinstance (by decide +kernel) (pa_cons (pv 0) (pa_cons (pe_glob rfl EA.a3.gC (show RelV (.ref (r.cl 3)) _ from rfl)) pa_nil))) pa_nil))) pa_nil)))
        (pss_cons (ps_expr (pe_bm PySem.F.plainAttrs_list PySem.F.slot_list_append PySem.F.type_list_append mt_append (pv 1) (pa_cons (pe_tup (pa_cons pe_str (pa_cons (pe_callB call_isX (by rfl) T.n_isinstance (by decide +kernel) (pa_cons (pv 0) (pa_cons (pe_glob rfl EA.a6.gC (show RelV (.ref (r.cl 6)) _ from rfl)) pa_nil))) pa_nil))) pa_nil)))
        (pss_cons (ps_expr (pe_bm PySem.F.plainAttrs_list PySem.F.slot_list_append PySem.F.type_list_append mt_append (pv 1) (pa_cons (pe_tup (pa_cons pe_str (pa_cons (pe_callB call_isX (by rfl) T.n_isinstance (by decide +kernel) (pa_cons (pv 0) (pa_cons (pe_glob rfl EA.a7.gC (show RelV (.ref (r.cl 7)) _ from rfl)) pa_nil))) pa_nil))) pa_nil)))
        (pss_cons (ps_expr (pe_bm PySem.F.plainAttrs_list PySem.F.slot_list_append PySem.F.type_list_append mt_append (pv 1) (pa_cons (pe_tup (pa_cons pe_str (pa_cons (pe_callB call_isX (by rfl) T.n_isinstance (by decide +kernel) (pa_cons (pv 0) (pa_cons (pe_glob rfl EA.a8.gC (show RelV (.ref (r.cl 8)) _ from rfl)) pa_nil))) pa_nil))) pa_nil)))
        (pss_cons (ps_expr (pe_bm PySem.F.plainAttrs_list PySem.F.slot_list_append PySem.F.type_list_append mt_append (pv 1) (pa_cons (pe_tup (pa_cons pe_str (pa_cons (pe_callB call_isX (by rfl) T.n_isinstance (by decide +kernel) (pa_cons (pv 0) (pa_cons (pe_glob rfl EA.a9.gC (show RelV (.ref (r.cl 9)) _ from rfl)) pa_nil))) pa_nil))) pa_nil)))
        (pss_cons (ps_expr (pe_bm PySem.F.plainAttrs_list PySem.F.slot_list_append PySem.F.type_list_append mt_append (pv 1) (pa_cons (pe_tup (pa_cons pe_str (pa_cons (pe_callB call_isX (by rfl) T.n_isinstance (by decide +kernel) (pa_cons (pv 0) (pa_cons (pe_glob rfl EA.a10.gC (show RelV (.ref (r.cl 10)) _ from rfl)) pa_nil))) pa_nil))) pa_nil)))
        (pss_cons (ps_expr (pe_bm PySem.F.plainAttrs_list PySem.F.slot_list_append PySem.F.type_list_append mt_append (pv 1) (pa_cons (pe_tup (pa_cons pe_str (pa_cons (pe_callB call_isX (by rfl) T.n_isinstance (by decide +kernel) (pa_cons (pv 0) (pa_cons (pe_glob rfl EA.a11.gC (show RelV (.ref (r.cl 11)) _ from rfl)) pa_nil))) pa_nil))) pa_nil)))
        (pss_cons (ps_expr (pe_bm PySem.F.plainAttrs_list PySem.F.slot_list_append PySem.F.type_list_append mt_append (pv 1) (pa_cons (pe_tup (pa_cons pe_str (pa_cons (pe_callB call_isX (by rfl) T.n_isinstance (by decide +kernel) (pa_cons (pv 0) (pa_cons (pe_glob rfl EA.a13.gC (show RelV (.ref (r.cl 13)) _ from rfl)) pa_nil))) pa_nil))) pa_nil)))
        (pss_cons (ps_expr (pe_bm PySem.F.plainAttrs_list PySem.F.slot_list_append PySem.F.type_list_append mt_append (pv 1) (pa_cons (pe_tup (pa_cons pe_str (pa_cons (pe_callB call_isX (by rfl) T.n_isinstance (by decide +kernel) (pa_cons (pv 0) (pa_cons (pe_glob rfl EA.a27.gC (show RelV (.ref (r.cl 27)) _ from rfl)) pa_nil))) pa_nil))) pa_nil)))
        (pss_cons (ps_expr (pe_bm PySem.F.plainAttrs_list PySem.F.slot_list_append PySem.F.type_list_append mt_append (pv 1) (pa_cons (pe_tup (pa_cons pe_str (pa_cons (pe_callB call_isX (by rfl) T.n_isinstance (by decide +kernel) (pa_cons (pv 0) (pa_cons (pe_glob rfl EA.a28.gC (show RelV (.ref (r.cl 28)) _ from rfl)) pa_nil))) pa_nil))) pa_nil)))
        (pss_cons (ps_expr (pe_bm PySem.F.plainAttrs_list PySem.F.slot_list_append PySem.F.type_list_append mt_append (pv 1) (pa_cons (pe_tup (pa_cons pe_str (pa_cons (pe_callB call_isX (by rfl) T.n_isinstance (by decide +kernel) (pa_cons (pv 0) (pa_cons (pe_glob rfl EA.a29.gC (show RelV (.ref (r.cl 29)) _ from rfl)) pa_nil))) pa_nil))) pa_nil)))
        (pss_cons (ps_expr (pe_bm PySem.F.plainAttrs_list PySem.F.slot_list_append PySem.F.type_list_append mt_append (pv 1) (pa_cons (pe_tup (pa_cons pe_str (pa_cons (pe_callB call_isX (by rfl) T.n_isinstance (by decide +kernel) (pa_cons (pv 0) (pa_cons (pe_glob rfl EA.a16.gC (show RelV (.ref (r.cl 16)) _ from rfl)) pa_nil))) pa_nil))) pa_nil)))
        (pss_cons (ps_expr (pe_bm PySem.F.plainAttrs_list PySem.F.slot_list_append PySem.F.type_list_append mt_append (pv 1) (pa_cons (pe_tup (pa_cons pe_str (pa_cons (pe_callB call_isX (by rfl) T.n_isinstance (by decide +kernel) (pa_cons (pv 0) (pa_cons (pe_glob rfl EA.a22.gC (show RelV (.ref (r.cl 22)) _ from rfl)) pa_nil))) pa_nil))) pa_nil)))
        (pss_cons (ps_expr (pe_bm PySem.F.plainAttrs_list PySem.F.slot_list_append PySem.F.type_list_append mt_append (pv 1) (pa_cons (pe_tup (pa_cons pe_str (pa_cons (pe_callB call_isX (by rfl) T.n_isinstance (by decide +kernel) (pa_cons (pv 0) (pa_cons (pe_glob rfl EA.a18.gC (show RelV (.ref (r.cl 18)) _ from rfl)) pa_nil))) pa_nil))) pa_nil)))
        (pss_cons (ps_expr (pe_bm PySem.F.plainAttrs_list PySem.F.slot_list_append PySem.F.type_list_append mt_append (pv 1) (pa_cons (pe_tup (pa_cons pe_str (pa_cons (pe_callB call_isX (by rfl) T.n_isinstance (by decide +kernel) (pa_cons (pv 0) (pa_cons (pe_glob rfl EA.a23.gC (show RelV (.ref (r.cl 23)) _ from rfl)) pa_nil))) pa_nil))) pa_nil)))
        (pss_cons (ps_expr (pe_bm PySem.F.plainAttrs_list PySem.F.slot_list_append PySem.F.type_list_append mt_append (pv 1) (pa_cons (pe_tup (pa_cons pe_str (pa_cons (pe_callB call_isX (by rfl) T.n_isinstance (by decide +kernel) (pa_cons (pv 0) (pa_cons (pe_glob rfl EA.a24.gC (show RelV (.ref (r.cl 24)) _ from rfl)) pa_nil))) pa_nil))) pa_nil)))
        (pss_cons (ps_expr (pe_bm PySem.F.plainAttrs_list PySem.F.slot_list_append PySem.F.type_list_append mt_append (pv 1) (pa_cons (pe_tup (pa_cons pe_str (pa_cons (pe_callB call_isX (by rfl) T.n_isinstance (by decide +kernel) (pa_cons (pv 0) (pa_cons (pe_glob rfl EA.a25.gC (show RelV (.ref (r.cl 25)) _ from rfl)) pa_nil))) pa_nil))) pa_nil)))
        (pss_cons (ps_expr (pe_bm PySem.F.plainAttrs_list PySem.F.slot_list_append PySem.F.type_list_append mt_append (pv 1) (pa_cons (pe_tup (pa_cons pe_str (pa_cons (pe_callB call_isX (by rfl) T.n_isinstance (by decide +kernel) (pa_cons (pv 0) (pa_cons (pe_glob rfl EA.a30.gC (show RelV (.ref (r.cl 30)) _ from rfl)) pa_nil))) pa_nil))) pa_nil)))
        (pss_cons (ps_expr (pe_bm PySem.F.plainAttrs_list PySem.F.slot_list_append PySem.F.type_list_append mt_append (pv 1) (pa_cons (pe_tup (pa_cons pe_str (pa_cons (pe_callB call_isX (by rfl) T.n_isinstance (by decide +kernel) (pa_cons (pv 0) (pa_cons (pe_glob rfl EA.a34.gC (show RelV (.ref (r.cl 34)) _ from rfl)) pa_nil))) pa_nil))) pa_nil)))
        (pss_cons (ps_expr (pe_bm PySem.F.plainAttrs_list PySem.F.slot_list_append PySem.F.type_list_append mt_append (pv 1) (pa_cons (pe_tup (pa_cons pe_str (pa_cons (pe_callB call_isX (by rfl) T.n_isinstance (by decide +kernel) (pa_cons (pv 0) (pa_cons (pe_glob rfl EA.a35.gC (show RelV (.ref (r.cl 35)) _ from rfl)) pa_nil))) pa_nil))) pa_nil)))
        (pss_cons (ps_expr (pe_bm PySem.F.plainAttrs_list PySem.F.slot_list_append PySem.F.type_list_append mt_append (pv 1) (pa_cons (pe_tup (pa_cons pe_str (pa_cons (pe_callB call_isX (by rfl) T.n_isinstance (by decide +kernel) (pa_cons (pv 0) (pa_cons (pe_glob rfl EA.a32.gC (show RelV (.ref (r.cl 32)) _ from rfl)) pa_nil))) pa_nil))) pa_nil)))
        (pss_one (ps_ret (pe_lc (own := [("_law_pair", 2)]) (g := gName 2) rfl sckinds.nd (pi_list (pv 1)) (blkOk_by (own := [("_law_pair", 2)]) (N := Nmkinds) (sc := defScope skinds) (by decide +kernel)) (fun _ _ _ _ _ => pg_name (i := 2) sckinds.nd rfl (Or.inl rfl)) (fun _ _ _ _ _ => pts_one (show PT _ _ (fun σ H Q => tOp (rIxT K) (tVar 2) (tC (.int 1)) σ H fun x H1 => ∃ k, TruV K x H1 k ∧ Q k H1) from pt_truth (pe_ix (show IxR _ (rIxT K) from ix_tup) (pv 2) pe_int (fun _ _ => rfl)) (by intro _; rfl))) (fun _ _ _ _ _ => (pe_ix (show IxR _ (rIxT K) from ix_tup) (pv 2) pe_int (fun _ _ => rfl))))))))))))))))))))))))))))))))))))), ?_⟩
    obtain ⟨a, i, b, d, rfl, hi, hl, ea, ed⟩ := he
    obtain ⟨_, ic, _⟩ := EA.cls hi
    have i36 := tE_lt hi
    refine ⟨(by show 0 ≤ sizeLine; decide), fun L hL => ?_⟩
    have s0 : KT H (upd H L (.lst [])) L (fK p b) [] := KT.nil hL
    generalize hz : upd H L (.lst []) = J0 at s0 ⊢
    clear hz
    refine ⟨_, rfl, .inl ⟨rfl, s0.sq⟩, _, rfl, .inr ⟨a, r.cl i, d, _, _, _, _, rfl, ic, s0.kp _ _ ea, s0.kp _ _ ed, .own _, (EA.kk i 0 i36 (by decide)), (by show 2 ≤ sizeLine; decide), fun T hT => ?_⟩⟩
    dsimp only [tNil]
    refine s0.app "InvalidNumber" (fK_cl hi (j := 0) (by rfl)) (by show 0 < 1000; decide) (fun J1 s1 => ?_) T hT
    clear hT T
    clear s0
    refine ⟨_, rfl, .inl ⟨rfl, s1.sq⟩, _, rfl, .inr ⟨a, r.cl i, d, _, _, _, _, rfl, ic, s1.kp _ _ ea, s1.kp _ _ ed, .own _, (EA.kk i 1 i36 (by decide)), (by show 2 ≤ sizeLine; decide), fun T hT => ?_⟩⟩
    dsimp only [tNil]
    refine s1.app "InvalidName" (fK_cl hi (j := 1) (by rfl)) (by show 1 < 1000; decide) (fun J2 s2 => ?_) T hT
    clear hT T
    clear s1
    refine ⟨_, rfl, .inl ⟨rfl, s2.sq⟩, _, rfl, .inr ⟨a, r.cl i, d, _, _, _, _, rfl, ic, s2.kp _ _ ea, s2.kp _ _ ed, .own _, (EA.kk i 4 i36 (by decide)), (by show 2 ≤ sizeLine; decide), fun T hT => ?_⟩⟩
    dsimp only [tNil]
    refine s2.app "InvalidRest" (fK_cl hi (j := 4) (by rfl)) (by show 2 < 1000; decide) (fun J3 s3 => ?_) T hT
    clear hT T
    clear s2
    refine ⟨_, rfl, .inl ⟨rfl, s3.sq⟩, _, rfl, .inr ⟨a, r.cl i, d, _, _, _, _, rfl, ic, s3.kp _ _ ea, s3.kp _ _ ed, .own _, (EA.kk i 5 i36 (by decide)), (by show 2 ≤ sizeLine; decide), fun T hT => ?_⟩⟩
    dsimp only [tNil]
    refine s3.app "InvalidRule" (fK_cl hi (j := 5) (by rfl)) (by show 3 < 1000; decide) (fun J4 s4 => ?_) T hT
    clear hT T
    clear s3
    refine ⟨_, rfl, .inl ⟨rfl, s4.sq⟩, _, rfl, .inr ⟨a, r.cl i, d, _, _, _, _, rfl, ic, s4.kp _ _ ea, s4.kp _ _ ed, .own _, (EA.kk i 12 i36 (by decide)), (by show 2 ≤ sizeLine; decide), fun T hT => ?_⟩⟩
    dsimp only [tNil]
    refine s4.app "InvalidParts" (fK_cl hi (j := 12) (by rfl)) (by show 4 < 1000; decide) (fun J5 s5 => ?_) T hT
    clear hT T
    clear s4
    refine ⟨_, rfl, .inl ⟨rfl, s5.sq⟩, _, rfl, .inr ⟨a, r.cl i, d, _, _, _, _, rfl, ic, s5.kp _ _ ea, s5.kp _ _ ed, .own _, (EA.kk i 14 i36 (by decide)), (by show 2 ≤ sizeLine; decide), fun T hT => ?_⟩⟩
    dsimp only [tNil]
    refine s5.app "InvalidDeed" (fK_cl hi (j := 14) (by rfl)) (by show 5 < 1000; decide) (fun J6 s6 => ?_) T hT
    clear hT T
    clear s5
    refine ⟨_, rfl, .inl ⟨rfl, s6.sq⟩, _, rfl, .inr ⟨a, r.cl i, d, _, _, _, _, rfl, ic, s6.kp _ _ ea, s6.kp _ _ ed, .own _, (EA.kk i 15 i36 (by decide)), (by show 2 ≤ sizeLine; decide), fun T hT => ?_⟩⟩
    dsimp only [tNil]
    refine s6.app "InvalidEvent" (fK_cl hi (j := 15) (by rfl)) (by show 6 < 1000; decide) (fun J7 s7 => ?_) T hT
    clear hT T
    clear s6
    refine ⟨_, rfl, .inl ⟨rfl, s7.sq⟩, _, rfl, .inr ⟨a, r.cl i, d, _, _, _, _, rfl, ic, s7.kp _ _ ea, s7.kp _ _ ed, .own _, (EA.kk i 20 i36 (by decide)), (by show 2 ≤ sizeLine; decide), fun T hT => ?_⟩⟩
    dsimp only [tNil]
    refine s7.app "Over" (fK_cl hi (j := 20) (by rfl)) (by show 7 < 1000; decide) (fun J8 s8 => ?_) T hT
    clear hT T
    clear s7
    refine ⟨_, rfl, .inl ⟨rfl, s8.sq⟩, _, rfl, .inr ⟨a, r.cl i, d, _, _, _, _, rfl, ic, s8.kp _ _ ea, s8.kp _ _ ed, .own _, (EA.kk i 2 i36 (by decide)), (by show 2 ≤ sizeLine; decide), fun T hT => ?_⟩⟩
    dsimp only [tNil]
    refine s8.app "InvalidText" (fK_cl hi (j := 2) (by rfl)) (by show 8 < 1000; decide) (fun J9 s9 => ?_) T hT
    clear hT T
    clear s8
    refine ⟨_, rfl, .inl ⟨rfl, s9.sq⟩, _, rfl, .inr ⟨a, r.cl i, d, _, _, _, _, rfl, ic, s9.kp _ _ ea, s9.kp _ _ ed, .own _, (EA.kk i 3 i36 (by decide)), (by show 2 ≤ sizeLine; decide), fun T hT => ?_⟩⟩
    dsimp only [tNil]
    refine s9.app "InvalidBorders" (fK_cl hi (j := 3) (by rfl)) (by show 9 < 1000; decide) (fun J10 s10 => ?_) T hT
    clear hT T
    clear s9
    refine ⟨_, rfl, .inl ⟨rfl, s10.sq⟩, _, rfl, .inr ⟨a, r.cl i, d, _, _, _, _, rfl, ic, s10.kp _ _ ea, s10.kp _ _ ed, .own _, (EA.kk i 6 i36 (by decide)), (by show 2 ≤ sizeLine; decide), fun T hT => ?_⟩⟩
    dsimp only [tNil]
    refine s10.app "InvalidPlace" (fK_cl hi (j := 6) (by rfl)) (by show 10 < 1000; decide) (fun J11 s11 => ?_) T hT
    clear hT T
    clear s10
    refine ⟨_, rfl, .inl ⟨rfl, s11.sq⟩, _, rfl, .inr ⟨a, r.cl i, d, _, _, _, _, rfl, ic, s11.kp _ _ ea, s11.kp _ _ ed, .own _, (EA.kk i 7 i36 (by decide)), (by show 2 ≤ sizeLine; decide), fun T hT => ?_⟩⟩
    dsimp only [tNil]
    refine s11.app "InvalidServer" (fK_cl hi (j := 7) (by rfl)) (by show 11 < 1000; decide) (fun J12 s12 => ?_) T hT
    clear hT T
    clear s11
    refine ⟨_, rfl, .inl ⟨rfl, s12.sq⟩, _, rfl, .inr ⟨a, r.cl i, d, _, _, _, _, rfl, ic, s12.kp _ _ ea, s12.kp _ _ ed, .own _, (EA.kk i 8 i36 (by decide)), (by show 2 ≤ sizeLine; decide), fun T hT => ?_⟩⟩
    dsimp only [tNil]
    refine s12.app "InvalidTree" (fK_cl hi (j := 8) (by rfl)) (by show 12 < 1000; decide) (fun J13 s13 => ?_) T hT
    clear hT T
    clear s12
    refine ⟨_, rfl, .inl ⟨rfl, s13.sq⟩, _, rfl, .inr ⟨a, r.cl i, d, _, _, _, _, rfl, ic, s13.kp _ _ ea, s13.kp _ _ ed, .own _, (EA.kk i 9 i36 (by decide)), (by show 2 ≤ sizeLine; decide), fun T hT => ?_⟩⟩
    dsimp only [tNil]
    refine s13.app "InvalidCustomer" (fK_cl hi (j := 9) (by rfl)) (by show 13 < 1000; decide) (fun J14 s14 => ?_) T hT
    clear hT T
    clear s13
    refine ⟨_, rfl, .inl ⟨rfl, s14.sq⟩, _, rfl, .inr ⟨a, r.cl i, d, _, _, _, _, rfl, ic, s14.kp _ _ ea, s14.kp _ _ ed, .own _, (EA.kk i 10 i36 (by decide)), (by show 2 ≤ sizeLine; decide), fun T hT => ?_⟩⟩
    dsimp only [tNil]
    refine s14.app "InvalidRoom" (fK_cl hi (j := 10) (by rfl)) (by show 14 < 1000; decide) (fun J15 s15 => ?_) T hT
    clear hT T
    clear s14
    refine ⟨_, rfl, .inl ⟨rfl, s15.sq⟩, _, rfl, .inr ⟨a, r.cl i, d, _, _, _, _, rfl, ic, s15.kp _ _ ea, s15.kp _ _ ed, .own _, (EA.kk i 11 i36 (by decide)), (by show 2 ≤ sizeLine; decide), fun T hT => ?_⟩⟩
    dsimp only [tNil]
    refine s15.app "InvalidRow" (fK_cl hi (j := 11) (by rfl)) (by show 15 < 1000; decide) (fun J16 s16 => ?_) T hT
    clear hT T
    clear s15
    refine ⟨_, rfl, .inl ⟨rfl, s16.sq⟩, _, rfl, .inr ⟨a, r.cl i, d, _, _, _, _, rfl, ic, s16.kp _ _ ea, s16.kp _ _ ed, .own _, (EA.kk i 13 i36 (by decide)), (by show 2 ≤ sizeLine; decide), fun T hT => ?_⟩⟩
    dsimp only [tNil]
    refine s16.app "InvalidCut" (fK_cl hi (j := 13) (by rfl)) (by show 16 < 1000; decide) (fun J17 s17 => ?_) T hT
    clear hT T
    clear s16
    refine ⟨_, rfl, .inl ⟨rfl, s17.sq⟩, _, rfl, .inr ⟨a, r.cl i, d, _, _, _, _, rfl, ic, s17.kp _ _ ea, s17.kp _ _ ed, .own _, (EA.kk i 27 i36 (by decide)), (by show 2 ≤ sizeLine; decide), fun T hT => ?_⟩⟩
    dsimp only [tNil]
    refine s17.app "Early" (fK_cl hi (j := 27) (by rfl)) (by show 17 < 1000; decide) (fun J18 s18 => ?_) T hT
    clear hT T
    clear s17
    refine ⟨_, rfl, .inl ⟨rfl, s18.sq⟩, _, rfl, .inr ⟨a, r.cl i, d, _, _, _, _, rfl, ic, s18.kp _ _ ea, s18.kp _ _ ed, .own _, (EA.kk i 28 i36 (by decide)), (by show 2 ≤ sizeLine; decide), fun T hT => ?_⟩⟩
    dsimp only [tNil]
    refine s18.app "NotPrompt" (fK_cl hi (j := 28) (by rfl)) (by show 18 < 1000; decide) (fun J19 s19 => ?_) T hT
    clear hT T
    clear s18
    refine ⟨_, rfl, .inl ⟨rfl, s19.sq⟩, _, rfl, .inr ⟨a, r.cl i, d, _, _, _, _, rfl, ic, s19.kp _ _ ea, s19.kp _ _ ed, .own _, (EA.kk i 29 i36 (by decide)), (by show 2 ≤ sizeLine; decide), fun T hT => ?_⟩⟩
    dsimp only [tNil]
    refine s19.app "Refused" (fK_cl hi (j := 29) (by rfl)) (by show 19 < 1000; decide) (fun J20 s20 => ?_) T hT
    clear hT T
    clear s19
    refine ⟨_, rfl, .inl ⟨rfl, s20.sq⟩, _, rfl, .inr ⟨a, r.cl i, d, _, _, _, _, rfl, ic, s20.kp _ _ ea, s20.kp _ _ ed, .own _, (EA.kk i 16 i36 (by decide)), (by show 2 ≤ sizeLine; decide), fun T hT => ?_⟩⟩
    dsimp only [tNil]
    refine s20.app "BadTree" (fK_cl hi (j := 16) (by rfl)) (by show 20 < 1000; decide) (fun J21 s21 => ?_) T hT
    clear hT T
    clear s20
    refine ⟨_, rfl, .inl ⟨rfl, s21.sq⟩, _, rfl, .inr ⟨a, r.cl i, d, _, _, _, _, rfl, ic, s21.kp _ _ ea, s21.kp _ _ ed, .own _, (EA.kk i 22 i36 (by decide)), (by show 2 ≤ sizeLine; decide), fun T hT => ?_⟩⟩
    dsimp only [tNil]
    refine s21.app "NoElder" (fK_cl hi (j := 22) (by rfl)) (by show 21 < 1000; decide) (fun J22 s22 => ?_) T hT
    clear hT T
    clear s21
    refine ⟨_, rfl, .inl ⟨rfl, s22.sq⟩, _, rfl, .inr ⟨a, r.cl i, d, _, _, _, _, rfl, ic, s22.kp _ _ ea, s22.kp _ _ ed, .own _, (EA.kk i 18 i36 (by decide)), (by show 2 ≤ sizeLine; decide), fun T hT => ?_⟩⟩
    dsimp only [tNil]
    refine s22.app "BadMoment" (fK_cl hi (j := 18) (by rfl)) (by show 22 < 1000; decide) (fun J23 s23 => ?_) T hT
    clear hT T
    clear s22
    refine ⟨_, rfl, .inl ⟨rfl, s23.sq⟩, _, rfl, .inr ⟨a, r.cl i, d, _, _, _, _, rfl, ic, s23.kp _ _ ea, s23.kp _ _ ed, .own _, (EA.kk i 23 i36 (by decide)), (by show 2 ≤ sizeLine; decide), fun T hT => ?_⟩⟩
    dsimp only [tNil]
    refine s23.app "WrongLetter" (fK_cl hi (j := 23) (by rfl)) (by show 23 < 1000; decide) (fun J24 s24 => ?_) T hT
    clear hT T
    clear s23
    refine ⟨_, rfl, .inl ⟨rfl, s24.sq⟩, _, rfl, .inr ⟨a, r.cl i, d, _, _, _, _, rfl, ic, s24.kp _ _ ea, s24.kp _ _ ed, .own _, (EA.kk i 24 i36 (by decide)), (by show 2 ≤ sizeLine; decide), fun T hT => ?_⟩⟩
    dsimp only [tNil]
    refine s24.app "Elsewhere" (fK_cl hi (j := 24) (by rfl)) (by show 24 < 1000; decide) (fun J25 s25 => ?_) T hT
    clear hT T
    clear s24
    refine ⟨_, rfl, .inl ⟨rfl, s25.sq⟩, _, rfl, .inr ⟨a, r.cl i, d, _, _, _, _, rfl, ic, s25.kp _ _ ea, s25.kp _ _ ed, .own _, (EA.kk i 25 i36 (by decide)), (by show 2 ≤ sizeLine; decide), fun T hT => ?_⟩⟩
    dsimp only [tNil]
    refine s25.app "NotLacking" (fK_cl hi (j := 25) (by rfl)) (by show 25 < 1000; decide) (fun J26 s26 => ?_) T hT
    clear hT T
    clear s25
    refine ⟨_, rfl, .inl ⟨rfl, s26.sq⟩, _, rfl, .inr ⟨a, r.cl i, d, _, _, _, _, rfl, ic, s26.kp _ _ ea, s26.kp _ _ ed, .own _, (EA.kk i 30 i36 (by decide)), (by show 2 ≤ sizeLine; decide), fun T hT => ?_⟩⟩
    dsimp only [tNil]
    refine s26.app "UnknownName" (fK_cl hi (j := 30) (by rfl)) (by show 26 < 1000; decide) (fun J27 s27 => ?_) T hT
    clear hT T
    clear s26
    refine ⟨_, rfl, .inl ⟨rfl, s27.sq⟩, _, rfl, .inr ⟨a, r.cl i, d, _, _, _, _, rfl, ic, s27.kp _ _ ea, s27.kp _ _ ed, .own _, (EA.kk i 34 i36 (by decide)), (by show 2 ≤ sizeLine; decide), fun T hT => ?_⟩⟩
    dsimp only [tNil]
    refine s27.app "Fallen" (fK_cl hi (j := 34) (by rfl)) (by show 27 < 1000; decide) (fun J28 s28 => ?_) T hT
    clear hT T
    clear s27
    refine ⟨_, rfl, .inl ⟨rfl, s28.sq⟩, _, rfl, .inr ⟨a, r.cl i, d, _, _, _, _, rfl, ic, s28.kp _ _ ea, s28.kp _ _ ed, .own _, (EA.kk i 35 i36 (by decide)), (by show 2 ≤ sizeLine; decide), fun T hT => ?_⟩⟩
    dsimp only [tNil]
    refine s28.app "NotFallen" (fK_cl hi (j := 35) (by rfl)) (by show 28 < 1000; decide) (fun J29 s29 => ?_) T hT
    clear hT T
    clear s28
    refine ⟨_, rfl, .inl ⟨rfl, s29.sq⟩, _, rfl, .inr ⟨a, r.cl i, d, _, _, _, _, rfl, ic, s29.kp _ _ ea, s29.kp _ _ ed, .own _, (EA.kk i 32 i36 (by decide)), (by show 2 ≤ sizeLine; decide), fun T hT => ?_⟩⟩
    dsimp only [tNil]
    refine s29.app "UnknownLoan" (fK_cl hi (j := 32) (by rfl)) (by show 29 < 1000; decide) (fun J30 s30 => ?_) T hT
    clear hT T
    clear s29
    have e30 := s30.kp
    obtain ⟨zs, eL, ln, hz, ef⟩ := s30.zip
    refine ⟨_, rfl, L, rfl, ⟨_, SqL.of eL⟩, fun C hC => ?_⟩
    refine lc_m (bs := zs) (v := fun z => V.ref z.1) (tt := fun σ H Q => tOp (rIxT K) (tVar 2) (tC (.int 1)) σ H fun x H1 => ∃ k, TruV K x H1 k ∧ Q k H1) walk_list hC (by rw [ln]; show 30 ≤ 1000000; decide) (fun H s => s.seq (SqL.of eL)) (fun z => z.2.2) (fun z => V.str z.2.1) (fun z hzz H6 Jy N s j1 j2 => ⟨rfl, _, rfl, _, _, _, _, rfl, rfl, SqT.of (s _ _ (hz z hzz)), rfl, _, rfl, ?_⟩) fun H6 s6 e6 => ?_
    · have zt := s _ _ (hz z hzz)
      cases q : z.2.2 with
      | true => exact iteT ⟨_, rfl, _, _, _, _, rfl, rfl, SqT.of zt, rfl, j1 q⟩
      | false => exact iteF (j2 q)
    exact k b _ _ ⟨i, hi⟩ (e30.trans s6) (by rw [e6, ef]; rfl)
end k00
namespace k00
open PySem L2 LC RM
def spkinds_too (r : Ar) : Sp := fun vs H Q _ => ∃ (p : Str) (ps : List Str) (us : List V) (v : V), vs = [v] ∧ ErA r H p ps us v ∧ ∀ b l H', (∃ i : Nat, tE[i]? = some (p, ps, b)) → Same H H' → H' l = some (.lst ((KN2.filter (fK p b)).map V.str)) → Q (.ref l) H'
theorem ok_kinds_too {P : Program} {w : World} {K : PySem.W.Frag} {mg : Str → Option Value} {base : Heap} {f : Addr} {fd : FuncData} (D : Def K mg "_law_kinds_too" skinds_too Pkinds_too f fd) (T : Txt K mg) {r : Ar} (EA : All P w K mg base r) :
    FnOk P w K mg base CX0 1 f fd Pkinds_too (spkinds_too r) := by
  refine D.F.ok sckinds_too (fun vs H Q E h => ?_) (fun cdv A outer s H vs Q E hr h => ?_)
  · obtain ⟨p, ps, us, v, rfl, he, k⟩ := h
    rfl
  · obtain ⟨p, ps, us, v, rfl, he, k⟩ := h
    refine ⟨_, (pss_cons (ps_set (i := 1) sckinds_too.nd rfl (Or.inl rfl) (pe_lst pa_nil))
        (pss_cons (ps_expr (pe_bm PySem.F.plainAttrs_list PySem.F.slot_list_append PySem.F.type_list_append mt_append (pv 1) (pa_cons (pe_tup (pa_cons pe_str (pa_cons (pe_callB call_isX (by rfl) T.n_isinstance (by decide +kernel) (pa_cons (pv 0) (pa_cons (pe_glob rfl EA.a33.gC (show RelV (.ref (r.cl 33)) _ from rfl)) pa_nil))) pa_nil))) pa_nil)))
        (pss_cons (ps_expr (pe_bm PySem.F.plainAttrs_list PySem.F.slot_list_append PySem.F.type_list_append mt_append (pv 1) (pa_cons (pe_tup (pa_cons pe_str (pa_cons (pe_callB call_isX (by rfl) T.n_isinstance (by decide +kernel) (pa_cons (pv 0) (pa_cons (pe_glob rfl EA.a17.gC (show RelV (.ref (r.cl 17)) _ from rfl)) pa_nil))) pa_nil))) pa_nil)))
        (pss_cons (ps_expr (pe_bm PySem.F.plainAttrs_list PySem.F.slot_list_append PySem.F.type_list_append mt_append (pv 1) (pa_cons (pe_tup (pa_cons pe_str (pa_cons (pe_callB call_isX (by rfl) T.n_isinstance (by decide +kernel) (pa_cons (pv 0) (pa_cons (pe_glob rfl EA.a19.gC (show RelV (.ref (r.cl 19)) _ from rfl)) pa_nil))) pa_nil))) pa_nil)))
        (pss_cons (ps_expr (pe_bm PySem.F.plainAttrs_list PySem.F.slot_list_append PySem.F.type_list_append mt_append (pv 1) (pa_cons (pe_tup (pa_cons pe_str (pa_cons (pe_callB call_isX (by rfl) T.n_isinstance (by decide +kernel) (pa_cons (pv 0) (pa_cons (pe_glob rfl EA.a21.gC (show RelV (.ref (r.cl 21)) _ from rfl)) pa_nil))) pa_nil))) pa_nil)))
        (pss_cons (ps_expr (pe_bm PySem.F.plainAttrs_list PySem.F.slot_list_append PySem.F.type_list_append mt_append (pv 1) (pa_cons (pe_tup (pa_cons pe_str (pa_cons (pe_callB call_isX (by rfl) T.n_isinstance (by decide +kernel) (pa_cons (pv 0) (pa_cons (pe_glob rfl EA.a31.gC (show RelV (.ref (r.cl 31)) _ from rfl)) pa_nil))) pa_nil))) pa_nil)))
        (pss_cons (ps_expr (pe_bm PySem.F.plainAttrs_list PySem.F.slot_list_append PySem.F.type_list_append mt_append (pv 1) (pa_cons (pe_tup (pa_cons pe_str (pa_cons (pe_callB call_isX (by rfl) T.n_isinstance (by decide +kernel) (pa_cons (pv 0) (pa_cons (pe_glob rfl EA.a26.gC (show RelV (.ref (r.cl 26)) _ from rfl)) pa_nil))) pa_nil))) pa_nil)))
        (pss_cons (ps_expr (pe_bm PySem.F.plainAttrs_list PySem.F.slot_list_append PySem.F.type_list_append mt_append (pv 1) (pa_cons (pe_tup (pa_cons pe_str (pa_cons (pe_callB call_isX (by rfl) T.n_isinstance (by decide +kernel) (pa_cons (pv 0) (pa_cons (pe_glob rfl EA.g0 (show RelV (.ref (r.bs 0)) _ from rfl)) pa_nil))) pa_nil))) pa_nil)))
        (pss_cons (ps_expr (pe_bm PySem.F.plainAttrs_list PySem.F.slot_list_append PySem.F.type_list_append mt_append (pv 1) (pa_cons (pe_tup (pa_cons pe_str (pa_cons (pe_callB call_isX (by rfl) T.n_isinstance (by decide +kernel) (pa_cons (pv 0) (pa_cons (pe_glob rfl EA.g1 (show RelV (.ref (r.bs 1)) _ from rfl)) pa_nil))) pa_nil))) pa_nil)))
        (pss_cons (ps_expr (pe_bm PySem.F.plainAttrs_list PySem.F.slot_list_append PySem.F.type_list_append mt_append (pv 1) (pa_cons (pe_tup (pa_cons pe_str (pa_cons (pe_callB call_isX (by rfl) T.n_isinstance (by decide +kernel) (pa_cons (pv 0) (pa_cons (pe_glob rfl EA.g2 (show RelV (.ref (r.bs 2)) _ from rfl)) pa_nil))) pa_nil))) pa_nil)))
        (pss_cons (ps_expr (pe_bm PySem.F.plainAttrs_list PySem.F.slot_list_append PySem.F.type_list_append mt_append (pv 1) (pa_cons (pe_tup (pa_cons pe_str (pa_cons (pe_callB call_isX (by rfl) T.n_isinstance (by decide +kernel) (pa_cons (pv 0) (pa_cons (pe_ty "ValueError" (by rfl) T.n_ValueError (by decide +kernel)) pa_nil))) pa_nil))) pa_nil)))
        (pss_cons (ps_expr (pe_bm PySem.F.plainAttrs_list PySem.F.slot_list_append PySem.F.type_list_append mt_append (pv 1) (pa_cons (pe_tup (pa_cons pe_str (pa_cons (pe_callB call_isX (by rfl) T.n_isinstance (by decide +kernel) (pa_cons (pv 0) (pa_cons (pe_ty "LookupError" (by rfl) T.n_LookupError (by decide +kernel)) pa_nil))) pa_nil))) pa_nil)))
        (pss_cons (ps_expr (pe_bm PySem.F.plainAttrs_list PySem.F.slot_list_append PySem.F.type_list_append mt_append (pv 1) (pa_cons (pe_tup (pa_cons pe_str (pa_cons (pe_callB call_isX (by rfl) T.n_isinstance (by decide +kernel) (pa_cons (pv 0) (pa_cons (pe_ty "RuntimeError" (by rfl) T.n_RuntimeError (by decide +kernel)) pa_nil))) pa_nil))) pa_nil)))
        (pss_cons (ps_expr (pe_bm PySem.F.plainAttrs_list PySem.F.slot_list_append PySem.F.type_list_append mt_append (pv 1) (pa_cons (pe_tup (pa_cons pe_str (pa_cons (pe_callB call_isX (by rfl) T.n_isinstance (by decide +kernel) (pa_cons (pv 0) (pa_cons (pe_ty "IndexError" (by rfl) T.n_IndexError (by decide +kernel)) pa_nil))) pa_nil))) pa_nil)))
        (pss_cons (ps_expr (pe_bm PySem.F.plainAttrs_list PySem.F.slot_list_append PySem.F.type_list_append mt_append (pv 1) (pa_cons (pe_tup (pa_cons pe_str (pa_cons (pe_callB call_isX (by rfl) T.n_isinstance (by decide +kernel) (pa_cons (pv 0) (pa_cons (pe_ty "KeyError" (by rfl) T.n_KeyError (by decide +kernel)) pa_nil))) pa_nil))) pa_nil)))
        (pss_cons (ps_expr (pe_bm PySem.F.plainAttrs_list PySem.F.slot_list_append PySem.F.type_list_append mt_append (pv 1) (pa_cons (pe_tup (pa_cons pe_str (pa_cons (pe_callB call_isX (by rfl) T.n_isinstance (by decide +kernel) (pa_cons (pv 0) (pa_cons (pe_ty "ArithmeticError" (by rfl) T.n_ArithmeticError (by decide +kernel)) pa_nil))) pa_nil))) pa_nil)))
        (pss_cons (ps_expr (pe_bm PySem.F.plainAttrs_list PySem.F.slot_list_append PySem.F.type_list_append mt_append (pv 1) (pa_cons (pe_tup (pa_cons pe_str (pa_cons (pe_callB call_isX (by rfl) T.n_isinstance (by decide +kernel) (pa_cons (pv 0) (pa_cons (pe_ty "ZeroDivisionError" (by rfl) T.n_ZeroDivisionError (by decide +kernel)) pa_nil))) pa_nil))) pa_nil)))
        (pss_cons (ps_expr (pe_bm PySem.F.plainAttrs_list PySem.F.slot_list_append PySem.F.type_list_append mt_append (pv 1) (pa_cons (pe_tup (pa_cons pe_str (pa_cons (pe_callB call_isX (by rfl) T.n_isinstance (by decide +kernel) (pa_cons (pv 0) (pa_cons (pe_ty "TypeError" (by rfl) T.n_TypeError (by decide +kernel)) pa_nil))) pa_nil))) pa_nil)))
        (pss_cons (ps_expr (pe_bm PySem.F.plainAttrs_list PySem.F.slot_list_append PySem.F.type_list_append mt_append (pv 1) (pa_cons (pe_tup (pa_cons pe_str (pa_cons (pe_callB call_isX (by rfl) T.n_isinstance (by decide +kernel) (pa_cons (pv 0) (pa_cons (pe_ty "NotImplementedError" (by rfl) T.n_NotImplementedError (by decide +kernel)) pa_nil))) pa_nil))) pa_nil)))
        (pss_one (ps_ret (pe_lc (own := [("_law_pair", 2)]) (g := gName 2) rfl sckinds_too.nd (pi_list (pv 1)) (blkOk_by (own := [("_law_pair", 2)]) (N := Nmkinds_too) (sc := defScope skinds_too) (by decide +kernel)) (fun _ _ _ _ _ => pg_name (i := 2) sckinds_too.nd rfl (Or.inl rfl)) (fun _ _ _ _ _ => pts_one (show PT _ _ (fun σ H Q => tOp (rIxT K) (tVar 2) (tC (.int 1)) σ H fun x H1 => ∃ k, TruV K x H1 k ∧ Q k H1) from pt_truth (pe_ix (show IxR _ (rIxT K) from ix_tup) (pv 2) pe_int (fun _ _ => rfl)) (by intro _; rfl))) (fun _ _ _ _ _ => (pe_ix (show IxR _ (rIxT K) from ix_tup) (pv 2) pe_int (fun _ _ => rfl))))))))))))))))))))))))), ?_⟩
    obtain ⟨a, i, b, d, rfl, hi, hl, ea, ed⟩ := he
    obtain ⟨_, ic, _⟩ := EA.cls hi
    have i36 := tE_lt hi
    refine ⟨(by show 0 ≤ sizeLine; decide), fun L hL => ?_⟩
    have s0 : KT H (upd H L (.lst [])) L (fK p b) [] := KT.nil hL
    generalize hz : upd H L (.lst []) = J0 at s0 ⊢
    clear hz
    refine ⟨_, rfl, .inl ⟨rfl, s0.sq⟩, _, rfl, .inr ⟨a, r.cl i, d, _, _, _, _, rfl, ic, s0.kp _ _ ea, s0.kp _ _ ed, .own _, (EA.kk i 33 i36 (by decide)), (by show 2 ≤ sizeLine; decide), fun T hT => ?_⟩⟩
    dsimp only [tNil]
    refine s0.app "NoSuchLetter" (fK_cl hi (j := 33) (by rfl)) (by show 0 < 1000; decide) (fun J1 s1 => ?_) T hT
    clear hT T
    clear s0
    refine ⟨_, rfl, .inl ⟨rfl, s1.sq⟩, _, rfl, .inr ⟨a, r.cl i, d, _, _, _, _, rfl, ic, s1.kp _ _ ea, s1.kp _ _ ed, .own _, (EA.kk i 17 i36 (by decide)), (by show 2 ≤ sizeLine; decide), fun T hT => ?_⟩⟩
    dsimp only [tNil]
    refine s1.app "BadReading" (fK_cl hi (j := 17) (by rfl)) (by show 1 < 1000; decide) (fun J2 s2 => ?_) T hT
    clear hT T
    clear s1
    refine ⟨_, rfl, .inl ⟨rfl, s2.sq⟩, _, rfl, .inr ⟨a, r.cl i, d, _, _, _, _, rfl, ic, s2.kp _ _ ea, s2.kp _ _ ed, .own _, (EA.kk i 19 i36 (by decide)), (by show 2 ≤ sizeLine; decide), fun T hT => ?_⟩⟩
    dsimp only [tNil]
    refine s2.app "TooMany" (fK_cl hi (j := 19) (by rfl)) (by show 2 < 1000; decide) (fun J3 s3 => ?_) T hT
    clear hT T
    clear s2
    refine ⟨_, rfl, .inl ⟨rfl, s3.sq⟩, _, rfl, .inr ⟨a, r.cl i, d, _, _, _, _, rfl, ic, s3.kp _ _ ea, s3.kp _ _ ed, .own _, (EA.kk i 21 i36 (by decide)), (by show 2 ≤ sizeLine; decide), fun T hT => ?_⟩⟩
    dsimp only [tNil]
    refine s3.app "NotHeld" (fK_cl hi (j := 21) (by rfl)) (by show 3 < 1000; decide) (fun J4 s4 => ?_) T hT
    clear hT T
    clear s3
    refine ⟨_, rfl, .inl ⟨rfl, s4.sq⟩, _, rfl, .inr ⟨a, r.cl i, d, _, _, _, _, rfl, ic, s4.kp _ _ ea, s4.kp _ _ ed, .own _, (EA.kk i 31 i36 (by decide)), (by show 2 ≤ sizeLine; decide), fun T hT => ?_⟩⟩
    dsimp only [tNil]
    refine s4.app "UnknownLot" (fK_cl hi (j := 31) (by rfl)) (by show 4 < 1000; decide) (fun J5 s5 => ?_) T hT
    clear hT T
    clear s4
    refine ⟨_, rfl, .inl ⟨rfl, s5.sq⟩, _, rfl, .inr ⟨a, r.cl i, d, _, _, _, _, rfl, ic, s5.kp _ _ ea, s5.kp _ _ ed, .own _, (EA.kk i 26 i36 (by decide)), (by show 2 ≤ sizeLine; decide), fun T hT => ?_⟩⟩
    dsimp only [tNil]
    refine s5.app "NotSettled" (fK_cl hi (j := 26) (by rfl)) (by show 5 < 1000; decide) (fun J6 s6 => ?_) T hT
    clear hT T
    clear s5
    refine ⟨_, rfl, .inl ⟨rfl, s6.sq⟩, _, rfl, .inr ⟨a, r.cl i, d, _, _, _, _, rfl, ic, s6.kp _ _ ea, s6.kp _ _ ed, .own _, (EA.kb i 0 i36 (by decide)), (by show 2 ≤ sizeLine; decide), fun T hT => ?_⟩⟩
    dsimp only [tNil]
    refine s6.app "SureletError" (fK_b hi (j := 0) (by decide)) (by show 6 < 1000; decide) (fun J7 s7 => ?_) T hT
    clear hT T
    clear s6
    refine ⟨_, rfl, .inl ⟨rfl, s7.sq⟩, _, rfl, .inr ⟨a, r.cl i, d, _, _, _, _, rfl, ic, s7.kp _ _ ea, s7.kp _ _ ed, .own _, (EA.kb i 1 i36 (by decide)), (by show 2 ≤ sizeLine; decide), fun T hT => ?_⟩⟩
    dsimp only [tNil]
    refine s7.app "Missing" (fK_b hi (j := 1) (by decide)) (by show 7 < 1000; decide) (fun J8 s8 => ?_) T hT
    clear hT T
    clear s7
    refine ⟨_, rfl, .inl ⟨rfl, s8.sq⟩, _, rfl, .inr ⟨a, r.cl i, d, _, _, _, _, rfl, ic, s8.kp _ _ ea, s8.kp _ _ ed, .own _, (EA.kb i 2 i36 (by decide)), (by show 2 ≤ sizeLine; decide), fun T hT => ?_⟩⟩
    dsimp only [tNil]
    refine s8.app "NotNow" (fK_b hi (j := 2) (by decide)) (by show 8 < 1000; decide) (fun J9 s9 => ?_) T hT
    clear hT T
    clear s8
    refine ⟨_, rfl, .inl ⟨rfl, s9.sq⟩, _, rfl, .inr ⟨a, r.cl i, d, _, _, _, _, rfl, ic, s9.kp _ _ ea, s9.kp _ _ ed, .ty _, (EA.kt i i36 "ValueError" (by decide)), (by show 2 ≤ sizeLine; decide), fun T hT => ?_⟩⟩
    dsimp only [tNil]
    refine s9.app "ValueError" (fK_t hi (t := "ValueError") (by decide)) (by show 9 < 1000; decide) (fun J10 s10 => ?_) T hT
    clear hT T
    clear s9
    refine ⟨_, rfl, .inl ⟨rfl, s10.sq⟩, _, rfl, .inr ⟨a, r.cl i, d, _, _, _, _, rfl, ic, s10.kp _ _ ea, s10.kp _ _ ed, .ty _, (EA.kt i i36 "LookupError" (by decide)), (by show 2 ≤ sizeLine; decide), fun T hT => ?_⟩⟩
    dsimp only [tNil]
    refine s10.app "LookupError" (fK_t hi (t := "LookupError") (by decide)) (by show 10 < 1000; decide) (fun J11 s11 => ?_) T hT
    clear hT T
    clear s10
    refine ⟨_, rfl, .inl ⟨rfl, s11.sq⟩, _, rfl, .inr ⟨a, r.cl i, d, _, _, _, _, rfl, ic, s11.kp _ _ ea, s11.kp _ _ ed, .ty _, (EA.kt i i36 "RuntimeError" (by decide)), (by show 2 ≤ sizeLine; decide), fun T hT => ?_⟩⟩
    dsimp only [tNil]
    refine s11.app "RuntimeError" (fK_t hi (t := "RuntimeError") (by decide)) (by show 11 < 1000; decide) (fun J12 s12 => ?_) T hT
    clear hT T
    clear s11
    refine ⟨_, rfl, .inl ⟨rfl, s12.sq⟩, _, rfl, .inr ⟨a, r.cl i, d, _, _, _, _, rfl, ic, s12.kp _ _ ea, s12.kp _ _ ed, .ty _, (EA.kt i i36 "IndexError" (by decide)), (by show 2 ≤ sizeLine; decide), fun T hT => ?_⟩⟩
    dsimp only [tNil]
    refine s12.app "IndexError" (fK_t hi (t := "IndexError") (by decide)) (by show 12 < 1000; decide) (fun J13 s13 => ?_) T hT
    clear hT T
    clear s12
    refine ⟨_, rfl, .inl ⟨rfl, s13.sq⟩, _, rfl, .inr ⟨a, r.cl i, d, _, _, _, _, rfl, ic, s13.kp _ _ ea, s13.kp _ _ ed, .ty _, (EA.kt i i36 "KeyError" (by decide)), (by show 2 ≤ sizeLine; decide), fun T hT => ?_⟩⟩
    dsimp only [tNil]
    refine s13.app "KeyError" (fK_t hi (t := "KeyError") (by decide)) (by show 13 < 1000; decide) (fun J14 s14 => ?_) T hT
    clear hT T
    clear s13
    refine ⟨_, rfl, .inl ⟨rfl, s14.sq⟩, _, rfl, .inr ⟨a, r.cl i, d, _, _, _, _, rfl, ic, s14.kp _ _ ea, s14.kp _ _ ed, .ty _, (EA.kt i i36 "ArithmeticError" (by decide)), (by show 2 ≤ sizeLine; decide), fun T hT => ?_⟩⟩
    dsimp only [tNil]
    refine s14.app "ArithmeticError" (fK_t hi (t := "ArithmeticError") (by decide)) (by show 14 < 1000; decide) (fun J15 s15 => ?_) T hT
    clear hT T
    clear s14
    refine ⟨_, rfl, .inl ⟨rfl, s15.sq⟩, _, rfl, .inr ⟨a, r.cl i, d, _, _, _, _, rfl, ic, s15.kp _ _ ea, s15.kp _ _ ed, .ty _, (EA.kt i i36 "ZeroDivisionError" (by decide)), (by show 2 ≤ sizeLine; decide), fun T hT => ?_⟩⟩
    dsimp only [tNil]
    refine s15.app "ZeroDivisionError" (fK_t hi (t := "ZeroDivisionError") (by decide)) (by show 15 < 1000; decide) (fun J16 s16 => ?_) T hT
    clear hT T
    clear s15
    refine ⟨_, rfl, .inl ⟨rfl, s16.sq⟩, _, rfl, .inr ⟨a, r.cl i, d, _, _, _, _, rfl, ic, s16.kp _ _ ea, s16.kp _ _ ed, .ty _, (EA.kt i i36 "TypeError" (by decide)), (by show 2 ≤ sizeLine; decide), fun T hT => ?_⟩⟩
    dsimp only [tNil]
    refine s16.app "TypeError" (fK_t hi (t := "TypeError") (by decide)) (by show 16 < 1000; decide) (fun J17 s17 => ?_) T hT
    clear hT T
    clear s16
    refine ⟨_, rfl, .inl ⟨rfl, s17.sq⟩, _, rfl, .inr ⟨a, r.cl i, d, _, _, _, _, rfl, ic, s17.kp _ _ ea, s17.kp _ _ ed, .ty _, (EA.kt i i36 "NotImplementedError" (by decide)), (by show 2 ≤ sizeLine; decide), fun T hT => ?_⟩⟩
    dsimp only [tNil]
    refine s17.app "NotImplementedError" (fK_t hi (t := "NotImplementedError") (by decide)) (by show 17 < 1000; decide) (fun J18 s18 => ?_) T hT
    clear hT T
    clear s17
    have e18 := s18.kp
    obtain ⟨zs, eL, ln, hz, ef⟩ := s18.zip
    refine ⟨_, rfl, L, rfl, ⟨_, SqL.of eL⟩, fun C hC => ?_⟩
    refine lc_m (bs := zs) (v := fun z => V.ref z.1) (tt := fun σ H Q => tOp (rIxT K) (tVar 2) (tC (.int 1)) σ H fun x H1 => ∃ k, TruV K x H1 k ∧ Q k H1) walk_list hC (by rw [ln]; show 18 ≤ 1000000; decide) (fun H s => s.seq (SqL.of eL)) (fun z => z.2.2) (fun z => V.str z.2.1) (fun z hzz H6 Jy N s j1 j2 => ⟨rfl, _, rfl, _, _, _, _, rfl, rfl, SqT.of (s _ _ (hz z hzz)), rfl, _, rfl, ?_⟩) fun H6 s6 e6 => ?_
    · have zt := s _ _ (hz z hzz)
      cases q : z.2.2 with
      | true => exact iteT ⟨_, rfl, _, _, _, _, rfl, rfl, SqT.of zt, rfl, j1 q⟩
      | false => exact iteF (j2 q)
    exact k b _ _ ⟨i, hi⟩ (e18.trans s6) (by rw [e6, ef]; rfl)
end k00
namespace k00
open PySem L2 LC RM
def spdict : Sp := fun vs H Q _ => ∃ (x : Addr) (xs : List V), vs = [.ref x] ∧ H x = some (.lst xs) ∧ xs.length ≤ 3 ∧ ∀ d H', H d = none → Same H H' → H' d = some (.dK (kvs3 0 xs)) → Q (.ref d) H'
theorem ok_dict {P : Program} {w : World} {K : PySem.W.Frag} {mg : Str → Option Value} {base : Heap} {f : Addr} {fd : FuncData} (D : Def K mg "_law_dict" sdict Pdict f fd) (T : Txt K mg) :
    FnOk P w K mg base CX0 1 f fd Pdict (spdict) := by
  refine D.F.ok scdict (fun vs H Q E h => ?_) (fun cdv A outer s H vs Q E hr h => ?_)
  · obtain ⟨x, xs, rfl, hx, hl, k⟩ := h
    rfl
  · obtain ⟨x, xs, rfl, hx, hl, k⟩ := h
    refine ⟨_, (pss_cons (ps_set (i := 1) scdict.nd rfl (Or.inl rfl) pe_dnewK)
        (pss_cons (ps_for PassesOwn.never rfl (pi_range1 rfl T.n_range (pa_cons (pe_callB call_len_seq (by rfl) T.n_len PySem.boot_len (pa_cons (pv 0) pa_nil)) pa_nil)) (pg_name (i := 2) scdict.nd rfl (Or.inl rfl))
          (pss_one (ps_dput (hu_of hr) (pv 1) (pe_joined (.cons pe_str (.cons (pe_fmt (pv 2)) .nil))) (pe_ix ix_list (pv 0) (pv 2) (fun _ _ => rfl)) (by rfl))))
        (pss_one (ps_ret (pv 1))))), ?_⟩
    refine fun D hD => ?_
    have sm : ∀ ys, Same H (upd H D (.dK ys)) := fun ys => same_new hD
    refine ⟨_, rfl, x, xs, rfl, .inl (SqL.of (sm _ _ _ hx)), _, rfl, by omega, by omega, ?_⟩
    refine for_range (lo := 0) (n := xs.length) (fun j σ H' => (∃ v, σ = [some (.ref x), some (.ref D), v]) ∧ H' = upd H D (.dK (kvs3 0 (xs.take j)))) ⟨⟨_, rfl⟩, rfl⟩ ?_ ?_
    · rintro j σ H' hj ⟨⟨v, rfl⟩, rfl⟩
      have hu : xs[j]? = some xs[j] := List.getElem?_eq_getElem hj
      obtain ⟨f1, f2, f3, f4⟩ := kn_fmt (j := j) (by omega)
      have ln : (kvs3 0 (xs.take j)).length < sizeLine := by
        rw [kvs_len, List.length_take, sizeLine_eq]
        omega
      refine ⟨_, rfl, _, rfl, _, _, _, _, rfl, rfl, SqL.of (sm _ _ _ hx), (by rw [Int.zero_add]; exact atI_nat hu), _, rfl, _, rfl, f2, _, rfl, .inr ⟨_, rfl, f1, _, rfl, f3, D, _, rfl, by rw [f4]; exact DPut.k upd_same ln, ⟨_, rfl⟩, ?_⟩⟩
      rw [upd_upd, kvs_put hl hu]
    · rintro σ H' ⟨⟨v, rfl⟩, rfl⟩
      refine ⟨_, rfl, k D _ hD (sm _) ?_⟩
      rw [List.take_length]
      exact upd_same
end k00
namespace k00
open PySem L2 LC RM
def spthing : Nat → Sp := fun n vs H Q _ => ∃ (g l : Addr) (m : Nat), m < n ∧ m ≤ 2 ∧ vs = [.ref g, .int m] ∧ Bag l H g ∧ ∀ v H', Dt (fun a => H a ≠ none) H' m v → Ok g l H H' → Q v H'
theorem no_thing {vs : List V} {H : Hp} {Q : VK} {E : XK} (h : spthing 0 vs H Q E) : False := by
  obtain ⟨_, _, _, h, _⟩ := h
  exact Nat.not_lt_zero _ h

theorem step_thing {P : Program} {w : World} {K : PySem.W.Frag} {mg : Str → Option Value} {base : Heap} {f : Addr} {fd : FuncData} (D : Def K mg "_law_thing" sthing Pthing f fd) (T : Txt K mg) {fdraw : Addr} {fddraw : FuncData} (Ddraw : Def K mg "_law_draw" sdraw Pdraw fdraw fddraw) (Gdraw : FnOk P w K mg base CX0 1 fdraw fddraw Pdraw (spdraw)) {fof : Addr} {fdof : FuncData} (Dof : Def K mg "_law_of" sof Pof fof fdof) (Gof : FnOk P w K mg base CX0 2 fof fdof Pof (spof K)) {fdict : Addr} {fddict : FuncData} (Ddict : Def K mg "_law_dict" sdict Pdict fdict fddict) (Gdict : FnOk P w K mg base CX0 1 fdict fddict Pdict (spdict)) {n : Nat} (Gthing : FnOk P w K mg base CX0 (n + 2) f fd Pthing (spthing n)) :
    FnOk P w K mg base CX0 (n + 3) f fd Pthing (spthing (n + 1)) := by
  refine D.F.ok scthing (fun vs H Q E h => ?_) (fun cdv A outer s H vs Q E hr h => ?_)
  · obtain ⟨g, l, m, hm, hm2, rfl, B, k⟩ := h
    rfl
  · obtain ⟨g, l, m, hm, hm2, rfl, B, k⟩ := h
    have hrdraw : Room 1 _ := hr.mono (by omega)
    have hrof : Room 2 _ := hr.mono (by omega)
    have hrdict : Room 1 _ := hr.mono (by omega)
    have Dthing := D
    have hrthing : Room (n + 2) _ := hr
    refine ⟨_, (pss_cons (ps_set (i := 2) scthing.nd rfl (Or.inl rfl) (pe_call Gdraw hrdraw rfl Ddraw.g Ddraw.F.kp Ddraw.b .nil pass0 (pa_cons (pv 0) (pa_cons (pe_ifExp (pt_cmpR op_gt (pv 1) pe_int (nomark _)) pe_int pe_int) pa_nil))))
        (pss_cons (ps_if (pt_cmpR op_eq (pv 2) pe_int (nomark _)) (pss_one (ps_ret (pe_call Gof hrof rfl Dof.g Dof.F.kp Dof.b .nil pass0 (pa_cons (pv 0) (pa_cons (pe_lst (pa_cons pe_non (pa_cons pe_bl (pa_cons pe_bl pa_nil)))) pa_nil))))) pss_nil)
        (pss_cons (ps_if (pt_cmpR op_lt (pv 2) pe_int (nomark _)) (pss_one (ps_ret (pe_call Gof hrof rfl Dof.g Dof.F.kp Dof.b .nil pass0 (pa_cons (pv 0) (pa_cons (pe_lst (pa_cons pe_int (pa_cons pe_int (pa_cons (pe_un un_neg pe_int) (pa_cons (pe_call Gdraw hrdraw rfl Ddraw.g Ddraw.F.kp Ddraw.b .nil pass0 (pa_cons (pv 0) (pa_cons pe_int pa_nil))) (pa_cons (pe_un un_neg (pe_call Gdraw hrdraw rfl Ddraw.g Ddraw.F.kp Ddraw.b .nil pass0 (pa_cons (pv 0) (pa_cons pe_int pa_nil)))) pa_nil)))))) pa_nil))))) pss_nil)
        (pss_cons (ps_if (pt_cmpR op_lt (pv 2) pe_int (nomark _)) (pss_one (ps_ret (pe_join pe_str (pe_lc (own := [("_law_k", 4)]) (g := gName 4) (tt := tYes) rfl scthing.nd (pi_range1 rfl T.n_range (pa_cons (pe_call Gdraw hrdraw rfl Ddraw.g Ddraw.F.kp Ddraw.b .nil pass0 (pa_cons (pv 0) (pa_cons pe_int pa_nil))) pa_nil)) (blkOk_by (own := [("_law_k", 4)]) (N := Nmthing) (sc := defScope sthing) (by decide +kernel)) (fun _ _ _ _ _ => pg_name (i := 4) scthing.nd rfl (Or.inl rfl)) (fun _ _ _ _ _ => pts_nil) (fun _ _ _ _ _ => (pe_call Gof hrof rfl Dof.g Dof.F.kp Dof.b .nil pass0 (pa_cons (pv 0) (pa_cons pe_str pa_nil)))))))) pss_nil)
        (pss_cons (ps_setLc (i := 3) (own := [("_law_k", 4)]) (g := gName 4) (tt := tYes) rfl scthing.nd rfl rfl (sw_true rfl rfl rfl (by decide +kernel)) (pi_range1 rfl T.n_range (pa_cons (pe_call Gdraw hrdraw rfl Ddraw.g Ddraw.F.kp Ddraw.b .nil pass0 (pa_cons (pv 0) (pa_cons pe_int pa_nil))) pa_nil)) (blkOk_by (own := [("_law_k", 4)]) (N := Nmthing) (sc := defScope sthing) (by decide +kernel)) (fun _ _ _ _ _ => pg_name (i := 4) scthing.nd rfl (Or.inl rfl)) (fun _ _ _ _ _ => pts_nil) (fun _ _ _ _ _ => (pe_call Gthing hrthing rfl Dthing.g Dthing.F.kp Dthing.b .nil pass0 (pa_cons (pv 0) (pa_cons (pe_op op_sub (pv 1) pe_int) pa_nil)))))
        (pss_cons (ps_if (pt_cmpR op_eq (pv 2) pe_int (nomark _)) (pss_one (ps_ret (pe_call Gdict hrdict rfl Ddict.g Ddict.F.kp Ddict.b .nil pass0 (pa_cons (pv 3) pa_nil)))) pss_nil)
        (pss_one (ps_ret (pe_ifExp (pt_cmpR op_eq (pv 2) pe_int (nomark _)) (pv 3) (pe_callTy call_tuple_of (by rfl) T.n_tuple (by decide +kernel) (pa_cons (pv 3) pa_nil))))))))))), ?_⟩
    refine ⟨_, rfl, _, rfl, _, _, rfl, rfl, _, rfl, ite_d (fun c0 => ⟨g, l, 11, rfl, B, by decide, by decide, fun d H1 d0 d1 r1 => ?_⟩) (fun c0 => ⟨g, l, 8, rfl, B, by decide, by decide, fun d H1 d0 d1 r1 => ?_⟩)⟩
    all_goals have dd : d < 8 ∨ 0 < m := by omega
    all_goals clear c0 d1
    all_goals refine ⟨_, rfl, rfl, _, rfl, ite_eq (fun _ => ?_) (fun _ => ?_)⟩
    iterate 2
      refine ⟨_, rfl, (by show 3 ≤ sizeLine; decide), fun p hp => of_disp (E := E0) r1 hp (by decide) (by decide) fun x H' hx _ r => k x H' ?_ r⟩
      simp only [List.mem_cons, List.not_mem_nil, or_false] at hx
      rcases hx with rfl | rfl | rfl <;> exact Dt.sc (by exact trivial) _
      refine ⟨_, rfl, _, _, rfl, rfl, _, rfl, ite_d (fun _ => ?_) (fun c4 => ?_)⟩
      · refine ⟨_, rfl, _, rfl, _, rfl, g, l, 1000000000, rfl, r1.bag, by decide, by decide, fun x1 H2 _ _ r2 => ⟨_, rfl, g, l, 1000000000, rfl, r2.bag, by decide, by decide, fun x2 H3 _ _ r3 => ⟨_, rfl, (by show 5 ≤ sizeLine; decide), fun p hp => of_disp (E := E0) ((r1.trans r2).trans r3) hp (by show 0 < 5; decide) (by show 5 ≤ 1000000; decide) fun x H' hx _ r => k x H' ?_ r⟩⟩⟩
        simp only [List.mem_cons, List.not_mem_nil, or_false] at hx
        rcases hx with rfl | rfl | rfl | rfl | rfl
        all_goals exact Dt.sc (by exact trivial) _
      refine ⟨_, rfl, _, _, rfl, rfl, _, rfl, ite_d (fun _ => ?_) (fun c8 => ?_)⟩
      · refine ⟨⟨_, rfl⟩, _, rfl, g, l, 5, rfl, r1.bag, by decide, by decide, fun d2 H2 d20 d21 r2 => ⟨_, rfl, by omega, by omega, fun D hD => ?_⟩⟩
        refine lc_draws (fun H x => ∃ c : Nat, x = V.str ⟨#[c]⟩) (r1.trans r2) hD (by omega) (fun _ => rfl) (fun x H H' t r => t) (fun x H xs ys h t => t) (fun i H3 Q3 _ r q => ?_) ?_
        · refine ⟨_, rfl, g, l, _, _, rfl, r.bag, .str (by decide) (by decide), fun x H' hx r' => q x H' ?_ r'⟩
          obtain ⟨c, _, rfl⟩ := hx
          exact ⟨c, rfl⟩
        · intro H3 xs r _ h3 hl hx
          obtain ⟨ys, rfl, hs⟩ := one_strs hx
          rw [List.length_map] at hl
          refine ⟨_, D, ys, rfl, rfl, .inl (SqL.of h3), ?_, k _ _ (Dt.sc (by exact trivial) _) r⟩
          have e : (Str.length "" : Nat) = 0 := rfl
          rw [hs, e]
          omega
      obtain ⟨j, rfl⟩ : ∃ j : Nat, m = j + 1 := ⟨m - 1, by omega⟩
      refine ⟨_, rfl, g, l, 4, rfl, r1.bag, by decide, by decide, fun d2 H2 d20 d21 r2 => ⟨_, rfl, by omega, by omega, fun D hD => ?_⟩⟩
      refine lc_dt (m := j) (r1.trans r2) hD (by omega) (fun _ => rfl) (fun i H3 Q3 _ r q => ?_) ?_
      · exact ⟨_, rfl, _, rfl, _, _, rfl, rfl, g, l, j, by omega, by omega, by show ([V.ref g, V.int (((j + 1 : Nat) : Int) - 1)] : List V) = _; rw [show ((j + 1 : Nat) : Int) - 1 = (j : Int) by omega], r.bag, fun v H' t r' => q v H' t r'⟩
      intro H3 xs r h3 hl hx
      have nD : H D = none := (r1.trans r2).free hD
      have hx2 : ∀ x ∈ xs, Dt (fun a => H a ≠ none) H3 j x := fun x z => (hx x z).to (fun a w => .inl w) fun p o _ e => e
      refine ⟨_, rfl, rfl, _, rfl, ite_eq (fun _ => ?_) (fun _ => ?_)⟩
      · refine ⟨_, rfl, D, xs, rfl, h3, by omega, fun e H4 ne s e4 => k _ H4 (.inr (.inr ⟨e, xs, rfl, fun z => z (r.free ne), e4, by omega, fun x z => (hx2 x z).same s⟩)) (r.same s)⟩
      refine ⟨_, rfl, rfl, _, rfl, ite_eq (fun _ => ?_) (fun _ => ?_)⟩
      · exact ⟨_, rfl, k _ H3 (.inr (.inl ⟨true, D, xs, rfl, fun z => z nD, h3, by omega, hx2⟩)) r⟩
      · refine ⟨_, rfl, D, xs, rfl, .inl ⟨SqL.of h3, fun t ht => ?_⟩⟩
        have s : Same H3 (upd H3 t (.tup xs)) := same_new ht
        exact k _ _ (.inr (.inl ⟨false, t, xs, rfl, fun z => z (r.free ht), upd_same, by omega, fun x z => (hx2 x z).same s⟩)) (r.same s)
theorem ok_thing {P : Program} {w : World} {K : PySem.W.Frag} {mg : Str → Option Value} {base : Heap} {f : Addr} {fd : FuncData} (D : Def K mg "_law_thing" sthing Pthing f fd) (T : Txt K mg) {fdraw : Addr} {fddraw : FuncData} (Ddraw : Def K mg "_law_draw" sdraw Pdraw fdraw fddraw) (Gdraw : FnOk P w K mg base CX0 1 fdraw fddraw Pdraw (spdraw)) {fof : Addr} {fdof : FuncData} (Dof : Def K mg "_law_of" sof Pof fof fdof) (Gof : FnOk P w K mg base CX0 2 fof fdof Pof (spof K)) {fdict : Addr} {fddict : FuncData} (Ddict : Def K mg "_law_dict" sdict Pdict fdict fddict) (Gdict : FnOk P w K mg base CX0 1 fdict fddict Pdict (spdict)) :
    FnOk P w K mg base CX0 5 f fd Pthing (spthing 3) := by
  have go : ∀ n : Nat, FnOk P w K mg base CX0 (n + 2) f fd Pthing (spthing n) := fun n => by
    induction n with
    | zero => exact LC.fn_none fun vs H Q E h => no_thing h
    | succ n ih => exact step_thing D T Ddraw Gdraw Dof Gof Ddict Gdict ih
  exact go 3
end k00
namespace k00
open PySem L2 LC RM
def spcopied : Nat → Sp := fun n vs H Q _ => ∃ (G : Addr → Prop) (v : V) (m : Nat), m < n ∧ m ≤ 3 ∧ vs = [v] ∧ (∀ a, G a → H a ≠ none) ∧ Dt G H m v ∧ ∀ v' H', Same H H' → Lg G H' m v v' → Q v' H'
theorem no_copied {vs : List V} {H : Hp} {Q : VK} {E : XK} (h : spcopied 0 vs H Q E) : False := by
  obtain ⟨_, _, _, h, _⟩ := h
  exact Nat.not_lt_zero _ h

theorem step_copied {P : Program} {w : World} {K : PySem.W.Frag} {mg : Str → Option Value} {base : Heap} {f : Addr} {fd : FuncData} (D : Def K mg "_law_copied" scopied Pcopied f fd) (T : Txt K mg) {fdict : Addr} {fddict : FuncData} (Ddict : Def K mg "_law_dict" sdict Pdict fdict fddict) (Gdict : FnOk P w K mg base CX0 1 fdict fddict Pdict (spdict)) {n : Nat} (Gcopied : FnOk P w K mg base CX0 (n + 1) f fd Pcopied (spcopied n)) :
    FnOk P w K mg base CX0 (n + 2) f fd Pcopied (spcopied (n + 1)) := by
  refine D.F.ok sccopied (fun vs H Q E h => ?_) (fun cdv A outer s H vs Q E hr h => ?_)
  · obtain ⟨G, v, m, hm, hm2, rfl, hG, dt, k⟩ := h
    rfl
  · obtain ⟨G, v, m, hm, hm2, rfl, hG, dt, k⟩ := h
    have hrdict : Room 1 _ := hr.mono (by omega)
    have Dcopied := D
    have hrcopied : Room (n + 1) _ := hr
    refine ⟨_, (pss_cons (ps_if (pt_val (pe_callB call_isi (by rfl) T.n_isinstance (by decide +kernel) (pa_cons (pv 0) (pa_cons (pe_ty "list" (by rfl) T.n_list (by decide +kernel)) pa_nil)))) (pss_one (ps_ret (pe_lc (own := [("_law_part", 1)]) (g := gName 1) (tt := tYes) rfl sccopied.nd (pi_list (pv 0)) (blkOk_by (own := [("_law_part", 1)]) (N := Nmcopied) (sc := defScope scopied) (by decide +kernel)) (fun _ _ _ _ _ => pg_name (i := 1) sccopied.nd rfl (Or.inl rfl)) (fun _ _ _ _ _ => pts_nil) (fun _ _ _ _ _ => (pe_call Gcopied hrcopied rfl Dcopied.g Dcopied.F.kp Dcopied.b .nil pass0 (pa_cons (pv 1) pa_nil)))))) pss_nil)
        (pss_cons (ps_if (pt_val (pe_callB call_isi (by rfl) T.n_isinstance (by decide +kernel) (pa_cons (pv 0) (pa_cons (pe_ty "tuple" (by rfl) T.n_tuple (by decide +kernel)) pa_nil)))) (pss_one (ps_ret (pe_callTy call_tuple_of (by rfl) T.n_tuple (by decide +kernel) (pa_cons (pe_lc (own := [("_law_part", 1)]) (g := gName 1) (tt := tYes) rfl sccopied.nd (pi_tup (pv 0)) (blkOk_by (own := [("_law_part", 1)]) (N := Nmcopied) (sc := defScope scopied) (by decide +kernel)) (fun _ _ _ _ _ => pg_name (i := 1) sccopied.nd rfl (Or.inl rfl)) (fun _ _ _ _ _ => pts_nil) (fun _ _ _ _ _ => (pe_call Gcopied hrcopied rfl Dcopied.g Dcopied.F.kp Dcopied.b .nil pass0 (pa_cons (pv 1) pa_nil)))) pa_nil)))) pss_nil)
        (pss_cons (ps_if (pt_val (pe_callB call_isi (by rfl) T.n_isinstance (by decide +kernel) (pa_cons (pv 0) (pa_cons (pe_ty "dict" (by rfl) T.n_dict (by decide +kernel)) pa_nil)))) (pss_one (ps_ret (pe_call Gdict hrdict rfl Ddict.g Ddict.F.kp Ddict.b .nil pass0 (pa_cons (pe_lc (own := [("_law_k", 2)]) (g := gName 2) (tt := tYes) rfl sccopied.nd (pi_range1 rfl T.n_range (pa_cons (pe_callB call_lenD (by rfl) T.n_len PySem.boot_len (pa_cons (pv 0) pa_nil)) pa_nil)) (blkOk_by (own := [("_law_k", 2)]) (N := Nmcopied) (sc := defScope scopied) (by decide +kernel)) (fun _ _ _ _ _ => pg_name (i := 2) sccopied.nd rfl (Or.inl rfl)) (fun _ _ _ _ _ => pts_nil) (fun _ _ _ _ _ => (pe_call Gcopied hrcopied rfl Dcopied.g Dcopied.F.kp Dcopied.b .nil pass0 (pa_cons (pe_dget (hu_of hr) (pv 0) (pe_joined (.cons pe_str (.cons (pe_fmt (pv 2)) .nil))) (fun _ _ => rfl)) pa_nil)))) pa_nil)))) pss_nil)
        (pss_one (ps_ret (pv 0)))))), ?_⟩
    have sc : Sc v → Q v H := fun h => k v H (Same.refl H) (Lg.sc h m)
    cases m with
    | zero => 
      have h : Sc v := dt
      cases v with
      | int c =>
        refine ⟨_, rfl, _, _, _, _, _, rfl, .ty _, .base (.int _), kit_ty (show kitB "int" "list" = some false by decide +kernel), _, rfl, iteF ?_⟩
        refine ⟨_, rfl, _, _, _, _, _, rfl, .ty _, .base (.int _), kit_ty (show kitB "int" "tuple" = some false by decide +kernel), _, rfl, iteF ?_⟩
        refine ⟨_, rfl, _, _, _, _, _, rfl, .ty _, .base (.int _), kit_ty (show kitB "int" "dict" = some false by decide +kernel), _, rfl, iteF ?_⟩
        exact ⟨_, rfl, sc trivial⟩
      | bl c =>
        refine ⟨_, rfl, _, _, _, _, _, rfl, .ty _, .base (.bl _), kit_ty (show kitB "bool" "list" = some false by decide +kernel), _, rfl, iteF ?_⟩
        refine ⟨_, rfl, _, _, _, _, _, rfl, .ty _, .base (.bl _), kit_ty (show kitB "bool" "tuple" = some false by decide +kernel), _, rfl, iteF ?_⟩
        refine ⟨_, rfl, _, _, _, _, _, rfl, .ty _, .base (.bl _), kit_ty (show kitB "bool" "dict" = some false by decide +kernel), _, rfl, iteF ?_⟩
        exact ⟨_, rfl, sc trivial⟩
      | str c =>
        refine ⟨_, rfl, _, _, _, _, _, rfl, .ty _, .base (.str _), kit_ty (show kitB "str" "list" = some false by decide +kernel), _, rfl, iteF ?_⟩
        refine ⟨_, rfl, _, _, _, _, _, rfl, .ty _, .base (.str _), kit_ty (show kitB "str" "tuple" = some false by decide +kernel), _, rfl, iteF ?_⟩
        refine ⟨_, rfl, _, _, _, _, _, rfl, .ty _, .base (.str _), kit_ty (show kitB "str" "dict" = some false by decide +kernel), _, rfl, iteF ?_⟩
        exact ⟨_, rfl, sc trivial⟩
      | non =>
        refine ⟨_, rfl, _, _, _, _, _, rfl, .ty _, .base (.non), kit_ty (show kitB "NoneType" "list" = some false by decide +kernel), _, rfl, iteF ?_⟩
        refine ⟨_, rfl, _, _, _, _, _, rfl, .ty _, .base (.non), kit_ty (show kitB "NoneType" "tuple" = some false by decide +kernel), _, rfl, iteF ?_⟩
        refine ⟨_, rfl, _, _, _, _, _, rfl, .ty _, .base (.non), kit_ty (show kitB "NoneType" "dict" = some false by decide +kernel), _, rfl, iteF ?_⟩
        exact ⟨_, rfl, sc trivial⟩
      | _ => exact h.elim
    | succ m =>
      rcases dt with h | ⟨b, p, xs, rfl, np, hp, hl, hx⟩ | ⟨p, xs, rfl, np, hp, hl, hx⟩
      · cases v with
        | int c =>
          refine ⟨_, rfl, _, _, _, _, _, rfl, .ty _, .base (.int _), kit_ty (show kitB "int" "list" = some false by decide +kernel), _, rfl, iteF ?_⟩
          refine ⟨_, rfl, _, _, _, _, _, rfl, .ty _, .base (.int _), kit_ty (show kitB "int" "tuple" = some false by decide +kernel), _, rfl, iteF ?_⟩
          refine ⟨_, rfl, _, _, _, _, _, rfl, .ty _, .base (.int _), kit_ty (show kitB "int" "dict" = some false by decide +kernel), _, rfl, iteF ?_⟩
          exact ⟨_, rfl, sc trivial⟩
        | bl c =>
          refine ⟨_, rfl, _, _, _, _, _, rfl, .ty _, .base (.bl _), kit_ty (show kitB "bool" "list" = some false by decide +kernel), _, rfl, iteF ?_⟩
          refine ⟨_, rfl, _, _, _, _, _, rfl, .ty _, .base (.bl _), kit_ty (show kitB "bool" "tuple" = some false by decide +kernel), _, rfl, iteF ?_⟩
          refine ⟨_, rfl, _, _, _, _, _, rfl, .ty _, .base (.bl _), kit_ty (show kitB "bool" "dict" = some false by decide +kernel), _, rfl, iteF ?_⟩
          exact ⟨_, rfl, sc trivial⟩
        | str c =>
          refine ⟨_, rfl, _, _, _, _, _, rfl, .ty _, .base (.str _), kit_ty (show kitB "str" "list" = some false by decide +kernel), _, rfl, iteF ?_⟩
          refine ⟨_, rfl, _, _, _, _, _, rfl, .ty _, .base (.str _), kit_ty (show kitB "str" "tuple" = some false by decide +kernel), _, rfl, iteF ?_⟩
          refine ⟨_, rfl, _, _, _, _, _, rfl, .ty _, .base (.str _), kit_ty (show kitB "str" "dict" = some false by decide +kernel), _, rfl, iteF ?_⟩
          exact ⟨_, rfl, sc trivial⟩
        | non =>
          refine ⟨_, rfl, _, _, _, _, _, rfl, .ty _, .base (.non), kit_ty (show kitB "NoneType" "list" = some false by decide +kernel), _, rfl, iteF ?_⟩
          refine ⟨_, rfl, _, _, _, _, _, rfl, .ty _, .base (.non), kit_ty (show kitB "NoneType" "tuple" = some false by decide +kernel), _, rfl, iteF ?_⟩
          refine ⟨_, rfl, _, _, _, _, _, rfl, .ty _, .base (.non), kit_ty (show kitB "NoneType" "dict" = some false by decide +kernel), _, rfl, iteF ?_⟩
          exact ⟨_, rfl, sc trivial⟩
        | _ => exact h.elim
      · cases b with
        | true =>
          refine ⟨_, rfl, _, _, _, _, _, rfl, .ty _, .base (.lst hp), kit_ty (show kitB "list" "list" = some true by decide +kernel), _, rfl, iteT ?_⟩
          refine ⟨_, rfl, p, rfl, ⟨_, SqL.of hp⟩, fun D hD => ?_⟩
          refine lc_cp (G := G) (m := m) (xs := xs) walk_list hD (by omega) (fun H' s => SqL.of (s _ _ hp)) (fun i x H' H2 _ y => y.1) (fun i u x H' Jy hu y s hz kk => ?_) fun H' ys s e ln r => ?_
          · have us := List.mem_of_getElem? hu
            obtain ⟨_, y⟩ := y
            rw [hu] at y
            cases y
            exact ⟨rfl, _, rfl, (fun a => G a ∨ a = D), _, m, by omega, by omega, rfl, (by
              rintro a (z | rfl)
              · exact same_occ s (hG a z)
              · obtain ⟨zs, e⟩ := hz
                rw [e]
                exact fun w => by cases w), ((hx _ us).avoid hD).same s, kk⟩
          · exact k _ H' s (.inr ⟨p, D, xs, ys, rfl, rfl, np, fun z => hG D z hD, .inl ⟨true, s _ _ hp, e⟩, ln, hl, fun i u v a c => (r i u v a c).to (fun a z => .inl z) fun p o _ e => e⟩)
        | false =>
          refine ⟨_, rfl, _, _, _, _, _, rfl, .ty _, .base (.tup hp), kit_ty (show kitB "tuple" "list" = some false by decide +kernel), _, rfl, iteF ?_⟩
          refine ⟨_, rfl, _, _, _, _, _, rfl, .ty _, .base (.tup hp), kit_ty (show kitB "tuple" "tuple" = some true by decide +kernel), _, rfl, iteT ?_⟩
          refine ⟨_, rfl, p, rfl, ⟨_, SqT.of hp⟩, fun D hD => ?_⟩
          refine lc_cp (G := G) (m := m) (xs := xs) walk_tup hD (by omega) (fun H' s => SqT.of (s _ _ hp)) (fun i x H' H2 _ y => y.1) (fun i u x H' Jy hu y s hz kk => ?_) fun H' ys s e ln r => ?_
          · have us := List.mem_of_getElem? hu
            obtain ⟨_, y⟩ := y
            rw [hu] at y
            cases y
            exact ⟨rfl, _, rfl, (fun a => G a ∨ a = D), _, m, by omega, by omega, rfl, (by
              rintro a (z | rfl)
              · exact same_occ s (hG a z)
              · obtain ⟨zs, e⟩ := hz
                rw [e]
                exact fun w => by cases w), ((hx _ us).avoid hD).same s, kk⟩
          · refine ⟨D, ys, rfl, .inl ⟨SqL.of e, fun t ht => ?_⟩⟩
            have s2 : Same H' (upd H' t (.tup ys)) := same_new ht
            exact k _ _ (s.trans s2) (.inr ⟨p, t, xs, ys, rfl, rfl, np, fun z => hG t z (same_free s ht), .inl ⟨false, s2 _ _ (s _ _ hp), upd_same⟩, ln, hl, fun i u v a c => (r i u v a c).to (fun a z => .inl z) fun p o _ e => s2 p o e⟩)
      · refine ⟨_, rfl, _, _, _, _, _, rfl, .ty _, .base (.dK hp), kit_ty (show kitB "dict" "list" = some false by decide +kernel), _, rfl, iteF ?_⟩
        refine ⟨_, rfl, _, _, _, _, _, rfl, .ty _, .base (.dK hp), kit_ty (show kitB "dict" "tuple" = some false by decide +kernel), _, rfl, iteF ?_⟩
        refine ⟨_, rfl, _, _, _, _, _, rfl, .ty _, .base (.dK hp), kit_ty (show kitB "dict" "dict" = some true by decide +kernel), _, rfl, iteT ?_⟩
        refine ⟨_, rfl, p, _, rfl, hp, ((xs.length : Nat) : Int), (by show ([V.int _] : List V) = _; rw [kvs_len]), by omega, by omega, fun D hD => ?_⟩
        refine lc_cp (G := G) (m := m) (xs := xs) (walk_range (lo := 0) (n := xs.length)) hD (by omega) (fun H' s => trivial) (fun i x H' H2 _ y => y.1) (fun i u x H' Jy hu y s hz kk => ?_) fun H' ys s e ln r => ?_
        · have us := List.mem_of_getElem? hu
          have il : i < xs.length := (List.getElem?_eq_some_iff.mp hu).1
          obtain ⟨f1, f2, f3, f4⟩ := kn_fmt (j := i) (by omega)
          obtain ⟨_, y⟩ := y
          subst y
          refine ⟨rfl, _, rfl, _, rfl, f2, _, rfl, .inr ⟨_, rfl, f1, _, rfl, f3, p, u, rfl, (by rw [f4, ← kvs_val hl hu]; exact DGet.k (s _ _ hp)), ?_⟩⟩
          exact ⟨(fun a => G a ∨ a = D), _, m, by omega, by omega, rfl, (by
              rintro a (z | rfl)
              · exact same_occ s (hG a z)
              · obtain ⟨zs, e⟩ := hz
                rw [e]
                exact fun w => by cases w), ((hx _ us).avoid hD).same s, kk⟩
        · refine ⟨D, ys, rfl, e, by omega, fun d H2 nd s2 ed => ?_⟩
          exact k _ _ (s.trans s2) (.inr ⟨p, d, xs, ys, rfl, rfl, np, fun z => hG d z (same_free s nd), .inr ⟨s2 _ _ (s _ _ hp), ed⟩, ln, hl, fun i u v a c => (r i u v a c).to (fun a z => .inl z) fun p o _ e => s2 p o e⟩)
theorem ok_copied {P : Program} {w : World} {K : PySem.W.Frag} {mg : Str → Option Value} {base : Heap} {f : Addr} {fd : FuncData} (D : Def K mg "_law_copied" scopied Pcopied f fd) (T : Txt K mg) {fdict : Addr} {fddict : FuncData} (Ddict : Def K mg "_law_dict" sdict Pdict fdict fddict) (Gdict : FnOk P w K mg base CX0 1 fdict fddict Pdict (spdict)) :
    FnOk P w K mg base CX0 5 f fd Pcopied (spcopied 4) := by
  have go : ∀ n : Nat, FnOk P w K mg base CX0 (n + 1) f fd Pcopied (spcopied n) := fun n => by
    induction n with
    | zero => exact LC.fn_none fun vs H Q E h => no_copied h
    | succ n ih => exact step_copied D T Ddict Gdict ih
  exact go 4
end k00
namespace k00
open PySem L2 LC RM
theorem tE_kind : tE.all (fun e => decide (Wp e.1 = e.2.1) && (if e.2.1.length = 1 then decide (e.1 ∈ Fp ∨ e.1 ∈ Gp) else decide (e.1 ∈ (["BadReading", "TooMany", "NotHeld", "UnknownLot", "NotSettled"] : List Str)) && (if e.1 = "NotSettled" then decide (e.2.1.length = 0) else decide (e.2.1.length = 2)))) = true := by decide +kernel
theorem kind_of {i : Nat} {p : Str} {ps : List Str} {b : Nat} (h : tE[i]? = some (p, ps, b)) : Wp p = ps ∧ (ps.length = 1 → p ∈ Fp ∨ p ∈ Gp) ∧ (ps.length ≠ 1 → p ∈ (["BadReading", "TooMany", "NotHeld", "UnknownLot", "NotSettled"] : List Str) ∧ (p = "NotSettled" → ps.length = 0) ∧ (p ≠ "NotSettled" → ps.length = 2)) := by
  have q := List.all_eq_true.mp tE_kind _ (List.mem_of_getElem? h)
  rw [Bool.and_eq_true] at q
  obtain ⟨q1, q2⟩ := q
  refine ⟨of_decide_eq_true q1, fun e => ?_, fun e => ?_⟩
  · rw [if_pos e] at q2
    exact of_decide_eq_true q2
  · rw [if_neg e, Bool.and_eq_true] at q2
    refine ⟨of_decide_eq_true q2.1, fun z => ?_, fun z => ?_⟩
    · have w := q2.2
      rw [if_pos z] at w
      exact of_decide_eq_true w
    · have w := q2.2
      rw [if_neg z] at w
      exact of_decide_eq_true w
def spmade (r : Ar) : Sp := fun vs H Q _ => ∃ (p : Str) (i : Nat) (ps : List Str) (b : Nat) (x y : V) (t : Addr) (m : Int), vs = [.str p, .ref t, .int m] ∧ tE[i]? = some (p, ps, b) ∧ H t = some (.tup [x, y]) ∧ ∀ v H', MkE r p (([x, y] : List V).take ps.length) H H' v → Q v H'
theorem ok_made {P : Program} {w : World} {K : PySem.W.Frag} {mg : Str → Option Value} {base : Heap} {f : Addr} {fd : FuncData} (D : Def K mg "_law_made" smade Pmade f fd) (T : Txt K mg) {r : Ar} (EA : All P w K mg base r) {fwords : Addr} {fdwords : FuncData} (Dwords : Def K mg "_law_words" swords Pwords fwords fdwords) (Gwords : FnOk P w K mg base CX0 1 fwords fdwords Pwords (spwords)) {ffirst : Addr} {fdfirst : FuncData} (Dfirst : Def K mg "_law_first" sfirst Pfirst ffirst fdfirst) (Gfirst : FnOk P w K mg base CX0 3 ffirst fdfirst Pfirst (spfirst r)) {fsecond : Addr} {fdsecond : FuncData} (Dsecond : Def K mg "_law_second" ssecond Psecond fsecond fdsecond) (Gsecond : FnOk P w K mg base CX0 3 fsecond fdsecond Psecond (spsecond r)) {fboth : Addr} {fdboth : FuncData} (Dboth : Def K mg "_law_both" sboth Pboth fboth fdboth) (Gboth : FnOk P w K mg base CX0 3 fboth fdboth Pboth (spboth r)) :
    FnOk P w K mg base CX0 4 f fd Pmade (spmade r) := by
  refine D.F.ok scmade (fun vs H Q E h => ?_) (fun cdv A outer s H vs Q E hr h => ?_)
  · obtain ⟨p, i, ps, b, x, y, t, m, rfl, hi, ht, k⟩ := h
    rfl
  · obtain ⟨p, i, ps, b, x, y, t, m, rfl, hi, ht, k⟩ := h
    have hrwords : Room 1 _ := hr.mono (by decide)
    have hrfirst : Room 3 _ := hr.mono (by decide)
    have hrsecond : Room 3 _ := hr.mono (by decide)
    have hrboth : Room 3 _ := hr.mono (by decide)
    refine ⟨_, (pss_cons (ps_if (pt_cmpR op_ne (pe_callB call_len_seq (by rfl) T.n_len PySem.boot_len (pa_cons (pe_call Gwords hrwords rfl Dwords.g Dwords.F.kp Dwords.b .nil pass0 (pa_cons (pv 0) pa_nil)) pa_nil)) pe_int (nomark _)) (pss_one (ps_ret (pe_call Gboth hrboth rfl Dboth.g Dboth.F.kp Dboth.b .nil pass0 (pa_cons (pv 0) (pa_cons (pe_ix ix_tup (pv 1) pe_int (fun _ _ => rfl)) (pa_cons (pe_ix ix_tup (pv 1) pe_int (fun _ _ => rfl)) (pa_cons (pv 2) pa_nil))))))) pss_nil)
        (pss_cons (ps_set (i := 3) scmade.nd rfl (Or.inl rfl) (pe_call Gfirst hrfirst rfl Dfirst.g Dfirst.F.kp Dfirst.b .nil pass0 (pa_cons (pv 0) (pa_cons (pe_ix ix_tup (pv 1) pe_int (fun _ _ => rfl)) (pa_cons (pv 2) pa_nil)))))
        (pss_one (ps_ret (pe_ifExp (pt_cmpR op_isN (pv 3) pe_non (nomark _)) (pe_call Gsecond hrsecond rfl Dsecond.g Dsecond.F.kp Dsecond.b .nil pass0 (pa_cons (pv 0) (pa_cons (pe_ix ix_tup (pv 1) pe_int (fun _ _ => rfl)) (pa_cons (pv 2) pa_nil)))) (pv 3)))))), ?_⟩
    obtain ⟨ew, k1, k2⟩ := kind_of hi
    refine ⟨_, rfl, p, rfl, fun w H1 s1 hw => ?_⟩
    rw [ew] at hw
    have ht1 := s1 _ _ ht
    have k0 : ∀ v H', MkE r p (([x, y] : List V).take ps.length) H1 H' v → Q v H' := fun v H' ⟨a, i, ps, b, d, e1, e2, e3, e4, e5, e6⟩ => k v H' ⟨a, i, ps, b, d, e1, e2, e3, e4, e5, s1.trans e6⟩
    refine ⟨w, _, rfl, .inr (SqT.of hw), rfl, _, rfl, ite_nd (fun c => ?_) (fun c => ?_)⟩
    · have c1 : ps.length ≠ 1 := fun z => c (by rw [List.length_map, z]; rfl)
      obtain ⟨k3, k4, k5⟩ := k2 c1
      refine ⟨_, rfl, _, rfl, _, _, _, _, rfl, rfl, SqT.of ht1, rfl, _, rfl, _, _, _, _, rfl, rfl, SqT.of ht1, rfl, _, rfl, p, x, y, m, rfl, k3, fun us v H' h g => k0 v H' ?_⟩
      rcases h with ⟨rfl, e⟩ | ⟨rfl, e⟩
      · rw [k4 e]
        exact g
      · rw [k5 (fun z => by rw [z] at e; revert e; decide)]
        exact g
    · have c1 : ps.length = 1 := by
        have c := V.int.inj c
        rw [List.length_map] at c
        omega
      rw [c1] at k0
      refine ⟨_, rfl, _, rfl, _, _, _, _, rfl, rfl, SqT.of ht1, rfl, _, rfl, p, x, m, rfl, fun v H' h => ?_⟩
      rcases h with h | ⟨rfl, rfl, n⟩
      · have nv : v ≠ .non := by
          obtain ⟨a, _, _, _, _, e, _⟩ := h
          rw [e]
          exact fun z => by cases z
        exact ⟨_, rfl, rfl, _, rfl, ite_d (fun z => absurd z nv) (fun _ => ⟨_, rfl, k0 v H' h⟩)⟩
      · refine ⟨_, rfl, rfl, _, rfl, ite_d (fun _ => ?_) (fun z => absurd rfl z)⟩
        refine ⟨_, rfl, _, rfl, _, _, _, _, rfl, rfl, SqT.of ht1, rfl, _, rfl, p, x, m, rfl, fun v H' h => ?_⟩
        rcases h with h | ⟨_, _, n2⟩
        · exact k0 v H' h
        · exact absurd (k1 c1) (fun z => z.elim n n2)
end k00
namespace k00
open PySem L2 LC RM
theorem due_sh : tE.all (fun e => decide (k00.Dp e.1 = KN1.filter (fK e.1 e.2.2) ++ KN2.filter (fK e.1 e.2.2)) && SeqAt.shaped (.list ((k00.Dp e.1).map PyData.str)) && PyData.eqv (.list ((k00.Dp e.1).map PyData.str)) (.list ((k00.Dp e.1).map PyData.str))) = true := by decide +kernel
theorem due_at {i : Nat} {p : Str} {ps : List Str} {b : Nat} (h : tE[i]? = some (p, ps, b)) : k00.Dp p = KN1.filter (fK p b) ++ KN2.filter (fK p b) ∧ SeqAt.shaped (.list ((k00.Dp p).map PyData.str)) = true ∧ PyData.eqv (.list ((k00.Dp p).map PyData.str)) (.list ((k00.Dp p).map PyData.str)) = true := by
  have q := List.all_eq_true.mp due_sh _ (List.mem_of_getElem? h)
  rw [Bool.and_eq_true, Bool.and_eq_true] at q
  exact ⟨of_decide_eq_true q.1.1, q.1.2, q.2⟩
def spso (r : Ar) : Sp := fun vs H Q _ => ∃ (g l : Addr) (p : Str) (i : Nat) (ps : List Str) (b : Nat), vs = [.ref g, .str p] ∧ tE[i]? = some (p, ps, b) ∧ Bag l H g ∧ ∀ H', Ok g l H H' → Q (.bl true) H'
theorem ok_so {P : Program} {w : World} {K : PySem.W.Frag} {mg : Str → Option Value} {base : Heap} {f : Addr} {fd : FuncData} (D : Def K mg "_law_so" sso Pso f fd) (T : Txt K mg) {r : Ar} (EA : All P w K mg base r) {fdraw : Addr} {fddraw : FuncData} (Ddraw : Def K mg "_law_draw" sdraw Pdraw fdraw fddraw) (Gdraw : FnOk P w K mg base CX0 1 fdraw fddraw Pdraw (spdraw)) {flike : Addr} {fdlike : FuncData} (Dlike : Def K mg "_law_like" slike Plike flike fdlike) (Glike : FnOk P w K mg base CX0 5 flike fdlike Plike (splike 5)) {fwords : Addr} {fdwords : FuncData} (Dwords : Def K mg "_law_words" swords Pwords fwords fdwords) (Gwords : FnOk P w K mg base CX0 1 fwords fdwords Pwords (spwords)) {fdue : Addr} {fddue : FuncData} (Ddue : Def K mg "_law_due" sdue Pdue fdue fddue) (Gdue : FnOk P w K mg base CX0 1 fdue fddue Pdue (spdue)) {ftold : Addr} {fdtold : FuncData} (Dtold : Def K mg "_law_told" stold Ptold ftold fdtold) (Gtold : FnOk P w K mg base CX0 1 ftold fdtold Ptold (sptold r)) {fkinds : Addr} {fdkinds : FuncData} (Dkinds : Def K mg "_law_kinds" skinds Pkinds fkinds fdkinds) (Gkinds : FnOk P w K mg base CX0 1 fkinds fdkinds Pkinds (spkinds r)) {fkinds_too : Addr} {fdkinds_too : FuncData} (Dkinds_too : Def K mg "_law_kinds_too" skinds_too Pkinds_too fkinds_too fdkinds_too) (Gkinds_too : FnOk P w K mg base CX0 1 fkinds_too fdkinds_too Pkinds_too (spkinds_too r)) {fthing : Addr} {fdthing : FuncData} (Dthing : Def K mg "_law_thing" sthing Pthing fthing fdthing) (Gthing : FnOk P w K mg base CX0 5 fthing fdthing Pthing (spthing 3)) {fcopied : Addr} {fdcopied : FuncData} (Dcopied : Def K mg "_law_copied" scopied Pcopied fcopied fdcopied) (Gcopied : FnOk P w K mg base CX0 5 fcopied fdcopied Pcopied (spcopied 4)) {fmade : Addr} {fdmade : FuncData} (Dmade : Def K mg "_law_made" smade Pmade fmade fdmade) (Gmade : FnOk P w K mg base CX0 4 fmade fdmade Pmade (spmade r)) :
    FnOk P w K mg base CX0 6 f fd Pso (spso r) := by
  refine D.F.ok scso (fun vs H Q E h => ?_) (fun cdv A outer s H vs Q E hr h => ?_)
  · obtain ⟨g, l, p, i, ps, b, rfl, hi, B, k⟩ := h
    rfl
  · obtain ⟨g, l, p, i, ps, b, rfl, hi, B, k⟩ := h
    have hrdraw : Room 1 _ := hr.mono (by decide)
    have hrlike : Room 5 _ := hr.mono (by decide)
    have hrwords : Room 1 _ := hr.mono (by decide)
    have hrdue : Room 1 _ := hr.mono (by decide)
    have hrtold : Room 1 _ := hr.mono (by decide)
    have hrkinds : Room 1 _ := hr.mono (by decide)
    have hrkinds_too : Room 1 _ := hr.mono (by decide)
    have hrthing : Room 5 _ := hr.mono (by decide)
    have hrcopied : Room 5 _ := hr.mono (by decide)
    have hrmade : Room 4 _ := hr.mono (by decide)
    refine ⟨_, (pss_cons (ps_set (i := 2) scso.nd rfl (Or.inr rfl) (pe_call Gwords hrwords rfl Dwords.g Dwords.F.kp Dwords.b .nil pass0 (pa_cons (pv 1) pa_nil)))
        (pss_cons (ps_setLc (i := 3) (own := [("_law_k", 4)]) (g := gName 4) (tt := tYes) rfl scso.nd rfl rfl (sw_true rfl rfl rfl (by decide +kernel)) (pi_range1 rfl T.n_range (pa_cons pe_int pa_nil)) (blkOk_by (own := [("_law_k", 4)]) (N := Nmso) (sc := defScope sso) (by decide +kernel)) (fun _ _ _ _ _ => pg_name (i := 4) scso.nd rfl (Or.inl rfl)) (fun _ _ _ _ _ => pts_nil) (fun _ _ _ _ _ => (pe_tup (pa_cons (pe_call Gthing hrthing rfl Dthing.g Dthing.F.kp Dthing.b .nil pass0 (pa_cons (pv 0) (pa_cons pe_int pa_nil))) (pa_cons (pe_call Gthing hrthing rfl Dthing.g Dthing.F.kp Dthing.b .nil pass0 (pa_cons (pv 0) (pa_cons pe_int pa_nil))) pa_nil)))))
        (pss_cons (ps_setLc (i := 5) (own := [("_law_pair", 7)]) (g := gName 7) (tt := tYes) rfl scso.nd rfl rfl (sw_true rfl rfl rfl (by decide +kernel)) (pi_list (pv 3)) (blkOk_by (own := [("_law_pair", 7)]) (N := Nmso) (sc := defScope sso) (by decide +kernel)) (fun _ _ _ _ _ => pg_name (i := 7) scso.nd rfl (Or.inl rfl)) (fun _ _ _ _ _ => pts_nil) (fun _ _ _ _ _ => (pe_op op_cat (pe_lst (pa_cons (pv 1) pa_nil)) (pe_slice (show SlR _ (rSlL K) from sl_list) (pe_callTy (show CallR _ (.type "list") (rLof K) from call_list_of) (by rfl) T.n_list (by decide +kernel) (pa_cons (pe_call Gcopied hrcopied rfl Dcopied.g Dcopied.F.kp Dcopied.b .nil pass0 (pa_cons (pv 7) pa_nil)) pa_nil)) po_none (po_some (pe_callB (show CallR _ (.builtin "len") (rLs K) from call_len_seq) (by rfl) T.n_len PySem.boot_len (pa_cons (pv 2) pa_nil)))))))
        (pss_cons (ps_setLc (i := 6) (own := [("_law_pair", 7)]) (g := gName 7) (tt := tYes) rfl scso.nd rfl rfl (sw_true rfl rfl rfl (by decide +kernel)) (pi_list (pv 3)) (blkOk_by (own := [("_law_pair", 7)]) (N := Nmso) (sc := defScope sso) (by decide +kernel)) (fun _ _ _ _ _ => pg_name (i := 7) scso.nd rfl (Or.inl rfl)) (fun _ _ _ _ _ => pts_nil) (fun _ _ _ _ _ => (pe_call Gmade hrmade rfl Dmade.g Dmade.F.kp Dmade.b .nil pass0 (pa_cons (pv 1) (pa_cons (pv 7) (pa_cons (pe_call Gdraw hrdraw rfl Ddraw.g Ddraw.F.kp Ddraw.b .nil pass0 (pa_cons (pv 0) (pa_cons pe_int pa_nil))) pa_nil))))))
        (pss_cons (ps_for PassesOwn.never rfl (pi_tup (pe_tup (pa_cons pe_int (pa_cons pe_int (pa_cons pe_int pa_nil))))) (pg_name (i := 4) scso.nd rfl (Or.inl rfl))
          (pss_cons (ps_if (pt_not (pt_val (pe_call Glike hrlike rfl Dlike.g Dlike.F.kp Dlike.b .nil pass0 (pa_cons (pe_call Gtold hrtold rfl Dtold.g Dtold.F.kp Dtold.b .nil pass0 (pa_cons (pe_ix ix_list (pv 6) (pv 4) (fun _ _ => rfl)) (pa_cons (pv 2) pa_nil))) (pa_cons (pe_ix ix_list (pv 5) (pv 4) (fun _ _ => rfl)) pa_nil))))) (pss_one (ps_ret pe_bl)) pss_nil)
        (pss_one (ps_if (pt_cmpR (op_neD hr.units) (pe_op op_cat (pe_call Gkinds hrkinds rfl Dkinds.g Dkinds.F.kp Dkinds.b .nil pass0 (pa_cons (pe_ix ix_list (pv 6) (pv 4) (fun _ _ => rfl)) pa_nil)) (pe_call Gkinds_too hrkinds_too rfl Dkinds_too.g Dkinds_too.F.kp Dkinds_too.b .nil pass0 (pa_cons (pe_ix ix_list (pv 6) (pv 4) (fun _ _ => rfl)) pa_nil))) (pe_call Gdue hrdue rfl Ddue.g Ddue.F.kp Ddue.b .nil pass0 (pa_cons (pv 1) pa_nil)) (nomark _)) (pss_one (ps_ret pe_bl)) pss_nil))))
        (pss_one (ps_ret (pe_call Glike hrlike rfl Dlike.g Dlike.F.kp Dlike.b .nil pass0 (pa_cons (pe_lc (own := [("_law_pair", 7)]) (g := gName 7) (tt := tYes) rfl scso.nd (pi_list (pv 3)) (blkOk_by (own := [("_law_pair", 7)]) (N := Nmso) (sc := defScope sso) (by decide +kernel)) (fun _ _ _ _ _ => pg_name (i := 7) scso.nd rfl (Or.inl rfl)) (fun _ _ _ _ _ => pts_nil) (fun _ _ _ _ _ => (pe_slice (show SlR _ (rSlL K) from sl_list) (pe_callTy (show CallR _ (.type "list") (rLof K) from call_list_of) (by rfl) T.n_list (by decide +kernel) (pa_cons (pv 7) pa_nil)) po_none (po_some (pe_callB (show CallR _ (.builtin "len") (rLs K) from call_len_seq) (by rfl) T.n_len PySem.boot_len (pa_cons (pv 2) pa_nil)))))) (pa_cons (pe_lc (own := [("_law_due_here", 8)]) (g := gName 8) (tt := tYes) rfl scso.nd (pi_list (pv 5)) (blkOk_by (own := [("_law_due_here", 8)]) (N := Nmso) (sc := defScope sso) (by decide +kernel)) (fun _ _ _ _ _ => pg_name (i := 8) scso.nd rfl (Or.inl rfl)) (fun _ _ _ _ _ => pts_nil) (fun _ _ _ _ _ => (pe_slice (show SlR _ (rSlL K) from sl_list) (pv 8) (po_some pe_int) po_none))) pa_nil)))))))))), ?_⟩
    have h2 := (tE_get hi).2.2.1
    refine ⟨_, rfl, p, rfl, fun W H1 s1 hW => ?_⟩
    rw [(kind_of hi).1] at hW
    have R1 : Ok g l H H1 := (Ok.refl B).same s1
    refine ⟨_, rfl, by decide, by decide, fun D1 hD1 => ?_⟩
    have g1 : H1 g ≠ none := fun z => (R1.bag.ne z).1 rfl
    have nW : W ≠ g := fun z => by
      obtain ⟨⟨xs, q⟩, _⟩ := R1.bag.there
      rw [z, q] at hW
      cases hW
    refine lc_one (xs := [V.int 0, V.int 1]) (walk_range (lo := 0) (n := 2)) (fun Hx _ y => Pr (fun a => H1 a ≠ none ∨ a = D1) Hx y) R1 hD1 (by decide) (fun _ _ => trivial) (fun i x H H' _ y => y.1) ?_ ?_ ?_ ?_
    · exact fun u y Ha Hb h o => h.to (fun _ z => z) fun q o' nq e => o.kp q o' (fun z => nq (.inl (by rw [z]; exact g1))) e
    · exact fun u y Hx zs ys _ h => h.to (fun _ z => z) fun q o nq e => by rw [upd_ne (fun z : q = D1 => nq (.inr z))]; exact e
    · intro i u x Hx Jy _ y R ⟨zs, hz⟩ kk
      obtain ⟨_, y⟩ := y
      refine ⟨rfl, _, rfl, g, l, 2, by decide, by decide, rfl, R.bag, fun v1 H2 d1 r1 => ⟨_, rfl, g, l, 2, by decide, by decide, rfl, r1.bag, fun v2 H3 d2 r2 => ⟨(by show 2 ≤ sizeLine; decide), fun T hT => kk _ _ ⟨T, v1, v2, rfl, ?_, upd_same, ?_, ?_⟩ ((r1.trans r2).new hT)⟩⟩⟩
      · rintro (z | rfl)
        · exact z ((R.trans (r1.trans r2)).free hT)
        · rw [(r1.trans r2).free hT] at hz
          cases hz
      · refine d1.to (fun a z => ?_) fun q o nq e => ?_
        · rcases z with z | rfl
          · exact fun w => z (R.free w)
          · rw [hz]
            exact fun w => by cases w
        · have e3 := r2.kp q o (fun z => nq (by rw [z]; exact fun w => (R.bag.ne w).1 rfl)) e
          rw [upd_ne (ne_of_none e3 hT)]
          exact e3
      · refine d2.to (fun a z => ?_) fun q o nq e => ?_
        · rcases z with z | rfl
          · exact fun w => z ((R.trans r1).free w)
          · exact fun w => by rw [r1.free w] at hz; cases hz
        · rw [upd_ne (ne_of_none e hT)]
          exact e
    intro H4 ys R4 R4' e4 ln hp
    have hps : ∀ v ∈ ys, Pr (fun a => H1 a ≠ none ∨ a = D1) H4 v := fun v hv => by
      obtain ⟨j, hj, e⟩ := List.mem_iff_getElem.mp hv
      have hj2 : j < [V.int 0, V.int 1].length := ln ▸ hj
      exact hp j _ _ (List.getElem?_eq_getElem hj2) (by rw [List.getElem?_eq_getElem hj, e])
    clear hp
    have hW4 := R4'.kp W _ nW hW
    have nD1 := (R1.bag.ne hD1).1
    -- the dues
    refine ⟨_, rfl, D1, rfl, ⟨_, SqL.of e4⟩, fun D2 hD2 => ?_⟩
    have nD2 := (R4.bag.ne hD2).1
    refine lc_one (xs := ys) (walk_list (K := K) (a := D1)) (fun Hx u v => Du (fun a => (H1 a ≠ none ∨ a = D1) ∨ a = D2) p ps.length Hx u v) (Ok.refl R4.bag) hD2 (by rw [← ln]; decide) (fun Hx o => SqL.of (o.kp D1 _ nD1 e4)) (fun i x H H' _ y => y.1) ?_ ?_ ?_ ?_
    · exact fun u y Ha Hb h o => h.to (fun _ z => z) fun q o' nq e => o.kp q o' (fun z => nq (.inl (.inl (by rw [z]; exact g1)))) e
    · exact fun u y Hx zs ys _ h => h.to (fun _ z => z) fun q o nq e => by rw [upd_ne (fun z : q = D2 => nq (.inr z))]; exact e
    · intro j u x Hx Jy hu y R ⟨zs, hz⟩ kk
      obtain ⟨_, y⟩ := y
      rw [hu] at y
      cases y
      obtain ⟨T, x, y, rfl, nT, hT, dx, dy⟩ := (hps _ (List.mem_of_getElem? hu))
      refine ⟨rfl, _, rfl, (by show 1 ≤ sizeLine; decide), fun L1 hL1 => ?_⟩
      have nT2 : ¬ ((H1 T ≠ none ∨ T = D1) ∨ T = D2) := by
        rintro (z | rfl)
        · exact nT z
        · rw [hT] at hD2
          cases hD2
      have gx : Same Hx (upd Hx L1 (.lst [V.str p])) := same_new hL1
      have mv : ∀ q o, ¬ ((H1 q ≠ none ∨ q = D1) ∨ q = D2) → H4 q = some o → upd Hx L1 (.lst [V.str p]) q = some o := fun q o nq e => gx _ _ (R.kp q o (fun z => nq (.inl (.inl (by rw [z]; exact g1)))) e)
      have dx2 := (dx.avoid hD2).to (fun _ z => z) mv
      have dy2 := (dy.avoid hD2).to (fun _ z => z) mv
      have hT2 := mv T _ nT2 hT
      have hW5 := gx _ _ (R.kp W _ nW hW4)
      have hL1' : upd Hx L1 (.lst [V.str p]) L1 = some (.lst [V.str p]) := upd_same
      have rL1 : Ok g l Hx (upd Hx L1 (.lst [V.str p])) := (Ok.refl R.bag).new hL1
      have fL1 : ∀ a, upd Hx L1 (.lst [V.str p]) a = none → Hx a = none := fun a z => same_free gx z
      generalize upd Hx L1 (.lst [V.str p]) = J1 at gx mv dx2 dy2 hT2 hW5 hL1' rL1 fL1 ⊢
      refine ⟨_, rfl, fun a => (H1 a ≠ none ∨ a = D1) ∨ a = D2, _, 3, by decide, by decide, rfl, ?_, .inr (.inl ⟨false, T, [x, y], rfl, nT2, hT2, by show 2 ≤ 3; decide, ?_⟩), fun v' J2 s5 lg => ?_⟩
      · rintro a ((z | rfl) | rfl)
        · exact fun w => z ((R4'.trans (R.trans rL1)).free w)
        · rw [rL1.kp _ _ nD1 (R.kp _ _ nD1 e4)]
          exact fun w => by cases w
        · rw [rL1.kp _ _ nD2 hz]
          exact fun w => by cases w
      · intro v hv
        rcases List.mem_cons.mp hv with rfl | hv
        · exact dx2
        · obtain rfl := List.mem_singleton.mp hv
          exact dy2
      obtain ⟨T', x', y', rfl, nT', hT', lx, ly⟩ := lg_pair (s5 _ _ hT2) lg
      refine ⟨T', [x', y'], rfl, .inr (SqT.of hT'), fun L2 hL2 => ?_⟩
      have g3 : Same J2 (upd J2 L2 (.lst [x', y'])) := same_new hL2
      have ec : cutV [x', y'] none (some (((ps.map V.str).length : Nat) : Int)) = [x', y'].take ps.length := by rw [List.length_map]; exact cut_take h2
      refine ⟨_, rfl, W, ps.map V.str, rfl, .inr (SqT.of (g3 _ _ (s5 _ _ hW5))), _, rfl, L2, [x', y'], rfl, SqL.of upd_same, fun L3 hL3 => ?_⟩
      rw [ec]
      have g4 : Same J2 (upd (upd J2 L2 (.lst [x', y'])) L3 (.lst ([x', y'].take ps.length))) := g3.trans (same_new hL3)
      have h3 : upd (upd J2 L2 (.lst [x', y'])) L3 (.lst ([x', y'].take ps.length)) L3 = some (.lst ([x', y'].take ps.length)) := upd_same
      generalize upd (upd J2 L2 (.lst [x', y'])) L3 (.lst ([x', y'].take ps.length)) = J4 at g4 h3 ⊢
      refine ⟨L1, L3, [.str p], _, rfl, rfl, g4 _ _ (s5 _ _ hL1'), h3, ?_, fun E hE => ?_⟩
      · rw [List.length_take, sizeLine_eq]
        show 1 + min ps.length 2 ≤ _
        omega
      have g5 : Same J2 (upd J4 E (.lst ([.str p] ++ [x', y'].take ps.length))) := g4.trans (same_new hE)
      have g6 : Same J1 (upd J4 E (.lst ([.str p] ++ [x', y'].take ps.length))) := s5.trans g5
      refine kk _ _ ⟨T, E, x, y, x', y', rfl, rfl, nT2, ?_, g6 _ _ hT2, upd_same, lx.to (fun _ z => z) fun q o _ e => g5 _ _ e, ly.to (fun _ z => z) fun q o _ e => g5 _ _ e⟩ (rL1.same g6)
      have fE : J1 E = none := same_free s5 (same_free g4 hE)
      rintro ((z | rfl) | rfl)
      · exact z ((R4'.trans (R.trans rL1)).free fE)
      · rw [rL1.kp _ _ nD1 (R.kp _ _ nD1 e4)] at fE
        cases fE
      · rw [rL1.kp _ _ nD2 hz] at fE
        cases fE
    · intro H5 ds _ R5 e5 ln5 hd
      -- the errors
      have e45 := R5.kp D1 _ nD1 e4
      have hW5 := R5.kp W _ nW hW4
      refine ⟨_, rfl, D1, rfl, ⟨_, SqL.of e45⟩, fun D3 hD3 => ?_⟩
      have nD3 := (R5.bag.ne hD3).1
      have lstg : ∀ {a c : Hp}, Ok g l a c → ∀ q o, (∀ zs, o ≠ HO.lst zs) → a q = some o → c q = some o := fun o q o' n e => o.kp q o' (fun z => by
        obtain ⟨⟨xs, w⟩, _⟩ := o.b0.there
        rw [z, w] at e
        cases e
        exact n _ rfl) e
      refine lc_one (xs := ys) (walk_list (K := K) (a := D1)) (fun Hx u v => Er r p ps Hx u v) (Ok.refl R5.bag) hD3 (by rw [← ln]; decide) (fun Hx o => SqL.of (o.kp D1 _ nD1 e45)) (fun i x H H' _ y => y.1) ?_ ?_ ?_ ?_
      · exact fun u y Ha Hb h o => h.to (lstg o)
      · exact fun u y Hx zs ys hz h => h.to fun q o n e => by rw [upd_ne (fun w : q = D3 => n zs (by rw [w, hz] at e; exact (Option.some.inj e).symm))]; exact e
      · intro j u x Hx Jy hu y R ⟨zs, hz⟩ kk
        obtain ⟨_, y⟩ := y
        rw [hu] at y
        cases y
        obtain ⟨T, x, y, rfl, nT, hT, dx, dy⟩ := (hps _ (List.mem_of_getElem? hu))
        have nTg : T ≠ g := fun w => nT (.inl (by rw [w]; exact g1))
        refine ⟨rfl, _, rfl, _, rfl, _, rfl, g, l, 4, rfl, R.bag, by decide, by decide, fun d H' d0 d1 r' => ?_⟩
        have hT' := r'.kp T _ nTg (R.kp T _ nTg (R5.kp T _ nTg hT))
        refine ⟨p, i, ps, b, x, y, T, d, rfl, hi, hT', fun v H2 m => ?_⟩
        obtain ⟨er, sm⟩ := m.er hi
        exact kk v H2 ⟨T, x, y, rfl, sm _ _ hT', er⟩ (r'.same sm)
      intro H6 es _ R6 e6 ln6 he
      have ed6 := R6.kp D2 _ nD2 e5
      have ey6 := R6.kp D1 _ nD1 e45
      have hW6 := R6.kp W _ nW hW5
      have hd6 : ∀ (i : Nat) (u v : V), ys[i]? = some u → ds[i]? = some v → Du (fun a => (H1 a ≠ none ∨ a = D1) ∨ a = D2) p ps.length H6 u v := fun i u v a c => (hd i u v a c).to (fun _ z => z) fun q o nq e => R6.kp q o (fun z => nq (.inl (.inl (by rw [z]; exact g1)))) e
      clear hd
      have two : ∀ (j : Nat), j < 2 → ∃ (u d e : V), ys[j]? = some u ∧ ds[j]? = some d ∧ es[j]? = some e ∧ ∃ (T E : Addr) (x y x' y' : V), u = .ref T ∧ d = .ref E ∧ ¬ ((H1 T ≠ none ∨ T = D1) ∨ T = D2) ∧ ¬ ((H1 E ≠ none ∨ E = D1) ∨ E = D2) ∧ H6 T = some (.tup [x, y]) ∧ H6 E = some (.lst (.str p :: [x', y'].take ps.length)) ∧ Lg (fun a => (H1 a ≠ none ∨ a = D1) ∨ a = D2) H6 2 x x' ∧ Lg (fun a => (H1 a ≠ none ∨ a = D1) ∨ a = D2) H6 2 y y' ∧ ErA r H6 p ps ([x, y].take ps.length) e := fun j hj => by
        have ln2 : 2 = ys.length := ln
        have a1 : ys[j]? = some (ys[j]'(by omega)) := List.getElem?_eq_getElem (by omega)
        have a2 : ds[j]? = some (ds[j]'(by omega)) := List.getElem?_eq_getElem (by omega)
        have a3 : es[j]? = some (es[j]'(by omega)) := List.getElem?_eq_getElem (by omega)
        exact ⟨_, _, _, a1, a2, a3, Er.two (hd6 j _ _ a1 a2) (he j _ _ a1 a3)⟩
      refine ⟨(by show 3 ≤ sizeLine; decide), fun tp htp => ?_⟩
      have s7 : Same H6 (upd H6 tp (.tup [V.int 1, V.int 0, V.int 1])) := same_new htp
      have etp : upd H6 tp (.tup [V.int 1, V.int 0, V.int 1]) tp = some (.tup [V.int 1, V.int 0, V.int 1]) := upd_same
      generalize upd H6 tp (.tup [V.int 1, V.int 0, V.int 1]) = H7 at s7 etp ⊢
      refine ⟨tp, rfl, ⟨_, SqT.of etp⟩, for_tup (K := K) (a := tp) (xs := [V.int 1, V.int 0, V.int 1]) (fun i σ H' => (∃ v : Option V, σ = [some (.ref g), some (.str p), some (.ref W), some (.ref D1), v, some (.ref D2), some (.ref D3), none, none]) ∧ Same H7 H') ⟨⟨_, rfl⟩, Same.refl H7⟩ (fun i σ H' _ ⟨_, z⟩ => SqT.of (z _ _ etp)) ?_ ?_⟩
      · rintro m z σ H' hm ⟨⟨v, rfl⟩, sH⟩
        obtain ⟨j, j2, rfl⟩ : ∃ j : Nat, j < 2 ∧ z = V.int (j : Int) := by
          match m, hm with
          | 0, hm => exact ⟨1, by decide, by cases hm; rfl⟩
          | 1, hm => exact ⟨0, by decide, by cases hm; rfl⟩
          | 2, hm => exact ⟨1, by decide, by cases hm; rfl⟩
        obtain ⟨u, d, e, a1, a2, a3, T, E, x, y, x', y', rfl, rfl, nT, nE, hT, hE, lx, ly, er⟩ := two j j2
        have sA := s7.trans sH
        have er' := er.to (H' := H') fun q o _ z => sA q o z
        refine ⟨_, rfl, _, rfl, D3, es, _, e, rfl, rfl, SqL.of (sA _ _ e6), atI_nat a3, _, rfl, p, ps, _, e, W, rfl, er', sA _ _ hW6, fun L0 H8 s8 h8 => ?_⟩
        have sB := sA.trans s8
        refine ⟨_, rfl, _, rfl, D2, ds, _, _, rfl, rfl, SqL.of (sB _ _ ed6), atI_nat a2, .ref L0, .ref E, 3, rfl, by decide, by decide, ?_, fun H9 s9 => ?_⟩
        · refine lq_lst h8 (sB _ _ hE) (by rw [List.length_cons, List.length_cons, take_len]) (by rw [List.length_cons, List.length_take]; show min ps.length 2 + 1 ≤ 100; omega) fun i u v a c => ?_
          match i, a, c with
          | 0, a, c =>
            cases a
            cases c
            exact Lq.sc (by exact trivial) 2
          | i + 1, a, c => exact take_pair (P := fun u v => Lq H8 2 u v) (lx.lq.same sB) (ly.lq.same sB) h2 i u v a c
        refine ⟨_, rfl, iteF ?_⟩
        have sC := sB.trans s9
        refine ⟨_, rfl, _, rfl, D3, es, _, e, rfl, rfl, SqL.of (sC _ _ e6), atI_nat a3, p, ps, _, e, rfl, er.to (H' := H9) fun q o _ z => sC q o z, fun b1 L1 H10 ⟨i1, hi1⟩ s10 h10 => ?_⟩
        have eb1 := tE_uniq hi hi1
        subst eb1
        have sD := sC.trans s10
        refine ⟨_, rfl, _, rfl, D3, es, _, e, rfl, rfl, SqL.of (sD _ _ e6), atI_nat a3, p, ps, _, e, rfl, er.to (H' := H10) fun q o _ z => sD q o z, fun b2 L2 H11 ⟨i2, hi2⟩ s11 h11 => ?_⟩
        have eb2 := tE_uniq hi hi2
        subst eb2
        obtain ⟨q1, q2, q3⟩ := due_at hi
        refine ⟨L1, L2, _, _, rfl, rfl, s11 _ _ h10, h11, ?_, fun L3 hL3 => ?_⟩
        · rw [← List.length_append, ← List.map_append, List.length_map, List.length_append, sizeLine_eq]
          have l1 := List.length_filter_le (fK p b2) KN1
          have l2 := List.length_filter_le (fK p b2) KN2
          have l3 : KN1.length = 30 := rfl
          have l4 : KN2.length = 18 := rfl
          omega
        rw [← List.map_append, ← q1]
        have s12 : Same H11 (upd H11 L3 (.lst ((k00.Dp p).map V.str))) := same_new hL3
        have h12 : upd H11 L3 (.lst ((k00.Dp p).map V.str)) L3 = some (.lst ((k00.Dp p).map V.str)) := upd_same
        generalize upd H11 L3 (.lst ((k00.Dp p).map V.str)) = H12 at s12 h12 ⊢
        refine ⟨_, rfl, p, rfl, fun L4 H13 s13 h13 => ?_⟩
        refine ⟨.list ((k00.Dp p).map PyData.str), .list ((k00.Dp p).map PyData.str), .lst (SqL.of (s13 _ _ h12)) (dp_strs _), .lst (SqL.of h13) (dp_strs _), q2, q2, _, rfl, ?_⟩
        rw [q3]
        exact iteF ⟨⟨_, rfl⟩, sH.trans (s8.trans (s9.trans (s10.trans (s11.trans (s12.trans s13)))))⟩
      · rintro σ H' ⟨⟨v, rfl⟩, sH⟩
        have sA := s7.trans sH
        have R7 : Ok g l H6 H' := (Ok.refl R6.bag).same sA
        refine ⟨_, rfl, D1, rfl, ⟨_, SqL.of (sA _ _ ey6)⟩, fun D4 hD4 => ?_⟩
        have nD4 := (R7.bag.ne hD4).1
        refine lc_one (xs := ys) (walk_list (K := K) (a := D1)) (fun Hx u v => ∃ (T L : Addr) (x y : V), u = .ref T ∧ v = .ref L ∧ L ≠ g ∧ L ≠ D4 ∧ T ≠ g ∧ T ≠ D4 ∧ Hx T = some (.tup [x, y]) ∧ Hx L = some (.lst ([x, y].take ps.length))) R7 hD4 (by rw [← ln]; decide) (fun Hx o => SqL.of (o.kp D1 _ nD1 (sA _ _ ey6))) (fun i x H H' _ y => y.1) ?_ ?_ ?_ ?_
        · exact fun u y Ha Hb ⟨T, L, x, y', c1, c2, c3, c4, c5, c6, c7, c8⟩ o => ⟨T, L, x, y', c1, c2, c3, c4, c5, c6, o.kp _ _ c5 c7, o.kp _ _ c3 c8⟩
        · exact fun u y Hx zs ys _ ⟨T, L, x, y', c1, c2, c3, c4, c5, c6, c7, c8⟩ => ⟨T, L, x, y', c1, c2, c3, c4, c5, c6, by rw [upd_ne c6]; exact c7, by rw [upd_ne c4]; exact c8⟩
        · intro j u x Hx Jy hu y R ⟨zs, hz⟩ kk
          obtain ⟨_, y⟩ := y
          rw [hu] at y
          cases y
          have j2 : j < 2 := by
            have ln2 : 2 = ys.length := ln
            have := (List.getElem?_eq_some_iff.mp hu).1
            omega
          obtain ⟨u, d, e, a1, a2, a3, T, E, x, y, x', y', rfl, rfl, nT, nE, hT, hE, lx, ly, er⟩ := two j j2
          rw [hu] at a1
          cases a1
          have nTg : T ≠ g := fun w => nT (.inl (.inl (by rw [w]; exact g1)))
          have hTx := R.kp T _ nTg (sA _ _ hT)
          have nT4 : T ≠ D4 := fun w => by rw [w, hz] at hTx; cases hTx
          have hWx := R.kp W _ nW (sA _ _ hW6)
          have ec : cutV [x, y] none (some (((ps.map V.str).length : Nat) : Int)) = [x, y].take ps.length := by rw [List.length_map]; exact cut_take h2
          refine ⟨rfl, _, rfl, T, [x, y], rfl, .inr (SqT.of hTx), fun La hLa => ?_⟩
          have s1 : Same Hx (upd Hx La (.lst [x, y])) := same_new hLa
          refine ⟨_, rfl, W, ps.map V.str, rfl, .inr (SqT.of (s1 _ _ hWx)), _, rfl, La, [x, y], rfl, SqL.of upd_same, fun Lb hLb => ?_⟩
          rw [ec]
          have s2 : Same Hx (upd (upd Hx La (.lst [x, y])) Lb (.lst ([x, y].take ps.length))) := s1.trans (same_new hLb)
          have nb := R.bag.ne (same_free s1 hLb)
          exact kk _ _ ⟨T, Lb, x, y, rfl, rfl, nb.1, (fun w => by rw [← w, same_free s1 hLb] at hz; cases hz), nTg, nT4, s2 _ _ hTx, upd_same⟩ ((Ok.refl R.bag).same s2)
        intro H8 as R8 R8' e8 ln8 ha
        have kq : ∀ q o, q ≠ g → H6 q = some o → H8 q = some o := fun q o n z => R8'.kp q o n (sA _ _ z)
        have ed8 := kq _ _ nD2 ed6
        refine ⟨_, rfl, D2, rfl, ⟨_, SqL.of ed8⟩, fun D5 hD5 => ?_⟩
        have nD5 := (R8.bag.ne hD5).1
        refine lc_one (xs := ds) (walk_list (K := K) (a := D2)) (fun Hx u v => ∃ (E L : Addr) (zs : List V), u = .ref E ∧ v = .ref L ∧ L ≠ g ∧ L ≠ D5 ∧ E ≠ g ∧ E ≠ D5 ∧ Hx E = some (.lst (.str p :: zs)) ∧ Hx L = some (.lst zs)) R8 hD5 (by rw [← ln5, ← ln]; decide) (fun Hx o => SqL.of (o.kp D2 _ nD2 ed8)) (fun i x H H' _ y => y.1) ?_ ?_ ?_ ?_
        · exact fun u y Ha Hb ⟨T, L, zs, c1, c2, c3, c4, c5, c6, c7, c8⟩ o => ⟨T, L, zs, c1, c2, c3, c4, c5, c6, o.kp _ _ c5 c7, o.kp _ _ c3 c8⟩
        · exact fun u y Hx zs ys _ ⟨T, L, zs', c1, c2, c3, c4, c5, c6, c7, c8⟩ => ⟨T, L, zs', c1, c2, c3, c4, c5, c6, by rw [upd_ne c6]; exact c7, by rw [upd_ne c4]; exact c8⟩
        · intro j u x Hx Jy hu y R ⟨zs, hz⟩ kk
          obtain ⟨_, y⟩ := y
          rw [hu] at y
          cases y
          have j2 : j < 2 := by
            have ln2 : 2 = ys.length := ln
            have := (List.getElem?_eq_some_iff.mp hu).1
            omega
          obtain ⟨u, d, e, a1, a2, a3, T, E, x, y, x', y', rfl, rfl, nT, nE, hT, hE, lx, ly, er⟩ := two j j2
          rw [hu] at a2
          cases a2
          have nEg : E ≠ g := fun w => nE (.inl (.inl (by rw [w]; exact g1)))
          have hE8 := kq E _ nEg hE
          have hEx := R.kp E _ nEg hE8
          have nE5 : E ≠ D5 := fun w => by rw [w, hD5] at hE8; cases hE8
          have ec : cutV (V.str p :: [x', y'].take ps.length) (some 1) none = [x', y'].take ps.length := cut_tail h2
          refine ⟨rfl, _, rfl, _, rfl, E, _, rfl, SqL.of hEx, fun Lb hLb => ?_⟩
          rw [ec]
          have s2 : Same Hx (upd Hx Lb (.lst ([x', y'].take ps.length))) := same_new hLb
          have nb := R.bag.ne hLb
          exact kk _ _ ⟨E, Lb, _, rfl, rfl, nb.1, (fun w => by rw [← w, hLb] at hz; cases hz), nEg, nE5, s2 _ _ hEx, upd_same⟩ ((Ok.refl R.bag).same s2)
        intro H9 bs R9 R9' e9 ln9 hb
        have e89 := R9'.kp _ _ nD4 e8
        refine ⟨.ref D4, .ref D5, 4, rfl, by decide, by decide, ?_, fun H10 s10 => k H10 ((R4.trans (R5.trans (R6.trans R9))).same s10)⟩
        have ln2 : 2 = ys.length := ln
        refine lq_lst e89 e9 (by omega) (by omega) fun j u v a c => ?_
        have ja : j < as.length := (List.getElem?_eq_some_iff.mp a).1
        obtain ⟨u2, d, e, a1, a2, a3, T, E, x, y, x', y', rfl, rfl, nT, nE, hT, hE, lx, ly, er⟩ := two j (by omega)
        obtain ⟨T1, L1, x1, y1, c1, rfl, c3, c4, c5, c6, c7, c8⟩ := ha j _ _ a1 a
        obtain ⟨E2, L2, zs, d1, rfl, d3, d4, d5, d6, d7, d8⟩ := hb j _ _ a2 c
        cases c1
        cases d1
        have kr : ∀ q o, ¬ ((H1 q ≠ none ∨ q = D1) ∨ q = D2) → H6 q = some o → H9 q = some o := fun q o n z => R9'.kp q o (fun w => n (.inl (.inl (by rw [w]; exact g1)))) (kq q o (fun w => n (.inl (.inl (by rw [w]; exact g1)))) z)
        have t1 := kq _ _ c5 hT
        rw [t1] at c7
        cases c7
        have t2 := kr _ _ nE hE
        rw [t2] at d7
        cases d7
        exact lq_lst (R9'.kp _ _ c3 c8) d8 take_len (by rw [List.length_take]; show min ps.length 2 ≤ 100; omega) (take_pair (P := fun u v => Lq H9 2 u v) (lx.to (fun _ z => z) kr).lq (ly.to (fun _ z => z) kr).lq h2)
end k00
namespace k00
open PySem L2 LC RM
theorem tE_of {p : Str} (h : p ∈ tE.map (·.1)) : ∃ (i : Nat) (ps : List Str) (b : Nat), tE[i]? = some (p, ps, b) := by
  obtain ⟨⟨q, ps, b⟩, he, rfl⟩ := List.mem_map.mp h
  obtain ⟨i, hi, e⟩ := List.mem_iff_getElem.mp he
  exact ⟨i, ps, b, by rw [List.getElem?_eq_getElem hi, e]⟩
theorem in0 : (["InvalidNumber", "InvalidName", "InvalidRest", "InvalidRule", "InvalidParts", "InvalidDeed", "InvalidEvent", "Over", "InvalidText", "InvalidBorders", "InvalidPlace", "InvalidServer"] : List Str).all (fun p => (tE.map (·.1)).contains p) = true := by decide +kernel
theorem in1 : (["InvalidTree", "InvalidCustomer", "InvalidRoom", "InvalidRow", "InvalidCut", "Early", "NotPrompt", "Refused", "BadTree", "NoElder", "BadMoment", "WrongLetter"] : List Str).all (fun p => (tE.map (·.1)).contains p) = true := by decide +kernel
theorem in2 : (["Elsewhere", "NotLacking", "UnknownName", "Fallen", "NotFallen", "UnknownLoan", "NoSuchLetter", "BadReading", "TooMany", "NotHeld", "UnknownLot", "NotSettled"] : List Str).all (fun p => (tE.map (·.1)).contains p) = true := by decide +kernel
def splaw (K : PySem.W.Frag) : Sp := fun vs H Q _ => ∃ (a : Addr) (ns : List Int), vs = [.ref a] ∧ SqL K H a (ns.map V.int) ∧ ns.length ≤ 63 ∧ ∀ H', Q (.bl true) H'

theorem ok_law {P : Program} {w : World} {K : PySem.W.Frag} {mg : Str → Option Value} {base : Heap} {f : Addr} {fd : FuncData} (D : Def K mg "law" slaw Plaw f fd) (T : Txt K mg) {r : Ar} (EA : All P w K mg base r) {fbag : Addr} {fdbag : FuncData} (Dbag : Def K mg "_law_bag" sbag Pbag fbag fdbag) (Gbag : FnOk P w K mg base CX0 1 fbag fdbag Pbag (spbag K)) {fso : Addr} {fdso : FuncData} (Dso : Def K mg "_law_so" sso Pso fso fdso) (Gso : FnOk P w K mg base CX0 6 fso fdso Pso (spso r)) :
    FnOk P w K mg base CX0 7 f fd Plaw (splaw K) := by
  refine D.F.ok sclaw (fun vs H Q E h => ?_) (fun cdv A outer s H vs Q E hr h => ?_)
  · obtain ⟨a, ns, rfl, hS, hl, k⟩ := h
    rfl
  · obtain ⟨a, ns, rfl, hS, hl, k⟩ := h
    have hrbag : Room 1 _ := hr.mono (by decide)
    have hrso : Room 6 _ := hr.mono (by decide)
    refine ⟨_, (pss_cons (ps_set (i := 1) sclaw.nd rfl (Or.inl rfl) (pe_call Gbag hrbag rfl Dbag.g Dbag.F.kp Dbag.b .nil pass0 (pa_cons (pv 0) pa_nil)))
        (pss_cons (ps_for PassesOwn.never rfl (pi_tup (pe_tup (pa_cons pe_str (pa_cons pe_str (pa_cons pe_str (pa_cons pe_str (pa_cons pe_str (pa_cons pe_str (pa_cons pe_str (pa_cons pe_str (pa_cons pe_str (pa_cons pe_str (pa_cons pe_str (pa_cons pe_str pa_nil)))))))))))))) (pg_name (i := 2) sclaw.nd rfl (Or.inl rfl))
          (pss_one (ps_if (pt_not (pt_val (pe_call Gso hrso rfl Dso.g Dso.F.kp Dso.b .nil pass0 (pa_cons (pv 1) (pa_cons (pv 2) pa_nil))))) (pss_one (ps_ret pe_bl)) pss_nil)))
        (pss_cons (ps_for PassesOwn.never rfl (pi_tup (pe_tup (pa_cons pe_str (pa_cons pe_str (pa_cons pe_str (pa_cons pe_str (pa_cons pe_str (pa_cons pe_str (pa_cons pe_str (pa_cons pe_str (pa_cons pe_str (pa_cons pe_str (pa_cons pe_str (pa_cons pe_str pa_nil)))))))))))))) (pg_name (i := 2) sclaw.nd rfl (Or.inl rfl))
          (pss_one (ps_if (pt_not (pt_val (pe_call Gso hrso rfl Dso.g Dso.F.kp Dso.b .nil pass0 (pa_cons (pv 1) (pa_cons (pv 2) pa_nil))))) (pss_one (ps_ret pe_bl)) pss_nil)))
        (pss_cons (ps_for PassesOwn.never rfl (pi_tup (pe_tup (pa_cons pe_str (pa_cons pe_str (pa_cons pe_str (pa_cons pe_str (pa_cons pe_str (pa_cons pe_str (pa_cons pe_str (pa_cons pe_str (pa_cons pe_str (pa_cons pe_str (pa_cons pe_str (pa_cons pe_str pa_nil)))))))))))))) (pg_name (i := 2) sclaw.nd rfl (Or.inl rfl))
          (pss_one (ps_if (pt_not (pt_val (pe_call Gso hrso rfl Dso.g Dso.F.kp Dso.b .nil pass0 (pa_cons (pv 1) (pa_cons (pv 2) pa_nil))))) (pss_one (ps_ret pe_bl)) pss_nil)))
        (pss_one (ps_ret pe_bl)))))), ?_⟩
    refine ⟨_, rfl, a, ns, rfl, hS, hl, fun g J0 _ s1 ⟨l, B0⟩ => ?_⟩
    clear s1
    refine ⟨(by show 12 ≤ sizeLine; decide), fun t0 ht0 => ?_⟩
    have et0 : upd J0 t0 (.tup ((["InvalidNumber", "InvalidName", "InvalidRest", "InvalidRule", "InvalidParts", "InvalidDeed", "InvalidEvent", "Over", "InvalidText", "InvalidBorders", "InvalidPlace", "InvalidServer"] : List Str).map V.str)) t0 = some (.tup ((["InvalidNumber", "InvalidName", "InvalidRest", "InvalidRule", "InvalidParts", "InvalidDeed", "InvalidEvent", "Over", "InvalidText", "InvalidBorders", "InvalidPlace", "InvalidServer"] : List Str).map V.str)) := upd_same
    have nt0 := (B0.ne ht0).1
    have C0 := B0.mut (o := .tup ((["InvalidNumber", "InvalidName", "InvalidRest", "InvalidRule", "InvalidParts", "InvalidDeed", "InvalidEvent", "Over", "InvalidText", "InvalidBorders", "InvalidPlace", "InvalidServer"] : List Str).map V.str)) nt0 (B0.ne ht0).2
    refine ⟨t0, rfl, ⟨_, SqT.of et0⟩, for_tup (K := K) (a := t0) (xs := (["InvalidNumber", "InvalidName", "InvalidRest", "InvalidRule", "InvalidParts", "InvalidDeed", "InvalidEvent", "Over", "InvalidText", "InvalidBorders", "InvalidPlace", "InvalidServer"] : List Str).map V.str) (fun i σ H' => (∃ v : Option V, σ = [some (.ref a), some (.ref g), v]) ∧ Ok g l (upd J0 t0 (.tup ((["InvalidNumber", "InvalidName", "InvalidRest", "InvalidRule", "InvalidParts", "InvalidDeed", "InvalidEvent", "Over", "InvalidText", "InvalidBorders", "InvalidPlace", "InvalidServer"] : List Str).map V.str))) H') ⟨⟨_, rfl⟩, Ok.refl C0⟩ (fun i σ H' _ ⟨_, z⟩ => SqT.of (z.kp t0 _ nt0 et0)) ?_ ?_⟩
    · rintro m z σ H' hm ⟨⟨v, rfl⟩, o⟩
      obtain ⟨p, hp, rfl⟩ := List.mem_map.mp (List.mem_of_getElem? hm)
      obtain ⟨i, ps, b, hi⟩ := tE_of (List.contains_iff_mem.mp (List.all_eq_true.mp in0 p hp))
      exact ⟨_, rfl, _, rfl, g, l, p, i, ps, b, rfl, hi, o.bag, fun H2 o2 => ⟨_, rfl, iteF ⟨⟨_, rfl⟩, o.trans o2⟩⟩⟩
    rintro σ J1 ⟨⟨v, rfl⟩, o⟩
    have B1 := o.bag
    clear o
    refine ⟨(by show 12 ≤ sizeLine; decide), fun t1 ht1 => ?_⟩
    have et1 : upd J1 t1 (.tup ((["InvalidTree", "InvalidCustomer", "InvalidRoom", "InvalidRow", "InvalidCut", "Early", "NotPrompt", "Refused", "BadTree", "NoElder", "BadMoment", "WrongLetter"] : List Str).map V.str)) t1 = some (.tup ((["InvalidTree", "InvalidCustomer", "InvalidRoom", "InvalidRow", "InvalidCut", "Early", "NotPrompt", "Refused", "BadTree", "NoElder", "BadMoment", "WrongLetter"] : List Str).map V.str)) := upd_same
    have nt1 := (B1.ne ht1).1
    have C1 := B1.mut (o := .tup ((["InvalidTree", "InvalidCustomer", "InvalidRoom", "InvalidRow", "InvalidCut", "Early", "NotPrompt", "Refused", "BadTree", "NoElder", "BadMoment", "WrongLetter"] : List Str).map V.str)) nt1 (B1.ne ht1).2
    refine ⟨t1, rfl, ⟨_, SqT.of et1⟩, for_tup (K := K) (a := t1) (xs := (["InvalidTree", "InvalidCustomer", "InvalidRoom", "InvalidRow", "InvalidCut", "Early", "NotPrompt", "Refused", "BadTree", "NoElder", "BadMoment", "WrongLetter"] : List Str).map V.str) (fun i σ H' => (∃ v : Option V, σ = [some (.ref a), some (.ref g), v]) ∧ Ok g l (upd J1 t1 (.tup ((["InvalidTree", "InvalidCustomer", "InvalidRoom", "InvalidRow", "InvalidCut", "Early", "NotPrompt", "Refused", "BadTree", "NoElder", "BadMoment", "WrongLetter"] : List Str).map V.str))) H') ⟨⟨_, rfl⟩, Ok.refl C1⟩ (fun i σ H' _ ⟨_, z⟩ => SqT.of (z.kp t1 _ nt1 et1)) ?_ ?_⟩
    · rintro m z σ H' hm ⟨⟨v, rfl⟩, o⟩
      obtain ⟨p, hp, rfl⟩ := List.mem_map.mp (List.mem_of_getElem? hm)
      obtain ⟨i, ps, b, hi⟩ := tE_of (List.contains_iff_mem.mp (List.all_eq_true.mp in1 p hp))
      exact ⟨_, rfl, _, rfl, g, l, p, i, ps, b, rfl, hi, o.bag, fun H2 o2 => ⟨_, rfl, iteF ⟨⟨_, rfl⟩, o.trans o2⟩⟩⟩
    rintro σ J2 ⟨⟨v, rfl⟩, o⟩
    have B2 := o.bag
    clear o
    refine ⟨(by show 12 ≤ sizeLine; decide), fun t2 ht2 => ?_⟩
    have et2 : upd J2 t2 (.tup ((["Elsewhere", "NotLacking", "UnknownName", "Fallen", "NotFallen", "UnknownLoan", "NoSuchLetter", "BadReading", "TooMany", "NotHeld", "UnknownLot", "NotSettled"] : List Str).map V.str)) t2 = some (.tup ((["Elsewhere", "NotLacking", "UnknownName", "Fallen", "NotFallen", "UnknownLoan", "NoSuchLetter", "BadReading", "TooMany", "NotHeld", "UnknownLot", "NotSettled"] : List Str).map V.str)) := upd_same
    have nt2 := (B2.ne ht2).1
    have C2 := B2.mut (o := .tup ((["Elsewhere", "NotLacking", "UnknownName", "Fallen", "NotFallen", "UnknownLoan", "NoSuchLetter", "BadReading", "TooMany", "NotHeld", "UnknownLot", "NotSettled"] : List Str).map V.str)) nt2 (B2.ne ht2).2
    refine ⟨t2, rfl, ⟨_, SqT.of et2⟩, for_tup (K := K) (a := t2) (xs := (["Elsewhere", "NotLacking", "UnknownName", "Fallen", "NotFallen", "UnknownLoan", "NoSuchLetter", "BadReading", "TooMany", "NotHeld", "UnknownLot", "NotSettled"] : List Str).map V.str) (fun i σ H' => (∃ v : Option V, σ = [some (.ref a), some (.ref g), v]) ∧ Ok g l (upd J2 t2 (.tup ((["Elsewhere", "NotLacking", "UnknownName", "Fallen", "NotFallen", "UnknownLoan", "NoSuchLetter", "BadReading", "TooMany", "NotHeld", "UnknownLot", "NotSettled"] : List Str).map V.str))) H') ⟨⟨_, rfl⟩, Ok.refl C2⟩ (fun i σ H' _ ⟨_, z⟩ => SqT.of (z.kp t2 _ nt2 et2)) ?_ ?_⟩
    · rintro m z σ H' hm ⟨⟨v, rfl⟩, o⟩
      obtain ⟨p, hp, rfl⟩ := List.mem_map.mp (List.mem_of_getElem? hm)
      obtain ⟨i, ps, b, hi⟩ := tE_of (List.contains_iff_mem.mp (List.all_eq_true.mp in2 p hp))
      exact ⟨_, rfl, _, rfl, g, l, p, i, ps, b, rfl, hi, o.bag, fun H2 o2 => ⟨_, rfl, iteF ⟨⟨_, rfl⟩, o.trans o2⟩⟩⟩
    rintro σ J3 ⟨⟨v, rfl⟩, o⟩
    have B3 := o.bag
    clear o
    exact k _
end k00
namespace k00
open PySem L2 LC RM
def clK (K : PySem.W.Frag) (i : Nat) : Addr := He.ga K (tE.getD i default).1
def bsK (K : PySem.W.Frag) (j : Nat) : Addr := He.ga K (bn j)
def bsI (i : Nat) : Nat := (tE.getD i default).2.2
def adL (K : PySem.W.Frag) : List Addr := [bsK K 0, bsK K 1, bsK K 2] ++ (List.range 36).map (clK K)
def incB : List Nat → Bool
  | a :: b :: r => decide (a < b) && incB (b :: r)
  | _ => true
def mrB (K : PySem.W.Frag) : Bool := (List.range 36).all fun i => match PySem.W.clsIn K (clK K i) with
  | some cd => cd.mro == [Value.ref (clK K i), .ref (bsK K (bsI i)), .type (tyOf (bsI i)), .type "Exception", .type "BaseException", .type "object"] && PySem.W.typeIn K (.ref (clK K i)) == some (.type "type")
  | none => false
def bsB (K : PySem.W.Frag) : Bool := (List.range 3).all fun j => (PySem.W.clsIn K (bsK K j)).isSome && PySem.W.typeIn K (.ref (bsK K j)) == some (.type "type")
theorem inc_all : ∀ {a : Nat} {l : List Nat}, incB (a :: l) = true → incB l = true ∧ ∀ x ∈ l, a < x
  | a, [], _ => ⟨rfl, fun x h => by cases h⟩
  | a, b :: r, h => by
    obtain ⟨h1, h2⟩ := Bool.and_eq_true_iff.mp h
    obtain ⟨h3, h4⟩ := inc_all h2
    refine ⟨h2, fun x hx => ?_⟩
    rcases List.mem_cons.mp hx with rfl | hx
    · exact of_decide_eq_true h1
    · exact Nat.lt_trans (of_decide_eq_true h1) (h4 x hx)
theorem inc_lt : ∀ {l : List Nat}, incB l = true → ∀ (i j x y : Nat), i < j → l[i]? = some x → l[j]? = some y → x < y
  | [], _, i, j, x, y, _, h, _ => by simp at h
  | a :: l, h, i, j, x, y, ij, hx, hy => by
    obtain ⟨h1, h2⟩ := inc_all h
    match i, j, ij, hx, hy with
    | 0, j + 1, _, hx, hy =>
      cases hx
      exact h2 y (List.mem_of_getElem? hy)
    | i + 1, j + 1, ij, hx, hy => exact inc_lt h1 i j x y (by omega) hx hy
theorem ad_cl {K : PySem.W.Frag} {i : Nat} (hi : i < 36) : (adL K)[i + 3]? = some (clK K i) := by
  show (((List.range 36).map (clK K)))[i]? = _
  rw [List.getElem?_map, List.getElem?_range hi]
  rfl
theorem ad_bs {K : PySem.W.Frag} : ∀ {j : Nat}, j < 3 → (adL K)[j]? = some (bsK K j)
  | 0, _ => rfl
  | 1, _ => rfl
  | 2, _ => rfl
  | n + 3, h => absurd h (by omega)
theorem cl_ne {K : PySem.W.Frag} (ha : incB (adL K) = true) {i j : Nat} (hi : i < 36) (hj : j < 36) (h : i ≠ j) : clK K i ≠ clK K j := fun z => by
  rcases Nat.lt_or_gt_of_ne h with h | h
  · have := inc_lt ha (i + 3) (j + 3) _ _ (by omega) (ad_cl hi) (ad_cl hj)
    rw [z] at this
    exact Nat.lt_irrefl _ this
  · have := inc_lt ha (j + 3) (i + 3) _ _ (by omega) (ad_cl hj) (ad_cl hi)
    rw [z] at this
    exact Nat.lt_irrefl _ this
theorem bs_ne {K : PySem.W.Frag} (ha : incB (adL K) = true) {i j : Nat} (hi : i < 3) (hj : j < 3) (h : i ≠ j) : bsK K i ≠ bsK K j := fun z => by
  rcases Nat.lt_or_gt_of_ne h with h | h
  · have := inc_lt ha i j _ _ h (ad_bs hi) (ad_bs hj)
    rw [z] at this
    exact Nat.lt_irrefl _ this
  · have := inc_lt ha j i _ _ h (ad_bs hj) (ad_bs hi)
    rw [z] at this
    exact Nat.lt_irrefl _ this
theorem bc_ne {K : PySem.W.Frag} (ha : incB (adL K) = true) {i j : Nat} (hi : i < 36) (hj : j < 3) : bsK K j ≠ clK K i := fun z => by
  have := inc_lt ha j (i + 3) _ _ (by omega) (ad_bs hj) (ad_cl hi)
  rw [z] at this
  exact Nat.lt_irrefl _ this
theorem bsI_lt : ∀ i, i < 36 → bsI i < 3 := fun i hi => of_decide_eq_true (List.all_eq_true.mp (show (List.range 36).all (fun i => decide (bsI i < 3)) = true by decide +kernel) i (List.mem_range.mpr hi))
theorem mr_at {K : PySem.W.Frag} (hm : mrB K = true) {i : Nat} (hi : i < 36) : ∃ cd, PySem.W.clsIn K (clK K i) = some cd ∧ cd.mro = [Value.ref (clK K i), .ref (bsK K (bsI i)), .type (tyOf (bsI i)), .type "Exception", .type "BaseException", .type "object"] ∧ PySem.W.typeIn K (.ref (clK K i)) = some (.type "type") := by
  have h := List.all_eq_true.mp hm i (List.mem_range.mpr hi)
  split at h
  · next cd e =>
    obtain ⟨h1, h2⟩ := Bool.and_eq_true_iff.mp h
    exact ⟨cd, e, beq_iff_eq.mp h1, beq_iff_eq.mp h2⟩
  · cases h
theorem mro_at {K : PySem.W.Frag} (hm : mrB K = true) {i : Nat} (hi : i < 36) (v : Value) : PySem.W.mroIn K (clK K i) v = some ([Value.ref (clK K i), .ref (bsK K (bsI i)), .type (tyOf (bsI i)), .type "Exception", .type "BaseException", .type "object"].contains v) := by
  obtain ⟨cd, e, em, _⟩ := mr_at hm hi
  unfold PySem.W.mroIn
  rw [e, Option.bind_some, em]
  rfl
theorem con_eq {l : List Value} {v : Value} {p : Prop} [Decidable p] (h : v ∈ l ↔ p) : l.contains v = decide p := by
  by_cases c : p
  · rw [decide_eq_true c]
    exact List.contains_iff_mem.mpr (h.mpr c)
  · rw [decide_eq_false c]
    exact Bool.eq_false_iff.mpr fun z => c (h.mp (List.contains_iff_mem.mp z))
theorem kk_ok {K : PySem.W.Frag} (hm : mrB K = true) (ha : incB (adL K) = true) : ∀ i j, i < 36 → j < 36 → PySem.W.kitOne K (.ref (clK K i)) (.ref (clK K j)) = some (decide (i = j)) := fun i j hi hj => by
  unfold PySem.W.kitOne
  by_cases e : i = j
  · subst e
    rw [if_pos (beq_self_eq_true _), decide_eq_true rfl]
  · have ne := cl_ne ha hi hj e
    rw [if_neg (fun z => ne (Value.ref.inj (beq_iff_eq.mp z)))]
    obtain ⟨cd, e1, _, e2⟩ := mr_at hm hj
    show (if ((PySem.W.clsIn K (clK K j)).isSome && PySem.W.typeIn K (.ref (clK K j)) == some (.type "type")) = true then PySem.W.mroIn K (clK K i) (.ref (clK K j)) else none) = _
    rw [e1, e2, if_pos (by rw [beq_self_eq_true]; rfl), mro_at hm hi]
    refine congrArg some (con_eq ?_)
    simp only [List.mem_cons, List.not_mem_nil, or_false, reduceCtorEq, Value.ref.injEq]
    exact ⟨fun z => z.elim (fun z => absurd z.symm ne) (fun z => absurd z.symm (bc_ne ha hj (bsI_lt i hi))), fun z => absurd z e⟩
theorem kb_ok {K : PySem.W.Frag} (hm : mrB K = true) (ha : incB (adL K) = true) (hb : bsB K = true) : ∀ i j, i < 36 → j < 3 → PySem.W.kitOne K (.ref (clK K i)) (.ref (bsK K j)) = some (decide ((tE.getD i default).2.2 = j)) := fun i j hi hj => by
  unfold PySem.W.kitOne
  have ne := bc_ne ha hi hj
  rw [if_neg (fun z => ne (Value.ref.inj (beq_iff_eq.mp z)).symm)]
  have q := List.all_eq_true.mp hb j (List.mem_range.mpr hj)
  show (if ((PySem.W.clsIn K (bsK K j)).isSome && PySem.W.typeIn K (.ref (bsK K j)) == some (.type "type")) = true then PySem.W.mroIn K (clK K i) (.ref (bsK K j)) else none) = _
  rw [if_pos q, mro_at hm hi]
  refine congrArg some (con_eq ?_)
  simp only [List.mem_cons, List.not_mem_nil, or_false, reduceCtorEq, Value.ref.injEq]
  refine ⟨fun z => z.elim (fun z => absurd z ne) (fun z => ?_), fun z => .inr (by rw [← z]; rfl)⟩
  by_cases c : bsI i = j
  · exact c
  · exact absurd z.symm (bs_ne ha (bsI_lt i hi) hj c)
theorem ty_meta : tyL.all (fun t => PySem.W.kitMeta t && !(t == "Exception") && !(t == "BaseException") && !(t == "object")) = true := by decide +kernel
theorem kt_ok {K : PySem.W.Frag} (hm : mrB K = true) : ∀ i, i < 36 → ∀ t ∈ tyL, PySem.W.kitOne K (.ref (clK K i)) (.type t) = some (tyOf (tE.getD i default).2.2 == t) := fun i hi t ht => by
  have q := List.all_eq_true.mp ty_meta t ht
  simp only [Bool.and_eq_true, Bool.not_eq_true', beq_eq_false_iff_ne] at q
  obtain ⟨⟨⟨q1, q2⟩, q3⟩, q4⟩ := q
  unfold PySem.W.kitOne
  rw [if_neg (fun z => by have := beq_iff_eq.mp z; cases this)]
  show (if PySem.W.kitMeta t = true then PySem.W.mroIn K (clK K i) (.type t) else none) = _
  rw [if_pos q1, mro_at hm hi]
  refine congrArg some ((con_eq (p := tyOf (bsI i) = t) ?_).trans ?_)
  · simp only [List.mem_cons, List.not_mem_nil, or_false, reduceCtorEq, false_or, Value.type.injEq]
    exact ⟨fun z => z.elim Eq.symm fun z => z.elim (fun z => absurd z q2) fun z => z.elim (fun z => absurd z q3) fun z => absurd z q4, fun z => .inl z.symm⟩
  · by_cases c : tyOf (bsI i) = t
    · rw [decide_eq_true c]
      exact (beq_iff_eq.mpr c).symm
    · rw [decide_eq_false c]
      exact (beq_eq_false_iff_ne.mpr c).symm

def hd_bag : LH.FnA := ⟨fun K => (He.ga K "_law_bag"), "_law_bag", "_law_bag", defArgs sbag, defBody sbag, defScope sbag, [], [], []⟩
def hd_draw : LH.FnA := ⟨fun K => (He.ga K "_law_draw"), "_law_draw", "_law_draw", defArgs sdraw, defBody sdraw, defScope sdraw, [], [], []⟩
def hd_of : LH.FnA := ⟨fun K => (He.ga K "_law_of"), "_law_of", "_law_of", defArgs sof, defBody sof, defScope sof, [], [], []⟩
def hd_like : LH.FnA := ⟨fun K => (He.ga K "_law_like"), "_law_like", "_law_like", defArgs slike, defBody slike, defScope slike, [], [], []⟩
def hd_words : LH.FnA := ⟨fun K => (He.ga K "_law_words"), "_law_words", "_law_words", defArgs swords, defBody swords, defScope swords, [], [], []⟩
def hd_due : LH.FnA := ⟨fun K => (He.ga K "_law_due"), "_law_due", "_law_due", defArgs sdue, defBody sdue, defScope sdue, [], [], []⟩
def hd_first : LH.FnA := ⟨fun K => (He.ga K "_law_first"), "_law_first", "_law_first", defArgs sfirst, defBody sfirst, defScope sfirst, [], [], []⟩
def hd_second : LH.FnA := ⟨fun K => (He.ga K "_law_second"), "_law_second", "_law_second", defArgs ssecond, defBody ssecond, defScope ssecond, [], [], []⟩
def hd_both : LH.FnA := ⟨fun K => (He.ga K "_law_both"), "_law_both", "_law_both", defArgs sboth, defBody sboth, defScope sboth, [], [], []⟩
def hd_told : LH.FnA := ⟨fun K => (He.ga K "_law_told"), "_law_told", "_law_told", defArgs stold, defBody stold, defScope stold, [], [], []⟩
def hd_kinds : LH.FnA := ⟨fun K => (He.ga K "_law_kinds"), "_law_kinds", "_law_kinds", defArgs skinds, defBody skinds, defScope skinds, [], [], []⟩
def hd_kinds_too : LH.FnA := ⟨fun K => (He.ga K "_law_kinds_too"), "_law_kinds_too", "_law_kinds_too", defArgs skinds_too, defBody skinds_too, defScope skinds_too, [], [], []⟩
def hd_dict : LH.FnA := ⟨fun K => (He.ga K "_law_dict"), "_law_dict", "_law_dict", defArgs sdict, defBody sdict, defScope sdict, [], [], []⟩
def hd_thing : LH.FnA := ⟨fun K => (He.ga K "_law_thing"), "_law_thing", "_law_thing", defArgs sthing, defBody sthing, defScope sthing, [], [], []⟩
def hd_copied : LH.FnA := ⟨fun K => (He.ga K "_law_copied"), "_law_copied", "_law_copied", defArgs scopied, defBody scopied, defScope scopied, [], [], []⟩
def hd_made : LH.FnA := ⟨fun K => (He.ga K "_law_made"), "_law_made", "_law_made", defArgs smade, defBody smade, defScope smade, [], [], []⟩
def hd_so : LH.FnA := ⟨fun K => (He.ga K "_law_so"), "_law_so", "_law_so", defArgs sso, defBody sso, defScope sso, [], [], []⟩
def hd_law : LH.FnA := ⟨fun K => (He.ga K "law"), "law", "law", defArgs slaw, defBody slaw, defScope slaw, [], [], []⟩
def hd_InvalidNumber_init : LH.FnA := ⟨fun K => (He.ma K (He.ga K "InvalidNumber") "__init__"), "__init__", "InvalidNumber.__init__", defArgs sInvalidNumber_init, defBody sInvalidNumber_init, defScope sInvalidNumber_init, [], [], []⟩
def hd_InvalidName_init : LH.FnA := ⟨fun K => (He.ma K (He.ga K "InvalidName") "__init__"), "__init__", "InvalidName.__init__", defArgs sInvalidName_init, defBody sInvalidName_init, defScope sInvalidName_init, [], [], []⟩
def hd_InvalidText_init : LH.FnA := ⟨fun K => (He.ma K (He.ga K "InvalidText") "__init__"), "__init__", "InvalidText.__init__", defArgs sInvalidText_init, defBody sInvalidText_init, defScope sInvalidText_init, [], [], []⟩
def hd_InvalidBorders_init : LH.FnA := ⟨fun K => (He.ma K (He.ga K "InvalidBorders") "__init__"), "__init__", "InvalidBorders.__init__", defArgs sInvalidBorders_init, defBody sInvalidBorders_init, defScope sInvalidBorders_init, [], [], []⟩
def hd_InvalidRest_init : LH.FnA := ⟨fun K => (He.ma K (He.ga K "InvalidRest") "__init__"), "__init__", "InvalidRest.__init__", defArgs sInvalidRest_init, defBody sInvalidRest_init, defScope sInvalidRest_init, [], [], []⟩
def hd_InvalidRule_init : LH.FnA := ⟨fun K => (He.ma K (He.ga K "InvalidRule") "__init__"), "__init__", "InvalidRule.__init__", defArgs sInvalidRule_init, defBody sInvalidRule_init, defScope sInvalidRule_init, [], [], []⟩
def hd_InvalidPlace_init : LH.FnA := ⟨fun K => (He.ma K (He.ga K "InvalidPlace") "__init__"), "__init__", "InvalidPlace.__init__", defArgs sInvalidPlace_init, defBody sInvalidPlace_init, defScope sInvalidPlace_init, [], [], []⟩
def hd_InvalidServer_init : LH.FnA := ⟨fun K => (He.ma K (He.ga K "InvalidServer") "__init__"), "__init__", "InvalidServer.__init__", defArgs sInvalidServer_init, defBody sInvalidServer_init, defScope sInvalidServer_init, [], [], []⟩
def hd_InvalidTree_init : LH.FnA := ⟨fun K => (He.ma K (He.ga K "InvalidTree") "__init__"), "__init__", "InvalidTree.__init__", defArgs sInvalidTree_init, defBody sInvalidTree_init, defScope sInvalidTree_init, [], [], []⟩
def hd_InvalidCustomer_init : LH.FnA := ⟨fun K => (He.ma K (He.ga K "InvalidCustomer") "__init__"), "__init__", "InvalidCustomer.__init__", defArgs sInvalidCustomer_init, defBody sInvalidCustomer_init, defScope sInvalidCustomer_init, [], [], []⟩
def hd_InvalidRoom_init : LH.FnA := ⟨fun K => (He.ma K (He.ga K "InvalidRoom") "__init__"), "__init__", "InvalidRoom.__init__", defArgs sInvalidRoom_init, defBody sInvalidRoom_init, defScope sInvalidRoom_init, [], [], []⟩
def hd_InvalidRow_init : LH.FnA := ⟨fun K => (He.ma K (He.ga K "InvalidRow") "__init__"), "__init__", "InvalidRow.__init__", defArgs sInvalidRow_init, defBody sInvalidRow_init, defScope sInvalidRow_init, [], [], []⟩
def hd_InvalidParts_init : LH.FnA := ⟨fun K => (He.ma K (He.ga K "InvalidParts") "__init__"), "__init__", "InvalidParts.__init__", defArgs sInvalidParts_init, defBody sInvalidParts_init, defScope sInvalidParts_init, [], [], []⟩
def hd_InvalidCut_init : LH.FnA := ⟨fun K => (He.ma K (He.ga K "InvalidCut") "__init__"), "__init__", "InvalidCut.__init__", defArgs sInvalidCut_init, defBody sInvalidCut_init, defScope sInvalidCut_init, [], [], []⟩
def hd_InvalidDeed_init : LH.FnA := ⟨fun K => (He.ma K (He.ga K "InvalidDeed") "__init__"), "__init__", "InvalidDeed.__init__", defArgs sInvalidDeed_init, defBody sInvalidDeed_init, defScope sInvalidDeed_init, [], [], []⟩
def hd_InvalidEvent_init : LH.FnA := ⟨fun K => (He.ma K (He.ga K "InvalidEvent") "__init__"), "__init__", "InvalidEvent.__init__", defArgs sInvalidEvent_init, defBody sInvalidEvent_init, defScope sInvalidEvent_init, [], [], []⟩
def hd_BadTree_init : LH.FnA := ⟨fun K => (He.ma K (He.ga K "BadTree") "__init__"), "__init__", "BadTree.__init__", defArgs sBadTree_init, defBody sBadTree_init, defScope sBadTree_init, [], [], []⟩
def hd_BadReading_init : LH.FnA := ⟨fun K => (He.ma K (He.ga K "BadReading") "__init__"), "__init__", "BadReading.__init__", defArgs sBadReading_init, defBody sBadReading_init, defScope sBadReading_init, [], [], []⟩
def hd_BadMoment_init : LH.FnA := ⟨fun K => (He.ma K (He.ga K "BadMoment") "__init__"), "__init__", "BadMoment.__init__", defArgs sBadMoment_init, defBody sBadMoment_init, defScope sBadMoment_init, [], [], []⟩
def hd_TooMany_init : LH.FnA := ⟨fun K => (He.ma K (He.ga K "TooMany") "__init__"), "__init__", "TooMany.__init__", defArgs sTooMany_init, defBody sTooMany_init, defScope sTooMany_init, [], [], []⟩
def hd_Over_init : LH.FnA := ⟨fun K => (He.ma K (He.ga K "Over") "__init__"), "__init__", "Over.__init__", defArgs sOver_init, defBody sOver_init, defScope sOver_init, [], [], []⟩
def hd_NotHeld_init : LH.FnA := ⟨fun K => (He.ma K (He.ga K "NotHeld") "__init__"), "__init__", "NotHeld.__init__", defArgs sNotHeld_init, defBody sNotHeld_init, defScope sNotHeld_init, [], [], []⟩
def hd_NoElder_init : LH.FnA := ⟨fun K => (He.ma K (He.ga K "NoElder") "__init__"), "__init__", "NoElder.__init__", defArgs sNoElder_init, defBody sNoElder_init, defScope sNoElder_init, [], [], []⟩
def hd_WrongLetter_init : LH.FnA := ⟨fun K => (He.ma K (He.ga K "WrongLetter") "__init__"), "__init__", "WrongLetter.__init__", defArgs sWrongLetter_init, defBody sWrongLetter_init, defScope sWrongLetter_init, [], [], []⟩
def hd_Elsewhere_init : LH.FnA := ⟨fun K => (He.ma K (He.ga K "Elsewhere") "__init__"), "__init__", "Elsewhere.__init__", defArgs sElsewhere_init, defBody sElsewhere_init, defScope sElsewhere_init, [], [], []⟩
def hd_NotLacking_init : LH.FnA := ⟨fun K => (He.ma K (He.ga K "NotLacking") "__init__"), "__init__", "NotLacking.__init__", defArgs sNotLacking_init, defBody sNotLacking_init, defScope sNotLacking_init, [], [], []⟩
def hd_NotSettled_init : LH.FnA := ⟨fun K => (He.ma K (He.ga K "NotSettled") "__init__"), "__init__", "NotSettled.__init__", defArgs sNotSettled_init, defBody sNotSettled_init, defScope sNotSettled_init, [], [], []⟩
def hd_Early_init : LH.FnA := ⟨fun K => (He.ma K (He.ga K "Early") "__init__"), "__init__", "Early.__init__", defArgs sEarly_init, defBody sEarly_init, defScope sEarly_init, [], [], []⟩
def hd_NotPrompt_init : LH.FnA := ⟨fun K => (He.ma K (He.ga K "NotPrompt") "__init__"), "__init__", "NotPrompt.__init__", defArgs sNotPrompt_init, defBody sNotPrompt_init, defScope sNotPrompt_init, [], [], []⟩
def hd_Refused_init : LH.FnA := ⟨fun K => (He.ma K (He.ga K "Refused") "__init__"), "__init__", "Refused.__init__", defArgs sRefused_init, defBody sRefused_init, defScope sRefused_init, [], [], []⟩
def hd_UnknownName_init : LH.FnA := ⟨fun K => (He.ma K (He.ga K "UnknownName") "__init__"), "__init__", "UnknownName.__init__", defArgs sUnknownName_init, defBody sUnknownName_init, defScope sUnknownName_init, [], [], []⟩
def hd_UnknownLot_init : LH.FnA := ⟨fun K => (He.ma K (He.ga K "UnknownLot") "__init__"), "__init__", "UnknownLot.__init__", defArgs sUnknownLot_init, defBody sUnknownLot_init, defScope sUnknownLot_init, [], [], []⟩
def hd_UnknownLoan_init : LH.FnA := ⟨fun K => (He.ma K (He.ga K "UnknownLoan") "__init__"), "__init__", "UnknownLoan.__init__", defArgs sUnknownLoan_init, defBody sUnknownLoan_init, defScope sUnknownLoan_init, [], [], []⟩
def hd_NoSuchLetter_init : LH.FnA := ⟨fun K => (He.ma K (He.ga K "NoSuchLetter") "__init__"), "__init__", "NoSuchLetter.__init__", defArgs sNoSuchLetter_init, defBody sNoSuchLetter_init, defScope sNoSuchLetter_init, [], [], []⟩
def hd_Fallen_init : LH.FnA := ⟨fun K => (He.ma K (He.ga K "Fallen") "__init__"), "__init__", "Fallen.__init__", defArgs sFallen_init, defBody sFallen_init, defScope sFallen_init, [], [], []⟩
def hd_NotFallen_init : LH.FnA := ⟨fun K => (He.ma K (He.ga K "NotFallen") "__init__"), "__init__", "NotFallen.__init__", defArgs sNotFallen_init, defBody sNotFallen_init, defScope sNotFallen_init, [], [], []⟩
def hdL0 : List LH.FnA := [hd_bag, hd_draw, hd_of, hd_like, hd_words, hd_due, hd_first, hd_second, hd_both, hd_told, hd_kinds, hd_kinds_too, hd_dict, hd_thing, hd_copied, hd_made, hd_so, hd_law, hd_InvalidNumber_init, hd_InvalidName_init, hd_InvalidText_init, hd_InvalidBorders_init, hd_InvalidRest_init, hd_InvalidRule_init, hd_InvalidPlace_init, hd_InvalidServer_init, hd_InvalidTree_init, hd_InvalidCustomer_init, hd_InvalidRoom_init, hd_InvalidRow_init]
def hdL1 : List LH.FnA := [hd_InvalidParts_init, hd_InvalidCut_init, hd_InvalidDeed_init, hd_InvalidEvent_init, hd_BadTree_init, hd_BadReading_init, hd_BadMoment_init, hd_TooMany_init, hd_Over_init, hd_NotHeld_init, hd_NoElder_init, hd_WrongLetter_init, hd_Elsewhere_init, hd_NotLacking_init, hd_NotSettled_init, hd_Early_init, hd_NotPrompt_init, hd_Refused_init, hd_UnknownName_init, hd_UnknownLot_init, hd_UnknownLoan_init, hd_NoSuchLetter_init, hd_Fallen_init, hd_NotFallen_init]
def hdL : List LH.FnA := hdL0 ++ hdL1
def hbL0 (K : PySem.W.Frag) : List Bool := [decide (PySem.W.nsIn K mainGlobals "_law_bag" = some (some (.ref (He.ga K "_law_bag")))),
  decide (PySem.W.nsIn K mainGlobals "_law_draw" = some (some (.ref (He.ga K "_law_draw")))),
  decide (PySem.W.nsIn K mainGlobals "_law_of" = some (some (.ref (He.ga K "_law_of")))),
  decide (PySem.W.nsIn K mainGlobals "_law_like" = some (some (.ref (He.ga K "_law_like")))),
  decide (PySem.W.nsIn K mainGlobals "_law_words" = some (some (.ref (He.ga K "_law_words")))),
  decide (PySem.W.nsIn K mainGlobals "_law_due" = some (some (.ref (He.ga K "_law_due")))),
  decide (PySem.W.nsIn K mainGlobals "_law_first" = some (some (.ref (He.ga K "_law_first")))),
  decide (PySem.W.nsIn K mainGlobals "_law_second" = some (some (.ref (He.ga K "_law_second")))),
  decide (PySem.W.nsIn K mainGlobals "_law_both" = some (some (.ref (He.ga K "_law_both")))),
  decide (PySem.W.nsIn K mainGlobals "_law_told" = some (some (.ref (He.ga K "_law_told")))),
  decide (PySem.W.nsIn K mainGlobals "_law_kinds" = some (some (.ref (He.ga K "_law_kinds")))),
  decide (PySem.W.nsIn K mainGlobals "_law_kinds_too" = some (some (.ref (He.ga K "_law_kinds_too")))),
  decide (PySem.W.nsIn K mainGlobals "_law_dict" = some (some (.ref (He.ga K "_law_dict")))),
  decide (PySem.W.nsIn K mainGlobals "_law_thing" = some (some (.ref (He.ga K "_law_thing")))),
  decide (PySem.W.nsIn K mainGlobals "_law_copied" = some (some (.ref (He.ga K "_law_copied")))),
  decide (PySem.W.nsIn K mainGlobals "_law_made" = some (some (.ref (He.ga K "_law_made")))),
  decide (PySem.W.nsIn K mainGlobals "_law_so" = some (some (.ref (He.ga K "_law_so")))),
  decide (PySem.W.nsIn K mainGlobals "law" = some (some (.ref (He.ga K "law")))),
  decide (PySem.W.nsIn K mainGlobals "ArithmeticError" = some none),
  decide (PySem.W.nsIn K mainGlobals "IndexError" = some none),
  decide (PySem.W.nsIn K mainGlobals "KeyError" = some none),
  decide (PySem.W.nsIn K mainGlobals "LookupError" = some none),
  decide (PySem.W.nsIn K mainGlobals "NotImplementedError" = some none),
  decide (PySem.W.nsIn K mainGlobals "RuntimeError" = some none),
  decide (PySem.W.nsIn K mainGlobals "TypeError" = some none)]
def hbL1 (K : PySem.W.Frag) : List Bool := [decide (PySem.W.nsIn K mainGlobals "ValueError" = some none),
  decide (PySem.W.nsIn K mainGlobals "ZeroDivisionError" = some none),
  decide (PySem.W.nsIn K mainGlobals "all" = some none),
  decide (PySem.W.nsIn K mainGlobals "bool" = some none),
  decide (PySem.W.nsIn K mainGlobals "dict" = some none),
  decide (PySem.W.nsIn K mainGlobals "int" = some none),
  decide (PySem.W.nsIn K mainGlobals "isinstance" = some none),
  decide (PySem.W.nsIn K mainGlobals "len" = some none),
  decide (PySem.W.nsIn K mainGlobals "list" = some none),
  decide (PySem.W.nsIn K mainGlobals "range" = some none),
  decide (PySem.W.nsIn K mainGlobals "str" = some none),
  decide (PySem.W.nsIn K mainGlobals "tuple" = some none),
  decide (PySem.W.nsIn K mainGlobals "zip" = some none),
  decide (PySem.W.specialIn K (.builtin "object.__class__") "__get__" = some (some (.builtin "getset_descriptor.__get__"))),
  decide (PySem.W.takesIn K (.builtin "object.__class__") = some true),
  decide (PySem.W.nsIn K mainGlobals "InvalidNumber" = some (some (.ref (He.ga K "InvalidNumber")))),
  LB.clsB K (He.ga K "InvalidNumber") (He.ma K (He.ga K "InvalidNumber") "__init__") (("code" : Str) :: ["value"]),
  decide (PySem.W.nsIn K mainGlobals "InvalidName" = some (some (.ref (He.ga K "InvalidName")))),
  LB.clsB K (He.ga K "InvalidName") (He.ma K (He.ga K "InvalidName") "__init__") (("code" : Str) :: ["value"]),
  decide (PySem.W.nsIn K mainGlobals "InvalidText" = some (some (.ref (He.ga K "InvalidText")))),
  LB.clsB K (He.ga K "InvalidText") (He.ma K (He.ga K "InvalidText") "__init__") (("code" : Str) :: ["text"]),
  decide (PySem.W.nsIn K mainGlobals "InvalidBorders" = some (some (.ref (He.ga K "InvalidBorders")))),
  LB.clsB K (He.ga K "InvalidBorders") (He.ma K (He.ga K "InvalidBorders") "__init__") (("code" : Str) :: ["at"]),
  decide (PySem.W.nsIn K mainGlobals "InvalidRest" = some (some (.ref (He.ga K "InvalidRest")))),
  LB.clsB K (He.ga K "InvalidRest") (He.ma K (He.ga K "InvalidRest") "__init__") (("code" : Str) :: ["value"])]
def hbL2 (K : PySem.W.Frag) : List Bool := [decide (PySem.W.nsIn K mainGlobals "InvalidRule" = some (some (.ref (He.ga K "InvalidRule")))),
  LB.clsB K (He.ga K "InvalidRule") (He.ma K (He.ga K "InvalidRule") "__init__") (("code" : Str) :: ["value"]),
  decide (PySem.W.nsIn K mainGlobals "InvalidPlace" = some (some (.ref (He.ga K "InvalidPlace")))),
  LB.clsB K (He.ga K "InvalidPlace") (He.ma K (He.ga K "InvalidPlace") "__init__") (("code" : Str) :: ["at"]),
  decide (PySem.W.nsIn K mainGlobals "InvalidServer" = some (some (.ref (He.ga K "InvalidServer")))),
  LB.clsB K (He.ga K "InvalidServer") (He.ma K (He.ga K "InvalidServer") "__init__") (("code" : Str) :: ["at"]),
  decide (PySem.W.nsIn K mainGlobals "InvalidTree" = some (some (.ref (He.ga K "InvalidTree")))),
  LB.clsB K (He.ga K "InvalidTree") (He.ma K (He.ga K "InvalidTree") "__init__") (("code" : Str) :: ["at"]),
  decide (PySem.W.nsIn K mainGlobals "InvalidCustomer" = some (some (.ref (He.ga K "InvalidCustomer")))),
  LB.clsB K (He.ga K "InvalidCustomer") (He.ma K (He.ga K "InvalidCustomer") "__init__") (("code" : Str) :: ["at"]),
  decide (PySem.W.nsIn K mainGlobals "InvalidRoom" = some (some (.ref (He.ga K "InvalidRoom")))),
  LB.clsB K (He.ga K "InvalidRoom") (He.ma K (He.ga K "InvalidRoom") "__init__") (("code" : Str) :: ["at"]),
  decide (PySem.W.nsIn K mainGlobals "InvalidRow" = some (some (.ref (He.ga K "InvalidRow")))),
  LB.clsB K (He.ga K "InvalidRow") (He.ma K (He.ga K "InvalidRow") "__init__") (("code" : Str) :: ["at"]),
  decide (PySem.W.nsIn K mainGlobals "InvalidParts" = some (some (.ref (He.ga K "InvalidParts")))),
  LB.clsB K (He.ga K "InvalidParts") (He.ma K (He.ga K "InvalidParts") "__init__") (("code" : Str) :: ["value"]),
  decide (PySem.W.nsIn K mainGlobals "InvalidCut" = some (some (.ref (He.ga K "InvalidCut")))),
  LB.clsB K (He.ga K "InvalidCut") (He.ma K (He.ga K "InvalidCut") "__init__") (("code" : Str) :: ["at"]),
  decide (PySem.W.nsIn K mainGlobals "InvalidDeed" = some (some (.ref (He.ga K "InvalidDeed")))),
  LB.clsB K (He.ga K "InvalidDeed") (He.ma K (He.ga K "InvalidDeed") "__init__") (("code" : Str) :: ["value"]),
  decide (PySem.W.nsIn K mainGlobals "InvalidEvent" = some (some (.ref (He.ga K "InvalidEvent")))),
  LB.clsB K (He.ga K "InvalidEvent") (He.ma K (He.ga K "InvalidEvent") "__init__") (("code" : Str) :: ["value"]),
  decide (PySem.W.nsIn K mainGlobals "BadTree" = some (some (.ref (He.ga K "BadTree")))),
  LB.clsB K (He.ga K "BadTree") (He.ma K (He.ga K "BadTree") "__init__") (("code" : Str) :: ["place"]),
  decide (PySem.W.nsIn K mainGlobals "BadReading" = some (some (.ref (He.ga K "BadReading"))))]
def hbL3 (K : PySem.W.Frag) : List Bool := [LB.clsB K (He.ga K "BadReading") (He.ma K (He.ga K "BadReading") "__init__") (("code" : Str) :: ["server", "reading"]),
  decide (PySem.W.nsIn K mainGlobals "BadMoment" = some (some (.ref (He.ga K "BadMoment")))),
  LB.clsB K (He.ga K "BadMoment") (He.ma K (He.ga K "BadMoment") "__init__") (("code" : Str) :: ["moment"]),
  decide (PySem.W.nsIn K mainGlobals "TooMany" = some (some (.ref (He.ga K "TooMany")))),
  LB.clsB K (He.ga K "TooMany") (He.ma K (He.ga K "TooMany") "__init__") (("code" : Str) :: ["what", "count"]),
  decide (PySem.W.nsIn K mainGlobals "Over" = some (some (.ref (He.ga K "Over")))),
  LB.clsB K (He.ga K "Over") (He.ma K (He.ga K "Over") "__init__") (("code" : Str) :: ["value"]),
  decide (PySem.W.nsIn K mainGlobals "NotHeld" = some (some (.ref (He.ga K "NotHeld")))),
  LB.clsB K (He.ga K "NotHeld") (He.ma K (He.ga K "NotHeld") "__init__") (("code" : Str) :: ["place", "n"]),
  decide (PySem.W.nsIn K mainGlobals "NoElder" = some (some (.ref (He.ga K "NoElder")))),
  LB.clsB K (He.ga K "NoElder") (He.ma K (He.ga K "NoElder") "__init__") (("code" : Str) :: ["place"]),
  decide (PySem.W.nsIn K mainGlobals "WrongLetter" = some (some (.ref (He.ga K "WrongLetter")))),
  LB.clsB K (He.ga K "WrongLetter") (He.ma K (He.ga K "WrongLetter") "__init__") (("code" : Str) :: ["letter"]),
  decide (PySem.W.nsIn K mainGlobals "Elsewhere" = some (some (.ref (He.ga K "Elsewhere")))),
  LB.clsB K (He.ga K "Elsewhere") (He.ma K (He.ga K "Elsewhere") "__init__") (("code" : Str) :: ["room"]),
  decide (PySem.W.nsIn K mainGlobals "NotLacking" = some (some (.ref (He.ga K "NotLacking")))),
  LB.clsB K (He.ga K "NotLacking") (He.ma K (He.ga K "NotLacking") "__init__") (("code" : Str) :: ["ready"]),
  decide (PySem.W.nsIn K mainGlobals "NotSettled" = some (some (.ref (He.ga K "NotSettled")))),
  LB.clsB K (He.ga K "NotSettled") (He.ma K (He.ga K "NotSettled") "__init__") (("code" : Str) :: []),
  decide (PySem.W.nsIn K mainGlobals "Early" = some (some (.ref (He.ga K "Early")))),
  LB.clsB K (He.ga K "Early") (He.ma K (He.ga K "Early") "__init__") (("code" : Str) :: ["at"]),
  decide (PySem.W.nsIn K mainGlobals "NotPrompt" = some (some (.ref (He.ga K "NotPrompt")))),
  LB.clsB K (He.ga K "NotPrompt") (He.ma K (He.ga K "NotPrompt") "__init__") (("code" : Str) :: ["at"]),
  decide (PySem.W.nsIn K mainGlobals "Refused" = some (some (.ref (He.ga K "Refused")))),
  LB.clsB K (He.ga K "Refused") (He.ma K (He.ga K "Refused") "__init__") (("code" : Str) :: ["at"])]
def hbL4 (K : PySem.W.Frag) : List Bool := [decide (PySem.W.nsIn K mainGlobals "UnknownName" = some (some (.ref (He.ga K "UnknownName")))),
  LB.clsB K (He.ga K "UnknownName") (He.ma K (He.ga K "UnknownName") "__init__") (("code" : Str) :: ["name"]),
  decide (PySem.W.nsIn K mainGlobals "UnknownLot" = some (some (.ref (He.ga K "UnknownLot")))),
  LB.clsB K (He.ga K "UnknownLot") (He.ma K (He.ga K "UnknownLot") "__init__") (("code" : Str) :: ["place", "number"]),
  decide (PySem.W.nsIn K mainGlobals "UnknownLoan" = some (some (.ref (He.ga K "UnknownLoan")))),
  LB.clsB K (He.ga K "UnknownLoan") (He.ma K (He.ga K "UnknownLoan") "__init__") (("code" : Str) :: ["number"]),
  decide (PySem.W.nsIn K mainGlobals "NoSuchLetter" = some (some (.ref (He.ga K "NoSuchLetter")))),
  LB.clsB K (He.ga K "NoSuchLetter") (He.ma K (He.ga K "NoSuchLetter") "__init__") (("code" : Str) :: ["index"]),
  decide (PySem.W.nsIn K mainGlobals "Fallen" = some (some (.ref (He.ga K "Fallen")))),
  LB.clsB K (He.ga K "Fallen") (He.ma K (He.ga K "Fallen") "__init__") (("code" : Str) :: ["name"]),
  decide (PySem.W.nsIn K mainGlobals "NotFallen" = some (some (.ref (He.ga K "NotFallen")))),
  LB.clsB K (He.ga K "NotFallen") (He.ma K (He.ga K "NotFallen") "__init__") (("code" : Str) :: ["name"]),
  decide (PySem.W.nsIn K mainGlobals "SureletError" = some (some (.ref (He.ga K "SureletError")))),
  decide (PySem.W.nsIn K mainGlobals "Missing" = some (some (.ref (He.ga K "Missing")))),
  decide (PySem.W.nsIn K mainGlobals "NotNow" = some (some (.ref (He.ga K "NotNow")))),
  mrB K,
  incB (adL K),
  bsB K]
def hbL (K : PySem.W.Frag) : List Bool := hbL0 K ++ hbL1 K ++ hbL2 K ++ hbL3 K ++ hbL4 K
def htL : List (PySem.W.Frag → Addr) := []

theorem all_x {l : PySem.W.OpenLaw} {w : World} {K : PySem.W.Frag} {h : Heap} {mg : Str → Option Value} {fa : Addr} (X : K.In h) (G : h.Ns mainGlobals mg) (hfa : mg "law" = some (.ref fa)) (c : LH.Says hdL hbL htL h K) :
    LamX.LawAtS l w K CX0 7 63 "_law_script" mg fa h := by
  obtain ⟨fbag, hfbag⟩ : ∃ a, a = He.ga K "_law_bag" := ⟨_, rfl⟩
  obtain ⟨fdraw, hfdraw⟩ : ∃ a, a = He.ga K "_law_draw" := ⟨_, rfl⟩
  obtain ⟨fof, hfof⟩ : ∃ a, a = He.ga K "_law_of" := ⟨_, rfl⟩
  obtain ⟨flike, hflike⟩ : ∃ a, a = He.ga K "_law_like" := ⟨_, rfl⟩
  obtain ⟨fwords, hfwords⟩ : ∃ a, a = He.ga K "_law_words" := ⟨_, rfl⟩
  obtain ⟨fdue, hfdue⟩ : ∃ a, a = He.ga K "_law_due" := ⟨_, rfl⟩
  obtain ⟨ffirst, hffirst⟩ : ∃ a, a = He.ga K "_law_first" := ⟨_, rfl⟩
  obtain ⟨fsecond, hfsecond⟩ : ∃ a, a = He.ga K "_law_second" := ⟨_, rfl⟩
  obtain ⟨fboth, hfboth⟩ : ∃ a, a = He.ga K "_law_both" := ⟨_, rfl⟩
  obtain ⟨ftold, hftold⟩ : ∃ a, a = He.ga K "_law_told" := ⟨_, rfl⟩
  obtain ⟨fkinds, hfkinds⟩ : ∃ a, a = He.ga K "_law_kinds" := ⟨_, rfl⟩
  obtain ⟨fkinds_too, hfkinds_too⟩ : ∃ a, a = He.ga K "_law_kinds_too" := ⟨_, rfl⟩
  obtain ⟨fdict, hfdict⟩ : ∃ a, a = He.ga K "_law_dict" := ⟨_, rfl⟩
  obtain ⟨fthing, hfthing⟩ : ∃ a, a = He.ga K "_law_thing" := ⟨_, rfl⟩
  obtain ⟨fcopied, hfcopied⟩ : ∃ a, a = He.ga K "_law_copied" := ⟨_, rfl⟩
  obtain ⟨fmade, hfmade⟩ : ∃ a, a = He.ga K "_law_made" := ⟨_, rfl⟩
  obtain ⟨fso, hfso⟩ : ∃ a, a = He.ga K "_law_so" := ⟨_, rfl⟩
  obtain ⟨flaw, hflaw⟩ : ∃ a, a = He.ga K "law" := ⟨_, rfl⟩
  obtain ⟨aInvalidNumber, haInvalidNumber⟩ : ∃ a, a = He.ga K "InvalidNumber" := ⟨_, rfl⟩
  obtain ⟨fInvalidNumber_init, hfInvalidNumber_init⟩ : ∃ a, a = He.ma K aInvalidNumber "__init__" := ⟨_, rfl⟩
  obtain ⟨aInvalidName, haInvalidName⟩ : ∃ a, a = He.ga K "InvalidName" := ⟨_, rfl⟩
  obtain ⟨fInvalidName_init, hfInvalidName_init⟩ : ∃ a, a = He.ma K aInvalidName "__init__" := ⟨_, rfl⟩
  obtain ⟨aInvalidText, haInvalidText⟩ : ∃ a, a = He.ga K "InvalidText" := ⟨_, rfl⟩
  obtain ⟨fInvalidText_init, hfInvalidText_init⟩ : ∃ a, a = He.ma K aInvalidText "__init__" := ⟨_, rfl⟩
  obtain ⟨aInvalidBorders, haInvalidBorders⟩ : ∃ a, a = He.ga K "InvalidBorders" := ⟨_, rfl⟩
  obtain ⟨fInvalidBorders_init, hfInvalidBorders_init⟩ : ∃ a, a = He.ma K aInvalidBorders "__init__" := ⟨_, rfl⟩
  obtain ⟨aInvalidRest, haInvalidRest⟩ : ∃ a, a = He.ga K "InvalidRest" := ⟨_, rfl⟩
  obtain ⟨fInvalidRest_init, hfInvalidRest_init⟩ : ∃ a, a = He.ma K aInvalidRest "__init__" := ⟨_, rfl⟩
  obtain ⟨aInvalidRule, haInvalidRule⟩ : ∃ a, a = He.ga K "InvalidRule" := ⟨_, rfl⟩
  obtain ⟨fInvalidRule_init, hfInvalidRule_init⟩ : ∃ a, a = He.ma K aInvalidRule "__init__" := ⟨_, rfl⟩
  obtain ⟨aInvalidPlace, haInvalidPlace⟩ : ∃ a, a = He.ga K "InvalidPlace" := ⟨_, rfl⟩
  obtain ⟨fInvalidPlace_init, hfInvalidPlace_init⟩ : ∃ a, a = He.ma K aInvalidPlace "__init__" := ⟨_, rfl⟩
  obtain ⟨aInvalidServer, haInvalidServer⟩ : ∃ a, a = He.ga K "InvalidServer" := ⟨_, rfl⟩
  obtain ⟨fInvalidServer_init, hfInvalidServer_init⟩ : ∃ a, a = He.ma K aInvalidServer "__init__" := ⟨_, rfl⟩
  obtain ⟨aInvalidTree, haInvalidTree⟩ : ∃ a, a = He.ga K "InvalidTree" := ⟨_, rfl⟩
  obtain ⟨fInvalidTree_init, hfInvalidTree_init⟩ : ∃ a, a = He.ma K aInvalidTree "__init__" := ⟨_, rfl⟩
  obtain ⟨aInvalidCustomer, haInvalidCustomer⟩ : ∃ a, a = He.ga K "InvalidCustomer" := ⟨_, rfl⟩
  obtain ⟨fInvalidCustomer_init, hfInvalidCustomer_init⟩ : ∃ a, a = He.ma K aInvalidCustomer "__init__" := ⟨_, rfl⟩
  obtain ⟨aInvalidRoom, haInvalidRoom⟩ : ∃ a, a = He.ga K "InvalidRoom" := ⟨_, rfl⟩
  obtain ⟨fInvalidRoom_init, hfInvalidRoom_init⟩ : ∃ a, a = He.ma K aInvalidRoom "__init__" := ⟨_, rfl⟩
  obtain ⟨aInvalidRow, haInvalidRow⟩ : ∃ a, a = He.ga K "InvalidRow" := ⟨_, rfl⟩
  obtain ⟨fInvalidRow_init, hfInvalidRow_init⟩ : ∃ a, a = He.ma K aInvalidRow "__init__" := ⟨_, rfl⟩
  obtain ⟨aInvalidParts, haInvalidParts⟩ : ∃ a, a = He.ga K "InvalidParts" := ⟨_, rfl⟩
  obtain ⟨fInvalidParts_init, hfInvalidParts_init⟩ : ∃ a, a = He.ma K aInvalidParts "__init__" := ⟨_, rfl⟩
  obtain ⟨aInvalidCut, haInvalidCut⟩ : ∃ a, a = He.ga K "InvalidCut" := ⟨_, rfl⟩
  obtain ⟨fInvalidCut_init, hfInvalidCut_init⟩ : ∃ a, a = He.ma K aInvalidCut "__init__" := ⟨_, rfl⟩
  obtain ⟨aInvalidDeed, haInvalidDeed⟩ : ∃ a, a = He.ga K "InvalidDeed" := ⟨_, rfl⟩
  obtain ⟨fInvalidDeed_init, hfInvalidDeed_init⟩ : ∃ a, a = He.ma K aInvalidDeed "__init__" := ⟨_, rfl⟩
  obtain ⟨aInvalidEvent, haInvalidEvent⟩ : ∃ a, a = He.ga K "InvalidEvent" := ⟨_, rfl⟩
  obtain ⟨fInvalidEvent_init, hfInvalidEvent_init⟩ : ∃ a, a = He.ma K aInvalidEvent "__init__" := ⟨_, rfl⟩
  obtain ⟨aBadTree, haBadTree⟩ : ∃ a, a = He.ga K "BadTree" := ⟨_, rfl⟩
  obtain ⟨fBadTree_init, hfBadTree_init⟩ : ∃ a, a = He.ma K aBadTree "__init__" := ⟨_, rfl⟩
  obtain ⟨aBadReading, haBadReading⟩ : ∃ a, a = He.ga K "BadReading" := ⟨_, rfl⟩
  obtain ⟨fBadReading_init, hfBadReading_init⟩ : ∃ a, a = He.ma K aBadReading "__init__" := ⟨_, rfl⟩
  obtain ⟨aBadMoment, haBadMoment⟩ : ∃ a, a = He.ga K "BadMoment" := ⟨_, rfl⟩
  obtain ⟨fBadMoment_init, hfBadMoment_init⟩ : ∃ a, a = He.ma K aBadMoment "__init__" := ⟨_, rfl⟩
  obtain ⟨aTooMany, haTooMany⟩ : ∃ a, a = He.ga K "TooMany" := ⟨_, rfl⟩
  obtain ⟨fTooMany_init, hfTooMany_init⟩ : ∃ a, a = He.ma K aTooMany "__init__" := ⟨_, rfl⟩
  obtain ⟨aOver, haOver⟩ : ∃ a, a = He.ga K "Over" := ⟨_, rfl⟩
  obtain ⟨fOver_init, hfOver_init⟩ : ∃ a, a = He.ma K aOver "__init__" := ⟨_, rfl⟩
  obtain ⟨aNotHeld, haNotHeld⟩ : ∃ a, a = He.ga K "NotHeld" := ⟨_, rfl⟩
  obtain ⟨fNotHeld_init, hfNotHeld_init⟩ : ∃ a, a = He.ma K aNotHeld "__init__" := ⟨_, rfl⟩
  obtain ⟨aNoElder, haNoElder⟩ : ∃ a, a = He.ga K "NoElder" := ⟨_, rfl⟩
  obtain ⟨fNoElder_init, hfNoElder_init⟩ : ∃ a, a = He.ma K aNoElder "__init__" := ⟨_, rfl⟩
  obtain ⟨aWrongLetter, haWrongLetter⟩ : ∃ a, a = He.ga K "WrongLetter" := ⟨_, rfl⟩
  obtain ⟨fWrongLetter_init, hfWrongLetter_init⟩ : ∃ a, a = He.ma K aWrongLetter "__init__" := ⟨_, rfl⟩
  obtain ⟨aElsewhere, haElsewhere⟩ : ∃ a, a = He.ga K "Elsewhere" := ⟨_, rfl⟩
  obtain ⟨fElsewhere_init, hfElsewhere_init⟩ : ∃ a, a = He.ma K aElsewhere "__init__" := ⟨_, rfl⟩
  obtain ⟨aNotLacking, haNotLacking⟩ : ∃ a, a = He.ga K "NotLacking" := ⟨_, rfl⟩
  obtain ⟨fNotLacking_init, hfNotLacking_init⟩ : ∃ a, a = He.ma K aNotLacking "__init__" := ⟨_, rfl⟩
  obtain ⟨aNotSettled, haNotSettled⟩ : ∃ a, a = He.ga K "NotSettled" := ⟨_, rfl⟩
  obtain ⟨fNotSettled_init, hfNotSettled_init⟩ : ∃ a, a = He.ma K aNotSettled "__init__" := ⟨_, rfl⟩
  obtain ⟨aEarly, haEarly⟩ : ∃ a, a = He.ga K "Early" := ⟨_, rfl⟩
  obtain ⟨fEarly_init, hfEarly_init⟩ : ∃ a, a = He.ma K aEarly "__init__" := ⟨_, rfl⟩
  obtain ⟨aNotPrompt, haNotPrompt⟩ : ∃ a, a = He.ga K "NotPrompt" := ⟨_, rfl⟩
  obtain ⟨fNotPrompt_init, hfNotPrompt_init⟩ : ∃ a, a = He.ma K aNotPrompt "__init__" := ⟨_, rfl⟩
  obtain ⟨aRefused, haRefused⟩ : ∃ a, a = He.ga K "Refused" := ⟨_, rfl⟩
  obtain ⟨fRefused_init, hfRefused_init⟩ : ∃ a, a = He.ma K aRefused "__init__" := ⟨_, rfl⟩
  obtain ⟨aUnknownName, haUnknownName⟩ : ∃ a, a = He.ga K "UnknownName" := ⟨_, rfl⟩
  obtain ⟨fUnknownName_init, hfUnknownName_init⟩ : ∃ a, a = He.ma K aUnknownName "__init__" := ⟨_, rfl⟩
  obtain ⟨aUnknownLot, haUnknownLot⟩ : ∃ a, a = He.ga K "UnknownLot" := ⟨_, rfl⟩
  obtain ⟨fUnknownLot_init, hfUnknownLot_init⟩ : ∃ a, a = He.ma K aUnknownLot "__init__" := ⟨_, rfl⟩
  obtain ⟨aUnknownLoan, haUnknownLoan⟩ : ∃ a, a = He.ga K "UnknownLoan" := ⟨_, rfl⟩
  obtain ⟨fUnknownLoan_init, hfUnknownLoan_init⟩ : ∃ a, a = He.ma K aUnknownLoan "__init__" := ⟨_, rfl⟩
  obtain ⟨aNoSuchLetter, haNoSuchLetter⟩ : ∃ a, a = He.ga K "NoSuchLetter" := ⟨_, rfl⟩
  obtain ⟨fNoSuchLetter_init, hfNoSuchLetter_init⟩ : ∃ a, a = He.ma K aNoSuchLetter "__init__" := ⟨_, rfl⟩
  obtain ⟨aFallen, haFallen⟩ : ∃ a, a = He.ga K "Fallen" := ⟨_, rfl⟩
  obtain ⟨fFallen_init, hfFallen_init⟩ : ∃ a, a = He.ma K aFallen "__init__" := ⟨_, rfl⟩
  obtain ⟨aNotFallen, haNotFallen⟩ : ∃ a, a = He.ga K "NotFallen" := ⟨_, rfl⟩
  obtain ⟨fNotFallen_init, hfNotFallen_init⟩ : ∃ a, a = He.ma K aNotFallen "__init__" := ⟨_, rfl⟩
  obtain ⟨aSureletError, haSureletError⟩ : ∃ a, a = He.ga K "SureletError" := ⟨_, rfl⟩
  obtain ⟨aMissing, haMissing⟩ : ∃ a, a = He.ga K "Missing" := ⟨_, rfl⟩
  obtain ⟨aNotNow, haNotNow⟩ : ∃ a, a = He.ga K "NotNow" := ⟨_, rfl⟩
  have abag : PySem.W.nsIn K mainGlobals "_law_bag" = some (some (.ref fbag)) := by rw [hfbag]; exact of_decide_eq_true (c.b 0)
  have adraw : PySem.W.nsIn K mainGlobals "_law_draw" = some (some (.ref fdraw)) := by rw [hfdraw]; exact of_decide_eq_true (c.b 1)
  have aof : PySem.W.nsIn K mainGlobals "_law_of" = some (some (.ref fof)) := by rw [hfof]; exact of_decide_eq_true (c.b 2)
  have alike : PySem.W.nsIn K mainGlobals "_law_like" = some (some (.ref flike)) := by rw [hflike]; exact of_decide_eq_true (c.b 3)
  have awords : PySem.W.nsIn K mainGlobals "_law_words" = some (some (.ref fwords)) := by rw [hfwords]; exact of_decide_eq_true (c.b 4)
  have adue : PySem.W.nsIn K mainGlobals "_law_due" = some (some (.ref fdue)) := by rw [hfdue]; exact of_decide_eq_true (c.b 5)
  have afirst : PySem.W.nsIn K mainGlobals "_law_first" = some (some (.ref ffirst)) := by rw [hffirst]; exact of_decide_eq_true (c.b 6)
  have asecond : PySem.W.nsIn K mainGlobals "_law_second" = some (some (.ref fsecond)) := by rw [hfsecond]; exact of_decide_eq_true (c.b 7)
  have aboth : PySem.W.nsIn K mainGlobals "_law_both" = some (some (.ref fboth)) := by rw [hfboth]; exact of_decide_eq_true (c.b 8)
  have atold : PySem.W.nsIn K mainGlobals "_law_told" = some (some (.ref ftold)) := by rw [hftold]; exact of_decide_eq_true (c.b 9)
  have akinds : PySem.W.nsIn K mainGlobals "_law_kinds" = some (some (.ref fkinds)) := by rw [hfkinds]; exact of_decide_eq_true (c.b 10)
  have akinds_too : PySem.W.nsIn K mainGlobals "_law_kinds_too" = some (some (.ref fkinds_too)) := by rw [hfkinds_too]; exact of_decide_eq_true (c.b 11)
  have adict : PySem.W.nsIn K mainGlobals "_law_dict" = some (some (.ref fdict)) := by rw [hfdict]; exact of_decide_eq_true (c.b 12)
  have athing : PySem.W.nsIn K mainGlobals "_law_thing" = some (some (.ref fthing)) := by rw [hfthing]; exact of_decide_eq_true (c.b 13)
  have acopied : PySem.W.nsIn K mainGlobals "_law_copied" = some (some (.ref fcopied)) := by rw [hfcopied]; exact of_decide_eq_true (c.b 14)
  have amade : PySem.W.nsIn K mainGlobals "_law_made" = some (some (.ref fmade)) := by rw [hfmade]; exact of_decide_eq_true (c.b 15)
  have aso : PySem.W.nsIn K mainGlobals "_law_so" = some (some (.ref fso)) := by rw [hfso]; exact of_decide_eq_true (c.b 16)
  have alaw : PySem.W.nsIn K mainGlobals "law" = some (some (.ref flaw)) := by rw [hflaw]; exact of_decide_eq_true (c.b 17)
  have zArithmeticError : PySem.W.nsIn K mainGlobals "ArithmeticError" = some none := by exact of_decide_eq_true (c.b 18)
  have zIndexError : PySem.W.nsIn K mainGlobals "IndexError" = some none := by exact of_decide_eq_true (c.b 19)
  have zKeyError : PySem.W.nsIn K mainGlobals "KeyError" = some none := by exact of_decide_eq_true (c.b 20)
  have zLookupError : PySem.W.nsIn K mainGlobals "LookupError" = some none := by exact of_decide_eq_true (c.b 21)
  have zNotImplementedError : PySem.W.nsIn K mainGlobals "NotImplementedError" = some none := by exact of_decide_eq_true (c.b 22)
  have zRuntimeError : PySem.W.nsIn K mainGlobals "RuntimeError" = some none := by exact of_decide_eq_true (c.b 23)
  have zTypeError : PySem.W.nsIn K mainGlobals "TypeError" = some none := by exact of_decide_eq_true (c.b 24)
  have zValueError : PySem.W.nsIn K mainGlobals "ValueError" = some none := by exact of_decide_eq_true (c.b 25)
  have zZeroDivisionError : PySem.W.nsIn K mainGlobals "ZeroDivisionError" = some none := by exact of_decide_eq_true (c.b 26)
  have zall : PySem.W.nsIn K mainGlobals "all" = some none := by exact of_decide_eq_true (c.b 27)
  have zbool : PySem.W.nsIn K mainGlobals "bool" = some none := by exact of_decide_eq_true (c.b 28)
  have zdict : PySem.W.nsIn K mainGlobals "dict" = some none := by exact of_decide_eq_true (c.b 29)
  have zint : PySem.W.nsIn K mainGlobals "int" = some none := by exact of_decide_eq_true (c.b 30)
  have zisinstance : PySem.W.nsIn K mainGlobals "isinstance" = some none := by exact of_decide_eq_true (c.b 31)
  have zlen : PySem.W.nsIn K mainGlobals "len" = some none := by exact of_decide_eq_true (c.b 32)
  have zlist : PySem.W.nsIn K mainGlobals "list" = some none := by exact of_decide_eq_true (c.b 33)
  have zrange : PySem.W.nsIn K mainGlobals "range" = some none := by exact of_decide_eq_true (c.b 34)
  have zstr : PySem.W.nsIn K mainGlobals "str" = some none := by exact of_decide_eq_true (c.b 35)
  have ztuple : PySem.W.nsIn K mainGlobals "tuple" = some none := by exact of_decide_eq_true (c.b 36)
  have zzip : PySem.W.nsIn K mainGlobals "zip" = some none := by exact of_decide_eq_true (c.b 37)
  have hnC : PySem.W.specialIn K (.builtin "object.__class__") "__get__" = some (some (.builtin "getset_descriptor.__get__")) := by exact of_decide_eq_true (c.b 38)
  have htC : PySem.W.takesIn K (.builtin "object.__class__") = some true := by exact of_decide_eq_true (c.b 39)
  have a_InvalidNumber : PySem.W.nsIn K mainGlobals "InvalidNumber" = some (some (.ref aInvalidNumber)) := by rw [haInvalidNumber]; exact of_decide_eq_true (c.b 40)
  have xInvalidNumber := LB.cls_of hnC htC (show LB.clsB K aInvalidNumber fInvalidNumber_init (("code" : Str) :: ["value"]) = true from by rw [hfInvalidNumber_init, haInvalidNumber]; exact c.b 41)
  have a_InvalidName : PySem.W.nsIn K mainGlobals "InvalidName" = some (some (.ref aInvalidName)) := by rw [haInvalidName]; exact of_decide_eq_true (c.b 42)
  have xInvalidName := LB.cls_of hnC htC (show LB.clsB K aInvalidName fInvalidName_init (("code" : Str) :: ["value"]) = true from by rw [hfInvalidName_init, haInvalidName]; exact c.b 43)
  have a_InvalidText : PySem.W.nsIn K mainGlobals "InvalidText" = some (some (.ref aInvalidText)) := by rw [haInvalidText]; exact of_decide_eq_true (c.b 44)
  have xInvalidText := LB.cls_of hnC htC (show LB.clsB K aInvalidText fInvalidText_init (("code" : Str) :: ["text"]) = true from by rw [hfInvalidText_init, haInvalidText]; exact c.b 45)
  have a_InvalidBorders : PySem.W.nsIn K mainGlobals "InvalidBorders" = some (some (.ref aInvalidBorders)) := by rw [haInvalidBorders]; exact of_decide_eq_true (c.b 46)
  have xInvalidBorders := LB.cls_of hnC htC (show LB.clsB K aInvalidBorders fInvalidBorders_init (("code" : Str) :: ["at"]) = true from by rw [hfInvalidBorders_init, haInvalidBorders]; exact c.b 47)
  have a_InvalidRest : PySem.W.nsIn K mainGlobals "InvalidRest" = some (some (.ref aInvalidRest)) := by rw [haInvalidRest]; exact of_decide_eq_true (c.b 48)
  have xInvalidRest := LB.cls_of hnC htC (show LB.clsB K aInvalidRest fInvalidRest_init (("code" : Str) :: ["value"]) = true from by rw [hfInvalidRest_init, haInvalidRest]; exact c.b 49)
  have a_InvalidRule : PySem.W.nsIn K mainGlobals "InvalidRule" = some (some (.ref aInvalidRule)) := by rw [haInvalidRule]; exact of_decide_eq_true (c.b 50)
  have xInvalidRule := LB.cls_of hnC htC (show LB.clsB K aInvalidRule fInvalidRule_init (("code" : Str) :: ["value"]) = true from by rw [hfInvalidRule_init, haInvalidRule]; exact c.b 51)
  have a_InvalidPlace : PySem.W.nsIn K mainGlobals "InvalidPlace" = some (some (.ref aInvalidPlace)) := by rw [haInvalidPlace]; exact of_decide_eq_true (c.b 52)
  have xInvalidPlace := LB.cls_of hnC htC (show LB.clsB K aInvalidPlace fInvalidPlace_init (("code" : Str) :: ["at"]) = true from by rw [hfInvalidPlace_init, haInvalidPlace]; exact c.b 53)
  have a_InvalidServer : PySem.W.nsIn K mainGlobals "InvalidServer" = some (some (.ref aInvalidServer)) := by rw [haInvalidServer]; exact of_decide_eq_true (c.b 54)
  have xInvalidServer := LB.cls_of hnC htC (show LB.clsB K aInvalidServer fInvalidServer_init (("code" : Str) :: ["at"]) = true from by rw [hfInvalidServer_init, haInvalidServer]; exact c.b 55)
  have a_InvalidTree : PySem.W.nsIn K mainGlobals "InvalidTree" = some (some (.ref aInvalidTree)) := by rw [haInvalidTree]; exact of_decide_eq_true (c.b 56)
  have xInvalidTree := LB.cls_of hnC htC (show LB.clsB K aInvalidTree fInvalidTree_init (("code" : Str) :: ["at"]) = true from by rw [hfInvalidTree_init, haInvalidTree]; exact c.b 57)
  have a_InvalidCustomer : PySem.W.nsIn K mainGlobals "InvalidCustomer" = some (some (.ref aInvalidCustomer)) := by rw [haInvalidCustomer]; exact of_decide_eq_true (c.b 58)
  have xInvalidCustomer := LB.cls_of hnC htC (show LB.clsB K aInvalidCustomer fInvalidCustomer_init (("code" : Str) :: ["at"]) = true from by rw [hfInvalidCustomer_init, haInvalidCustomer]; exact c.b 59)
  have a_InvalidRoom : PySem.W.nsIn K mainGlobals "InvalidRoom" = some (some (.ref aInvalidRoom)) := by rw [haInvalidRoom]; exact of_decide_eq_true (c.b 60)
  have xInvalidRoom := LB.cls_of hnC htC (show LB.clsB K aInvalidRoom fInvalidRoom_init (("code" : Str) :: ["at"]) = true from by rw [hfInvalidRoom_init, haInvalidRoom]; exact c.b 61)
  have a_InvalidRow : PySem.W.nsIn K mainGlobals "InvalidRow" = some (some (.ref aInvalidRow)) := by rw [haInvalidRow]; exact of_decide_eq_true (c.b 62)
  have xInvalidRow := LB.cls_of hnC htC (show LB.clsB K aInvalidRow fInvalidRow_init (("code" : Str) :: ["at"]) = true from by rw [hfInvalidRow_init, haInvalidRow]; exact c.b 63)
  have a_InvalidParts : PySem.W.nsIn K mainGlobals "InvalidParts" = some (some (.ref aInvalidParts)) := by rw [haInvalidParts]; exact of_decide_eq_true (c.b 64)
  have xInvalidParts := LB.cls_of hnC htC (show LB.clsB K aInvalidParts fInvalidParts_init (("code" : Str) :: ["value"]) = true from by rw [hfInvalidParts_init, haInvalidParts]; exact c.b 65)
  have a_InvalidCut : PySem.W.nsIn K mainGlobals "InvalidCut" = some (some (.ref aInvalidCut)) := by rw [haInvalidCut]; exact of_decide_eq_true (c.b 66)
  have xInvalidCut := LB.cls_of hnC htC (show LB.clsB K aInvalidCut fInvalidCut_init (("code" : Str) :: ["at"]) = true from by rw [hfInvalidCut_init, haInvalidCut]; exact c.b 67)
  have a_InvalidDeed : PySem.W.nsIn K mainGlobals "InvalidDeed" = some (some (.ref aInvalidDeed)) := by rw [haInvalidDeed]; exact of_decide_eq_true (c.b 68)
  have xInvalidDeed := LB.cls_of hnC htC (show LB.clsB K aInvalidDeed fInvalidDeed_init (("code" : Str) :: ["value"]) = true from by rw [hfInvalidDeed_init, haInvalidDeed]; exact c.b 69)
  have a_InvalidEvent : PySem.W.nsIn K mainGlobals "InvalidEvent" = some (some (.ref aInvalidEvent)) := by rw [haInvalidEvent]; exact of_decide_eq_true (c.b 70)
  have xInvalidEvent := LB.cls_of hnC htC (show LB.clsB K aInvalidEvent fInvalidEvent_init (("code" : Str) :: ["value"]) = true from by rw [hfInvalidEvent_init, haInvalidEvent]; exact c.b 71)
  have a_BadTree : PySem.W.nsIn K mainGlobals "BadTree" = some (some (.ref aBadTree)) := by rw [haBadTree]; exact of_decide_eq_true (c.b 72)
  have xBadTree := LB.cls_of hnC htC (show LB.clsB K aBadTree fBadTree_init (("code" : Str) :: ["place"]) = true from by rw [hfBadTree_init, haBadTree]; exact c.b 73)
  have a_BadReading : PySem.W.nsIn K mainGlobals "BadReading" = some (some (.ref aBadReading)) := by rw [haBadReading]; exact of_decide_eq_true (c.b 74)
  have xBadReading := LB.cls_of hnC htC (show LB.clsB K aBadReading fBadReading_init (("code" : Str) :: ["server", "reading"]) = true from by rw [hfBadReading_init, haBadReading]; exact c.b 75)
  have a_BadMoment : PySem.W.nsIn K mainGlobals "BadMoment" = some (some (.ref aBadMoment)) := by rw [haBadMoment]; exact of_decide_eq_true (c.b 76)
  have xBadMoment := LB.cls_of hnC htC (show LB.clsB K aBadMoment fBadMoment_init (("code" : Str) :: ["moment"]) = true from by rw [hfBadMoment_init, haBadMoment]; exact c.b 77)
  have a_TooMany : PySem.W.nsIn K mainGlobals "TooMany" = some (some (.ref aTooMany)) := by rw [haTooMany]; exact of_decide_eq_true (c.b 78)
  have xTooMany := LB.cls_of hnC htC (show LB.clsB K aTooMany fTooMany_init (("code" : Str) :: ["what", "count"]) = true from by rw [hfTooMany_init, haTooMany]; exact c.b 79)
  have a_Over : PySem.W.nsIn K mainGlobals "Over" = some (some (.ref aOver)) := by rw [haOver]; exact of_decide_eq_true (c.b 80)
  have xOver := LB.cls_of hnC htC (show LB.clsB K aOver fOver_init (("code" : Str) :: ["value"]) = true from by rw [hfOver_init, haOver]; exact c.b 81)
  have a_NotHeld : PySem.W.nsIn K mainGlobals "NotHeld" = some (some (.ref aNotHeld)) := by rw [haNotHeld]; exact of_decide_eq_true (c.b 82)
  have xNotHeld := LB.cls_of hnC htC (show LB.clsB K aNotHeld fNotHeld_init (("code" : Str) :: ["place", "n"]) = true from by rw [hfNotHeld_init, haNotHeld]; exact c.b 83)
  have a_NoElder : PySem.W.nsIn K mainGlobals "NoElder" = some (some (.ref aNoElder)) := by rw [haNoElder]; exact of_decide_eq_true (c.b 84)
  have xNoElder := LB.cls_of hnC htC (show LB.clsB K aNoElder fNoElder_init (("code" : Str) :: ["place"]) = true from by rw [hfNoElder_init, haNoElder]; exact c.b 85)
  have a_WrongLetter : PySem.W.nsIn K mainGlobals "WrongLetter" = some (some (.ref aWrongLetter)) := by rw [haWrongLetter]; exact of_decide_eq_true (c.b 86)
  have xWrongLetter := LB.cls_of hnC htC (show LB.clsB K aWrongLetter fWrongLetter_init (("code" : Str) :: ["letter"]) = true from by rw [hfWrongLetter_init, haWrongLetter]; exact c.b 87)
  have a_Elsewhere : PySem.W.nsIn K mainGlobals "Elsewhere" = some (some (.ref aElsewhere)) := by rw [haElsewhere]; exact of_decide_eq_true (c.b 88)
  have xElsewhere := LB.cls_of hnC htC (show LB.clsB K aElsewhere fElsewhere_init (("code" : Str) :: ["room"]) = true from by rw [hfElsewhere_init, haElsewhere]; exact c.b 89)
  have a_NotLacking : PySem.W.nsIn K mainGlobals "NotLacking" = some (some (.ref aNotLacking)) := by rw [haNotLacking]; exact of_decide_eq_true (c.b 90)
  have xNotLacking := LB.cls_of hnC htC (show LB.clsB K aNotLacking fNotLacking_init (("code" : Str) :: ["ready"]) = true from by rw [hfNotLacking_init, haNotLacking]; exact c.b 91)
  have a_NotSettled : PySem.W.nsIn K mainGlobals "NotSettled" = some (some (.ref aNotSettled)) := by rw [haNotSettled]; exact of_decide_eq_true (c.b 92)
  have xNotSettled := LB.cls_of hnC htC (show LB.clsB K aNotSettled fNotSettled_init (("code" : Str) :: []) = true from by rw [hfNotSettled_init, haNotSettled]; exact c.b 93)
  have a_Early : PySem.W.nsIn K mainGlobals "Early" = some (some (.ref aEarly)) := by rw [haEarly]; exact of_decide_eq_true (c.b 94)
  have xEarly := LB.cls_of hnC htC (show LB.clsB K aEarly fEarly_init (("code" : Str) :: ["at"]) = true from by rw [hfEarly_init, haEarly]; exact c.b 95)
  have a_NotPrompt : PySem.W.nsIn K mainGlobals "NotPrompt" = some (some (.ref aNotPrompt)) := by rw [haNotPrompt]; exact of_decide_eq_true (c.b 96)
  have xNotPrompt := LB.cls_of hnC htC (show LB.clsB K aNotPrompt fNotPrompt_init (("code" : Str) :: ["at"]) = true from by rw [hfNotPrompt_init, haNotPrompt]; exact c.b 97)
  have a_Refused : PySem.W.nsIn K mainGlobals "Refused" = some (some (.ref aRefused)) := by rw [haRefused]; exact of_decide_eq_true (c.b 98)
  have xRefused := LB.cls_of hnC htC (show LB.clsB K aRefused fRefused_init (("code" : Str) :: ["at"]) = true from by rw [hfRefused_init, haRefused]; exact c.b 99)
  have a_UnknownName : PySem.W.nsIn K mainGlobals "UnknownName" = some (some (.ref aUnknownName)) := by rw [haUnknownName]; exact of_decide_eq_true (c.b 100)
  have xUnknownName := LB.cls_of hnC htC (show LB.clsB K aUnknownName fUnknownName_init (("code" : Str) :: ["name"]) = true from by rw [hfUnknownName_init, haUnknownName]; exact c.b 101)
  have a_UnknownLot : PySem.W.nsIn K mainGlobals "UnknownLot" = some (some (.ref aUnknownLot)) := by rw [haUnknownLot]; exact of_decide_eq_true (c.b 102)
  have xUnknownLot := LB.cls_of hnC htC (show LB.clsB K aUnknownLot fUnknownLot_init (("code" : Str) :: ["place", "number"]) = true from by rw [hfUnknownLot_init, haUnknownLot]; exact c.b 103)
  have a_UnknownLoan : PySem.W.nsIn K mainGlobals "UnknownLoan" = some (some (.ref aUnknownLoan)) := by rw [haUnknownLoan]; exact of_decide_eq_true (c.b 104)
  have xUnknownLoan := LB.cls_of hnC htC (show LB.clsB K aUnknownLoan fUnknownLoan_init (("code" : Str) :: ["number"]) = true from by rw [hfUnknownLoan_init, haUnknownLoan]; exact c.b 105)
  have a_NoSuchLetter : PySem.W.nsIn K mainGlobals "NoSuchLetter" = some (some (.ref aNoSuchLetter)) := by rw [haNoSuchLetter]; exact of_decide_eq_true (c.b 106)
  have xNoSuchLetter := LB.cls_of hnC htC (show LB.clsB K aNoSuchLetter fNoSuchLetter_init (("code" : Str) :: ["index"]) = true from by rw [hfNoSuchLetter_init, haNoSuchLetter]; exact c.b 107)
  have a_Fallen : PySem.W.nsIn K mainGlobals "Fallen" = some (some (.ref aFallen)) := by rw [haFallen]; exact of_decide_eq_true (c.b 108)
  have xFallen := LB.cls_of hnC htC (show LB.clsB K aFallen fFallen_init (("code" : Str) :: ["name"]) = true from by rw [hfFallen_init, haFallen]; exact c.b 109)
  have a_NotFallen : PySem.W.nsIn K mainGlobals "NotFallen" = some (some (.ref aNotFallen)) := by rw [haNotFallen]; exact of_decide_eq_true (c.b 110)
  have xNotFallen := LB.cls_of hnC htC (show LB.clsB K aNotFallen fNotFallen_init (("code" : Str) :: ["name"]) = true from by rw [hfNotFallen_init, haNotFallen]; exact c.b 111)
  have a_SureletError : PySem.W.nsIn K mainGlobals "SureletError" = some (some (.ref aSureletError)) := by rw [haSureletError]; exact of_decide_eq_true (c.b 112)
  have a_Missing : PySem.W.nsIn K mainGlobals "Missing" = some (some (.ref aMissing)) := by rw [haMissing]; exact of_decide_eq_true (c.b 113)
  have a_NotNow : PySem.W.nsIn K mainGlobals "NotNow" = some (some (.ref aNotNow)) := by rw [haNotNow]; exact of_decide_eq_true (c.b 114)
  have mrT := (show mrB K = true from by exact c.b 115)
  have inT := (show incB (adL K) = true from by exact c.b 116)
  have bsT := (show bsB K = true from by exact c.b 117)
  obtain ⟨ocbag, odbag, kVbag, dcbag, pmbag, anbag, cdbag, ctbag, slbag, lbag, cbag, kbag⟩ : ∃ oc od kV doc pm an cdv ct osl, K.lookup fbag = some ⟨oc, od, .func (PySem.W.fnOf "_law_bag" "_law_bag" (defArgs sbag) (defBody sbag) (defScope sbag) .none kV doc pm an cdv ct), osl⟩ ∧ PySem.W.codeIn K cdv "_law_bag" = true ∧ PySem.W.keepIn K (.ref fbag) = true := by
    rw [hfbag]; exact LH.FnA.bare (d := hd_bag) (c.f 0).1 (c.f 0).2 rfl rfl
  obtain ⟨ocdraw, oddraw, kVdraw, dcdraw, pmdraw, andraw, cddraw, ctdraw, sldraw, ldraw, cdraw, kdraw⟩ : ∃ oc od kV doc pm an cdv ct osl, K.lookup fdraw = some ⟨oc, od, .func (PySem.W.fnOf "_law_draw" "_law_draw" (defArgs sdraw) (defBody sdraw) (defScope sdraw) .none kV doc pm an cdv ct), osl⟩ ∧ PySem.W.codeIn K cdv "_law_draw" = true ∧ PySem.W.keepIn K (.ref fdraw) = true := by
    rw [hfdraw]; exact LH.FnA.bare (d := hd_draw) (c.f 1).1 (c.f 1).2 rfl rfl
  obtain ⟨ocof, odof, kVof, dcof, pmof, anof, cdof, ctof, slof, lof, cof, kof⟩ : ∃ oc od kV doc pm an cdv ct osl, K.lookup fof = some ⟨oc, od, .func (PySem.W.fnOf "_law_of" "_law_of" (defArgs sof) (defBody sof) (defScope sof) .none kV doc pm an cdv ct), osl⟩ ∧ PySem.W.codeIn K cdv "_law_of" = true ∧ PySem.W.keepIn K (.ref fof) = true := by
    rw [hfof]; exact LH.FnA.bare (d := hd_of) (c.f 2).1 (c.f 2).2 rfl rfl
  obtain ⟨oclike, odlike, kVlike, dclike, pmlike, anlike, cdlike, ctlike, sllike, llike, clike, klike⟩ : ∃ oc od kV doc pm an cdv ct osl, K.lookup flike = some ⟨oc, od, .func (PySem.W.fnOf "_law_like" "_law_like" (defArgs slike) (defBody slike) (defScope slike) .none kV doc pm an cdv ct), osl⟩ ∧ PySem.W.codeIn K cdv "_law_like" = true ∧ PySem.W.keepIn K (.ref flike) = true := by
    rw [hflike]; exact LH.FnA.bare (d := hd_like) (c.f 3).1 (c.f 3).2 rfl rfl
  obtain ⟨ocwords, odwords, kVwords, dcwords, pmwords, anwords, cdwords, ctwords, slwords, lwords, cwords, kwords⟩ : ∃ oc od kV doc pm an cdv ct osl, K.lookup fwords = some ⟨oc, od, .func (PySem.W.fnOf "_law_words" "_law_words" (defArgs swords) (defBody swords) (defScope swords) .none kV doc pm an cdv ct), osl⟩ ∧ PySem.W.codeIn K cdv "_law_words" = true ∧ PySem.W.keepIn K (.ref fwords) = true := by
    rw [hfwords]; exact LH.FnA.bare (d := hd_words) (c.f 4).1 (c.f 4).2 rfl rfl
  obtain ⟨ocdue, oddue, kVdue, dcdue, pmdue, andue, cddue, ctdue, sldue, ldue, cdue, kdue⟩ : ∃ oc od kV doc pm an cdv ct osl, K.lookup fdue = some ⟨oc, od, .func (PySem.W.fnOf "_law_due" "_law_due" (defArgs sdue) (defBody sdue) (defScope sdue) .none kV doc pm an cdv ct), osl⟩ ∧ PySem.W.codeIn K cdv "_law_due" = true ∧ PySem.W.keepIn K (.ref fdue) = true := by
    rw [hfdue]; exact LH.FnA.bare (d := hd_due) (c.f 5).1 (c.f 5).2 rfl rfl
  obtain ⟨ocfirst, odfirst, kVfirst, dcfirst, pmfirst, anfirst, cdfirst, ctfirst, slfirst, lfirst, cfirst, kfirst⟩ : ∃ oc od kV doc pm an cdv ct osl, K.lookup ffirst = some ⟨oc, od, .func (PySem.W.fnOf "_law_first" "_law_first" (defArgs sfirst) (defBody sfirst) (defScope sfirst) .none kV doc pm an cdv ct), osl⟩ ∧ PySem.W.codeIn K cdv "_law_first" = true ∧ PySem.W.keepIn K (.ref ffirst) = true := by
    rw [hffirst]; exact LH.FnA.bare (d := hd_first) (c.f 6).1 (c.f 6).2 rfl rfl
  obtain ⟨ocsecond, odsecond, kVsecond, dcsecond, pmsecond, ansecond, cdsecond, ctsecond, slsecond, lsecond, csecond, ksecond⟩ : ∃ oc od kV doc pm an cdv ct osl, K.lookup fsecond = some ⟨oc, od, .func (PySem.W.fnOf "_law_second" "_law_second" (defArgs ssecond) (defBody ssecond) (defScope ssecond) .none kV doc pm an cdv ct), osl⟩ ∧ PySem.W.codeIn K cdv "_law_second" = true ∧ PySem.W.keepIn K (.ref fsecond) = true := by
    rw [hfsecond]; exact LH.FnA.bare (d := hd_second) (c.f 7).1 (c.f 7).2 rfl rfl
  obtain ⟨ocboth, odboth, kVboth, dcboth, pmboth, anboth, cdboth, ctboth, slboth, lboth, cboth, kboth⟩ : ∃ oc od kV doc pm an cdv ct osl, K.lookup fboth = some ⟨oc, od, .func (PySem.W.fnOf "_law_both" "_law_both" (defArgs sboth) (defBody sboth) (defScope sboth) .none kV doc pm an cdv ct), osl⟩ ∧ PySem.W.codeIn K cdv "_law_both" = true ∧ PySem.W.keepIn K (.ref fboth) = true := by
    rw [hfboth]; exact LH.FnA.bare (d := hd_both) (c.f 8).1 (c.f 8).2 rfl rfl
  obtain ⟨octold, odtold, kVtold, dctold, pmtold, antold, cdtold, cttold, sltold, ltold, ctold, ktold⟩ : ∃ oc od kV doc pm an cdv ct osl, K.lookup ftold = some ⟨oc, od, .func (PySem.W.fnOf "_law_told" "_law_told" (defArgs stold) (defBody stold) (defScope stold) .none kV doc pm an cdv ct), osl⟩ ∧ PySem.W.codeIn K cdv "_law_told" = true ∧ PySem.W.keepIn K (.ref ftold) = true := by
    rw [hftold]; exact LH.FnA.bare (d := hd_told) (c.f 9).1 (c.f 9).2 rfl rfl
  obtain ⟨ockinds, odkinds, kVkinds, dckinds, pmkinds, ankinds, cdkinds, ctkinds, slkinds, lkinds, ckinds, kkinds⟩ : ∃ oc od kV doc pm an cdv ct osl, K.lookup fkinds = some ⟨oc, od, .func (PySem.W.fnOf "_law_kinds" "_law_kinds" (defArgs skinds) (defBody skinds) (defScope skinds) .none kV doc pm an cdv ct), osl⟩ ∧ PySem.W.codeIn K cdv "_law_kinds" = true ∧ PySem.W.keepIn K (.ref fkinds) = true := by
    rw [hfkinds]; exact LH.FnA.bare (d := hd_kinds) (c.f 10).1 (c.f 10).2 rfl rfl
  obtain ⟨ockinds_too, odkinds_too, kVkinds_too, dckinds_too, pmkinds_too, ankinds_too, cdkinds_too, ctkinds_too, slkinds_too, lkinds_too, ckinds_too, kkinds_too⟩ : ∃ oc od kV doc pm an cdv ct osl, K.lookup fkinds_too = some ⟨oc, od, .func (PySem.W.fnOf "_law_kinds_too" "_law_kinds_too" (defArgs skinds_too) (defBody skinds_too) (defScope skinds_too) .none kV doc pm an cdv ct), osl⟩ ∧ PySem.W.codeIn K cdv "_law_kinds_too" = true ∧ PySem.W.keepIn K (.ref fkinds_too) = true := by
    rw [hfkinds_too]; exact LH.FnA.bare (d := hd_kinds_too) (c.f 11).1 (c.f 11).2 rfl rfl
  obtain ⟨ocdict, oddict, kVdict, dcdict, pmdict, andict, cddict, ctdict, sldict, ldict, cdict, kdict⟩ : ∃ oc od kV doc pm an cdv ct osl, K.lookup fdict = some ⟨oc, od, .func (PySem.W.fnOf "_law_dict" "_law_dict" (defArgs sdict) (defBody sdict) (defScope sdict) .none kV doc pm an cdv ct), osl⟩ ∧ PySem.W.codeIn K cdv "_law_dict" = true ∧ PySem.W.keepIn K (.ref fdict) = true := by
    rw [hfdict]; exact LH.FnA.bare (d := hd_dict) (c.f 12).1 (c.f 12).2 rfl rfl
  obtain ⟨octhing, odthing, kVthing, dcthing, pmthing, anthing, cdthing, ctthing, slthing, lthing, cthing, kthing⟩ : ∃ oc od kV doc pm an cdv ct osl, K.lookup fthing = some ⟨oc, od, .func (PySem.W.fnOf "_law_thing" "_law_thing" (defArgs sthing) (defBody sthing) (defScope sthing) .none kV doc pm an cdv ct), osl⟩ ∧ PySem.W.codeIn K cdv "_law_thing" = true ∧ PySem.W.keepIn K (.ref fthing) = true := by
    rw [hfthing]; exact LH.FnA.bare (d := hd_thing) (c.f 13).1 (c.f 13).2 rfl rfl
  obtain ⟨occopied, odcopied, kVcopied, dccopied, pmcopied, ancopied, cdcopied, ctcopied, slcopied, lcopied, ccopied, kcopied⟩ : ∃ oc od kV doc pm an cdv ct osl, K.lookup fcopied = some ⟨oc, od, .func (PySem.W.fnOf "_law_copied" "_law_copied" (defArgs scopied) (defBody scopied) (defScope scopied) .none kV doc pm an cdv ct), osl⟩ ∧ PySem.W.codeIn K cdv "_law_copied" = true ∧ PySem.W.keepIn K (.ref fcopied) = true := by
    rw [hfcopied]; exact LH.FnA.bare (d := hd_copied) (c.f 14).1 (c.f 14).2 rfl rfl
  obtain ⟨ocmade, odmade, kVmade, dcmade, pmmade, anmade, cdmade, ctmade, slmade, lmade, cmade, kmade⟩ : ∃ oc od kV doc pm an cdv ct osl, K.lookup fmade = some ⟨oc, od, .func (PySem.W.fnOf "_law_made" "_law_made" (defArgs smade) (defBody smade) (defScope smade) .none kV doc pm an cdv ct), osl⟩ ∧ PySem.W.codeIn K cdv "_law_made" = true ∧ PySem.W.keepIn K (.ref fmade) = true := by
    rw [hfmade]; exact LH.FnA.bare (d := hd_made) (c.f 15).1 (c.f 15).2 rfl rfl
  obtain ⟨ocso, odso, kVso, dcso, pmso, anso, cdso, ctso, slso, lso, cso, kso⟩ : ∃ oc od kV doc pm an cdv ct osl, K.lookup fso = some ⟨oc, od, .func (PySem.W.fnOf "_law_so" "_law_so" (defArgs sso) (defBody sso) (defScope sso) .none kV doc pm an cdv ct), osl⟩ ∧ PySem.W.codeIn K cdv "_law_so" = true ∧ PySem.W.keepIn K (.ref fso) = true := by
    rw [hfso]; exact LH.FnA.bare (d := hd_so) (c.f 16).1 (c.f 16).2 rfl rfl
  obtain ⟨oclaw, odlaw, kVlaw, dclaw, pmlaw, anlaw, cdlaw, ctlaw, sllaw, llaw, claw, klaw⟩ : ∃ oc od kV doc pm an cdv ct osl, K.lookup flaw = some ⟨oc, od, .func (PySem.W.fnOf "law" "law" (defArgs slaw) (defBody slaw) (defScope slaw) .none kV doc pm an cdv ct), osl⟩ ∧ PySem.W.codeIn K cdv "law" = true ∧ PySem.W.keepIn K (.ref flaw) = true := by
    rw [hflaw]; exact LH.FnA.bare (d := hd_law) (c.f 17).1 (c.f 17).2 rfl rfl
  obtain ⟨ocInvalidNumber_init, odInvalidNumber_init, kVInvalidNumber_init, dcInvalidNumber_init, pmInvalidNumber_init, anInvalidNumber_init, cdInvalidNumber_init, ctInvalidNumber_init, slInvalidNumber_init, lInvalidNumber_init, cInvalidNumber_init, kInvalidNumber_init⟩ : ∃ oc od kV doc pm an cdv ct osl, K.lookup fInvalidNumber_init = some ⟨oc, od, .func (PySem.W.fnOf "__init__" "InvalidNumber.__init__" (defArgs sInvalidNumber_init) (defBody sInvalidNumber_init) (defScope sInvalidNumber_init) .none kV doc pm an cdv ct), osl⟩ ∧ PySem.W.codeIn K cdv "InvalidNumber.__init__" = true ∧ PySem.W.keepIn K (.ref fInvalidNumber_init) = true := by
    rw [hfInvalidNumber_init, haInvalidNumber]; exact LH.FnA.bare (d := hd_InvalidNumber_init) (c.f 18).1 (c.f 18).2 rfl rfl
  obtain ⟨ocInvalidName_init, odInvalidName_init, kVInvalidName_init, dcInvalidName_init, pmInvalidName_init, anInvalidName_init, cdInvalidName_init, ctInvalidName_init, slInvalidName_init, lInvalidName_init, cInvalidName_init, kInvalidName_init⟩ : ∃ oc od kV doc pm an cdv ct osl, K.lookup fInvalidName_init = some ⟨oc, od, .func (PySem.W.fnOf "__init__" "InvalidName.__init__" (defArgs sInvalidName_init) (defBody sInvalidName_init) (defScope sInvalidName_init) .none kV doc pm an cdv ct), osl⟩ ∧ PySem.W.codeIn K cdv "InvalidName.__init__" = true ∧ PySem.W.keepIn K (.ref fInvalidName_init) = true := by
    rw [hfInvalidName_init, haInvalidName]; exact LH.FnA.bare (d := hd_InvalidName_init) (c.f 19).1 (c.f 19).2 rfl rfl
  obtain ⟨ocInvalidText_init, odInvalidText_init, kVInvalidText_init, dcInvalidText_init, pmInvalidText_init, anInvalidText_init, cdInvalidText_init, ctInvalidText_init, slInvalidText_init, lInvalidText_init, cInvalidText_init, kInvalidText_init⟩ : ∃ oc od kV doc pm an cdv ct osl, K.lookup fInvalidText_init = some ⟨oc, od, .func (PySem.W.fnOf "__init__" "InvalidText.__init__" (defArgs sInvalidText_init) (defBody sInvalidText_init) (defScope sInvalidText_init) .none kV doc pm an cdv ct), osl⟩ ∧ PySem.W.codeIn K cdv "InvalidText.__init__" = true ∧ PySem.W.keepIn K (.ref fInvalidText_init) = true := by
    rw [hfInvalidText_init, haInvalidText]; exact LH.FnA.bare (d := hd_InvalidText_init) (c.f 20).1 (c.f 20).2 rfl rfl
  obtain ⟨ocInvalidBorders_init, odInvalidBorders_init, kVInvalidBorders_init, dcInvalidBorders_init, pmInvalidBorders_init, anInvalidBorders_init, cdInvalidBorders_init, ctInvalidBorders_init, slInvalidBorders_init, lInvalidBorders_init, cInvalidBorders_init, kInvalidBorders_init⟩ : ∃ oc od kV doc pm an cdv ct osl, K.lookup fInvalidBorders_init = some ⟨oc, od, .func (PySem.W.fnOf "__init__" "InvalidBorders.__init__" (defArgs sInvalidBorders_init) (defBody sInvalidBorders_init) (defScope sInvalidBorders_init) .none kV doc pm an cdv ct), osl⟩ ∧ PySem.W.codeIn K cdv "InvalidBorders.__init__" = true ∧ PySem.W.keepIn K (.ref fInvalidBorders_init) = true := by
    rw [hfInvalidBorders_init, haInvalidBorders]; exact LH.FnA.bare (d := hd_InvalidBorders_init) (c.f 21).1 (c.f 21).2 rfl rfl
  obtain ⟨ocInvalidRest_init, odInvalidRest_init, kVInvalidRest_init, dcInvalidRest_init, pmInvalidRest_init, anInvalidRest_init, cdInvalidRest_init, ctInvalidRest_init, slInvalidRest_init, lInvalidRest_init, cInvalidRest_init, kInvalidRest_init⟩ : ∃ oc od kV doc pm an cdv ct osl, K.lookup fInvalidRest_init = some ⟨oc, od, .func (PySem.W.fnOf "__init__" "InvalidRest.__init__" (defArgs sInvalidRest_init) (defBody sInvalidRest_init) (defScope sInvalidRest_init) .none kV doc pm an cdv ct), osl⟩ ∧ PySem.W.codeIn K cdv "InvalidRest.__init__" = true ∧ PySem.W.keepIn K (.ref fInvalidRest_init) = true := by
    rw [hfInvalidRest_init, haInvalidRest]; exact LH.FnA.bare (d := hd_InvalidRest_init) (c.f 22).1 (c.f 22).2 rfl rfl
  obtain ⟨ocInvalidRule_init, odInvalidRule_init, kVInvalidRule_init, dcInvalidRule_init, pmInvalidRule_init, anInvalidRule_init, cdInvalidRule_init, ctInvalidRule_init, slInvalidRule_init, lInvalidRule_init, cInvalidRule_init, kInvalidRule_init⟩ : ∃ oc od kV doc pm an cdv ct osl, K.lookup fInvalidRule_init = some ⟨oc, od, .func (PySem.W.fnOf "__init__" "InvalidRule.__init__" (defArgs sInvalidRule_init) (defBody sInvalidRule_init) (defScope sInvalidRule_init) .none kV doc pm an cdv ct), osl⟩ ∧ PySem.W.codeIn K cdv "InvalidRule.__init__" = true ∧ PySem.W.keepIn K (.ref fInvalidRule_init) = true := by
    rw [hfInvalidRule_init, haInvalidRule]; exact LH.FnA.bare (d := hd_InvalidRule_init) (c.f 23).1 (c.f 23).2 rfl rfl
  obtain ⟨ocInvalidPlace_init, odInvalidPlace_init, kVInvalidPlace_init, dcInvalidPlace_init, pmInvalidPlace_init, anInvalidPlace_init, cdInvalidPlace_init, ctInvalidPlace_init, slInvalidPlace_init, lInvalidPlace_init, cInvalidPlace_init, kInvalidPlace_init⟩ : ∃ oc od kV doc pm an cdv ct osl, K.lookup fInvalidPlace_init = some ⟨oc, od, .func (PySem.W.fnOf "__init__" "InvalidPlace.__init__" (defArgs sInvalidPlace_init) (defBody sInvalidPlace_init) (defScope sInvalidPlace_init) .none kV doc pm an cdv ct), osl⟩ ∧ PySem.W.codeIn K cdv "InvalidPlace.__init__" = true ∧ PySem.W.keepIn K (.ref fInvalidPlace_init) = true := by
    rw [hfInvalidPlace_init, haInvalidPlace]; exact LH.FnA.bare (d := hd_InvalidPlace_init) (c.f 24).1 (c.f 24).2 rfl rfl
  obtain ⟨ocInvalidServer_init, odInvalidServer_init, kVInvalidServer_init, dcInvalidServer_init, pmInvalidServer_init, anInvalidServer_init, cdInvalidServer_init, ctInvalidServer_init, slInvalidServer_init, lInvalidServer_init, cInvalidServer_init, kInvalidServer_init⟩ : ∃ oc od kV doc pm an cdv ct osl, K.lookup fInvalidServer_init = some ⟨oc, od, .func (PySem.W.fnOf "__init__" "InvalidServer.__init__" (defArgs sInvalidServer_init) (defBody sInvalidServer_init) (defScope sInvalidServer_init) .none kV doc pm an cdv ct), osl⟩ ∧ PySem.W.codeIn K cdv "InvalidServer.__init__" = true ∧ PySem.W.keepIn K (.ref fInvalidServer_init) = true := by
    rw [hfInvalidServer_init, haInvalidServer]; exact LH.FnA.bare (d := hd_InvalidServer_init) (c.f 25).1 (c.f 25).2 rfl rfl
  obtain ⟨ocInvalidTree_init, odInvalidTree_init, kVInvalidTree_init, dcInvalidTree_init, pmInvalidTree_init, anInvalidTree_init, cdInvalidTree_init, ctInvalidTree_init, slInvalidTree_init, lInvalidTree_init, cInvalidTree_init, kInvalidTree_init⟩ : ∃ oc od kV doc pm an cdv ct osl, K.lookup fInvalidTree_init = some ⟨oc, od, .func (PySem.W.fnOf "__init__" "InvalidTree.__init__" (defArgs sInvalidTree_init) (defBody sInvalidTree_init) (defScope sInvalidTree_init) .none kV doc pm an cdv ct), osl⟩ ∧ PySem.W.codeIn K cdv "InvalidTree.__init__" = true ∧ PySem.W.keepIn K (.ref fInvalidTree_init) = true := by
    rw [hfInvalidTree_init, haInvalidTree]; exact LH.FnA.bare (d := hd_InvalidTree_init) (c.f 26).1 (c.f 26).2 rfl rfl
  obtain ⟨ocInvalidCustomer_init, odInvalidCustomer_init, kVInvalidCustomer_init, dcInvalidCustomer_init, pmInvalidCustomer_init, anInvalidCustomer_init, cdInvalidCustomer_init, ctInvalidCustomer_init, slInvalidCustomer_init, lInvalidCustomer_init, cInvalidCustomer_init, kInvalidCustomer_init⟩ : ∃ oc od kV doc pm an cdv ct osl, K.lookup fInvalidCustomer_init = some ⟨oc, od, .func (PySem.W.fnOf "__init__" "InvalidCustomer.__init__" (defArgs sInvalidCustomer_init) (defBody sInvalidCustomer_init) (defScope sInvalidCustomer_init) .none kV doc pm an cdv ct), osl⟩ ∧ PySem.W.codeIn K cdv "InvalidCustomer.__init__" = true ∧ PySem.W.keepIn K (.ref fInvalidCustomer_init) = true := by
    rw [hfInvalidCustomer_init, haInvalidCustomer]; exact LH.FnA.bare (d := hd_InvalidCustomer_init) (c.f 27).1 (c.f 27).2 rfl rfl
  obtain ⟨ocInvalidRoom_init, odInvalidRoom_init, kVInvalidRoom_init, dcInvalidRoom_init, pmInvalidRoom_init, anInvalidRoom_init, cdInvalidRoom_init, ctInvalidRoom_init, slInvalidRoom_init, lInvalidRoom_init, cInvalidRoom_init, kInvalidRoom_init⟩ : ∃ oc od kV doc pm an cdv ct osl, K.lookup fInvalidRoom_init = some ⟨oc, od, .func (PySem.W.fnOf "__init__" "InvalidRoom.__init__" (defArgs sInvalidRoom_init) (defBody sInvalidRoom_init) (defScope sInvalidRoom_init) .none kV doc pm an cdv ct), osl⟩ ∧ PySem.W.codeIn K cdv "InvalidRoom.__init__" = true ∧ PySem.W.keepIn K (.ref fInvalidRoom_init) = true := by
    rw [hfInvalidRoom_init, haInvalidRoom]; exact LH.FnA.bare (d := hd_InvalidRoom_init) (c.f 28).1 (c.f 28).2 rfl rfl
  obtain ⟨ocInvalidRow_init, odInvalidRow_init, kVInvalidRow_init, dcInvalidRow_init, pmInvalidRow_init, anInvalidRow_init, cdInvalidRow_init, ctInvalidRow_init, slInvalidRow_init, lInvalidRow_init, cInvalidRow_init, kInvalidRow_init⟩ : ∃ oc od kV doc pm an cdv ct osl, K.lookup fInvalidRow_init = some ⟨oc, od, .func (PySem.W.fnOf "__init__" "InvalidRow.__init__" (defArgs sInvalidRow_init) (defBody sInvalidRow_init) (defScope sInvalidRow_init) .none kV doc pm an cdv ct), osl⟩ ∧ PySem.W.codeIn K cdv "InvalidRow.__init__" = true ∧ PySem.W.keepIn K (.ref fInvalidRow_init) = true := by
    rw [hfInvalidRow_init, haInvalidRow]; exact LH.FnA.bare (d := hd_InvalidRow_init) (c.f 29).1 (c.f 29).2 rfl rfl
  obtain ⟨ocInvalidParts_init, odInvalidParts_init, kVInvalidParts_init, dcInvalidParts_init, pmInvalidParts_init, anInvalidParts_init, cdInvalidParts_init, ctInvalidParts_init, slInvalidParts_init, lInvalidParts_init, cInvalidParts_init, kInvalidParts_init⟩ : ∃ oc od kV doc pm an cdv ct osl, K.lookup fInvalidParts_init = some ⟨oc, od, .func (PySem.W.fnOf "__init__" "InvalidParts.__init__" (defArgs sInvalidParts_init) (defBody sInvalidParts_init) (defScope sInvalidParts_init) .none kV doc pm an cdv ct), osl⟩ ∧ PySem.W.codeIn K cdv "InvalidParts.__init__" = true ∧ PySem.W.keepIn K (.ref fInvalidParts_init) = true := by
    rw [hfInvalidParts_init, haInvalidParts]; exact LH.FnA.bare (d := hd_InvalidParts_init) (c.f 30).1 (c.f 30).2 rfl rfl
  obtain ⟨ocInvalidCut_init, odInvalidCut_init, kVInvalidCut_init, dcInvalidCut_init, pmInvalidCut_init, anInvalidCut_init, cdInvalidCut_init, ctInvalidCut_init, slInvalidCut_init, lInvalidCut_init, cInvalidCut_init, kInvalidCut_init⟩ : ∃ oc od kV doc pm an cdv ct osl, K.lookup fInvalidCut_init = some ⟨oc, od, .func (PySem.W.fnOf "__init__" "InvalidCut.__init__" (defArgs sInvalidCut_init) (defBody sInvalidCut_init) (defScope sInvalidCut_init) .none kV doc pm an cdv ct), osl⟩ ∧ PySem.W.codeIn K cdv "InvalidCut.__init__" = true ∧ PySem.W.keepIn K (.ref fInvalidCut_init) = true := by
    rw [hfInvalidCut_init, haInvalidCut]; exact LH.FnA.bare (d := hd_InvalidCut_init) (c.f 31).1 (c.f 31).2 rfl rfl
  obtain ⟨ocInvalidDeed_init, odInvalidDeed_init, kVInvalidDeed_init, dcInvalidDeed_init, pmInvalidDeed_init, anInvalidDeed_init, cdInvalidDeed_init, ctInvalidDeed_init, slInvalidDeed_init, lInvalidDeed_init, cInvalidDeed_init, kInvalidDeed_init⟩ : ∃ oc od kV doc pm an cdv ct osl, K.lookup fInvalidDeed_init = some ⟨oc, od, .func (PySem.W.fnOf "__init__" "InvalidDeed.__init__" (defArgs sInvalidDeed_init) (defBody sInvalidDeed_init) (defScope sInvalidDeed_init) .none kV doc pm an cdv ct), osl⟩ ∧ PySem.W.codeIn K cdv "InvalidDeed.__init__" = true ∧ PySem.W.keepIn K (.ref fInvalidDeed_init) = true := by
    rw [hfInvalidDeed_init, haInvalidDeed]; exact LH.FnA.bare (d := hd_InvalidDeed_init) (c.f 32).1 (c.f 32).2 rfl rfl
  obtain ⟨ocInvalidEvent_init, odInvalidEvent_init, kVInvalidEvent_init, dcInvalidEvent_init, pmInvalidEvent_init, anInvalidEvent_init, cdInvalidEvent_init, ctInvalidEvent_init, slInvalidEvent_init, lInvalidEvent_init, cInvalidEvent_init, kInvalidEvent_init⟩ : ∃ oc od kV doc pm an cdv ct osl, K.lookup fInvalidEvent_init = some ⟨oc, od, .func (PySem.W.fnOf "__init__" "InvalidEvent.__init__" (defArgs sInvalidEvent_init) (defBody sInvalidEvent_init) (defScope sInvalidEvent_init) .none kV doc pm an cdv ct), osl⟩ ∧ PySem.W.codeIn K cdv "InvalidEvent.__init__" = true ∧ PySem.W.keepIn K (.ref fInvalidEvent_init) = true := by
    rw [hfInvalidEvent_init, haInvalidEvent]; exact LH.FnA.bare (d := hd_InvalidEvent_init) (c.f 33).1 (c.f 33).2 rfl rfl
  obtain ⟨ocBadTree_init, odBadTree_init, kVBadTree_init, dcBadTree_init, pmBadTree_init, anBadTree_init, cdBadTree_init, ctBadTree_init, slBadTree_init, lBadTree_init, cBadTree_init, kBadTree_init⟩ : ∃ oc od kV doc pm an cdv ct osl, K.lookup fBadTree_init = some ⟨oc, od, .func (PySem.W.fnOf "__init__" "BadTree.__init__" (defArgs sBadTree_init) (defBody sBadTree_init) (defScope sBadTree_init) .none kV doc pm an cdv ct), osl⟩ ∧ PySem.W.codeIn K cdv "BadTree.__init__" = true ∧ PySem.W.keepIn K (.ref fBadTree_init) = true := by
    rw [hfBadTree_init, haBadTree]; exact LH.FnA.bare (d := hd_BadTree_init) (c.f 34).1 (c.f 34).2 rfl rfl
  obtain ⟨ocBadReading_init, odBadReading_init, kVBadReading_init, dcBadReading_init, pmBadReading_init, anBadReading_init, cdBadReading_init, ctBadReading_init, slBadReading_init, lBadReading_init, cBadReading_init, kBadReading_init⟩ : ∃ oc od kV doc pm an cdv ct osl, K.lookup fBadReading_init = some ⟨oc, od, .func (PySem.W.fnOf "__init__" "BadReading.__init__" (defArgs sBadReading_init) (defBody sBadReading_init) (defScope sBadReading_init) .none kV doc pm an cdv ct), osl⟩ ∧ PySem.W.codeIn K cdv "BadReading.__init__" = true ∧ PySem.W.keepIn K (.ref fBadReading_init) = true := by
    rw [hfBadReading_init, haBadReading]; exact LH.FnA.bare (d := hd_BadReading_init) (c.f 35).1 (c.f 35).2 rfl rfl
  obtain ⟨ocBadMoment_init, odBadMoment_init, kVBadMoment_init, dcBadMoment_init, pmBadMoment_init, anBadMoment_init, cdBadMoment_init, ctBadMoment_init, slBadMoment_init, lBadMoment_init, cBadMoment_init, kBadMoment_init⟩ : ∃ oc od kV doc pm an cdv ct osl, K.lookup fBadMoment_init = some ⟨oc, od, .func (PySem.W.fnOf "__init__" "BadMoment.__init__" (defArgs sBadMoment_init) (defBody sBadMoment_init) (defScope sBadMoment_init) .none kV doc pm an cdv ct), osl⟩ ∧ PySem.W.codeIn K cdv "BadMoment.__init__" = true ∧ PySem.W.keepIn K (.ref fBadMoment_init) = true := by
    rw [hfBadMoment_init, haBadMoment]; exact LH.FnA.bare (d := hd_BadMoment_init) (c.f 36).1 (c.f 36).2 rfl rfl
  obtain ⟨ocTooMany_init, odTooMany_init, kVTooMany_init, dcTooMany_init, pmTooMany_init, anTooMany_init, cdTooMany_init, ctTooMany_init, slTooMany_init, lTooMany_init, cTooMany_init, kTooMany_init⟩ : ∃ oc od kV doc pm an cdv ct osl, K.lookup fTooMany_init = some ⟨oc, od, .func (PySem.W.fnOf "__init__" "TooMany.__init__" (defArgs sTooMany_init) (defBody sTooMany_init) (defScope sTooMany_init) .none kV doc pm an cdv ct), osl⟩ ∧ PySem.W.codeIn K cdv "TooMany.__init__" = true ∧ PySem.W.keepIn K (.ref fTooMany_init) = true := by
    rw [hfTooMany_init, haTooMany]; exact LH.FnA.bare (d := hd_TooMany_init) (c.f 37).1 (c.f 37).2 rfl rfl
  obtain ⟨ocOver_init, odOver_init, kVOver_init, dcOver_init, pmOver_init, anOver_init, cdOver_init, ctOver_init, slOver_init, lOver_init, cOver_init, kOver_init⟩ : ∃ oc od kV doc pm an cdv ct osl, K.lookup fOver_init = some ⟨oc, od, .func (PySem.W.fnOf "__init__" "Over.__init__" (defArgs sOver_init) (defBody sOver_init) (defScope sOver_init) .none kV doc pm an cdv ct), osl⟩ ∧ PySem.W.codeIn K cdv "Over.__init__" = true ∧ PySem.W.keepIn K (.ref fOver_init) = true := by
    rw [hfOver_init, haOver]; exact LH.FnA.bare (d := hd_Over_init) (c.f 38).1 (c.f 38).2 rfl rfl
  obtain ⟨ocNotHeld_init, odNotHeld_init, kVNotHeld_init, dcNotHeld_init, pmNotHeld_init, anNotHeld_init, cdNotHeld_init, ctNotHeld_init, slNotHeld_init, lNotHeld_init, cNotHeld_init, kNotHeld_init⟩ : ∃ oc od kV doc pm an cdv ct osl, K.lookup fNotHeld_init = some ⟨oc, od, .func (PySem.W.fnOf "__init__" "NotHeld.__init__" (defArgs sNotHeld_init) (defBody sNotHeld_init) (defScope sNotHeld_init) .none kV doc pm an cdv ct), osl⟩ ∧ PySem.W.codeIn K cdv "NotHeld.__init__" = true ∧ PySem.W.keepIn K (.ref fNotHeld_init) = true := by
    rw [hfNotHeld_init, haNotHeld]; exact LH.FnA.bare (d := hd_NotHeld_init) (c.f 39).1 (c.f 39).2 rfl rfl
  obtain ⟨ocNoElder_init, odNoElder_init, kVNoElder_init, dcNoElder_init, pmNoElder_init, anNoElder_init, cdNoElder_init, ctNoElder_init, slNoElder_init, lNoElder_init, cNoElder_init, kNoElder_init⟩ : ∃ oc od kV doc pm an cdv ct osl, K.lookup fNoElder_init = some ⟨oc, od, .func (PySem.W.fnOf "__init__" "NoElder.__init__" (defArgs sNoElder_init) (defBody sNoElder_init) (defScope sNoElder_init) .none kV doc pm an cdv ct), osl⟩ ∧ PySem.W.codeIn K cdv "NoElder.__init__" = true ∧ PySem.W.keepIn K (.ref fNoElder_init) = true := by
    rw [hfNoElder_init, haNoElder]; exact LH.FnA.bare (d := hd_NoElder_init) (c.f 40).1 (c.f 40).2 rfl rfl
  obtain ⟨ocWrongLetter_init, odWrongLetter_init, kVWrongLetter_init, dcWrongLetter_init, pmWrongLetter_init, anWrongLetter_init, cdWrongLetter_init, ctWrongLetter_init, slWrongLetter_init, lWrongLetter_init, cWrongLetter_init, kWrongLetter_init⟩ : ∃ oc od kV doc pm an cdv ct osl, K.lookup fWrongLetter_init = some ⟨oc, od, .func (PySem.W.fnOf "__init__" "WrongLetter.__init__" (defArgs sWrongLetter_init) (defBody sWrongLetter_init) (defScope sWrongLetter_init) .none kV doc pm an cdv ct), osl⟩ ∧ PySem.W.codeIn K cdv "WrongLetter.__init__" = true ∧ PySem.W.keepIn K (.ref fWrongLetter_init) = true := by
    rw [hfWrongLetter_init, haWrongLetter]; exact LH.FnA.bare (d := hd_WrongLetter_init) (c.f 41).1 (c.f 41).2 rfl rfl
  obtain ⟨ocElsewhere_init, odElsewhere_init, kVElsewhere_init, dcElsewhere_init, pmElsewhere_init, anElsewhere_init, cdElsewhere_init, ctElsewhere_init, slElsewhere_init, lElsewhere_init, cElsewhere_init, kElsewhere_init⟩ : ∃ oc od kV doc pm an cdv ct osl, K.lookup fElsewhere_init = some ⟨oc, od, .func (PySem.W.fnOf "__init__" "Elsewhere.__init__" (defArgs sElsewhere_init) (defBody sElsewhere_init) (defScope sElsewhere_init) .none kV doc pm an cdv ct), osl⟩ ∧ PySem.W.codeIn K cdv "Elsewhere.__init__" = true ∧ PySem.W.keepIn K (.ref fElsewhere_init) = true := by
    rw [hfElsewhere_init, haElsewhere]; exact LH.FnA.bare (d := hd_Elsewhere_init) (c.f 42).1 (c.f 42).2 rfl rfl
  obtain ⟨ocNotLacking_init, odNotLacking_init, kVNotLacking_init, dcNotLacking_init, pmNotLacking_init, anNotLacking_init, cdNotLacking_init, ctNotLacking_init, slNotLacking_init, lNotLacking_init, cNotLacking_init, kNotLacking_init⟩ : ∃ oc od kV doc pm an cdv ct osl, K.lookup fNotLacking_init = some ⟨oc, od, .func (PySem.W.fnOf "__init__" "NotLacking.__init__" (defArgs sNotLacking_init) (defBody sNotLacking_init) (defScope sNotLacking_init) .none kV doc pm an cdv ct), osl⟩ ∧ PySem.W.codeIn K cdv "NotLacking.__init__" = true ∧ PySem.W.keepIn K (.ref fNotLacking_init) = true := by
    rw [hfNotLacking_init, haNotLacking]; exact LH.FnA.bare (d := hd_NotLacking_init) (c.f 43).1 (c.f 43).2 rfl rfl
  obtain ⟨ocNotSettled_init, odNotSettled_init, kVNotSettled_init, dcNotSettled_init, pmNotSettled_init, anNotSettled_init, cdNotSettled_init, ctNotSettled_init, slNotSettled_init, lNotSettled_init, cNotSettled_init, kNotSettled_init⟩ : ∃ oc od kV doc pm an cdv ct osl, K.lookup fNotSettled_init = some ⟨oc, od, .func (PySem.W.fnOf "__init__" "NotSettled.__init__" (defArgs sNotSettled_init) (defBody sNotSettled_init) (defScope sNotSettled_init) .none kV doc pm an cdv ct), osl⟩ ∧ PySem.W.codeIn K cdv "NotSettled.__init__" = true ∧ PySem.W.keepIn K (.ref fNotSettled_init) = true := by
    rw [hfNotSettled_init, haNotSettled]; exact LH.FnA.bare (d := hd_NotSettled_init) (c.f 44).1 (c.f 44).2 rfl rfl
  obtain ⟨ocEarly_init, odEarly_init, kVEarly_init, dcEarly_init, pmEarly_init, anEarly_init, cdEarly_init, ctEarly_init, slEarly_init, lEarly_init, cEarly_init, kEarly_init⟩ : ∃ oc od kV doc pm an cdv ct osl, K.lookup fEarly_init = some ⟨oc, od, .func (PySem.W.fnOf "__init__" "Early.__init__" (defArgs sEarly_init) (defBody sEarly_init) (defScope sEarly_init) .none kV doc pm an cdv ct), osl⟩ ∧ PySem.W.codeIn K cdv "Early.__init__" = true ∧ PySem.W.keepIn K (.ref fEarly_init) = true := by
    rw [hfEarly_init, haEarly]; exact LH.FnA.bare (d := hd_Early_init) (c.f 45).1 (c.f 45).2 rfl rfl
  obtain ⟨ocNotPrompt_init, odNotPrompt_init, kVNotPrompt_init, dcNotPrompt_init, pmNotPrompt_init, anNotPrompt_init, cdNotPrompt_init, ctNotPrompt_init, slNotPrompt_init, lNotPrompt_init, cNotPrompt_init, kNotPrompt_init⟩ : ∃ oc od kV doc pm an cdv ct osl, K.lookup fNotPrompt_init = some ⟨oc, od, .func (PySem.W.fnOf "__init__" "NotPrompt.__init__" (defArgs sNotPrompt_init) (defBody sNotPrompt_init) (defScope sNotPrompt_init) .none kV doc pm an cdv ct), osl⟩ ∧ PySem.W.codeIn K cdv "NotPrompt.__init__" = true ∧ PySem.W.keepIn K (.ref fNotPrompt_init) = true := by
    rw [hfNotPrompt_init, haNotPrompt]; exact LH.FnA.bare (d := hd_NotPrompt_init) (c.f 46).1 (c.f 46).2 rfl rfl
  obtain ⟨ocRefused_init, odRefused_init, kVRefused_init, dcRefused_init, pmRefused_init, anRefused_init, cdRefused_init, ctRefused_init, slRefused_init, lRefused_init, cRefused_init, kRefused_init⟩ : ∃ oc od kV doc pm an cdv ct osl, K.lookup fRefused_init = some ⟨oc, od, .func (PySem.W.fnOf "__init__" "Refused.__init__" (defArgs sRefused_init) (defBody sRefused_init) (defScope sRefused_init) .none kV doc pm an cdv ct), osl⟩ ∧ PySem.W.codeIn K cdv "Refused.__init__" = true ∧ PySem.W.keepIn K (.ref fRefused_init) = true := by
    rw [hfRefused_init, haRefused]; exact LH.FnA.bare (d := hd_Refused_init) (c.f 47).1 (c.f 47).2 rfl rfl
  obtain ⟨ocUnknownName_init, odUnknownName_init, kVUnknownName_init, dcUnknownName_init, pmUnknownName_init, anUnknownName_init, cdUnknownName_init, ctUnknownName_init, slUnknownName_init, lUnknownName_init, cUnknownName_init, kUnknownName_init⟩ : ∃ oc od kV doc pm an cdv ct osl, K.lookup fUnknownName_init = some ⟨oc, od, .func (PySem.W.fnOf "__init__" "UnknownName.__init__" (defArgs sUnknownName_init) (defBody sUnknownName_init) (defScope sUnknownName_init) .none kV doc pm an cdv ct), osl⟩ ∧ PySem.W.codeIn K cdv "UnknownName.__init__" = true ∧ PySem.W.keepIn K (.ref fUnknownName_init) = true := by
    rw [hfUnknownName_init, haUnknownName]; exact LH.FnA.bare (d := hd_UnknownName_init) (c.f 48).1 (c.f 48).2 rfl rfl
  obtain ⟨ocUnknownLot_init, odUnknownLot_init, kVUnknownLot_init, dcUnknownLot_init, pmUnknownLot_init, anUnknownLot_init, cdUnknownLot_init, ctUnknownLot_init, slUnknownLot_init, lUnknownLot_init, cUnknownLot_init, kUnknownLot_init⟩ : ∃ oc od kV doc pm an cdv ct osl, K.lookup fUnknownLot_init = some ⟨oc, od, .func (PySem.W.fnOf "__init__" "UnknownLot.__init__" (defArgs sUnknownLot_init) (defBody sUnknownLot_init) (defScope sUnknownLot_init) .none kV doc pm an cdv ct), osl⟩ ∧ PySem.W.codeIn K cdv "UnknownLot.__init__" = true ∧ PySem.W.keepIn K (.ref fUnknownLot_init) = true := by
    rw [hfUnknownLot_init, haUnknownLot]; exact LH.FnA.bare (d := hd_UnknownLot_init) (c.f 49).1 (c.f 49).2 rfl rfl
  obtain ⟨ocUnknownLoan_init, odUnknownLoan_init, kVUnknownLoan_init, dcUnknownLoan_init, pmUnknownLoan_init, anUnknownLoan_init, cdUnknownLoan_init, ctUnknownLoan_init, slUnknownLoan_init, lUnknownLoan_init, cUnknownLoan_init, kUnknownLoan_init⟩ : ∃ oc od kV doc pm an cdv ct osl, K.lookup fUnknownLoan_init = some ⟨oc, od, .func (PySem.W.fnOf "__init__" "UnknownLoan.__init__" (defArgs sUnknownLoan_init) (defBody sUnknownLoan_init) (defScope sUnknownLoan_init) .none kV doc pm an cdv ct), osl⟩ ∧ PySem.W.codeIn K cdv "UnknownLoan.__init__" = true ∧ PySem.W.keepIn K (.ref fUnknownLoan_init) = true := by
    rw [hfUnknownLoan_init, haUnknownLoan]; exact LH.FnA.bare (d := hd_UnknownLoan_init) (c.f 50).1 (c.f 50).2 rfl rfl
  obtain ⟨ocNoSuchLetter_init, odNoSuchLetter_init, kVNoSuchLetter_init, dcNoSuchLetter_init, pmNoSuchLetter_init, anNoSuchLetter_init, cdNoSuchLetter_init, ctNoSuchLetter_init, slNoSuchLetter_init, lNoSuchLetter_init, cNoSuchLetter_init, kNoSuchLetter_init⟩ : ∃ oc od kV doc pm an cdv ct osl, K.lookup fNoSuchLetter_init = some ⟨oc, od, .func (PySem.W.fnOf "__init__" "NoSuchLetter.__init__" (defArgs sNoSuchLetter_init) (defBody sNoSuchLetter_init) (defScope sNoSuchLetter_init) .none kV doc pm an cdv ct), osl⟩ ∧ PySem.W.codeIn K cdv "NoSuchLetter.__init__" = true ∧ PySem.W.keepIn K (.ref fNoSuchLetter_init) = true := by
    rw [hfNoSuchLetter_init, haNoSuchLetter]; exact LH.FnA.bare (d := hd_NoSuchLetter_init) (c.f 51).1 (c.f 51).2 rfl rfl
  obtain ⟨ocFallen_init, odFallen_init, kVFallen_init, dcFallen_init, pmFallen_init, anFallen_init, cdFallen_init, ctFallen_init, slFallen_init, lFallen_init, cFallen_init, kFallen_init⟩ : ∃ oc od kV doc pm an cdv ct osl, K.lookup fFallen_init = some ⟨oc, od, .func (PySem.W.fnOf "__init__" "Fallen.__init__" (defArgs sFallen_init) (defBody sFallen_init) (defScope sFallen_init) .none kV doc pm an cdv ct), osl⟩ ∧ PySem.W.codeIn K cdv "Fallen.__init__" = true ∧ PySem.W.keepIn K (.ref fFallen_init) = true := by
    rw [hfFallen_init, haFallen]; exact LH.FnA.bare (d := hd_Fallen_init) (c.f 52).1 (c.f 52).2 rfl rfl
  obtain ⟨ocNotFallen_init, odNotFallen_init, kVNotFallen_init, dcNotFallen_init, pmNotFallen_init, anNotFallen_init, cdNotFallen_init, ctNotFallen_init, slNotFallen_init, lNotFallen_init, cNotFallen_init, kNotFallen_init⟩ : ∃ oc od kV doc pm an cdv ct osl, K.lookup fNotFallen_init = some ⟨oc, od, .func (PySem.W.fnOf "__init__" "NotFallen.__init__" (defArgs sNotFallen_init) (defBody sNotFallen_init) (defScope sNotFallen_init) .none kV doc pm an cdv ct), osl⟩ ∧ PySem.W.codeIn K cdv "NotFallen.__init__" = true ∧ PySem.W.keepIn K (.ref fNotFallen_init) = true := by
    rw [hfNotFallen_init, haNotFallen]; exact LH.FnA.bare (d := hd_NotFallen_init) (c.f 53).1 (c.f 53).2 rfl rfl
  have e := hfa.symm.trans (PySem.W.mg_of X G alaw)
  obtain rfl : fa = flaw := Value.ref.inj (Option.some.inj e)
  have T : Txt K mg := ⟨PySem.W.mg_none_of X G zArithmeticError, PySem.W.mg_none_of X G zIndexError, PySem.W.mg_none_of X G zKeyError, PySem.W.mg_none_of X G zLookupError, PySem.W.mg_none_of X G zNotImplementedError, PySem.W.mg_none_of X G zRuntimeError, PySem.W.mg_none_of X G zTypeError, PySem.W.mg_none_of X G zValueError, PySem.W.mg_none_of X G zZeroDivisionError, PySem.W.mg_none_of X G zall, PySem.W.mg_none_of X G zbool, PySem.W.mg_none_of X G zdict, PySem.W.mg_none_of X G zint, PySem.W.mg_none_of X G zisinstance, PySem.W.mg_none_of X G zlen, PySem.W.mg_none_of X G zlist, PySem.W.mg_none_of X G zrange, PySem.W.mg_none_of X G zstr, PySem.W.mg_none_of X G ztuple, PySem.W.mg_none_of X G zzip⟩
  have Fbag := fun_mk (st := sbag) lbag cbag kbag
  have Dbag : Def K mg "_law_bag" sbag Pbag _ _ := ⟨Fbag, PySem.W.mg_of X G abag, Fbag.binds (ps := Pbag) fun _ _ _ _ _ _ us hl => match us, hl with | [_], _ => rfl⟩
  have Fdraw := fun_mk (st := sdraw) ldraw cdraw kdraw
  have Ddraw : Def K mg "_law_draw" sdraw Pdraw _ _ := ⟨Fdraw, PySem.W.mg_of X G adraw, Fdraw.binds (ps := Pdraw) fun _ _ _ _ _ _ us hl => match us, hl with | [_, _], _ => rfl⟩
  have Fof := fun_mk (st := sof) lof cof kof
  have Dof : Def K mg "_law_of" sof Pof _ _ := ⟨Fof, PySem.W.mg_of X G aof, Fof.binds (ps := Pof) fun _ _ _ _ _ _ us hl => match us, hl with | [_, _], _ => rfl⟩
  have Flike := fun_mk (st := slike) llike clike klike
  have Dlike : Def K mg "_law_like" slike Plike _ _ := ⟨Flike, PySem.W.mg_of X G alike, Flike.binds (ps := Plike) fun _ _ _ _ _ _ us hl => match us, hl with | [_, _], _ => rfl⟩
  have Fwords := fun_mk (st := swords) lwords cwords kwords
  have Dwords : Def K mg "_law_words" swords Pwords _ _ := ⟨Fwords, PySem.W.mg_of X G awords, Fwords.binds (ps := Pwords) fun _ _ _ _ _ _ us hl => match us, hl with | [_], _ => rfl⟩
  have Fdue := fun_mk (st := sdue) ldue cdue kdue
  have Ddue : Def K mg "_law_due" sdue Pdue _ _ := ⟨Fdue, PySem.W.mg_of X G adue, Fdue.binds (ps := Pdue) fun _ _ _ _ _ _ us hl => match us, hl with | [_], _ => rfl⟩
  have Ffirst := fun_mk (st := sfirst) lfirst cfirst kfirst
  have Dfirst : Def K mg "_law_first" sfirst Pfirst _ _ := ⟨Ffirst, PySem.W.mg_of X G afirst, Ffirst.binds (ps := Pfirst) fun _ _ _ _ _ _ us hl => match us, hl with | [_, _, _], _ => rfl⟩
  have Fsecond := fun_mk (st := ssecond) lsecond csecond ksecond
  have Dsecond : Def K mg "_law_second" ssecond Psecond _ _ := ⟨Fsecond, PySem.W.mg_of X G asecond, Fsecond.binds (ps := Psecond) fun _ _ _ _ _ _ us hl => match us, hl with | [_, _, _], _ => rfl⟩
  have Fboth := fun_mk (st := sboth) lboth cboth kboth
  have Dboth : Def K mg "_law_both" sboth Pboth _ _ := ⟨Fboth, PySem.W.mg_of X G aboth, Fboth.binds (ps := Pboth) fun _ _ _ _ _ _ us hl => match us, hl with | [_, _, _, _], _ => rfl⟩
  have Ftold := fun_mk (st := stold) ltold ctold ktold
  have Dtold : Def K mg "_law_told" stold Ptold _ _ := ⟨Ftold, PySem.W.mg_of X G atold, Ftold.binds (ps := Ptold) fun _ _ _ _ _ _ us hl => match us, hl with | [_, _], _ => rfl⟩
  have Fkinds := fun_mk (st := skinds) lkinds ckinds kkinds
  have Dkinds : Def K mg "_law_kinds" skinds Pkinds _ _ := ⟨Fkinds, PySem.W.mg_of X G akinds, Fkinds.binds (ps := Pkinds) fun _ _ _ _ _ _ us hl => match us, hl with | [_], _ => rfl⟩
  have Fkinds_too := fun_mk (st := skinds_too) lkinds_too ckinds_too kkinds_too
  have Dkinds_too : Def K mg "_law_kinds_too" skinds_too Pkinds_too _ _ := ⟨Fkinds_too, PySem.W.mg_of X G akinds_too, Fkinds_too.binds (ps := Pkinds_too) fun _ _ _ _ _ _ us hl => match us, hl with | [_], _ => rfl⟩
  have Fdict := fun_mk (st := sdict) ldict cdict kdict
  have Ddict : Def K mg "_law_dict" sdict Pdict _ _ := ⟨Fdict, PySem.W.mg_of X G adict, Fdict.binds (ps := Pdict) fun _ _ _ _ _ _ us hl => match us, hl with | [_], _ => rfl⟩
  have Fthing := fun_mk (st := sthing) lthing cthing kthing
  have Dthing : Def K mg "_law_thing" sthing Pthing _ _ := ⟨Fthing, PySem.W.mg_of X G athing, Fthing.binds (ps := Pthing) fun _ _ _ _ _ _ us hl => match us, hl with | [_, _], _ => rfl⟩
  have Fcopied := fun_mk (st := scopied) lcopied ccopied kcopied
  have Dcopied : Def K mg "_law_copied" scopied Pcopied _ _ := ⟨Fcopied, PySem.W.mg_of X G acopied, Fcopied.binds (ps := Pcopied) fun _ _ _ _ _ _ us hl => match us, hl with | [_], _ => rfl⟩
  have Fmade := fun_mk (st := smade) lmade cmade kmade
  have Dmade : Def K mg "_law_made" smade Pmade _ _ := ⟨Fmade, PySem.W.mg_of X G amade, Fmade.binds (ps := Pmade) fun _ _ _ _ _ _ us hl => match us, hl with | [_, _, _], _ => rfl⟩
  have Fso := fun_mk (st := sso) lso cso kso
  have Dso : Def K mg "_law_so" sso Pso _ _ := ⟨Fso, PySem.W.mg_of X G aso, Fso.binds (ps := Pso) fun _ _ _ _ _ _ us hl => match us, hl with | [_, _], _ => rfl⟩
  have Flaw := fun_mk (st := slaw) llaw claw klaw
  have Dlaw : Def K mg "law" slaw Plaw _ _ := ⟨Flaw, PySem.W.mg_of X G alaw, Flaw.binds (ps := Plaw) fun _ _ _ _ _ _ us hl => match us, hl with | [_], _ => rfl⟩

  let cs : List (Addr × Addr) := []
  let Tb : List (Addr × Str) := []
  refine ⟨PySem.W.fnOf "law" "law" (defArgs slaw) (defBody slaw) (defScope slaw) .none kVlaw dclaw pmlaw anlaw cdlaw ctlaw, cs, splaw K, fun p hp => ?_, fun p hp => ?_, fun p hp => ?_, fun s v => .of_eq rfl, fun H a ns hl _ hH hS => ⟨a, ns, rfl, hS, hl, fun _ => rfl⟩, fun base _ _ TBs => ?_⟩
  · exact nomatch (show p ∈ ([] : List (Addr × Addr)) from hp)
  · exact nomatch (show p ∈ ([] : List (Addr × Addr)) from hp)
  · exact nomatch (show p ∈ ([] : List (Addr × Addr)) from hp)
  obtain ⟨fdInvalidNumber_init, FInvalidNumber_init⟩ : ∃ fd, Fun K "__init__" "InvalidNumber.__init__" sInvalidNumber_init fInvalidNumber_init fd := ⟨_, fun_mk (st := sInvalidNumber_init) lInvalidNumber_init cInvalidNumber_init kInvalidNumber_init⟩
  have GInvalidNumber_init := ok_InvalidNumber_init (P := l.prog) (w := w) (base := base) FInvalidNumber_init T xInvalidNumber.1 xInvalidNumber.2.2.2.2.2
  have eInvalidNumber_init := em_InvalidNumber_init FInvalidNumber_init xInvalidNumber (PySem.W.mg_of X G a_InvalidNumber) GInvalidNumber_init
  rw [hfInvalidNumber_init, haInvalidNumber] at eInvalidNumber_init
  obtain ⟨fdInvalidName_init, FInvalidName_init⟩ : ∃ fd, Fun K "__init__" "InvalidName.__init__" sInvalidName_init fInvalidName_init fd := ⟨_, fun_mk (st := sInvalidName_init) lInvalidName_init cInvalidName_init kInvalidName_init⟩
  have GInvalidName_init := ok_InvalidName_init (P := l.prog) (w := w) (base := base) FInvalidName_init T xInvalidName.1 xInvalidName.2.2.2.2.2
  have eInvalidName_init := em_InvalidName_init FInvalidName_init xInvalidName (PySem.W.mg_of X G a_InvalidName) GInvalidName_init
  rw [hfInvalidName_init, haInvalidName] at eInvalidName_init
  obtain ⟨fdInvalidText_init, FInvalidText_init⟩ : ∃ fd, Fun K "__init__" "InvalidText.__init__" sInvalidText_init fInvalidText_init fd := ⟨_, fun_mk (st := sInvalidText_init) lInvalidText_init cInvalidText_init kInvalidText_init⟩
  have GInvalidText_init := ok_InvalidText_init (P := l.prog) (w := w) (base := base) FInvalidText_init T xInvalidText.1 xInvalidText.2.2.2.2.2
  have eInvalidText_init := em_InvalidText_init FInvalidText_init xInvalidText (PySem.W.mg_of X G a_InvalidText) GInvalidText_init
  rw [hfInvalidText_init, haInvalidText] at eInvalidText_init
  obtain ⟨fdInvalidBorders_init, FInvalidBorders_init⟩ : ∃ fd, Fun K "__init__" "InvalidBorders.__init__" sInvalidBorders_init fInvalidBorders_init fd := ⟨_, fun_mk (st := sInvalidBorders_init) lInvalidBorders_init cInvalidBorders_init kInvalidBorders_init⟩
  have GInvalidBorders_init := ok_InvalidBorders_init (P := l.prog) (w := w) (base := base) FInvalidBorders_init T xInvalidBorders.1 xInvalidBorders.2.2.2.2.2
  have eInvalidBorders_init := em_InvalidBorders_init FInvalidBorders_init xInvalidBorders (PySem.W.mg_of X G a_InvalidBorders) GInvalidBorders_init
  rw [hfInvalidBorders_init, haInvalidBorders] at eInvalidBorders_init
  obtain ⟨fdInvalidRest_init, FInvalidRest_init⟩ : ∃ fd, Fun K "__init__" "InvalidRest.__init__" sInvalidRest_init fInvalidRest_init fd := ⟨_, fun_mk (st := sInvalidRest_init) lInvalidRest_init cInvalidRest_init kInvalidRest_init⟩
  have GInvalidRest_init := ok_InvalidRest_init (P := l.prog) (w := w) (base := base) FInvalidRest_init T xInvalidRest.1 xInvalidRest.2.2.2.2.2
  have eInvalidRest_init := em_InvalidRest_init FInvalidRest_init xInvalidRest (PySem.W.mg_of X G a_InvalidRest) GInvalidRest_init
  rw [hfInvalidRest_init, haInvalidRest] at eInvalidRest_init
  obtain ⟨fdInvalidRule_init, FInvalidRule_init⟩ : ∃ fd, Fun K "__init__" "InvalidRule.__init__" sInvalidRule_init fInvalidRule_init fd := ⟨_, fun_mk (st := sInvalidRule_init) lInvalidRule_init cInvalidRule_init kInvalidRule_init⟩
  have GInvalidRule_init := ok_InvalidRule_init (P := l.prog) (w := w) (base := base) FInvalidRule_init T xInvalidRule.1 xInvalidRule.2.2.2.2.2
  have eInvalidRule_init := em_InvalidRule_init FInvalidRule_init xInvalidRule (PySem.W.mg_of X G a_InvalidRule) GInvalidRule_init
  rw [hfInvalidRule_init, haInvalidRule] at eInvalidRule_init
  obtain ⟨fdInvalidPlace_init, FInvalidPlace_init⟩ : ∃ fd, Fun K "__init__" "InvalidPlace.__init__" sInvalidPlace_init fInvalidPlace_init fd := ⟨_, fun_mk (st := sInvalidPlace_init) lInvalidPlace_init cInvalidPlace_init kInvalidPlace_init⟩
  have GInvalidPlace_init := ok_InvalidPlace_init (P := l.prog) (w := w) (base := base) FInvalidPlace_init T xInvalidPlace.1 xInvalidPlace.2.2.2.2.2
  have eInvalidPlace_init := em_InvalidPlace_init FInvalidPlace_init xInvalidPlace (PySem.W.mg_of X G a_InvalidPlace) GInvalidPlace_init
  rw [hfInvalidPlace_init, haInvalidPlace] at eInvalidPlace_init
  obtain ⟨fdInvalidServer_init, FInvalidServer_init⟩ : ∃ fd, Fun K "__init__" "InvalidServer.__init__" sInvalidServer_init fInvalidServer_init fd := ⟨_, fun_mk (st := sInvalidServer_init) lInvalidServer_init cInvalidServer_init kInvalidServer_init⟩
  have GInvalidServer_init := ok_InvalidServer_init (P := l.prog) (w := w) (base := base) FInvalidServer_init T xInvalidServer.1 xInvalidServer.2.2.2.2.2
  have eInvalidServer_init := em_InvalidServer_init FInvalidServer_init xInvalidServer (PySem.W.mg_of X G a_InvalidServer) GInvalidServer_init
  rw [hfInvalidServer_init, haInvalidServer] at eInvalidServer_init
  obtain ⟨fdInvalidTree_init, FInvalidTree_init⟩ : ∃ fd, Fun K "__init__" "InvalidTree.__init__" sInvalidTree_init fInvalidTree_init fd := ⟨_, fun_mk (st := sInvalidTree_init) lInvalidTree_init cInvalidTree_init kInvalidTree_init⟩
  have GInvalidTree_init := ok_InvalidTree_init (P := l.prog) (w := w) (base := base) FInvalidTree_init T xInvalidTree.1 xInvalidTree.2.2.2.2.2
  have eInvalidTree_init := em_InvalidTree_init FInvalidTree_init xInvalidTree (PySem.W.mg_of X G a_InvalidTree) GInvalidTree_init
  rw [hfInvalidTree_init, haInvalidTree] at eInvalidTree_init
  obtain ⟨fdInvalidCustomer_init, FInvalidCustomer_init⟩ : ∃ fd, Fun K "__init__" "InvalidCustomer.__init__" sInvalidCustomer_init fInvalidCustomer_init fd := ⟨_, fun_mk (st := sInvalidCustomer_init) lInvalidCustomer_init cInvalidCustomer_init kInvalidCustomer_init⟩
  have GInvalidCustomer_init := ok_InvalidCustomer_init (P := l.prog) (w := w) (base := base) FInvalidCustomer_init T xInvalidCustomer.1 xInvalidCustomer.2.2.2.2.2
  have eInvalidCustomer_init := em_InvalidCustomer_init FInvalidCustomer_init xInvalidCustomer (PySem.W.mg_of X G a_InvalidCustomer) GInvalidCustomer_init
  rw [hfInvalidCustomer_init, haInvalidCustomer] at eInvalidCustomer_init
  obtain ⟨fdInvalidRoom_init, FInvalidRoom_init⟩ : ∃ fd, Fun K "__init__" "InvalidRoom.__init__" sInvalidRoom_init fInvalidRoom_init fd := ⟨_, fun_mk (st := sInvalidRoom_init) lInvalidRoom_init cInvalidRoom_init kInvalidRoom_init⟩
  have GInvalidRoom_init := ok_InvalidRoom_init (P := l.prog) (w := w) (base := base) FInvalidRoom_init T xInvalidRoom.1 xInvalidRoom.2.2.2.2.2
  have eInvalidRoom_init := em_InvalidRoom_init FInvalidRoom_init xInvalidRoom (PySem.W.mg_of X G a_InvalidRoom) GInvalidRoom_init
  rw [hfInvalidRoom_init, haInvalidRoom] at eInvalidRoom_init
  obtain ⟨fdInvalidRow_init, FInvalidRow_init⟩ : ∃ fd, Fun K "__init__" "InvalidRow.__init__" sInvalidRow_init fInvalidRow_init fd := ⟨_, fun_mk (st := sInvalidRow_init) lInvalidRow_init cInvalidRow_init kInvalidRow_init⟩
  have GInvalidRow_init := ok_InvalidRow_init (P := l.prog) (w := w) (base := base) FInvalidRow_init T xInvalidRow.1 xInvalidRow.2.2.2.2.2
  have eInvalidRow_init := em_InvalidRow_init FInvalidRow_init xInvalidRow (PySem.W.mg_of X G a_InvalidRow) GInvalidRow_init
  rw [hfInvalidRow_init, haInvalidRow] at eInvalidRow_init
  obtain ⟨fdInvalidParts_init, FInvalidParts_init⟩ : ∃ fd, Fun K "__init__" "InvalidParts.__init__" sInvalidParts_init fInvalidParts_init fd := ⟨_, fun_mk (st := sInvalidParts_init) lInvalidParts_init cInvalidParts_init kInvalidParts_init⟩
  have GInvalidParts_init := ok_InvalidParts_init (P := l.prog) (w := w) (base := base) FInvalidParts_init T xInvalidParts.1 xInvalidParts.2.2.2.2.2
  have eInvalidParts_init := em_InvalidParts_init FInvalidParts_init xInvalidParts (PySem.W.mg_of X G a_InvalidParts) GInvalidParts_init
  rw [hfInvalidParts_init, haInvalidParts] at eInvalidParts_init
  obtain ⟨fdInvalidCut_init, FInvalidCut_init⟩ : ∃ fd, Fun K "__init__" "InvalidCut.__init__" sInvalidCut_init fInvalidCut_init fd := ⟨_, fun_mk (st := sInvalidCut_init) lInvalidCut_init cInvalidCut_init kInvalidCut_init⟩
  have GInvalidCut_init := ok_InvalidCut_init (P := l.prog) (w := w) (base := base) FInvalidCut_init T xInvalidCut.1 xInvalidCut.2.2.2.2.2
  have eInvalidCut_init := em_InvalidCut_init FInvalidCut_init xInvalidCut (PySem.W.mg_of X G a_InvalidCut) GInvalidCut_init
  rw [hfInvalidCut_init, haInvalidCut] at eInvalidCut_init
  obtain ⟨fdInvalidDeed_init, FInvalidDeed_init⟩ : ∃ fd, Fun K "__init__" "InvalidDeed.__init__" sInvalidDeed_init fInvalidDeed_init fd := ⟨_, fun_mk (st := sInvalidDeed_init) lInvalidDeed_init cInvalidDeed_init kInvalidDeed_init⟩
  have GInvalidDeed_init := ok_InvalidDeed_init (P := l.prog) (w := w) (base := base) FInvalidDeed_init T xInvalidDeed.1 xInvalidDeed.2.2.2.2.2
  have eInvalidDeed_init := em_InvalidDeed_init FInvalidDeed_init xInvalidDeed (PySem.W.mg_of X G a_InvalidDeed) GInvalidDeed_init
  rw [hfInvalidDeed_init, haInvalidDeed] at eInvalidDeed_init
  obtain ⟨fdInvalidEvent_init, FInvalidEvent_init⟩ : ∃ fd, Fun K "__init__" "InvalidEvent.__init__" sInvalidEvent_init fInvalidEvent_init fd := ⟨_, fun_mk (st := sInvalidEvent_init) lInvalidEvent_init cInvalidEvent_init kInvalidEvent_init⟩
  have GInvalidEvent_init := ok_InvalidEvent_init (P := l.prog) (w := w) (base := base) FInvalidEvent_init T xInvalidEvent.1 xInvalidEvent.2.2.2.2.2
  have eInvalidEvent_init := em_InvalidEvent_init FInvalidEvent_init xInvalidEvent (PySem.W.mg_of X G a_InvalidEvent) GInvalidEvent_init
  rw [hfInvalidEvent_init, haInvalidEvent] at eInvalidEvent_init
  obtain ⟨fdBadTree_init, FBadTree_init⟩ : ∃ fd, Fun K "__init__" "BadTree.__init__" sBadTree_init fBadTree_init fd := ⟨_, fun_mk (st := sBadTree_init) lBadTree_init cBadTree_init kBadTree_init⟩
  have GBadTree_init := ok_BadTree_init (P := l.prog) (w := w) (base := base) FBadTree_init T xBadTree.1 xBadTree.2.2.2.2.2
  have eBadTree_init := em_BadTree_init FBadTree_init xBadTree (PySem.W.mg_of X G a_BadTree) GBadTree_init
  rw [hfBadTree_init, haBadTree] at eBadTree_init
  obtain ⟨fdBadReading_init, FBadReading_init⟩ : ∃ fd, Fun K "__init__" "BadReading.__init__" sBadReading_init fBadReading_init fd := ⟨_, fun_mk (st := sBadReading_init) lBadReading_init cBadReading_init kBadReading_init⟩
  have GBadReading_init := ok_BadReading_init (P := l.prog) (w := w) (base := base) FBadReading_init T xBadReading.1 xBadReading.2.2.2.2.2
  have eBadReading_init := em_BadReading_init FBadReading_init xBadReading (PySem.W.mg_of X G a_BadReading) GBadReading_init
  rw [hfBadReading_init, haBadReading] at eBadReading_init
  obtain ⟨fdBadMoment_init, FBadMoment_init⟩ : ∃ fd, Fun K "__init__" "BadMoment.__init__" sBadMoment_init fBadMoment_init fd := ⟨_, fun_mk (st := sBadMoment_init) lBadMoment_init cBadMoment_init kBadMoment_init⟩
  have GBadMoment_init := ok_BadMoment_init (P := l.prog) (w := w) (base := base) FBadMoment_init T xBadMoment.1 xBadMoment.2.2.2.2.2
  have eBadMoment_init := em_BadMoment_init FBadMoment_init xBadMoment (PySem.W.mg_of X G a_BadMoment) GBadMoment_init
  rw [hfBadMoment_init, haBadMoment] at eBadMoment_init
  obtain ⟨fdTooMany_init, FTooMany_init⟩ : ∃ fd, Fun K "__init__" "TooMany.__init__" sTooMany_init fTooMany_init fd := ⟨_, fun_mk (st := sTooMany_init) lTooMany_init cTooMany_init kTooMany_init⟩
  have GTooMany_init := ok_TooMany_init (P := l.prog) (w := w) (base := base) FTooMany_init T xTooMany.1 xTooMany.2.2.2.2.2
  have eTooMany_init := em_TooMany_init FTooMany_init xTooMany (PySem.W.mg_of X G a_TooMany) GTooMany_init
  rw [hfTooMany_init, haTooMany] at eTooMany_init
  obtain ⟨fdOver_init, FOver_init⟩ : ∃ fd, Fun K "__init__" "Over.__init__" sOver_init fOver_init fd := ⟨_, fun_mk (st := sOver_init) lOver_init cOver_init kOver_init⟩
  have GOver_init := ok_Over_init (P := l.prog) (w := w) (base := base) FOver_init T xOver.1 xOver.2.2.2.2.2
  have eOver_init := em_Over_init FOver_init xOver (PySem.W.mg_of X G a_Over) GOver_init
  rw [hfOver_init, haOver] at eOver_init
  obtain ⟨fdNotHeld_init, FNotHeld_init⟩ : ∃ fd, Fun K "__init__" "NotHeld.__init__" sNotHeld_init fNotHeld_init fd := ⟨_, fun_mk (st := sNotHeld_init) lNotHeld_init cNotHeld_init kNotHeld_init⟩
  have GNotHeld_init := ok_NotHeld_init (P := l.prog) (w := w) (base := base) FNotHeld_init T xNotHeld.1 xNotHeld.2.2.2.2.2
  have eNotHeld_init := em_NotHeld_init FNotHeld_init xNotHeld (PySem.W.mg_of X G a_NotHeld) GNotHeld_init
  rw [hfNotHeld_init, haNotHeld] at eNotHeld_init
  obtain ⟨fdNoElder_init, FNoElder_init⟩ : ∃ fd, Fun K "__init__" "NoElder.__init__" sNoElder_init fNoElder_init fd := ⟨_, fun_mk (st := sNoElder_init) lNoElder_init cNoElder_init kNoElder_init⟩
  have GNoElder_init := ok_NoElder_init (P := l.prog) (w := w) (base := base) FNoElder_init T xNoElder.1 xNoElder.2.2.2.2.2
  have eNoElder_init := em_NoElder_init FNoElder_init xNoElder (PySem.W.mg_of X G a_NoElder) GNoElder_init
  rw [hfNoElder_init, haNoElder] at eNoElder_init
  obtain ⟨fdWrongLetter_init, FWrongLetter_init⟩ : ∃ fd, Fun K "__init__" "WrongLetter.__init__" sWrongLetter_init fWrongLetter_init fd := ⟨_, fun_mk (st := sWrongLetter_init) lWrongLetter_init cWrongLetter_init kWrongLetter_init⟩
  have GWrongLetter_init := ok_WrongLetter_init (P := l.prog) (w := w) (base := base) FWrongLetter_init T xWrongLetter.1 xWrongLetter.2.2.2.2.2
  have eWrongLetter_init := em_WrongLetter_init FWrongLetter_init xWrongLetter (PySem.W.mg_of X G a_WrongLetter) GWrongLetter_init
  rw [hfWrongLetter_init, haWrongLetter] at eWrongLetter_init
  obtain ⟨fdElsewhere_init, FElsewhere_init⟩ : ∃ fd, Fun K "__init__" "Elsewhere.__init__" sElsewhere_init fElsewhere_init fd := ⟨_, fun_mk (st := sElsewhere_init) lElsewhere_init cElsewhere_init kElsewhere_init⟩
  have GElsewhere_init := ok_Elsewhere_init (P := l.prog) (w := w) (base := base) FElsewhere_init T xElsewhere.1 xElsewhere.2.2.2.2.2
  have eElsewhere_init := em_Elsewhere_init FElsewhere_init xElsewhere (PySem.W.mg_of X G a_Elsewhere) GElsewhere_init
  rw [hfElsewhere_init, haElsewhere] at eElsewhere_init
  obtain ⟨fdNotLacking_init, FNotLacking_init⟩ : ∃ fd, Fun K "__init__" "NotLacking.__init__" sNotLacking_init fNotLacking_init fd := ⟨_, fun_mk (st := sNotLacking_init) lNotLacking_init cNotLacking_init kNotLacking_init⟩
  have GNotLacking_init := ok_NotLacking_init (P := l.prog) (w := w) (base := base) FNotLacking_init T xNotLacking.1 xNotLacking.2.2.2.2.2
  have eNotLacking_init := em_NotLacking_init FNotLacking_init xNotLacking (PySem.W.mg_of X G a_NotLacking) GNotLacking_init
  rw [hfNotLacking_init, haNotLacking] at eNotLacking_init
  obtain ⟨fdNotSettled_init, FNotSettled_init⟩ : ∃ fd, Fun K "__init__" "NotSettled.__init__" sNotSettled_init fNotSettled_init fd := ⟨_, fun_mk (st := sNotSettled_init) lNotSettled_init cNotSettled_init kNotSettled_init⟩
  have GNotSettled_init := ok_NotSettled_init (P := l.prog) (w := w) (base := base) FNotSettled_init T xNotSettled.1 xNotSettled.2.2.2.2.2
  have eNotSettled_init := em_NotSettled_init FNotSettled_init xNotSettled (PySem.W.mg_of X G a_NotSettled) GNotSettled_init
  rw [hfNotSettled_init, haNotSettled] at eNotSettled_init
  obtain ⟨fdEarly_init, FEarly_init⟩ : ∃ fd, Fun K "__init__" "Early.__init__" sEarly_init fEarly_init fd := ⟨_, fun_mk (st := sEarly_init) lEarly_init cEarly_init kEarly_init⟩
  have GEarly_init := ok_Early_init (P := l.prog) (w := w) (base := base) FEarly_init T xEarly.1 xEarly.2.2.2.2.2
  have eEarly_init := em_Early_init FEarly_init xEarly (PySem.W.mg_of X G a_Early) GEarly_init
  rw [hfEarly_init, haEarly] at eEarly_init
  obtain ⟨fdNotPrompt_init, FNotPrompt_init⟩ : ∃ fd, Fun K "__init__" "NotPrompt.__init__" sNotPrompt_init fNotPrompt_init fd := ⟨_, fun_mk (st := sNotPrompt_init) lNotPrompt_init cNotPrompt_init kNotPrompt_init⟩
  have GNotPrompt_init := ok_NotPrompt_init (P := l.prog) (w := w) (base := base) FNotPrompt_init T xNotPrompt.1 xNotPrompt.2.2.2.2.2
  have eNotPrompt_init := em_NotPrompt_init FNotPrompt_init xNotPrompt (PySem.W.mg_of X G a_NotPrompt) GNotPrompt_init
  rw [hfNotPrompt_init, haNotPrompt] at eNotPrompt_init
  obtain ⟨fdRefused_init, FRefused_init⟩ : ∃ fd, Fun K "__init__" "Refused.__init__" sRefused_init fRefused_init fd := ⟨_, fun_mk (st := sRefused_init) lRefused_init cRefused_init kRefused_init⟩
  have GRefused_init := ok_Refused_init (P := l.prog) (w := w) (base := base) FRefused_init T xRefused.1 xRefused.2.2.2.2.2
  have eRefused_init := em_Refused_init FRefused_init xRefused (PySem.W.mg_of X G a_Refused) GRefused_init
  rw [hfRefused_init, haRefused] at eRefused_init
  obtain ⟨fdUnknownName_init, FUnknownName_init⟩ : ∃ fd, Fun K "__init__" "UnknownName.__init__" sUnknownName_init fUnknownName_init fd := ⟨_, fun_mk (st := sUnknownName_init) lUnknownName_init cUnknownName_init kUnknownName_init⟩
  have GUnknownName_init := ok_UnknownName_init (P := l.prog) (w := w) (base := base) FUnknownName_init T xUnknownName.1 xUnknownName.2.2.2.2.2
  have eUnknownName_init := em_UnknownName_init FUnknownName_init xUnknownName (PySem.W.mg_of X G a_UnknownName) GUnknownName_init
  rw [hfUnknownName_init, haUnknownName] at eUnknownName_init
  obtain ⟨fdUnknownLot_init, FUnknownLot_init⟩ : ∃ fd, Fun K "__init__" "UnknownLot.__init__" sUnknownLot_init fUnknownLot_init fd := ⟨_, fun_mk (st := sUnknownLot_init) lUnknownLot_init cUnknownLot_init kUnknownLot_init⟩
  have GUnknownLot_init := ok_UnknownLot_init (P := l.prog) (w := w) (base := base) FUnknownLot_init T xUnknownLot.1 xUnknownLot.2.2.2.2.2
  have eUnknownLot_init := em_UnknownLot_init FUnknownLot_init xUnknownLot (PySem.W.mg_of X G a_UnknownLot) GUnknownLot_init
  rw [hfUnknownLot_init, haUnknownLot] at eUnknownLot_init
  obtain ⟨fdUnknownLoan_init, FUnknownLoan_init⟩ : ∃ fd, Fun K "__init__" "UnknownLoan.__init__" sUnknownLoan_init fUnknownLoan_init fd := ⟨_, fun_mk (st := sUnknownLoan_init) lUnknownLoan_init cUnknownLoan_init kUnknownLoan_init⟩
  have GUnknownLoan_init := ok_UnknownLoan_init (P := l.prog) (w := w) (base := base) FUnknownLoan_init T xUnknownLoan.1 xUnknownLoan.2.2.2.2.2
  have eUnknownLoan_init := em_UnknownLoan_init FUnknownLoan_init xUnknownLoan (PySem.W.mg_of X G a_UnknownLoan) GUnknownLoan_init
  rw [hfUnknownLoan_init, haUnknownLoan] at eUnknownLoan_init
  obtain ⟨fdNoSuchLetter_init, FNoSuchLetter_init⟩ : ∃ fd, Fun K "__init__" "NoSuchLetter.__init__" sNoSuchLetter_init fNoSuchLetter_init fd := ⟨_, fun_mk (st := sNoSuchLetter_init) lNoSuchLetter_init cNoSuchLetter_init kNoSuchLetter_init⟩
  have GNoSuchLetter_init := ok_NoSuchLetter_init (P := l.prog) (w := w) (base := base) FNoSuchLetter_init T xNoSuchLetter.1 xNoSuchLetter.2.2.2.2.2
  have eNoSuchLetter_init := em_NoSuchLetter_init FNoSuchLetter_init xNoSuchLetter (PySem.W.mg_of X G a_NoSuchLetter) GNoSuchLetter_init
  rw [hfNoSuchLetter_init, haNoSuchLetter] at eNoSuchLetter_init
  obtain ⟨fdFallen_init, FFallen_init⟩ : ∃ fd, Fun K "__init__" "Fallen.__init__" sFallen_init fFallen_init fd := ⟨_, fun_mk (st := sFallen_init) lFallen_init cFallen_init kFallen_init⟩
  have GFallen_init := ok_Fallen_init (P := l.prog) (w := w) (base := base) FFallen_init T xFallen.1 xFallen.2.2.2.2.2
  have eFallen_init := em_Fallen_init FFallen_init xFallen (PySem.W.mg_of X G a_Fallen) GFallen_init
  rw [hfFallen_init, haFallen] at eFallen_init
  obtain ⟨fdNotFallen_init, FNotFallen_init⟩ : ∃ fd, Fun K "__init__" "NotFallen.__init__" sNotFallen_init fNotFallen_init fd := ⟨_, fun_mk (st := sNotFallen_init) lNotFallen_init cNotFallen_init kNotFallen_init⟩
  have GNotFallen_init := ok_NotFallen_init (P := l.prog) (w := w) (base := base) FNotFallen_init T xNotFallen.1 xNotFallen.2.2.2.2.2
  have eNotFallen_init := em_NotFallen_init FNotFallen_init xNotFallen (PySem.W.mg_of X G a_NotFallen) GNotFallen_init
  rw [hfNotFallen_init, haNotFallen] at eNotFallen_init
  let r : Ar := ⟨clK K, fun i => He.ma K (clK K i) "__init__", fun i => [fdInvalidNumber_init, fdInvalidName_init, fdInvalidText_init, fdInvalidBorders_init, fdInvalidRest_init, fdInvalidRule_init, fdInvalidPlace_init, fdInvalidServer_init, fdInvalidTree_init, fdInvalidCustomer_init, fdInvalidRoom_init, fdInvalidRow_init, fdInvalidParts_init, fdInvalidCut_init, fdInvalidDeed_init, fdInvalidEvent_init, fdBadTree_init, fdBadReading_init, fdBadMoment_init, fdTooMany_init, fdOver_init, fdNotHeld_init, fdNoElder_init, fdWrongLetter_init, fdElsewhere_init, fdNotLacking_init, fdNotSettled_init, fdEarly_init, fdNotPrompt_init, fdRefused_init, fdUnknownName_init, fdUnknownLot_init, fdUnknownLoan_init, fdNoSuchLetter_init, fdFallen_init, fdNotFallen_init].getD i fdNotFallen_init, bsK K⟩
  have EA : All l.prog w K mg base r := { a0 := eInvalidNumber_init, a1 := eInvalidName_init, a2 := eInvalidText_init, a3 := eInvalidBorders_init, a4 := eInvalidRest_init, a5 := eInvalidRule_init, a6 := eInvalidPlace_init, a7 := eInvalidServer_init, a8 := eInvalidTree_init, a9 := eInvalidCustomer_init, a10 := eInvalidRoom_init, a11 := eInvalidRow_init, a12 := eInvalidParts_init, a13 := eInvalidCut_init, a14 := eInvalidDeed_init, a15 := eInvalidEvent_init, a16 := eBadTree_init, a17 := eBadReading_init, a18 := eBadMoment_init, a19 := eTooMany_init, a20 := eOver_init, a21 := eNotHeld_init, a22 := eNoElder_init, a23 := eWrongLetter_init, a24 := eElsewhere_init, a25 := eNotLacking_init, a26 := eNotSettled_init, a27 := eEarly_init, a28 := eNotPrompt_init, a29 := eRefused_init, a30 := eUnknownName_init, a31 := eUnknownLot_init, a32 := eUnknownLoan_init, a33 := eNoSuchLetter_init, a34 := eFallen_init, a35 := eNotFallen_init, g0 := (by have e := PySem.W.mg_of X G a_SureletError; rw [haSureletError] at e; exact e), g1 := (by have e := PySem.W.mg_of X G a_Missing; rw [haMissing] at e; exact e), g2 := (by have e := PySem.W.mg_of X G a_NotNow; rw [haNotNow] at e; exact e), kk := kk_ok mrT inT, kb := kb_ok mrT inT bsT, kt := kt_ok mrT }
  have Gbag := ok_bag (P := l.prog) (w := w) (base := base) Dbag T
  have Gdraw := ok_draw (P := l.prog) (w := w) (base := base) Ddraw T
  have Gof := ok_of (P := l.prog) (w := w) (base := base) Dof T Ddraw Gdraw
  have Glike := ok_like (P := l.prog) (w := w) (base := base) Dlike T
  have Gwords := ok_words (P := l.prog) (w := w) (base := base) Dwords T
  have Gdue := ok_due (P := l.prog) (w := w) (base := base) Ddue T
  have Gfirst := ok_first (P := l.prog) (w := w) (base := base) Dfirst T EA
  have Gsecond := ok_second (P := l.prog) (w := w) (base := base) Dsecond T EA
  have Gboth := ok_both (P := l.prog) (w := w) (base := base) Dboth T EA
  have Gtold := ok_told (P := l.prog) (w := w) (base := base) Dtold T EA
  have Gkinds := ok_kinds (P := l.prog) (w := w) (base := base) Dkinds T EA
  have Gkinds_too := ok_kinds_too (P := l.prog) (w := w) (base := base) Dkinds_too T EA
  have Gdict := ok_dict (P := l.prog) (w := w) (base := base) Ddict T
  have Gthing := ok_thing (P := l.prog) (w := w) (base := base) Dthing T Ddraw Gdraw Dof Gof Ddict Gdict
  have Gcopied := ok_copied (P := l.prog) (w := w) (base := base) Dcopied T Ddict Gdict
  have Gmade := ok_made (P := l.prog) (w := w) (base := base) Dmade T EA Dwords Gwords Dfirst Gfirst Dsecond Gsecond Dboth Gboth
  have Gso := ok_so (P := l.prog) (w := w) (base := base) Dso T EA Ddraw Gdraw Dlike Glike Dwords Gwords Ddue Gdue Dtold Gtold Dkinds Gkinds Dkinds_too Gkinds_too Dthing Gthing Dcopied Gcopied Dmade Gmade
  have Glaw := ok_law (P := l.prog) (w := w) (base := base) Dlaw T EA Dbag Gbag Dso Gso
  exact Glaw
def hn0 : List PySem.Str := [("SureletError" : PySem.Str), ("Missing" : PySem.Str), ("NotNow" : PySem.Str), ("InvalidNumber" : PySem.Str), ("InvalidName" : PySem.Str), ("InvalidText" : PySem.Str), ("InvalidBorders" : PySem.Str), ("InvalidRest" : PySem.Str), ("InvalidRule" : PySem.Str), ("InvalidPlace" : PySem.Str), ("InvalidServer" : PySem.Str), ("InvalidTree" : PySem.Str), ("InvalidCustomer" : PySem.Str), ("InvalidRoom" : PySem.Str), ("InvalidRow" : PySem.Str), ("InvalidParts" : PySem.Str), ("InvalidCut" : PySem.Str), ("InvalidDeed" : PySem.Str), ("InvalidEvent" : PySem.Str), ("BadTree" : PySem.Str)]
def hn1 : List PySem.Str := [("BadReading" : PySem.Str), ("BadMoment" : PySem.Str), ("TooMany" : PySem.Str), ("Over" : PySem.Str), ("NotHeld" : PySem.Str), ("NoElder" : PySem.Str), ("WrongLetter" : PySem.Str), ("Elsewhere" : PySem.Str), ("NotLacking" : PySem.Str), ("NotSettled" : PySem.Str), ("Early" : PySem.Str), ("NotPrompt" : PySem.Str), ("Refused" : PySem.Str), ("UnknownName" : PySem.Str), ("UnknownLot" : PySem.Str), ("UnknownLoan" : PySem.Str), ("NoSuchLetter" : PySem.Str), ("Fallen" : PySem.Str), ("NotFallen" : PySem.Str), ("_law_bag" : PySem.Str)]
def hn2 : List PySem.Str := [("_law_draw" : PySem.Str), ("_law_of" : PySem.Str), ("_law_like" : PySem.Str), ("_law_first" : PySem.Str), ("_law_second" : PySem.Str), ("_law_both" : PySem.Str), ("_law_told" : PySem.Str), ("_law_kinds" : PySem.Str), ("_law_kinds_too" : PySem.Str), ("_law_words" : PySem.Str), ("_law_due" : PySem.Str), ("_law_thing" : PySem.Str), ("_law_dict" : PySem.Str), ("_law_copied" : PySem.Str), ("_law_made" : PySem.Str), ("_law_so" : PySem.Str)]
def hnL : List PySem.Str := hn0 ++ hn1 ++ hn2
abbrev hR : PySem.W.OpenRow := PySem.W.OpenLaw.row PySem.Challenge.rw_surelet_k00_errors_by_themselves
abbrev hqv : Program := PySem.W.view hR.prog [58]
abbrev hkX : PySem.W.Hook := LH.hookZ 4 hdL hbL htL
def hob (s : PySem.W.SharedT) : LH.AlZ := LH.obsZ 4 hdL hbL htL (HandSHeadRun.getT s)
theorem hob_eq (s : PySem.W.SharedT) : hob s = hkX.obs s.abs := LH.obsZ_eq (HandSHeadRun.getT_eq s)
noncomputable def hE (w : World) (os : OsState) : Option PySem.W.SharedT := HandSHeadRun.endF (HandSHeadRun.stepQ (HandSHeadRun.denQ HandSHeadRun.tabQ) hR.prog w) 20000 hR.prog w os
def hK (s : PySem.W.SharedT) : PySem.W.Frag := He.frT (HandSHeadRun.getT s) (LH.asZ (HandSHeadRun.getT s) 4)
theorem hr1 (w : World) (os : OsState) : (hE w os).map (fun s => HandSHeadRun.looksF hR.prog (PySem.W.boot_heap w.params) s.abs) = some (true) := by kernel_rfl
theorem hr2 (w : World) (os : OsState) : (hE w os).map (fun s => HandSHeadRun.seenQ hqv hnL (importedModules hR.prog.main.body) (fun s => PySem.W.xlAt hqv [] s && PySem.W.recOk hR.toRowW.records s) s.abs) = some (PySem.W.openGood hqv hnL) := by kernel_rfl
theorem hr3 (w : World) (os : OsState) : (hE w os).map (fun s => hdL.map fun d => LH.fnZ (hK s) (d.at_ (hK s))) = some (hdL.map LH.FnA.val) := by kernel_rfl
theorem hr4 (w : World) (os : OsState) : (hE w os).map (fun s => hdL.all fun d => d.ok (hK s)) = some (true) := by kernel_rfl
theorem hr5 (w : World) (os : OsState) : (hE w os).map (fun s => LH.tabsB (HandSHeadRun.getT s) htL (hK s)) = some (true) := by kernel_rfl
theorem hr6_0 (w : World) (os : OsState) : (hE w os).map (fun s => (hbL0 (hK s)).all id && ((hbL1 (hK s)).all id && ((hbL2 (hK s)).all id))) = some (true) := by kernel_rfl
theorem hr6_1 (w : World) (os : OsState) : (hE w os).map (fun s => (hbL3 (hK s)).all id && ((hbL4 (hK s)).all id)) = some (true) := by kernel_rfl
theorem hrun (w : World) : HandSHeadRun.RunEq hR hqv hkX hob 20000 hnL w := by
  intro os
  obtain ⟨s, e, q1⟩ := Option.map_eq_some_iff.mp (hr1 w os)
  have at_ : ∀ {β : Type} {f : PySem.W.SharedT → β} {b : β}, (hE w os).map f = some b → f s = b := fun h => by rw [e] at h; exact Option.some.inj h
  have e2 : HandSHeadRun.endF (HandSHeadRun.stepQ (HandSHeadRun.denQ HandSHeadRun.tabQ) hR.prog w) 20000 hR.prog w os = some s := e
  have q6 : (hbL (hK s)).all id = true := by
    have r := at_ (hr6_0 w os)
    obtain ⟨h0, r⟩ := Bool.and_eq_true_iff.mp r
    obtain ⟨h1, r⟩ := Bool.and_eq_true_iff.mp r
    have h2 := r
    have r := at_ (hr6_1 w os)
    obtain ⟨h3, r⟩ := Bool.and_eq_true_iff.mp r
    have h4 := r
    unfold hbL
    simp only [List.all_append, h0, h1, h2, h3, h4, Bool.and_true]
  have q7 : ((hdL.all fun d => d.ok (hK s)) && ((hbL (hK s)).all id && LH.tabsB (HandSHeadRun.getT s) htL (hK s))) = true := by
    rw [at_ (hr4 w os), q6, at_ (hr5 w os)] <;> rfl
  have q3 := at_ (hr3 w os)
  have q2 := at_ (hr2 w os)
  rw [e2]
  exact congrArg some (Prod.ext q1 (Prod.ext q2 (Prod.ext q3 q7)))
end k00
open PySem PySem.W PyProof.Rows
set_option maxRecDepth 100000 in
set_option maxHeartbeats 0 in
theorem PySem.Challenge.cw_surelet_k00_errors_by_themselves_holds : PySem.Challenge.rw_surelet_k00_errors_by_themselves.Holds := by
  w_on; o_law
  refine HandSHeadRun.head_any (r := OpenLaw.row PySem.Challenge.rw_surelet_k00_errors_by_themselves) (q := k00.hqv) (H := k00.hkX) (ob := k00.hob) (M := 20000) (loose := k00.hnL) (d := HandSHeadRun.topDef (OpenLaw.row PySem.Challenge.rw_surelet_k00_errors_by_themselves).prog 58) (kwd := []) k00.hob_eq
    (by kernel_rfl) (fun s => by kernel_rfl) k00.hrun (by kernel_rfl) (by kernel_rfl) (by kernel_rfl) (by rfl) (by first | assumption | decide +kernel) (by decide +kernel) ⟨rfl, rfl, rfl, rfl, rfl, by decide +kernel⟩ ?hw ?hc
  case hw => w_witness2
  case hc =>
    refine LamX.walk_ofTsE (l := PySem.Challenge.rw_surelet_k00_errors_by_themselves) (n := 63) (k := 7) (x := "_law_script") (CX := fun _ => L2.CX0) rfl (by decide) (by kernel_rfl) ⟨rfl, by decide, by decide⟩ ?F (fun _ _ _ _ _ z => z)
    intro w mg fa h Y G hmg0
    obtain ⟨K, KX, c⟩ := Y
    have hmg : mg ("law" : PySem.Str) = some (.ref fa) := by
      have e : (HandSHeadRun.topDef (OpenLaw.row PySem.Challenge.rw_surelet_k00_errors_by_themselves).prog 58).name = ("law" : PySem.Str) := by kernel_rfl
      rw [← e]
      exact hmg0
    exact ⟨K, KX, k00.all_x KX G hmg c⟩