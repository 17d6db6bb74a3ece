import PyProof.Rows.All
import Wide.All
import OpenK.AllK
import Wide.FinOn
import HandS.ForMost
import HandS.IsInst
import HandS.Evl
import HandS.Zip
import HandS.ExcInit
import HandS.ExcIs
import HandS.Walk
import KE.KExcIs
import KE.KxText
import HandS.Nested
import HandS.Star
import HandS.More
import HandS.MethStar
import KE.KSuper
import HandS.FStr
import HandS.Gcd
import KE.KMathGC
import HandS.TupSets
import HandS.RaiseMore
import HandS.TupAny
import HandS.ForExc
import HandS.TryMany
import HandS.ExcField
import HandS.SlotsOwn
import KE.KFmtOwn
import KE.KCallOwn
import HandS.DeepEq
import HandS.Lambda
import HandS.EndTab
import HandS.HeadWalk
import HandS.Defaults
import HandS.MakeKwOnly
import HandS.EndOwn
import PyProof.InstNe
import KE.GoesMore
import HandS.Ends
import HandS.Rev
import PySem.Challenge.RW_surelet_k04_rests_built_and_refused
set_option Elab.async false
set_option linter.all false
set_option maxRecDepth 100000
set_option maxHeartbeats 4000000
namespace LC
open PySem L2
/-- a def as it stands behind the top: its text, its name, how its arguments bind -/
structure Def (K : PySem.W.Frag) (mg : Str → Option Value) (x : Str) (st : Stmt) (ps : List Str) (f : Addr) (fd : FuncData) : Prop where
  F : Fun K x x st f fd
  g : mg x = some (.ref f)
  b : Binds K fd ps []
/-- all but the bag at g is as it was -/
def Kp (g : Addr) (H H' : Hp) : Prop := ∀ b o, b ≠ g → H b = some o → H' b = some o
theorem Kp.refl (g : Addr) (H : Hp) : Kp g H H := fun _ _ _ h => h
theorem Kp.trans {g : Addr} {H H1 H2 : Hp} (a : Kp g H H1) (b : Kp g H1 H2) : Kp g H H2 := fun c o n h => b c o n (a c o n h)
theorem Kp.upd {g : Addr} {H H1 : Hp} {p : Addr} {o : HO} (a : Kp g H H1) (h : H1 p = none) : Kp g H (upd H1 p o) := fun c u n e => by
  have q := a c u n e
  rw [upd_ne (ne_of_none q h)]
  exact q
theorem Kp.bag {g : Addr} {H H1 : Hp} {o : HO} (a : Kp g H H1) : Kp g H (L2.upd H1 g o) := fun c u n e => by
  rw [upd_ne n]
  exact a c u n e
theorem Kp.free {g : Addr} {H H' : Hp} (e : Kp g H H') {l : Addr} (hl : l ≠ g) (h : H' l = Option.none) : H l = Option.none := by
  cases q : H l with
  | none => rfl
  | some o =>
    rw [e l o hl q] at h
    cases h
/-- the bag of draws at g, the script's copy at l -/
def Bag (l : Addr) (H : Hp) (g : Addr) : Prop := ∃ (ns : List Int) (i d s c : Int), H g = some (.lst [.ref l, .int i, .int d, .int s, .int c]) ∧ l ≠ g ∧ H l = some (.lst (ns.map V.int)) ∧
  0 ≤ i ∧ i ≤ ns.length ∧ 0 ≤ d ∧ 0 ≤ s ∧ s < 2147483399
theorem Bag.there {l : Addr} {H : Hp} {g : Addr} (B : Bag l H g) : (∃ xs, H g = some (.lst xs)) ∧ ∃ xs, H l = some (.lst xs) := by
  obtain ⟨ns, i, d, s, c, h, _, h2, _⟩ := B
  exact ⟨⟨_, h⟩, ⟨_, h2⟩⟩
theorem Bag.ne {l : Addr} {H : Hp} {g p : Addr} (B : Bag l H g) (h : H p = none) : p ≠ g ∧ p ≠ l := by
  obtain ⟨⟨xs, q⟩, ⟨ys, r⟩⟩ := B.there
  refine ⟨fun e => ?_, fun e => ?_⟩
  · rw [e, q] at h
    cases h
  · rw [e, r] at h
    cases h
theorem Bag.mut {l : Addr} {H : Hp} {g p : Addr} {o : HO} (B : Bag l H g) (h : p ≠ g) (h' : p ≠ l) : Bag l (L2.upd H p o) g := by
  obtain ⟨ns, i, d, s, c, h1, h2, h3, r⟩ := B
  exact ⟨ns, i, d, s, c, by rw [upd_ne (Ne.symm h)]; exact h1, h2, by rw [upd_ne (Ne.symm h')]; exact h3, r⟩
/-- from H0 to H: all but the bag stands, things came beside it, the bag is one -/
structure Ok (g l : Addr) (H0 H : Hp) : Prop where
  b0 : Bag l H0 g
  kp : Kp g H0 H
  bag : Bag l H g
theorem Ok.refl {g l : Addr} {H : Hp} (B : Bag l H g) : Ok g l H H := ⟨B, Kp.refl g H, B⟩
theorem Ok.trans {g l : Addr} {H H1 H2 : Hp} (a : Ok g l H H1) (b : Ok g l H1 H2) : Ok g l H H2 := ⟨a.b0, a.kp.trans b.kp, b.bag⟩
theorem Ok.new {g l p : Addr} {H H1 : Hp} {o : HO} (a : Ok g l H H1) (h : H1 p = none) : Ok g l H (L2.upd H1 p o) := ⟨a.b0, a.kp.upd h, a.bag.mut (a.bag.ne h).1 (a.bag.ne h).2⟩
theorem Ok.free {g l p : Addr} {H H1 : Hp} (a : Ok g l H H1) (h : H1 p = none) : H p = none := a.kp.free (a.bag.ne h).1 h
theorem Ok.mut {g l p : Addr} {H H1 : Hp} {o : HO} (a : Ok g l H H1) (h : H p = none) : Ok g l H (L2.upd H1 p o) :=
  ⟨a.b0, fun b u n e => by rw [upd_ne (ne_of_none e h)]; exact a.kp b u n e, a.bag.mut (a.b0.ne h).1 (a.b0.ne h).2⟩
theorem Ok.at_ {g l p : Addr} {H H1 : Hp} {o : HO} (a : Ok g l H H1) (h : H p = some o) (n : p ≠ g) : H1 p = some o := a.kp p o n h
theorem SqL.kp {K : PySem.W.Frag} {g : Addr} {H H' : Hp} {a : Addr} {xs : List V} (e : Kp g H H') (n : a ≠ g) (h : SqL K H a xs) : SqL K H' a xs := by
  rcases h with (h | ⟨o, h⟩) | h
  · exact .inl (.inl (e _ _ n h))
  · exact .inl (.inr ⟨o, e _ _ n h⟩)
  · exact .inr h
theorem SqT.kp {K : PySem.W.Frag} {g : Addr} {H H' : Hp} {a : Addr} {xs : List V} (e : Kp g H H') (n : a ≠ g) (h : SqT K H a xs) : SqT K H' a xs := by
  rcases h with (h | ⟨o, h⟩) | h
  · exact .inl (.inl (e _ _ n h))
  · exact .inl (.inr ⟨o, e _ _ n h⟩)
  · exact .inr h
theorem ite_b {c : Bool} {A B : Prop} (h1 : c = true → A) (h2 : c = false → B) : if c = true then A else B := by
  cases c with
  | true => exact iteT (h1 rfl)
  | false => exact iteF (h2 rfl)
/-- a test of two ints -/
theorem ite_d {p : Prop} [Decidable p] {A B : Prop} (h1 : p → A) (h2 : ¬ p → B) : if decide p = true then A else B := by
  by_cases h : p
  · rw [decide_eq_true h]
    exact iteT (h1 h)
  · rw [decide_eq_false h]
    exact iteF (h2 h)
theorem ite_eq {i j : Int} {A B : Prop} (h1 : i = j → A) (h2 : i ≠ j → B) : if decide (V.int i = V.int j) = true then A else B :=
  ite_d (fun h => h1 (V.int.inj h)) fun h => h2 fun e => h (by rw [e])
section
variable {X : Cx} {CX : CXT} {k : Nat} {f : Addr} {fd : FuncData} {ps ks : List Str} {sp : Sp} {E : XK} {x : Str} {p pos : Pos} {kws : List Keyword} {tk : TA} {g : List Value → List Value → List Value} {gV : List V → List V → List V}
theorem pe_callK0 (F : FnOk X.prog X.w X.K X.mg X.base CX k f fd ps sp) (hr : Room k X.A) (hg : Gl X x) (hm : X.mg x = some (.ref f)) (hk : PySem.W.keepIn X.K (.ref f) = true) (hb : KBinds X.K fd ps ks g gV) (hx : Passes CX X E)
    (hkw : PK X kws tk) (hall : (backToKw pos (keywordEach kws X.env)).all (·.1.isSome) = true := by rfl) (hks : (backToKw pos (keywordEach kws X.env)).filterMap (·.1) = ks := by rfl)
    (hdb : (x == ("__debug__" : Str)) = false := by decide) (hpl : ((backTo pos (starEach [] X.env)).any (·.1) || (backToKw pos (keywordEach kws X.env)).any (·.1.isNone)) = false := by rfl) :
    PE X (.Call (.Name x p) [] kws pos) (tCallK sp gV E tNil tk) := by
  refine ⟨fun pins s σ H Q I h => ?_⟩
  refine wpAny_Call_Name_kw (ld_glob I hg hm ?_ hdb)
  refine PySem.W.callWith_KW0 (h₀ := X.base) I.ok.mod.kin hk hall ?_ hpl
  refine thn (hkw.run pos pins s σ H _ I h) fun ws s2 ⟨zs, H2, I2, rz, q2⟩ => ⟨I2.kIn, ?_⟩
  rw [hks]
  exact run_fnk (us := []) F hr hb hx I2 .nil rz q2
end
end LC
namespace LC
open PySem L2
theorem cut_ints (ns : List Int) (lo hi : Option Int) : ∃ ms : List Int, cutV (ns.map V.int) lo hi = ms.map V.int ∧ ms.length ≤ ns.length := by
  refine ⟨(ns.drop (HT.sIx ns.length 0 lo)).take (HT.sIx ns.length ns.length hi - HT.sIx ns.length 0 lo), ?_, ?_⟩
  · unfold cutV
    rw [List.length_map, ← List.map_drop, ← List.map_take]
  · rw [List.length_take, List.length_drop]
    omega
theorem same_new {H : Hp} {p : Addr} {o : HO} (h : H p = none) : Same H (upd H p o) := fun b u e => by
  rw [upd_ne (ne_of_none e h)]
  exact e
theorem int_of {ns : List Int} {i : Nat} {y : V} (h : (ns.map V.int)[i]? = some y) : ∃ u, y = V.int u := by
  rw [List.getElem?_map] at h
  cases e : ns[i]? with
  | none =>
    rw [e] at h
    cases h
  | some u =>
    rw [e] at h
    exact ⟨u, (Option.some.inj h).symm⟩
end LC

namespace LC
theorem fmod_nn (a : Int) {n : Int} (h : 0 < n) : 0 ≤ a.fmod n := by
  rw [Int.fmod_eq_emod_of_nonneg _ (Int.le_of_lt h)]
  exact Int.emod_nonneg _ (by omega)
theorem fmod_lt (a : Int) {n : Int} (h : 0 < n) : a.fmod n < n := by
  rw [Int.fmod_eq_emod_of_nonneg _ (Int.le_of_lt h)]
  exact Int.emod_lt_of_pos _ h
end LC

namespace LC
open PySem L2
/-- a value of any of the drawn kinds; C: the error's class -/
inductive Th (C g : Addr) (H : Hp) : V → Prop where
  | non : Th C g H .non
  | bl (b : Bool) : Th C g H (.bl b)
  | int (i : Int) : Th C g H (.int i)
  | str (z : Str) (h : z.length ≤ 1000000) : Th C g H (.str z)
  | lst {a : Addr} {xs : List V} (h : H a = some (.lst xs)) (n : a ≠ g) : Th C g H (.ref a)
  | tup {a : Addr} {xs : List V} (h : H a = some (.tup xs)) (n : a ≠ g) : Th C g H (.ref a)
  | dK {a : Addr} {kvs : List (Key × V)} (h : H a = some (.dK kvs)) (n : a ≠ g) : Th C g H (.ref a)
  | exo {a d : Addr} {fs : List (Str × V)} (h : H a = some (exo a C (some d))) (n : a ≠ g) (hd : H d = some (exd d fs)) (nd : d ≠ g) : Th C g H (.ref a)
theorem Th.kp {C g : Addr} {H H' : Hp} {v : V} (r : Kp g H H') (t : Th C g H v) : Th C g H' v := by
  cases t with
  | non => exact .non
  | bl b => exact .bl b
  | int i => exact .int i
  | str z h => exact .str z h
  | lst h n => exact .lst (r _ _ n h) n
  | tup h n => exact .tup (r _ _ n h) n
  | dK h n => exact .dK (r _ _ n h) n
  | exo h n hd nd => exact .exo (r _ _ n h) n (r _ _ nd hd) nd
theorem Th.list {C g l : Addr} {H0 H : Hp} {p : Addr} {xs : List V} (a : Ok g l H0 H) (h : H p = none) : Th C g (upd H p (.lst xs)) (.ref p) := .lst upd_same (a.bag.ne h).1
theorem Th.tupl {C g l : Addr} {H0 H : Hp} {p : Addr} {xs : List V} (a : Ok g l H0 H) (h : H p = none) : Th C g (upd H p (.tup xs)) (.ref p) := .tup upd_same (a.bag.ne h).1
theorem upd_kp {g l : Addr} {H0 H : Hp} {p : Addr} {o : HO} (a : Ok g l H0 H) (h : H p = none) : Kp g H (upd H p o) := (Ok.new (Ok.refl a.bag) h).kp
/-- a comprehension over a text whose element leaves the heap -/
theorem lc_text {z : Str} {j : Nat} {te : TE} {vs : List Nat} {σ : L2.St} {H1 : Hp} {D : Addr} {Qd : Hp → Prop} (f : Nat → V) (hD : H1 D = none) (hz : z.length ≤ 1000000) (hw : ∀ x, wipe ((wipe σ vs).set j (some x)) vs = wipe σ vs)
    (he : ∀ (c : Nat) (H : Hp) (Q : VK), c ∈ z.cps.toList → Q (f c) H → te ((wipe σ vs).set j (some (.str ⟨#[c]⟩))) H Q) (hd : Qd (upd H1 D (.lst (z.cps.toList.map f)))) :
    ∃ W : Nat → Nat → Hp → Prop, (∃ m, W 0 m (upd H1 D (.lst []))) ∧ ∀ i m H, W i m H →
      ((Its z).stop i H ∧ Qd H) ∨ ((Its z).go i H ∧ ∃ Nx : Hp → Prop, (∀ H', Nx H' → ∃ m', m' < m ∧ W (i + 1) m' H') ∧ ∀ x H', (Its z).yld i H x H' → gName j x (wipe σ vs) H' fun σ2 H2 => wipe σ2 vs = wipe σ vs ∧ tYes σ2 H2 fun b H3 =>
        if b = true then te σ2 H3 fun y H4 => ∃ acc, H4 D = some (.lst acc) ∧ acc.length < sizeLine ∧ Nx (upd H4 D (.lst (acc ++ [y]))) else Nx H3) := by
  have hn : z.cps.toList.length = z.cps.size := Array.length_toList
  refine lc_it (walk_str (z := z)) (fun i H => i ≤ z.cps.size ∧ H = upd H1 D (.lst ((z.cps.toList.take i).map f))) ⟨Nat.zero_le _, rfl⟩ (fun _ _ _ _ => trivial) ?_ ?_
  · rintro i x H H' hi ⟨_, rfl⟩ ⟨rfl, c, hc, rfl⟩
    refine ⟨hw _, ?_⟩
    have hc' : z.cps.toList[i]? = some c := by rw [Array.getElem?_toList]; exact hc
    refine he c _ _ (List.mem_of_getElem? hc') ?_
    refine ⟨_, upd_same, ?_, hi, ?_⟩
    · rw [List.length_map, List.length_take]
      have e1 : z.cps.size = z.length := rfl
      exact Nat.lt_of_le_of_lt (Nat.min_le_right _ _) (Nat.lt_of_le_of_lt (by rw [hn, e1]; exact hz) (by decide : 1000000 < sizeLine))
    · rw [upd_upd, List.take_add_one, hc', List.map_append]
      rfl
  · rintro H ⟨_, rfl⟩
    rw [← hn, List.take_length]
    exact hd
end LC
namespace LC
open PySem L2 PySem.Spec PyProof.Rows
/-- C(e, ..) as a value, C an own error class over ValueError with its own __init__, which keeps sp -/
def tMkV (C : Addr) (sp : Sp) (ta : TA) : TE := fun σ H Q => ta σ H fun vs H1 => vs.length ≤ 1000 ∧ ∀ a, H1 a = none → sp (.ref a :: vs) (upd H1 a (exo a C none)) (fun v H2 => v = .non ∧ Q (.ref a) H2) (fun _ _ _ => False)
section
variable {X : Cx} {e : Expr} {es : List Expr} {ta : TA} {p pos : Pos}
theorem pe_oexV {CX : CXT} {x : Str} {C fI : Addr} {k : Nat} {fd : FuncData} {ps : List Str} {sp : Sp} (T : OexC X.K C) (iC : PySem.W.findIn X.K (.ref C) "__init__" = some (some (.ref fI))) (tI : PySem.W.typeIn X.K (.ref fI) = some (.type "function"))
    (F1 : FnOk X.prog X.w X.K X.mg X.base CX k fI fd ps sp) (hr : Room (k + 1) X.A) (hb : Binds X.K fd ps []) (hx : Passes CX X (fun _ _ _ => False)) (hg : Gl X x) (hm : X.mg x = some (.ref C)) (ha : PA X (e :: es) ta)
    (hdb : (x == ("__debug__" : Str)) = false := by decide) (he : starEach (e :: es) X.env = (false, eval e X.env) :: starEach es X.env := by rfl) (hpl : (backTo pos (starEach es X.env)).any (·.1) = false := by rfl) :
    PE X (.Call (.Name x p) (e :: es) [] pos) (tMkV C sp ta) := by
  refine ⟨fun pins s σ H Q I h => ?_⟩
  obtain ⟨nm, q, N, bs, bm, sn, sub, ab, col, dd, k0, k1, k2, k3, k5, hC, hbm⟩ := T.cls
  refine wpAny_Call_Name_kw (ld_glob I hg hm ?_ hdb)
  refine PySem.W.callWith_K (h₀ := X.base) I.ok.mod.kin T.kC (thn (ha.run pos pins s σ H _ I h) fun us s1 ⟨vs, H1, I1, r1, hz, q1⟩ => ⟨I1.kIn, ?_⟩) he hpl
  show wpAny _ _ (call (.ref C) us) _ _ _
  obtain ⟨hp, g, dr, tk, os⟩ := s1
  have hsz : hp.objs.size ≤ hp.objs.size + 1 := Nat.le_succ _
  have hn : H1 (hp.objs.size + 1) = none := I1.hok.fresh hsz
  have hq := q1 (hp.objs.size + 1) hn
  have kk : ∀ b o, hp.get? b = some o → ((hp.push (PySem.W.kdv_tup us)).push (PySem.HandSPX.excO C hp.objs.size)).get? b = some o := fun b o e => Heap.get?_push_of_some _ (Heap.get?_push_of_some _ e)
  have hget : ((hp.push (PySem.W.kdv_tup us)).push (PySem.HandSPX.excO C hp.objs.size)).get? (hp.objs.size + 1) = some (PySem.HandSPX.excO C hp.objs.size) := by heap_get
  have I2 : L2.Inv X pins σ (upd H1 (hp.objs.size + 1) (exo (hp.objs.size + 1) C none)) ⟨(hp.push (PySem.W.kdv_tup us)).push (PySem.HandSPX.excO C hp.objs.size), g, dr, tk, os⟩ :=
    I1.laid (t' := tk) (a := hp.objs.size + 1) (o := exo (hp.objs.size + 1) C none) (h' := (hp.push (PySem.W.kdv_tup us)).push (PySem.HandSPX.excO C hp.objs.size)) kk hsz (exo_ok hget)
  have r2 : Vals (V.ref (hp.objs.size + 1) :: vs) (Value.ref (hp.objs.size + 1) :: us) := .cons rfl r1
  have hl : (Value.ref (hp.objs.size + 1) :: us ++ []).length = ps.length := by
    have e := r2.length
    rw [F1.len _ _ _ _ hq] at e
    rw [List.append_nil]
    exact e.symm
  have hus : us.length ≤ sizeLine := by
    rw [← Paired.length r1, sizeLine_eq]
    omega
  have hbb := hb _ (Value.ref (hp.objs.size + 1) :: us) I2.kIn hl
  rw [List.append_nil] at hbb
  refine wpAny_call (PySem.HandSPX.call_own F.excBase_ValueError (fun Y => PySem.HandSPX.refsVE_contains Y bm hbm) (I1.kIn _ _ hC) (PySem.W.looks_findIn I1.kIn iC) (fun self => PySem.W.bind_fn I1.kIn self tI) hus
    (codeAny_mono (F1.run _ X.stack _ _ ⟨Value.ref (hp.objs.size + 1) :: us, []⟩ (Value.ref (hp.objs.size + 1) :: us) _ _ (fun _ _ _ => False) (hr.make C us []) (I2.env0.make C us []) hbb r2 hq) fun r s' hq' => ?_))
  cases r with
  | error er => exact hx pins σ _ _ er s' I2 hq'
  | ok fl =>
    cases fl with
    | ret u =>
      obtain ⟨v, H2, os2, bare2, un2, hok2, rv, ev, q2⟩ := hq'
      subst ev
      exact ⟨rv, .ref (hp.objs.size + 1), H2, I2.call' (ch := []) os2 un2 hok2 bare2 (fun b hb => by cases hb), rfl, q2⟩
    | next => exact False.elim hq'
    | brk => exact False.elim hq'
    | cont => exact False.elim hq'
end
/-- what the written part says of an own error class, for isinstance -/
structure IsC (K : PySem.W.Frag) (C : Addr) : Prop where
  hcl : (PySem.W.clsIn K C).isSome = true
  hga : PySem.W.findIn K (.ref C) "__getattribute__" = some (some (.builtin "BaseException.__getattribute__"))
  hgt : PySem.W.findIn K (.ref C) "__getattr__" = some none
  hsub : PySem.W.subIn K (.ref C) (.type "BaseException") = some true
  ha : PySem.W.findIn K (.ref C) "__class__" = some (some (.builtin "object.__class__"))
  hn : PySem.W.specialIn K (.builtin "object.__class__") "__get__" = some (some (.builtin "getset_descriptor.__get__"))
  htk : PySem.W.takesIn K (.builtin "object.__class__") = some true
  hm : PySem.W.mroIn K C (.type "object") = some true
/-- isinstance(x, c), x an own error too -/
def rIsX (K : PySem.W.Frag) : List V → Hp → VK → Prop := fun xs H Q => rIsi K xs H Q ∨
  ∃ (a C d : Addr) (c : V) (cv : Value) (b : Bool) (fs : List (Str × V)), xs = [.ref a, c] ∧ IsC K C ∧ H a = some (exo a C (some d)) ∧ H d = some (exd d fs) ∧ ClsV c cv ∧ PySem.W.kitOne K (.ref C) cv = some b ∧ Q (.bl b) H
theorem call_isX {X : Cx} : CallR X (.builtin "isinstance") (rIsX X.K) := by
  intro pins s σ H xs us Q I r h
  rcases h with h | ⟨a, C, d, c, cv, b, fs, rfl, T, ha, hd, k, e, q⟩
  · exact call_isi pins s σ H xs us Q I r h
  · obtain ⟨u1, u2, rfl, r1, r2⟩ := vals2 r
    have e2 := k.eq r2
    subst e2
    obtain rfl : u1 = Value.ref a := r1
    obtain ⟨t1, ho⟩ := exo_at I.hok ha
    obtain ⟨od, hod⟩ : ∃ od, s.heap.get? d = some od := by
      obtain ⟨_, z, _⟩ := I.hok d _ hd
      exact z
    have J : PySem.W.InstAt s.heap a { cls := .ref C, dict := some d, data := .fields #[.ref t1, .none, .none, .none, .bool false, .none] } C (some od) := ⟨ho, rfl, rfl, hod⟩
    exact PySem.W.kia_one (PySem.W.kitx_exc T.hcl T.hga T.hgt T.hsub T.ha T.hn T.htk T.hm) I.kIn J e (fun z => nomatch z) fun tk => ⟨.bl b, H, I.tok tk, rfl, q⟩
end LC

namespace LC
open PySem L2
/-! the values of isinstance(x, int | bool | str) -/
def isI : V → Bool | .int _ => true | .bl _ => true | _ => false
def isB : V → Bool | .bl _ => true | _ => false
def isS : V → Bool | .str _ => true | _ => false
/-- what the error's class answers -/
structure NoB (K : PySem.W.Frag) (C : Addr) : Prop where
  is : IsC K C
  i : PySem.W.kitOne K (.ref C) (.type "int") = some false
  b : PySem.W.kitOne K (.ref C) (.type "bool") = some false
  s : PySem.W.kitOne K (.ref C) (.type "str") = some false
theorem isi_th {K : PySem.W.Frag} {C g : Addr} {H : Hp} {v : V} {Q : VK} (N : NoB K C) (t : Th C g H v) : (Q (.bl (isI v)) H → rIsX K [v, .ty "int"] H Q) ∧ (Q (.bl (isB v)) H → rIsX K [v, .ty "bool"] H Q) ∧ (Q (.bl (isS v)) H → rIsX K [v, .ty "str"] H Q) := by
  have go : ∀ {x : V} {T S : String} {b : Bool}, TyOf K H x (.type T) → kitB T S = some b → Q (.bl b) H → rIsX K [x, .ty S] H Q := fun ty e q => .inl ⟨_, _, _, _, _, rfl, .ty _, .base ty, kit_ty e, q⟩
  cases t with
  | non => exact ⟨go .non (show kitB "NoneType" "int" = some false by decide +kernel), go .non (show kitB "NoneType" "bool" = some false by decide +kernel), go .non (show kitB "NoneType" "str" = some false by decide +kernel)⟩
  | bl b => exact ⟨go (.bl b) (show kitB "bool" "int" = some true by decide +kernel), go (.bl b) (show kitB "bool" "bool" = some true by decide +kernel), go (.bl b) (show kitB "bool" "str" = some false by decide +kernel)⟩
  | int i => exact ⟨go (.int i) (show kitB "int" "int" = some true by decide +kernel), go (.int i) (show kitB "int" "bool" = some false by decide +kernel), go (.int i) (show kitB "int" "str" = some false by decide +kernel)⟩
  | str z h => exact ⟨go (.str z) (show kitB "str" "int" = some false by decide +kernel), go (.str z) (show kitB "str" "bool" = some false by decide +kernel), go (.str z) (show kitB "str" "str" = some true by decide +kernel)⟩
  | lst h n => exact ⟨go (.lst h) (show kitB "list" "int" = some false by decide +kernel), go (.lst h) (show kitB "list" "bool" = some false by decide +kernel), go (.lst h) (show kitB "list" "str" = some false by decide +kernel)⟩
  | tup h n => exact ⟨go (.tup h) (show kitB "tuple" "int" = some false by decide +kernel), go (.tup h) (show kitB "tuple" "bool" = some false by decide +kernel), go (.tup h) (show kitB "tuple" "str" = some false by decide +kernel)⟩
  | dK h n => exact ⟨go (.dK h) (show kitB "dict" "int" = some false by decide +kernel), go (.dK h) (show kitB "dict" "bool" = some false by decide +kernel), go (.dK h) (show kitB "dict" "str" = some false by decide +kernel)⟩
  | exo h n hd nd => exact ⟨fun q => .inr ⟨_, C, _, _, _, _, _, rfl, N.is, h, hd, .ty _, N.i, q⟩, fun q => .inr ⟨_, C, _, _, _, _, _, rfl, N.is, h, hd, .ty _, N.b, q⟩, fun q => .inr ⟨_, C, _, _, _, _, _, rfl, N.is, h, hd, .ty _, N.s, q⟩⟩
def isNum (v : V) (lo hi : Int) : Bool := match v with | .int i => decide (lo ≤ i) && decide (i ≤ hi) | _ => false
def chL (c : Nat) : Bool := decide (97 ≤ c) && decide (c ≤ 122)
def chD (c : Nat) : Bool := decide (48 ≤ c) && decide (c ≤ 57)
def isNam (v : V) : Bool := match v with | .str z => decide (1 ≤ z.length) && decide (z.length ≤ 8) && chL (z.cps.toList.getD 0 0) && z.cps.toList.all (fun c => chL c || chD c) | _ => false
theorem mem_low (c : Nat) : decide (c ∈ ("abcdefghijklmnopqrstuvwxyz" : Str).cps.toList) = chL c := by
  have e : ("abcdefghijklmnopqrstuvwxyz" : Str).cps.toList = List.range' 97 26 := by decide +kernel
  rw [e]
  unfold chL
  rw [← Bool.decide_and]
  refine decide_eq_decide.mpr ?_
  rw [List.mem_range'_1]
  omega
theorem mem_dig (c : Nat) : decide (c ∈ ("0123456789" : Str).cps.toList) = chD c := by
  have e : ("0123456789" : Str).cps.toList = List.range' 48 10 := by decide +kernel
  rw [e]
  unfold chD
  rw [← Bool.decide_and]
  refine decide_eq_decide.mpr ?_
  rw [List.mem_range'_1]
  omega
end LC
namespace LC
open PySem L2
theorem pe_ty {X : Cx} {x : Str} {pos : Pos} (n : String) (hg : Gl X x) (hm : X.mg x = none) (hv : bootBuiltins x = some (.type n)) (hn : x ≠ "__name__" := by decide) (hd : (x == ("__debug__" : Str)) = false := by decide) : PE X (.Name x pos) (tC (.ty n)) :=
  pe_bltn hg hm hv rfl hn hd
end LC
namespace LC
open PySem L2
theorem ite_nd {p : Prop} [Decidable p] {A B : Prop} (h1 : ¬ p → A) (h2 : p → B) : if (!decide p) = true then A else B := by
  by_cases h : p
  · rw [decide_eq_true h]
    exact iteF (h2 h)
  · rw [decide_eq_false h]
    exact iteT (h1 h)
theorem ite_nb {c : Bool} {A B : Prop} (h1 : c = false → A) (h2 : c = true → B) : if (!c) = true then A else B := by
  cases c with
  | true => exact iteF (h2 rfl)
  | false => exact iteT (h1 rfl)
theorem ite_is {a b : Bool} {A B : Prop} (e : a = b) (h1 : b = true → A) (h2 : b = false → B) : if a = true then A else B := by
  subst e
  exact ite_b h1 h2
theorem Ok.same {g l : Addr} {H0 H H' : Hp} (a : Ok g l H0 H) (s : Same H H') : Ok g l H0 H' := by
  refine ⟨a.b0, fun b o n e => s _ _ (a.kp b o n e), ?_⟩
  obtain ⟨ns, i, d, t, c, h1, h2, h3, r⟩ := a.bag
  exact ⟨ns, i, d, t, c, s _ _ h1, h2, s _ _ h3, r⟩
theorem Th.same {C g : Addr} {H H' : Hp} {v : V} (t : Th C g H v) (s : Same H H') : Th C g H' v := t.kp fun b o _ e => s b o e
theorem len1 {z : Str} (h : 1 ≤ z.length) : ∃ c, z.cps.toList[0]? = some c ∧ z.cps.toList.getD 0 0 = c := by
  have e : z.cps.toList.length = z.length := rfl
  have h0 : 0 < z.cps.toList.length := by omega
  refine ⟨z.cps.toList[0], List.getElem?_eq_getElem h0, ?_⟩
  rw [List.getD_eq_getElem?_getD, List.getElem?_eq_getElem h0]
  rfl
theorem sz_str {z : Str} (h : z.length ≤ 1000000) : z.length ≤ sizeLine := Nat.le_trans h (by decide)
theorem bls_map {α : Type} (l : List α) (f : α → Bool) : (l.map fun c => V.bl (f c)) = (l.map f).map V.bl := by
  rw [List.map_map]
  rfl
theorem all_id {α : Type} (l : List α) (f : α → Bool) : (l.map f).all id = l.all f := by
  rw [List.all_map]
  rfl
theorem isNam_str (z : Str) : isNam (.str z) = (decide (1 ≤ z.length) && decide (z.length ≤ 8) && chL (z.cps.toList.getD 0 0) && z.cps.toList.all (fun c => chL c || chD c)) := rfl
end LC
namespace LC
open PySem L2
theorem pe_gstr {X : Cx} {x z : Str} {t : Tok} {pos : Pos} (hg : Gl X x) (hm : X.mg x = some (.str z t)) (hd : (x == ("__debug__" : Str)) = false := by decide) : PE X (.Name x pos) (tC (.str z)) := pe_glob hg hm ⟨_, rfl⟩ hd
theorem pe_gint {X : Cx} {x : Str} {z : Int} {t : Tok} {pos : Pos} (hg : Gl X x) (hm : X.mg x = some (.int z t)) (hd : (x == ("__debug__" : Str)) = false := by decide) : PE X (.Name x pos) (tC (.int z)) := pe_glob hg hm ⟨_, rfl⟩ hd
end LC

namespace LC
open PySem L2
/-- ord('a') <= ord(sign) <= ord('z') as an element -/
theorem ord_in {a b : Str} {c i lo hi : Nat} {σ : L2.St} {H : Hp} {Q : VK} {f : Nat → Bool} (h1 : a.length = 1 ∧ a.cps.getD 0 0 = lo) (h2 : b.length = 1 ∧ b.cps.getD 0 0 = hi) (hf : f c = (decide (lo ≤ c) && decide (c ≤ hi))) (hs : σ[i]? = some (some (.str ⟨#[c]⟩))) (q : Q (.bl (f c)) H) :
    tChain (rI0 fun i j => .bl (decide (i ≤ j))) (rI0 fun i j => .bl (decide (i ≤ j))) (tCB (fun xs H Q => ∃ x, xs = [.str x] ∧ x.length = 1 ∧ Q (.int (x.cps.getD 0 0 : Nat)) H) (tCons (tC (.str a)) tNil))
      (tCB (fun xs H Q => ∃ x, xs = [.str x] ∧ x.length = 1 ∧ Q (.int (x.cps.getD 0 0 : Nat)) H) (tCons (tVar i) tNil)) (tCB (fun xs H Q => ∃ x, xs = [.str x] ∧ x.length = 1 ∧ Q (.int (x.cps.getD 0 0 : Nat)) H) (tCons (tC (.str b)) tNil)) σ H Q := by
  refine ⟨a, rfl, h1.1, _, hs, _, rfl, rfl, _, _, rfl, rfl, _, rfl, ?_⟩
  rw [h1.2]
  refine ite_d (fun e1 => ?_) (fun e1 => ?_)
  · refine ⟨b, rfl, h2.1, _, _, rfl, rfl, ?_⟩
    rw [h2.2]
    have e : f c = decide ((c : Int) ≤ (hi : Int)) := by
      rw [hf, decide_eq_true (show lo ≤ c by exact Int.ofNat_le.mp e1), Bool.true_and]
      exact decide_eq_decide.mpr Int.ofNat_le.symm
    rw [e] at q
    exact q
  · have e : f c = false := by
      rw [hf, decide_eq_false (show ¬ lo ≤ c from fun z => e1 (Int.ofNat_le.mpr z)), Bool.false_and]
    rw [e] at q
    exact q
end LC
namespace LC
open PySem L2
/-- a comprehension over range(n) whose element draws: the list's items all in F -/
theorem lc_draws {n : Nat} {j : Nat} {te : TE} {vs : List Nat} {σ : L2.St} {g l : Addr} {H0 H1 : Hp} {D : Addr} {Qd : Hp → Prop} (F : Hp → V → Prop) (R : Ok g l H0 H1) (hD : H1 D = none) (hn : n ≤ 1000000)
    (hw : ∀ x, wipe ((wipe σ vs).set j (some x)) vs = wipe σ vs) (hF : ∀ x H H', F H x → Kp g H H' → F H' x) (hG : ∀ x H xs ys, H D = some (.lst xs) → F H x → F (upd H D (.lst ys)) x)
    (he : ∀ (i : Nat) (H : Hp) (Q : VK), i < n → Ok g l H0 H → (∀ x H', F H' x → Ok g l H H' → Q x H') → te ((wipe σ vs).set j (some (.int (0 + (i : Int))))) H Q)
    (hd : ∀ H xs, Ok g l H0 H → Kp g H1 H → H D = some (.lst xs) → xs.length = n → (∀ x ∈ xs, F H x) → Qd H) :
    ∃ W : Nat → Nat → Hp → Prop, (∃ m, W 0 m (upd H1 D (.lst []))) ∧ ∀ i m H, W i m H →
      ((Itr 0 n).stop i H ∧ Qd H) ∨ ((Itr 0 n).go i H ∧ ∃ Nx : Hp → Prop, (∀ H', Nx H' → ∃ m', m' < m ∧ W (i + 1) m' H') ∧ ∀ x H', (Itr 0 n).yld i H x H' → gName j x (wipe σ vs) H' fun σ2 H2 => wipe σ2 vs = wipe σ vs ∧ tYes σ2 H2 fun b H3 =>
        if b = true then te σ2 H3 fun y H4 => ∃ acc, H4 D = some (.lst acc) ∧ acc.length < sizeLine ∧ Nx (upd H4 D (.lst (acc ++ [y]))) else Nx H3) := by
  have nD := R.bag.ne hD
  refine lc_it walk_range (fun i H => i ≤ n ∧ Ok g l H1 H ∧ ∃ xs, H D = some (.lst xs) ∧ xs.length = i ∧ ∀ x ∈ xs, F H x) ⟨Nat.zero_le _, Ok.new (Ok.refl R.bag) hD, [], upd_same, rfl, fun x hx => by cases hx⟩ (fun _ _ _ _ => trivial) ?_ ?_
  · rintro i x H H' hi ⟨_, r, xs, h1, h2, h3⟩ ⟨rfl, rfl⟩
    refine ⟨hw _, ?_⟩
    refine he i _ _ hi (R.trans r) fun x H2 fx r2 => ?_
    have h4 := r2.kp D _ nD.1 h1
    refine ⟨xs, h4, Nat.lt_of_lt_of_le (by omega : xs.length < 1000000 + 1) (by decide), hi, (r.trans r2).mut hD, xs ++ [x], upd_same, by rw [List.length_append, h2]; rfl, fun y hy => ?_⟩
    refine hG y H2 xs _ h4 ?_
    rcases List.mem_append.mp hy with hy | hy
    · exact hF y _ _ (h3 y hy) r2.kp
    · rw [List.mem_singleton] at hy
      rw [hy]
      exact fx
  · rintro H ⟨_, r, xs, h1, h2, h3⟩
    exact hd H xs (R.trans r) r.kp h1 h2 h3
end LC

namespace LC
open PySem L2
theorem Th.lstmut {C g : Addr} {H : Hp} {D : Addr} {v : V} {xs ys : List V} (h : H D = some (.lst xs)) (t : Th C g H v) : Th C g (upd H D (.lst ys)) v := by
  cases t with
  | non => exact .non
  | bl b => exact .bl b
  | int i => exact .int i
  | str z h => exact .str z h
  | @lst a xs' h' n =>
    by_cases e : a = D
    · subst e
      exact .lst upd_same n
    · exact .lst (by rw [upd_ne e]; exact h') n
  | tup h' n => exact .tup (by rw [upd_ne (ne_of h' h (by intro z; cases z))]; exact h') n
  | dK h' n => exact .dK (by rw [upd_ne (ne_of h' h (by intro z; cases z))]; exact h') n
  | exo h' n hd nd => exact .exo (by rw [upd_ne (ne_of h' h (by intro z; cases z))]; exact h') n (by rw [upd_ne (ne_of hd h (by intro z; cases z))]; exact hd) nd
end LC

namespace LC
open PySem L2
theorem Th.dKmut {C g : Addr} {H : Hp} {D : Addr} {v : V} {xs ys : List (Key × V)} (h : H D = some (.dK xs)) (t : Th C g H v) : Th C g (upd H D (.dK ys)) v := by
  cases t with
  | non => exact .non
  | bl b => exact .bl b
  | int i => exact .int i
  | str z h => exact .str z h
  | @dK a xs' h' n =>
    by_cases e : a = D
    · subst e
      exact .dK upd_same n
    · exact .dK (by rw [upd_ne e]; exact h') n
  | tup h' n => exact .tup (by rw [upd_ne (ne_of h' h (by intro z; cases z))]; exact h') n
  | lst h' n => exact .lst (by rw [upd_ne (ne_of h' h (by intro z; cases z))]; exact h') n
  | exo h' n hd nd => exact .exo (by rw [upd_ne (ne_of h' h (by intro z; cases z))]; exact h') n (by rw [upd_ne (ne_of hd h (by intro z; cases z))]; exact hd) nd
theorem Th.upd {C g l : Addr} {H0 H : Hp} {p : Addr} {o : HO} {v : V} (a : Ok g l H0 H) (h : H p = none) (t : Th C g H v) : Th C g (L2.upd H p o) v := t.kp (upd_kp a h)
theorem Th.dict {C g l : Addr} {H0 H : Hp} {p : Addr} {xs : List (Key × V)} (a : Ok g l H0 H) (h : H p = none) : Th C g (L2.upd H p (.dK xs)) (.ref p) := .dK upd_same (a.bag.ne h).1
end LC

namespace LC
open PySem L2
/-- a dict stands at p -/
def Dd (g : Addr) (H : Hp) (p : Addr) : Prop := p ≠ g ∧ ∃ kvs, H p = some (.dK kvs)
theorem Dd.new {g : Addr} {H : Hp} {p q : Addr} {o : HO} (d : Dd g H p) (h : H q = none) : Dd g (L2.upd H q o) p := by
  obtain ⟨n, kvs, e⟩ := d
  exact ⟨n, kvs, by rw [upd_ne (ne_of_none e h)]; exact e⟩
theorem Dd.dict {g : Addr} {H : Hp} {p q : Addr} {kvs : List (Key × V)} (d : Dd g H p) : Dd g (L2.upd H q (.dK kvs)) p := by
  obtain ⟨n, ks, e⟩ := d
  by_cases h : p = q
  · subst h
    exact ⟨n, kvs, upd_same⟩
  · exact ⟨n, ks, by rw [upd_ne h]; exact e⟩
theorem Dd.mk' {g l : Addr} {H0 H : Hp} {p : Addr} {kvs : List (Key × V)} (a : Ok g l H0 H) (h : H p = none) : Dd g (L2.upd H p (.dK kvs)) p := ⟨(a.bag.ne h).1, kvs, upd_same⟩
theorem Dd.th {C g : Addr} {H : Hp} {p : Addr} (d : Dd g H p) : Th C g H (.ref p) := by
  obtain ⟨n, kvs, e⟩ := d
  exact .dK e n
end LC
namespace LC
open PySem L2
theorem strs_of (z : Str) : ∀ xs : List V, (∀ x ∈ xs, ∃ c ∈ z.cps.toList, x = V.str ⟨#[c]⟩) → ∃ ys : List Str, xs = ys.map V.str ∧ (∀ y ∈ ys, y.length = 1) ∧ ys.length = xs.length
  | [], _ => ⟨[], rfl, (fun y hy => by cases hy), rfl⟩
  | x :: r, h => by
    obtain ⟨ys, e, h1, h2⟩ := strs_of z r fun y hy => h y (List.mem_cons_of_mem _ hy)
    obtain ⟨c, _, rfl⟩ := h x (List.mem_cons_self ..)
    refine ⟨⟨#[c]⟩ :: ys, by rw [e]; rfl, fun y hy => ?_, by rw [List.length_cons, h2]; rfl⟩
    rcases List.mem_cons.mp hy with rfl | hy
    · rfl
    · exact h1 y hy
theorem sum_ones : ∀ ys : List Str, (∀ y ∈ ys, y.length = 1) → (ys.map (·.length)).sum = ys.length
  | [], _ => rfl
  | y :: r, h => by
    have e := sum_ones r fun z hz => h z (List.mem_cons_of_mem _ hz)
    show (y.length :: r.map (·.length)).sum = r.length + 1
    rw [List.sum_cons, e, h y (List.mem_cons_self ..)]
    omega
theorem cutS_le (z : Str) (lo hi : Option Int) : (cutS z lo hi).length ≤ z.length := by
  show (cutS z lo hi).cps.size ≤ z.cps.size
  unfold cutS
  rw [List.size_toArray, List.length_take, List.length_drop, Array.length_toList]
  omega
end LC

namespace LC
open PySem L2
theorem kp_of {g : Addr} {H1 H2 : Hp} {a : Addr} {o : HO} (ha : H1 a = none) (k : ∀ b u, b ≠ a → L2.upd H1 a o b = some u → H2 b = some u) : Kp g H1 H2 := fun b u _ e => k b u (ne_of_none e ha) (by rw [upd_ne (ne_of_none e ha)]; exact e)
theorem log_small {i : Int} (h0 : -1000000 ≤ i) (h1 : i ≤ 1000000) : i.natAbs.log2 < 1920 := Nat.lt_trans (PySem.Flt.log2_lt_of (k := 20) (by decide) (Nat.lt_of_le_of_lt (show i.natAbs ≤ 1000000 by omega) (by decide))) (by decide)
end LC

namespace LC
theorem ite_same {c : Prop} [Decidable c] {A B C : Prop} (h : C) (h1 : C → A) (h2 : C → B) : if c then A else B := by
  by_cases q : c
  · rw [if_pos q]
    exact h1 h
  · rw [if_neg q]
    exact h2 h
theorem ite_nbeq {b : Bool} {A B : Prop} (h : B) : if (!(b == b)) = true then A else B := by
  rw [beq_self_eq_true]
  exact L2.iteF h
end LC

namespace LC
open PySem L2
theorem kit_sub {K : PySem.W.Frag} {C : Addr} {T : String} {b : Bool} (m : PySem.W.kitMeta T = true) (h : PySem.W.subIn K (.ref C) (.type T) = some b) : PySem.W.kitOne K (.ref C) (.type T) = some b := by
  have e : ((Value.ref C : Value) == Value.type T) = false := rfl
  unfold PySem.W.kitOne
  rw [e, if_neg Bool.false_ne_true]
  show (if PySem.W.kitMeta T = true then PySem.W.subIn K (.ref C) (.type T) else none) = some b
  rw [m, if_pos rfl]
  exact h
theorem cls_some {K : PySem.W.Frag} {C : Addr} {nm q : Str} {N : Addr} {bs bm : List Value} {sn : List Str} {sub : List Value} {ab : Bool} {col : Option Bool} {dd : Option Addr} {k0 k1 k2 k3 k5 : Option Value} {nw : String} (h : K.lookup C = some (excClassObj nm q C N bs bm true sn sub ab col dd k0 k1 k2 k3 k5 nw)) : (PySem.W.clsIn K C).isSome = true := by
  unfold PySem.W.clsIn
  rw [h] <;> rfl
theorem refs_ve (S : Addr) : PySem.HandSPX.refsVE [.ref S, .type "ValueError", .type "Exception", .type "BaseException", .type "object"] = true := by
  show PySem.HandSPX.refsVE [.type "ValueError", .type "Exception", .type "BaseException", .type "object"] = true
  decide +kernel
end LC

namespace LS
open PySem L2 NdefX
/-! ### bodies that say super(): run at their own code -/
structure PSAt (X : Cx) (c : Code) (st : Stmt) (t : TS) : Prop where
  run : ∀ (pins : List (Addr × Obj)) (s : Shared) (σ : L2.St) (H : Hp) (D : Ends), Inv X pins σ H s → t D σ H → PySem.wpAt (model X.prog X.w) X.A c (exec st X.env) (SP X pins D) X.xe s
structure PSsAt (X : Cx) (c : Code) (ss : List Stmt) (t : TS) : Prop where
  run : ∀ (pins : List (Addr × Obj)) (s : Shared) (σ : L2.St) (H : Hp) (D : Ends), Inv X pins σ H s → t D σ H → PySem.wpAt (model X.prog X.w) X.A c (execs ss X.env) (SP X pins D) X.xe s
section
variable {X : Cx} {c : Code} {st : Stmt} {rest : List Stmt} {t u : TS}
theorem psa (h : PS X st t) : PSAt X c st t := ⟨fun pins s σ H D I q => PySem.wpAt_of_wpAny (h.run pins s σ H D I q)⟩
theorem pssa (h : PSs X rest t) : PSsAt X c rest t := ⟨fun pins s σ H D I q => PySem.wpAt_of_wpAny (h.run pins s σ H D I q)⟩
theorem pssa_cons (h1 : PSAt X c st t) (h2 : PSsAt X c rest u) : PSsAt X c (st :: rest) (tSeq t u) := by
  refine ⟨fun pins s σ H D I h => ?_⟩
  refine ks_wpAt_execs_cons (PySem.wpAt_mono (h1.run pins s σ H { D with nx := u D } I h) (fun f s1 q => ?_) fun _ _ x => x)
  cases f with
  | next =>
    obtain ⟨σ', H', I', q⟩ := q
    exact h2.run pins s1 σ' H' D I' q
  | ret v => exact q
  | brk => exact q
  | cont => exact q
end
/-- what the written part says of the method f of the class D, which says super(): its def, its code, the cell of its class; the base's method f2 -/
structure SupF (P : Program) (K : PySem.W.Frag) (F : NF) (f D f2 : Addr) (m : Str) : Prop where
  fn : ∃ (oc : Value) (od : Option Addr) (doc pm ct : Value) (osl : Array (Option Value)), K.lookup f = some ⟨oc, od, .func (F.fd doc pm ct), osl⟩
  cd : PySem.W.codeIn K (.ref F.c) F.qual = true
  code : ∃ (oc : Value) (od : Option Addr) (vs : Array Value) (sl : Array (Option Value)) (file : Str) (tf : Tok), K.lookup F.c = some ⟨oc, od, .fields vs, sl⟩ ∧ vs[2]? = some (.str file tf) ∧ ((P.main.file : Str) == file) = true
  cell : ∃ (cc : Addr) (oc : Value) (od : Option Addr) (sl : Array (Option Value)), F.cl = [(("__class__" : Str), cc)] ∧ K.lookup cc = some ⟨oc, od, .cell (some (.ref D)), sl⟩
  cls : ∃ cd, PySem.W.clsIn K D = some cd
  sub : PySem.W.mroIn K D (.ref D) = some true
  sup : PySem.W.ks_superIn K D D m = some (some (.ref f2))
  ty : PySem.W.typeIn K (.ref f2) = some (.type "function")
  op : PySem.W.nsIn K cStatics "thirdparty.any" = some none
  fi : PySem.W.fnIn K f2 = true
  top : (P.main.scope.names.lookup ("super" : Str)).isSome = false
/-- super().m(e, ..): the base's method, its promise sp; self in slot 0 -/
def tSup (D f2 : Addr) (sp : Sp) (ta : TA) : TE := fun σ H Q => ∃ (x dx : Addr) (fs : List (Str × V)), σ[0]? = some (some (.ref x)) ∧ H x = some (.ins D dx fs) ∧
  ∀ q, H q = none → ta σ (upd H q (.met f2 x)) fun vs H1 => H1 q = some (.met f2 x) ∧ sp (.ref x :: vs) H1 Q E0
section
variable {X : Cx} {F : NF} {f D f2 : Addr} {m : Str} {sp : Sp} {k : Nat} {e : Expr} {es : List Expr} {ta : TA} {p0 p1 p2 pos pos' : Pos}
theorem sup_core (S : SupF X.prog X.K F f D f2 m) (hF : X.env.scope = F.scope ∧ X.env.func = some f ∧ X.env.code = .ref F.c ∧ X.env.cells = F.cl) (hmg : X.mg "super" = none) (hat : (m == ("__class__" : Str)) = false)
    (hks : F.scope.names.lookup ("super" : Str) = some .globalImplicit) (hkc : F.scope.names.lookup ("__class__" : Str) = some .free) (hka : F.scope.names.lookup ("self" : Str) = some .local) (hN : X.N[0]? = some ("self" : Str))
    (hp : ∃ ar, (F.params.posonlyargs ++ F.params.args).head? = some ar ∧ ar.arg = "self") {body : List Stmt} {whole : Sem Value} {Q : Value → Shared → Prop}
    {pins : List (Addr × Obj)} {s : Shared} {σ : L2.St} {H : Hp} {x dx : Addr} {fs : List (Str × V)} (I : Inv X pins σ H s) (hs : σ[0]? = some (some (.ref x))) (hx : H x = some (.ins D dx fs))
    (h : ∀ (so : Addr) (s' : Shared), Inv X pins σ H s' → s'.heap.get? so = some { cls := .type "super", dict := none, data := .fields #[.ref D, .ref x, .ref D], slots := #[] } → Q (.ref so) s') :
    PySem.wpAt (model X.prog X.w) X.A (.func body X.env) (attributeBase (.Call (.Name "super" p0) [] [] p1) m X.env whole) Q X.xe s := by
  obtain ⟨hsc, hfu, hco, hce⟩ := hF
  obtain ⟨oc, od, doc, pm, ct, osl, lf⟩ := S.fn
  obtain ⟨occ, occd, vs, ccs, file, tf, lc, hvs, hfile⟩ := S.code
  obtain ⟨cc, cl, cld, csl, ecl, lcell⟩ := S.cell
  obtain ⟨cdD, hD⟩ := S.cls
  obtain ⟨ar, ha1, ha2⟩ := hp
  have KX := I.kIn
  obtain ⟨oD, hD1, hD2⟩ : ∃ oD, s.heap.get? D = some oD ∧ oD.data = .cls cdD := by
    unfold PySem.W.clsIn at hD
    split at hD
    · rename_i c d cd' sl ho
      cases hD
      exact ⟨_, KX _ _ ho, rfl⟩
    · cases hD
  have kks : X.env.kindOf "super" = some .globalImplicit := by
    show X.env.scope.names.lookup ("super" : Str) = _
    rw [hsc]; exact hks
  have kkc : X.env.kindOf "__class__" = some .free := by
    show X.env.scope.names.lookup ("__class__" : Str) = _
    rw [hsc]; exact hkc
  have kka : X.env.kindOf "self" = some .local := by
    show X.env.scope.names.lookup ("self" : Str) = _
    rw [hsc]; exact hka
  obtain ⟨mb, b1, b2⟩ := I.mod.blt
  obtain ⟨mA, O, _, _, _, _⟩ := ins_get I.hok hx
  obtain ⟨odx, J, _⟩ := O.look
  obtain ⟨ml, hns, hl⟩ := I.loc
  have vself : ml "self" = some (.ref x) := by
    obtain ⟨u, ru, lk⟩ := hl 0 "self" (.ref x) hN hs (.inl (by rw [hsc]; exact hka))
    cases ru
    rcases lk with ⟨_, e1⟩ | ⟨z, _⟩
    · exact e1
    · rw [kka] at z
      rcases z with z | z <;> cases z
  refine ks_wpAt_super_base (env := X.env) kks kkc hat hfu (KX _ _ lf) rfl ha1 hco (KX _ _ lc) rfl hvs hfile S.top ?_
  refine PySem.W.ks_loadName_global I.ok.kind kks (Calls.loadGlobal_builtin (by rw [I.ok.glob]; exact I.mod.glob.keeps I.bk) hmg (by rw [I.ok.blt]; exact b1.keeps I.bk) ((b2 "super" (by decide +kernel)).trans (by decide +kernel : bootBuiltins "super" = some (.type "super"))) ⟨rfl, ?_⟩)
  refine wpAny_loadName_free I.ok.kind kkc (by rw [hce, ecl]; rfl) ⟨_, KX _ _ lcell, rfl⟩ ?_
  rw [ha2]
  refine wpAny_loadName_local I.ok.kind kka hns vself ?_
  refine ks_wpAny_isType_cls hD1 hD2 ⟨rfl, ?_⟩
  obtain ⟨hh, g, dr, t, os⟩ := s
  refine ks_wpAny_call_super hD1 hD2 J.at_ J.cls (fun c e => ?_) (PySem.W.looks_mroIn KX S.sub) (fun h' eso kk => ?_)
  · have z := J.no
    unfold PySem.W.notCls at z
    rw [e] at z
    exact Bool.noConfusion z
  exact h _ _ (I.kept (t' := t) kk) eso
theorem sup_facts (S : SupF X.prog X.K F f D f2 m) {pins : List (Addr × Obj)} {s : Shared} {σ : L2.St} {H : Hp} {x dx : Addr} {fs : List (Str × V)} (I : Inv X pins σ H s) (hx : H x = some (.ins D dx fs)) :
    PySem.W.Looks (model X.prog X.w) s.heap (opaqueClassAbove (.ref D)) none ∧ ∃ (l0 : List Value) (of : Obj), PySem.W.Looks (model X.prog X.w) s.heap (mroOf (.ref D)) l0 ∧ PySem.W.alongIn X.K m ((l0.dropWhile (· != .ref D)).drop 1) = some (some (.ref f2)) ∧ s.heap.get? f2 = some of ∧ of.cls = .type "function" ∧ x ≠ D := by
  obtain ⟨cdD, hD⟩ := S.cls
  have KX2 := I.kIn
  have hm := S.sup
  unfold PySem.W.ks_superIn at hm
  rw [hD] at hm
  obtain ⟨of, hof, hofc⟩ : ∃ of, s.heap.get? f2 = some of ∧ of.cls = .type "function" := by
    have ht' : (X.K.lookup f2).map (·.cls) = some (.type "function") := S.ty
    cases z : X.K.lookup f2 with
    | none => rw [z] at ht'; cases ht'
    | some of => rw [z] at ht'; exact ⟨of, KX2 _ _ z, Option.some.inj ht'⟩
  obtain ⟨mA, O, _, _, _, _⟩ := ins_get I.hok hx
  obtain ⟨odx, J, _⟩ := O.look
  exact ⟨PySem.W.looks_opaque KX2 S.op, cdD.mro, of, fun A Q E s k q => wpAny_bind ((PySem.W.looks_clsIn KX2 hD) A _ E s k (wpAny_pure q)), hm, hof, hofc, PySem.W.ks_ne KX2 J hD⟩
theorem sup_meth (S : SupF X.prog X.K F f D f2 m) (hat : (m == ("__class__" : Str)) = false) {pl : Sem Bool} {Q : Value × List Value → Shared → Prop}
    {pins : List (Addr × Obj)} {s : Shared} {σ : L2.St} {H : Hp} {x dx so : Addr} {fs : List (Str × V)} (I : Inv X pins σ H s) (hx : H x = some (.ins D dx fs))
    (eso : s.heap.get? so = some { cls := .type "super", dict := none, data := .fields #[.ref D, .ref x, .ref D], slots := #[] })
    (h : ∀ (q : Addr) (s' : Shared), H q = none → Inv X pins σ (upd H q (.met f2 x)) s' → Q (.ref q, []) s') : wpAny (model X.prog X.w) X.A (getMethod (.ref so) m pl) Q X.xe s := by
  obtain ⟨h1, l0, of, h2, hm, hof, hofc, hne⟩ := sup_facts S I hx
  have KX := I.kIn
  obtain ⟨h', g, dr, t, os⟩ := s
  refine ks_wpAny_getMethod_super eso h1 h2 rfl KX hm hof hofc hne hat ?_
  refine h h'.objs.size _ (I.hok.fresh (Nat.le_refl _)) ?_
  exact I.laid (t' := t + 1) (a := h'.objs.size) (o := .met f2 x) (fun b u z => Heap.get?_push_of_some _ z) (Nat.le_refl _)
    (show (h'.push (PySem.W.methodObj (.ref f2) (.ref x))).get? h'.objs.size = some (PySem.W.methodObj (.ref f2) (.ref x)) from Heap.get?_push_size h' rfl)
theorem getAttr_super {prog : Program} {w : World} {A : Around} {E : Value → Shared → Prop} {h : Heap} {g : Array GenState} {d : Drawn} {t : Nat} {os : OsState} {so D x C f : Addr} {of : Obj} {l₀ l : List Value} {K : PySem.W.Frag} {name : Str} {b : Bool} {Q : Value → Shared → Prop}
    (hso : h.get? so = some { cls := .type "super", dict := none, data := .fields #[.ref D, .ref x, .ref C], slots := #[] }) (hno : PySem.W.Looks (model prog w) h (opaqueClassAbove (.ref C)) none)
    (hC : PySem.W.Looks (model prog w) h (mroOf (.ref C)) l₀) (hl : (l₀.dropWhile (· != .ref D)).drop 1 = l) (X : K.In h)
    (hf : PySem.W.alongIn K name l = some (some (.ref f))) (hfo : h.get? f = some of) (hfc : of.cls = .type "function") (hxC : x ≠ C) (hn : (name == ("__class__" : Str)) = false)
    (hq : Q (.ref h.objs.size) ⟨h.push { cls := .type "method", data := .fields #[.ref f, .ref x] }, g, d, t + 1, os⟩) :
    wpAny (model prog w) A (getAttr (.ref so) name b) Q E ⟨h, g, d, t, os⟩ := by
  have hlk := F.ks_slot_super_ga.lookup
  have hT : ∀ t', (⟨h, g, d, t', os⟩ : Shared).TypeIs (.ref so) "super" := fun _ => ⟨_, hso, rfl⟩
  unfold getAttr getAttrBy
  refine wpAny_bind (wpAny_mkText (wpAny_holding (wpAny_bind (wpAny_typeOf (hT _) (wpAny_bind (wpAny_of_eq hlk ?_))))))
  show wpAny _ _ (getAttrByItsOwn (.ref so) (.str name t) (.type "super") (.builtin "super.__getattribute__") true b) _ _ _
  unfold getAttrByItsOwn hookBefore callGetattribute boundAndCalled
  refine wpAny_bind (wpAny_of_eq (show (if onTheHeap (.type "super") then typeLookup (.type "super") "__getattr__" else pure none) = pure none from rfl) ?_)
  refine wpAny_bind (wpAny_attempt (wpAny_holding ?_))
  have e0 : (b && onTheHeap (Value.builtin "super.__getattribute__")) = false := by cases b <;> rfl
  rw [e0, if_neg Bool.false_ne_true]
  refine wpAny_bind (wpAny_of_eq (F.ks_slot_super_ga.bind _) ?_)
  refine wpAny_mono (Q := fun v s' => v = .ref h.objs.size ∧ s' = ⟨h.push { cls := .type "method", data := .fields #[.ref f, .ref x] }, g, d, t + 1, os⟩) (E := fun _ _ => False)
    (wpAny_call_entry F.ks_slot_super_ga (hT _) F.ks_entry_super_ga (ks_wpAny_super_ga hso hno hC hl X hf hfo hfc hxC hn ⟨_, rfl, rfl, rfl⟩) (F.ks_gaArgs_super _ _)) (fun v s' hv => ?_) fun _ _ z => z.elim
  obtain ⟨rfl, rfl⟩ := hv
  exact wpAny_pure hq
/-- super().m(e, ..) as a statement -/
theorem ps_sup (S : SupF X.prog X.K F f D f2 m) (hF : X.env.scope = F.scope ∧ X.env.func = some f ∧ X.env.code = .ref F.c ∧ X.env.cells = F.cl) (hmg : X.mg "super" = none) (F2 : FnR X.prog X.w X.K X.mg X.base CX0 k f2 sp) (hr : Room k X.A) (ha : PA X (e :: es) ta)
    (hp : ∃ ar, (F.params.posonlyargs ++ F.params.args).head? = some ar ∧ ar.arg = "self") (hat : (m == ("__class__" : Str)) = false := by decide)
    (hks : F.scope.names.lookup ("super" : Str) = some .globalImplicit := by rfl) (hkc : F.scope.names.lookup ("__class__" : Str) = some .free := by rfl) (hka : F.scope.names.lookup ("self" : Str) = some .local := by rfl) (hN : X.N[0]? = some ("self" : Str) := by rfl)
    {pl : Sem Bool} (he : eval (.Call (.Attribute (.Call (.Name "super" p0) [] [] p1) m p2) (e :: es) [] pos) X.env = (do
      let ov ← attributeBase (.Call (.Name "super" p0) [] [] p1) m X.env (eval (.Call (.Name "super" p0) [] [] p1) X.env)
      standAt p2.atName
      let (f, first) ← holding [ov] (getMethod ov m pl)
      callWith pos f first (backTo pos (starEach (e :: es) X.env)) []) := by rfl)
    (hst : starEach (e :: es) X.env = (false, eval e X.env) :: starEach es X.env := by rfl) (hpl : (backTo pos (starEach es X.env)).any (·.1) = false := by rfl)
    (hsw : swapsWith (.Call (.Attribute (.Call (.Name "super" p0) [] [] p1) m p2) (e :: es) [] pos) none pos'.line X.env = pure false := by rfl) :
    PSAt X (.func F.body X.env) (.Expr (.Call (.Attribute (.Call (.Name "super" p0) [] [] p1) m p2) (e :: es) [] pos) pos') (tDrop (tSup D f2 sp ta)) := by
  refine ⟨fun pins s σ H Dn I h => ?_⟩
  obtain ⟨x, dx, fs, hs, hx, q⟩ := h
  refine ks_wpAt_Expr_any (ks_wpAt_MethodCall (pl := pl) (sup_core S hF hmg hat hks hkc hka hN hp I hs hx fun so s0 I0 eso => sup_meth S hat I0 hx eso fun q1 s1 hq1 I1 => ?_) he) I.quiet hsw
  refine callwith_met (a := x) (by rw [hst]; show ((false || (backTo pos (starEach es X.env)).any (·.1)) || false) = false; rw [hpl]; rfl) S.fi ?_
  have hrun := ha.run pos pins s1 σ _ _ I1 (q q1 hq1)
  rw [hst] at hrun ⊢
  refine Calls.evalArgs_plain (thn hrun fun us s2 ⟨vs, H2, I2, rv, hm2, q2⟩ => ?_)
  refine ⟨met_P I2 hm2, ?_⟩
  refine wpAny_call (PySem.W.method_call (met_P I2 hm2).1 (codeAny_mono (run_fnR (us := .ref x :: us) (vs := .ref x :: vs) F2 hr pass0 I2 (.cons rfl rv) q2) fun r s' hr' => ?_))
  cases r with
  | error e => exact hr'
  | ok fl =>
    cases fl with
    | ret u =>
      obtain ⟨v, H', I', _, q'⟩ := hr'
      exact ⟨σ, H', I', q'⟩
    | next => exact hr'
    | brk => exact hr'
    | cont => exact hr'
end
/-- super().m(*e), e a tuple or a list -/
def tSupS (K : PySem.W.Frag) (D f2 : Addr) (sp : Sp) (te : TE) : TE := fun σ H Q => ∃ (x dx : Addr) (fs : List (Str × V)), σ[0]? = some (some (.ref x)) ∧ H x = some (.ins D dx fs) ∧
  ∀ q, H q = none → te σ (upd H q (.met f2 x)) fun y H1 => ∃ b vs, y = .ref b ∧ (SqT K H1 b vs ∨ SqL K H1 b vs) ∧ H1 q = some (.met f2 x) ∧ sp (.ref x :: vs) H1 Q E0
section
variable {X : Cx} {F : NF} {f D f2 : Addr} {m : Str} {sp : Sp} {k : Nat} {e : Expr} {te : TE} {p p0 p1 p2 pos pos' : Pos}
theorem ps_supS (S : SupF X.prog X.K F f D f2 m) (hF : X.env.scope = F.scope ∧ X.env.func = some f ∧ X.env.code = .ref F.c ∧ X.env.cells = F.cl) (hmg : X.mg "super" = none) (F2 : FnR X.prog X.w X.K X.mg X.base CX0 k f2 sp) (hr : Room k X.A) (ha : PE X e te)
    (hp : ∃ ar, (F.params.posonlyargs ++ F.params.args).head? = some ar ∧ ar.arg = "self") (hat : (m == ("__class__" : Str)) = false := by decide)
    (hks : F.scope.names.lookup ("super" : Str) = some .globalImplicit := by rfl) (hkc : F.scope.names.lookup ("__class__" : Str) = some .free := by rfl) (hka : F.scope.names.lookup ("self" : Str) = some .local := by rfl) (hN : X.N[0]? = some ("self" : Str) := by rfl)
    (hsw : swapsWith (.Call (.Attribute (.Call (.Name "super" p0) [] [] p1) m p2) [.Starred e p] [] pos) none pos'.line X.env = pure false := by rfl) :
    PSAt X (.func F.body X.env) (.Expr (.Call (.Attribute (.Call (.Name "super" p0) [] [] p1) m p2) [.Starred e p] [] pos) pos') (tDrop (tSupS X.K D f2 sp te)) := by
  refine ⟨fun pins s σ H Dn I h => ?_⟩
  obtain ⟨x, dx, fs, hs, hx, q⟩ := h
  have hse : starEach [.Starred e p] X.env = [(true, eval e X.env)] := rfl
  have hke : backToKw pos (keywordEach [] X.env) = [] := rfl
  have hform : methodCallForm ([Expr.Starred e p].length + ([] : List Keyword).length) (backTo pos [(true, eval e X.env)]) [] = false := rfl
  have hpos : methodCallPos false (.Call (.Name "super" p0) [] [] p1) X.env p2 pos = pure pos := rfl
  have hcal : ∀ ov, calleeOf false (.Call (.Name "super" p0) [] [] p1) X.env ov m = (getAttr ov m true >>= fun v => pure (v, [])) := fun _ => rfl
  refine ks_wpAt_Expr_any ?_ I.quiet hsw
  rw [arm_eval_Call, hse, hke]
  refine PySem.wpAt_bind (sup_core S hF hmg hat hks hkc hka hN hp I hs hx fun so s0 I0 eso => ?_)
  refine PySem.wpAt_of_wpAny ?_
  refine wpAny_bind (wpAny_standAt ?_)
  unfold methodCall
  rw [hform, hpos, hcal]
  obtain ⟨h1, l0, of, h2, hm, hof, hofc, hne⟩ := sup_facts S I0 hx
  have KX := I0.kIn
  obtain ⟨h', g, dr, t, os⟩ := s0
  refine wpAny_bind (wpAny_holding (wpAny_bind (getAttr_super eso h1 h2 rfl KX hm hof hofc hne hat (wpAny_pure ?_))))
  have hq1 := I0.hok.fresh (Nat.le_refl _)
  have I1 : Inv X pins σ (upd H h'.objs.size (.met f2 x)) ⟨h'.push (PySem.W.methodObj (.ref f2) (.ref x)), g, dr, t + 1, os⟩ :=
    I0.laid (t' := t + 1) (a := h'.objs.size) (o := .met f2 x) (fun b u z => Heap.get?_push_of_some _ z) (Nat.le_refl _)
      (show (h'.push (PySem.W.methodObj (.ref f2) (.ref x))).get? h'.objs.size = some (PySem.W.methodObj (.ref f2) (.ref x)) from Heap.get?_push_size h' rfl)
  refine wpAny_bind (wpAny_pure ?_)
  refine PySem.W.ks_call (P := PySem.W.MethP X.K h'.objs.size f2 (.ref x)) rfl (PySem.W.keeps_M S.fi) (PySem.W.ks_lone ?_)
  refine thn (ha.run pins _ σ _ _ I1 (q _ hq1)) fun v s3 ⟨y, H2, I3, ry, b, vs, ey, ht, hm2, hsp⟩ => ?_
  subst ey
  obtain rfl : v = Value.ref b := ry
  refine StX.star_any I3 ht fun us s4 I4 rv => ⟨met_P I4 hm2, ?_⟩
  refine wpAny_call (PySem.W.method_call (met_P I4 hm2).1 (codeAny_mono (run_fnR (us := .ref x :: us) (vs := .ref x :: vs) F2 hr pass0 I4 (.cons rfl rv) hsp) fun r s' hr' => ?_))
  cases r with
  | error e => exact hr'
  | ok fl =>
    cases fl with
    | ret u =>
      obtain ⟨v, H', I', _, q'⟩ := hr'
      exact ⟨σ, H', I', q'⟩
    | next => exact hr'
    | brk => exact hr'
    | cont => exact hr'
end
section
variable {P : Program} {w : World} {K : PySem.W.Frag} {mg : Str → Option Value} {base : Heap} {F : NF} {f D f2 : Addr} {m : Str} {N ps : List Str} {sp : Sp} {k : Nat}
theorem cell_at (U : SupF P K F f D f2 m) {A : Around} {outer : List Env} {s : Shared} {H : Hp} (e0 : Env0 P w K mg base A outer s H) : CellsAt F.cl [("__class__" : Str)] [some (.ref D)] s.heap H := by
  obtain ⟨cc, oc, od, sl, ecl, lc⟩ := U.cell
  obtain ⟨h1, h2⟩ := e0.bs cc _ (e0.mod.kin _ _ lc)
  have one : ∀ y c, F.cl.lookup y = some c → y = ("__class__" : Str) ∧ c = cc := fun y c e => by
    rw [ecl] at e
    by_cases q : y = ("__class__" : Str)
    · subst q
      have z : ([(("__class__" : Str), cc)] : List (Str × Addr)).lookup ("__class__" : Str) = some cc := by simp [List.lookup]
      rw [z] at e
      exact ⟨rfl, (Option.some.inj e).symm⟩
    · have z : (y == ("__class__" : Str)) = false := by simpa using q
      simp [List.lookup, z] at e
  refine ⟨rfl, fun y c e => ?_, fun x y c e1 e2 => (one x c e1).1.trans (one y c e2).1.symm, fun i y hi => ?_⟩
  · obtain ⟨rfl, rfl⟩ := one y c e
    exact ⟨h2, _, _, h1, rfl⟩
  · match i, hi with
    | 0, hi =>
      cases hi
      refine ⟨cc, by rw [ecl]; simp [List.lookup], fun v hv => ?_⟩
      cases hv
      exact ⟨_, rfl, _, h1, rfl⟩
    | i + 1, hi => simp at hi
/-- THE RULE for a method that says super() -/
theorem fnS_of (S : NScope N ps ["__class__"] F.scope) (U : SupF P K F f D f2 m) {doc pm ct oc : Value} {od : Option Addr} {osl : Array (Option Value)} (lf : K.lookup f = some ⟨oc, od, .func (F.fd doc pm ct), osl⟩) (len : ∀ vs H Q E, sp vs H Q E → vs.length = ps.length)
    (hbody : ∀ (A : Around) (outer : List Env) (s : Shared) (H : Hp) (vs : List V) (Q : VK) (E : XK), Room k (A.deeper (envF F f s.heap.objs.size)) → sp vs H Q E →
      ∃ t, PSsAt (ncx CX0 P w K mg base N F f A outer s H E) (.func F.body (ncx CX0 P w K mg base N F f A outer s H E).env) F.body t ∧ t { nx := fun _ H' => Q .non H', rt := Q } (startF N vs [some (.ref D)]) H) :
    FnOk P w K mg base CX0 (k + 1) f (F.fd doc pm ct) ps sp := by
  refine ⟨len, fun A outer s H args us vs Q E hr e0 hb r hsp => ?_⟩
  have hl := len _ _ _ _ hsp
  have KX : K.In s.heap := e0.mod.kin.keeps fun b o e => (e0.bs b o e).1
  have lim : s.heap.NoLimit := e0.mod.nolimit.keeps fun b o e => (e0.bs b o e).1
  have hloc : ∀ x ∈ ps.zip us, F.scope.names.lookup x.1 = some .local := fun ⟨n, v⟩ hy => S.par n (List.of_mem_zip hy).1
  refine ks_codeAny_call_defAt (fd := F.fd doc pm ct) (body := F.body) (binds := ps.zip us) hr.depth (KX _ _ lf) rfl lim (PySem.W.codeRec_of KX U.cd) rfl hb S.nocell hloc (fun h₁ hns kp => ?_) S.co S.gen S.kind
  obtain ⟨t, ht, hq⟩ := hbody A outer s H vs Q E (hr.deeper _) hsp
  have I : Inv (ncx CX0 P w K mg base N F f A outer s H E) [] (startF N vs [some (.ref D)]) H { s with heap := h₁, toks := s.toks + (ps.zip us).length } := inv_startN S hr.hd e0 hl r (cell_at U e0) hns kp
  refine PySem.wpAt_mono (ht.run [] _ (startF N vs [some (.ref D)]) H _ I hq) (fun fl s' hs => ?_) fun e s' hs => hs
  have fin : ∀ {σ' : L2.St} {H' : Hp} {v : V} {u : Value}, Inv (ncx CX0 P w K mg base N F f A outer s H E) [] σ' H' s' → L2.RelV v u → Q v H' → CE outer P w H s Q u s' :=
    fun {σ' H' v u} J rv q => ⟨v, H', J.os, J.bare, J.base, J.hok, rv, q⟩
  cases fl with
  | ret u =>
    obtain ⟨v, σ', H', J, rv, q⟩ := hs
    exact fin J rv q
  | next =>
    obtain ⟨σ', H', J, q⟩ := hs
    exact fin (v := V.non) (u := Value.none) J rfl q
  | brk =>
    obtain ⟨_, _, _, q⟩ := hs
    exact False.elim q
  | cont =>
    obtain ⟨_, _, _, q⟩ := hs
    exact False.elim q
end
/-! ### calls whose class is known at the run alone -/
section
variable {X : Cx} {k : Nat} {fe e o : Expr} {es : List Expr} {tf ta : TE} {t : TA} {pos apos : Pos} {m : Str} {f : Addr} {sp : Sp}
def tCallD (X : Cx) (k : Nat) (tf : TE) (t : TA) : TE := fun σ H Q => tf σ H fun y H1 => ∃ a, y = V.ref a ∧ t σ H1 fun vs H2 => ∃ (C g : Addr) (sp : Sp), StX.CallO X.K C g ∧ FnR X.prog X.w X.K X.mg X.base CX0 k g sp ∧ (∃ dx fs, H2 a = some (.ins C dx fs)) ∧ sp (V.ref a :: vs) H2 Q E0
theorem pe_callD (hf : PE X fe tf) (hr : Room k X.A) (ha : PA X (e :: es) t)
    (ht : eval (.Call fe (e :: es) [] pos) X.env = (do callWith pos (← eval fe X.env) [] (backTo pos (starEach (e :: es) X.env)) (backToKw pos (keywordEach [] X.env))) := by rfl)
    (he : starEach (e :: es) X.env = (false, eval e X.env) :: starEach es X.env := by rfl) (hpl : (backTo pos (starEach es X.env)).any (·.1) = false := by rfl) : PE X (.Call fe (e :: es) [] pos) (tCallD X k tf t) := by
  refine ⟨fun pins s σ H Q I h => ?_⟩
  refine PyProof.Rows.Call_ (thn (hf.run pins s σ H _ I h) fun u s1 ⟨y, H1, I1, ry, a, ey, q⟩ => ?_) ht
  subst ey
  obtain rfl : u = Value.ref a := ry
  refine StX.callO_with (thn (ha.run pos pins s1 σ H1 _ I1 q) fun us s2 ⟨vs, H2, I2, r, C, g, sp, c, F, hi, q2⟩ => ?_) he hpl
  obtain ⟨ox, od, J, hd⟩ := StX.insC_at (X := X) I2 (.inr hi)
  exact ⟨⟨C, ox, od, J, hd⟩, StX.run_callO c F hr pass0 I2 (.inr hi) r q2⟩
def tMethD (K : PySem.W.Frag) (m : Str) (f : Addr) (sp : Sp) (ta : TE) (t : TA) : TE := fun σ H Q => ta σ H fun x H1 => ∃ a C dx fs, x = .ref a ∧ H1 a = some (.ins C dx fs) ∧ Cls K C ∧ Meth K C m f ∧ fs.lookup m = none ∧ t σ H1 fun vs H2 => sp (x :: vs) H2 Q E0
theorem pe_methD {pl : Sem Bool} (he : PE X o ta) (hk : PySem.W.keepIn X.K (.ref f) = true) (F : FnR X.prog X.w X.K X.mg X.base CX0 k f sp) (hr : Room k X.A) (ha : PA X (e :: es) t)
    (hst : starEach (e :: es) X.env = (false, eval e X.env) :: starEach es X.env := by rfl) (hpl : (backTo pos (starEach es X.env)).any (·.1) = false := by rfl)
    (ht : eval (.Call (.Attribute o m apos) (e :: es) [] pos) X.env = (do
      let ov ← eval o X.env
      standAt apos.atName
      let (f, first) ← holding [ov] (getMethod ov m pl)
      callWith pos f first (backTo pos (starEach (e :: es) X.env)) (backToKw pos (keywordEach [] X.env))) := by rfl) :
    PE X (.Call (.Attribute o m apos) (e :: es) [] pos) (tMethD X.K m f sp ta t) := by
  refine ⟨fun pins s σ H Q I h => ?_⟩
  refine PySem.W.methodCall_KW (pl := pl) (thn (he.run pins s σ H _ I h) fun u s1 ⟨x, H1, I1, rx, a, C, dx, fs, ex, ea, c, hm, l, q⟩ => ?_) ht
  subst ex
  obtain rfl : u = Value.ref a := rx
  refine getmeth_ok I1 ea c hm l ?_
  refine PySem.W.callWith_K (first := [.ref a]) (h₀ := X.base) I.ok.mod.kin hk (thn (ha.run pos pins s1 σ H1 _ I1 q) fun us s2 ⟨vs, H2, I2, r, q2⟩ => ⟨I2.kIn, ?_⟩) hst hpl
  exact wpAny_call (codeAny_mono (run_fnR (us := .ref a :: us) (vs := .ref a :: vs) F hr pass0 I2 (.cons rfl r) q2) fun r s' h => h)
theorem pe_methD0 {pl : Sem Bool} (he : PE X o ta) (hk : PySem.W.keepIn X.K (.ref f) = true) (F : FnR X.prog X.w X.K X.mg X.base CX0 k f sp) (hr : Room k X.A)
    (ht : eval (.Call (.Attribute o m apos) [] [] pos) X.env = (do
      let ov ← eval o X.env
      standAt apos.atName
      let (f, first) ← holding [ov] (getMethod ov m pl)
      callWith pos f first (backTo pos (starEach [] X.env)) (backToKw pos (keywordEach [] X.env))) := by rfl) :
    PE X (.Call (.Attribute o m apos) [] [] pos) (tMethD X.K m f sp ta tNil) := by
  refine ⟨fun pins s σ H Q I h => ?_⟩
  refine PySem.W.methodCall_KW (pl := pl) (thn (he.run pins s σ H _ I h) fun u s1 ⟨x, H1, I1, rx, a, C, dx, fs, ex, ea, c, hm, l, q⟩ => ?_) ht
  subst ex
  obtain rfl : u = Value.ref a := rx
  refine getmeth_ok I1 ea c hm l ?_
  refine PySem.W.callWith_K0 (first := [.ref a]) I1.kIn hk ?_
  exact wpAny_call (codeAny_mono (run_fnR (us := [.ref a]) (vs := [.ref a]) F hr pass0 I1 (.cons rfl .nil) q) fun r s' h => h)
/-- o.m(e, ..), m a field of the instance that holds an instance of a class that may be called -/
def tCallFD (X : Cx) (k : Nat) (m : Str) (to : TE) (t : TA) : TE := fun σ H Q => to σ H fun x H1 => ∃ (b D dx : Addr) (fs : List (Str × V)) (a : Addr), x = V.ref b ∧ H1 b = some (.ins D dx fs) ∧ Cls X.K D ∧ NoAttr X.K D m ∧ fs.lookup m = some (.ref a) ∧
  t σ H1 fun vs H2 => ∃ (C g : Addr) (sp : Sp), StX.CallO X.K C g ∧ FnR X.prog X.w X.K X.mg X.base CX0 k g sp ∧ (∃ dx fs, H2 a = some (.ins C dx fs)) ∧ sp (V.ref a :: vs) H2 Q E0
theorem pe_callFD {pl : Sem Bool} (ho : PE X o ta) (hr : Room k X.A) (ha : PA X (e :: es) t)
    (ht : eval (.Call (.Attribute o m apos) (e :: es) [] pos) X.env = (do
      let ov ← eval o X.env
      standAt apos.atName
      let (f, first) ← holding [ov] (getMethod ov m pl)
      callWith pos f first (backTo pos (starEach (e :: es) X.env)) (backToKw pos (keywordEach [] X.env))) := by rfl)
    (he : starEach (e :: es) X.env = (false, eval e X.env) :: starEach es X.env := by rfl) (hpl : (backTo pos (starEach es X.env)).any (·.1) = false := by rfl) : PE X (.Call (.Attribute o m apos) (e :: es) [] pos) (tCallFD X k m ta t) := by
  refine ⟨fun pins s σ H Q I h => ?_⟩
  refine PySem.W.methodCall_KW (pl := pl) (thn (ho.run pins s σ H _ I h) fun u s1 ⟨x, H1, I1, rx, b, D, dx, fs, a, ex, eb, c, n, l, q⟩ => ?_) ht
  subst ex
  obtain rfl : u = Value.ref b := rx
  refine getmeth_fld I1 eb c n l fun v s2 I2 rv => ?_
  obtain rfl : v = Value.ref a := rv
  refine StX.callO_with (thn (ha.run pos pins s2 σ H1 _ I2 q) fun us s3 ⟨vs, H2, I3, r, C, g, sp, c, F, hi, q2⟩ => ?_) he hpl
  obtain ⟨ox, od, J, hd⟩ := StX.insC_at (X := X) I3 (.inr hi)
  exact ⟨⟨C, ox, od, J, hd⟩, StX.run_callO c F hr pass0 I3 (.inr hi) r q2⟩
end
theorem cls_of {K : PySem.W.Frag} {C : Addr} {oc : Value} {od : Option Addr} {cd : ClassData} {sl : Array (Option Value)} (h : K.lookup C = some ⟨oc, od, .cls cd, sl⟩) : PySem.W.clsIn K C = some cd := by
  unfold PySem.W.clsIn
  rw [h]
theorem kit_own {K : PySem.W.Frag} {C R : Addr} {oc : Value} {od : Option Addr} {cd : ClassData} {sl : Array (Option Value)} (x : K.lookup R = some ⟨oc, od, .cls cd, sl⟩) (t : PySem.W.typeIn K (.ref R) = some (.type "type")) (h : PySem.W.subIn K (.ref C) (.ref R) = some true) : PySem.W.kitOne K (.ref C) (.ref R) = some true := by
  unfold PySem.W.kitOne
  by_cases q : ((Value.ref C : Value) == Value.ref R) = true
  · rw [if_pos q]
  · rw [if_neg q]
    show (if ((PySem.W.clsIn K R).isSome && PySem.W.typeIn K (.ref R) == some (.type "type")) = true then PySem.W.subIn K (.ref C) (.ref R) else none) = some true
    rw [cls_of x, t, if_pos (by simp)]
    exact h
theorem sup_of {K : PySem.W.Frag} {C R f : Addr} {oc oc2 : Value} {od od2 : Option Addr} {cd cd2 : ClassData} {sl sl2 : Array (Option Value)} {m : Str} (h : K.lookup C = some ⟨oc, od, .cls cd, sl⟩) (e : (cd.mro.dropWhile (· != .ref C)).drop 1 = cd2.mro) (h2 : K.lookup R = some ⟨oc2, od2, .cls cd2, sl2⟩)
    (hf : PySem.W.findIn K (.ref R) m = some (some (.ref f))) : PySem.W.ks_superIn K C C m = some (some (.ref f)) := by
  unfold PySem.W.ks_superIn
  rw [cls_of h]
  show PySem.W.alongIn K m ((cd.mro.dropWhile (· != .ref C)).drop 1) = _
  rw [e]
  have hf' : (match K.lookup R with | some ⟨_, _, .cls cd, _⟩ => PySem.W.alongIn K m cd.mro | _ => none) = some (some (.ref f)) := hf
  rw [h2] at hf'
  exact hf'
end LS

namespace RM
/-- the plan of a rest -/
inductive Pl where
  | win (w : Int)
  | days (bs : List Int) (e : Int)
  | lat (p q : Pl)
  | soo (p q : Pl)
  | nex (p q : Pl)
def lastOf (bs : List Int) : Int := bs.getLastD 0
def dayAt (bs : List Int) (e t : Int) : Int := match bs.find? (fun b => decide (b > t)) with
  | some b => b
  | none => lastOf bs + ((t - lastOf bs) / e + 1) * e
def Pl.at : Pl → Int → Int
  | .win w, t => t + w
  | .days bs e, t => dayAt bs e t
  | .lat p q, t => if q.at t > p.at t then q.at t else p.at t
  | .soo p q, t => if q.at t < p.at t then q.at t else p.at t
  | .nex p q, t => q.at (p.at t)
def Pl.leaves : Pl → Nat
  | .win _ => 1
  | .days _ _ => 1
  | .lat p q => p.leaves + q.leaves
  | .soo p q => p.leaves + q.leaves
  | .nex p q => p.leaves + q.leaves
def Pl.forms : Pl → Int
  | .win _ => 1
  | .days _ _ => 1
  | .lat p q => 1 + p.forms + q.forms
  | .soo p q => 1 + p.forms + q.forms
  | .nex p q => 1 + p.forms + q.forms
def lcmI (a b : Int) : Int := ((a.natAbs.lcm b.natAbs : Nat) : Int)
def Pl.per : Pl → Int
  | .win _ => 1
  | .days _ e => e
  | .lat p q => lcmI p.per q.per
  | .soo p q => lcmI p.per q.per
  | .nex p q => lcmI p.per q.per
def maxI (a b : Int) : Int := if b > a then b else a
def Pl.bend : Pl → Int
  | .win _ => 0
  | .days bs _ => lastOf bs
  | .lat p q => maxI p.bend q.bend
  | .soo p q => maxI p.bend q.bend
  | .nex p q => maxI p.bend q.bend
def Pl.h : Pl → Nat
  | .win _ => 0
  | .days _ _ => 0
  | .lat p q => 1 + max p.h q.h
  | .soo p q => 1 + max p.h q.h
  | .nex p q => 1 + max p.h q.h
/-- borders that rise from n on -/
def Asc : Int → List Int → Prop
  | _, [] => True
  | n, b :: r => n ≤ b ∧ b ≤ 1000 ∧ Asc (b + 1) r
def Pl.ok (L : Nat) : Pl → Prop
  | .win w => 1 ≤ w ∧ w ≤ 1000
  | .days bs e => 1 ≤ e ∧ e ≤ 2000 ∧ e.natAbs ∣ L ∧ bs.length ≤ 12 ∧ Asc 1 bs
  | .lat p q => p.ok L ∧ q.ok L
  | .soo p q => p.ok L ∧ q.ok L
  | .nex p q => p.ok L ∧ q.ok L
theorem Pl.leaves_pos : ∀ p : Pl, 1 ≤ p.leaves
  | .win _ => Nat.le_refl _
  | .days _ _ => Nat.le_refl _
  | .lat p q => Nat.le_trans p.leaves_pos (Nat.le_add_right _ _)
  | .soo p q => Nat.le_trans p.leaves_pos (Nat.le_add_right _ _)
  | .nex p q => Nat.le_trans p.leaves_pos (Nat.le_add_right _ _)
theorem Pl.h_lt : ∀ p : Pl, p.h + 1 ≤ p.leaves
  | .win _ => Nat.le_refl _
  | .days _ _ => Nat.le_refl _
  | .lat p q => by have := p.h_lt; have := q.h_lt; simp only [Pl.h, Pl.leaves]; omega
  | .soo p q => by have := p.h_lt; have := q.h_lt; simp only [Pl.h, Pl.leaves]; omega
  | .nex p q => by have := p.h_lt; have := q.h_lt; simp only [Pl.h, Pl.leaves]; omega
theorem Pl.forms_eq : ∀ p : Pl, p.forms = 2 * p.leaves - 1
  | .win _ => rfl
  | .days _ _ => rfl
  | .lat p q => by have := p.forms_eq; have := q.forms_eq; simp only [Pl.forms, Pl.leaves]; omega
  | .soo p q => by have := p.forms_eq; have := q.forms_eq; simp only [Pl.forms, Pl.leaves]; omega
  | .nex p q => by have := p.forms_eq; have := q.forms_eq; simp only [Pl.forms, Pl.leaves]; omega
theorem Pl.ok_mono {L M : Nat} (d : L ∣ M) : ∀ p : Pl, p.ok L → p.ok M
  | .win _, h => h
  | .days _ _, h => ⟨h.1, h.2.1, Nat.dvd_trans h.2.2.1 d, h.2.2.2⟩
  | .lat p q, h => ⟨p.ok_mono d h.1, q.ok_mono d h.2⟩
  | .soo p q, h => ⟨p.ok_mono d h.1, q.ok_mono d h.2⟩
  | .nex p q, h => ⟨p.ok_mono d h.1, q.ok_mono d h.2⟩
theorem lcmI_dvd {a b : Int} {L : Nat} (h1 : a.natAbs ∣ L) (h2 : b.natAbs ∣ L) : (lcmI a b).natAbs ∣ L := by
  unfold lcmI
  rw [Int.natAbs_natCast]
  exact Nat.lcm_dvd h1 h2
theorem lcmI_pos {a b : Int} (h1 : 0 < a) (h2 : 0 < b) : 0 < lcmI a b := by
  unfold lcmI
  have := Nat.lcm_pos (m := a.natAbs) (n := b.natAbs) (by omega) (by omega)
  omega
theorem Pl.per_ok {L : Nat} : ∀ p : Pl, p.ok L → p.per.natAbs ∣ L ∧ 0 < p.per
  | .win _, _ => ⟨Nat.one_dvd _, (show (0 : Int) < 1 by decide)⟩
  | .days _ e, h => ⟨h.2.2.1, by have := h.1; simp only [Pl.per]; omega⟩
  | .lat p q, h => ⟨lcmI_dvd (p.per_ok h.1).1 (q.per_ok h.2).1, lcmI_pos (p.per_ok h.1).2 (q.per_ok h.2).2⟩
  | .soo p q, h => ⟨lcmI_dvd (p.per_ok h.1).1 (q.per_ok h.2).1, lcmI_pos (p.per_ok h.1).2 (q.per_ok h.2).2⟩
  | .nex p q, h => ⟨lcmI_dvd (p.per_ok h.1).1 (q.per_ok h.2).1, lcmI_pos (p.per_ok h.1).2 (q.per_ok h.2).2⟩
theorem Pl.per_le {L : Nat} (p : Pl) (h : p.ok L) (h0 : 0 < L) (h1 : L ≤ 2000) : 1 ≤ p.per ∧ p.per ≤ 2000 := by
  obtain ⟨d, q⟩ := p.per_ok h
  have := Nat.le_of_dvd h0 d
  omega
theorem Asc.all : ∀ {n : Int} {bs : List Int}, Asc n bs → ∀ b ∈ bs, n ≤ b ∧ b ≤ 1000
  | _, [], _, b, hb => by cases hb
  | n, c :: r, h, b, hb => by
    rcases List.mem_cons.mp hb with rfl | hb
    · exact ⟨h.1, h.2.1⟩
    · have := Asc.all h.2.2 b hb
      have := h.1
      omega
theorem lastOf_nil : lastOf [] = 0 := rfl
theorem lastOf_mem : ∀ {bs : List Int}, bs ≠ [] → lastOf bs ∈ bs
  | [], h => absurd rfl h
  | [b], _ => List.mem_singleton.mpr rfl
  | b :: c :: r, _ => by
    have := lastOf_mem (bs := c :: r) (by simp)
    exact List.mem_cons_of_mem _ this
theorem Asc.last {n : Int} : ∀ {bs : List Int}, Asc n bs → ∀ b ∈ bs, b ≤ lastOf bs
  | [], _, b, hb => by cases hb
  | [c], _, b, hb => by
    rw [List.mem_singleton] at hb
    rw [hb]
    exact Int.le_refl _
  | c :: d :: r, h, b, hb => by
    have ih := Asc.last (bs := d :: r) h.2.2
    show b ≤ lastOf (d :: r)
    rcases List.mem_cons.mp hb with rfl | hb
    · have := ih d (by simp)
      have := h.2.2.1
      omega
    · exact ih b hb
theorem Asc.last_bd {bs : List Int} (h : Asc 1 bs) : 0 ≤ lastOf bs ∧ lastOf bs ≤ 1000 := by
  by_cases e : bs = []
  · subst e
    exact ⟨Int.le_refl _, by decide⟩
  · have := h.all _ (lastOf_mem e)
    omega
/-- the greatest of 0 and the borders -/
theorem Asc.max {bs : List Int} (h : Asc 1 bs) {m : Int} (hm : m ∈ 0 :: bs) (hu : ∀ y ∈ 0 :: bs, y ≤ m) : m = lastOf bs := by
  have l0 := h.last_bd
  rcases List.mem_cons.mp hm with rfl | hm
  · by_cases e : bs = []
    · subst e; rfl
    · have := h.all _ (lastOf_mem e)
      have := hu _ (List.mem_cons_of_mem _ (lastOf_mem e))
      omega
  · have e : bs ≠ [] := fun z => by rw [z] at hm; cases hm
    have := h.last m hm
    have := hu _ (List.mem_cons_of_mem _ (lastOf_mem e))
    omega
theorem dayAt_some {bs : List Int} {e t b : Int} (h : bs.find? (fun b => decide (b > t)) = some b) : dayAt bs e t = b := by unfold dayAt; rw [h]
theorem dayAt_none {bs : List Int} {e t : Int} (h : bs.find? (fun b => decide (b > t)) = none) : dayAt bs e t = lastOf bs + ((t - lastOf bs) / e + 1) * e := by unfold dayAt; rw [h]
theorem find_none {bs : List Int} {t : Int} (h : bs.find? (fun b => decide (b > t)) = none) : ∀ b ∈ bs, b ≤ t := by
  intro b hb
  have := List.find?_eq_none.mp h b hb
  simp at this
  exact this
theorem last_le {bs : List Int} {t : Int} (h0 : 0 ≤ t) (h : ∀ b ∈ bs, b ≤ t) : lastOf bs ≤ t := by
  by_cases e : bs = []
  · subst e; exact h0
  · exact h _ (lastOf_mem e)
theorem div_step (x e : Int) (he : 0 < e) : x < (x / e + 1) * e ∧ (x / e) * e ≤ x := by
  have h1 := Int.emod_nonneg x (by omega : e ≠ 0)
  have h2 := Int.emod_lt_of_pos x he
  have h3 := Int.mul_ediv_add_emod x e
  have h4 : (x / e + 1) * e = e * (x / e) + e := by rw [Int.add_mul, Int.one_mul, Int.mul_comm]
  have h5 : (x / e) * e = e * (x / e) := Int.mul_comm _ _
  omega
theorem dayAt_gt {bs : List Int} {e t : Int} (he : 0 < e) : t < dayAt bs e t := by
  cases q : bs.find? (fun b => decide (b > t)) with
  | some b =>
    rw [dayAt_some q]
    have := List.find?_some q
    simpa using this
  | none =>
    rw [dayAt_none q]
    have := (div_step (t - lastOf bs) e he).1
    omega
theorem dayAt_le {bs : List Int} {e t : Int} (he : 0 < e) (h1 : e ≤ 2000) (ha : Asc 1 bs) (h0 : 0 ≤ t) : dayAt bs e t ≤ t + 2000 := by
  cases q : bs.find? (fun b => decide (b > t)) with
  | some b =>
    rw [dayAt_some q]
    have := ha.all _ (List.mem_of_find?_eq_some q)
    omega
  | none =>
    rw [dayAt_none q]
    have := (div_step (t - lastOf bs) e he).2
    have h4 : ((t - lastOf bs) / e + 1) * e = (t - lastOf bs) / e * e + e := by rw [Int.add_mul, Int.one_mul]
    omega
theorem find_first {t t' : Int} (htt : t ≤ t') : ∀ {n : Int} {bs : List Int} {b b' : Int}, Asc n bs → bs.find? (fun b => decide (b > t)) = some b → bs.find? (fun b => decide (b > t')) = some b' → b ≤ b'
  | _, [], _, _, _, h, _ => by cases h
  | n, c :: r, b, b', ha, h, h' => by
    rw [List.find?_cons] at h h'
    by_cases q : c > t
    · rw [decide_eq_true q] at h
      cases h
      by_cases q' : c > t'
      · rw [decide_eq_true q'] at h'
        cases h'
        exact Int.le_refl _
      · rw [decide_eq_false q'] at h'
        have := ha.2.2.all _ (List.mem_of_find?_eq_some h')
        omega
    · rw [decide_eq_false q] at h
      rw [decide_eq_false (show ¬ c > t' by omega)] at h'
      exact find_first htt ha.2.2 h h'
theorem dayAt_mono {bs : List Int} {e t t' : Int} (he : 0 < e) (ha : Asc 1 bs) (htt : t ≤ t') : dayAt bs e t ≤ dayAt bs e t' := by
  cases q : bs.find? (fun b => decide (b > t)) with
  | some b =>
    rw [dayAt_some q]
    cases q' : bs.find? (fun b => decide (b > t')) with
    | some b' =>
      rw [dayAt_some q']
      exact find_first htt ha q q'
    | none =>
      have h1 := ha.last _ (List.mem_of_find?_eq_some q)
      have h2 := find_none q' _ (List.mem_of_find?_eq_some q)
      have := dayAt_gt (bs := bs) (t := t') he
      omega
  | none =>
    rw [dayAt_none q]
    have q2 : bs.find? (fun b => decide (b > t')) = none := by
      rw [List.find?_eq_none]
      intro b hb
      have := find_none q b hb
      simp
      omega
    rw [dayAt_none q2]
    have hd : (t - lastOf bs) / e ≤ (t' - lastOf bs) / e := Int.ediv_le_ediv he (by omega)
    have := Int.mul_le_mul_of_nonneg_right (show (t - lastOf bs) / e + 1 ≤ (t' - lastOf bs) / e + 1 by omega) (Int.le_of_lt he)
    omega
theorem dayAt_per {bs : List Int} {e t m : Int} (he : 0 < e) (ha : Asc 1 bs) (hb : lastOf bs ≤ t) (hm : 0 ≤ m) (hd : e ∣ m) : dayAt bs e (t + m) = dayAt bs e t + m := by
  have no : ∀ {u : Int}, lastOf bs ≤ u → bs.find? (fun b => decide (b > u)) = none := fun {u} hu => by
    rw [List.find?_eq_none]
    intro b hb
    have := ha.last b hb
    simp
    omega
  rw [dayAt_none (no hb), dayAt_none (no (show lastOf bs ≤ t + m by omega))]
  obtain ⟨c, rfl⟩ := hd
  have e1 : t + e * c - lastOf bs = (t - lastOf bs) + e * c := by omega
  rw [e1, Int.add_mul_ediv_left _ _ (by omega : e ≠ 0)]
  have e2 : ((t - lastOf bs) / e + c + 1) * e = ((t - lastOf bs) / e + 1) * e + e * c := by
    rw [Int.add_mul, Int.add_mul, Int.add_mul, Int.mul_comm c e]
    omega
  rw [e2]
  omega
theorem Pl.at_gt {L : Nat} : ∀ (p : Pl), p.ok L → ∀ t, t < p.at t
  | .win w, h, t => by have := h.1; simp only [Pl.at]; omega
  | .days bs e, h, t => dayAt_gt (by have := h.1; omega)
  | .lat p q, h, t => by
    have := p.at_gt h.1 t
    have := q.at_gt h.2 t
    simp only [Pl.at]
    split <;> omega
  | .soo p q, h, t => by
    have := p.at_gt h.1 t
    have := q.at_gt h.2 t
    simp only [Pl.at]
    split <;> omega
  | .nex p q, h, t => Int.lt_trans (p.at_gt h.1 t) (q.at_gt h.2 _)
theorem Pl.at_le {L : Nat} : ∀ (p : Pl), p.ok L → ∀ t, 0 ≤ t → p.at t ≤ t + 2000 * p.leaves
  | .win w, h, t, _ => by have := h.2; simp only [Pl.at, Pl.leaves]; omega
  | .days bs e, h, t, h0 => by
    have := dayAt_le (bs := bs) (by have := h.1; omega) h.2.1 h.2.2.2.2 h0
    simp only [Pl.at, Pl.leaves]
    omega
  | .lat p q, h, t, h0 => by
    have := p.at_le h.1 t h0
    have := q.at_le h.2 t h0
    simp only [Pl.at, Pl.leaves]
    split <;> omega
  | .soo p q, h, t, h0 => by
    have := p.at_le h.1 t h0
    have := q.at_le h.2 t h0
    simp only [Pl.at, Pl.leaves]
    split <;> omega
  | .nex p q, h, t, h0 => by
    have h1 := p.at_gt h.1 t
    have := p.at_le h.1 t h0
    have := q.at_le h.2 (p.at t) (by omega)
    simp only [Pl.at, Pl.leaves]
    omega
theorem Pl.at_mono {L : Nat} : ∀ (p : Pl), p.ok L → ∀ t t', t ≤ t' → p.at t ≤ p.at t'
  | .win w, h, t, t', ht => by simp only [Pl.at]; omega
  | .days bs e, h, t, t', ht => dayAt_mono (by have := h.1; omega) h.2.2.2.2 ht
  | .lat p q, h, t, t', ht => by
    have := p.at_mono h.1 t t' ht
    have := q.at_mono h.2 t t' ht
    simp only [Pl.at]
    split <;> split <;> omega
  | .soo p q, h, t, t', ht => by
    have := p.at_mono h.1 t t' ht
    have := q.at_mono h.2 t t' ht
    simp only [Pl.at]
    split <;> split <;> omega
  | .nex p q, h, t, t', ht => q.at_mono h.2 _ _ (p.at_mono h.1 t t' ht)
theorem maxI_le {a b t : Int} (h : maxI a b ≤ t) : a ≤ t ∧ b ≤ t := by
  unfold maxI at h
  split at h <;> omega
theorem dvd_l {a b m : Int} (h : lcmI a b ∣ m) : a ∣ m ∧ b ∣ m := by
  have h1 : a ∣ lcmI a b := Int.natAbs_dvd_natAbs.mp (by unfold lcmI; rw [Int.natAbs_natCast]; exact Nat.dvd_lcm_left _ _)
  have h2 : b ∣ lcmI a b := Int.natAbs_dvd_natAbs.mp (by unfold lcmI; rw [Int.natAbs_natCast]; exact Nat.dvd_lcm_right _ _)
  exact ⟨Int.dvd_trans h1 h, Int.dvd_trans h2 h⟩
theorem Pl.at_per {L : Nat} : ∀ (p : Pl), p.ok L → ∀ t m, p.bend ≤ t → 0 ≤ m → p.per ∣ m → p.at (t + m) = p.at t + m
  | .win w, h, t, m, _, _, _ => by simp only [Pl.at]; omega
  | .days bs e, h, t, m, hb, hm, hd => dayAt_per (by have := h.1; omega) h.2.2.2.2 hb hm hd
  | .lat p q, h, t, m, hb, hm, hd => by
    obtain ⟨d1, d2⟩ := dvd_l hd
    obtain ⟨b1, b2⟩ := maxI_le hb
    have h1 := p.at_per h.1 t m b1 hm d1
    have h2 := q.at_per h.2 t m b2 hm d2
    simp only [Pl.at, h1, h2]
    split <;> split <;> omega
  | .soo p q, h, t, m, hb, hm, hd => by
    obtain ⟨d1, d2⟩ := dvd_l hd
    obtain ⟨b1, b2⟩ := maxI_le hb
    have h1 := p.at_per h.1 t m b1 hm d1
    have h2 := q.at_per h.2 t m b2 hm d2
    simp only [Pl.at, h1, h2]
    split <;> split <;> omega
  | .nex p q, h, t, m, hb, hm, hd => by
    obtain ⟨d1, d2⟩ := dvd_l hd
    obtain ⟨b1, b2⟩ := maxI_le hb
    have h1 := p.at_per h.1 t m b1 hm d1
    have := p.at_gt h.1 t
    have h2 := q.at_per h.2 (p.at t) m (by omega) hm d2
    simp only [Pl.at, h1, h2]
theorem Pl.bend_bd {L : Nat} : ∀ p : Pl, p.ok L → 0 ≤ p.bend ∧ p.bend ≤ 1000
  | .win _, _ => ⟨Int.le_refl _, (show (0 : Int) ≤ 1000 by decide)⟩
  | .days _ _, h => h.2.2.2.2.last_bd
  | .lat p q, h => by have := p.bend_bd h.1; have := q.bend_bd h.2; simp only [Pl.bend, maxI]; split <;> omega
  | .soo p q, h => by have := p.bend_bd h.1; have := q.bend_bd h.2; simp only [Pl.bend, maxI]; split <;> omega
  | .nex p q, h => by have := p.bend_bd h.1; have := q.bend_bd h.2; simp only [Pl.bend, maxI]; split <;> omega
end RM
namespace RM
theorem fmod_nat (X Y : Nat) : (X : Int).fmod (Y : Int) = ((X % Y : Nat) : Int) := by
  rw [Int.fmod_eq_emod_of_nonneg _ (Int.natCast_nonneg _)]
  rfl
theorem fdiv_nat (X Y : Nat) : (X : Int).fdiv (Y : Int) = ((X / Y : Nat) : Int) := by
  rw [Int.fdiv_eq_ediv_of_nonneg _ (Int.natCast_nonneg _)]
  rfl
theorem lcm_by (A B : Nat) : ((A : Int).fdiv ((Nat.gcd A B : Nat) : Int)) * (B : Int) = lcmI A B := by
  rw [fdiv_nat]
  unfold lcmI
  rw [Int.natAbs_natCast, Int.natAbs_natCast, ← Int.natCast_mul]
  congr 1
  rw [Nat.div_mul_right_comm (Nat.gcd_dvd_left A B)]
  rfl
theorem gcd_step (X Y : Nat) : Nat.gcd Y (X % Y) = Nat.gcd X Y := by
  rw [Nat.gcd_comm X Y, Nat.gcd_rec Y X, Nat.gcd_comm]
end RM
namespace RM
theorem Asc.snoc {e c : Int} : ∀ {n : Int} {bs : List Int}, Asc n bs → (∀ b ∈ bs, b ≤ e) → n ≤ c → e < c → c ≤ 1000 → Asc n (bs ++ [c])
  | n, [], _, _, h1, _, h3 => ⟨h1, h3, True.intro⟩
  | n, b :: r, h, hb, h1, h2, h3 => ⟨h.1, h.2.1, Asc.snoc h.2.2 (fun x hx => hb x (List.mem_cons_of_mem _ hx)) (by have := hb b (by simp); omega) h2 h3⟩
theorem lcmI_one (B : Nat) : lcmI B 1 = B := by
  unfold lcmI
  rw [Int.natAbs_natCast]
  show ((B.lcm 1 : Nat) : Int) = B
  rw [Nat.lcm_one_right]
theorem lcmI_self (B : Nat) : lcmI B B = B := by
  unfold lcmI
  rw [Int.natAbs_natCast, Nat.lcm_self]
end RM
namespace RM
/-- a plan is as good with its own period -/
theorem Pl.ok_per {L : Nat} : ∀ p : Pl, p.ok L → p.ok p.per.natAbs
  | .win _, h => h
  | .days _ e, h => ⟨h.1, h.2.1, Nat.dvd_refl _, h.2.2.2⟩
  | .lat p q, h => ⟨Pl.ok_mono (by simp only [Pl.per, lcmI, Int.natAbs_natCast]; exact Nat.dvd_lcm_left _ _) p (p.ok_per h.1), Pl.ok_mono (by simp only [Pl.per, lcmI, Int.natAbs_natCast]; exact Nat.dvd_lcm_right _ _) q (q.ok_per h.2)⟩
  | .soo p q, h => ⟨Pl.ok_mono (by simp only [Pl.per, lcmI, Int.natAbs_natCast]; exact Nat.dvd_lcm_left _ _) p (p.ok_per h.1), Pl.ok_mono (by simp only [Pl.per, lcmI, Int.natAbs_natCast]; exact Nat.dvd_lcm_right _ _) q (q.ok_per h.2)⟩
  | .nex p q, h => ⟨Pl.ok_mono (by simp only [Pl.per, lcmI, Int.natAbs_natCast]; exact Nat.dvd_lcm_left _ _) p (p.ok_per h.1), Pl.ok_mono (by simp only [Pl.per, lcmI, Int.natAbs_natCast]; exact Nat.dvd_lcm_right _ _) q (q.ok_per h.2)⟩
theorem lcmI_comm (a b : Int) : lcmI a b = lcmI b a := by
  unfold lcmI
  rw [Nat.lcm_comm]
end RM

namespace LC
open PySem L2
section
variable {X : Cx} {st : Stmt} {ss : List Stmt}
/-- a statement that is never come to -/
theorem ps_never : PS X st (fun _ _ _ => False) := ⟨fun _ _ _ _ _ _ h => h.elim⟩
theorem pss_never : PSs X ss (fun _ _ _ => False) := ⟨fun _ _ _ _ _ _ h => h.elim⟩
def rLcm : List V → Hp → VK → Prop := fun vs H Q => ∃ a b : Int, vs = [.int a, .int b] ∧ a.natAbs < 2 ^ 64 ∧ b.natAbs < 2 ^ 64 ∧ Q (.int (RM.lcmI a b)) H
theorem cr_lcm : CallR X (.builtin "math.lcm") rLcm := by
  intro pins s σ H vs us Q I r h
  obtain ⟨a, b, rfl, h1, h2, q⟩ := h
  obtain ⟨t, u, rfl⟩ := Vals.int2 r
  exact PySem.W.mc_lcm h1 h2 fun _ => ⟨.int _, H, I.tok _, ⟨_, rfl⟩, q⟩
end
theorem fn_none {P : Program} {w : World} {K : PySem.W.Frag} {mg : Str → Option Value} {base : Heap} {CX : CXT} {k : Nat} {f : Addr} {fd : FuncData} {ps : List Str} {sp : Sp} (h : ∀ vs H Q E, ¬ sp vs H Q E) : FnOk P w K mg base CX k f fd ps sp :=
  ⟨fun vs H Q E q => (h _ _ _ _ q).elim, fun A outer s H args us vs Q E hr e0 hb r q => (h _ _ _ _ q).elim⟩
theorem raw0 {P : Program} {w : World} {K : PySem.W.Frag} {mg : Str → Option Value} {base : Heap} {CX : CXT} {k : Nat} {f : Addr} {fd : FuncData} {ps : List Str} {sp : Sp} (F : FnOk P w K mg base CX k f fd ps sp) (hb : Binds K fd ps []) : FnR P w K mg base CX k f sp :=
  (F.raw hb .nil).imp fun vs H Q E h => by
    rw [List.append_nil]
    exact h
theorem kLT_int {K : PySem.W.Frag} : PySem.W.kitAny K (.type "int") [.type "list", .type "tuple"] = some false := kitAny_cons (kit_ty (show kitB "int" "list" = some false by decide +kernel)) (fun _ => kitAny_cons (kit_ty (show kitB "int" "tuple" = some false by decide +kernel)) (fun _ => kitAny_nil) fun z => by cases z) (fun z => by cases z)
theorem kLT_lst {K : PySem.W.Frag} : PySem.W.kitAny K (.type "list") [.type "list", .type "tuple"] = some true := kitAny_cons (kit_ty (show kitB "list" "list" = some true by decide +kernel)) (fun z => by cases z) (fun _ => rfl)
end LC

namespace LX
open PySem L2 PySem.Spec PyProof.Rows
/-- what the written part says of an own error class with its own __init__ -/
structure ErrC (K : PySem.W.Frag) (mg : Str → Option Value) (nm : Str) (fs : List Str) (C fI : Addr) : Prop where
  ox : OexC K C
  iC : PySem.W.findIn K (.ref C) "__init__" = some (some (.ref fI))
  tI : PySem.W.typeIn K (.ref fI) = some (.type "function")
  gC : mg nm = some (.ref C)
  xf : XfC K C
  te : PySem.W.exmOne K (.ref C) (.ref C) = some true
  no : ∀ f ∈ fs, PySem.W.findIn K (.ref C) f = some none
theorem no_cons {K : PySem.W.Frag} {C : Addr} {f : Str} {fs : List Str} (h : PySem.W.findIn K (.ref C) f = some none) (r : ∀ f ∈ fs, PySem.W.findIn K (.ref C) f = some none) : ∀ g ∈ f :: fs, PySem.W.findIn K (.ref C) g = some none := fun g hg => by
  rcases List.mem_cons.mp hg with rfl | hg
  · exact h
  · exact r g hg
theorem no_nil {K : PySem.W.Frag} {C : Addr} : ∀ g ∈ ([] : List Str), PySem.W.findIn K (.ref C) g = some none := fun g hg => by cases hg
/-- an error of its class is what a clause of the class takes -/
theorem exm_self {K : PySem.W.Frag} {S T : Addr} {b : Bool} (h1 : PySem.W.subIn K (.ref T) (.type "BaseException") = some true) (h2 : PySem.W.isClsIn K T = true) (h3 : PySem.W.typeIn K (.ref T) = some (.type "type")) (h4 : PySem.W.subIn K (.ref S) (.ref T) = some b) :
    PySem.W.exmOne K (.ref S) (.ref T) = some b := by
  have h2' : (PySem.W.clsIn K T).isSome = true := h2
  unfold PySem.W.exmOne
  rw [h1, if_pos (by rfl)]
  show (if ((PySem.W.clsIn K T).isSome && PySem.W.typeIn K (.ref T) == some (.type "type")) = true then PySem.W.subIn K (.ref S) (.ref T) else none) = some b
  rw [h2', h3, if_pos (by rfl)]
  exact h4
/-- the way out of an error with the fields fs, made in H -/
def ErrOut (H : Hp) (E : XK) (C : Addr) (fs : List (Str × V)) : Prop := ∀ (d : Addr) (H' : Hp), L2.Same H H' → H d = none → H' d = some (.xd fs) → E (.ref C) (some d) H'
/-- the promise of an __init__ that stores fs of the arguments -/
def spErr (C : Addr) (n : Nat) (fs : List V → List (Str × V)) : Sp := fun vs H Q _ => ∃ (a : Addr) (ws : List V), vs = .ref a :: ws ∧ ws.length = n ∧ H a = some (exo a C none) ∧ ∀ (d : Addr) (H' : Hp), H d = none → H' a = some (exo a C (some d)) → H' d = some (exd d (fs ws)) → (∀ b o, b ≠ a → H b = some o → H' b = some o) → Q .non H'
/-- raise C(..): the way out follows from the class's promise -/
theorem err_out {H : Hp} {E : XK} {C : Addr} {n : Nat} {fs : List V → List (Str × V)} {ws : List V} (hn : ws.length = n) (h : ErrOut H E C (fs ws)) : ∀ a, H a = none → spErr C n fs (.ref a :: (ws ++ [])) (upd H a (exo a C none))
    (fun v H2 => v = .non ∧ ∃ (d : Addr) (gs : List (Str × V)), H2 a = some (exo a C (some d)) ∧ H2 d = some (exd d gs) ∧ H d = none ∧ E (.ref C) (some d) (upd (del H2 a) d (.xd gs))) (fun _ _ _ => False) := fun a ha => by
  rw [List.append_nil]
  refine ⟨a, ws, rfl, hn, upd_same, fun d H' hd h1 h2 k => ?_⟩
  have da : d ≠ a := fun z => by
    rw [z, upd_same] at hd
    cases hd
  rw [upd_ne da] at hd
  refine ⟨rfl, d, _, h1, h2, hd, h d _ (fun b o e => ?_) hd upd_same⟩
  have nb : b ≠ a := ne_of_none e ha
  rw [upd_ne (ne_of_none e hd), del_ne nb]
  exact k b o nb (by rw [upd_ne nb]; exact e)
/-- several clauses, each with a name -/
def wAsM (K : PySem.W.Frag) (Wout : WX) (D : Ends) : List (Value × Nat × (Addr → Value → Option Addr → TS)) → WX
  | [] => Wout
  | (c, i, ts) :: r => fun cls d σ H => ∃ b, PySem.W.exmOne K cls c = some b ∧
      (b = true → ∀ a, H a = none → ts a cls d { nx := fun σ' H' => D.nx (σ'.set i none) H', rt := D.rt, bk := fun σ' H' => D.bk (σ'.set i none) H', ct := fun σ' H' => D.ct (σ'.set i none) H' } (σ.set i (some (.ref a))) H) ∧
      (b = false → wAsM K Wout D r cls d σ H)
inductive AsOk (X : Cx) : List ExceptHandler → List (Value × Nat × (Addr → Value → Option Addr → TS)) → Prop
  | nil : AsOk X [] []
  | cons {x n : Str} {c : Value} {i : Nat} {ts : Addr → Value → Option Addr → TS} {b₀ : Stmt} {suite : List Stmt} {np pos' : Pos} {hds : List ExceptHandler} {l : List (Value × Nat × (Addr → Value → Option Addr → TS))}
      (hi : X.N[i]? = some n) (hln : X.env.kindOf n = some .local) (hc : Names X x c)
      (hsu : ∀ (a : Addr) (oe : Obj) (cls : Value) (d : Option Addr) (pn : List (Addr × Obj)), Zc cls d oe → (∃ vs, oe.data = .fields vs) → PSs (X.suite a ((a, oe) :: pn)) (b₀ :: suite) (ts a cls d)) (r : AsOk X hds l) :
      AsOk X (.ExceptHandler (some (.Name x np)) (some n) (b₀ :: suite) pos' :: hds) ((c, i, ts) :: l)
section
variable {X : Cx} {body : List Stmt} {h₀ : ExceptHandler} {hds : List ExceptHandler} {l : List (Value × Nat × (Addr → Value → Option Addr → TS))} {pos : Pos} {tb : WX → TS} {Wout : WX}
/-- what every clause finds: the error at a stands on the ground -/
structure Caught (X : Cx) (a : Addr) (B : Heap) (pins : List (Addr × Obj)) (σ : L2.St) (H : Hp) (cls : Value) (d : Option Addr) (sI s : Shared) : Prop where
  J : L2.Inv X pins σ H sI
  nb : ∀ b o, sI.heap.get? b = some o → b ∉ frs X.stack → B.get? b = some o
  up : sI.heap.UpToSlots s.heap
  fl : HandSPX.FlyingZ B (X.env :: X.outer) a (Zc cls d) s.heap
  na : H a = none
  os : s.os = sI.os
  ag : AllBare s.gens
  nL : a ≠ X.env.locals
  nF : a ∉ X.fs
theorem clauses {a : Addr} {B : Heap} {pins : List (Addr × Obj)} {σ : L2.St} {H : Hp} {cls : Value} {d : Option Addr} {sI s : Shared} {D : Ends} (hs : X.stack = X.env :: X.outer) (hf : X.env.frame = some X.env.locals) (hN : X.N.Nodup) (tk : Takes X Wout) (ok : X.Ok)
    (T : Caught X a B pins σ H cls d sI s) : ∀ {hds : List ExceptHandler} {l : List (Value × Nat × (Addr → Value → Option Addr → TS))}, AsOk X hds l → wAsM X.K Wout D l cls d σ H →
    wpAny (model X.prog X.w) X.A (handleBy (.ref a) X.env hds) (SP X pins D) X.xe s := by
  obtain ⟨J, nb, up, fl, na, os, ag, nL, nF⟩ := T
  obtain ⟨hp, g, dr, tok, oss⟩ := s
  intro hds l hk
  induction hk with
  | nil =>
    intro w
    refine wpAny_handleBy_nil ?_
    obtain ⟨k1, k2, k3, oe, vs, T, oT, ts', he, hz, hd, h1, hr⟩ := id fl
    unfold PySem.passOn
    refine wpAny_bind (wpAny_field he hd h1 ?_)
    rw [if_neg (show ¬ ((Value.ref T == Value.none) = true) from by simp)]
    have fin : wpAny (model X.prog X.w) X.A (setFlight (.ref a) X.env.frame) (fun _ s4 => wpAny (model X.prog X.w) X.A (throw (.ref a) : Sem Flow) (SP X pins D) X.xe s4) X.xe ⟨hp, g, dr, tok, oss⟩ := by
      rw [hf]
      refine HandSPX.setFlight_upZ fl fun h4 hh4 up4 => wpAny_throw (tk _ _ ?_)
      exact ⟨a, B, sI, pins, σ, H, cls, d, rfl, J, nb, up.trans up4, .inr (.inr (by rw [hs]; exact hh4)), na, os, ag, w⟩
    first
      | exact wpAny_bind (wpAny_pure (wpAny_bind fin))
      | exact wpAny_bind fin
  | @cons x n c i ts b₀ suite np pos' hds2 l2 hi hln hc hsu r ih =>
    intro w
    obtain ⟨b, hb1, hyes, hno⟩ := w
    have J3 : L2.Inv X pins σ H ⟨hp, g, dr, tok, oss⟩ := J.landed nb fl.1 up os ag
    obtain ⟨oe3, vs3, he3, hz3, hd3⟩ := fl.there
    have S3 := J3.suite he3 hd3 na nL nF
    refine wpAny_handleBy_cons (codeAny_handlers_test ?_) (by intro q; cases q)
    have LT : PySem.W.Looks (model X.prog X.w) hp (typeOf (.ref a)) cls := fun A Q E s k q => wpAny_typeOf_ref (k _ _ he3) (by rw [hz3.1]; exact q)
    have LM := PySem.W.exm_one (M := model X.prog X.w) (J3.kIn) LT hb1
    have test : ∀ {Q : Value → Shared → Prop} {E : Value → Shared → Prop}, Q c ⟨hp, g, dr, tok, oss⟩ → wpAny (model X.prog X.w) (X.A.mark (some (.ref a))) (eval (.Name x np) X.env) Q E ⟨hp, g, dr, tok, oss⟩ := fun {Q E} q => by
      obtain ⟨hg, hdbg, hm | ⟨hm, hv, hnn⟩⟩ := hc
      · exact ld_glob (X := X.suite a ((a, oe3) :: (X.pn ++ pins))) S3 hg hm q hdbg
      · exact ld_blt (X := X.suite a ((a, oe3) :: (X.pn ++ pins))) S3 hg hm hv q hnn hdbg
    refine test (LM.here ?_)
    cases b with
    | true =>
      refine codeAny_handlers_suite_as ?_
      refine HandSPX.lands_againZ fl fun h4 fl4 up4 => ?_
      have J4 : L2.Inv X pins σ H ⟨h4, g, dr, tok, oss⟩ := J.landed nb fl4.1 (up.trans up4) os ag
      obtain ⟨oe4, vs4, he4, hz4, hd4⟩ := fl4.there
      have S4 := J4.suite he4 hd4 na nL nF
      refine store_ok (X := X.suite a ((a, oe4) :: (X.pn ++ pins))) (v := .ref a) S4 hN hi (.inl hln) rfl (fun s5 S5 => ?_) (.inr hln)
      refine wpAny_mono ((hsu a oe4 cls d (X.pn ++ pins) hz4 ⟨_, hd4⟩).run [] s5 _ H _ S5 (hyes rfl a na)) (fun f s6 hsp => ?_) (fun _ _ z => False.elim z)
      have out : ∀ {σ6 : L2.St} {H6 : Hp} {Q : Shared → Prop}, L2.Inv (X.suite a ((a, oe4) :: (X.pn ++ pins))) [] σ6 H6 s6 → (∀ s7, L2.Inv X pins (σ6.set i none) H6 s7 → Q s7) →
          wpAny (model X.prog X.w) X.A (do bindName X.env n .none; unbindBehindTheSuite X.env n pos') (fun _ s7 => Q s7) X.xe s6 := fun {σ6 H6 Q} S6 hq => gone_ok (S6.unsuite ok) hN hi hln hq
      cases f with
      | next =>
        obtain ⟨σ6, H6, S6, q6⟩ := hsp
        exact out S6 fun s7 J7 => ⟨_, _, J7, q6⟩
      | brk =>
        obtain ⟨σ6, H6, S6, q6⟩ := hsp
        exact out S6 fun s7 J7 => ⟨_, _, J7, q6⟩
      | cont =>
        obtain ⟨σ6, H6, S6, q6⟩ := hsp
        exact out S6 fun s7 J7 => ⟨_, _, J7, q6⟩
      | ret u =>
        obtain ⟨v6, σ6, H6, S6, r6, q6⟩ := hsp
        exact out S6 fun s7 J7 => ⟨_, _, _, J7, r6, q6⟩
    | false =>
      show wpAny _ X.A (handleBy (.ref a) X.env hds2) _ _ _
      exact ih (hno rfl)
/-- try: .. except x1 as n1: .. except x2 as n2: .. -/
theorem ps_try_asM (hs : X.stack = X.env :: X.outer) (hf : X.env.frame = some X.env.locals) (hN : X.N.Nodup) (tk : Takes X Wout)
    (hb : ∀ (W : WX) (pn : List (Addr × Obj)) (xe : Value → Shared → Prop), Takes (X.tr pn xe) W → PassesOwn (model X.prog X.w) X.A X.env xe → PSs (X.tr pn xe) body (tb W))
    (hh : AsOk X (h₀ :: hds) l) : PS X (.Try body (h₀ :: hds) [] [] pos) (fun D σ H => tb (wAsM X.K Wout D l) D σ H) := by
  refine ⟨fun pins s σ H D I h => ?_⟩
  have ok := I.ok
  have hfr : X.A.frames = some (X.env :: X.outer) := by rw [ok.frames, hs]
  refine wpAny_Try_except ?_
  refine wpAny_mono ((hb (wAsM X.K Wout D l) (X.pn ++ pins) (fun e s₁ => wpAny (model X.prog X.w) X.A (noteFrame e X.env) (fun _ s₂ => wpAny (model X.prog X.w) X.A (setFlight e none) (fun _ s₃ =>
    wpAny (model X.prog X.w) X.A (handleBy e X.env (h₀ :: hds)) (SP X pins D) X.xe s₃) X.xe s₂) X.xe s₁) (fun u s' xx => ?_) PassesOwn.looking).run [] s σ H D (I.toTry _) h) (fun f s1 hsp => ?_) (fun e s1 he => he)
  · obtain ⟨a, B, sI, pins', σ', H', cls, d, rfl, J', nb, up, sky, na, os, ag, w⟩ := xx
    have J : L2.Inv X pins σ' H' sI := J'.ofTry ok
    have sky' : Sky B (X.env :: X.outer) a (Zc cls d) X.env.locals s'.heap := by rw [← hs]; exact sky
    show wpAny (model X.prog X.w) X.A (noteFrame (.ref a) X.env) _ _ _
    refine Sky.land Zc.steady hfr hf sky' fun h3 fl3 up3 => ?_
    have nfr : a ∉ frs (X.env :: X.outer) := fun hm => by
      obtain ⟨oe3, vs3, he3, hz3, hd3⟩ := fl3.there
      obtain ⟨_, o', e', hnf⟩ := fl3.2.2.1.mem hm
      rw [he3] at e'
      cases e'
      exact hnf _ hd3
    have nL : a ≠ X.env.locals := fun z => nfr (List.mem_filterMap.mpr ⟨X.env, List.mem_cons_self, by rw [hf, z]⟩)
    have nF : a ∉ X.fs := fun hm => by
      obtain ⟨e, he, q⟩ := List.mem_filterMap.mp hm
      exact nfr (List.mem_filterMap.mpr ⟨e, List.mem_cons_of_mem _ he, q⟩)
    exact clauses (s := { s' with heap := h3 }) hs hf hN tk ok ⟨J, nb, up.trans up3, fl3, na, os, ag, nL, nF⟩ hh w
  · cases f with
    | next =>
      obtain ⟨σ', H', J', q⟩ := hsp
      exact wpAny_execs_nil ⟨σ', H', J'.ofTry ok, q⟩
    | brk =>
      obtain ⟨σ', H', J', q⟩ := hsp
      exact ⟨σ', H', J'.ofTry ok, q⟩
    | cont =>
      obtain ⟨σ', H', J', q⟩ := hsp
      exact ⟨σ', H', J'.ofTry ok, q⟩
    | ret u =>
      obtain ⟨v, σ', H', J', r, q⟩ := hsp
      exact ⟨v, σ', H', J'.ofTry ok, r, q⟩
end
/-! ### calls by keyword alone, within a try -/
section
variable {X : Cx} {CX : CXT} {k : Nat} {f : Addr} {fd : FuncData} {ps ks : List Str} {sp : Sp} {E : L2.St → XK} {x : Str} {p pos : Pos} {kws : List Keyword} {tk : TA} {g : List Value → List Value → List Value} {gV : List V → List V → List V}
def tCallKS (sp : Sp) (gV : List V → List V → List V) (E : L2.St → XK) (t tk : TA) : TE := fun σ H Q => t σ H fun vs H1 => tk σ H1 fun zs H2 => sp (gV vs zs) H2 Q (E σ)
theorem run_kS {pins : List (Addr × Obj)} {σ : L2.St} {H : Hp} {s : Shared} {Q : VK} {us ws : List Value} {vs zs : List V} (F : FnOk X.prog X.w X.K X.mg X.base CX k f fd ps sp) (hr : Room k X.A) (hb : KBinds X.K fd ps ks g gV) (hx : PassesAt CX X σ (E σ))
    (I : L2.Inv X pins σ H s) (r : Vals vs us) (rz : Vals zs ws) (h : sp (gV vs zs) H Q (E σ)) : wpAny (model X.prog X.w) X.A (call (.ref f) us (ks.zip ws)) (EP X pins σ Q) X.xe s := by
  have r2 := hb.rel r rz
  have hl : (g us ws).length = ps.length := by
    have e := F.len _ _ _ _ h
    rw [r2.length] at e
    exact e
  refine wpAny_call (codeAny_mono (F.run X.A X.stack s H _ (g us ws) (gV vs zs) Q (E σ) hr I.env0 (hb.to s us ws I.kIn hl) r2 h) fun r s' hq => ?_)
  match r, hq with
  | .error e, hq => exact hx pins H s e s' I hq
  | .ok (.ret u), hq => exact I.after hq
theorem pe_callK0S (F : FnOk X.prog X.w X.K X.mg X.base CX k f fd ps sp) (hr : Room k X.A) (hg : Gl X x) (hm : X.mg x = some (.ref f)) (hk : PySem.W.keepIn X.K (.ref f) = true) (hb : KBinds X.K fd ps ks g gV) (hx : ∀ σ, PassesAt CX X σ (E σ))
    (hkw : PK X kws tk) (hall : (backToKw pos (keywordEach kws X.env)).all (·.1.isSome) = true := by rfl) (hks : (backToKw pos (keywordEach kws X.env)).filterMap (·.1) = ks := by rfl)
    (hdb : (x == ("__debug__" : Str)) = false := by decide) (hpl : ((backTo pos (starEach [] X.env)).any (·.1) || (backToKw pos (keywordEach kws X.env)).any (·.1.isNone)) = false := by rfl) :
    PE X (.Call (.Name x p) [] kws pos) (tCallKS sp gV E tNil tk) := by
  refine ⟨fun pins s σ H Q I h => ?_⟩
  refine wpAny_Call_Name_kw (ld_glob I hg hm ?_ hdb)
  refine PySem.W.callWith_KW0 (h₀ := X.base) I.ok.mod.kin hk hall ?_ hpl
  refine thn (hkw.run pos pins s σ H _ I h) fun ws s2 ⟨zs, H2, I2, rz, q2⟩ => ⟨I2.kIn, ?_⟩
  rw [hks]
  exact run_kS (us := []) F hr hb (hx σ) I2 .nil rz q2
end
end LX

namespace RM
/-- where two plans part, among the moments below M -/
def Due (p q : Pl) (M : Int) : Option Int → Prop
  | none => ∀ s, 0 ≤ s → s < M → p.at s = q.at s
  | some s => 0 ≤ s ∧ s < M ∧ (∀ j, 0 ≤ j → j < s → p.at j = q.at j) ∧ p.at s ≠ q.at s
theorem Due.uniq {p q : Pl} {M : Int} : ∀ {a b : Option Int}, Due p q M a → Due p q M b → a = b
  | none, none, _, _ => rfl
  | none, some s, h, ⟨h1, h2, _, h4⟩ => absurd (h s h1 h2) h4
  | some s, none, ⟨h1, h2, _, h4⟩, h => absurd (h s h1 h2) h4
  | some s, some t, ⟨h1, h2, h3, h4⟩, ⟨k1, k2, k3, k4⟩ => by
    rcases Int.lt_trichotomy s t with h | h | h
    · exact absurd (k3 s h1 h) h4
    · rw [h]
    · exact absurd (h3 t k1 h) k4
theorem Due.symm {p q : Pl} {M : Int} : ∀ {a : Option Int}, Due p q M a → Due q p M a
  | none, h => fun s h1 h2 => (h s h1 h2).symm
  | some s, ⟨h1, h2, h3, h4⟩ => ⟨h1, h2, fun j a b => (h3 j a b).symm, fun e => h4 e.symm⟩
theorem maxI_comm (a b : Int) : maxI a b = maxI b a := by unfold maxI; split <;> split <;> omega
theorem maxI_bd {a b : Int} : a ≤ maxI a b ∧ b ≤ maxI a b := by unfold maxI; split <;> omega
theorem Due.all {p q : Pl} {L L' : Nat} (op : p.ok L) (oq : q.ok L') (h0 : 0 < lcmI p.per q.per) (h : Due p q (lcmI p.per q.per + maxI p.bend q.bend) none) : ∀ n : Nat, p.at n = q.at n := by
  intro n
  induction n using Nat.strongRecOn with
  | ind n ih =>
    by_cases hn : (n : Int) < lcmI p.per q.per + maxI p.bend q.bend
    · exact h n (by omega) hn
    · obtain ⟨c, hc⟩ : ∃ c : Nat, lcmI p.per q.per = (c : Int) := ⟨_, rfl⟩
      have b := p.bend_bd op
      have mb := maxI_bd (a := p.bend) (b := q.bend)
      obtain ⟨m, rfl⟩ : ∃ m : Nat, n = m + c := ⟨n - c, by omega⟩
      have e := ih m (by omega)
      obtain ⟨d1, d2⟩ := dvd_l (Int.dvd_refl (lcmI p.per q.per))
      rw [hc] at d1 d2
      have a1 := p.at_per op (m : Int) (c : Int) (by omega) (by omega) d1
      have a2 := q.at_per oq (m : Int) (c : Int) (by omega) (by omega) d2
      have en : ((m + c : Nat) : Int) = (m : Int) + (c : Int) := by omega
      rw [en, a1, a2, e]
theorem lcmI_le {a b : Int} (ha : 0 < a) (hb : 0 < b) : lcmI a b ≤ a * b := by
  obtain ⟨A, rfl⟩ : ∃ A : Nat, a = (A : Int) := ⟨a.toNat, by omega⟩
  obtain ⟨B, rfl⟩ : ∃ B : Nat, b = (B : Int) := ⟨b.toNat, by omega⟩
  unfold lcmI
  rw [Int.natAbs_natCast, Int.natAbs_natCast, ← Int.natCast_mul]
  have h := Nat.le_of_dvd (Nat.mul_pos (by omega : 0 < A) (by omega : 0 < B)) (Nat.lcm_dvd_mul A B)
  exact Int.ofNat_le.mpr h
/-- the period of a plan of at most two leaves -/
theorem Pl.per_small {L : Nat} : ∀ p : Pl, p.ok L → p.leaves ≤ 2 → 1 ≤ p.per ∧ p.per ≤ 4000000 := by
  have leaf : ∀ p : Pl, p.ok L → p.leaves ≤ 1 → 1 ≤ p.per ∧ p.per ≤ 2000 := fun p o h => by
    cases p with
    | win w => exact ⟨(show (1 : Int) ≤ 1 by decide), (show (1 : Int) ≤ 2000 by decide)⟩
    | days bs e => exact ⟨o.1, o.2.1⟩
    | lat p q => have := p.leaves_pos; have := q.leaves_pos; have h' : p.leaves + q.leaves ≤ 1 := h; omega
    | soo p q => have := p.leaves_pos; have := q.leaves_pos; have h' : p.leaves + q.leaves ≤ 1 := h; omega
    | nex p q => have := p.leaves_pos; have := q.leaves_pos; have h' : p.leaves + q.leaves ≤ 1 := h; omega
  have two : ∀ p q : Pl, p.ok L → q.ok L → p.leaves + q.leaves ≤ 2 → 1 ≤ lcmI p.per q.per ∧ lcmI p.per q.per ≤ 4000000 := fun p q o1 o2 h => by
    have := p.leaves_pos
    have := q.leaves_pos
    have b1 := leaf p o1 (by omega)
    have b2 := leaf q o2 (by omega)
    have h1 := lcmI_le (a := p.per) (b := q.per) (by omega) (by omega)
    have h2 := lcmI_pos (a := p.per) (b := q.per) (by omega) (by omega)
    have h3 : p.per * q.per ≤ 2000 * 2000 := Int.mul_le_mul b1.2 b2.2 (by omega) (by omega)
    omega
  intro p o h
  cases p with
  | win w => exact ⟨(show (1 : Int) ≤ 1 by decide), (show (1 : Int) ≤ 4000000 by decide)⟩
  | days bs e => have := leaf _ o (Nat.le_refl 1); exact ⟨this.1, by omega⟩
  | lat p q => exact two p q o.1 o.2 h
  | soo p q => exact two p q o.1 o.2 h
  | nex p q => exact two p q o.1 o.2 h
theorem Pl.ok0 {L : Nat} (p : Pl) (h : p.ok L) : p.ok 0 := Pl.ok_mono (Nat.dvd_zero L) p h
/-- a plan whose own period is small is good with it -/
theorem Pl.ok_own (p : Pl) (h : p.ok 0) : p.ok p.per.natAbs := p.ok_per h
theorem Pl.per_pos : ∀ p : Pl, p.ok 0 → 0 < p.per := fun p h => (p.per_ok h).2
/-- the last border one later -/
theorem Asc.bump {n : Int} : ∀ {bs : List Int} {b : Int}, Asc n (bs ++ [b]) → b < 1000 → Asc n (bs ++ [b + 1])
  | [], b, h, hb => ⟨by have := h.1; omega, by omega, True.intro⟩
  | c :: r, b, h, hb => ⟨h.1, h.2.1, Asc.bump (bs := r) h.2.2 hb⟩
end RM

namespace LC
open PySem L2
section
variable {K : PySem.W.Frag} {a b : Addr} {xs ys : List V}
theorem walk_zipT {n : Nat} (hn : n = min xs.length ys.length) : Walk (RZ.ItzT K a b) n (fun H => SqT K H a xs ∧ SqT K H b ys) (YPair (fun i => xs[i]?) (fun i => ys[i]?)) := by
  have la : ∀ {i}, i < n → i < xs.length ∧ i < ys.length := fun h => by omega
  refine ⟨fun i _ hi q => ⟨xs, ys, xs[i]'(la hi).1, ys[i]'(la hi).2, q.1, q.2, List.getElem?_eq_getElem _, List.getElem?_eq_getElem _⟩, fun _ q => ⟨xs, ys, q.1, q.2, by omega⟩, fun i H v H' _ q y => ?_⟩
  obtain ⟨T, x, z, rest⟩ := y
  exact ⟨T, x, z, rest.1, rest.2.1, rest.2.2.1, rest.2.2.2.1 xs q.1, rest.2.2.2.2 ys q.2⟩
end
theorem kLT_non {K : PySem.W.Frag} : PySem.W.kitAny K (.type "NoneType") [.type "list", .type "tuple"] = some false := kitAny_cons (kit_ty (show kitB "NoneType" "list" = some false by decide +kernel)) (fun _ => kitAny_cons (kit_ty (show kitB "NoneType" "tuple" = some false by decide +kernel)) (fun _ => kitAny_nil) fun z => by cases z) (fun z => by cases z)
theorem kLT_str {K : PySem.W.Frag} : PySem.W.kitAny K (.type "str") [.type "list", .type "tuple"] = some false := kitAny_cons (kit_ty (show kitB "str" "list" = some false by decide +kernel)) (fun _ => kitAny_cons (kit_ty (show kitB "str" "tuple" = some false by decide +kernel)) (fun _ => kitAny_nil) fun z => by cases z) (fun z => by cases z)
theorem kLT_bool {K : PySem.W.Frag} : PySem.W.kitAny K (.type "bool") [.type "list", .type "tuple"] = some false := kitAny_cons (kit_ty (show kitB "bool" "list" = some false by decide +kernel)) (fun _ => kitAny_cons (kit_ty (show kitB "bool" "tuple" = some false by decide +kernel)) (fun _ => kitAny_nil) fun z => by cases z) (fun z => by cases z)
theorem kLT_tup {K : PySem.W.Frag} : PySem.W.kitAny K (.type "tuple") [.type "list", .type "tuple"] = some true := kitAny_cons (kit_ty (show kitB "tuple" "list" = some false by decide +kernel)) (fun _ => kitAny_cons (kit_ty (show kitB "tuple" "tuple" = some true by decide +kernel)) (fun z => by cases z) fun _ => rfl) (fun z => by cases z)
theorem sameT {K : PySem.W.Frag} {H H' : Hp} {a : Addr} {xs : List V} (e : L2.Same H H') (h : SqT K H a xs) : SqT K H' a xs := by
  rcases h with (h | ⟨o, h⟩) | h
  · exact .inl (.inl (e _ _ h))
  · exact .inl (.inr ⟨o, e _ _ h⟩)
  · exact .inr h
/-- both ways of a test go on alike -/
theorem ite_dc {p : Prop} [Decidable p] {A B C : Prop} (h : C) (h1 : p → C → A) (h2 : ¬ p → C → B) : if decide p = true then A else B := by
  by_cases q : p
  · rw [decide_eq_true q]
    exact L2.iteT (h1 q h)
  · rw [decide_eq_false q]
    exact L2.iteF (h2 q h)
theorem cut_lastV (xs : List V) (x : V) : cutV (xs ++ [x]) none (some (-1)) = xs := by
  have e : HT.sIx (xs ++ [x]).length (xs ++ [x]).length (some (-1)) = xs.length := by
    show (if (-1 : Int) < 0 then ((-1 : Int) + (((xs ++ [x]).length : Nat) : Int)).toNat else min (-1 : Int).toNat (xs ++ [x]).length) = xs.length
    rw [if_pos (by decide), List.length_append]
    show ((-1 : Int) + ((xs.length + 1 : Nat) : Int)).toNat = _
    omega
  unfold cutV
  rw [e, HT.sIx_none, Nat.sub_zero, List.drop_zero]
  exact List.take_left' rfl
/-- equal data, told and due -/
def Sc : V → Prop
  | .int _ => True
  | .non => True
  | .bl _ => True
  | .str _ => True
  | _ => False
def mkO (b : Bool) (xs : List V) : HO := if b = true then .lst xs else .tup xs
def Lk (H : Hp) : Nat → V → V → Prop
  | 0, x, y => x = y ∧ Sc x
  | n + 1, x, y => (x = y ∧ Sc x) ∨ ∃ (b : Bool) (p q : Addr) (xs ys : List V), x = .ref p ∧ y = .ref q ∧ H p = some (mkO b xs) ∧ H q = some (mkO b ys) ∧ xs.length = ys.length ∧ xs.length ≤ 1000000 ∧ ∀ (i : Nat) (u v : V), xs[i]? = some u → ys[i]? = some v → Lk H n u v
theorem Lk.same {H H' : Hp} (s : L2.Same H H') : ∀ {n : Nat} {x y : V}, Lk H n x y → Lk H' n x y
  | 0, _, _, h => h
  | n + 1, _, _, .inl h => .inl h
  | n + 1, _, _, .inr ⟨b, p, q, xs, ys, e1, e2, h1, h2, h3, h4, h5⟩ => .inr ⟨b, p, q, xs, ys, e1, e2, s _ _ h1, s _ _ h2, h3, h4, fun i u v a c => (h5 i u v a c).same s⟩
theorem Lk.sc {H : Hp} {x : V} (h : Sc x) : ∀ n, Lk H n x x
  | 0 => ⟨rfl, h⟩
  | _ + 1 => .inl ⟨rfl, h⟩
theorem Lk.cases {H : Hp} {m : Nat} {u v : V} (h : Lk H m u v) : (u = v ∧ Sc u) ∨ ∃ j, m = j + 1 ∧ ∃ (b : Bool) (p q : Addr) (xs ys : List V), u = .ref p ∧ v = .ref q ∧ H p = some (mkO b xs) ∧ H q = some (mkO b ys) ∧ xs.length = ys.length ∧ xs.length ≤ 1000000 ∧ ∀ (i : Nat) (s t : V), xs[i]? = some s → ys[i]? = some t → Lk H j s t := by
  cases m with
  | zero => exact .inl h
  | succ j =>
    rcases h with h | h
    · exact .inl h
    · exact .inr ⟨j, rfl, h⟩
end LC

namespace LE
open PySem L2 PySem.Spec PyProof.Rows
/-- the type of what stands on the right: an int, a text, an instance -/
inductive TyR (H : Hp) : V → Value → Prop where
  | int (i : Int) : TyR H (.int i) (.type "int")
  | str (z : Str) : TyR H (.str z) (.type "str")
  | ins {b C dx : Addr} {fs : List (Str × V)} (e : H b = some (.ins C dx fs)) : TyR H (.ref b) (.ref C)
/-- the class at C has the def at g, of the promise sp, under the name m -/
structure Own (X : Cx) (n : Nat) (m : Str) (C g : Addr) (sp : Sp) : Prop where
  at_ : PySem.W.findIn X.K (.ref C) m = some (some (.ref g))
  fn : PySem.W.isFn X.K (.ref g) = true
  F : FnR X.prog X.w X.K X.mg X.base CX0 n g sp
/-- x == y, x an instance of a class with an own == -/
def rEqI (X : Cx) (n : Nat) : R2 := fun x y H Q => ∃ (a C dx g : Addr) (fs : List (Str × V)) (sp : Sp) (tb : Value), x = .ref a ∧ H a = some (.ins C dx fs) ∧ Own X n "__eq__" C g sp ∧ TyR H y tb ∧ PySem.W.notFirst X.K C tb = true ∧ sp [x, y] H Q E0
section
variable {X : Cx} {n : Nat}
theorem op_eqI (hr : Room n X.A) : OpR X (compareOp .Eq) (rEqI X n) := by
  intro pins s σ H x y v u Q I rx ry h
  obtain ⟨a, C, dx, g, fs, sp, tb, rfl, ha, O, ty, hn, q⟩ := h
  cases (show v = Value.ref a from rx)
  obtain ⟨mA, J, _⟩ := ins_get I.hok ha
  obtain ⟨od, J, _⟩ := J.look
  obtain ⟨m, hF⟩ := I.fr
  have lk : PySem.W.Looks (model X.prog X.w) s.heap (typeOf u) tb := by
    cases ty with
    | int i => obtain ⟨t, e⟩ := (show ∃ t, u = Value.int i t from ry); cases e; exact PySem.W.Looks.of_pure rfl
    | str i => obtain ⟨t, e⟩ := (show ∃ t, u = Value.str i t from ry); cases e; exact PySem.W.Looks.of_pure rfl
    | ins e =>
      cases ry
      obtain ⟨mB, J', _⟩ := ins_get I.hok e
      obtain ⟨od', J', _⟩ := J'.look
      exact J'.type
  show wpAny (model X.prog X.w) X.A (richCompare .Eq (.ref a) u) (EP X pins σ Q) X.xe s
  refine PySem.W.cmp_K (op := .Eq) hr.units0 hF I.ok.mod.kin J lk hn O.at_ O.fn ?_
  refine wpAny_mono (wpAny_call (run_fnR (us := [.ref a, u]) (vs := [.ref a, y]) O.F hr (E := E0) pass0 I (.cons rfl (.cons ry .nil)) q)) (fun w s' z => ?_) fun _ _ x => x
  obtain ⟨z', H', I', rz, qz⟩ := z
  exact SlX.cmpback rz ⟨z', H', I', rz, qz⟩
/-- str(x) of an instance of a class with an own __str__ -/
def rStrI (X : Cx) (n : Nat) : List V → Hp → VK → Prop := fun xs H Q => ∃ (a C dx g : Addr) (fs : List (Str × V)) (sp : Sp), xs = [V.ref a] ∧ H a = some (.ins C dx fs) ∧ Own X n "__str__" C g sp ∧ sp [.ref a] H (fun z H' => ∃ t, z = .str t ∧ Q z H') E0
theorem run_in {A : Around} {pins : List (Addr × Obj)} {s : Shared} {σ : L2.St} {H : Hp} {g : Addr} {sp : Sp} {Q : VK} {us : List Value} {ws : List V} (F : FnR X.prog X.w X.K X.mg X.base CX0 n g sp) (hr : Room n A) (e0 : Env0 X.prog X.w X.K X.mg X.base A X.stack s H) (I : Inv X pins σ H s) (r : Vals ws us) (h : sp ws H Q E0) :
    codeAny (model X.prog X.w) A (.call (.ref g) ⟨us, []⟩) (fun r s' => match r with | .ok (.ret v) => EP X pins σ Q v s' | .ok _ => False | .error e => X.xe e s') s := by
  refine codeAny_mono (F A X.stack s H us ws Q E0 hr e0 r h) fun r s' hq => ?_
  cases r with
  | error e => exact pass0 pins σ H s e s' I hq
  | ok fl =>
    cases fl with
    | ret u => exact I.after hq
    | next => exact False.elim hq
    | brk => exact False.elim hq
    | cont => exact False.elim hq
theorem call_strI (hr : Room (n + 2) X.A) : CallR X (.type "str") (rStrI X n) := by
  intro pins s σ H xs us Q I r h
  obtain ⟨a, C, dx, g, fs, sp, rfl, ha, O, q⟩ := h
  obtain ⟨u, rfl, ru⟩ := r.one
  cases (show u = Value.ref a from ru)
  obtain ⟨mA, J, _⟩ := ins_get I.hok ha
  obtain ⟨od, J, _⟩ := J.look
  have hr2 : Room n X.A.in1.in1 := (show Room (n + 1) X.A.in1 from Room.in1 hr).in1
  refine PySem.W.kso_call hr2.units0 I.kIn J O.at_ O.fn (wpAny_mono (wpAny_call (run_in (us := [.ref a]) (ws := [.ref a]) O.F hr2 I.env0.in1.in1 I (.cons rfl .nil) q)) (fun w s' z => ?_) fun _ _ x => x)
  obtain ⟨z', H', I', rz, t, ez, qz⟩ := z
  subst ez
  obtain ⟨k, e⟩ := (show ∃ k, w = Value.str t k from rz)
  cases e
  exact ⟨.str t, H', I', ⟨k, rfl⟩, qz⟩
/-- f'{x}' of such an instance -/
def tFmtI (X : Cx) (n : Nat) (te : TE) : TE := fun σ H Q => te σ H fun x H1 => ∃ (a C dx g : Addr) (fs : List (Str × V)) (sp : Sp), x = V.ref a ∧ H1 a = some (.ins C dx fs) ∧ Own X n "__str__" C g sp ∧ PySem.W.findIn X.K (.ref C) "__format__" = some (some (.builtin "object.__format__")) ∧ PySem.W.mroIn X.K C (.type "object") = some true ∧
  sp [.ref a] H1 (fun z H' => ∃ t, z = .str t ∧ Q z H') E0
theorem pe_fmtI {e : Expr} {te : TE} {pos : Pos} (hr : Room (n + 1) X.A) (he : PE X e te) : PE X (.FormattedValue e (-1) none pos) (tFmtI X n te) := by
  refine ⟨fun pins s σ H Q I h => ?_⟩
  refine wpAny_FormattedValue_plain (thn (he.run pins s σ H _ I h) fun v s1 hv => ?_)
  obtain ⟨x, H1, I1, r1, a, C, dx, g, fs, sp, rfl, ha, O, hf, hm, q⟩ := hv
  cases (show v = Value.ref a from r1)
  obtain ⟨mA, J, _⟩ := ins_get I1.hok ha
  obtain ⟨od, J, _⟩ := J.look
  have hr1 : Room n X.A.in1 := Room.in1 hr
  have I2 := I1.tok (s1.toks + 1)
  refine PySem.W.kfo_fieldS hr1.units0 I1.kIn J hf hm O.at_ O.fn (wpAny_mono (wpAny_call (run_in (us := [.ref a]) (ws := [.ref a]) O.F hr1 I2.env0.in1 I2 (.cons rfl .nil) q)) (fun w s' z => ?_) fun _ _ x => x)
  obtain ⟨z', H', I', rz, t, ez, qz⟩ := z
  subst ez
  obtain ⟨k, e⟩ := (show ∃ k, w = Value.str t k from rz)
  cases e
  exact ⟨.str t, H', I', ⟨k, rfl⟩, qz⟩
end
end LE

namespace LL
open PySem PySem.Spec PyProof.Rows L2 LamX
/-! ### a lambda handed to a def that calls it within a try: the clauses see the names as they stood at the call -/
section
variable {X : Cx} {pins : List (Addr × Obj)} {σ : L2.St} {H : Hp} {s : Shared}
/-- x() in the def that got the lambda, the way out told at the very names -/
theorem pe_actS {CXg : CXT} {Eg : XK} {Ng : List Str} {qg : Str} {sg : Scope} {g f c' : Addr} {cdg pm ctv : Value} {params : Arguments} {body : Expr} {scope : Scope} {k i : Nat} {a : Str} {pn : List (Addr × Obj)} {xe : Value → Shared → Prop} {W : WX} {tb : XK → TE} {p1 p2 : Pos}
    (I : Inv X pins σ H s) (L : LamS X.env.scope scope) (hf : s.heap.get? f = some (PySem.W.kla_obj "<lambda>" (X.env.qual ++ "<lambda>") params body scope (cloFrom X.env.cells scope.names []) pm c' ctv)) (hfn : H f = none) (hfr : f ∉ frs X.stack)
    (hbind : bindArgs (PySem.W.kla_fn "<lambda>" (X.env.qual ++ "<lambda>") params body scope (cloFrom X.env.cells scope.names []) pm (.ref c') ctv) ⟨[], []⟩ = pure [])
    (tk : Takes ((cxOf CXg X.prog X.w X.K X.mg X.base Ng qg sg g cdg X.A X.stack s H Eg).tr pn xe) W) (hr : Room (k + 1) (X.A.deeper (envOfC qg sg s.heap.objs.size g cdg)))
    (hbody : ∀ (A : Around) (outer : List Env) (s : Shared) (H : Hp) (E : XK), Room k (A.deeper (lamEnv X scope s.heap.objs.size f c')) → PE (lamCx X A outer s H E scope f c') body (tb E))
    (hN : Ng[i]? = some a) (hv : Vis sg a) (hd : (a == ("__debug__" : Str)) = false := by decide) (hcd : (a == ("__classdict__" : Str)) = false := by decide) :
    PE ((cxOf CXg X.prog X.w X.K X.mg X.base Ng qg sg g cdg X.A X.stack s H Eg).tr pn xe) (.Call (.Name a p1) [] [] p2)
      (fun σZ HZ Q => σZ[i]? = some (some (.ref f)) ∧ HZ c' = some (CodeO c' (X.env.qual ++ "<lambda>")) ∧ tb (fun cls d H' => W cls d σZ H') σ HZ Q) := by
  refine ⟨fun pz sz σz Hz Q J0 h => ?_⟩
  obtain ⟨hs, hc, ht⟩ := h
  refine wpAny_Call_Name_kw (thn ((pe_var (pos := p1) (i := i) hN hv hd hcd).run pz sz σz Hz (fun v H1 => v = .ref f ∧ H1 = Hz) J0 ⟨.ref f, hs, rfl, rfl⟩) fun u s1 ⟨v, H1, J1, rv, ev, eH⟩ => ?_)
  subst ev
  subst eH
  obtain rfl : u = Value.ref f := rv
  have at1 := J1.base.keep f _ hf hfn hfr (fun z => nomatch (show f ∈ ([] : List Addr) from z))
  have un : Un (frs X.stack) [] H H1 s.heap s1.heap := J1.base
  refine PySem.W.callWith_F0 ⟨_, _, _, _, at1⟩ ?_
  obtain ⟨⟨oc, vs, t, ho, hdc, hvc⟩, _, _⟩ := J1.hok c' _ hc
  let E : XK := fun cls d H' => W cls d σz H'
  have run : codeAny (model X.prog X.w) (X.A.deeper (envOfC qg sg s.heap.objs.size g cdg)) (.call (.ref f) ⟨[], []⟩) (CR (L2.CX X.prog X.w) (envOfC qg sg s.heap.objs.size g cdg :: X.stack) X.prog X.w H1 s1 Q E) s1 := by
    refine PySem.W.kla_callFunE hr.depth at1 rfl L.co L.gen rfl ⟨c', oc, vs, t, rfl, ho, hdc, hvc⟩ ?_
    rw [hbind]
    refine wpAny_pure (wpAny_newFunctionEnv (fun y hy => (L.own y hy).2) (fun y hy => absurd hy (by simp)) (fun hh hns hsb => ⟨J1.nolimit.fresh _ hsb, ?_⟩) L.kind)
    show codeAny _ _ (.expr body (lamEnv X scope s1.heap.objs.size f c')) _ _
    have kp : ∀ b o, s1.heap.get? b = some o → hh.get? b = some o := fun b o e => hsb.extBut b o (Nat.ne_of_lt (Heap.lt_size e)) (Heap.get?_push_of_some _ e)
    refine PySem.W.kla_codeExpr (wpAny_mono ((hbody _ _ s1 H1 E (hr.deeper _)).run [] _ _ H1 Q (lam_start2 I L J1.env0 hr.hd un hns kp) ht) (fun v s' hq => ?_) fun e s' hq => hq)
    obtain ⟨w', H', J', rv, q⟩ := hq
    exact ⟨w', H', J'.os, J'.bare, J'.base, J'.hok, rv, q⟩
  refine wpAny_call (codeAny_mono run fun r s' hq => ?_)
  match r, hq with
  | .error e, hq => exact (passAt tk σz) pz H1 s1 e s' J1 hq
  | .ok (.ret u), hq => exact J1.after hq
end
/-- what the body of such a def gives, if its call of x runs as tl -/
def GivesS (X : Cx) (Ng : List Str) (x : Str) (sg : Scope) (g : Addr) (cdg : Value) (bg : List Stmt) (a : Str) (q : Str) (TT : (XK → Hp → VK → Prop) → Hp → VK → Prop) : Prop :=
  ∀ (f c' : Addr) (s : Shared) (H : Hp) (Q : VK) (tl : XK → Hp → VK → Prop),
    (∀ (W : WX) (pn : List (Addr × Obj)) (xe : Value → Shared → Prop) (p1 p2 : Pos), Takes ((cxOf CX0 X.prog X.w X.K X.mg X.base Ng x sg g cdg X.A X.stack s H E0).nox.tr pn xe) W →
      PE ((cxOf CX0 X.prog X.w X.K X.mg X.base Ng x sg g cdg X.A X.stack s H E0).nox.tr pn xe) (.Call (.Name a p1) [] [] p2) (fun σZ HZ Q => σZ[0]? = some (some (.ref f)) ∧ HZ c' = some (CodeO c' q) ∧ tl (fun cls d H' => W cls d σZ H') HZ Q)) →
    H c' = some (CodeO c' q) → TT tl H Q →
    ∃ t, PSs (cxOf CX0 X.prog X.w X.K X.mg X.base Ng x sg g cdg X.A X.stack s H E0).nox bg t ∧ t { nx := fun _ H' => Q .non H', rt := Q } (L2.start Ng [.ref f]) H
/-- x(lambda: body) -/
theorem pe_lamcallS {X : Cx} {T : List (Addr × Str)} {TT : (XK → Hp → VK → Prop) → Hp → VK → Prop} {x a : Str} {g c P : Addr} {k : Nat} {st : Stmt} {fd : FuncData} {Ng : List Str} {params : Arguments} {body : Expr} {scope : Scope} {t : XK → TE} {p lpos pos : Pos} {ql : Str}
    (D : LC.Def X.K X.mg x st [a] g fd) (hg : Gl X x) (Sg : FnScope Ng [a] (defScope st)) (hNg : Ng[0]? = some a) (hva : Vis (defScope st) a) (hG : ∀ cdg, GivesS X Ng x (defScope st) g cdg (defBody st) a (X.env.qual ++ "<lambda>") TT)
    (hql : X.env.qual = ql) (TB : TabB X.base X.mg c P) (hcode : X.env.code = .ref c) (hmT : (P, ql ++ "<lambda>") ∈ T) (hu : ∀ p ∈ T, p.1 = P → p.2 = ql ++ "<lambda>") (hr : Room (k + 2) X.A) (L : LamS X.env.scope scope) (hdef : defaultsOf params X.env = ([], []))
    (hbind : ∀ (q : Str) (cl : List (Str × Addr)) (pm cv ctv : Value), bindArgs (PySem.W.kla_fn "<lambda>" q params body scope cl pm cv ctv) ⟨[], []⟩ = pure [])
    (hbody : ∀ (A : Around) (outer : List Env) (s : Shared) (H : Hp) (E : XK) (f c' : Addr), Room k (A.deeper (lamEnv X scope s.heap.objs.size f c')) → PE (lamCx X A outer s H E scope f c') body (t E))
    (hdb : (x == ("__debug__" : Str)) = false := by decide) (hd : (a == ("__debug__" : Str)) = false := by decide) (hcd : (a == ("__classdict__" : Str)) = false := by decide) :
    PE X (.Call (.Name x p) [.Lambda params body scope lpos] [] pos) (tLam T TT t) := by
  subst hql
  refine ⟨fun pins s σ H Q I h => ?_⟩
  obtain ⟨hT, h⟩ := h
  obtain ⟨oc, od, kV, doc, pm, an, cdv, ct, osl, rfl, lk, hcg⟩ := D.F.ex
  refine wpAny_Call_Name_kw (ld_glob I hg D.g ?_ hdb)
  refine PySem.W.callWith_K (h₀ := X.base) I.ok.mod.kin D.F.kp ?_ (by rfl) (by rfl)
  show wpAny _ _ (spliced ((false, eval (.Lambda params body scope lpos) X.env) :: backTo pos (starEach [] X.env))) _ _ s
  refine Calls.spliced_cons (lam_make2 I TB hcode hmT hu hT hdef (L.has I.ok) fun f c' pm' ctv H1 s' I1 eN T1 hf hfn hfr hco => ?_)
  refine Calls.spliced_nil ⟨I1.kIn, ?_⟩
  have rc : codeAny (model X.prog X.w) X.A (.call (.ref g) ⟨[.ref f], []⟩) (CR CX0 X.stack X.prog X.w H1 s' Q E0) s' := by
    refine run_ofS (N := Ng) (ps := [a]) (us := [.ref f]) (vs := [.ref f]) lk hcg Sg hr I1.env0 (D.b s' [.ref f] I1.kIn rfl) (.cons rfl .nil) rfl fun hr' => ?_
    obtain ⟨t', ht', hq'⟩ := hG cdv f c' s' H1 Q (fun E H' Q' => t E σ H' Q') (fun W pn xe p1 p2 tk => pe_actS (CXg := CX0) (Eg := E0) (i := 0) I1 L hf hfn hfr (hbind _ _ _ _ _) tk hr' (fun A outer s H E hr2 => hbody A outer s H E f c' hr2) hNg hva hd hcd) hco (h H1 eN T1)
    exact ⟨t', ht'.nox, hq'⟩
  refine wpAny_call (codeAny_mono rc fun r s2 hq => ?_)
  match r, hq with
  | .error e, hq => exact (show False from hq).elim
  | .ok (.ret u), hq => exact I1.after hq
/-- a def's body where its code object is known -/
theorem okC {P : Program} {w : World} {K : PySem.W.Frag} {mg : Str → Option Value} {base : Heap} {x qual : Str} {st : Stmt} {f c : Addr} {N ps : List Str} {k : Nat} {sp : Sp} {oc kV doc pm ct : Value} {od an : Option Addr} {osl : Array (Option Value)}
    (lk : K.lookup f = some ⟨oc, od, .func (PySem.W.fnOf x qual (defArgs st) (defBody st) (defScope st) .none kV doc pm an (.ref c) ct), osl⟩) (hcd : PySem.W.codeIn K (.ref c) qual = true) (S : FnScope N ps (defScope st)) (len : ∀ vs H Q E, sp vs H Q E → vs.length = ps.length)
    (hbody : ∀ (A : Around) (outer : List Env) (s : Shared) (H : Hp) (vs : List V) (Q : VK) (E : XK), Room k (A.deeper (envOfC qual (defScope st) s.heap.objs.size f (.ref c))) → sp vs H Q E →
      ∃ t, PSs (cxOf CX0 P w K mg base N qual (defScope st) f (.ref c) A outer s H E).nox (defBody st) t ∧ t { nx := fun _ H' => Q .non H', rt := Q } (start N vs) H) :
    FnOk P w K mg base CX0 (k + 1) f (PySem.W.fnOf x qual (defArgs st) (defBody st) (defScope st) .none kV doc pm an (.ref c) ct) ps sp :=
  fn_of lk hcd S len fun A outer s H vs Q E hr hsp => by
    obtain ⟨t, h, q⟩ := hbody A outer s H vs Q E hr hsp
    exact ⟨t, h.nox, q⟩
end LL

namespace LE2
open PySem PySem.Spec PyProof.Rows L2 LamX
/-- the end by tables of the law's defs -/
theorem walk_own2 {l : PySem.W.OpenLaw} {n k : Nat} {q : Program} {loose : List Str} {XP : (Str → Option Value) → Heap → Prop} {YP : World → Heap → Prop} {d : DefRec} {K : Params → PySem.W.Frag} {CX : World → CXT} {x : Str} {NM : Str → Prop}
    (hn : l.most = some n) (hn2 : n ≤ sizeLine) (hdf : d.params.defaults = []) (hr : Room k callerA) (hrec : ∀ nm : Str, NM nm → ((recsOf q).any fun e => e.name == nm) = true) (hY : ∀ (w : World) (h : Heap), YP w h → (K w.params).In h)
    (F : ∀ (w : World) (mg : Str → Option Value) (fa : Addr) (h : Heap), YP w h → (K w.params).In h → h.Ns mainGlobals mg → mg d.name = some (.ref fa) → (∀ nm : Str, NM nm → ∀ fb, mg nm = some (.ref fb) → OwnTab (K w.params) fb h) → LawAtS l w (K w.params) (CX w) k n x mg fa h)
    (hCX : ∀ (w : World) (H : Hp) (s : Shared) (e : Value) (s' : Shared), CX w [] H s (fun _ _ _ => False) e s' → False) :
    PySem.W.WalkO q loose XP YP l.row.toRowW d [] (fun f vs => PySem.call f vs) := by
  refine Att.attach_callB hn hdf fun w s₀ s₁ mg mb fa o pm cd doc a vs ns G Y ho hd hcd hmg hobj hints hlen hbits hg => ?_
  have KX := hY w _ Y
  have own : ∀ nm : Str, NM nm → ∀ fb, mg nm = some (.ref fb) → OwnTab (K w.params) fb s₁.heap := fun nm hnm fb hfb c P o1 fd1 e dd vs1 sl k1 k2 k3 k4 k5 => by
    obtain ⟨dL, hm, hn1⟩ := List.any_eq_true.mp (hrec nm hnm)
    have e0 : dL.name = nm := beq_iff_eq.mp hn1
    obtain ⟨a', o', fd', c', P', h1, h2, h3, h4, h5, h6⟩ := G.T.tab dL hm
    rw [e0, hfb] at h1
    cases h1
    have g1 := KX _ _ k1
    rw [g1] at h2
    cases h2
    rw [k2] at h3
    cases h3
    rw [k3] at h4
    cases h4
    obtain ⟨⟨oc, vc, e1, _, e3, e4⟩, hP⟩ := h6
    have g2 := KX _ _ k4
    rw [g2] at e1
    cases e1
    cases e3
    rw [k5] at e4
    cases e4
    exact hP
  obtain ⟨fd, cs, sp, hT, nT, C, hb, hsp, hF⟩ := F w mg fa _ Y KX G.T.g hmg own
  exact law_callTs KX G.T.g G.T.b G.T.builtins G.T.nolimit hg hT nT C G.T.bmain hobj hints (Nat.le_trans hlen hn2) hr hF hb (fun H hH hS => hsp H a ns hlen hbits hH hS) fun H e s' => hCX w H s₁ e s'
end LE2
namespace LE2
open PySem L2
/-- the fields of a code object at c that has its table at P -/
def hdB (vs : Array Value) (c P : Addr) : Bool := (match (vs[11]? : Option Value) with | some (.ref P') => P' == P | _ => false) &&
      (match vs.getD 18 .none with | .str _ _ => true | _ => false) && (match vs.getD 7 .none with | .int _ _ => true | _ => false) &&
      (match vs.getD 9 .none with | .bool _ => true | _ => false) && (match vs.getD 10 .none with | .int _ _ => true | _ => false) && c != P
theorem hd_of {K : PySem.W.Frag} {c P : Addr} {od : Option Addr} {vs : Array Value} {sl : Array (Option Value)} (h : K.lookup c = some ⟨.type "code", od, .fields vs, sl⟩) (r : hdB vs c P = true) : PySem.W.codeHdIn K c P = true := by
  unfold PySem.W.codeHdIn
  rw [h]
  exact r
/-- facts of classes, from the plain look-ups -/
theorem kit_tyF {K : PySem.W.Frag} {R : Addr} {t : String} (c : PySem.W.isClsIn K R = true) (y : PySem.W.typeIn K (.ref R) = some (.type "type")) (h : PySem.W.subIn K (.type t) (.ref R) = some false) : PySem.W.kitOne K (.type t) (.ref R) = some false := by
  have c' : (PySem.W.clsIn K R).isSome = true := c
  have e : ((Value.type t : Value) == Value.ref R) = false := rfl
  unfold PySem.W.kitOne
  rw [e, if_neg Bool.false_ne_true]
  show (if ((PySem.W.clsIn K R).isSome && PySem.W.typeIn K (.ref R) == some (.type "type")) = true then PySem.W.subIn K (.type t) (.ref R) else none) = some false
  rw [c', y, if_pos (by rfl)]
  exact h
theorem kit_ref {K : PySem.W.Frag} {C R : Addr} {b : Bool} (c : PySem.W.isClsIn K R = true) (y : PySem.W.typeIn K (.ref R) = some (.type "type")) (s : PySem.W.subIn K (.ref C) (.ref C) = some true) (h : PySem.W.subIn K (.ref C) (.ref R) = some b) : PySem.W.kitOne K (.ref C) (.ref R) = some b := by
  have c' : (PySem.W.clsIn K R).isSome = true := c
  unfold PySem.W.kitOne
  by_cases q : ((Value.ref C : Value) == Value.ref R) = true
  · rw [if_pos q]
    have e : C = R := by simpa using q
    subst e
    rw [s] at h
    exact h
  · rw [if_neg q]
    show (if ((PySem.W.clsIn K R).isSome && PySem.W.typeIn K (.ref R) == some (.type "type")) = true then PySem.W.subIn K (.ref C) (.ref R) else none) = some b
    rw [c', y, if_pos (by rfl)]
    exact h
theorem any2F {K : PySem.W.Frag} {v c1 c2 : Value} (h1 : PySem.W.kitOne K v c1 = some false) (h2 : PySem.W.kitOne K v c2 = some false) : PySem.W.kitAny K v [c1, c2] = some false := by
  unfold PySem.W.kitAny
  rw [h1]
  show PySem.W.kitAny K v [c2] = some false
  unfold PySem.W.kitAny
  rw [h2] <;> rfl
theorem any2T1 {K : PySem.W.Frag} {v c1 c2 : Value} (h1 : PySem.W.kitOne K v c1 = some true) : PySem.W.kitAny K v [c1, c2] = some true := by
  unfold PySem.W.kitAny
  rw [h1]
theorem any2T2 {K : PySem.W.Frag} {v c1 c2 : Value} (h1 : PySem.W.kitOne K v c1 = some false) (h2 : PySem.W.kitOne K v c2 = some true) : PySem.W.kitAny K v [c1, c2] = some true := by
  unfold PySem.W.kitAny
  rw [h1]
  show PySem.W.kitAny K v [c2] = some true
  unfold PySem.W.kitAny
  rw [h2]
theorem nf_of {K : PySem.W.Frag} {C : Addr} {tb : Value} (h : PySem.W.subIn K tb (.ref C) = some false) : PySem.W.notFirst K C tb = true := by
  unfold PySem.W.notFirst
  rw [h]
  simp
end LE2

namespace LN
open PySem PySem.Spec PyProof.Rows L2
/-! ### enumerate over a tuple -/
/-- enumerate(v): what its making leaves -/
theorem newT {v : Value} {o : Obj} {H : Heap → Prop} (B : Begins v o H) :
    Meets (Builtin.«enumerate.__new__» ⟨[.type "enumerate", v], []⟩) (fun _ R s' => H s'.heap ∧
      R (.ok (.ret (.ref (s'.heap.push o).objs.size)))
        { s' with heap := (s'.heap.push o).push ({ cls := .type "enumerate", data := .fields #[.none, .bool false, .ref s'.heap.objs.size, rawInt 0, .none, .none] } : Obj) }) :=
  .of_wp fun prog w A R st h0 => by
    obtain ⟨hp, gg, dd, tk, os⟩ := st
    obtain ⟨h1, h⟩ := h0
    have su := sub_enumerate
    have go : ∀ {A' : Around} {E : Value → Shared → Prop} {Q : Value → Shared → Prop}, Q (.ref hp.objs.size) ⟨hp.push o, gg, dd, tk, os⟩ →
        wpAny (model prog w) A' (pyIter v) Q E ⟨hp, gg, dd, tk, os⟩ := fun q => B.iter prog w _ _ ⟨hp, gg, dd, tk, os⟩ _ h1 q
    wp_walk using go
    refine wpAny_stack_any fun _ => wpAny_pure ?_
    split
    · rename_i c _ _ _ _ _
      cases (c == Value.type "enumerate") <;> (wp_walk using go; exact ⟨_, rfl, h⟩)
    · (wp_walk using go; exact ⟨_, rfl, h⟩)
section
variable {prog : Program} {w : World} {A : Around} {E : Value → Shared → Prop} {s : Shared}
theorem call_enumT {t : Addr} {items : Array Value} {Q : Value → Shared → Prop} (ht : s.heap.IsTuple t items)
    (h : ∀ h', IsEnum h' (s.heap.objs.size + 1) s.heap.objs.size 0 .none → h'.IsTupleIter s.heap.objs.size t 0 →
      (∀ b o, s.heap.get? b = some o → h'.get? b = some o) → Q (.ref (s.heap.objs.size + 1)) { s with heap := h' }) :
    wpAny (model prog w) A (call (.type "enumerate") [.ref t]) Q E s := by
  let ob : Obj := { cls := .type "tuple_iterator", data := .fields #[.ref t, .int 0 0] }
  let oe : Obj := { cls := .type "enumerate", data := .fields #[.none, .bool false, .ref s.heap.objs.size, rawInt 0, .none, .none] }
  refine callType_new F.called_enumerate (by decide) (F.typeCall_enumerate_1 _)
    (F.newCall_enumerate_1 _) (fun obj => F.args_object_init_2 obj _) F.entry_enumerate_new (newT (begins_tuple t items)) ⟨ht, ?_⟩
  have hz : (s.heap.push ob).objs.size = s.heap.objs.size + 1 := Heap.size_push ..
  have q := Heap.get?_push_size (s.heap.push ob) (o := oe) rfl
  show _ ∧ _
  rw [hz] at q ⊢
  have he : IsEnum ((s.heap.push ob).push oe) (s.heap.objs.size + 1) s.heap.objs.size 0 .none := q
  refine ⟨⟨_, he, rfl⟩, h _ he ⟨ob, Heap.get?_push_of_some _ (Heap.get?_push_size _ (o := ob) rfl), rfl, rfl⟩ fun b o x => ?_⟩
  exact Heap.get?_push_of_some _ (Heap.get?_push_of_some _ x)
end
def IteT (K : PySem.W.Frag) (a : Addr) : It :=
  ⟨fun i H => ∃ (xs : List V) (x : V), SqT K H a xs ∧ xs[i]? = some x,
    fun i H v H' => ∃ T x, v = .ref T ∧ H T = none ∧ H' = upd H T (.tup [.int (i : Nat), x]) ∧ ∀ xs, SqT K H a xs → xs[i]? = some x,
    fun i H => ∃ xs : List V, SqT K H a xs ∧ xs.length = i⟩
theorem turn_enumT {P : Program} {w : World} {K : PySem.W.Frag} {elts : List Expr} {kk : Nat} {tpos : Pos} (a e it : Addr) :
    Turn P w K (.Tuple elts kk tpos) (IteT K a) [e, it] e
      (fun i h => (∃ old, IsEnum h e it ((i : Nat) : Int) old) ∧ h.IsTupleIter it a i ∧ e ≠ it ∧ e ≠ a ∧ a ≠ it) where
  mem := by simp
  obj := fun i h st b hb => by
    obtain ⟨⟨old, he⟩, ⟨o, ho, hc, hd⟩, _⟩ := st
    rcases (show b = e ∨ b = it by simpa using hb) with z | z
    · rw [z]
      exact ⟨_, he, fun v q => nomatch q⟩
    · rw [z]
      exact ⟨o, ho, fun v q => by rw [hd] at q; cases q⟩
  keep := fun i h h' st k => by
    obtain ⟨⟨old, he⟩, hi, r⟩ := st
    exact ⟨⟨old, k e (by simp) _ he⟩, hi.at fun o q => k it (by simp) o q, r⟩
  item := by
    intro X hP hw hK hc i pins s σ H E I hf st hg
    subst hP hw hK
    obtain ⟨⟨old, he⟩, hit, hne, hea, hai⟩ := st
    obtain ⟨xs, x, hq, hx⟩ := hg
    obtain ⟨its, rv, p, hz⟩ := I.tuple hq
    obtain ⟨u, hu, ru⟩ := rv.get hx
    have hel : e < s.heap.objs.size := Heap.lt_size he
    have hil : it < s.heap.objs.size := by
      obtain ⟨_, q, _⟩ := hit
      exact Heap.lt_size q
    have hlt : i < its.toArray.size := by
      have := (List.getElem?_eq_some_iff.mp hu).1
      simpa using this
    refine wpAny_pyNext_enum_itemD (Draws.tuple (A := X.A.in1) (I.ok.hd hc) it a hai its.toArray) he ⟨hit, p⟩ hlt hne (by simp [hne, hea]) fun x' h' tk hx' ho st' hT hsz hk => ?_
    obtain rfl : x' = u := by
      rw [show its.toArray[i]? = its[i]? by simp, hu] at hx'
      exact (Option.some.inj hx').symm
    refine ⟨_, rfl, wpAny_letOwnedTupleGo_enum (s := { s with heap := h', toks := tk + 1 }) ho fun h'' he' sb => ?_⟩
    have hT2 := (sb.2 _ (Nat.ne_of_gt hel)).trans hT
    have new : ObjOk X.prog X.w (upd H s.heap.objs.size (.tup [.int (i : Nat), x])) h'' s.heap.objs.size (.tup [.int (i : Nat), x]) :=
      ⟨by show 2 ≤ sizeLine; decide, [.int i tk, x'], .cons ⟨_, rfl⟩ (.cons ru .nil), ⟨_, hT2, rfl, _, rfl⟩⟩
    have I1 : Inv X pins σ (upd H s.heap.objs.size (.tup [.int (i : Nat), x])) { s with heap := h'', toks := tk + 1 } :=
      I.turnedNew (t' := tk + 1) (ch := [e, it]) (fun b ob hb q => (sb.2 b (fun z => hb (by simp [z]))).trans (hk b ob (fun z => hb (by simp [z])) (fun z => hb (by simp [z])) q)) hf (Nat.le_refl _) new
    refine ⟨.ref s.heap.objs.size, _, I1, rfl, ⟨_, x, rfl, I.hok.fresh (Nat.le_refl _), rfl, fun ys hy => ?_⟩, ⟨⟨x', ?_⟩, st'.1.at fun o q => (sb.2 it (Ne.symm hne)).trans q, hne, hea, hai⟩, fun b hb => ?_⟩
    · rw [I.tuple_inj hy hq]
      exact hx
    · rw [show ((i + 1 : Nat) : Int) = (i : Int) + 1 by omega]
      exact he'
    · have hb' : b < s.heap.objs.size := by
        rcases (show b = e ∨ b = it by simpa using hb) with z | z
        · exact z ▸ hel
        · exact z ▸ hil
      rw [upd_ne (Nat.ne_of_lt hb')]
      exact (hf b hb).1
  done := by
    intro X hP hw hK hc i pins s σ H E I hf st hg
    subst hP hw hK
    obtain ⟨⟨old, he⟩, hit, hne, hea, hai⟩ := st
    obtain ⟨xs, hq, hx⟩ := hg
    obtain ⟨its, rv, p, hz⟩ := I.tuple hq
    obtain ⟨f0, f1, f2, f3, f4, f5⟩ := hf it (by simp)
    have hl := rv.length
    have hi : i = its.toArray.size := by rw [List.size_toArray, ← hl, hx]
    subst hi
    refine wpAny_pyNext_enum_endD (Draws.tuple (A := X.A.in1) (I.ok.hd hc) it a hai its.toArray) he ⟨hit, p⟩ fun h' eb => ?_
    exact ⟨rfl, I.turned (t' := s.toks) (fun b o hb q => eb b o hb q) f0 f1 f3 f4 f5⟩
  self := fun A i s Q E st h => by
    obtain ⟨⟨_, he⟩, _⟩ := st
    exact wpAny_pyIter_enum he h
def iEnumT (K : PySem.W.Frag) (ta : TA) : TI := fun σ H R => ta σ H fun vs H1 => ∃ (a : Addr) (xs : List V), vs = [.ref a] ∧ SqT K H1 a xs ∧ R (IteT K a) H1
theorem pi_enumT {X : Cx} {e : Expr} {ta : TA} {p pos tpos : Pos} {elts : List Expr} {kk : Nat} (hg : Gl X "enumerate") (hm : X.mg "enumerate" = none) (ha : PA X [e] ta) (hs : starEach [e] X.env = [(false, eval e X.env)] := by rfl) :
    PI X (.Tuple elts kk tpos) (.Call (.Name "enumerate" p) [e] [] pos) (iEnumT X.K ta) := by
  refine ⟨fun pins s σ H R I h => Call_ (ld_blt I hg hm boot_enumerate (PyProof.Rows.callWith_type1 (thn (ha.run pos pins s σ H _ I h) fun us s1 ⟨vs, H1, I1, r1, a, xs, ex, hq, q⟩ => ?_) hs rfl))⟩
  subst ex
  rw [Vals.ref1 r1]
  obtain ⟨its, rv, pt, hz⟩ := I1.tuple hq
  have hal : a < s1.heap.objs.size := by
    obtain ⟨_, z, _⟩ := pt
    exact Heap.lt_size z
  refine call_enumT pt fun h' he hit hk => wpAny_pyIter_enum he ?_
  have I2 : Inv X pins σ H1 { s1 with heap := h' } := I1.kept (t' := s1.toks) hk
  refine ⟨s1.heap.objs.size + 1, [s1.heap.objs.size + 1, s1.heap.objs.size], _, _, H1, rfl, I2, turn_enumT a (s1.heap.objs.size + 1) s1.heap.objs.size, ⟨⟨.none, he⟩, hit, Nat.succ_ne_self _, Ne.symm (Nat.ne_of_lt (Nat.lt_succ_of_lt hal)), Nat.ne_of_lt hal⟩, fun b hb => ?_, q⟩
  have hle : s1.heap.objs.size ≤ b := by
    rcases (show b = s1.heap.objs.size + 1 ∨ b = s1.heap.objs.size by simpa using hb) with z | z
    · rw [z]; exact Nat.le_succ _
    · rw [z]; exact Nat.le_refl _
  exact I1.fpOk hle (I1.hok.fresh hle)
theorem walk_enumT {K : PySem.W.Frag} {a : Addr} {xs : List V} : Walk (IteT K a) xs.length (fun H => SqT K H a xs) (YPair (fun i => some (.int (i : Nat))) (fun i => xs[i]?)) := by
  refine ⟨fun i _ hi q => ⟨xs, xs[i], q, by simp [hi]⟩, fun _ q => ⟨xs, q, rfl⟩, fun i H v H' _ q y => ?_⟩
  obtain ⟨T, x, h1, h2, h3, h4⟩ := y
  exact ⟨T, .int (i : Nat), x, h1, h2, h3, rfl, h4 xs q⟩
/-! ### repr of six booleans -/
end LN

namespace LO
open PySem L2 PySem.Spec PyProof.Rows
/-- either of two readings -/
theorem pi_or {X : Cx} {tg e : Expr} {w1 w2 : TI} (p : PI X tg e w1) (q : PI X tg e w2) : PI X tg e (fun σ H R => w1 σ H R ∨ w2 σ H R) :=
  ⟨fun pins s σ H R I h => h.elim (p.run pins s σ H R I) (q.run pins s σ H R I)⟩
theorem pe_or {X : Cx} {e : Expr} {t1 t2 : TE} (p : PE X e t1) (q : PE X e t2) : PE X e (fun σ H Q => t1 σ H Q ∨ t2 σ H Q) :=
  ⟨fun pins s σ H Q I h => h.elim (p.run pins s σ H Q I) (q.run pins s σ H Q I)⟩
/-- x == y, x an instance of a class with an own ==, y of any type -/
def rEqO (X : Cx) (n : Nat) : R2 := fun x y H Q => ∃ (a C dx g : Addr) (fs : List (Str × V)) (sp : Sp) (tb : Value), x = .ref a ∧ H a = some (.ins C dx fs) ∧ LE.Own X n "__eq__" C g sp ∧ TyX X.K H y tb ∧ PySem.W.notFirst X.K C tb = true ∧ sp [x, y] H Q E0
/-- x != y by the own == -/
def rNeO (X : Cx) (n : Nat) : R2 := fun x y H Q => ∃ (a C dx g : Addr) (fs : List (Str × V)) (sp : Sp) (tb : Value), x = .ref a ∧ H a = some (.ins C dx fs) ∧ LE.Own X n "__eq__" C g sp ∧ PySem.W.findIn X.K (.ref C) "__ne__" = some (some (.builtin "object.__ne__")) ∧ PySem.W.mroIn X.K C (.type "object") = some true ∧ TyX X.K H y tb ∧ PySem.W.notFirst X.K C tb = true ∧ sp [x, y] H (fun v H' => ∃ b, v = .bl b ∧ Q (.bl (!b)) H') E0
section
variable {X : Cx} {n : Nat}
theorem op_eqO (hr : Room n X.A) : OpR X (compareOp .Eq) (rEqO X n) := by
  intro pins s σ H x y v u Q I rx ry h
  obtain ⟨a, C, dx, g, fs, sp, tb, rfl, ha, O, ty, hn, q⟩ := h
  cases (show v = Value.ref a from rx)
  obtain ⟨mA, J, _⟩ := ins_get I.hok ha
  obtain ⟨od, J, _⟩ := J.look
  obtain ⟨m, hF⟩ := I.fr
  obtain ⟨P, Z, p, _⟩ := kit_of I ry ty
  show wpAny (model X.prog X.w) X.A (richCompare .Eq (.ref a) u) (EP X pins σ Q) X.xe s
  refine PySem.W.cmp_K (op := .Eq) hr.units0 hF I.ok.mod.kin J (Z.ty _ _ I.kIn p) hn O.at_ O.fn ?_
  refine wpAny_mono (wpAny_call (run_fnR (us := [.ref a, u]) (vs := [.ref a, y]) O.F hr (E := E0) pass0 I (.cons rfl (.cons ry .nil)) q)) (fun w s' z => ?_) fun _ _ x => x
  obtain ⟨z', H', I', rz, qz⟩ := z
  exact SlX.cmpback rz ⟨z', H', I', rz, qz⟩
theorem ne_entry {prog : Program} {w : World} {A : Around} {E : Value → Shared → Prop} {s : Shared} {K : PySem.W.Frag} {x C f : Addr} {ox : Obj} {od : Option Obj} {b : Value} (Xk : K.In s.heap) (I : PySem.W.InstAt s.heap x ox C od) (hs : PySem.W.findIn K (.ref C) "__eq__" = some (some (.ref f))) (hf : PySem.W.isFn K (.ref f) = true)
    (hu : A.units < cLine) {Q : Fin → Shared → Prop} (hcall : wpAny (model prog w) A (call (.ref f) [.ref x, b]) (fun v s' => ∃ c, v = .bool c ∧ Q (.done (.ret (.bool (!c)))) s') E s) :
    wpAny (model prog w) A (Builtin.«object.__ne__» ⟨[.ref x, b], []⟩) Q E s := by
  obtain ⟨h, g, d, t, os⟩ := s
  unfold Builtin.«object.__ne__»
  repeat (first
    | with_reducible refine wpAny_cRoomFor hu ?_
    | (refine wpAny_bind (m := callSpecialIfBound? (.ref x) (Str.ofString "__eq__") [b])
        (PySem.W.ifBound_K Xk I hs hf (wpAny_mono hcall (fun r s' hr => by
          obtain ⟨c, rfl, hq⟩ := hr
          repeat (first | exact hq | exact wpAny_pure hq | exact wpAny_truthy_bool hq | (refine wpAny_bind (m := truthy (.bool _)) (wpAny_truthy_bool ?_)) | wp_step)) fun _ _ e => e)))
    | wp_step)
theorem op_neO (hr : Room (n + 1) X.A) : OpR X (compareOp .NotEq) (rNeO X n) := by
  intro pins s σ H x y v u Q I rx ry h
  obtain ⟨a, C, dx, g, fs, sp, tb, rfl, ha, O, hne, hm, ty, hn, q⟩ := h
  cases (show v = Value.ref a from rx)
  obtain ⟨mA, J, _⟩ := ins_get I.hok ha
  obtain ⟨od, J, _⟩ := J.look
  obtain ⟨P, Z, p, _⟩ := kit_of I ry ty
  have hr1 : Room n X.A.in1 := Room.in1 hr
  have hb := Z.ty (model X.prog X.w) _ I.kIn p
  have Xk := I.kIn
  have one : wpAny (model X.prog X.w) X.A (tryCompare (.ref a) "__ne__" u) (fun r s' => ∃ v, r = some v ∧ EP X pins σ Q v s') X.xe s := by
    unfold tryCompare
    refine wpAny_bind ?_
    simp only [callSpecialIfBound?, bindSpecialIfBound?]
    refine wpAny_holding (wpAny_bind (wpAny_bind (wpAny_bind (J.type.here ((PySem.W.looks_findIn Xk hne).here ?_)))))
    refine wpAny_bind (wpAny_askSetting (wpAny_ite ?_))
    have body : wpAny (model X.prog X.w) X.A (call (.builtin "object.__ne__") [.ref a, u]) (fun v s' => ∃ b, v = .bool b ∧ EP X pins σ Q v s') X.xe s := by
      refine wpAny_call (codeAny_call_builtin F.cmp_object.ne.plain F.cmpEntry_ne (PySem.W.check_slot (i := "object.__ne__") (owner := "object") (n := "__ne__") F.cmpKind_ne F.cmpSplit_ne (J.type.andThen (PySem.W.looks_mroIn Xk hm)) (F.cmpArgs_ne _ _) ?_))
      refine ne_entry (A := X.A.in1) Xk J O.at_ O.fn hr1.units0 ?_
      refine wpAny_mono (wpAny_call (LE.run_in (us := [.ref a, u]) (ws := [.ref a, y]) O.F hr1 I.env0.in1 I (.cons rfl (.cons ry .nil)) q)) (fun w s' z => ?_) fun _ _ x => x
      obtain ⟨z', H', I', rz, b, rfl, qz⟩ := z
      cases (show w = Value.bool b from rz)
      exact ⟨b, rfl, !b, rfl, .bl (!b), H', I', rfl, qz⟩
    have fin : wpAny (model X.prog X.w) X.A (call (.builtin "object.__ne__") ([.ref a] ++ [u]) >>= fun v => pure (some v)) (fun r s' => wpAny (model X.prog X.w) X.A (match r with | some .notImplemented | none => pure none | some v => pure (some v)) (fun r s' => ∃ v, r = some v ∧ EP X pins σ Q v s') X.xe s') X.xe s :=
      wpAny_bind (wpAny_mono body (fun v s' hv => wpAny_pure (by obtain ⟨b, rfl, hq⟩ := hv; exact wpAny_pure ⟨_, rfl, hq⟩)) fun _ _ e => e)
    simp only [F.cmp_object.ne.bind]
    split
    · exact wpAny_bind (wpAny_pure (wpAny_pure fin))
    · exact wpAny_tryCatch (wpAny_bind (wpAny_pure (wpAny_pure fin)))
  show wpAny (model X.prog X.w) X.A (richCompare .NotEq (.ref a) u) (EP X pins σ Q) X.xe s
  unfold richCompare
  simp only [oneThing_ref]
  refine wpAny_holding (wpAny_bind (wpAny_cRoomFor hr.units0 ?_))
  refine wpAny_bind (J.type.here (wpAny_bind (hb.here ?_)))
  split
  · rename_i q'
    have e : PySem.W.subIn X.K tb (.ref C) = some false := by
      rcases Bool.or_eq_true_iff.mp hn with e | e
      · rw [beq_iff_eq.mp e] at q'; simp at q'
      · exact beq_iff_eq.mp e
    refine wpAny_bind ((PySem.W.looks_subIn Xk e).here ?_)
    simp only [Bool.false_eq_true, if_false]
    refine wpAny_bind (wpAny_mono one (fun r s' z => ?_) fun _ _ e => e)
    obtain ⟨v, rfl, hq⟩ := z
    exact wpAny_pure hq
  · refine wpAny_bind (wpAny_pure ?_)
    simp only [Bool.false_eq_true, if_false]
    refine wpAny_bind (wpAny_mono one (fun r s' z => ?_) fun _ _ e => e)
    obtain ⟨v, rfl, hq⟩ := z
    exact wpAny_pure hq
/-- repr(x) of an instance of a class with an own __repr__ -/
def rReprI (X : Cx) (n : Nat) : List V → Hp → VK → Prop := fun xs H Q => ∃ (a C dx g : Addr) (fs : List (Str × V)) (sp : Sp), xs = [V.ref a] ∧ H a = some (.ins C dx fs) ∧ LE.Own X n "__repr__" C g sp ∧ sp [.ref a] H (fun z H' => ∃ t, z = .str t ∧ Q z H') E0
theorem call_reprI (hr : Room (n + 1) X.A) : CallR X (.builtin "repr") (rReprI X n) := by
  intro pins s σ H xs us Q I r h
  obtain ⟨a, C, dx, g, fs, sp, rfl, ha, O, q⟩ := h
  obtain ⟨u, rfl, ru⟩ := r.one
  cases (show u = Value.ref a from ru)
  obtain ⟨mA, J, _⟩ := ins_get I.hok ha
  obtain ⟨od, J, _⟩ := J.look
  obtain ⟨m, hF⟩ := I.fr
  have hr1 : Room n X.A.in1 := Room.in1 hr
  refine PySem.W.repr_K hr1.units0 hF I.ok.mod.kin J O.at_ O.fn (wpAny_mono (wpAny_call (LE.run_in (us := [.ref a]) (ws := [.ref a]) O.F hr1 I.env0.in1 I (.cons rfl .nil) q)) (fun w s' z => ?_) fun _ _ x => x)
  obtain ⟨z', H', I', rz, t, ez, qz⟩ := z
  subst ez
  obtain ⟨k, e⟩ := (show ∃ k, w = Value.str t k from rz)
  cases e
  exact ⟨.str t, H', I', ⟨k, rfl⟩, qz⟩
end
open NdefX in
/-- a def that says super(), in a world of errors -/
theorem fnS_ofX {P : Program} {w : World} {K : PySem.W.Frag} {mg : Str → Option Value} {base : Heap} {N ps : List Str} {F : NF} {f D f2 : Addr} {m : Str} {k : Nat} {sp : Sp} (S : NScope N ps ["__class__"] F.scope) (U : LS.SupF P K F f D f2 m) {doc pm ct oc : Value} {od : Option Addr} {osl : Array (Option Value)} (lf : K.lookup f = some ⟨oc, od, .func (F.fd doc pm ct), osl⟩) (len : ∀ vs H Q E, sp vs H Q E → vs.length = ps.length)
    (hbody : ∀ (A : Around) (outer : List Env) (s : Shared) (H : Hp) (vs : List V) (Q : VK) (E : XK), Room k (A.deeper (envF F f s.heap.objs.size)) → sp vs H Q E →
      ∃ t, LS.PSsAt (ncx (L2.CX P w) P w K mg base N F f A outer s H E) (.func F.body (ncx (L2.CX P w) P w K mg base N F f A outer s H E).env) F.body t ∧ t { nx := fun _ H' => Q .non H', rt := Q } (startF N vs [some (.ref D)]) H) :
    FnOk P w K mg base (L2.CX P w) (k + 1) f (F.fd doc pm ct) ps sp := by
  refine ⟨len, fun A outer s H args us vs Q E hr e0 hb r hsp => ?_⟩
  have hl := len _ _ _ _ hsp
  have KX : K.In s.heap := e0.mod.kin.keeps fun b o e => (e0.bs b o e).1
  have lim : s.heap.NoLimit := e0.mod.nolimit.keeps fun b o e => (e0.bs b o e).1
  have hloc : ∀ x ∈ ps.zip us, F.scope.names.lookup x.1 = some .local := fun ⟨n, v⟩ hy => S.par n (List.of_mem_zip hy).1
  refine ks_codeAny_call_defAt (fd := F.fd doc pm ct) (body := F.body) (binds := ps.zip us) hr.depth (KX _ _ lf) rfl lim (PySem.W.codeRec_of KX U.cd) rfl hb S.nocell hloc (fun h₁ hns kp => ?_) S.co S.gen S.kind
  obtain ⟨t, ht, hq⟩ := hbody A outer s H vs Q E (hr.deeper _) hsp
  have I : L2.Inv (ncx (L2.CX P w) P w K mg base N F f A outer s H E) [] (startF N vs [some (.ref D)]) H { s with heap := h₁, toks := s.toks + (ps.zip us).length } := inv_startN S hr.hd e0 hl r (LS.cell_at U e0) hns kp
  refine PySem.wpAt_mono (ht.run [] _ (startF N vs [some (.ref D)]) H _ I hq) (fun fl s' hs => ?_) fun e s' hs => hs
  have fin : ∀ {σ' : L2.St} {H' : Hp} {v : V} {u : Value}, L2.Inv (ncx (L2.CX P w) P w K mg base N F f A outer s H E) [] σ' H' s' → L2.RelV v u → Q v H' → CE outer P w H s Q u s' :=
    fun {σ' H' v u} J rv q => ⟨v, H', J.os, J.bare, J.base, J.hok, rv, q⟩
  cases fl with
  | ret u =>
    obtain ⟨v, σ', H', J, rv, q⟩ := hs
    exact fin J rv q
  | next =>
    obtain ⟨σ', H', J, q⟩ := hs
    exact fin (v := V.non) (u := Value.none) J rfl q
  | brk =>
    obtain ⟨_, _, _, q⟩ := hs
    exact False.elim q
  | cont =>
    obtain ⟨_, _, _, q⟩ := hs
    exact False.elim q
theorem nf_self {K : PySem.W.Frag} {C : Addr} : PySem.W.notFirst K C (.ref C) = true := by
  unfold PySem.W.notFirst
  simp
end LO


namespace k04
open PySem L2 LC
def top (i : Nat) : Stmt := PySem.Challenge.pw_surelet_k04_rests_built_and_refused.main.body.getD i (.Pass ⟨0, 0, 0, 0⟩)
abbrev sInvalidNumber_init : Stmt := inClass (top 4) 0
abbrev NmInvalidNumber_init : List Str := ["self", "value"]
abbrev PInvalidNumber_init : List Str := ["self", "value"]
theorem scInvalidNumber_init : FnScope NmInvalidNumber_init PInvalidNumber_init (defScope sInvalidNumber_init) := ⟨rfl, rfl, rfl, by decide +kernel, rfl, by decide +kernel, by decide +kernel⟩
abbrev sInvalidBorders_init : Stmt := inClass (top 5) 0
abbrev NmInvalidBorders_init : List Str := ["self", "at"]
abbrev PInvalidBorders_init : List Str := ["self", "at"]
theorem scInvalidBorders_init : FnScope NmInvalidBorders_init PInvalidBorders_init (defScope sInvalidBorders_init) := ⟨rfl, rfl, rfl, by decide +kernel, rfl, by decide +kernel, by decide +kernel⟩
abbrev sInvalidRest_init : Stmt := inClass (top 6) 0
abbrev NmInvalidRest_init : List Str := ["self", "value"]
abbrev PInvalidRest_init : List Str := ["self", "value"]
theorem scInvalidRest_init : FnScope NmInvalidRest_init PInvalidRest_init (defScope sInvalidRest_init) := ⟨rfl, rfl, rfl, by decide +kernel, rfl, by decide +kernel, by decide +kernel⟩
abbrev sTooMany_init : Stmt := inClass (top 7) 0
abbrev NmTooMany_init : List Str := ["self", "what", "count"]
abbrev PTooMany_init : List Str := ["self", "what", "count"]
theorem scTooMany_init : FnScope NmTooMany_init PTooMany_init (defScope sTooMany_init) := ⟨rfl, rfl, rfl, by decide +kernel, rfl, by decide +kernel, by decide +kernel⟩
abbrev scheck_count : Stmt := top 13
abbrev Nmcheck_count : List Str := ["what", "count", "most"]
abbrev Pcheck_count : List Str := ["what", "count", "most"]
theorem sccheck_count : FnScope Nmcheck_count Pcheck_count (defScope scheck_count) := ⟨rfl, rfl, rfl, by decide +kernel, rfl, by decide +kernel, by decide +kernel⟩
abbrev sis_whole : Stmt := top 15
abbrev Nmis_whole : List Str := ["value"]
abbrev Pis_whole : List Str := ["value"]
theorem scis_whole : FnScope Nmis_whole Pis_whole (defScope sis_whole) := ⟨rfl, rfl, rfl, by decide +kernel, rfl, by decide +kernel, by decide +kernel⟩
abbrev sis_number : Stmt := top 16
abbrev Nmis_number : List Str := ["value", "least", "most"]
abbrev Pis_number : List Str := ["value", "least", "most"]
theorem scis_number : FnScope Nmis_number Pis_number (defScope sis_number) := ⟨rfl, rfl, rfl, by decide +kernel, rfl, by decide +kernel, by decide +kernel⟩
abbrev scheck_borders : Stmt := top 24
abbrev Nmcheck_borders : List Str := ["borders", "least", "at", "border"]
abbrev Pcheck_borders : List Str := ["borders"]
theorem sccheck_borders : FnScope Nmcheck_borders Pcheck_borders (defScope scheck_borders) := ⟨rfl, rfl, rfl, by decide +kernel, rfl, by decide +kernel, by decide +kernel⟩
abbrev sRest_init : Stmt := inClass (top 18) 0
abbrev NmRest_init : List Str := ["self", "text", "forms", "period", "bend"]
abbrev PRest_init : List Str := ["self", "text", "forms", "period", "bend"]
theorem scRest_init : FnScope NmRest_init PRest_init (defScope sRest_init) := ⟨rfl, rfl, rfl, by decide +kernel, rfl, by decide +kernel, by decide +kernel⟩
abbrev sRest_forms : Stmt := inClass (top 18) 4
abbrev NmRest_forms : List Str := ["self"]
abbrev PRest_forms : List Str := ["self"]
theorem scRest_forms : FnScope NmRest_forms PRest_forms (defScope sRest_forms) := ⟨rfl, rfl, rfl, by decide +kernel, rfl, by decide +kernel, by decide +kernel⟩
abbrev sRest_period : Stmt := inClass (top 18) 5
abbrev NmRest_period : List Str := ["self"]
abbrev PRest_period : List Str := ["self"]
theorem scRest_period : FnScope NmRest_period PRest_period (defScope sRest_period) := ⟨rfl, rfl, rfl, by decide +kernel, rfl, by decide +kernel, by decide +kernel⟩
abbrev sRest_bend : Stmt := inClass (top 18) 6
abbrev NmRest_bend : List Str := ["self"]
abbrev PRest_bend : List Str := ["self"]
theorem scRest_bend : FnScope NmRest_bend PRest_bend (defScope sRest_bend) := ⟨rfl, rfl, rfl, by decide +kernel, rfl, by decide +kernel, by decide +kernel⟩
abbrev sRest_written : Stmt := inClass (top 18) 7
abbrev NmRest_written : List Str := ["self"]
abbrev PRest_written : List Str := ["self"]
theorem scRest_written : FnScope NmRest_written PRest_written (defScope sRest_written) := ⟨rfl, rfl, rfl, by decide +kernel, rfl, by decide +kernel, by decide +kernel⟩
abbrev sRest_str : Stmt := inClass (top 18) 8
abbrev NmRest_str : List Str := ["self"]
abbrev PRest_str : List Str := ["self"]
theorem scRest_str : FnScope NmRest_str PRest_str (defScope sRest_str) := ⟨rfl, rfl, rfl, by decide +kernel, rfl, by decide +kernel, by decide +kernel⟩
abbrev sRest_repr : Stmt := inClass (top 18) 9
abbrev NmRest_repr : List Str := ["self"]
abbrev PRest_repr : List Str := ["self"]
theorem scRest_repr : FnScope NmRest_repr PRest_repr (defScope sRest_repr) := ⟨rfl, rfl, rfl, by decide +kernel, rfl, by decide +kernel, by decide +kernel⟩
abbrev sRest_eq : Stmt := inClass (top 18) 10
abbrev NmRest_eq : List Str := ["self", "other"]
abbrev PRest_eq : List Str := ["self", "other"]
theorem scRest_eq : FnScope NmRest_eq PRest_eq (defScope sRest_eq) := ⟨rfl, rfl, rfl, by decide +kernel, rfl, by decide +kernel, by decide +kernel⟩
abbrev scommon_period : Stmt := top 26
abbrev Nmcommon_period : List Str := ["rest", "other", "period"]
abbrev Pcommon_period : List Str := ["rest", "other"]
theorem sccommon_period : FnScope Nmcommon_period Pcommon_period (defScope scommon_period) := ⟨rfl, rfl, rfl, by decide +kernel, rfl, by decide +kernel, by decide +kernel⟩
abbrev spair_facts : Stmt := top 25
abbrev Nmpair_facts : List Str := ["word", "first", "second", "value", "text", "forms"]
abbrev Ppair_facts : List Str := ["word", "first", "second"]
theorem scpair_facts : FnScope Nmpair_facts Ppair_facts (defScope spair_facts) := ⟨rfl, rfl, rfl, by decide +kernel, rfl, by decide +kernel, by decide +kernel⟩
abbrev sWindow_init : Stmt := inClass (top 19) 0
abbrev NmWindow_init : List Str := ["self", "width", "__class__"]
abbrev PWindow_init : List Str := ["self", "width"]
theorem scWindow_init : NdefX.NScope NmWindow_init PWindow_init ["__class__"] (defScope sWindow_init) := NdefX.nscope_by (by decide +kernel)
abbrev FWindow_init (cc c : Addr) : NdefX.NF := ⟨"__init__", "Window.__init__", defArgs sWindow_init, defBody sWindow_init, defScope sWindow_init, [("__class__", cc)], c⟩
abbrev sDays_init : Stmt := inClass (top 20) 0
abbrev NmDays_init : List Str := ["self", "borders", "every", "__class__", "words", "border"]
abbrev PDays_init : List Str := ["self", "borders", "every"]
theorem scDays_init : NdefX.NScope NmDays_init PDays_init ["__class__"] (defScope sDays_init) := NdefX.nscope_by (by decide +kernel)
abbrev FDays_init (cc c : Addr) : NdefX.NF := ⟨"__init__", "Days.__init__", defArgs sDays_init, defBody sDays_init, defScope sDays_init, [("__class__", cc)], c⟩
abbrev sDays_borders : Stmt := inClass (top 20) 2
abbrev NmDays_borders : List Str := ["self"]
abbrev PDays_borders : List Str := ["self"]
theorem scDays_borders : FnScope NmDays_borders PDays_borders (defScope sDays_borders) := ⟨rfl, rfl, rfl, by decide +kernel, rfl, by decide +kernel, by decide +kernel⟩
abbrev sLater_init : Stmt := inClass (top 21) 0
abbrev NmLater_init : List Str := ["self", "first", "second", "__class__", "facts"]
abbrev PLater_init : List Str := ["self", "first", "second"]
theorem scLater_init : NdefX.NScope NmLater_init PLater_init ["__class__"] (defScope sLater_init) := NdefX.nscope_by (by decide +kernel)
abbrev FLater_init (cc c : Addr) : NdefX.NF := ⟨"__init__", "Later.__init__", defArgs sLater_init, defBody sLater_init, defScope sLater_init, [("__class__", cc)], c⟩
abbrev sSooner_init : Stmt := inClass (top 22) 0
abbrev NmSooner_init : List Str := ["self", "first", "second", "__class__", "facts"]
abbrev PSooner_init : List Str := ["self", "first", "second"]
theorem scSooner_init : NdefX.NScope NmSooner_init PSooner_init ["__class__"] (defScope sSooner_init) := NdefX.nscope_by (by decide +kernel)
abbrev FSooner_init (cc c : Addr) : NdefX.NF := ⟨"__init__", "Sooner.__init__", defArgs sSooner_init, defBody sSooner_init, defScope sSooner_init, [("__class__", cc)], c⟩
abbrev sNext_init : Stmt := inClass (top 23) 0
abbrev NmNext_init : List Str := ["self", "first", "second", "__class__", "facts"]
abbrev PNext_init : List Str := ["self", "first", "second"]
theorem scNext_init : NdefX.NScope NmNext_init PNext_init ["__class__"] (defScope sNext_init) := NdefX.nscope_by (by decide +kernel)
abbrev FNext_init (cc c : Addr) : NdefX.NF := ⟨"__init__", "Next.__init__", defArgs sNext_init, defBody sNext_init, defScope sNext_init, [("__class__", cc)], c⟩
abbrev sbag : Stmt := top 28
abbrev Nmbag : List Str := ["_law_script", "_law_seed", "_law_item"]
abbrev Pbag : List Str := ["_law_script"]
theorem scbag : FnScope Nmbag Pbag (defScope sbag) := ⟨rfl, rfl, rfl, by decide +kernel, rfl, by decide +kernel, by decide +kernel⟩
abbrev sdraw : Stmt := top 29
abbrev Nmdraw : List Str := ["_law_bag_here", "_law_limit", "_law_item", "_law_digit"]
abbrev Pdraw : List Str := ["_law_bag_here", "_law_limit"]
theorem scdraw : FnScope Nmdraw Pdraw (defScope sdraw) := ⟨rfl, rfl, rfl, by decide +kernel, rfl, by decide +kernel, by decide +kernel⟩
abbrev sof : Stmt := top 30
abbrev Nmof : List Str := ["_law_bag_here", "_law_things"]
abbrev Pof : List Str := ["_law_bag_here", "_law_things"]
theorem scof : FnScope Nmof Pof (defScope sof) := ⟨rfl, rfl, rfl, by decide +kernel, rfl, by decide +kernel, by decide +kernel⟩
abbrev slike : Stmt := top 31
abbrev Nmlike : List Str := ["_law_told", "_law_due", "_law_a", "_law_b"]
abbrev Plike : List Str := ["_law_told", "_law_due"]
theorem sclike : FnScope Nmlike Plike (defScope slike) := ⟨rfl, rfl, rfl, by decide +kernel, rfl, by decide +kernel, by decide +kernel⟩
abbrev sodd : Stmt := top 32
abbrev Nmodd : List Str := ["_law_bag_here", "_law_pick", "_law_k"]
abbrev Podd : List Str := ["_law_bag_here"]
theorem scodd : FnScope Nmodd Podd (defScope sodd) := ⟨rfl, rfl, rfl, by decide +kernel, rfl, by decide +kernel, by decide +kernel⟩
abbrev slcm : Stmt := top 33
abbrev Nmlcm : List Str := ["_law_a", "_law_b", "_law_one", "_law_two"]
abbrev Plcm : List Str := ["_law_a", "_law_b"]
theorem sclcm : FnScope Nmlcm Plcm (defScope slcm) := ⟨rfl, rfl, rfl, by decide +kernel, rfl, by decide +kernel, by decide +kernel⟩
abbrev stext : Stmt := top 34
abbrev Nmtext : List Str := ["_law_plan", "_law_edge"]
abbrev Ptext : List Str := ["_law_plan"]
theorem sctext : FnScope Nmtext Ptext (defScope stext) := ⟨rfl, rfl, rfl, by decide +kernel, rfl, by decide +kernel, by decide +kernel⟩
abbrev sfacts : Stmt := top 35
abbrev Nmfacts : List Str := ["_law_plan", "_law_one", "_law_two"]
abbrev Pfacts : List Str := ["_law_plan"]
theorem scfacts : FnScope Nmfacts Pfacts (defScope sfacts) := ⟨rfl, rfl, rfl, by decide +kernel, rfl, by decide +kernel, by decide +kernel⟩
abbrev sask : Stmt := top 36
abbrev Nmask : List Str := ["_law_deed", "_law_told", "_law_fault", "error"]
abbrev Pask : List Str := ["_law_deed"]
theorem scask : FnScope Nmask Pask (defScope sask) := ⟨rfl, rfl, rfl, by decide +kernel, rfl, by decide +kernel, by decide +kernel⟩
abbrev sin : Stmt := top 37
abbrev Nmin : List Str := ["_law_thing", "_law_low", "_law_high"]
abbrev Pin : List Str := ["_law_thing", "_law_low", "_law_high"]
theorem scin : FnScope Nmin Pin (defScope sin) := ⟨rfl, rfl, rfl, by decide +kernel, rfl, by decide +kernel, by decide +kernel⟩
abbrev snumber : Stmt := top 38
abbrev Nmnumber : List Str := ["_law_bag_here", "_law_high", "_law_pick"]
abbrev Pnumber : List Str := ["_law_bag_here", "_law_high"]
theorem scnumber : FnScope Nmnumber Pnumber (defScope snumber) := ⟨rfl, rfl, rfl, by decide +kernel, rfl, by decide +kernel, by decide +kernel⟩
abbrev sborders : Stmt := top 39
abbrev Nmborders : List Str := ["_law_bag_here", "_law_some", "_law_edge", "_law_k", "_law_at", "_law_bend", "_law_pick"]
abbrev Pborders : List Str := ["_law_bag_here"]
theorem scborders : FnScope Nmborders Pborders (defScope sborders) := ⟨rfl, rfl, rfl, by decide +kernel, rfl, by decide +kernel, by decide +kernel⟩
abbrev sdays_due : Stmt := top 40
abbrev Nmdays_due : List Str := ["_law_edges", "_law_gap", "_law_low", "_law_at"]
abbrev Pdays_due : List Str := ["_law_edges", "_law_gap"]
theorem scdays_due : FnScope Nmdays_due Pdays_due (defScope sdays_due) := ⟨rfl, rfl, rfl, by decide +kernel, rfl, by decide +kernel, by decide +kernel⟩
abbrev swindow : Stmt := top 41
abbrev Nmwindow : List Str := ["_law_bag_here", "_law_kept", "_law_wide", "_law_told", "_law_fault"]
abbrev Pwindow : List Str := ["_law_bag_here", "_law_kept"]
theorem scwindow : FnScope Nmwindow Pwindow (defScope swindow) := ⟨rfl, rfl, rfl, by decide +kernel, rfl, by decide +kernel, by decide +kernel⟩
abbrev sdays : Stmt := top 42
abbrev Nmdays : List Str := ["_law_bag_here", "_law_kept", "_law_edges", "_law_gap", "_law_copy", "_law_due", "_law_told", "_law_fault", "_law_some"]
abbrev Pdays : List Str := ["_law_bag_here", "_law_kept"]
theorem scdays : FnScope Nmdays Pdays (defScope sdays) := ⟨rfl, rfl, rfl, by decide +kernel, rfl, by decide +kernel, by decide +kernel⟩
abbrev spair : Stmt := top 43
abbrev Nmpair : List Str := ["_law_bag_here", "_law_pick", "_law_a", "_law_b", "_law_way"]
abbrev Ppair : List Str := ["_law_bag_here", "_law_pick", "_law_a", "_law_b"]
theorem scpair : FnScope Nmpair Ppair (defScope spair) := ⟨rfl, rfl, rfl, by decide +kernel, rfl, by decide +kernel, by decide +kernel⟩
abbrev spair_due : Stmt := top 44
abbrev Nmpair_due : List Str := ["_law_one", "_law_two", "_law_a", "_law_b", "_law_both"]
abbrev Ppair_due : List Str := ["_law_one", "_law_two"]
theorem scpair_due : FnScope Nmpair_due Ppair_due (defScope spair_due) := ⟨rfl, rfl, rfl, by decide +kernel, rfl, by decide +kernel, by decide +kernel⟩
abbrev sclass_so : Stmt := top 45
abbrev Nmclass_so : List Str := ["_law_pick", "_law_told"]
abbrev Pclass_so : List Str := ["_law_pick", "_law_told"]
theorem scclass_so : FnScope Nmclass_so Pclass_so (defScope sclass_so) := ⟨rfl, rfl, rfl, by decide +kernel, rfl, by decide +kernel, by decide +kernel⟩
abbrev sunder : Stmt := top 46
abbrev Nmunder : List Str := ["_law_bag_here", "_law_kept", "_law_pick", "_law_pair_here", "_law_due", "_law_told", "_law_fault", "_law_plan", "_law_k"]
abbrev Punder : List Str := ["_law_bag_here", "_law_kept"]
theorem scunder : FnScope Nmunder Punder (defScope sunder) := ⟨rfl, rfl, rfl, by decide +kernel, rfl, by decide +kernel, by decide +kernel⟩
abbrev stold_so : Stmt := top 47
abbrev Nmtold_so : List Str := ["_law_plan", "_law_thing", "_law_text_here"]
abbrev Ptold_so : List Str := ["_law_plan", "_law_thing"]
theorem sctold_so : FnScope Nmtold_so Ptold_so (defScope stold_so) := ⟨rfl, rfl, rfl, by decide +kernel, rfl, by decide +kernel, by decide +kernel⟩
abbrev sequal_so : Stmt := top 48
abbrev Nmequal_so : List Str := ["_law_bag_here", "_law_kept", "_law_one", "_law_two", "_law_told", "_law_other"]
abbrev Pequal_so : List Str := ["_law_bag_here", "_law_kept"]
theorem scequal_so : FnScope Nmequal_so Pequal_so (defScope sequal_so) := ⟨rfl, rfl, rfl, by decide +kernel, rfl, by decide +kernel, by decide +kernel⟩
abbrev slaw : Stmt := top 49
abbrev Nmlaw : List Str := ["_law_script", "_law_bag_here", "_law_kept", "_law_k", "_law_plan", "_law_thing"]
abbrev Plaw : List Str := ["_law_script"]
theorem sclaw : FnScope Nmlaw Plaw (defScope slaw) := ⟨rfl, rfl, rfl, by decide +kernel, rfl, by decide +kernel, by decide +kernel⟩
structure Txt (K : PySem.W.Frag) (mg : Str → Option Value) : Prop where
  n_all : mg "all" = none
  n_bool : mg "bool" = none
  n_dict : mg "dict" = none
  n_enumerate : mg "enumerate" = none
  n_int : mg "int" = none
  n_isinstance : mg "isinstance" = none
  n_len : mg "len" = none
  n_list : mg "list" = none
  n_max : mg "max" = none
  n_range : mg "range" = none
  n_repr : mg "repr" = none
  n_str : mg "str" = none
  n_super : mg "super" = none
  n_tuple : mg "tuple" = none
  n_zip : mg "zip" = none
  c_MOST_BORDERS : ∃ t, mg "MOST_BORDERS" = some (.int 12 t)
  c_MOST_FORMS : ∃ t, mg "MOST_FORMS" = some (.int 6 t)
  c_MOST_PERIOD : ∃ t, mg "MOST_PERIOD" = some (.int 2000 t)
  c_MOST_SIZE : ∃ t, mg "MOST_SIZE" = some (.int 1000 t)
open RM
/-- the addresses of what the program's top has made for the rests -/
structure Ad where
  (R W D L S N fRi fF fP fB fW fS fr fE fDb Wi Di Li Si Ni : Addr)
/-- what the written part says of a class of rests -/
structure RC (K : PySem.W.Frag) (a : Ad) (C : Addr) : Prop where
  cl : Cls K C
  nT : NoAttr K C "_text"
  nF : NoAttr K C "_forms"
  nP : NoAttr K C "_period"
  nB : NoAttr K C "_bend"
  mF : Meth K C "forms" a.fF
  mP : Meth K C "period" a.fP
  mB : Meth K C "bend" a.fB
  mW : Meth K C "written" a.fW
  me : PySem.W.kitOne K (.ref C) (.ref a.R) = some true
  ks : PySem.W.kitOne K (.ref C) (.ref C) = some true
  ha : PySem.W.findIn K (.ref C) "__class__" = some (some (.builtin "object.__class__"))
  hn : PySem.W.specialIn K (.builtin "object.__class__") "__get__" = some (some (.builtin "getset_descriptor.__get__"))
  htk : PySem.W.takesIn K (.builtin "object.__class__") = some true
  hm : PySem.W.mroIn K C (.type "object") = some true
  s1 : PySem.W.findIn K (.ref C) "__str__" = some (some (.ref a.fS))
  s2 : PySem.W.isFn K (.ref a.fS) = true
  r1 : PySem.W.findIn K (.ref C) "__repr__" = some (some (.ref a.fr))
  r2 : PySem.W.isFn K (.ref a.fr) = true
  e1 : PySem.W.findIn K (.ref C) "__eq__" = some (some (.ref a.fE))
  e2 : PySem.W.isFn K (.ref a.fE) = true
  ne : PySem.W.findIn K (.ref C) "__ne__" = some (some (.builtin "object.__ne__"))
  nft : ∀ t : String, t ∈ ["int", "bool", "str", "NoneType", "list", "tuple", "dict"] → PySem.W.notFirst K C (.type t) = true
def isC (a : Ad) (C : Addr) : Prop := C = a.W ∨ C = a.D ∨ C = a.L ∨ C = a.S ∨ C = a.N
structure Kn (K : PySem.W.Frag) (mg : Str → Option Value) (a : Ad) : Prop where
  w : RC K a a.W
  d : RC K a a.D
  l : RC K a a.L
  s : RC K a a.S
  n : RC K a a.N
  nw : NoAttr K a.W "width"
  nb : NoAttr K a.D "_borders"
  ne : NoAttr K a.D "every"
  l1 : NoAttr K a.L "first"
  l2 : NoAttr K a.L "second"
  s1 : NoAttr K a.S "first"
  s2 : NoAttr K a.S "second"
  n1 : NoAttr K a.N "first"
  n2 : NoAttr K a.N "second"
  kW : PySem.W.keepIn K (.ref a.fW) = true
  kF : PySem.W.keepIn K (.ref a.fF) = true
  kP : PySem.W.keepIn K (.ref a.fP) = true
  kB : PySem.W.keepIn K (.ref a.fB) = true
  mDb : Meth K a.D "borders" a.fDb
  kDb : PySem.W.keepIn K (.ref a.fDb) = true
  gR : mg "Rest" = some (.ref a.R)
  gl : mg "lcm" = some (.builtin "math.lcm")
  gWindow : mg "Window" = some (.ref a.W)
  gDays : mg "Days" = some (.ref a.D)
  gLater : mg "Later" = some (.ref a.L)
  gSooner : mg "Sooner" = some (.ref a.S)
  gNext : mg "Next" = some (.ref a.N)
  mWindow : Mk K a.W a.Wi
  mDays : Mk K a.D a.Di
  mLater : Mk K a.L a.Li
  mSooner : Mk K a.S a.Si
  mNext : Mk K a.N a.Ni
  nf : ∀ C C' : Addr, isC a C → isC a C' → PySem.W.notFirst K C (.ref C') = true
  kOdd : ∀ t : String, t ∈ ["int", "bool", "str", "NoneType", "list", "tuple", "dict"] → PySem.W.kitOne K (.type t) (.ref a.R) = some false
def Kt (H H' : Hp) : Prop := ∀ b xs, H b = some (.tup xs) → H' b = some (.tup xs)
theorem Kt.refl (H : Hp) : Kt H H := fun _ _ h => h
theorem Kt.trans {H H1 H2 : Hp} (a : Kt H H1) (b : Kt H1 H2) : Kt H H2 := fun c o h => b c o (a c o h)
theorem Kt.new {H : Hp} {p : Addr} {o : HO} (h : H p = none) : Kt H (upd H p o) := fun b xs e => by
  rw [upd_ne (ne_of_none e h)]
  exact e
theorem Kt.lst {H : Hp} {p : Addr} {o : HO} {xs : List V} (h : H p = some (.lst xs)) : Kt H (upd H p o) := fun b ys e => by
  rw [upd_ne (ne_of e h (by intro z; cases z))]
  exact e
theorem Kt.same {H H' : Hp} (s : Same H H') : Kt H H' := fun b xs e => s b _ e
theorem Kt.ok {g l : Addr} {H H' : Hp} (r : Ok g l H H') : Kt H H' := fun b xs e => by
  obtain ⟨⟨ys, q⟩, _⟩ := r.b0.there
  refine r.kp b _ (fun z => ?_) e
  rw [z, q] at e
  cases e
def tb : Nat → Nat
  | 0 => 40000
  | n + 1 => 2 * tb n + 40
theorem tb_le : ∀ {m n : Nat}, m ≤ n → tb m ≤ tb n
  | m, 0, h => by obtain rfl : m = 0 := by omega
                  exact Nat.le_refl _
  | m, n + 1, h => by
    by_cases e : m = n + 1
    · rw [e]; exact Nat.le_refl _
    · have := tb_le (m := m) (n := n) (by omega)
      show tb m ≤ 2 * tb n + 40
      omega
/-- all but what is in F and the tables of code is as it was -/
def KpF (F : Addr → Prop) (H H' : Hp) : Prop := ∀ b o, ¬ F b → (∀ ps, o ≠ .tbl ps) → H b = some o → H' b = some o
theorem KpF.same {F : Addr → Prop} {H H' : Hp} (s : Same H H') : KpF F H H' := fun b o _ _ e => s b o e
theorem KpF.kp {F : Addr → Prop} {g : Addr} {H H' : Hp} (hg : F g) (k : Kp g H H') : KpF F H H' := fun b o n _ e => k b o (fun z => n (z ▸ hg)) e
def PlanAt (H : Hp) : Pl → Addr → Prop
  | .win w, x => H x = some (.tup [.str "window", .int w])
  | .days bs e, x => ∃ y, H x = some (.tup [.str "days", .ref y, .int e]) ∧ H y = some (.tup (bs.map V.int))
  | .lat p q, x => ∃ y z, H x = some (.tup [.str "later", .ref y, .ref z]) ∧ PlanAt H p y ∧ PlanAt H q z
  | .soo p q, x => ∃ y z, H x = some (.tup [.str "sooner", .ref y, .ref z]) ∧ PlanAt H p y ∧ PlanAt H q z
  | .nex p q, x => ∃ y z, H x = some (.tup [.str "next", .ref y, .ref z]) ∧ PlanAt H p y ∧ PlanAt H q z
theorem PlanAt.kt {H H' : Hp} (k : Kt H H') : ∀ {p : Pl} {x : Addr}, PlanAt H p x → PlanAt H' p x
  | .win w, x, h => k _ _ h
  | .days bs e, x, ⟨y, h1, h2⟩ => ⟨y, k _ _ h1, k _ _ h2⟩
  | .lat p q, x, ⟨y, z, h1, h2, h3⟩ => ⟨y, z, k _ _ h1, h2.kt k, h3.kt k⟩
  | .soo p q, x, ⟨y, z, h1, h2, h3⟩ => ⟨y, z, k _ _ h1, h2.kt k, h3.kt k⟩
  | .nex p q, x, ⟨y, z, h1, h2, h3⟩ => ⟨y, z, k _ _ h1, h2.kt k, h3.kt k⟩
/-- the text of an int -/
def iT (i : Int) : Str := Str.ofString (toString i)
def pairT (w t u : Str) : Str := Str.empty ++ w ++ "(" ++ t ++ ", " ++ u ++ ")"
def wordsT (bs : List Int) (e : Int) : List Str := ("days" : Str) :: (bs.map iT ++ [("then" : Str), iT e])
def _root_.RM.Pl.text : Pl → Str
  | .win w => Str.empty ++ "window " ++ iT w
  | .days bs e => Str.join " " (wordsT bs e)
  | .lat p q => pairT "later" p.text q.text
  | .soo p q => pairT "sooner" p.text q.text
  | .nex p q => pairT "next" p.text q.text
def four (p : Pl) (fs : List (Str × V)) : List (Str × V) := putF "_bend" (.int p.bend) (putF "_period" (.int p.per) (putF "_forms" (.int p.forms) (putF "_text" (.str p.text) fs)))
def winF (w : Int) : List (Str × V) := putF "width" (.int w) (four (.win w) [])
def dayF (bs : List Int) (e : Int) (b : Addr) : List (Str × V) := four (.days bs e) (putF "every" (.int e) (putF "_borders" (.ref b) []))
def pairF (p : Pl) (y z : Addr) : List (Str × V) := putF "second" (.ref z) (putF "first" (.ref y) (four p []))
/-- the rest p stands at x -/
def RestX (a : Ad) (g : Addr → Prop) (H : Hp) : Pl → Addr → Prop
  | .win w, x => ¬ g x ∧ ∃ dx, H x = some (.ins a.W dx (winF w))
  | .days bs e, x => ¬ g x ∧ ∃ dx b, H x = some (.ins a.D dx (dayF bs e b)) ∧ ¬ g b ∧ H b = some (.lst (bs.map V.int))
  | .lat p q, x => ¬ g x ∧ ∃ dx y z, H x = some (.ins a.L dx (pairF (.lat p q) y z)) ∧ RestX a g H p y ∧ RestX a g H q z
  | .soo p q, x => ¬ g x ∧ ∃ dx y z, H x = some (.ins a.S dx (pairF (.soo p q) y z)) ∧ RestX a g H p y ∧ RestX a g H q z
  | .nex p q, x => ¬ g x ∧ ∃ dx y z, H x = some (.ins a.N dx (pairF (.nex p q) y z)) ∧ RestX a g H p y ∧ RestX a g H q z
theorem insN {C dx : Addr} {fs : List (Str × V)} : ∀ ps, HO.ins C dx fs ≠ .tbl ps := fun _ z => by cases z
theorem lstN {xs : List V} : ∀ ps, HO.lst xs ≠ .tbl ps := fun _ z => by cases z
theorem tupN {xs : List V} : ∀ ps, HO.tup xs ≠ .tbl ps := fun _ z => by cases z
theorem RestX.kp {a : Ad} {g : Addr → Prop} {H H' : Hp} (k : KpF g H H') : ∀ {p : Pl} {x : Addr}, RestX a g H p x → RestX a g H' p x
  | .win w, x, ⟨n, dx, h⟩ => ⟨n, dx, k _ _ n insN h⟩
  | .days bs e, x, ⟨n, dx, b, h, nb, hb⟩ => ⟨n, dx, b, k _ _ n insN h, nb, k _ _ nb lstN hb⟩
  | .lat p q, x, ⟨n, dx, y, z, h, h2, h3⟩ => ⟨n, dx, y, z, k _ _ n insN h, h2.kp k, h3.kp k⟩
  | .soo p q, x, ⟨n, dx, y, z, h, h2, h3⟩ => ⟨n, dx, y, z, k _ _ n insN h, h2.kp k, h3.kp k⟩
  | .nex p q, x, ⟨n, dx, y, z, h, h2, h3⟩ => ⟨n, dx, y, z, k _ _ n insN h, h2.kp k, h3.kp k⟩
theorem RestX.mono {a : Ad} {F G : Addr → Prop} {H : Hp} (k : ∀ b, G b → F b) : ∀ {p : Pl} {x : Addr}, RestX a F H p x → RestX a G H p x
  | .win w, x, ⟨n, dx, h⟩ => ⟨fun z => n (k _ z), dx, h⟩
  | .days bs e, x, ⟨n, dx, b, h, nb, hb⟩ => ⟨fun z => n (k _ z), dx, b, h, fun z => nb (k _ z), hb⟩
  | .lat p q, x, ⟨n, dx, y, z, h, h2, h3⟩ => ⟨fun z => n (k _ z), dx, y, z, h, h2.mono k, h3.mono k⟩
  | .soo p q, x, ⟨n, dx, y, z, h, h2, h3⟩ => ⟨fun z => n (k _ z), dx, y, z, h, h2.mono k, h3.mono k⟩
  | .nex p q, x, ⟨n, dx, y, z, h, h2, h3⟩ => ⟨fun z => n (k _ z), dx, y, z, h, h2.mono k, h3.mono k⟩
theorem RestX.same {a : Ad} {g : Addr → Prop} {H H' : Hp} {p : Pl} {x : Addr} (s : Same H H') (r : RestX a g H p x) : RestX a g H' p x := r.kp (KpF.same s)
theorem lk_eq {f : Str} {v : V} {fs : List (Str × V)} : (putF f v fs).lookup f = some v := by rw [lookup_putF, if_pos rfl]
theorem lk_ne {f m : Str} {v : V} {fs : List (Str × V)} (h : decide (m = f) = false) : (putF f v fs).lookup m = fs.lookup m := by rw [lookup_putF, if_neg (of_decide_eq_false h)]
structure Four (p : Pl) (fs : List (Str × V)) : Prop where
  vt : fs.lookup ("_text" : Str) = some (.str p.text)
  vf : fs.lookup ("_forms" : Str) = some (.int p.forms)
  vp : fs.lookup ("_period" : Str) = some (.int p.per)
  vb : fs.lookup ("_bend" : Str) = some (.int p.bend)
  mw : fs.lookup ("written" : Str) = none
  mf : fs.lookup ("forms" : Str) = none
  mp : fs.lookup ("period" : Str) = none
  mb : fs.lookup ("bend" : Str) = none
theorem four_win {w : Int} : Four (.win w) (winF w) := by unfold winF four; exact ⟨by (first | rfl | exact lk_eq | (rw [lk_ne (by decide +kernel)]; (first | rfl | exact lk_eq | (rw [lk_ne (by decide +kernel)]; (first | rfl | exact lk_eq | (rw [lk_ne (by decide +kernel)]; (first | rfl | exact lk_eq | (rw [lk_ne (by decide +kernel)]; (first | rfl | exact lk_eq | (rw [lk_ne (by decide +kernel)]; (first | rfl | exact lk_eq | (rw [lk_ne (by decide +kernel)]; (first | rfl | exact lk_eq))))))))))))), by (first | rfl | exact lk_eq | (rw [lk_ne (by decide +kernel)]; (first | rfl | exact lk_eq | (rw [lk_ne (by decide +kernel)]; (first | rfl | exact lk_eq | (rw [lk_ne (by decide +kernel)]; (first | rfl | exact lk_eq | (rw [lk_ne (by decide +kernel)]; (first | rfl | exact lk_eq | (rw [lk_ne (by decide +kernel)]; (first | rfl | exact lk_eq | (rw [lk_ne (by decide +kernel)]; (first | rfl | exact lk_eq))))))))))))), by (first | rfl | exact lk_eq | (rw [lk_ne (by decide +kernel)]; (first | rfl | exact lk_eq | (rw [lk_ne (by decide +kernel)]; (first | rfl | exact lk_eq | (rw [lk_ne (by decide +kernel)]; (first | rfl | exact lk_eq | (rw [lk_ne (by decide +kernel)]; (first | rfl | exact lk_eq | (rw [lk_ne (by decide +kernel)]; (first | rfl | exact lk_eq | (rw [lk_ne (by decide +kernel)]; (first | rfl | exact lk_eq))))))))))))), by (first | rfl | exact lk_eq | (rw [lk_ne (by decide +kernel)]; (first | rfl | exact lk_eq | (rw [lk_ne (by decide +kernel)]; (first | rfl | exact lk_eq | (rw [lk_ne (by decide +kernel)]; (first | rfl | exact lk_eq | (rw [lk_ne (by decide +kernel)]; (first | rfl | exact lk_eq | (rw [lk_ne (by decide +kernel)]; (first | rfl | exact lk_eq | (rw [lk_ne (by decide +kernel)]; (first | rfl | exact lk_eq))))))))))))), by (first | rfl | exact lk_eq | (rw [lk_ne (by decide +kernel)]; (first | rfl | exact lk_eq | (rw [lk_ne (by decide +kernel)]; (first | rfl | exact lk_eq | (rw [lk_ne (by decide +kernel)]; (first | rfl | exact lk_eq | (rw [lk_ne (by decide +kernel)]; (first | rfl | exact lk_eq | (rw [lk_ne (by decide +kernel)]; (first | rfl | exact lk_eq | (rw [lk_ne (by decide +kernel)]; (first | rfl | exact lk_eq))))))))))))), by (first | rfl | exact lk_eq | (rw [lk_ne (by decide +kernel)]; (first | rfl | exact lk_eq | (rw [lk_ne (by decide +kernel)]; (first | rfl | exact lk_eq | (rw [lk_ne (by decide +kernel)]; (first | rfl | exact lk_eq | (rw [lk_ne (by decide +kernel)]; (first | rfl | exact lk_eq | (rw [lk_ne (by decide +kernel)]; (first | rfl | exact lk_eq | (rw [lk_ne (by decide +kernel)]; (first | rfl | exact lk_eq))))))))))))), by (first | rfl | exact lk_eq | (rw [lk_ne (by decide +kernel)]; (first | rfl | exact lk_eq | (rw [lk_ne (by decide +kernel)]; (first | rfl | exact lk_eq | (rw [lk_ne (by decide +kernel)]; (first | rfl | exact lk_eq | (rw [lk_ne (by decide +kernel)]; (first | rfl | exact lk_eq | (rw [lk_ne (by decide +kernel)]; (first | rfl | exact lk_eq | (rw [lk_ne (by decide +kernel)]; (first | rfl | exact lk_eq))))))))))))), by (first | rfl | exact lk_eq | (rw [lk_ne (by decide +kernel)]; (first | rfl | exact lk_eq | (rw [lk_ne (by decide +kernel)]; (first | rfl | exact lk_eq | (rw [lk_ne (by decide +kernel)]; (first | rfl | exact lk_eq | (rw [lk_ne (by decide +kernel)]; (first | rfl | exact lk_eq | (rw [lk_ne (by decide +kernel)]; (first | rfl | exact lk_eq | (rw [lk_ne (by decide +kernel)]; (first | rfl | exact lk_eq)))))))))))))⟩
theorem four_day {bs : List Int} {e : Int} {b : Addr} : Four (.days bs e) (dayF bs e b) := by unfold dayF four; exact ⟨by (first | rfl | exact lk_eq | (rw [lk_ne (by decide +kernel)]; (first | rfl | exact lk_eq | (rw [lk_ne (by decide +kernel)]; (first | rfl | exact lk_eq | (rw [lk_ne (by decide +kernel)]; (first | rfl | exact lk_eq | (rw [lk_ne (by decide +kernel)]; (first | rfl | exact lk_eq | (rw [lk_ne (by decide +kernel)]; (first | rfl | exact lk_eq | (rw [lk_ne (by decide +kernel)]; (first | rfl | exact lk_eq))))))))))))), by (first | rfl | exact lk_eq | (rw [lk_ne (by decide +kernel)]; (first | rfl | exact lk_eq | (rw [lk_ne (by decide +kernel)]; (first | rfl | exact lk_eq | (rw [lk_ne (by decide +kernel)]; (first | rfl | exact lk_eq | (rw [lk_ne (by decide +kernel)]; (first | rfl | exact lk_eq | (rw [lk_ne (by decide +kernel)]; (first | rfl | exact lk_eq | (rw [lk_ne (by decide +kernel)]; (first | rfl | exact lk_eq))))))))))))), by (first | rfl | exact lk_eq | (rw [lk_ne (by decide +kernel)]; (first | rfl | exact lk_eq | (rw [lk_ne (by decide +kernel)]; (first | rfl | exact lk_eq | (rw [lk_ne (by decide +kernel)]; (first | rfl | exact lk_eq | (rw [lk_ne (by decide +kernel)]; (first | rfl | exact lk_eq | (rw [lk_ne (by decide +kernel)]; (first | rfl | exact lk_eq | (rw [lk_ne (by decide +kernel)]; (first | rfl | exact lk_eq))))))))))))), by (first | rfl | exact lk_eq | (rw [lk_ne (by decide +kernel)]; (first | rfl | exact lk_eq | (rw [lk_ne (by decide +kernel)]; (first | rfl | exact lk_eq | (rw [lk_ne (by decide +kernel)]; (first | rfl | exact lk_eq | (rw [lk_ne (by decide +kernel)]; (first | rfl | exact lk_eq | (rw [lk_ne (by decide +kernel)]; (first | rfl | exact lk_eq | (rw [lk_ne (by decide +kernel)]; (first | rfl | exact lk_eq))))))))))))), by (first | rfl | exact lk_eq | (rw [lk_ne (by decide +kernel)]; (first | rfl | exact lk_eq | (rw [lk_ne (by decide +kernel)]; (first | rfl | exact lk_eq | (rw [lk_ne (by decide +kernel)]; (first | rfl | exact lk_eq | (rw [lk_ne (by decide +kernel)]; (first | rfl | exact lk_eq | (rw [lk_ne (by decide +kernel)]; (first | rfl | exact lk_eq | (rw [lk_ne (by decide +kernel)]; (first | rfl | exact lk_eq))))))))))))), by (first | rfl | exact lk_eq | (rw [lk_ne (by decide +kernel)]; (first | rfl | exact lk_eq | (rw [lk_ne (by decide +kernel)]; (first | rfl | exact lk_eq | (rw [lk_ne (by decide +kernel)]; (first | rfl | exact lk_eq | (rw [lk_ne (by decide +kernel)]; (first | rfl | exact lk_eq | (rw [lk_ne (by decide +kernel)]; (first | rfl | exact lk_eq | (rw [lk_ne (by decide +kernel)]; (first | rfl | exact lk_eq))))))))))))), by (first | rfl | exact lk_eq | (rw [lk_ne (by decide +kernel)]; (first | rfl | exact lk_eq | (rw [lk_ne (by decide +kernel)]; (first | rfl | exact lk_eq | (rw [lk_ne (by decide +kernel)]; (first | rfl | exact lk_eq | (rw [lk_ne (by decide +kernel)]; (first | rfl | exact lk_eq | (rw [lk_ne (by decide +kernel)]; (first | rfl | exact lk_eq | (rw [lk_ne (by decide +kernel)]; (first | rfl | exact lk_eq))))))))))))), by (first | rfl | exact lk_eq | (rw [lk_ne (by decide +kernel)]; (first | rfl | exact lk_eq | (rw [lk_ne (by decide +kernel)]; (first | rfl | exact lk_eq | (rw [lk_ne (by decide +kernel)]; (first | rfl | exact lk_eq | (rw [lk_ne (by decide +kernel)]; (first | rfl | exact lk_eq | (rw [lk_ne (by decide +kernel)]; (first | rfl | exact lk_eq | (rw [lk_ne (by decide +kernel)]; (first | rfl | exact lk_eq)))))))))))))⟩
theorem four_pair {p : Pl} {y z : Addr} : Four p (pairF p y z) := by unfold pairF four; exact ⟨by (first | rfl | exact lk_eq | (rw [lk_ne (by decide +kernel)]; (first | rfl | exact lk_eq | (rw [lk_ne (by decide +kernel)]; (first | rfl | exact lk_eq | (rw [lk_ne (by decide +kernel)]; (first | rfl | exact lk_eq | (rw [lk_ne (by decide +kernel)]; (first | rfl | exact lk_eq | (rw [lk_ne (by decide +kernel)]; (first | rfl | exact lk_eq | (rw [lk_ne (by decide +kernel)]; (first | rfl | exact lk_eq))))))))))))), by (first | rfl | exact lk_eq | (rw [lk_ne (by decide +kernel)]; (first | rfl | exact lk_eq | (rw [lk_ne (by decide +kernel)]; (first | rfl | exact lk_eq | (rw [lk_ne (by decide +kernel)]; (first | rfl | exact lk_eq | (rw [lk_ne (by decide +kernel)]; (first | rfl | exact lk_eq | (rw [lk_ne (by decide +kernel)]; (first | rfl | exact lk_eq | (rw [lk_ne (by decide +kernel)]; (first | rfl | exact lk_eq))))))))))))), by (first | rfl | exact lk_eq | (rw [lk_ne (by decide +kernel)]; (first | rfl | exact lk_eq | (rw [lk_ne (by decide +kernel)]; (first | rfl | exact lk_eq | (rw [lk_ne (by decide +kernel)]; (first | rfl | exact lk_eq | (rw [lk_ne (by decide +kernel)]; (first | rfl | exact lk_eq | (rw [lk_ne (by decide +kernel)]; (first | rfl | exact lk_eq | (rw [lk_ne (by decide +kernel)]; (first | rfl | exact lk_eq))))))))))))), by (first | rfl | exact lk_eq | (rw [lk_ne (by decide +kernel)]; (first | rfl | exact lk_eq | (rw [lk_ne (by decide +kernel)]; (first | rfl | exact lk_eq | (rw [lk_ne (by decide +kernel)]; (first | rfl | exact lk_eq | (rw [lk_ne (by decide +kernel)]; (first | rfl | exact lk_eq | (rw [lk_ne (by decide +kernel)]; (first | rfl | exact lk_eq | (rw [lk_ne (by decide +kernel)]; (first | rfl | exact lk_eq))))))))))))), by (first | rfl | exact lk_eq | (rw [lk_ne (by decide +kernel)]; (first | rfl | exact lk_eq | (rw [lk_ne (by decide +kernel)]; (first | rfl | exact lk_eq | (rw [lk_ne (by decide +kernel)]; (first | rfl | exact lk_eq | (rw [lk_ne (by decide +kernel)]; (first | rfl | exact lk_eq | (rw [lk_ne (by decide +kernel)]; (first | rfl | exact lk_eq | (rw [lk_ne (by decide +kernel)]; (first | rfl | exact lk_eq))))))))))))), by (first | rfl | exact lk_eq | (rw [lk_ne (by decide +kernel)]; (first | rfl | exact lk_eq | (rw [lk_ne (by decide +kernel)]; (first | rfl | exact lk_eq | (rw [lk_ne (by decide +kernel)]; (first | rfl | exact lk_eq | (rw [lk_ne (by decide +kernel)]; (first | rfl | exact lk_eq | (rw [lk_ne (by decide +kernel)]; (first | rfl | exact lk_eq | (rw [lk_ne (by decide +kernel)]; (first | rfl | exact lk_eq))))))))))))), by (first | rfl | exact lk_eq | (rw [lk_ne (by decide +kernel)]; (first | rfl | exact lk_eq | (rw [lk_ne (by decide +kernel)]; (first | rfl | exact lk_eq | (rw [lk_ne (by decide +kernel)]; (first | rfl | exact lk_eq | (rw [lk_ne (by decide +kernel)]; (first | rfl | exact lk_eq | (rw [lk_ne (by decide +kernel)]; (first | rfl | exact lk_eq | (rw [lk_ne (by decide +kernel)]; (first | rfl | exact lk_eq))))))))))))), by (first | rfl | exact lk_eq | (rw [lk_ne (by decide +kernel)]; (first | rfl | exact lk_eq | (rw [lk_ne (by decide +kernel)]; (first | rfl | exact lk_eq | (rw [lk_ne (by decide +kernel)]; (first | rfl | exact lk_eq | (rw [lk_ne (by decide +kernel)]; (first | rfl | exact lk_eq | (rw [lk_ne (by decide +kernel)]; (first | rfl | exact lk_eq | (rw [lk_ne (by decide +kernel)]; (first | rfl | exact lk_eq)))))))))))))⟩
theorem lk_width {w : Int} : (winF w).lookup ("width" : Str) = some (.int w) := lk_eq
theorem lk_borders {bs : List Int} {e : Int} {b : Addr} : (dayF bs e b).lookup ("_borders" : Str) = some (.ref b) := by unfold dayF four; (first | rfl | exact lk_eq | (rw [lk_ne (by decide +kernel)]; (first | rfl | exact lk_eq | (rw [lk_ne (by decide +kernel)]; (first | rfl | exact lk_eq | (rw [lk_ne (by decide +kernel)]; (first | rfl | exact lk_eq | (rw [lk_ne (by decide +kernel)]; (first | rfl | exact lk_eq | (rw [lk_ne (by decide +kernel)]; (first | rfl | exact lk_eq | (rw [lk_ne (by decide +kernel)]; (first | rfl | exact lk_eq | (rw [lk_ne (by decide +kernel)]; (first | rfl | exact lk_eq)))))))))))))))
theorem lk_bm {bs : List Int} {e : Int} {b : Addr} : (dayF bs e b).lookup ("borders" : Str) = none := by unfold dayF four; (first | rfl | exact lk_eq | (rw [lk_ne (by decide +kernel)]; (first | rfl | exact lk_eq | (rw [lk_ne (by decide +kernel)]; (first | rfl | exact lk_eq | (rw [lk_ne (by decide +kernel)]; (first | rfl | exact lk_eq | (rw [lk_ne (by decide +kernel)]; (first | rfl | exact lk_eq | (rw [lk_ne (by decide +kernel)]; (first | rfl | exact lk_eq | (rw [lk_ne (by decide +kernel)]; (first | rfl | exact lk_eq | (rw [lk_ne (by decide +kernel)]; (first | rfl | exact lk_eq)))))))))))))))
theorem lk_every {bs : List Int} {e : Int} {b : Addr} : (dayF bs e b).lookup ("every" : Str) = some (.int e) := by unfold dayF four; (first | rfl | exact lk_eq | (rw [lk_ne (by decide +kernel)]; (first | rfl | exact lk_eq | (rw [lk_ne (by decide +kernel)]; (first | rfl | exact lk_eq | (rw [lk_ne (by decide +kernel)]; (first | rfl | exact lk_eq | (rw [lk_ne (by decide +kernel)]; (first | rfl | exact lk_eq | (rw [lk_ne (by decide +kernel)]; (first | rfl | exact lk_eq | (rw [lk_ne (by decide +kernel)]; (first | rfl | exact lk_eq | (rw [lk_ne (by decide +kernel)]; (first | rfl | exact lk_eq)))))))))))))))
theorem lk_first {p : Pl} {y z : Addr} : (pairF p y z).lookup ("first" : Str) = some (.ref y) := by unfold pairF; (first | rfl | exact lk_eq | (rw [lk_ne (by decide +kernel)]; (first | rfl | exact lk_eq | (rw [lk_ne (by decide +kernel)]; (first | rfl | exact lk_eq | (rw [lk_ne (by decide +kernel)]; (first | rfl | exact lk_eq | (rw [lk_ne (by decide +kernel)]; (first | rfl | exact lk_eq | (rw [lk_ne (by decide +kernel)]; (first | rfl | exact lk_eq | (rw [lk_ne (by decide +kernel)]; (first | rfl | exact lk_eq | (rw [lk_ne (by decide +kernel)]; (first | rfl | exact lk_eq)))))))))))))))
theorem lk_second {p : Pl} {y z : Addr} : (pairF p y z).lookup ("second" : Str) = some (.ref z) := lk_eq
theorem RestX.view {K : PySem.W.Frag} {mg : Str → Option Value} {a : Ad} {g : Addr → Prop} {H : Hp} (KN : Kn K mg a) : ∀ {p : Pl} {x : Addr}, RestX a g H p x → ∃ C dx fs, H x = some (.ins C dx fs) ∧ RC K a C ∧ Four p fs ∧ isC a C ∧ ¬ g x
  | .win w, x, ⟨n, dx, h⟩ => ⟨_, _, _, h, KN.w, four_win, .inl rfl, n⟩
  | .days bs e, x, ⟨n, dx, b, h, nb, hb⟩ => ⟨_, _, _, h, KN.d, four_day, .inr (.inl rfl), n⟩
  | .lat p q, x, ⟨n, dx, y, z, h, h2, h3⟩ => ⟨_, _, _, h, KN.l, four_pair, .inr (.inr (.inl rfl)), n⟩
  | .soo p q, x, ⟨n, dx, y, z, h, h2, h3⟩ => ⟨_, _, _, h, KN.s, four_pair, .inr (.inr (.inr (.inl rfl))), n⟩
  | .nex p q, x, ⟨n, dx, y, z, h, h2, h3⟩ => ⟨_, _, _, h, KN.n, four_pair, .inr (.inr (.inr (.inr rfl))), n⟩
theorem tb0 : tb 0 = 40000 := rfl
theorem join_le (a : Str) {B : Nat} : ∀ {ys : List Str}, (∀ y ∈ ys, y.length ≤ B) → (Str.join a ys).length ≤ ys.length * (B + a.length)
  | [], _ => Nat.zero_le _
  | [y], h => by
    have := h y (by simp)
    show y.length ≤ 1 * (B + a.length)
    omega
  | y :: z :: r, h => by
    have ih := join_le a (ys := z :: r) fun t ht => h t (List.mem_cons_of_mem _ ht)
    have := h y (by simp)
    show (y ++ a ++ Str.join a (z :: r)).length ≤ _
    rw [Str.length_append, Str.length_append]
    have e : (y :: z :: r).length * (B + a.length) = (z :: r).length * (B + a.length) + (B + a.length) := by
      show ((z :: r).length + 1) * (B + a.length) = _
      rw [Nat.add_mul, Nat.one_mul]
    omega
theorem sum_le {B : Nat} : ∀ {ys : List Str}, (∀ y ∈ ys, y.length ≤ B) → (ys.map (·.length)).sum ≤ ys.length * B
  | [], _ => Nat.zero_le _
  | y :: r, h => by
    have ih := sum_le (ys := r) fun t ht => h t (List.mem_cons_of_mem _ ht)
    have := h y (by simp)
    show y.length + (r.map (·.length)).sum ≤ (r.length + 1) * B
    rw [Nat.add_mul, Nat.one_mul]
    omega
theorem int_len {i : Int} (h0 : -1000000 ≤ i) (h1 : i ≤ 1000000) : (PySem.Str.ofString (toString i)).length ≤ 1921 := PyProof.Rows.int_text_len_1921 (log_small h0 h1)

theorem same_mk {Hb H H1 : Hp} {x q : Addr} {o : HO} (hb : Hb x = none) (sb : Same Hb H) (hq : H q = none) (h2 : ∀ y, y ≠ x → H1 y = upd H q o y) : Same Hb H1 := fun c u e => by
  have nx : c ≠ x := ne_of_none e hb
  rw [h2 c nx, upd_ne (ne_of_none (sb c u e) hq)]
  exact sb c u e
theorem same_upd {Hb H : Hp} {x : Addr} {o : HO} (hb : Hb x = none) (s : Same Hb H) : Same Hb (upd H x o) := fun c u e => by
  rw [upd_ne (ne_of_none e hb)]
  exact s c u e
theorem nF_same {F : Addr → Prop} {H H' : Hp} {t : Addr} (hF : ∀ b, F b → ∃ o, H b = some o) (s : Same H H') (h : H' t = none) : ¬ F t := fun z => by
  obtain ⟨o, e⟩ := hF t z
  rw [s _ _ e] at h
  cases h
theorem empty_app (z : Str) : Str.empty ++ z = z := by
  show (⟨Str.empty.cps ++ z.cps⟩ : Str) = z
  have e : Str.empty.cps = #[] := rfl
  rw [e, Array.empty_append]
theorem join_two (c a b : Str) : ∀ xs : List Str, Str.join c (xs ++ [a ++ c ++ b]) = Str.join c (xs ++ [a, b])
  | [] => rfl
  | [x] => by
    show x ++ c ++ (a ++ c ++ b) = x ++ c ++ (a ++ c ++ b)
    rfl
  | x :: y :: r => by
    show x ++ c ++ Str.join c ((y :: r) ++ [a ++ c ++ b]) = x ++ c ++ Str.join c ((y :: r) ++ [a, b])
    rw [join_two c a b (y :: r)]
theorem join_then (bs : List Int) (e : Int) : Str.join " " (("days" : Str) :: (bs.map iT ++ [Str.empty ++ "then " ++ iT e])) = Str.join " " (wordsT bs e) := by
  have h := join_two " " "then" (iT e) (("days" : Str) :: bs.map iT)
  have q : Str.empty ++ "then " ++ iT e = ("then" : Str) ++ " " ++ iT e := by
    rw [empty_app]
    exact congrArg (· ++ iT e) (by decide +kernel)
  rw [q]
  exact h
theorem four_len (p : Pl) (fs : List (Str × V)) : (four p fs).length ≤ fs.length + 4 := by
  unfold four
  have l1 := length_putF "_text" (.str p.text) fs
  have l2 := length_putF "_forms" (.int p.forms) (putF "_text" (.str p.text) fs)
  have l3 := length_putF "_period" (.int p.per) (putF "_forms" (.int p.forms) (putF "_text" (.str p.text) fs))
  have l4 := length_putF "_bend" (.int p.bend) (putF "_period" (.int p.per) (putF "_forms" (.int p.forms) (putF "_text" (.str p.text) fs)))
  omega
theorem iT_len {i : Int} (h0 : -1000000 ≤ i) (h1 : i ≤ 1000000) : (iT i).length ≤ 1921 := int_len h0 h1
theorem wordsT_len {bs : List Int} {e : Int} (hA : Asc 1 bs) (e0 : 1 ≤ e) (e1 : e ≤ 2000) : ∀ y ∈ wordsT bs e, y.length ≤ 1921 := by
  intro y hy
  unfold wordsT at hy
  simp only [List.mem_cons, List.mem_append, List.mem_map, List.not_mem_nil, or_false] at hy
  rcases hy with rfl | ⟨c, hc, rfl⟩ | rfl | rfl
  · decide +kernel
  · have := hA.all _ hc
    exact iT_len (by omega) (by omega)
  · decide +kernel
  · exact iT_len (by omega) (by omega)
theorem pairT_len (w t u : Str) : (pairT w t u).length = w.length + t.length + u.length + 4 := by
  unfold pairT
  have e1 : ("(" : Str).length = 1 := by decide +kernel
  have e2 : (", " : Str).length = 2 := by decide +kernel
  have e3 : (")" : Str).length = 1 := by decide +kernel
  have e0 : Str.empty.length = 0 := rfl
  rw [Str.length_append, Str.length_append, Str.length_append, Str.length_append, Str.length_append, Str.length_append]
  omega
theorem _root_.RM.Pl.text_len : ∀ p : Pl, p.ok 0 → p.text.length ≤ tb p.h
  | .win w, h => by
    have e1 : ("window " : Str).length = 7 := by decide +kernel
    have e0 : Str.empty.length = 0 := rfl
    have := iT_len (i := w) (by have := h.1; omega) (by have := h.2; omega)
    show (Str.empty ++ "window " ++ iT w).length ≤ 40000
    rw [Str.length_append, Str.length_append]
    omega
  | .days bs e, h => by
    show (Str.join " " (wordsT bs e)).length ≤ 40000
    have := join_le " " (wordsT_len h.2.2.2.2 h.1 h.2.1)
    have e1 : (" " : Str).length = 1 := by decide +kernel
    have l : (wordsT bs e).length ≤ 15 := by
      unfold wordsT
      have := h.2.2.2.1
      simp only [List.length_cons, List.length_append, List.length_map, List.length_nil]
      omega
    have := Nat.mul_le_mul_right (1921 + (" " : Str).length) l
    omega
  | .lat p q, h => by
    have h1 := p.text_len h.1
    have h2 := q.text_len h.2
    have z1 : tb p.h ≤ tb (max p.h q.h) := tb_le (Nat.le_max_left _ _)
    have z2 : tb q.h ≤ tb (max p.h q.h) := tb_le (Nat.le_max_right _ _)
    have ew : ("later" : Str).length = 5 := by decide +kernel
    show (pairT "later" p.text q.text).length ≤ tb (1 + max p.h q.h)
    rw [pairT_len, Nat.add_comm 1]
    show _ ≤ 2 * tb (max p.h q.h) + 40
    omega
  | .soo p q, h => by
    have h1 := p.text_len h.1
    have h2 := q.text_len h.2
    have z1 : tb p.h ≤ tb (max p.h q.h) := tb_le (Nat.le_max_left _ _)
    have z2 : tb q.h ≤ tb (max p.h q.h) := tb_le (Nat.le_max_right _ _)
    have ew : ("sooner" : Str).length = 6 := by decide +kernel
    show (pairT "sooner" p.text q.text).length ≤ tb (1 + max p.h q.h)
    rw [pairT_len, Nat.add_comm 1]
    show _ ≤ 2 * tb (max p.h q.h) + 40
    omega
  | .nex p q, h => by
    have h1 := p.text_len h.1
    have h2 := q.text_len h.2
    have z1 : tb p.h ≤ tb (max p.h q.h) := tb_le (Nat.le_max_left _ _)
    have z2 : tb q.h ≤ tb (max p.h q.h) := tb_le (Nat.le_max_right _ _)
    have ew : ("next" : Str).length = 4 := by decide +kernel
    show (pairT "next" p.text q.text).length ≤ tb (1 + max p.h q.h)
    rw [pairT_len, Nat.add_comm 1]
    show _ ≤ 2 * tb (max p.h q.h) + 40
    omega
/-- a plan of a rest that the program may make -/
structure Good (p : Pl) : Prop where
  o : p.ok 0
  l : p.leaves ≤ 3
  p2 : p.per ≤ 2000
theorem Good.p1 {p : Pl} (g : Good p) : 1 ≤ p.per := by have := (p.per_ok g.o).2; omega
theorem Good.h {p : Pl} (g : Good p) : p.h ≤ 2 := by have := p.h_lt; have := g.l; omega
theorem Good.t {p : Pl} (g : Good p) : p.text.length ≤ 160120 := Nat.le_trans (p.text_len g.o) (Nat.le_trans (tb_le g.h) (by decide))
theorem Good.b {p : Pl} (g : Good p) : 0 ≤ p.bend ∧ p.bend ≤ 1000 := p.bend_bd g.o
theorem Good.f {p : Pl} (g : Good p) : 1 ≤ p.forms ∧ p.forms ≤ 5 := by have := p.forms_eq; have := p.leaves_pos; have := g.l; omega
theorem lcm_part {a b : Int} (h1 : 1 ≤ a) (h2 : 1 ≤ b) (h : lcmI a b ≤ 2000) : a ≤ 2000 ∧ b ≤ 2000 := by
  have p := lcmI_pos (a := a) (b := b) (by omega) (by omega)
  obtain ⟨d1, d2⟩ := dvd_l (Int.dvd_refl (lcmI a b))
  have := Int.le_of_dvd p d1
  have := Int.le_of_dvd p d2
  omega
theorem Good.two {p q : Pl} (o1 : p.ok 0) (o2 : q.ok 0) (l : p.leaves + q.leaves ≤ 3) (h : lcmI p.per q.per ≤ 2000) : Good p ∧ Good q := by
  have := p.leaves_pos
  have := q.leaves_pos
  have a1 := (p.per_ok o1).2
  have a2 := (q.per_ok o2).2
  have := lcm_part (a := p.per) (b := q.per) (by omega) (by omega) h
  exact ⟨⟨o1, by omega, by omega⟩, ⟨o2, by omega, by omega⟩⟩
theorem Good.win {w : Int} (h0 : 1 ≤ w) (h1 : w ≤ 1000) : Good (.win w) := ⟨⟨h0, h1⟩, (by show 1 ≤ 3; decide), (by show (1 : Int) ≤ 2000; decide)⟩
theorem Good.days {bs : List Int} {e : Int} (h : bs.length ≤ 12) (hA : Asc 1 bs) (e0 : 1 ≤ e) (e1 : e ≤ 2000) : Good (.days bs e) := ⟨⟨e0, e1, Nat.dvd_zero _, h, hA⟩, (by show 1 ≤ 3; decide), e1⟩
theorem ixN_nat {j n : Nat} (h : j < n) : ixN n (j : Int) = some j := by
  unfold ixN
  rw [if_pos (by omega), if_pos (by omega)]
  simp
theorem last_ix {bs : List Int} (h : bs ≠ []) : atI (bs.map V.int) (-1) = some (V.int (lastOf bs)) := by
  obtain ⟨cs, c, rfl⟩ : ∃ cs c, bs = cs ++ [c] := ⟨bs.dropLast, bs.getLast h, (List.dropLast_concat_getLast h).symm⟩
  rw [List.map_append]
  have e : lastOf (cs ++ [c]) = c := by
    unfold lastOf
    rw [List.getLastD_concat]
  rw [e]
  exact atI_last _ _

/-! ### values of any kind -/
def Sz : V → Prop
  | .int _ => True
  | .non => True
  | .bl _ => True
  | .str z => z.length ≤ 1000000
  | _ => False
theorem Sz.sc : ∀ {x : V}, Sz x → Sc x
  | .int _, _ => True.intro
  | .non, _ => True.intro
  | .bl _, _ => True.intro
  | .str _, _ => True.intro
/-- each value is the one of its key, flat or an object -/
def DkOk (ks : List (Key × V)) : Prop := ∀ p ∈ ks, valV ks p.1 = some p.2 ∧ (flatB p.2 = true ∨ ∃ a, p.2 = .ref a)
theorem dk0 : DkOk [] := fun p hp => by cases hp
theorem dk1 {k : Key} {v : V} (hv : flatB v = true ∨ ∃ a, v = .ref a) : DkOk (mergeK [] [(k, v)]) := fun p hp => by
  have e : mergeK [] [(k, v)] = [(k, v)] := rfl
  rw [e] at hp ⊢
  rw [List.mem_singleton] at hp
  rw [hp]
  refine ⟨?_, hv⟩
  unfold valV
  rw [List.find?_cons, decide_eq_true rfl]
  rfl
/-- data that is not in F: scalars, dicts, lists and tuples of such data, n deep -/
def Ov (F : Addr → Prop) (H : Hp) : Nat → V → Prop
  | 0, x => Sz x
  | n + 1, x => Sz x ∨ (∃ (p : Addr) (ks : List (Key × V)), x = .ref p ∧ ¬ F p ∧ H p = some (.dK ks) ∧ DkOk ks) ∨ ∃ (b : Bool) (p : Addr) (xs : List V), x = .ref p ∧ ¬ F p ∧ H p = some (mkO b xs) ∧ xs.length ≤ 1000000 ∧ ∀ u ∈ xs, Ov F H n u
theorem mkO_ne (b : Bool) (xs : List V) : ∀ ps, mkO b xs ≠ .tbl ps := fun ps z => by
  cases b with
  | true => cases (show HO.lst xs = .tbl ps from z)
  | false => cases (show HO.tup xs = .tbl ps from z)
theorem Ov.kp {F : Addr → Prop} {H H' : Hp} (k : KpF F H H') : ∀ {n : Nat} {x : V}, Ov F H n x → Ov F H' n x
  | 0, _, h => h
  | _ + 1, _, .inl h => .inl h
  | _ + 1, _, .inr (.inl ⟨p, ks, e, n, h, q⟩) => .inr (.inl ⟨p, ks, e, n, k _ _ n (fun _ z => by cases z) h, q⟩)
  | _ + 1, _, .inr (.inr ⟨b, p, xs, e, n, h, l, r⟩) => .inr (.inr ⟨b, p, xs, e, n, k _ _ n (mkO_ne b xs) h, l, fun u hu => (r u hu).kp k⟩)
theorem Ov.mono {F G : Addr → Prop} {H : Hp} (k : ∀ b, G b → F b) : ∀ {n : Nat} {x : V}, Ov F H n x → Ov G H n x
  | 0, _, h => h
  | _ + 1, _, .inl h => .inl h
  | _ + 1, _, .inr (.inl ⟨p, ks, e, n, h, q⟩) => .inr (.inl ⟨p, ks, e, fun z => n (k _ z), h, q⟩)
  | _ + 1, _, .inr (.inr ⟨b, p, xs, e, n, h, l, r⟩) => .inr (.inr ⟨b, p, xs, e, fun z => n (k _ z), h, l, fun u hu => (r u hu).mono k⟩)
theorem Ov.sz {F : Addr → Prop} {H : Hp} {x : V} (h : Sz x) : ∀ n, Ov F H n x
  | 0 => h
  | _ + 1 => .inl h
/-- by the mutation of a list in F nothing changes -/
theorem KpF.mut' {F : Addr → Prop} {H : Hp} {p : Addr} {o : HO} (h : F p) : KpF F H (L2.upd H p o) := fun b u n _ e => by
  rw [upd_ne (fun z => n (by rw [z]; exact h))]
  exact e
def isI : V → Bool
  | .int _ => true
  | .bl _ => true
  | _ => false
def isB : V → Bool
  | .bl _ => true
  | _ => false
def isS : V → Bool
  | .str _ => true
  | _ => false
/-- what isinstance says of such a value -/
theorem Ov.ty {K : PySem.W.Frag} {F : Addr → Prop} {H : Hp} {n : Nat} {x : V} (h : Ov F H n x) : ∃ t : String, TyX K H x (.type t) ∧ kitB t "int" = some (isI x) ∧ kitB t "bool" = some (isB x) ∧ kitB t "str" = some (isS x) ∧ t ∈ ["int", "bool", "str", "NoneType", "list", "tuple", "dict"] := by
  have sc : ∀ {x : V}, Sz x → ∃ t : String, TyX K H x (.type t) ∧ kitB t "int" = some (isI x) ∧ kitB t "bool" = some (isB x) ∧ kitB t "str" = some (isS x) ∧ t ∈ ["int", "bool", "str", "NoneType", "list", "tuple", "dict"] := fun {x} hs => by
    match x, hs with
    | .int i, _ => exact ⟨"int", .base (.int i), (show kitB "int" "int" = some true by decide +kernel), (show kitB "int" "bool" = some false by decide +kernel), (show kitB "int" "str" = some false by decide +kernel), by decide⟩
    | .bl i, _ => exact ⟨"bool", .base (.bl i), (show kitB "bool" "int" = some true by decide +kernel), (show kitB "bool" "bool" = some true by decide +kernel), (show kitB "bool" "str" = some false by decide +kernel), by decide⟩
    | .non, _ => exact ⟨"NoneType", .base .non, (show kitB "NoneType" "int" = some false by decide +kernel), (show kitB "NoneType" "bool" = some false by decide +kernel), (show kitB "NoneType" "str" = some false by decide +kernel), by decide⟩
    | .str i, _ => exact ⟨"str", .base (.str i), (show kitB "str" "int" = some false by decide +kernel), (show kitB "str" "bool" = some false by decide +kernel), (show kitB "str" "str" = some true by decide +kernel), by decide⟩
  cases n with
  | zero => exact sc h
  | succ n =>
    rcases h with h | ⟨p, ks, rfl, _, e, _⟩ | ⟨b, p, xs, rfl, _, e, _⟩
    · exact sc h
    · exact ⟨"dict", .base (.dK e), (show kitB "dict" "int" = some false by decide +kernel), (show kitB "dict" "bool" = some false by decide +kernel), (show kitB "dict" "str" = some false by decide +kernel), by decide⟩
    · cases b with
      | true => exact ⟨"list", .base (.lst e), (show kitB "list" "int" = some false by decide +kernel), (show kitB "list" "bool" = some false by decide +kernel), (show kitB "list" "str" = some false by decide +kernel), by decide⟩
      | false => exact ⟨"tuple", .base (.tup e), (show kitB "tuple" "int" = some false by decide +kernel), (show kitB "tuple" "bool" = some false by decide +kernel), (show kitB "tuple" "str" = some false by decide +kernel), by decide⟩
theorem Ov.str {F : Addr → Prop} {H : Hp} {n : Nat} {z : Str} (h : Ov F H n (.str z)) : z.length ≤ 1000000 := by
  cases n with
  | zero => exact h
  | succ n =>
    rcases h with h | ⟨p, ks, e, _⟩ | ⟨b, p, xs, e, _⟩
    · exact h
    · cases e
    · cases e
/-! ### errors -/
def ivF (nm : Str) : List V → List (Str × V)
  | [v] => [("code", .str nm), ("value", v)]
  | _ => []
def atF (nm : Str) : List V → List (Str × V)
  | [v] => [("code", .str nm), ("at", v)]
  | _ => []
def tmF : List V → List (Str × V)
  | [w, c] => [("code", .str "TooMany"), ("count", c), ("what", w)]
  | _ => []
structure RE (P : Program) (w : World) (K : PySem.W.Frag) (mg : Str → Option Value) (base : Heap) (nm f : Str) (fs : List V → List (Str × V)) (C fI : Addr) (fdI : FuncData) : Prop where
  er : LX.ErrC K mg nm [f, "code"] C fI
  G : FnOk P w K mg base CX0 1 fI fdI ["self", f] (LX.spErr C 1 fs)
  b : Binds K fdI ["self", f] []
structure RTM (P : Program) (w : World) (K : PySem.W.Frag) (mg : Str → Option Value) (base : Heap) (CT fT : Addr) (fdT : FuncData) : Prop where
  er : LX.ErrC K mg "TooMany" ["what", "count", "code"] CT fT
  G : FnOk P w K mg base CX0 1 fT fdT PTooMany_init (LX.spErr CT 2 tmF)
  b : Binds K fdT PTooMany_init []
theorem ErrOut.same {H H1 : Hp} {E : XK} {C : Addr} {fs : List (Str × V)} (s : Same H H1) (h : LX.ErrOut H E C fs) : LX.ErrOut H1 E C fs := fun d H' s' hd he => h d H' (s.trans s') (s.free hd) he
/-- the error classes -/
structure Ce where
  (nu bo re tm : Addr)
/-- an error: its name, its class, what it tells, its fields -/
inductive Er (ce : Ce) : Str → Addr → List V → List (Str × V) → Prop where
  | nu (v : V) : Er ce "InvalidNumber" ce.nu [v] (ivF "InvalidNumber" [v])
  | bo (v : V) : Er ce "InvalidBorders" ce.bo [v] (atF "InvalidBorders" [v])
  | re (v : V) : Er ce "InvalidRest" ce.re [v] (ivF "InvalidRest" [v])
  | tm (w n : V) : Er ce "TooMany" ce.tm [w, n] (tmF [w, n])
/-- the way out with such an error -/
def Out (ce : Ce) (H : Hp) (E : XK) (e : Str × List V) : Prop := ∀ C fs, Er ce e.1 C e.2 fs → LX.ErrOut H E C fs
theorem Out.same {ce : Ce} {H H1 : Hp} {E : XK} {e : Str × List V} (s : Same H H1) (h : Out ce H E e) : Out ce H1 E e := fun C fs r => ErrOut.same s (h C fs r)
theorem Out.nu {ce : Ce} {H : Hp} {E : XK} {v : V} (h : Out ce H E ("InvalidNumber", [v])) : LX.ErrOut H E ce.nu (ivF "InvalidNumber" [v]) := h _ _ (.nu v)
theorem Out.bo {ce : Ce} {H : Hp} {E : XK} {v : V} (h : Out ce H E ("InvalidBorders", [v])) : LX.ErrOut H E ce.bo (atF "InvalidBorders" [v]) := h _ _ (.bo v)
theorem Out.re {ce : Ce} {H : Hp} {E : XK} {v : V} (h : Out ce H E ("InvalidRest", [v])) : LX.ErrOut H E ce.re (ivF "InvalidRest" [v]) := h _ _ (.re v)
theorem Out.tm {ce : Ce} {H : Hp} {E : XK} {v w : V} (h : Out ce H E ("TooMany", [v, w])) : LX.ErrOut H E ce.tm (tmF [v, w]) := h _ _ (.tm v w)
theorem num_true {v lo hi : Int} (h1 : lo ≤ v) (h2 : v ≤ hi) : isNum (.int v) lo hi = true := by
  show (decide (lo ≤ v) && decide (v ≤ hi)) = true
  rw [decide_eq_true h1, decide_eq_true h2]
  rfl
/-- alike, told and due: dicts are one object -/
def Lq (H : Hp) : Nat → V → V → Prop
  | 0, x, y => x = y ∧ Sc x
  | n + 1, x, y => (x = y ∧ Sc x) ∨ (∃ (p : Addr) (ks : List (Key × V)), x = .ref p ∧ y = .ref p ∧ H p = some (.dK ks) ∧ DkOk ks) ∨ ∃ (b : Bool) (p q : Addr) (xs ys : List V), x = .ref p ∧ y = .ref q ∧ H p = some (mkO b xs) ∧ H q = some (mkO b ys) ∧ xs.length = ys.length ∧ xs.length ≤ 1000000 ∧ ∀ (i : Nat) (u v : V), xs[i]? = some u → ys[i]? = some v → Lq H n u v
theorem Lq.same {H H' : Hp} (s : L2.Same H H') : ∀ {n : Nat} {x y : V}, Lq H n x y → Lq H' n x y
  | 0, _, _, h => h
  | n + 1, _, _, .inl h => .inl h
  | n + 1, _, _, .inr (.inl ⟨p, ks, e1, e2, h, q⟩) => .inr (.inl ⟨p, ks, e1, e2, s _ _ h, q⟩)
  | n + 1, _, _, .inr (.inr ⟨b, p, q, xs, ys, e1, e2, h1, h2, h3, h4, h5⟩) => .inr (.inr ⟨b, p, q, xs, ys, e1, e2, s _ _ h1, s _ _ h2, h3, h4, fun i u v a c => (h5 i u v a c).same s⟩)
theorem Lq.sc {H : Hp} {x : V} (h : Sc x) : ∀ n, Lq H n x x
  | 0 => ⟨rfl, h⟩
  | _ + 1 => .inl ⟨rfl, h⟩
theorem Lq.cases {H : Hp} {m : Nat} {u v : V} (h : Lq H m u v) : (u = v ∧ Sc u) ∨ (∃ (p : Addr) (ks : List (Key × V)), u = .ref p ∧ v = .ref p ∧ H p = some (.dK ks) ∧ DkOk ks) ∨ ∃ j, m = j + 1 ∧ ∃ (b : Bool) (p q : Addr) (xs ys : List V), u = .ref p ∧ v = .ref q ∧ H p = some (mkO b xs) ∧ H q = some (mkO b ys) ∧ xs.length = ys.length ∧ xs.length ≤ 1000000 ∧ ∀ (i : Nat) (s t : V), xs[i]? = some s → ys[i]? = some t → Lq H j s t := by
  cases m with
  | zero => exact .inl h
  | succ j =>
    rcases h with h | h | h
    · exact .inl h
    · exact .inr (.inl h)
    · exact .inr (.inr ⟨j, rfl, h⟩)
/-- data is like itself -/
theorem Ov.lq {F : Addr → Prop} {H : Hp} : ∀ {n : Nat} {x : V}, Ov F H n x → Lq H n x x
  | 0, _, h => ⟨rfl, h.sc⟩
  | _ + 1, _, .inl h => .inl ⟨rfl, h.sc⟩
  | _ + 1, _, .inr (.inl ⟨p, ks, e, _, h, q⟩) => .inr (.inl ⟨p, ks, e, e, h, q⟩)
  | _ + 1, _, .inr (.inr ⟨b, p, xs, e, _, h, l, r⟩) => .inr (.inr ⟨b, p, p, xs, xs, e, e, h, h, rfl, l, fun i u v a c => by
      rw [a] at c
      cases c
      exact (r u (List.mem_of_getElem? a)).lq⟩)
theorem kLT_dK {K : PySem.W.Frag} : PySem.W.kitAny K (.type "dict") [.type "list", .type "tuple"] = some false := kitAny_cons (kit_ty (show kitB "dict" "list" = some false by decide +kernel)) (fun _ => kitAny_cons (kit_ty (show kitB "dict" "tuple" = some false by decide +kernel)) (fun _ => kitAny_nil) fun z => by cases z) (fun z => by cases z)
/-- == of scalars, or of a dict with itself -/
def rEqS (K : PySem.W.Frag) : R2 := fun x y H Q => rEq x y H Q ∨ ∃ (p : Addr) (ks : List (Key × V)), x = .ref p ∧ y = .ref p ∧ H p = some (.dK ks) ∧ DkOk ks ∧ Q (.bl true) H
theorem op_eqS {X : Cx} (hu : X.A.units + 64 < cLine) : OpR X (compareOp .Eq) (rEqS X.K) := by
  intro pins s σ H x y v u Q I rx ry h
  rcases h with h | ⟨p, ks, rfl, rfl, hp, ok, q⟩
  · exact op_eq pins s σ H x y v u Q I rx ry h
  · refine op_eqV hu pins s σ H _ _ v u Q I rx ry ⟨1, by decide, .inr ⟨p, p, ks, ks, rfl, rfl, hp, hp, rfl, fun z hz => ?_⟩, q⟩
    obtain ⟨e, f⟩ := ok z hz
    refine ⟨z.2, e, ?_⟩
    rcases f with f | ⟨b, f⟩
    · exact .inl ⟨rfl, f⟩
    · exact .inr (.inl ⟨b, f, f⟩)
/-- what is new is not in F -/
theorem nF_of {F : Addr → Prop} {g l : Addr} {H H' : Hp} {t : Addr} (hF : ∀ b, F b → ∃ o, H b = some o) (r : Ok g l H H') (h : H' t = none) : ¬ F t := fun z => by
  obtain ⟨o, e⟩ := hF t z
  rw [r.free h] at e
  cases e
theorem hF_ok {F : Addr → Prop} {g l : Addr} {H H' : Hp} (hF : ∀ b, F b → ∃ o, H b = some o) (r : Ok g l H H') : ∀ b, F b → ∃ o, H' b = some o := fun b z => by
  cases q : H' b with
  | some o => exact ⟨o, rfl⟩
  | none => exact absurd z (nF_of hF r q)
/-- a good dict stands at p -/
def Dq (F : Addr → Prop) (H : Hp) (p : Addr) : Prop := ¬ F p ∧ ∃ ks, H p = some (.dK ks) ∧ DkOk ks
theorem Dq.new {F : Addr → Prop} {H : Hp} {p q : Addr} {o : HO} (d : Dq F H p) (h : H q = none) : Dq F (L2.upd H q o) p := by
  obtain ⟨n, ks, e, k⟩ := d
  exact ⟨n, ks, by rw [upd_ne (ne_of_none e h)]; exact e, k⟩
theorem Dq.dict {F : Addr → Prop} {H : Hp} {p q : Addr} {kvs : List (Key × V)} (ok : DkOk kvs) (d : Dq F H p) : Dq F (L2.upd H q (.dK kvs)) p := by
  obtain ⟨n, ks, e, k⟩ := d
  by_cases h : p = q
  · subst h
    exact ⟨n, kvs, upd_same, ok⟩
  · exact ⟨n, ks, by rw [upd_ne h]; exact e, k⟩
theorem Dq.ov {F : Addr → Prop} {H : Hp} {p : Addr} (d : Dq F H p) (n : Nat) : Ov F H (n + 1) (.ref p) := by
  obtain ⟨n, ks, e, k⟩ := d
  exact .inr (.inl ⟨p, ks, rfl, n, e, k⟩)
theorem app_cps (a b : Str) : (a ++ b).cps.toList = a.cps.toList ++ b.cps.toList := by
  show (a.cps ++ b.cps).toList = _
  rw [Array.toList_append]
theorem nam_str {v : V} (h : isNam v = true) : ∃ z, v = .str z := by
  cases v with
  | str z => exact ⟨z, rfl⟩
  | _ => exact Bool.noConfusion h
theorem num_int {v : V} {lo hi : Int} (h : isNum v lo hi = true) : ∃ i, v = .int i ∧ lo ≤ i ∧ i ≤ hi := by
  cases v with
  | int i =>
    have q : (decide (lo ≤ i) && decide (i ≤ hi)) = true := h
    rw [Bool.and_eq_true] at q
    exact ⟨i, rfl, of_decide_eq_true q.1, of_decide_eq_true q.2⟩
  | _ => exact Bool.noConfusion h
theorem same_two {H : Hp} {x dx : Addr} {o o' : HO} (hx : H x = none) (hdx : H dx = none) : Same H (upd (upd H dx o) x o') := same_upd hx (same_new hdx)
theorem app_assoc (a b c : Str) : a ++ b ++ c = a ++ (b ++ c) := by
  show (⟨a.cps ++ b.cps ++ c.cps⟩ : Str) = ⟨a.cps ++ (b.cps ++ c.cps)⟩
  rw [Array.append_assoc]
/-! ### what is due -/
def bad : Int → Nat → List V → Option Nat
  | _, _, [] => none
  | lo, i, .int b :: r => if lo ≤ b ∧ b ≤ 1000 then bad (b + 1) (i + 1) r else some i
  | _, i, _ :: _ => some i
theorem bad_none : ∀ {lo : Int} {i : Nat} {xs : List V}, bad lo i xs = none → ∃ bs : List Int, xs = bs.map V.int ∧ Asc lo bs
  | _, _, [], _ => ⟨[], rfl, True.intro⟩
  | lo, i, .int b :: r, h => by
    unfold bad at h
    split at h
    · rename_i q
      obtain ⟨bs, e, hA⟩ := bad_none h
      exact ⟨b :: bs, by rw [e]; rfl, q.1, q.2, hA⟩
    · cases h
  | lo, i, .non :: r, h => by cases h
  | lo, i, .bl _ :: r, h => by cases h
  | lo, i, .str _ :: r, h => by cases h
  | lo, i, .ref _ :: r, h => by cases h
  | lo, i, .byt _ :: r, h => by cases h
  | lo, i, .flt _ :: r, h => by cases h
  | lo, i, .ty _ :: r, h => by cases h
theorem bad_step {lo : Int} {i : Nat} {x : V} {r : List V} : bad lo i (x :: r) = if isNum x lo 1000 = true then (match x with | .int b => bad (b + 1) (i + 1) r | _ => some i) else some i := by
  cases x with
  | int b =>
    show (if lo ≤ b ∧ b ≤ 1000 then bad (b + 1) (i + 1) r else some i) = if (decide (lo ≤ b) && decide (b ≤ 1000)) = true then bad (b + 1) (i + 1) r else some i
    by_cases q : lo ≤ b ∧ b ≤ 1000
    · rw [if_pos q, if_pos (by rw [decide_eq_true q.1, decide_eq_true q.2]; rfl)]
    · rw [if_neg q, if_neg (by rw [Bool.and_eq_true]; exact fun z => q ⟨of_decide_eq_true z.1, of_decide_eq_true z.2⟩)]
  | _ => rfl
/-- the fault of Days(borders, every); o: the items, if the borders are a list or a tuple -/
def daysDue (o : Option (List V)) (e : V) : Option (Str × List V) := match o with
  | none => some ("InvalidBorders", [.int (-1)])
  | some xs => if 12 < xs.length then some ("TooMany", [.str "borders", .int xs.length]) else match bad 1 0 xs with
    | some i => some ("InvalidBorders", [.int i])
    | none => if isNum e 1 2000 = true then none else some ("InvalidNumber", [e])
def pairDue (o1 o2 : Option Pl) (u v : V) : Option (Str × List V) := match o1 with
  | none => some ("InvalidRest", [u])
  | some p => match o2 with
    | none => some ("InvalidRest", [v])
    | some q => if 6 < 1 + p.forms + q.forms then some ("TooMany", [.str "forms", .int (1 + p.forms + q.forms)]) else if 2000 < lcmI p.per q.per then some ("TooMany", [.str "period", .int (lcmI p.per q.per)]) else none
/-- what may be given as borders: a list or a tuple of few things, or something else that is neither -/
def BorV (F : Addr → Prop) (H : Hp) (b : V) : Option (List V) → Prop
  | some xs => ∃ (bb : Bool) (p : Addr), b = .ref p ∧ H p = some (mkO bb xs) ∧ ¬ F p ∧ xs.length ≤ 14 ∧ ∀ u ∈ xs, Ov F H 1 u
  | none => Sz b ∨ ∃ (p : Addr) (ks : List (Key × V)), b = .ref p ∧ ¬ F p ∧ H p = some (.dK ks) ∧ DkOk ks
theorem BorV.kp {F : Addr → Prop} {H H' : Hp} {b : V} (k : KpF F H H') : ∀ {o : Option (List V)}, BorV F H b o → BorV F H' b o
  | some xs, ⟨bb, p, e, h, n, l, r⟩ => ⟨bb, p, e, k _ _ n (mkO_ne bb xs) h, n, l, fun u hu => (r u hu).kp k⟩
  | none, .inl h => .inl h
  | none, .inr ⟨p, ks, e, n, h, q⟩ => .inr ⟨p, ks, e, n, k _ _ n (fun _ z => by cases z) h, q⟩
theorem BorV.ov {F : Addr → Prop} {H : Hp} {b : V} : ∀ {o : Option (List V)}, BorV F H b o → Ov F H 2 b
  | some xs, ⟨bb, p, e, h, n, l, r⟩ => .inr (.inr ⟨bb, p, xs, e, n, h, by omega, r⟩)
  | none, .inl h => .inl h
  | none, .inr h => .inr (.inl h)
theorem BorV.mono {F G : Addr → Prop} {H : Hp} {b : V} (k : ∀ b, G b → F b) : ∀ {o : Option (List V)}, BorV F H b o → BorV G H b o
  | some xs, ⟨bb, p, e, h, n, l, r⟩ => ⟨bb, p, e, h, fun z => n (k _ z), l, fun u hu => (r u hu).mono k⟩
  | none, .inl h => .inl h
  | none, .inr ⟨p, ks, e, n, h, q⟩ => .inr ⟨p, ks, e, fun z => n (k _ z), h, q⟩
theorem sq_or {K : PySem.W.Frag} {H : Hp} {p : Addr} {bb : Bool} {xs : List V} (h : H p = some (mkO bb xs)) : SqL K H p xs ∨ SqT K H p xs := by
  cases bb with
  | true => exact .inl (SqL.of h)
  | false => exact .inr (SqT.of h)
theorem len_or {K : PySem.W.Frag} {H : Hp} {p : Addr} {bb : Bool} {xs : List V} (h : H p = some (mkO bb xs)) : LenV K (.ref p) H xs.length := by
  cases bb with
  | true => exact .inl ⟨_, SqL.of h, rfl⟩
  | false => exact .inr ⟨_, SqT.of h, rfl⟩
theorem ix_or {K : PySem.W.Frag} {H : Hp} {p : Addr} {bb : Bool} {xs : List V} {i : Nat} {z : Int} {x : V} {Q : VK} (h : H p = some (mkO bb xs)) (hz : z = (i : Int)) (e : xs[i]? = some x) (q : Q x H) : rIx K (.ref p) (.int z) H Q := by
  subst hz
  cases bb with
  | true => exact .inl ⟨_, _, _, _, rfl, rfl, SqL.of h, atI_nat e, q⟩
  | false => exact .inr (.inl ⟨_, _, _, _, rfl, rfl, SqT.of h, atI_nat e, q⟩)
theorem seq_of {H : Hp} {p : Addr} {bb : Bool} {xs : List V} (h : H p = some (mkO bb xs)) : H p = some (.lst xs) ∨ H p = some (.tup xs) := by
  cases bb with
  | true => exact .inl h
  | false => exact .inr h
theorem seq_ty {K : PySem.W.Frag} {H : Hp} {p : Addr} {bb : Bool} {xs : List V} (h : H p = some (mkO bb xs)) : ∃ t : String, TyX K H (.ref p) (.type t) ∧ PySem.W.kitAny K (.type t) [.type "list", .type "tuple"] = some true := by
  cases bb with
  | true => exact ⟨_, .base (.lst h), kLT_lst⟩
  | false => exact ⟨_, .base (.tup h), kLT_tup⟩
theorem BorV.noty {K : PySem.W.Frag} {F : Addr → Prop} {H : Hp} {b : V} (h : BorV F H b none) : ∃ t : String, TyX K H b (.type t) ∧ PySem.W.kitAny K (.type t) [.type "list", .type "tuple"] = some false := by
  rcases h with h | ⟨p, ks, rfl, n, e, q⟩
  · cases b with
    | int i => exact ⟨_, .base (.int i), kLT_int⟩
    | non => exact ⟨_, .base .non, kLT_non⟩
    | bl i => exact ⟨_, .base (.bl i), kLT_bool⟩
    | str i => exact ⟨_, .base (.str i), kLT_str⟩
    | _ => exact h.elim
  · exact ⟨_, .base (.dK e), kLT_dK⟩
theorem Ov.same {F : Addr → Prop} {H H' : Hp} (s : Same H H') {n : Nat} {x : V} (h : Ov F H n x) : Ov F H' n x := h.kp (KpF.same s)
theorem BorV.same {F : Addr → Prop} {H H' : Hp} {b : V} (s : Same H H') {o : Option (List V)} (h : BorV F H b o) : BorV F H' b o := h.kp (KpF.same s)
/-- what may be given as a rest -/
def RestV (a : Ad) (F : Addr → Prop) (H : Hp) (u : V) : Option Pl → Prop
  | some p => ∃ y, u = .ref y ∧ RestX a F H p y ∧ Good p
  | none => ∃ n, Ov F H n u
theorem RestV.kp {a : Ad} {F : Addr → Prop} {H H' : Hp} {u : V} (k : KpF F H H') : ∀ {o : Option Pl}, RestV a F H u o → RestV a F H' u o
  | some p, ⟨y, e, r, g⟩ => ⟨y, e, r.kp k, g⟩
  | none, ⟨n, h⟩ => ⟨n, h.kp k⟩
theorem RestV.same {a : Ad} {F : Addr → Prop} {H H' : Hp} {u : V} (s : Same H H') {o : Option Pl} (h : RestV a F H u o) : RestV a F H' u o := h.kp (KpF.same s)
theorem KpF.trans {F : Addr → Prop} {H H1 H2 : Hp} (a : KpF F H H1) (b : KpF F H1 H2) : KpF F H H2 := fun c o n t e => b c o n t (a c o n t e)
theorem KpF.ext {F : Addr → Prop} {H H1 : Hp} (e : LamX.ExtN H H1) : KpF F H H1 := fun b o _ t h => e b o h t
theorem KpF.new {F : Addr → Prop} {H : Hp} {p : Addr} {o : HO} (h : H p = none) : KpF F H (upd H p o) := KpF.same (same_new h)
theorem KpF.kt {F : Addr → Prop} {H H' : Hp} (hF : ∀ b, F b → ∃ xs, H b = some (.lst xs)) (k : KpF F H H') : Kt H H' := fun b xs e => k b _ (fun z => by
  obtain ⟨ys, q⟩ := hF b z
  rw [q] at e
  cases e) tupN e
theorem bag_ext {l g : Addr} {H H1 : Hp} (e : LamX.ExtN H H1) (B : Bag l H g) : Bag l H1 g := by
  obtain ⟨ns, i, d, s, c, h1, h2, h3, r⟩ := B
  exact ⟨ns, i, d, s, c, e _ _ h1 (fun ps z => by cases z), h2, e _ _ h3 (fun ps z => by cases z), r⟩
theorem bag_same {l g : Addr} {H H1 : Hp} (e : Same H H1) (B : Bag l H g) : Bag l H1 g := ((Ok.refl B).same e).bag
theorem tabs_ok {T : List (Addr × Str)} {g l : Addr} {H H' : Hp} (r : Ok g l H H') (t : LamX.Tabs T H) : LamX.Tabs T H' := fun p hp => by
  obtain ⟨ps, h1, h2, h3⟩ := t p hp
  obtain ⟨⟨xs, hg⟩, _⟩ := r.b0.there
  refine ⟨ps, r.kp _ _ (fun z => ?_) h1, h2, fun pos cv hc => ?_⟩
  · rw [z, hg] at h1
    cases h1
  · obtain ⟨c, e1, e2⟩ := h3 pos cv hc
    refine ⟨c, e1, r.kp _ _ (fun z => ?_) e2⟩
    rw [z, hg] at e2
    have q := Option.some.inj e2
    unfold LamX.CodeO at q
    cases q
/-- the tables stand though a list is changed -/
theorem tabs_lst {T : List (Addr × Str)} {H : Hp} {q : Addr} {xs ys : List V} (hq : H q = some (.lst xs)) (t : LamX.Tabs T H) : LamX.Tabs T (upd H q (.lst ys)) := fun p hp => by
  obtain ⟨ps, h1, h2, h3⟩ := t p hp
  refine ⟨ps, by rw [upd_ne (fun z => by rw [z, hq] at h1; cases h1)]; exact h1, h2, fun pos cv hc => ?_⟩
  obtain ⟨c, e1, e2⟩ := h3 pos cv hc
  have n : c ≠ q := fun z => by
    rw [z, hq] at e2
    have q := Option.some.inj e2
    unfold LamX.CodeO at q
    cases q
  exact ⟨c, e1, by rw [upd_ne n]; exact e2⟩
/-- the addresses that may change: the bag and the list of what is kept -/
def FK (g kp : Addr) : Addr → Prop := fun b => b = g ∨ b = kp
/-- told: what the deed gives, or its error with what it tells -/
def TAsk (ce : Ce) : (XK → Hp → VK → Prop) → Hp → VK → Prop := fun tl H Q => ∀ H1, Same H H1 → ∃ G : XK,
  (∀ cls d H', G cls d H' → ∃ (nm : Str) (C dd : Addr) (ws : List V) (fs : List (Str × V)), Er ce nm C ws fs ∧ cls = .ref C ∧ d = some dd ∧ H' dd = some (.xd fs) ∧ ∀ (D T : Addr) H2, Same H' H2 → H' D = none → H' T = none → H2 D = some (.lst (.str nm :: ws)) → H2 T = some (.tup [.non, .ref D]) → Q (.ref T) H2) ∧
  ∀ (E : XK) (Qv : VK), (∀ cls d H', G cls d H' → E cls d H') → (∀ v H', (∀ T, H' T = none → Q (.ref T) (upd H' T (.tup [v, .non]))) → Qv v H') → tl E H1 Qv
theorem lam_std {Tb : List (Addr × Str)} {ce : Ce} {t : XK → TE} {σ : St} {H : Hp} {Q : VK} {F : Addr → Prop} {l g : Addr} (hT : LamX.Tabs Tb H) (B : Bag l H g) (due : Option (Str × List V)) (Made : Hp → V → Prop) (mk : ∀ H H' v, Same H H' → Made H v → Made H' v)
    (run : ∀ H1 E Qv, KpF F H H1 → Bag l H1 g → LamX.Tabs Tb H1 → (∀ er H', due = some er → KpF F H H' → Bag l H' g → LamX.Tabs Tb H' → Out ce H' E er) → (∀ v H', due = none → KpF F H H' → Bag l H' g → LamX.Tabs Tb H' → Made H' v → Qv v H') → t E σ H1 Qv)
    (h : ∀ T H3 tv fv, KpF F H H3 → Bag l H3 g → LamX.Tabs Tb H3 → H3 T = some (.tup [tv, fv]) → ((∃ (nm : Str) (ws : List V) (D : Addr), due = some (nm, ws) ∧ tv = .non ∧ fv = .ref D ∧ H3 D = some (.lst (.str nm :: ws))) ∨ (due = none ∧ fv = .non ∧ Made H3 tv)) → Q (.ref T) H3) :
    LamX.tLam Tb (TAsk ce) t σ H Q := by
  refine ⟨hT, fun H1 e1 t1 H2 s2 => ?_⟩
  have k2 : KpF F H H2 := (KpF.ext e1).trans (KpF.same s2)
  have B2 : Bag l H2 g := bag_same s2 (bag_ext e1 B)
  have t2 : LamX.Tabs Tb H2 := t1.ext s2
  refine ⟨fun cls d H' => ∃ (nm : Str) (C dd : Addr) (ws : List V) (fs : List (Str × V)), Er ce nm C ws fs ∧ cls = .ref C ∧ d = some dd ∧ H' dd = some (.xd fs) ∧ due = some (nm, ws) ∧ KpF F H H' ∧ Bag l H' g ∧ LamX.Tabs Tb H', ?_, ?_⟩
  · rintro cls d H' ⟨nm, C, dd, ws, fs, c1, c2, c3, c4, c5, c6, c7, c8⟩
    exact ⟨nm, C, dd, ws, fs, c1, c2, c3, c4, fun D T H3 s d1 d2 d3 d4 => h T H3 _ _ (c6.trans (KpF.same s)) (bag_same s c7) (c8.ext s) d4 (.inl ⟨nm, ws, D, c5, rfl, rfl, d3⟩)⟩
  · intro E Qv hE hv
    refine run H2 E Qv k2 B2 t2 (fun er H' du k' b' t' C fs r d H3 s hd he => hE _ _ _ ⟨er.1, C, d, er.2, fs, r, rfl, rfl, he, du, k'.trans (KpF.same s), bag_same s b', t'.ext s⟩) (fun v H' du k' b' t' m => hv v H' fun T hT => ?_)
    have sT := same_new (o := .tup [v, .non]) hT
    exact h T _ _ _ (k'.trans (KpF.same sT)) (bag_same sT b') (t'.ext sT) upd_same (.inr ⟨du, rfl, mk _ _ _ sT m⟩)
theorem KpF.mono {F G : Addr → Prop} {H H' : Hp} (h : ∀ b, F b → G b) (k : KpF F H H') : KpF G H H' := fun b o n => k b o fun z => n (h b z)
theorem KpF.fk {g kp : Addr} {H H' : Hp} (k : KpF (· = g) H H') : KpF (FK g kp) H H' := k.mono fun _ z => .inl z
/-- an entry of what is kept: the plan and the rest -/
def Ent (a : Ad) (F : Addr → Prop) (H : Hp) (t : Addr) (p : Pl) : Prop := ∃ x y, H t = some (.tup [.ref x, .ref y]) ∧ ¬ F t ∧ Good p ∧ PlanAt H p x ∧ RestX a F H p y
theorem Ent.kp {a : Ad} {F : Addr → Prop} {H H' : Hp} {t : Addr} {p : Pl} (kt : Kt H H') (k : KpF F H H') (e : Ent a F H t p) : Ent a F H' t p := by
  obtain ⟨x, y, h1, n, g, h2, h3⟩ := e
  exact ⟨x, y, kt _ _ h1, n, g, h2.kt kt, h3.kp k⟩
theorem Ent.same {a : Ad} {F : Addr → Prop} {H H' : Hp} {t : Addr} {p : Pl} (s : Same H H') (e : Ent a F H t p) : Ent a F H' t p := e.kp (Kt.same s) (KpF.same s)
theorem RestX.plus {a : Ad} {G : Addr → Prop} {H : Hp} {S : Addr} (hS : H S = none) : ∀ {p : Pl} {x : Addr}, RestX a G H p x → RestX a (fun b => G b ∨ b = S) H p x
  | .win w, x, ⟨n, dx, h⟩ => ⟨(fun z => z.elim n (fun z => by rw [z, hS] at h; cases h)), dx, h⟩
  | .days bs e, x, ⟨n, dx, b, h, nb, hb⟩ => ⟨(fun z => z.elim n (fun z => by rw [z, hS] at h; cases h)), dx, b, h, (fun z => z.elim nb (fun z => by rw [z, hS] at hb; cases hb)), hb⟩
  | .lat p q, x, ⟨n, dx, y, z, h, h2, h3⟩ => ⟨(fun z => z.elim n (fun z => by rw [z, hS] at h; cases h)), dx, y, z, h, h2.plus hS, h3.plus hS⟩
  | .soo p q, x, ⟨n, dx, y, z, h, h2, h3⟩ => ⟨(fun z => z.elim n (fun z => by rw [z, hS] at h; cases h)), dx, y, z, h, h2.plus hS, h3.plus hS⟩
  | .nex p q, x, ⟨n, dx, y, z, h, h2, h3⟩ => ⟨(fun z => z.elim n (fun z => by rw [z, hS] at h; cases h)), dx, y, z, h, h2.plus hS, h3.plus hS⟩
theorem Ent.plus {a : Ad} {g : Addr} {H : Hp} {t kp : Addr} {p : Pl} (hS : H kp = none) (e : Ent a (· = g) H t p) : Ent a (FK g kp) H t p := by
  obtain ⟨x, y, h1, n, gd, h2, h3⟩ := e
  exact ⟨x, y, h1, (fun z => z.elim n (fun z => by rw [z, hS] at h1; cases h1)), gd, h2, h3.plus hS⟩
def Kept (a : Ad) (F : Addr → Prop) (H : Hp) (kp : Addr) (n : Nat) : Prop := ∃ ts : List Addr, H kp = some (.lst (ts.map V.ref)) ∧ 0 < ts.length ∧ ts.length ≤ n ∧ ∀ t ∈ ts, ∃ p, Ent a F H t p
structure StK (Tb : List (Addr × Str)) (a : Ad) (g l kp : Addr) (n : Nat) (H : Hp) : Prop where
  b : Bag l H g
  n1 : kp ≠ g
  n2 : kp ≠ l
  t : LamX.Tabs Tb H
  k : Kept a (FK g kp) H kp n
section
variable {Tb : List (Addr × Str)} {a : Ad} {g l kp : Addr} {n : Nat} {H H' : Hp}
theorem StK.hF (S : StK Tb a g l kp n H) : ∀ b, FK g kp b → ∃ xs, H b = some (.lst xs) := fun b z => by
  rcases z with rfl | rfl
  · obtain ⟨⟨xs, q⟩, _⟩ := S.b.there
    exact ⟨_, q⟩
  · obtain ⟨ts, q, _⟩ := S.k
    exact ⟨_, q⟩
theorem StK.hFo (S : StK Tb a g l kp n H) : ∀ b, FK g kp b → ∃ o, H b = some o := fun b z => by
  obtain ⟨xs, q⟩ := S.hF b z
  exact ⟨_, q⟩
theorem StK.nF (S : StK Tb a g l kp n H) {x : Addr} (h : H x = none) : ¬ FK g kp x := fun z => by
  obtain ⟨o, q⟩ := S.hFo x z
  rw [q] at h
  cases h
theorem StK.step (S : StK Tb a g l kp n H) (k : KpF (· = g) H H') (B : Bag l H' g) (t : LamX.Tabs Tb H') : StK Tb a g l kp n H' := by
  obtain ⟨ts, e, l0, l1, h⟩ := S.k
  exact ⟨B, S.n1, S.n2, t, ts, k _ _ S.n1 lstN e, l0, l1, fun t ht => by
    obtain ⟨p, q⟩ := h t ht
    exact ⟨p, q.kp (k.fk.kt S.hF) k.fk⟩⟩
theorem StK.ok (S : StK Tb a g l kp n H) (r : Ok g l H H') : StK Tb a g l kp n H' := S.step (KpF.kp rfl r.kp) r.bag (tabs_ok r S.t)
theorem StK.same (S : StK Tb a g l kp n H) (s : Same H H') : StK Tb a g l kp n H' := S.step (KpF.same s) (bag_same s S.b) (S.t.ext s)
theorem StK.add (S : StK Tb a g l kp n H) {ts : List Addr} {t : Addr} {p : Pl} (e : H kp = some (.lst (ts.map V.ref))) (en : Ent a (FK g kp) H t p) : StK Tb a g l kp (n + 1) (upd H kp (.lst (ts.map V.ref ++ [.ref t]))) := by
  obtain ⟨ts', e', l0, l1, h⟩ := S.k
  have e2 : ts' = ts := by
    rw [e] at e'
    have q := HO.lst.inj (Option.some.inj e')
    exact ((List.map_inj_right (f := V.ref) fun x y z => V.ref.inj z).mp q).symm
  subst e2
  have km : KpF (FK g kp) H (upd H kp (.lst (ts'.map V.ref ++ [.ref t]))) := KpF.mut' (.inr rfl)
  have kt := km.kt S.hF
  refine ⟨S.b.mut S.n1 S.n2, S.n1, S.n2, tabs_lst e S.t, ts' ++ [t], by rw [upd_same, List.map_append]; rfl, by rw [List.length_append]; omega, by rw [List.length_append]; show ts'.length + 1 ≤ n + 1; omega, fun u hu => ?_⟩
  rcases List.mem_append.mp hu with hu | hu
  · obtain ⟨q, eq⟩ := h u hu
    exact ⟨q, eq.kp kt km⟩
  · rw [List.mem_singleton.mp hu]
    exact ⟨p, en.kp kt km⟩
end
/-- the copy of the borders, if they are a list or a tuple -/
def Cop (F : Addr → Prop) (H : Hp) (v cv : V) : Option (List V) → Prop
  | none => cv = .non
  | some xs => ∃ C, cv = .ref C ∧ ¬ F C ∧ H C = some (.lst xs) ∧ v ≠ .ref C
theorem Cop.kp {F : Addr → Prop} {H H' : Hp} {v cv : V} (k : KpF F H H') : ∀ {o : Option (List V)}, Cop F H v cv o → Cop F H' v cv o
  | none, h => h
  | some xs, ⟨C, e, n, h, d⟩ => ⟨C, e, n, k _ _ n lstN h, d⟩
/-- what is due, as it stands -/
def DueV (g : Addr) (H : Hp) (dv : V) : Option (Str × List V) → Prop
  | none => dv = .non
  | some (nm, ws) => ∃ D, dv = .ref D ∧ D ≠ g ∧ H D = some (.lst (.str nm :: ws))
theorem DueV.kp {g : Addr} {H H' : Hp} {dv : V} (k : KpF (· = g) H H') : ∀ {o : Option (Str × List V)}, DueV g H dv o → DueV g H' dv o
  | none, h => h
  | some (nm, ws), ⟨D, e, n, h⟩ => ⟨D, e, n, k _ _ n lstN h⟩
theorem BorV.there {F : Addr → Prop} {H : Hp} {b : Addr} : ∀ {o : Option (List V)}, BorV F H (.ref b) o → ∃ ob, H b = some ob
  | some xs, ⟨bb, p, e, h, n, l, r⟩ => by cases e; exact ⟨_, h⟩
  | none, .inl h => h.elim
  | none, .inr ⟨p, ks, e, n, h, q⟩ => by cases e; exact ⟨_, h⟩
theorem asc_bad : ∀ {lo : Int} {i : Nat} {bs : List Int}, Asc lo bs → bad lo i (bs.map V.int) = none
  | _, _, [], _ => rfl
  | lo, i, b :: r, ⟨h1, h2, h3⟩ => by
    show (if lo ≤ b ∧ b ≤ 1000 then bad (b + 1) (i + 1) (r.map V.int) else some i) = none
    rw [if_pos ⟨h1, h2⟩]
    exact asc_bad h3
theorem daysDue_none {bs : List Int} {e : Int} (g : Good (.days bs e)) : daysDue (some (bs.map V.int)) (.int e) = none := by
  obtain ⟨⟨e0, e1, _, hl, hA⟩, _, _⟩ := g
  show (if 12 < (bs.map V.int).length then _ else (match bad 1 0 (bs.map V.int) with | some i => _ | none => if isNum (.int e) 1 2000 = true then none else _)) = none
  rw [if_neg (by rw [List.length_map]; omega), asc_bad hA, num_true e0 e1]
  rfl
theorem daysDue_cases {o : Option (List V)} {e : V} {nm : Str} {ws : List V} (h : daysDue o e = some (nm, ws)) : (∀ w ∈ ws, Sz w ∨ w = e) ∧ ws.length ≤ 2 := by
  have one : ∀ {x : V}, (Sz x ∨ x = e) → (∀ w ∈ [x], Sz w ∨ w = e) ∧ [x].length ≤ 2 := fun {x} q => ⟨fun w hw => by rw [List.mem_singleton.mp hw]; exact q, (by show 1 ≤ 2; decide)⟩
  unfold daysDue at h
  split at h
  · cases h
    exact one (.inl True.intro)
  · split at h
    · cases h
      refine ⟨fun w hw => ?_, Nat.le_refl 2⟩
      simp only [List.mem_cons, List.not_mem_nil, or_false] at hw
      rcases hw with rfl | rfl
      · exact .inl (by show Str.length _ ≤ 1000000; decide +kernel)
      · exact .inl True.intro
    · split at h
      · cases h
        exact one (.inl True.intro)
      · split at h
        · cases h
        · cases h
          exact one (.inr rfl)
theorem daysDue_len {o : Option (List V)} {e : V} {nm : Str} {ws : List V} (h : daysDue o e = some (nm, ws)) : (V.str nm :: ws).length ≤ 1000000 := by
  have := (daysDue_cases h).2
  show ws.length + 1 ≤ 1000000
  omega
theorem daysDue_ov {F : Addr → Prop} {H : Hp} {o : Option (List V)} {e : V} {nm : Str} {ws : List V} (oe : Ov F H 2 e) (h : daysDue o e = some (nm, ws)) : ∀ w ∈ ws, Ov F H 2 w := fun w hw => by
  rcases (daysDue_cases h).1 w hw with q | rfl
  · exact Ov.sz q 2
  · exact oe
theorem Lq.lst2 {H : Hp} {p q : Addr} {xs : List V} {n : Nat} (h1 : H p = some (.lst xs)) (h2 : H q = some (.lst xs)) (hl : xs.length ≤ 1000000) (h : ∀ x ∈ xs, Lq H n x x) : Lq H (n + 1) (.ref p) (.ref q) :=
  .inr (.inr ⟨true, p, q, _, _, rfl, rfl, h1, h2, rfl, hl, fun j u w a1 a2 => by
    rw [a1] at a2
    cases a2
    exact h u (List.mem_of_getElem? a1)⟩)
/-- which of the three -/
inductive Pk (a : Ad) : Str → (Pl → Pl → Pl) → Addr → Prop where
  | l : Pk a "later" Pl.lat a.L
  | s : Pk a "sooner" Pl.soo a.S
  | n : Pk a "next" Pl.nex a.N
theorem pairDue_none {p q : Pl} {u v : V} (h1 : p.leaves + q.leaves ≤ 3) (h2 : lcmI p.per q.per ≤ 2000) : pairDue (some p) (some q) u v = none := by
  have f1 := p.forms_eq
  have f2 := q.forms_eq
  show (if 6 < 1 + p.forms + q.forms then _ else if 2000 < lcmI p.per q.per then _ else none) = none
  rw [if_neg (by omega), if_neg (by omega)]
theorem pairDue_cases {o1 o2 : Option Pl} {u v : V} {nm : Str} {ws : List V} (h : pairDue o1 o2 u v = some (nm, ws)) : (∀ w ∈ ws, Sz w ∨ (w = u ∧ o1 = none) ∨ (w = v ∧ o2 = none)) ∧ ws.length ≤ 2 := by
  have two : ∀ {z : Str} {i : Int}, z.length ≤ 1000000 → (∀ w ∈ [V.str z, V.int i], Sz w ∨ (w = u ∧ o1 = none) ∨ (w = v ∧ o2 = none)) ∧ [V.str z, V.int i].length ≤ 2 := fun {z i} l => ⟨fun w hw => by
    simp only [List.mem_cons, List.not_mem_nil, or_false] at hw
    rcases hw with rfl | rfl
    · exact .inl l
    · exact .inl True.intro, Nat.le_refl 2⟩
  cases o1 with
  | none =>
    cases h
    exact ⟨fun w hw => .inr (.inl ⟨List.mem_singleton.mp hw, rfl⟩), (by show 1 ≤ 2; decide)⟩
  | some p =>
    cases o2 with
    | none =>
      cases h
      exact ⟨fun w hw => .inr (.inr ⟨List.mem_singleton.mp hw, rfl⟩), (by show 1 ≤ 2; decide)⟩
    | some q =>
      have h' : (if 6 < 1 + p.forms + q.forms then some (("TooMany" : Str), [V.str "forms", V.int (1 + p.forms + q.forms)]) else if 2000 < lcmI p.per q.per then some (("TooMany" : Str), [V.str "period", V.int (lcmI p.per q.per)]) else none) = some (nm, ws) := h
      split at h'
      · cases h'
        exact two (by decide +kernel)
      · split at h'
        · cases h'
          exact two (by decide +kernel)
        · cases h'
/-- an entry of the pair that is asked for: a plan and its rest, or none and something else -/
def PEt (a : Ad) (F : Addr → Prop) (H : Hp) (t : Addr) (u : V) : Option Pl → Prop
  | none => H t = some (.tup [.non, u]) ∧ Ov F H 2 u
  | some p => ∃ x y, H t = some (.tup [.ref x, u]) ∧ u = .ref y ∧ PlanAt H p x ∧ Good p ∧ RestX a F H p y
theorem PEt.kp {a : Ad} {F : Addr → Prop} {H H' : Hp} {t : Addr} {u : V} (kt : Kt H H') (k : KpF F H H') : ∀ {o : Option Pl}, PEt a F H t u o → PEt a F H' t u o
  | none, ⟨h, o⟩ => ⟨kt _ _ h, o.kp k⟩
  | some p, ⟨x, y, h, e, hp, g, r⟩ => ⟨x, y, kt _ _ h, e, hp.kt kt, g, r.kp k⟩
theorem PEt.none_ov {a : Ad} {F : Addr → Prop} {H : Hp} {t : Addr} {u : V} {o : Option Pl} (h : PEt a F H t u o) (e : o = none) : Ov F H 2 u := by
  subst e
  exact h.2
theorem Ent.pet {a : Ad} {F : Addr → Prop} {H : Hp} {t : Addr} {p : Pl} (e : Ent a F H t p) : ∃ u, PEt a F H t u (some p) := by
  obtain ⟨x, y, h1, n, g, h2, h3⟩ := e
  exact ⟨_, x, y, h1, rfl, h2, g, h3⟩
theorem StK.ent {Tb : List (Addr × Str)} {a : Ad} {g l kp : Addr} {n : Nat} {H : Hp} (S : StK Tb a g l kp n H) {ts : List Addr} (e : H kp = some (.lst (ts.map V.ref))) : ∀ t ∈ ts, ∃ p, Ent a (FK g kp) H t p := by
  obtain ⟨ts', e', l0, l1, h⟩ := S.k
  have e2 : ts' = ts := by
    rw [e] at e'
    have q := HO.lst.inj (Option.some.inj e')
    exact ((List.map_inj_right (f := V.ref) fun x y z => V.ref.inj z).mp q).symm
  subst e2
  exact h
theorem Pk.rest {a : Ad} {z : Str} {J : Pl → Pl → Pl} {C : Addr} (k : Pk a z J C) {F : Addr → Prop} {H : Hp} {p q : Pl} {x : Addr} (R : RestX a F H (J p q) x) : ∃ dx y1 y2, H x = some (.ins C dx (pairF (J p q) y1 y2)) ∧ RestX a F H p y1 ∧ RestX a F H q y2 ∧ ¬ F x := by
  cases k with
  | l => obtain ⟨n, dx, y, z, h, h2, h3⟩ := R; exact ⟨dx, y, z, h, h2, h3, n⟩
  | s => obtain ⟨n, dx, y, z, h, h2, h3⟩ := R; exact ⟨dx, y, z, h, h2, h3, n⟩
  | n => obtain ⟨n, dx, y, z, h, h2, h3⟩ := R; exact ⟨dx, y, z, h, h2, h3, n⟩
theorem Pk.rc {K : PySem.W.Frag} {mg : Str → Option Value} {a : Ad} (KN : Kn K mg a) {z : Str} {J : Pl → Pl → Pl} {C : Addr} (k : Pk a z J C) : RC K a C ∧ NoAttr K C "first" ∧ NoAttr K C "second" ∧ isC a C := by
  cases k with
  | l => exact ⟨KN.l, KN.l1, KN.l2, .inr (.inr (.inl rfl))⟩
  | s => exact ⟨KN.s, KN.s1, KN.s2, .inr (.inr (.inr (.inl rfl)))⟩
  | n => exact ⟨KN.n, KN.n1, KN.n2, .inr (.inr (.inr (.inr rfl)))⟩
theorem Pk.plan {a : Ad} {z : Str} {J : Pl → Pl → Pl} {C : Addr} (k : Pk a z J C) {H : Hp} {p q : Pl} {X x1 x2 : Addr} (h : H X = some (.tup [.str z, .ref x1, .ref x2])) (h1 : PlanAt H p x1) (h2 : PlanAt H q x2) : PlanAt H (J p q) X := by
  cases k with
  | l => exact ⟨x1, x2, h, h1, h2⟩
  | s => exact ⟨x1, x2, h, h1, h2⟩
  | n => exact ⟨x1, x2, h, h1, h2⟩
theorem Pk.good {a : Ad} {z : Str} {J : Pl → Pl → Pl} {C : Addr} (k : Pk a z J C) {p q : Pl} (g1 : Good p) (g2 : Good q) (l : p.leaves + q.leaves ≤ 3) (h : lcmI p.per q.per ≤ 2000) : Good (J p q) := by
  cases k with
  | l => exact ⟨⟨g1.o, g2.o⟩, l, h⟩
  | s => exact ⟨⟨g1.o, g2.o⟩, l, h⟩
  | n => exact ⟨⟨g1.o, g2.o⟩, l, h⟩
theorem Pk.zl {a : Ad} {z : Str} {J : Pl → Pl → Pl} {C : Addr} (k : Pk a z J C) : z.length ≤ 1000000 := by
  cases k <;> decide +kernel
theorem PEt.rest {a : Ad} {F : Addr → Prop} {H : Hp} {t : Addr} {u : V} : ∀ {o : Option Pl}, PEt a F H t u o → RestV a F H u o
  | none, ⟨h, o⟩ => ⟨2, o⟩
  | some p, ⟨x, y, h, e, hp, g, r⟩ => ⟨y, e, r, g⟩
theorem PEt.tup {a : Ad} {F : Addr → Prop} {H : Hp} {t : Addr} {u : V} : ∀ {o : Option Pl}, PEt a F H t u o → ∃ pv, H t = some (.tup [pv, u])
  | none, ⟨h, o⟩ => ⟨_, h⟩
  | some p, ⟨x, y, h, e, hp, g, r⟩ => ⟨_, h⟩
theorem Lq.list2 {H : Hp} {p q : Addr} {z : Str} {v : V} {n : Nat} (h1 : H p = some (.lst [.str z, v])) (h2 : H q = some (.lst [.str z, v])) (h : Lq H n v v) : Lq H (n + 1) (.ref p) (.ref q) := by
  refine .inr (.inr ⟨true, p, q, _, _, rfl, rfl, h1, h2, rfl, (by show 2 ≤ 1000000; decide), fun j u w a1 a2 => ?_⟩)
  rw [a1] at a2
  cases a2
  match j, a1 with
  | 0, a1 => cases a1; exact Lq.sc (by exact True.intro) n
  | 1, a1 => cases a1; exact h
theorem pick_nat (ns : List Nat) {x : V} {m : Nat} (h : x ∈ ns.map fun n : Nat => V.int (Int.ofNat n)) (hm : ∀ n ∈ ns, n ≤ m) : ∃ n : Nat, x = .int n ∧ n ≤ m := by
  obtain ⟨n, hn, e⟩ := List.mem_map.mp h
  exact ⟨n, e.symm, hm n hn⟩
theorem atI_mem {xs : List V} {i : Int} (h0 : 0 ≤ i) (h1 : i < xs.length) : ∃ u, u ∈ xs ∧ atI xs (i - 1) = some u := by
  obtain ⟨n, rfl⟩ : ∃ n : Nat, i = (n : Int) := ⟨i.toNat, by omega⟩
  cases n with
  | zero =>
    have ne : xs ≠ [] := fun z => by rw [z] at h1; exact absurd h1 (by decide)
    obtain ⟨ys, y, rfl⟩ : ∃ ys y, xs = ys ++ [y] := ⟨xs.dropLast, xs.getLast ne, (List.dropLast_concat_getLast ne).symm⟩
    exact ⟨y, by simp, atI_last _ _⟩
  | succ n =>
    have hn : n < xs.length := by omega
    refine ⟨xs[n], List.getElem_mem hn, ?_⟩
    have e : ((n + 1 : Nat) : Int) - 1 = (n : Int) := by omega
    rw [e]
    exact atI_nat (List.getElem?_eq_getElem hn)

def kg1 {α : Type} (us ws : List α) : List α := match us, ws with | [s], [r] => [s, r] | _, _ => []
def kg2 {α : Type} (us ws : List α) : List α := match us, ws with | [s], [r, n] => [s, n, r] | _, _ => []

end k04
namespace k04
open PySem L2 LC RM
abbrev spInvalidNumber_init (C : Addr) : Sp := LX.spErr C 1 (ivF "InvalidNumber")
theorem ok_InvalidNumber_init {P : Program} {w : World} {K : PySem.W.Frag} {mg : Str → Option Value} {base : Heap} {f : Addr} {fd : FuncData} (F0 : Fun K "__init__" "InvalidNumber.__init__" sInvalidNumber_init f fd) (T : Txt K mg) {C : Addr} (ox : OexC K C) (n1 : PySem.W.findIn K (.ref C) "value" = some none) (n2 : PySem.W.findIn K (.ref C) "code" = some none) :
    FnOk P w K mg base CX0 1 f fd PInvalidNumber_init (spInvalidNumber_init C) := by
  refine F0.ok scInvalidNumber_init (fun vs H Q E h => ?_) (fun cdv A outer s H vs Q E hr h => ?_)
  · obtain ⟨x, ws, rfl, hw, _⟩ := h
    show ws.length + 1 = 2
    rw [hw]
  · obtain ⟨x, ws, rfl, hw, ha, k⟩ := h
    obtain ⟨u, rfl⟩ : ∃ u, ws = [u] := by
      match ws, hw with
      | [u], _ => exact ⟨u, rfl⟩
    refine ⟨_, (pss_cons (ps_ost (pv 0) (pv 1))
        (pss_one (ps_ost (pv 0) pe_str))), ?_⟩
    refine ⟨_, rfl, _, rfl, x, C, rfl, ox, n1, .inl ⟨ha, fun d hd da => ?_⟩⟩
    refine ⟨_, rfl, x, C, rfl, ox, n2, .inr ⟨d, _, upd_same, by rw [upd_ne da]; exact upd_same, (by show 1 ≤ 900; decide), ?_⟩⟩
    refine k d _ hd (by rw [upd_ne (Ne.symm da)]; exact upd_same) upd_same (fun b o hb e => ?_)
    have nd := ne_of_none e hd
    rw [upd_ne nd, upd_ne hb, upd_ne nd]
    exact e
end k04
namespace k04
open PySem L2 LC RM
abbrev spInvalidBorders_init (C : Addr) : Sp := LX.spErr C 1 (atF "InvalidBorders")
theorem ok_InvalidBorders_init {P : Program} {w : World} {K : PySem.W.Frag} {mg : Str → Option Value} {base : Heap} {f : Addr} {fd : FuncData} (F0 : Fun K "__init__" "InvalidBorders.__init__" sInvalidBorders_init f fd) (T : Txt K mg) {C : Addr} (ox : OexC K C) (n1 : PySem.W.findIn K (.ref C) "at" = some none) (n2 : PySem.W.findIn K (.ref C) "code" = some none) :
    FnOk P w K mg base CX0 1 f fd PInvalidBorders_init (spInvalidBorders_init C) := by
  refine F0.ok scInvalidBorders_init (fun vs H Q E h => ?_) (fun cdv A outer s H vs Q E hr h => ?_)
  · obtain ⟨x, ws, rfl, hw, _⟩ := h
    show ws.length + 1 = 2
    rw [hw]
  · obtain ⟨x, ws, rfl, hw, ha, k⟩ := h
    obtain ⟨u, rfl⟩ : ∃ u, ws = [u] := by
      match ws, hw with
      | [u], _ => exact ⟨u, rfl⟩
    refine ⟨_, (pss_cons (ps_ost (pv 0) (pv 1))
        (pss_one (ps_ost (pv 0) pe_str))), ?_⟩
    refine ⟨_, rfl, _, rfl, x, C, rfl, ox, n1, .inl ⟨ha, fun d hd da => ?_⟩⟩
    refine ⟨_, rfl, x, C, rfl, ox, n2, .inr ⟨d, _, upd_same, by rw [upd_ne da]; exact upd_same, (by show 1 ≤ 900; decide), ?_⟩⟩
    refine k d _ hd (by rw [upd_ne (Ne.symm da)]; exact upd_same) upd_same (fun b o hb e => ?_)
    have nd := ne_of_none e hd
    rw [upd_ne nd, upd_ne hb, upd_ne nd]
    exact e
end k04
namespace k04
open PySem L2 LC RM
abbrev spInvalidRest_init (C : Addr) : Sp := LX.spErr C 1 (ivF "InvalidRest")
theorem ok_InvalidRest_init {P : Program} {w : World} {K : PySem.W.Frag} {mg : Str → Option Value} {base : Heap} {f : Addr} {fd : FuncData} (F0 : Fun K "__init__" "InvalidRest.__init__" sInvalidRest_init f fd) (T : Txt K mg) {C : Addr} (ox : OexC K C) (n1 : PySem.W.findIn K (.ref C) "value" = some none) (n2 : PySem.W.findIn K (.ref C) "code" = some none) :
    FnOk P w K mg base CX0 1 f fd PInvalidRest_init (spInvalidRest_init C) := by
  refine F0.ok scInvalidRest_init (fun vs H Q E h => ?_) (fun cdv A outer s H vs Q E hr h => ?_)
  · obtain ⟨x, ws, rfl, hw, _⟩ := h
    show ws.length + 1 = 2
    rw [hw]
  · obtain ⟨x, ws, rfl, hw, ha, k⟩ := h
    obtain ⟨u, rfl⟩ : ∃ u, ws = [u] := by
      match ws, hw with
      | [u], _ => exact ⟨u, rfl⟩
    refine ⟨_, (pss_cons (ps_ost (pv 0) (pv 1))
        (pss_one (ps_ost (pv 0) pe_str))), ?_⟩
    refine ⟨_, rfl, _, rfl, x, C, rfl, ox, n1, .inl ⟨ha, fun d hd da => ?_⟩⟩
    refine ⟨_, rfl, x, C, rfl, ox, n2, .inr ⟨d, _, upd_same, by rw [upd_ne da]; exact upd_same, (by show 1 ≤ 900; decide), ?_⟩⟩
    refine k d _ hd (by rw [upd_ne (Ne.symm da)]; exact upd_same) upd_same (fun b o hb e => ?_)
    have nd := ne_of_none e hd
    rw [upd_ne nd, upd_ne hb, upd_ne nd]
    exact e
end k04
namespace k04
open PySem L2 LC RM
abbrev spTooMany_init (C : Addr) : Sp := LX.spErr C 2 tmF
theorem ok_TooMany_init {P : Program} {w : World} {K : PySem.W.Frag} {mg : Str → Option Value} {base : Heap} {f : Addr} {fd : FuncData} (F0 : Fun K "__init__" "TooMany.__init__" sTooMany_init f fd) (T : Txt K mg) {C : Addr} (ox : OexC K C) (n1 : PySem.W.findIn K (.ref C) "what" = some none) (n2 : PySem.W.findIn K (.ref C) "count" = some none) (n3 : PySem.W.findIn K (.ref C) "code" = some none) :
    FnOk P w K mg base CX0 1 f fd PTooMany_init (spTooMany_init C) := by
  refine F0.ok scTooMany_init (fun vs H Q E h => ?_) (fun cdv A outer s H vs Q E hr h => ?_)
  · obtain ⟨x, ws, rfl, hw, _⟩ := h
    show ws.length + 1 = 3
    rw [hw]
  · obtain ⟨x, ws, rfl, hw, ha, k⟩ := h
    obtain ⟨u, c, rfl⟩ : ∃ u c, ws = [u, c] := by
      match ws, hw with
      | [u, c], _ => exact ⟨u, c, rfl⟩
    refine ⟨_, (pss_cons (ps_ost (pv 0) (pv 1))
        (pss_cons (ps_ost (pv 0) (pv 2))
        (pss_one (ps_ost (pv 0) pe_str)))), ?_⟩
    refine ⟨_, rfl, _, rfl, x, C, rfl, ox, n1, .inl ⟨ha, fun d hd da => ?_⟩⟩
    refine ⟨_, rfl, _, rfl, x, C, rfl, ox, n2, .inr ⟨d, _, upd_same, by rw [upd_ne da]; exact upd_same, (by show 1 ≤ 900; decide), ?_⟩⟩
    refine ⟨_, rfl, x, C, rfl, ox, n3, .inr ⟨d, _, by rw [upd_ne (Ne.symm da)]; exact upd_same, upd_same, (by show 2 ≤ 900; decide), ?_⟩⟩
    refine k d _ hd (by rw [upd_ne (Ne.symm da), upd_ne (Ne.symm da)]; exact upd_same) upd_same (fun b o hb e => ?_)
    have nd := ne_of_none e hd
    rw [upd_ne nd, upd_ne nd, upd_ne hb, upd_ne nd]
    exact e
end k04
namespace k04
open PySem L2 LC RM
def spcheck_count (ce : Ce) : Sp := fun vs H Q E => ∃ (z : Str) (n m : Int), vs = [.str z, .int n, .int m] ∧ ((n ≤ m ∧ Q .non H) ∨ (m < n ∧ Out ce H E ("TooMany", [.str z, .int n])))
theorem ok_check_count {P : Program} {w : World} {K : PySem.W.Frag} {mg : Str → Option Value} {base : Heap} {f : Addr} {fd : FuncData} (D : Def K mg "check_count" scheck_count Pcheck_count f fd) (T : Txt K mg) {ce : Ce} {fdTooMany : FuncData} {fTooMany : Addr} (RTooMany : RTM P w K mg base ce.tm fTooMany fdTooMany) :
    FnOk P w K mg base (L2.CX P w) 3 f fd Pcheck_count (spcheck_count ce) := by
  refine D.F.okX sccheck_count (fun vs H Q E h => ?_) (fun cdv A outer s H vs Q E hr h => ?_)
  · obtain ⟨z, n, m, rfl, h⟩ := h
    rfl
  · obtain ⟨z, n, m, rfl, h⟩ := h
    have hrE : Room 2 _ := hr
    refine ⟨_, (pss_one (ps_if (pt_cmpR op_gt (pv 1) (pv 2) (nomark _)) (pss_one (ps_raise rfl (takes_of rfl rfl rfl rfl) (pmk_oex RTooMany.er.ox RTooMany.er.iC RTooMany.er.tI RTooMany.G hrE RTooMany.b .nil pass0 rfl RTooMany.er.gC (pa_cons (pv 0) (pa_cons (pv 1) pa_nil))))) pss_nil)), ?_⟩
    refine ⟨_, rfl, _, rfl, _, _, rfl, rfl, _, rfl, ?_⟩
    rcases h with ⟨hc, k⟩ | ⟨hc, k⟩
    · exact ite_d (fun h => absurd h (by omega)) (fun _ => k)
    · exact ite_d (fun _ => ⟨_, rfl, _, rfl, (by show 2 ≤ 1000; decide), LX.err_out (n := 2) (ws := [_, _]) rfl k.tm⟩) (fun h => absurd hc h)
end k04
namespace k04
open PySem L2 LC RM
def isWh : V → Bool
  | .int _ => true
  | _ => false
def spis_whole : Sp := fun vs H Q _ => ∃ (F : Addr → Prop) (n : Nat) (v : V), vs = [v] ∧ Ov F H n v ∧ Q (.bl (isWh v)) H
theorem ok_is_whole {P : Program} {w : World} {K : PySem.W.Frag} {mg : Str → Option Value} {base : Heap} {f : Addr} {fd : FuncData} (D : Def K mg "is_whole" sis_whole Pis_whole f fd) (T : Txt K mg) :
    FnOk P w K mg base CX0 1 f fd Pis_whole (spis_whole) := by
  refine D.F.ok scis_whole (fun vs H Q E h => ?_) (fun cdv A outer s H vs Q E hr h => ?_)
  · obtain ⟨F, n, v, rfl, o, k⟩ := h
    rfl
  · obtain ⟨F, n, v, rfl, o, k⟩ := h
    refine ⟨_, (pss_one (ps_ret (pe_and (pe_callB call_isi (by rfl) T.n_isinstance (by decide +kernel) (pa_cons (pv 0) (pa_cons (pe_ty "int" (by rfl) T.n_int (by decide +kernel)) pa_nil))) (pe_one (pe_not (pe_callB call_isi (by rfl) T.n_isinstance (by decide +kernel) (pa_cons (pv 0) (pa_cons (pe_ty "bool" (by rfl) T.n_bool (by decide +kernel)) pa_nil)))))))), ?_⟩
    obtain ⟨t, ty, ki, kb, _, _⟩ := o.ty (K := K)
    refine ⟨_, rfl, _, _, _, _, _, rfl, .ty _, ty, kit_ty ki, _, rfl, ?_⟩
    cases v with
    | int i => exact iteT ⟨_, rfl, _, _, _, _, _, rfl, .ty _, ty, kit_ty kb, _, rfl, k⟩
    | bl b => exact iteT ⟨_, rfl, _, _, _, _, _, rfl, .ty _, ty, kit_ty kb, _, rfl, k⟩
    | _ => exact iteF k
end k04
namespace k04
open PySem L2 LC RM
def spis_number : Sp := fun vs H Q _ => ∃ (F : Addr → Prop) (n : Nat) (v : V) (lo hi : Int), vs = [v, .int lo, .int hi] ∧ Ov F H n v ∧ Q (.bl (isNum v lo hi)) H
theorem num_in {v lo hi : Int} {H : Hp} {Q : VK} {E : XK} (h1 : lo ≤ v) (h2 : v ≤ hi) (q : Q (.bl true) H) : spis_number [.int v, .int lo, .int hi] H Q E := by
  refine ⟨fun _ => False, 0, _, _, _, rfl, True.intro, ?_⟩
  show Q (.bl (decide (lo ≤ v) && decide (v ≤ hi))) H
  rw [decide_eq_true h1, decide_eq_true h2]
  exact q
theorem ok_is_number {P : Program} {w : World} {K : PySem.W.Frag} {mg : Str → Option Value} {base : Heap} {f : Addr} {fd : FuncData} (D : Def K mg "is_number" sis_number Pis_number f fd) (T : Txt K mg) {fis_whole : Addr} {fdis_whole : FuncData} (Dis_whole : Def K mg "is_whole" sis_whole Pis_whole fis_whole fdis_whole) (Gis_whole : FnOk P w K mg base CX0 1 fis_whole fdis_whole Pis_whole (spis_whole)) :
    FnOk P w K mg base CX0 2 f fd Pis_number (spis_number) := by
  refine D.F.ok scis_number (fun vs H Q E h => ?_) (fun cdv A outer s H vs Q E hr h => ?_)
  · obtain ⟨F, n, v, lo, hi, rfl, o, k⟩ := h
    rfl
  · obtain ⟨F, n, v, lo, hi, rfl, o, k⟩ := h
    have hris_whole : Room 1 _ := hr.mono (by decide)
    refine ⟨_, (pss_one (ps_ret (pe_and (pe_call Gis_whole hris_whole rfl Dis_whole.g Dis_whole.F.kp Dis_whole.b .nil pass0 (pa_cons (pv 0) pa_nil)) (pe_one (pe_chain op_le op_le (pv 1) (pv 0) (pv 2)))))), ?_⟩
    refine ⟨_, rfl, F, n, v, rfl, o, _, rfl, ?_⟩
    cases v with
    | int i =>
      refine iteT ⟨_, rfl, _, rfl, _, _, rfl, rfl, _, rfl, ?_⟩
      have e : isNum (.int i) lo hi = (decide (lo ≤ i) && decide (i ≤ hi)) := rfl
      refine ite_d (fun h1 => ?_) (fun h1 => ?_)
      · refine ⟨_, rfl, _, _, rfl, rfl, ?_⟩
        rw [e, decide_eq_true h1, Bool.true_and] at k
        exact k
      · rw [e, decide_eq_false h1, Bool.false_and] at k
        exact k
    | bl b => exact iteF k
    | _ => exact iteF k
end k04
namespace k04
open PySem L2 LC RM
def spcheck_borders (ce : Ce) : Sp := fun vs H Q E => ∃ (F : Addr → Prop) (v : V) (o : Option (List V)), vs = [v] ∧ BorV F H v o ∧
  (o = none → Out ce H E ("InvalidBorders", [.int (-1)])) ∧ (∀ xs, o = some xs → 12 < xs.length → Out ce H E ("TooMany", [.str "borders", .int xs.length])) ∧
  (∀ xs i, o = some xs → xs.length ≤ 12 → bad 1 0 xs = some i → Out ce H E ("InvalidBorders", [.int i])) ∧ ∀ xs H', o = some xs → xs.length ≤ 12 → bad 1 0 xs = none → Same H H' → Q .non H'
theorem ok_check_borders {P : Program} {w : World} {K : PySem.W.Frag} {mg : Str → Option Value} {base : Heap} {f : Addr} {fd : FuncData} (D : Def K mg "check_borders" scheck_borders Pcheck_borders f fd) (T : Txt K mg) {ce : Ce} {fdInvalidNumber : FuncData} {fInvalidNumber : Addr} (RInvalidNumber : RE P w K mg base "InvalidNumber" "value" (ivF "InvalidNumber") ce.nu fInvalidNumber fdInvalidNumber) {fdInvalidBorders : FuncData} {fInvalidBorders : Addr} (RInvalidBorders : RE P w K mg base "InvalidBorders" "at" (atF "InvalidBorders") ce.bo fInvalidBorders fdInvalidBorders) {fdInvalidRest : FuncData} {fInvalidRest : Addr} (RInvalidRest : RE P w K mg base "InvalidRest" "value" (ivF "InvalidRest") ce.re fInvalidRest fdInvalidRest) {fdTooMany : FuncData} {fTooMany : Addr} (RTooMany : RTM P w K mg base ce.tm fTooMany fdTooMany) {fcheck_count : Addr} {fdcheck_count : FuncData} (Dcheck_count : Def K mg "check_count" scheck_count Pcheck_count fcheck_count fdcheck_count) (Gcheck_count : FnOk P w K mg base (L2.CX P w) 3 fcheck_count fdcheck_count Pcheck_count (spcheck_count ce)) {fis_number : Addr} {fdis_number : FuncData} (Dis_number : Def K mg "is_number" sis_number Pis_number fis_number fdis_number) (Gis_number : FnOk P w K mg base CX0 2 fis_number fdis_number Pis_number (spis_number)) :
    FnOk P w K mg base (L2.CX P w) 4 f fd Pcheck_borders (spcheck_borders ce) := by
  refine D.F.okX sccheck_borders (fun vs H Q E h => ?_) (fun cdv A outer s H vs Q E hr h => ?_)
  · obtain ⟨F, v, o, rfl, bv, k1, k2, k3, k⟩ := h
    rfl
  · obtain ⟨F, v, o, rfl, bv, k1, k2, k3, k⟩ := h
    have hrcheck_count : Room 3 _ := hr.mono (by decide)
    have hris_number : Room 2 _ := hr.mono (by decide)
    obtain ⟨tc_MOST_BORDERS, hc_MOST_BORDERS⟩ := T.c_MOST_BORDERS
    obtain ⟨tc_MOST_SIZE, hc_MOST_SIZE⟩ := T.c_MOST_SIZE
    have hrE : Room 2 _ := hr.mono (by decide)
    refine ⟨_, (pss_cons (ps_if (pt_not (pt_val (pe_callB call_isiT (by rfl) T.n_isinstance (by decide +kernel) (pa_cons (pv 0) (pa_cons (pe_tup (pa_cons (pe_ty "list" (by rfl) T.n_list (by decide +kernel)) (pa_cons (pe_ty "tuple" (by rfl) T.n_tuple (by decide +kernel)) pa_nil))) pa_nil))))) (pss_one (ps_raise rfl (takes_of rfl rfl rfl rfl) (pmk_oex RInvalidBorders.er.ox RInvalidBorders.er.iC RInvalidBorders.er.tI RInvalidBorders.G hrE RInvalidBorders.b .nil pass0 rfl RInvalidBorders.er.gC (pa_cons (pe_un un_neg pe_int) pa_nil)))) pss_nil)
        (pss_cons (ps_expr (pe_call Gcheck_count hrcheck_count rfl Dcheck_count.g Dcheck_count.F.kp Dcheck_count.b .nil (passes_call (takes_of rfl rfl rfl rfl) fun _ _ _ _ h => h) (pa_cons pe_str (pa_cons (pe_callB call_len (by rfl) T.n_len PySem.boot_len (pa_cons (pv 0) pa_nil)) (pa_cons (pe_gint rfl hc_MOST_BORDERS) pa_nil)))))
        (pss_cons (ps_set (i := 1) sccheck_borders.nd rfl (Or.inl rfl) pe_int)
        (pss_one (ps_for (passes_of rfl) rfl (LO.pi_or (pi_enum (by rfl) T.n_enumerate (pa_cons (pv 0) pa_nil)) (LN.pi_enumT (by rfl) T.n_enumerate (pa_cons (pv 0) pa_nil))) ((pg_tup rfl (pgs_cons (pg_name (i := 2) sccheck_borders.nd rfl (Or.inl rfl)) (pgs_cons (pg_name (i := 3) sccheck_borders.nd rfl (Or.inl rfl)) pgs_nil))))
          (pss_cons (ps_if (pt_not (pt_val (pe_call Gis_number hris_number rfl Dis_number.g Dis_number.F.kp Dis_number.b .nil pass0 (pa_cons (pv 3) (pa_cons (pv 1) (pa_cons (pe_gint rfl hc_MOST_SIZE) pa_nil)))))) (pss_one (ps_raise rfl (takes_of rfl rfl rfl rfl) (pmk_oex RInvalidBorders.er.ox RInvalidBorders.er.iC RInvalidBorders.er.tI RInvalidBorders.G hrE RInvalidBorders.b .nil pass0 rfl RInvalidBorders.er.gC (pa_cons (pv 2) pa_nil)))) pss_nil)
        (pss_one (ps_set (i := 1) sccheck_borders.nd rfl (Or.inl rfl) (pe_op op_add (pv 3) pe_int))))))))), ?_⟩
    cases o with
    | none =>
      obtain ⟨ty, tx, ka⟩ := BorV.noty (K := K) bv
      refine ⟨_, rfl, (by show 2 ≤ sizeLine; decide), fun tp htp => ?_⟩
      have s1 := same_new (o := .tup [.ty "list", .ty "tuple"]) htp
      obtain ⟨ty, tx, ka⟩ := BorV.noty (K := K) (bv.same s1)
      refine ⟨_, tp, _, _, _, false, rfl, upd_same, .cons (.ty _) (.cons (.ty _) .nil), tx, ka, _, rfl, iteT ?_⟩
      exact ⟨_, rfl, (by show 1 ≤ 1000; decide), LX.err_out (n := 1) (ws := [_]) rfl (ErrOut.same s1 (k1 rfl).bo)⟩
    | some xs =>
      obtain ⟨bb, p, rfl, hp, np, hl14, hu⟩ := bv
      refine ⟨_, rfl, (by show 2 ≤ sizeLine; decide), fun tp htp => ?_⟩
      have s1 := same_new (o := .tup [.ty "list", .ty "tuple"]) htp
      have hp1 := s1 _ _ hp
      obtain ⟨ty, tx, ka⟩ := seq_ty (K := K) hp1
      refine ⟨_, tp, _, _, _, true, rfl, upd_same, .cons (.ty _) (.cons (.ty _) .nil), tx, ka, _, rfl, iteF ?_⟩
      generalize upd H tp (.tup [.ty "list", .ty "tuple"]) = H1 at s1 hp1 ⊢
      by_cases hc : xs.length ≤ 12
      · refine ⟨_, rfl, _, _, rfl, len_or hp1, _, _, _, rfl, .inl ⟨by show ((xs.length : Nat) : Int) ≤ 12; omega, ?_⟩⟩
        have dr : ∀ {i : Nat} (hi : i < xs.length), xs.drop i = xs[i] :: xs.drop (i + 1) := fun {i} hi => List.drop_eq_getElem_cons hi
        rcases seq_of hp1 with e1 | e1
        · refine .inl ⟨_, rfl, _, _, rfl, SqL.of e1, for_it (walk_enum (K := K) (a := p) (xs := xs)) (fun i σ H' => ∃ (n : Int) (v1 v2 : Option V), σ = [some (.ref p), some (.int n), v1, v2] ∧ Same H1 H' ∧ bad n i (xs.drop i) = bad 1 0 xs)
            ⟨1, none, none, rfl, Same.refl _, rfl⟩ (fun i σ H' _ ⟨_, _, _, _, s, _⟩ => s.seq (SqL.of e1)) ?_ ?_⟩
          · rintro i x σ H2 H3 hi ⟨n, v1, v2, rfl, s2, hb⟩ ⟨T, x1, x2, rfl, hT, rfl, q1, q2⟩
            cases q1
            have q2' : xs[i]? = some x2 := q2
            rw [List.getElem?_eq_getElem hi] at q2'
            cases q2'
            have s12 := s1.trans (s2.trans (same_new (o := .tup [V.int (i : Nat), xs[i]]) hT))
            refine ⟨T, _, rfl, SqT.of upd_same, rfl, _, _, rfl, _, _, rfl, rfl, ?_⟩
            refine ⟨_, rfl, _, rfl, F, 1, _, _, _, rfl, (hu _ (List.getElem_mem hi)).same s12, ?_⟩
            rw [dr hi, bad_step] at hb
            cases en : isNum xs[i] n 1000 with
            | false =>
              rw [en, if_neg Bool.false_ne_true] at hb
              exact ⟨_, rfl, iteT ⟨_, rfl, (by show 1 ≤ 1000; decide), LX.err_out (n := 1) (ws := [_]) rfl (ErrOut.same s12 (k3 xs i rfl hc hb.symm).bo)⟩⟩
            | true =>
              rw [en, if_pos rfl] at hb
              obtain ⟨b, eb, b0, b1⟩ := num_int en
              rw [eb] at hb ⊢
              exact ⟨_, rfl, iteF ⟨_, rfl, _, _, rfl, rfl, _, _, _, rfl, s2.trans (same_new hT), hb⟩⟩
          · rintro σ H2 ⟨n, v1, v2, rfl, s2, hb⟩
            rw [List.drop_length] at hb
            exact k xs _ rfl hc hb.symm (s1.trans s2)
        · refine .inr ⟨_, rfl, _, _, rfl, SqT.of e1, for_it (LN.walk_enumT (K := K) (a := p) (xs := xs)) (fun i σ H' => ∃ (n : Int) (v1 v2 : Option V), σ = [some (.ref p), some (.int n), v1, v2] ∧ Same H1 H' ∧ bad n i (xs.drop i) = bad 1 0 xs)
            ⟨1, none, none, rfl, Same.refl _, rfl⟩ (fun i σ H' _ ⟨_, _, _, _, s, _⟩ => sameT s (SqT.of e1)) ?_ ?_⟩
          · rintro i x σ H2 H3 hi ⟨n, v1, v2, rfl, s2, hb⟩ ⟨T, x1, x2, rfl, hT, rfl, q1, q2⟩
            cases q1
            have q2' : xs[i]? = some x2 := q2
            rw [List.getElem?_eq_getElem hi] at q2'
            cases q2'
            have s12 := s1.trans (s2.trans (same_new (o := .tup [V.int (i : Nat), xs[i]]) hT))
            refine ⟨T, _, rfl, SqT.of upd_same, rfl, _, _, rfl, _, _, rfl, rfl, ?_⟩
            refine ⟨_, rfl, _, rfl, F, 1, _, _, _, rfl, (hu _ (List.getElem_mem hi)).same s12, ?_⟩
            rw [dr hi, bad_step] at hb
            cases en : isNum xs[i] n 1000 with
            | false =>
              rw [en, if_neg Bool.false_ne_true] at hb
              exact ⟨_, rfl, iteT ⟨_, rfl, (by show 1 ≤ 1000; decide), LX.err_out (n := 1) (ws := [_]) rfl (ErrOut.same s12 (k3 xs i rfl hc hb.symm).bo)⟩⟩
            | true =>
              rw [en, if_pos rfl] at hb
              obtain ⟨b, eb, b0, b1⟩ := num_int en
              rw [eb] at hb ⊢
              exact ⟨_, rfl, iteF ⟨_, rfl, _, _, rfl, rfl, _, _, _, rfl, s2.trans (same_new hT), hb⟩⟩
          · rintro σ H2 ⟨n, v1, v2, rfl, s2, hb⟩
            rw [List.drop_length] at hb
            exact k xs _ rfl hc hb.symm (s1.trans s2)
      · exact ⟨_, rfl, _, _, rfl, len_or hp1, _, _, _, rfl, .inr ⟨by show (12 : Int) < ((xs.length : Nat) : Int); omega, Out.same s1 (k2 xs rfl (by omega))⟩⟩
end k04
namespace k04
open PySem L2 LC RM
def spRest_init (K : PySem.W.Frag) (a : Ad) : Sp := fun vs H Q _ => ∃ (x C dx : Addr) (fs : List (Str × V)) (t : Str) (f p b : Int), vs = [.ref x, .str t, .int f, .int p, .int b] ∧ H x = some (.ins C dx fs) ∧ RC K a C ∧ fs.length ≤ 10 ∧
  ∀ H', H' x = some (.ins C dx (putF "_bend" (.int b) (putF "_period" (.int p) (putF "_forms" (.int f) (putF "_text" (.str t) fs))))) → (∀ y, y ≠ x → H' y = H y) → Q .non H'
theorem ok_Rest_init {P : Program} {w : World} {K : PySem.W.Frag} {mg : Str → Option Value} {base : Heap} {f : Addr} {fd : FuncData} (F0 : Fun K "__init__" "Rest.__init__" sRest_init f fd) (T : Txt K mg) {a : Ad} (KN : Kn K mg a) :
    FnOk P w K mg base CX0 1 f fd PRest_init (spRest_init K a) := by
  refine F0.ok scRest_init (fun vs H Q E h => ?_) (fun cdv A outer s H vs Q E hr h => ?_)
  · obtain ⟨x, C, dx, fs, t, f, p, b, rfl, hx, rc, hl, k⟩ := h
    rfl
  · obtain ⟨x, C, dx, fs, t, f, p, b, rfl, hx, rc, hl, k⟩ := h
    refine ⟨_, (pss_cons (ps_fld (pv 0) (pv 1) rfl)
        (pss_cons (ps_fld (pv 0) (pv 2) rfl)
        (pss_cons (ps_fld (pv 0) (pv 3) rfl)
        (pss_one (ps_fld (pv 0) (pv 4) rfl))))), ?_⟩
    have l1 := length_putF "_text" (.str t) fs
    have l2 := length_putF "_forms" (.int f) (putF "_text" (.str t) fs)
    have l3 := length_putF "_period" (.int p) (putF "_forms" (.int f) (putF "_text" (.str t) fs))
    refine ⟨_, rfl, _, rfl, x, C, dx, _, rfl, hx, rc.cl, rc.nT, by omega, ?_⟩
    refine ⟨_, rfl, _, rfl, x, C, dx, _, rfl, upd_same, rc.cl, rc.nF, by omega, ?_⟩
    refine ⟨_, rfl, _, rfl, x, C, dx, _, rfl, upd_same, rc.cl, rc.nP, by omega, ?_⟩
    refine ⟨_, rfl, _, rfl, x, C, dx, _, rfl, upd_same, rc.cl, rc.nB, by omega, ?_⟩
    exact k _ upd_same fun y n => by rw [upd_ne n, upd_ne n, upd_ne n, upd_ne n]
end k04
namespace k04
open PySem L2 LC RM
def spRest_forms (K : PySem.W.Frag) (a : Ad) : Sp := fun vs H Q _ => ∃ (x : Addr) (g : Addr → Prop) (p : Pl), vs = [.ref x] ∧ RestX a g H p x ∧ Q (.int p.forms) H
theorem ok_Rest_forms {P : Program} {w : World} {K : PySem.W.Frag} {mg : Str → Option Value} {base : Heap} {f : Addr} {fd : FuncData} (F0 : Fun K "forms" "Rest.forms" sRest_forms f fd) (T : Txt K mg) {a : Ad} (KN : Kn K mg a) :
    FnOk P w K mg base CX0 1 f fd PRest_forms (spRest_forms K a) := by
  refine F0.ok scRest_forms (fun vs H Q E h => ?_) (fun cdv A outer s H vs Q E hr h => ?_)
  · obtain ⟨x, g, p, rfl, R, k⟩ := h
    rfl
  · obtain ⟨x, g, p, rfl, R, k⟩ := h
    refine ⟨_, (pss_one (ps_ret (pe_fld (pv 0) rfl))), ?_⟩
    obtain ⟨C, dx, fs, hx, rc, F4, _⟩ := R.view KN
    exact ⟨_, rfl, x, C, dx, fs, _, rfl, hx, rc.cl, rc.nF, F4.vf, k⟩
end k04
namespace k04
open PySem L2 LC RM
def spRest_period (K : PySem.W.Frag) (a : Ad) : Sp := fun vs H Q _ => ∃ (x : Addr) (g : Addr → Prop) (p : Pl), vs = [.ref x] ∧ RestX a g H p x ∧ Q (.int p.per) H
theorem ok_Rest_period {P : Program} {w : World} {K : PySem.W.Frag} {mg : Str → Option Value} {base : Heap} {f : Addr} {fd : FuncData} (F0 : Fun K "period" "Rest.period" sRest_period f fd) (T : Txt K mg) {a : Ad} (KN : Kn K mg a) :
    FnOk P w K mg base CX0 1 f fd PRest_period (spRest_period K a) := by
  refine F0.ok scRest_period (fun vs H Q E h => ?_) (fun cdv A outer s H vs Q E hr h => ?_)
  · obtain ⟨x, g, p, rfl, R, k⟩ := h
    rfl
  · obtain ⟨x, g, p, rfl, R, k⟩ := h
    refine ⟨_, (pss_one (ps_ret (pe_fld (pv 0) rfl))), ?_⟩
    obtain ⟨C, dx, fs, hx, rc, F4, _⟩ := R.view KN
    exact ⟨_, rfl, x, C, dx, fs, _, rfl, hx, rc.cl, rc.nP, F4.vp, k⟩
end k04
namespace k04
open PySem L2 LC RM
def spRest_bend (K : PySem.W.Frag) (a : Ad) : Sp := fun vs H Q _ => ∃ (x : Addr) (g : Addr → Prop) (p : Pl), vs = [.ref x] ∧ RestX a g H p x ∧ Q (.int p.bend) H
theorem ok_Rest_bend {P : Program} {w : World} {K : PySem.W.Frag} {mg : Str → Option Value} {base : Heap} {f : Addr} {fd : FuncData} (F0 : Fun K "bend" "Rest.bend" sRest_bend f fd) (T : Txt K mg) {a : Ad} (KN : Kn K mg a) :
    FnOk P w K mg base CX0 1 f fd PRest_bend (spRest_bend K a) := by
  refine F0.ok scRest_bend (fun vs H Q E h => ?_) (fun cdv A outer s H vs Q E hr h => ?_)
  · obtain ⟨x, g, p, rfl, R, k⟩ := h
    rfl
  · obtain ⟨x, g, p, rfl, R, k⟩ := h
    refine ⟨_, (pss_one (ps_ret (pe_fld (pv 0) rfl))), ?_⟩
    obtain ⟨C, dx, fs, hx, rc, F4, _⟩ := R.view KN
    exact ⟨_, rfl, x, C, dx, fs, _, rfl, hx, rc.cl, rc.nB, F4.vb, k⟩
end k04
namespace k04
open PySem L2 LC RM
def spRest_written (K : PySem.W.Frag) (a : Ad) : Sp := fun vs H Q _ => ∃ (x : Addr) (g : Addr → Prop) (p : Pl), vs = [.ref x] ∧ RestX a g H p x ∧ Q (.str p.text) H
theorem ok_Rest_written {P : Program} {w : World} {K : PySem.W.Frag} {mg : Str → Option Value} {base : Heap} {f : Addr} {fd : FuncData} (F0 : Fun K "written" "Rest.written" sRest_written f fd) (T : Txt K mg) {a : Ad} (KN : Kn K mg a) :
    FnOk P w K mg base CX0 1 f fd PRest_written (spRest_written K a) := by
  refine F0.ok scRest_written (fun vs H Q E h => ?_) (fun cdv A outer s H vs Q E hr h => ?_)
  · obtain ⟨x, g, p, rfl, R, k⟩ := h
    rfl
  · obtain ⟨x, g, p, rfl, R, k⟩ := h
    refine ⟨_, (pss_one (ps_ret (pe_fld (pv 0) rfl))), ?_⟩
    obtain ⟨C, dx, fs, hx, rc, F4, _⟩ := R.view KN
    exact ⟨_, rfl, x, C, dx, fs, _, rfl, hx, rc.cl, rc.nT, F4.vt, k⟩
end k04
namespace k04
open PySem L2 LC RM
def spRest_str (K : PySem.W.Frag) (a : Ad) : Sp := fun vs H Q _ => ∃ (x : Addr) (g : Addr → Prop) (p : Pl), vs = [.ref x] ∧ RestX a g H p x ∧ p.text.length ≤ 160120 ∧ Q (.str p.text) H
theorem ok_Rest_str {P : Program} {w : World} {K : PySem.W.Frag} {mg : Str → Option Value} {base : Heap} {f : Addr} {fd : FuncData} (F0 : Fun K "__str__" "Rest.__str__" sRest_str f fd) (T : Txt K mg) {a : Ad} (KN : Kn K mg a) :
    FnOk P w K mg base CX0 1 f fd PRest_str (spRest_str K a) := by
  refine F0.ok scRest_str (fun vs H Q E h => ?_) (fun cdv A outer s H vs Q E hr h => ?_)
  · obtain ⟨x, g, p, rfl, R, tl, k⟩ := h
    rfl
  · obtain ⟨x, g, p, rfl, R, tl, k⟩ := h
    refine ⟨_, (pss_one (ps_ret (pe_joined1 (pe_fmt (pe_fld (pv 0) rfl))))), ?_⟩
    obtain ⟨C, dx, fs, hx, rc, F4, _⟩ := R.view KN
    exact ⟨_, rfl, x, C, dx, fs, _, rfl, hx, rc.cl, rc.nT, F4.vt, .inl ⟨_, rfl, Nat.le_trans tl (by decide), k⟩⟩
end k04
namespace k04
open PySem L2 LC RM
def spRest_repr (K : PySem.W.Frag) (a : Ad) : Sp := fun vs H Q _ => ∃ (x : Addr) (g : Addr → Prop) (p : Pl), vs = [.ref x] ∧ RestX a g H p x ∧ p.text.length ≤ 160120 ∧ Q (.str (Str.empty ++ "Rest(" ++ p.text ++ ")")) H
theorem ok_Rest_repr {P : Program} {w : World} {K : PySem.W.Frag} {mg : Str → Option Value} {base : Heap} {f : Addr} {fd : FuncData} (F0 : Fun K "__repr__" "Rest.__repr__" sRest_repr f fd) (T : Txt K mg) {a : Ad} (KN : Kn K mg a) :
    FnOk P w K mg base CX0 1 f fd PRest_repr (spRest_repr K a) := by
  refine F0.ok scRest_repr (fun vs H Q E h => ?_) (fun cdv A outer s H vs Q E hr h => ?_)
  · obtain ⟨x, g, p, rfl, R, tl, k⟩ := h
    rfl
  · obtain ⟨x, g, p, rfl, R, tl, k⟩ := h
    refine ⟨_, (pss_one (ps_ret (pe_joined (.cons pe_str (.cons (pe_fmt (pe_fld (pv 0) rfl)) (.cons pe_str .nil)))))), ?_⟩
    obtain ⟨C, dx, fs, hx, rc, F4, _⟩ := R.view KN
    have sz : sizeLine = 16777216 := rfl
    have e0 : Str.empty.length = 0 := rfl
    have e1 : ("Rest(" : Str).length = 5 := by decide +kernel
    have e2 : (")" : Str).length = 1 := by decide +kernel
    have ap := fun x y : Str => Str.length_append x y
    refine ⟨_, rfl, by rw [ap]; omega, _, rfl, x, C, dx, fs, _, rfl, hx, rc.cl, rc.nT, F4.vt, .inl ⟨_, rfl, by omega, _, rfl, by rw [ap, ap]; omega, _, rfl, by rw [ap, ap, ap]; omega, k⟩⟩
end k04
namespace k04
open PySem L2 LC RM
/-- a rest beside anything -/
def EqV (K : PySem.W.Frag) (a : Ad) (H : Hp) (p : Pl) (v : V) (b : Bool) : Prop := (∃ (y : Addr) (h : Addr → Prop) (q : Pl), v = .ref y ∧ RestX a h H q y ∧ b = decide (p.text = q.text)) ∨ (∃ (F : Addr → Prop) (n : Nat), Ov F H n v ∧ b = false)
def spRest_eq (K : PySem.W.Frag) (a : Ad) : Sp := fun vs H Q _ => ∃ (x : Addr) (v : V) (g : Addr → Prop) (p : Pl) (b : Bool), vs = [.ref x, v] ∧ RestX a g H p x ∧ EqV K a H p v b ∧ Q (.bl b) H
theorem ok_Rest_eq {P : Program} {w : World} {K : PySem.W.Frag} {mg : Str → Option Value} {base : Heap} {f : Addr} {fd : FuncData} (F0 : Fun K "__eq__" "Rest.__eq__" sRest_eq f fd) (T : Txt K mg) {a : Ad} (KN : Kn K mg a) :
    FnOk P w K mg base CX0 1 f fd PRest_eq (spRest_eq K a) := by
  refine F0.ok scRest_eq (fun vs H Q E h => ?_) (fun cdv A outer s H vs Q E hr h => ?_)
  · obtain ⟨x, v, g, p, b, rfl, R, ev, k⟩ := h
    rfl
  · obtain ⟨x, v, g, p, b, rfl, R, ev, k⟩ := h
    refine ⟨_, (pss_one (ps_ret (pe_and (pe_callB call_isi (by rfl) T.n_isinstance (by decide +kernel) (pa_cons (pv 1) (pa_cons (pe_glob rfl KN.gR (show RelV (.ref a.R) _ from rfl)) pa_nil))) (pe_one (pe_cmpR op_eq (pe_fld (pv 0) rfl) (pe_fld (pv 1) rfl) (nomark _)))))), ?_⟩
    obtain ⟨C, dx, fs, hx, rc, F4, _⟩ := R.view KN
    rcases ev with ⟨y, h', q, rfl, R', rfl⟩ | ⟨F, n, o, rfl⟩
    · obtain ⟨C', dy, gs, hy, rc', F4', _⟩ := R'.view KN
      refine ⟨_, rfl, _, _, _, _, _, rfl, .own _, .base (.ins hy rc'.cl rc'.ha rc'.hn rc'.htk rc'.hm), rc'.me, _, rfl, iteT ?_⟩
      refine ⟨_, rfl, x, C, dx, fs, _, rfl, hx, rc.cl, rc.nT, F4.vt, _, rfl, y, C', dy, gs, _, rfl, hy, rc'.cl, rc'.nT, F4'.vt, rfl, ?_⟩
      rw [decide_eq_decide.mpr (show V.str p.text = V.str q.text ↔ p.text = q.text from ⟨fun z => V.str.inj z, fun z => by rw [z]⟩)]
      exact k
    · obtain ⟨ty, tx, _, _, _, hm⟩ := o.ty (K := K)
      exact ⟨_, rfl, _, _, _, _, _, rfl, .own _, tx, KN.kOdd ty hm, _, rfl, iteF k⟩
end k04
namespace k04
open PySem L2 LC RM
def spcommon_period (K : PySem.W.Frag) (a : Ad) (ce : Ce) : Sp := fun vs H Q E => ∃ (y z : Addr) (g : Addr → Prop) (p q : Pl), vs = [.ref y, .ref z] ∧ RestX a g H p y ∧ RestX a g H q z ∧ Good p ∧ Good q ∧
  ((lcmI p.per q.per ≤ 2000 ∧ Q (.int (lcmI p.per q.per)) H) ∨ (2000 < lcmI p.per q.per ∧ Out ce H E ("TooMany", [.str "period", .int (lcmI p.per q.per)])))
theorem ok_common_period {P : Program} {w : World} {K : PySem.W.Frag} {mg : Str → Option Value} {base : Heap} {f : Addr} {fd : FuncData} (D : Def K mg "common_period" scommon_period Pcommon_period f fd) (T : Txt K mg) {a : Ad} (KN : Kn K mg a) {ce : Ce} {fdTooMany : FuncData} {fTooMany : Addr} (RTooMany : RTM P w K mg base ce.tm fTooMany fdTooMany) (RP : FnR P w K mg base CX0 1 a.fP (spRest_period K a)) {fcheck_count : Addr} {fdcheck_count : FuncData} (Dcheck_count : Def K mg "check_count" scheck_count Pcheck_count fcheck_count fdcheck_count) (Gcheck_count : FnOk P w K mg base (L2.CX P w) 3 fcheck_count fdcheck_count Pcheck_count (spcheck_count ce)) :
    FnOk P w K mg base (L2.CX P w) 4 f fd Pcommon_period (spcommon_period K a ce) := by
  refine D.F.okX sccommon_period (fun vs H Q E h => ?_) (fun cdv A outer s H vs Q E hr h => ?_)
  · obtain ⟨y, z, g, p, q, rfl, R1, R2, b1, b2, h⟩ := h
    rfl
  · obtain ⟨y, z, g, p, q, rfl, R1, R2, b1, b2, h⟩ := h
    have hrcheck_count : Room 3 _ := hr.mono (by decide)
    obtain ⟨tc_MOST_PERIOD, hc_MOST_PERIOD⟩ := T.c_MOST_PERIOD
    have hrM : Room 1 _ := hr.mono (by decide)
    refine ⟨_, (pss_cons (ps_set (i := 2) sccommon_period.nd rfl (Or.inl rfl) (pe_callBfun LC.cr_lcm (by rfl) KN.gl (pa_cons (LS.pe_methD0 (pv 0) KN.kP RP hrM) (pa_cons (LS.pe_methD0 (pv 1) KN.kP RP hrM) pa_nil))))
        (pss_cons (ps_expr (pe_call Gcheck_count hrcheck_count rfl Dcheck_count.g Dcheck_count.F.kp Dcheck_count.b .nil (passes_call (takes_of rfl rfl rfl rfl) fun _ _ _ _ h => h) (pa_cons pe_str (pa_cons (pv 2) (pa_cons (pe_gint rfl hc_MOST_PERIOD) pa_nil)))))
        (pss_one (ps_ret (pv 2))))), ?_⟩
    obtain ⟨C1, dx1, fs1, hx1, rc1, F1, _⟩ := R1.view KN
    obtain ⟨C2, dx2, fs2, hx2, rc2, F2, _⟩ := R2.view KN
    have a1 := b1.p1
    have a2 := b1.p2
    have a3 := b2.p1
    have a4 := b2.p2
    refine ⟨_, rfl, y, C1, dx1, fs1, rfl, hx1, rc1.cl, rc1.mP, F1.mp, y, g, p, rfl, R1, ?_⟩
    refine ⟨_, rfl, z, C2, dx2, fs2, rfl, hx2, rc2.cl, rc2.mP, F2.mp, z, g, q, rfl, R2, ?_⟩
    refine ⟨_, _, rfl, Nat.lt_trans (show p.per.natAbs < 10000 by omega) (by decide), Nat.lt_trans (show q.per.natAbs < 10000 by omega) (by decide), ?_⟩
    rcases h with ⟨hc, k⟩ | ⟨hc, k⟩
    · exact ⟨_, rfl, _, _, _, rfl, .inl ⟨hc, _, rfl, k⟩⟩
    · exact ⟨_, rfl, _, _, _, rfl, .inr ⟨hc, k⟩⟩
end k04
namespace k04
open PySem L2 LC RM
def pairPl (w : Str) (p q : Pl) : Int × Int × Int := (1 + p.forms + q.forms, lcmI p.per q.per, maxI p.bend q.bend)
def sppair_facts (K : PySem.W.Frag) (a : Ad) (ce : Ce) : Sp := fun vs H Q E => ∃ (w : Str) (u v : V) (o1 o2 : Option Pl) (F : Addr → Prop), vs = [.str w, u, v] ∧ w.length ≤ 10 ∧ RestV a F H u o1 ∧ RestV a F H v o2 ∧
  (∀ e, pairDue o1 o2 u v = some e → Out ce H E e) ∧
  ∀ (p q : Pl) (T : Addr) H', o1 = some p → o2 = some q → p.leaves + q.leaves ≤ 3 → lcmI p.per q.per ≤ 2000 → Same H H' → H T = none → H' T = some (.tup [.str (pairT w p.text q.text), .int (1 + p.forms + q.forms), .int (lcmI p.per q.per), .int (maxI p.bend q.bend)]) → Q (.ref T) H'
theorem ok_pair_facts {P : Program} {w : World} {K : PySem.W.Frag} {mg : Str → Option Value} {base : Heap} {f : Addr} {fd : FuncData} (D : Def K mg "pair_facts" spair_facts Ppair_facts f fd) (T : Txt K mg) {a : Ad} (KN : Kn K mg a) {ce : Ce} {fdInvalidNumber : FuncData} {fInvalidNumber : Addr} (RInvalidNumber : RE P w K mg base "InvalidNumber" "value" (ivF "InvalidNumber") ce.nu fInvalidNumber fdInvalidNumber) {fdInvalidBorders : FuncData} {fInvalidBorders : Addr} (RInvalidBorders : RE P w K mg base "InvalidBorders" "at" (atF "InvalidBorders") ce.bo fInvalidBorders fdInvalidBorders) {fdInvalidRest : FuncData} {fInvalidRest : Addr} (RInvalidRest : RE P w K mg base "InvalidRest" "value" (ivF "InvalidRest") ce.re fInvalidRest fdInvalidRest) {fdTooMany : FuncData} {fTooMany : Addr} (RTooMany : RTM P w K mg base ce.tm fTooMany fdTooMany) (RW : FnR P w K mg base CX0 1 a.fW (spRest_written K a)) (RF : FnR P w K mg base CX0 1 a.fF (spRest_forms K a)) (RP : FnR P w K mg base CX0 1 a.fP (spRest_period K a)) (RB : FnR P w K mg base CX0 1 a.fB (spRest_bend K a)) {fcheck_count : Addr} {fdcheck_count : FuncData} (Dcheck_count : Def K mg "check_count" scheck_count Pcheck_count fcheck_count fdcheck_count) (Gcheck_count : FnOk P w K mg base (L2.CX P w) 3 fcheck_count fdcheck_count Pcheck_count (spcheck_count ce)) {fcommon_period : Addr} {fdcommon_period : FuncData} (Dcommon_period : Def K mg "common_period" scommon_period Pcommon_period fcommon_period fdcommon_period) (Gcommon_period : FnOk P w K mg base (L2.CX P w) 4 fcommon_period fdcommon_period Pcommon_period (spcommon_period K a ce)) :
    FnOk P w K mg base (L2.CX P w) 5 f fd Ppair_facts (sppair_facts K a ce) := by
  refine D.F.okX scpair_facts (fun vs H Q E h => ?_) (fun cdv A outer s H vs Q E hr h => ?_)
  · obtain ⟨w, u, v, o1, o2, F, rfl, hw, R1, R2, ke, k⟩ := h
    rfl
  · obtain ⟨w, u, v, o1, o2, F, rfl, hw, R1, R2, ke, k⟩ := h
    have hrcheck_count : Room 3 _ := hr.mono (by decide)
    have hrcommon_period : Room 4 _ := hr.mono (by decide)
    obtain ⟨tc_MOST_FORMS, hc_MOST_FORMS⟩ := T.c_MOST_FORMS
    have hrM : Room 1 _ := hr.mono (by decide)
    have hrE : Room 2 _ := hr.mono (by decide)
    refine ⟨_, (pss_cons (ps_for (passes_of rfl) rfl (pi_tup (pe_tup (pa_cons (pv 1) (pa_cons (pv 2) pa_nil)))) (pg_name (i := 3) scpair_facts.nd rfl (Or.inl rfl))
          (pss_one (ps_if (pt_not (pt_val (pe_callB call_isi (by rfl) T.n_isinstance (by decide +kernel) (pa_cons (pv 3) (pa_cons (pe_glob rfl KN.gR (show RelV (.ref a.R) _ from rfl)) pa_nil))))) (pss_one (ps_raise rfl (takes_of rfl rfl rfl rfl) (pmk_oex RInvalidRest.er.ox RInvalidRest.er.iC RInvalidRest.er.tI RInvalidRest.G hrE RInvalidRest.b .nil pass0 rfl RInvalidRest.er.gC (pa_cons (pv 3) pa_nil)))) pss_nil)))
        (pss_cons (ps_set (i := 4) scpair_facts.nd rfl (Or.inl rfl) (pe_joined (.cons (pe_fmt (pv 0)) (.cons pe_str (.cons (pe_fmt (LS.pe_methD0 (pv 1) KN.kW RW hrM)) (.cons pe_str (.cons (pe_fmt (LS.pe_methD0 (pv 2) KN.kW RW hrM)) (.cons pe_str .nil))))))))
        (pss_cons (ps_set (i := 5) scpair_facts.nd rfl (Or.inl rfl) (pe_op op_add (pe_op op_add pe_int (LS.pe_methD0 (pv 1) KN.kF RF hrM)) (LS.pe_methD0 (pv 2) KN.kF RF hrM)))
        (pss_cons (ps_expr (pe_call Gcheck_count hrcheck_count rfl Dcheck_count.g Dcheck_count.F.kp Dcheck_count.b .nil (passes_call (takes_of rfl rfl rfl rfl) fun _ _ _ _ h => h) (pa_cons pe_str (pa_cons (pv 5) (pa_cons (pe_gint rfl hc_MOST_FORMS) pa_nil)))))
        (pss_one (ps_ret (pe_tup (pa_cons (pv 4) (pa_cons (pv 5) (pa_cons (pe_call Gcommon_period hrcommon_period rfl Dcommon_period.g Dcommon_period.F.kp Dcommon_period.b .nil (passes_call (takes_of rfl rfl rfl rfl) fun _ _ _ _ h => h) (pa_cons (pv 1) (pa_cons (pv 2) pa_nil))) (pa_cons (pe_callB (call_max2 rfl) (by rfl) T.n_max (by decide +kernel) (pa_cons (LS.pe_methD0 (pv 1) KN.kB RB hrM) (pa_cons (LS.pe_methD0 (pv 2) KN.kB RB hrM) pa_nil))) pa_nil))))))))))), ?_⟩
    refine ⟨_, rfl, _, rfl, (by show 2 ≤ sizeLine; decide), fun T0 hT0 => ?_⟩
    have s0 : Same H (upd H T0 (.tup [u, v])) := same_new hT0
    have R1' := R1.kp (KpF.same s0)
    have R2' := R2.kp (KpF.same s0)
    have eT0 : upd H T0 (.tup [u, v]) T0 = some (.tup [u, v]) := upd_same
    generalize upd H T0 (.tup [u, v]) = H1 at s0 R1' R2' eT0 ⊢
    have s0' := s0
    refine ⟨T0, rfl, ⟨_, SqT.of eT0⟩, for_tup (K := K) (a := T0) (xs := [u, v]) (fun i σ H' => (∃ x : Option V, σ = [some (.str w), some u, some v, x, none, none]) ∧ H' = H1 ∧ (0 < i → o1.isSome = true) ∧ (1 < i → o2.isSome = true))
      ⟨⟨_, rfl⟩, rfl, fun z => absurd z (Nat.lt_irrefl 0), fun z => absurd z (by decide)⟩ (fun i σ H' _ ⟨_, e, _⟩ => by rw [e]; exact SqT.of eT0) ?_ ?_⟩
    · rintro i x σ H' hi ⟨⟨y0, rfl⟩, eH, i0, i1⟩
      have eH' := eH.symm
      subst eH'
      have step : ∀ (x : V) (o : Option Pl), RestV a F H1 x o → (o = none → Out ce H E ("InvalidRest", [x])) → (o.isSome = true → (0 < i + 1 → o1.isSome = true) ∧ (1 < i + 1 → o2.isSome = true)) →
          (∃ t b, TyX K H1 x t ∧ PySem.W.kitOne K t (.ref a.R) = some b ∧ (b = true → (0 < i + 1 → o1.isSome = true) ∧ (1 < i + 1 → o2.isSome = true)) ∧ (b = false → Out ce H E ("InvalidRest", [x]))) := fun x o R h1 h2 => by
        cases o with
        | none =>
          obtain ⟨n, ov⟩ := R
          obtain ⟨ty, tx, _, _, _, hm⟩ := ov.ty (K := K)
          exact ⟨_, false, tx, KN.kOdd ty hm, fun z => Bool.noConfusion z, fun _ => h1 rfl⟩
        | some p =>
          obtain ⟨y, rfl, R, _⟩ := R
          obtain ⟨C, dx, fs, hx, rc, _⟩ := R.view KN
          exact ⟨_, true, .base (.ins hx rc.cl rc.ha rc.hn rc.htk rc.hm), rc.me, fun _ => h2 rfl, fun z => Bool.noConfusion z⟩
      obtain ⟨t, b, tx, kx, bt, bf⟩ : ∃ t b, TyX K H1 x t ∧ PySem.W.kitOne K t (.ref a.R) = some b ∧ (b = true → (0 < i + 1 → o1.isSome = true) ∧ (1 < i + 1 → o2.isSome = true)) ∧ (b = false → Out ce H E ("InvalidRest", [x])) := by
        match i, hi with
        | 0, hi =>
          cases hi
          exact step _ o1 R1' (fun e => ke _ (by rw [e]; rfl)) (fun z => ⟨fun _ => z, fun z => absurd z (by decide)⟩)
        | 1, hi =>
          cases hi
          obtain ⟨p, rfl⟩ := Option.isSome_iff_exists.mp (i0 (by decide))
          exact step _ o2 R2' (fun e => ke _ (by rw [e]; rfl)) (fun z => ⟨fun _ => rfl, fun _ => z⟩)
      refine ⟨_, rfl, _, _, _, _, _, rfl, .own _, tx, kx, _, rfl, ?_⟩
      cases b with
      | true => exact iteF ⟨⟨_, rfl⟩, rfl, bt rfl⟩
      | false => exact iteT ⟨_, rfl, (by show 1 ≤ 1000; decide), LX.err_out (n := 1) (ws := [_]) rfl (ErrOut.same s0 (bf rfl).re)⟩
    · rintro σ H' ⟨⟨y0, rfl⟩, eH, i0, i1⟩
      have eH' := eH.symm
      subst eH'
      obtain ⟨p, rfl⟩ := Option.isSome_iff_exists.mp (i0 (by show 0 < 2; decide))
      obtain ⟨q, rfl⟩ := Option.isSome_iff_exists.mp (i1 (by show 1 < 2; decide))
      obtain ⟨y, rfl, R1', g1⟩ := R1'
      obtain ⟨z, rfl, R2', g2⟩ := R2'
      obtain ⟨C1, dx1, fs1, hx1, rc1, F1, _⟩ := R1'.view KN
      obtain ⟨C2, dx2, fs2, hx2, rc2, F2, _⟩ := R2'.view KN
      have tb1 := g1.t
      have tb2 := g2.t
      have sz : sizeLine = 16777216 := rfl
      have e0 : Str.empty.length = 0 := rfl
      have e1 : ("(" : Str).length = 1 := by decide +kernel
      have e2 : (", " : Str).length = 2 := by decide +kernel
      have e3 : (")" : Str).length = 1 := by decide +kernel
      have ap := fun x y : Str => Str.length_append x y
      have f1 := p.forms_eq
      have f2 := q.forms_eq
      refine ⟨_, rfl, .inl ⟨_, rfl, by omega, _, rfl, by rw [ap]; omega, _, rfl, by rw [ap, ap]; omega, ?_⟩⟩
      refine ⟨_, rfl, y, C1, dx1, fs1, rfl, hx1, rc1.cl, rc1.mW, F1.mw, y, F, p, rfl, R1', .inl ⟨_, rfl, by omega, _, rfl, by rw [ap, ap, ap]; omega, _, rfl, by rw [ap, ap, ap, ap]; omega, ?_⟩⟩
      refine ⟨_, rfl, z, C2, dx2, fs2, rfl, hx2, rc2.cl, rc2.mW, F2.mw, z, F, q, rfl, R2', .inl ⟨_, rfl, by omega, _, rfl, by rw [ap, ap, ap, ap, ap]; omega, _, rfl, by rw [ap, ap, ap, ap, ap, ap]; omega, ?_⟩⟩
      refine ⟨_, rfl, y, C1, dx1, fs1, rfl, hx1, rc1.cl, rc1.mF, F1.mf, y, F, p, rfl, R1', _, _, rfl, rfl, _, rfl, z, C2, dx2, fs2, rfl, hx2, rc2.cl, rc2.mF, F2.mf, z, F, q, rfl, R2', _, _, rfl, rfl, ?_⟩
      by_cases hf : 1 + p.forms + q.forms ≤ 6
      · refine ⟨_, rfl, _, _, _, rfl, .inl ⟨hf, ?_⟩⟩
        refine ⟨_, rfl, _, rfl, _, rfl, _, rfl, y, z, F, p, q, rfl, R1', R2', g1, g2, ?_⟩
        by_cases hc : lcmI p.per q.per ≤ 2000
        · refine .inl ⟨hc, ?_⟩
          refine ⟨_, rfl, y, C1, dx1, fs1, rfl, hx1, rc1.cl, rc1.mB, F1.mb, y, F, p, rfl, R1', _, rfl, z, C2, dx2, fs2, rfl, hx2, rc2.cl, rc2.mB, F2.mb, z, F, q, rfl, R2', _, _, rfl, (by show 4 ≤ sizeLine; decide), fun T hT => ?_⟩
          exact k p q T _ rfl rfl (by omega) hc (s0.trans (same_new hT)) (s0.free hT) upd_same
        · refine .inr ⟨by omega, Out.same s0 (ke _ ?_)⟩
          show (if 6 < 1 + p.forms + q.forms then _ else if 2000 < lcmI p.per q.per then _ else none) = _
          rw [if_neg (by omega), if_pos (by omega)]
      · refine ⟨_, rfl, _, _, _, rfl, .inr ⟨by omega, Out.same s0 (ke _ ?_)⟩⟩
        show (if 6 < 1 + p.forms + q.forms then some (("TooMany" : Str), [V.str "forms", V.int (1 + p.forms + q.forms)]) else _) = _
        rw [if_pos (by omega)]
end k04
namespace k04
open PySem L2 LC RM
def spWindow_init (K : PySem.W.Frag) (a : Ad) (ce : Ce) : Sp := fun vs H Q E => ∃ (x dx : Addr) (F : Addr → Prop) (n : Nat) (v : V) (Hb : Hp), vs = [.ref x, v] ∧ H x = some (.ins a.W dx []) ∧ Hb x = none ∧ ¬ F x ∧ Same Hb H ∧ Ov F Hb n v ∧ (isNum v 1 1000 = false → Out ce Hb E ("InvalidNumber", [v])) ∧
  ∀ (w : Int) H', v = .int w → 1 ≤ w → w ≤ 1000 → Same Hb H' → RestX a F H' (.win w) x → Q .non H'
theorem ok_Window_init {P : Program} {w : World} {K : PySem.W.Frag} {mg : Str → Option Value} {base : Heap} {f cc c : Addr} (T : Txt K mg) {a : Ad} (KN : Kn K mg a) {ce : Ce} {fdInvalidNumber : FuncData} {fInvalidNumber : Addr} (RInvalidNumber : RE P w K mg base "InvalidNumber" "value" (ivF "InvalidNumber") ce.nu fInvalidNumber fdInvalidNumber) {fdInvalidBorders : FuncData} {fInvalidBorders : Addr} (RInvalidBorders : RE P w K mg base "InvalidBorders" "at" (atF "InvalidBorders") ce.bo fInvalidBorders fdInvalidBorders) {fdInvalidRest : FuncData} {fInvalidRest : Addr} (RInvalidRest : RE P w K mg base "InvalidRest" "value" (ivF "InvalidRest") ce.re fInvalidRest fdInvalidRest) {fdTooMany : FuncData} {fTooMany : Addr} (RTooMany : RTM P w K mg base ce.tm fTooMany fdTooMany) (RI : FnR P w K mg base CX0 1 a.fRi (spRest_init K a)) {fis_number : Addr} {fdis_number : FuncData} (Dis_number : Def K mg "is_number" sis_number Pis_number fis_number fdis_number) (Gis_number : FnOk P w K mg base CX0 2 fis_number fdis_number Pis_number (spis_number)) {doc pm ct oc : Value} {od : Option Addr} {osl : Array (Option Value)} (U : LS.SupF P K (FWindow_init cc c) f a.W a.fRi "__init__") (lf : K.lookup f = some ⟨oc, od, .func ((FWindow_init cc c).fd doc pm ct), osl⟩) :
    FnOk P w K mg base (L2.CX P w) 3 f ((FWindow_init cc c).fd doc pm ct) PWindow_init (spWindow_init K a ce) := by
  refine LO.fnS_ofX scWindow_init U lf (fun vs H Q E h => ?_) (fun A outer s H vs Q E hr h => ?_)
  · obtain ⟨x, dx, F, n, v, Hb, rfl, hx, hb, xg, sb, ov, ke, k⟩ := h
    rfl
  · obtain ⟨x, dx, F, n, v, Hb, rfl, hx, hb, xg, sb, ov, ke, k⟩ := h
    have hris_number : Room 2 _ := hr.mono (by decide)
    obtain ⟨tc_MOST_SIZE, hc_MOST_SIZE⟩ := T.c_MOST_SIZE
    have hrS : Room 1 _ := hr.mono (by decide)
    have hrE : Room 2 _ := hr.mono (by decide)
    refine ⟨_, (LS.pssa_cons (LS.psa (ps_if (pt_not (pt_val (pe_call Gis_number hris_number rfl Dis_number.g Dis_number.F.kp Dis_number.b .nil pass0 (pa_cons (pv 1) (pa_cons pe_int (pa_cons (pe_gint rfl hc_MOST_SIZE) pa_nil)))))) (pss_one (ps_raise rfl (takes_of rfl rfl rfl rfl) (pmk_oex RInvalidNumber.er.ox RInvalidNumber.er.iC RInvalidNumber.er.tI RInvalidNumber.G hrE RInvalidNumber.b .nil pass0 rfl RInvalidNumber.er.gC (pa_cons (pv 1) pa_nil)))) pss_nil))
        (LS.pssa_cons (LS.ps_sup U ⟨rfl, rfl, rfl, rfl⟩ T.n_super RI hrS (pa_cons (pe_joined (.cons pe_str (.cons (pe_fmt (pv 1)) .nil))) (pa_cons pe_int (pa_cons pe_int (pa_cons pe_int pa_nil)))) ⟨_, rfl, rfl⟩)
        (LS.pssa (pss_one (ps_fld (pv 0) (pv 1) rfl))))), ?_⟩
    refine ⟨_, rfl, F, n, v, _, _, rfl, ov.kp (KpF.same sb), ?_⟩
    cases en : isNum v 1 1000 with
    | false => exact ⟨_, rfl, iteT ⟨_, rfl, (by show 1 ≤ 1000; decide), LX.err_out (n := 1) (ws := [_]) rfl (ErrOut.same sb (ke en).nu)⟩⟩
    | true =>
      obtain ⟨w, rfl, w0, w1⟩ := num_int en
      have e1 : ("window " : Str).length = 7 := by decide +kernel
      have e0 : Str.empty.length = 0 := rfl
      have sz : sizeLine = 16777216 := rfl
      have il := iT_len (i := w) (by omega) (by omega)
      refine ⟨_, rfl, iteF ?_⟩
      refine ⟨x, dx, [], rfl, hx, fun q hq => ?_⟩
      have nx : x ≠ q := ne_of_none hx hq
      refine ⟨_, rfl, by rw [Str.length_append]; omega, _, rfl, .inr ⟨_, rfl, log_small (by omega) (by omega), _, rfl, by rw [Str.length_append, Str.length_append]; show _ + (iT w).length ≤ _; omega, ?_⟩⟩
      refine ⟨upd_same, x, _, dx, [], _, 1, 1, 0, rfl, by rw [upd_ne nx]; exact hx, KN.w, Nat.zero_le _, fun H1 h1 h2 => ?_⟩
      have l1 := four_len (.win w) []
      refine ⟨_, rfl, _, rfl, x, a.W, dx, _, rfl, h1, KN.w.cl, KN.nw, Nat.lt_of_le_of_lt l1 (by decide), ?_⟩
      exact k w _ rfl w0 w1 (same_upd hb (same_mk hb sb hq h2)) ⟨xg, dx, upd_same⟩
theorem KB_Window {K : PySem.W.Frag} {cc c : Addr} {doc pm ct : Value} : KBn K ((FWindow_init cc c).fd doc pm ct) PWindow_init 1 ["width"] kg1 kg1 := by
  refine ⟨fun s us ws _ hu hl => ?_, fun {vs us zs ws} r1 r2 => ?_⟩
  · match us, ws, hu, hl with
    | [a], [b], _, _ => exact .of_eq rfl
  · cases r1 with
    | nil => exact .nil
    | cons q1 r1 =>
      cases r1 with
      | cons _ _ => exact .nil
      | nil =>
        match zs, ws, r2 with
        | _, _, .cons r0 .nil => exact .cons q1 (.cons r0 .nil)
        | _, _, .nil => exact .nil
        | _, _, .cons _ (.cons _ _) => exact .nil
end k04
namespace k04
open PySem L2 LC RM
def spDays_init (K : PySem.W.Frag) (a : Ad) (ce : Ce) : Sp := fun vs H Q E => ∃ (x dx : Addr) (F G : Addr → Prop) (n : Nat) (b e : V) (o : Option (List V)) (Hb : Hp), vs = [.ref x, b, e] ∧ H x = some (.ins a.D dx []) ∧ Hb x = none ∧ ¬ F x ∧ Same Hb H ∧ (∀ c, F c → ∃ o, Hb c = some o) ∧ BorV G Hb b o ∧ Ov G Hb n e ∧
  (∀ er, daysDue o e = some er → Out ce Hb E er) ∧ ∀ (bs : List Int) (e' : Int) H', o = some (bs.map V.int) → e = .int e' → Good (.days bs e') → Same Hb H' → RestX a F H' (.days bs e') x → Q .non H'
theorem ok_Days_init {P : Program} {w : World} {K : PySem.W.Frag} {mg : Str → Option Value} {base : Heap} {f cc c : Addr} (T : Txt K mg) {a : Ad} (KN : Kn K mg a) {ce : Ce} {fdInvalidNumber : FuncData} {fInvalidNumber : Addr} (RInvalidNumber : RE P w K mg base "InvalidNumber" "value" (ivF "InvalidNumber") ce.nu fInvalidNumber fdInvalidNumber) {fdInvalidBorders : FuncData} {fInvalidBorders : Addr} (RInvalidBorders : RE P w K mg base "InvalidBorders" "at" (atF "InvalidBorders") ce.bo fInvalidBorders fdInvalidBorders) {fdInvalidRest : FuncData} {fInvalidRest : Addr} (RInvalidRest : RE P w K mg base "InvalidRest" "value" (ivF "InvalidRest") ce.re fInvalidRest fdInvalidRest) {fdTooMany : FuncData} {fTooMany : Addr} (RTooMany : RTM P w K mg base ce.tm fTooMany fdTooMany) (RI : FnR P w K mg base CX0 1 a.fRi (spRest_init K a)) {fis_number : Addr} {fdis_number : FuncData} (Dis_number : Def K mg "is_number" sis_number Pis_number fis_number fdis_number) (Gis_number : FnOk P w K mg base CX0 2 fis_number fdis_number Pis_number (spis_number)) {fcheck_borders : Addr} {fdcheck_borders : FuncData} (Dcheck_borders : Def K mg "check_borders" scheck_borders Pcheck_borders fcheck_borders fdcheck_borders) (Gcheck_borders : FnOk P w K mg base (L2.CX P w) 4 fcheck_borders fdcheck_borders Pcheck_borders (spcheck_borders ce)) {doc pm ct oc : Value} {od : Option Addr} {osl : Array (Option Value)} (U : LS.SupF P K (FDays_init cc c) f a.D a.fRi "__init__") (lf : K.lookup f = some ⟨oc, od, .func ((FDays_init cc c).fd doc pm ct), osl⟩) :
    FnOk P w K mg base (L2.CX P w) 5 f ((FDays_init cc c).fd doc pm ct) PDays_init (spDays_init K a ce) := by
  refine LO.fnS_ofX scDays_init U lf (fun vs H Q E h => ?_) (fun A outer s H vs Q E hr h => ?_)
  · obtain ⟨x, dx, F, G, n, b, e, o, Hb, rfl, hx, hb, xg, sb, hg, bv, oe, ke, k⟩ := h
    rfl
  · obtain ⟨x, dx, F, G, n, b, e, o, Hb, rfl, hx, hb, xg, sb, hg, bv, oe, ke, k⟩ := h
    have hris_number : Room 2 _ := hr.mono (by decide)
    have hrcheck_borders : Room 4 _ := hr.mono (by decide)
    obtain ⟨tc_MOST_PERIOD, hc_MOST_PERIOD⟩ := T.c_MOST_PERIOD
    have hrS : Room 1 _ := hr.mono (by decide)
    have hrE : Room 2 _ := hr.mono (by decide)
    refine ⟨_, (LS.pssa_cons (LS.psa (ps_expr (pe_call Gcheck_borders hrcheck_borders rfl Dcheck_borders.g Dcheck_borders.F.kp Dcheck_borders.b .nil (passes_call (takes_of rfl rfl rfl rfl) fun _ _ _ _ h => h) (pa_cons (pv 1) pa_nil))))
        (LS.pssa_cons (LS.psa (ps_if (pt_not (pt_val (pe_call Gis_number hris_number rfl Dis_number.g Dis_number.F.kp Dis_number.b .nil pass0 (pa_cons (pv 2) (pa_cons pe_int (pa_cons (pe_gint rfl hc_MOST_PERIOD) pa_nil)))))) (pss_one (ps_raise rfl (takes_of rfl rfl rfl rfl) (pmk_oex RInvalidNumber.er.ox RInvalidNumber.er.iC RInvalidNumber.er.tI RInvalidNumber.G hrE RInvalidNumber.b .nil pass0 rfl RInvalidNumber.er.gC (pa_cons (pv 2) pa_nil)))) pss_nil))
        (LS.pssa_cons (LS.psa (ps_fld (pv 0) (pe_callTy call_list_of (by rfl) T.n_list (by decide +kernel) (pa_cons (pv 1) pa_nil)) rfl))
        (LS.pssa_cons (LS.psa (ps_fld (pv 0) (pv 2) rfl))
        (LS.pssa_cons (LS.psa (ps_set (i := 4) scDays_init.nd rfl (Or.inl rfl) (pe_op op_cat (pe_op op_cat (pe_lst (pa_cons pe_str pa_nil)) (pe_lc (own := [("border", 5)]) (g := gName 5) (tt := tYes) rfl scDays_init.nd (LO.pi_or (pi_list (pv 1)) (pi_tup (pv 1))) (blkOk_by (own := [("border", 5)]) (N := NmDays_init) (sc := defScope sDays_init) (by decide +kernel)) (fun _ _ _ _ _ => pg_name (i := 5) scDays_init.nd rfl (Or.inl rfl)) (fun _ _ _ _ _ => pts_nil) (fun _ _ _ _ _ => (pe_callTy call_str_int (by rfl) T.n_str (by decide +kernel) (pa_cons (pv 5) pa_nil))))) (pe_lst (pa_cons pe_str (pa_cons (pe_callTy call_str_int (by rfl) T.n_str (by decide +kernel) (pa_cons (pv 2) pa_nil)) pa_nil))))))
        (LS.pssa_cons (LS.ps_sup U ⟨rfl, rfl, rfl, rfl⟩ T.n_super RI hrS (pa_cons (pe_join pe_str (pv 4)) (pa_cons pe_int (pa_cons (pv 2) (pa_cons (pe_callB (cr_max rfl) (by rfl) T.n_max (by decide +kernel) (pa_cons (pe_op op_cat (pe_lst (pa_cons pe_int pa_nil)) (pe_fld (pv 0) rfl)) pa_nil)) pa_nil)))) ⟨_, rfl, rfl⟩)
        (LS.pssa pss_nil))))))), ?_⟩
    refine ⟨_, rfl, G, b, o, rfl, bv.same sb, fun q => Out.same sb (ke _ (by rw [q]; rfl)), fun xs q l => Out.same sb (ke _ (by rw [q]; show (if 12 < xs.length then some (("TooMany" : Str), [V.str "borders", V.int xs.length]) else _) = _; rw [if_pos l])), fun xs i q l hb' => Out.same sb (ke _ (by rw [q]; show (if 12 < xs.length then _ else (match bad 1 0 xs with | some i => some (("InvalidBorders" : Str), [V.int i]) | none => _)) = _; rw [if_neg (by omega), hb'])), fun xs H1 q hl hbad s1 => ?_⟩
    subst q
    obtain ⟨bs, rfl, hA⟩ := bad_none hbad
    obtain ⟨bb, p, rfl, hp, np, _, _⟩ := bv
    rw [List.length_map] at hl
    have sH1 : Same Hb H1 := sb.trans s1
    refine ⟨_, rfl, G, n, e, _, _, rfl, oe.same sH1, ?_⟩
    cases en : isNum e 1 2000 with
    | false =>
      exact ⟨_, rfl, iteT ⟨_, rfl, (by show 1 ≤ 1000; decide), LX.err_out (n := 1) (ws := [_]) rfl (ErrOut.same sH1 (Out.nu (ke _ (by show (if 12 < (bs.map V.int).length then _ else (match bad 1 0 (bs.map V.int) with | some i => _ | none => if isNum e 1 2000 = true then none else some (("InvalidNumber" : Str), [e]))) = _; rw [if_neg (by rw [List.length_map]; omega), hbad, en, if_neg Bool.false_ne_true]))))⟩⟩
    | true =>
      obtain ⟨e, rfl, e0, e1⟩ := num_int en
      have gd : Good (.days bs e) := Good.days hl hA e0 e1
      have hx1 := s1 _ _ hx
      have b1 := sH1 _ _ hp
      refine ⟨_, rfl, iteF ?_⟩
      refine ⟨_, rfl, p, _, rfl, sq_or b1, fun l hl1 => ?_⟩
      have xl : x ≠ l := ne_of_none hx1 hl1
      refine ⟨_, rfl, x, a.D, dx, [], rfl, by rw [upd_ne xl]; exact hx1, KN.d.cl, KN.nb, (by show 0 < 1000; decide), ?_⟩
      refine ⟨_, rfl, _, rfl, x, a.D, dx, _, rfl, upd_same, KN.d.cl, KN.ne, (by show 1 < 1000; decide), ?_⟩
      have s3 : Same Hb (upd (upd (upd H1 l (.lst (bs.map V.int))) x (.ins a.D dx (putF "_borders" (.ref l) []))) x (.ins a.D dx (putF "every" (.int e) (putF "_borders" (.ref l) [])))) := same_upd hb (same_upd hb (sH1.trans (same_new hl1)))
      have hl3 : (upd (upd (upd H1 l (.lst (bs.map V.int))) x (.ins a.D dx (putF "_borders" (.ref l) []))) x (.ins a.D dx (putF "every" (.int e) (putF "_borders" (.ref l) [])))) l = some (.lst (bs.map V.int)) := by rw [upd_ne (Ne.symm xl), upd_ne (Ne.symm xl), upd_same]
      have hx3 : (upd (upd (upd H1 l (.lst (bs.map V.int))) x (.ins a.D dx (putF "_borders" (.ref l) []))) x (.ins a.D dx (putF "every" (.int e) (putF "_borders" (.ref l) [])))) x = some (.ins a.D dx (putF "every" (.int e) (putF "_borders" (.ref l) []))) := upd_same
      have lg : ¬ F l := fun z => by
        obtain ⟨og, q⟩ := hg l z
        rw [sH1 _ _ q] at hl1
        cases hl1
      generalize upd (upd (upd H1 l (.lst (bs.map V.int))) x (.ins a.D dx (putF "_borders" (.ref l) []))) x (.ins a.D dx (putF "every" (.int e) (putF "_borders" (.ref l) []))) = H3 at s3 hl3 hx3 ⊢
      have b3 := s3 _ _ hp
      -- words
      refine ⟨(by show 1 ≤ sizeLine; decide), fun p1 hp1 => ?_⟩
      have t1 := same_new (o := .lst [.str "days"]) hp1
      have p1e : upd H3 p1 (.lst [.str "days"]) p1 = some (.lst [.str "days"]) := upd_same
      generalize upd H3 p1 (.lst [.str "days"]) = H4 at t1 p1e ⊢
      have b4 := t1 _ _ b3
      have yb := wordsT_len hA e0 e1
      have yl : (wordsT bs e).length = bs.length + 3 := by
        unfold wordsT
        rw [List.length_cons, List.length_append, List.length_map]
        rfl
      have ey : ([V.str "days"] ++ bs.map fun c => V.str (iT c)) ++ [V.str "then", V.str (iT e)] = (wordsT bs e).map V.str := by
        unfold wordsT
        rw [List.map_cons, List.map_append, List.map_map]
        rfl
      rcases seq_of b4 with b4 | b4
      · refine .inl ⟨_, rfl, p, rfl, ⟨_, SqL.of b4⟩, fun D hD => lc_it (walk_list (K := K) (a := p) (xs := bs.map V.int)) (fun i H' => Same H4 H' ∧ H' D = some (.lst ((bs.take i).map fun c => V.str (iT c))))
          ⟨same_new hD, upd_same⟩ (fun i H' _ ⟨s, _⟩ => s.seq (SqL.of b4)) ?_ ?_⟩
        · rintro i y H5 H5' hi ⟨s5, d5⟩ ⟨rfl, hy⟩
          rw [List.length_map] at hi
          rw [List.getElem?_map, List.getElem?_eq_getElem hi] at hy
          cases hy
          have bd := hA.all _ (List.getElem_mem hi)
          refine ⟨rfl, _, rfl, _, rfl, log_small (by omega) (by omega), _, d5, ?_, ?_, ?_⟩
          · rw [List.length_map, List.length_take]
            exact Nat.lt_of_le_of_lt (Nat.min_le_left _ _) (Nat.lt_of_lt_of_le hi (Nat.le_trans hl (by decide)))
          · intro c u ec
            rw [upd_ne (ne_of_none ec hD)]
            exact s5 c u ec
          · rw [upd_same, List.take_add_one, List.getElem?_eq_getElem hi, List.map_append]
            rfl
        · rintro H5 ⟨s5, d5⟩
          rw [List.length_map, List.take_length] at d5
          have p15 := s5 _ _ p1e
          refine ⟨p1, D, _, _, rfl, rfl, p15, d5, ?_, fun p2 hp2 => ?_⟩
          · rw [List.length_map]
            show 1 + bs.length ≤ 16777216
            omega
          have t2 := same_new (o := .lst ([.str "days"] ++ bs.map fun c => V.str (iT c))) hp2
          have p2e : upd H5 p2 (.lst ([.str "days"] ++ bs.map fun c => V.str (iT c))) p2 = some (.lst ([.str "days"] ++ bs.map fun c => V.str (iT c))) := upd_same
          generalize upd H5 p2 (.lst ([.str "days"] ++ bs.map fun c => V.str (iT c))) = H6 at t2 p2e ⊢
          refine ⟨_, rfl, _, rfl, log_small (by omega) (by omega), (by show 2 ≤ sizeLine; decide), fun p3 hp3 => ?_⟩
          have t3 := same_new (o := .lst [.str "then", .str (Str.ofString (toString e))]) hp3
          have p3e : upd H6 p3 (.lst [.str "then", .str (Str.ofString (toString e))]) p3 = some (.lst [.str "then", .str (iT e)]) := upd_same
          generalize upd H6 p3 (.lst [.str "then", .str (Str.ofString (toString e))]) = H7 at t3 p3e ⊢
          refine ⟨p2, p3, _, _, rfl, rfl, t3 _ _ p2e, p3e, ?_, fun p4 hp4 => ?_⟩
          · rw [List.length_append, List.length_map]
            show 1 + bs.length + 2 ≤ 16777216
            omega
          rw [ey]
          have t4 := same_new (o := .lst ((wordsT bs e).map V.str)) hp4
          have p4e : upd H7 p4 (.lst ((wordsT bs e).map V.str)) p4 = some (.lst ((wordsT bs e).map V.str)) := upd_same
          generalize upd H7 p4 (.lst ((wordsT bs e).map V.str)) = H8 at t4 p4e ⊢
          have t38 : Same H3 H8 := t1.trans (s5.trans (t2.trans (t3.trans t4)))
          have el1 : (" " : Str).length = 1 := by decide +kernel
          refine ⟨x, dx, _, rfl, t38 _ _ hx3, fun q hq => ?_⟩
          have tq := same_new (o := .met a.fRi x) hq
          have nq : upd H8 q (.met a.fRi x) q = some (.met a.fRi x) := upd_same
          refine ⟨⟨_, rfl⟩, _, rfl, _, p4, wordsT bs e, rfl, rfl, .inl (SqL.of (tq _ _ p4e)), ?_, ?_⟩
          · have := sum_le yb
            rw [el1]
            omega
          refine ⟨_, rfl, (by show 1 ≤ sizeLine; decide), fun p5 hp5 => ?_⟩
          have t5 := same_new (o := .lst [V.int 0]) hp5
          have p5e : upd (upd H8 q (.met a.fRi x)) p5 (.lst [V.int 0]) p5 = some (.lst [V.int 0]) := upd_same
          have tA := tq.trans t5
          have nq5 := t5 _ _ nq
          generalize upd (upd H8 q (.met a.fRi x)) p5 (.lst [V.int 0]) = H10 at tA p5e nq5 ⊢
          have hx10 := tA _ _ (t38 _ _ hx3)
          have hl10 := tA _ _ (t38 _ _ hl3)
          have lkb : (putF "every" (.int e) (putF "_borders" (.ref l) [])).lookup ("_borders" : Str) = some (.ref l) := by rw [lk_ne (by decide +kernel)]; exact lk_eq
          refine ⟨_, rfl, x, a.D, dx, _, _, rfl, hx10, KN.d.cl, KN.nb, lkb, p5, l, _, _, rfl, rfl, p5e, hl10, ?_, fun p6 hp6 => ?_⟩
          · rw [List.length_map]
            show 1 + bs.length ≤ 16777216
            omega
          have t6 := same_new (o := .lst ([V.int 0] ++ bs.map V.int)) hp6
          have p6e : upd H10 p6 (.lst ([V.int 0] ++ bs.map V.int)) p6 = some (.lst ((0 :: bs).map V.int)) := upd_same
          generalize upd H10 p6 (.lst ([V.int 0] ++ bs.map V.int)) = H11 at t6 p6e ⊢
          refine ⟨p6, 0 :: bs, rfl, SqL.of p6e, Nat.succ_pos _, fun m hm hu => ?_⟩
          have em : m = lastOf bs := hA.max hm hu
          refine ⟨t6 _ _ nq5, x, a.D, dx, _, _, 1, e, m, rfl, t6 _ _ hx10, KN.d, (by show 2 ≤ 10; decide), fun H12 h12 h12' => ?_⟩
          have sF : Same Hb H11 := s3.trans (t38.trans (tA.trans t6))
          have sG : Same Hb H12 := fun c u ec => by
            rw [h12' c (ne_of_none ec hb)]
            exact sF c u ec
          have hl12 : H12 l = some (.lst (bs.map V.int)) := by
            rw [h12' l (Ne.symm xl)]
            exact t6 _ _ hl10
          refine k bs e H12 rfl rfl gd sG ⟨xg, dx, l, ?_, lg, hl12⟩
          rw [h12, em, TL.join_eq]
          rfl
      · refine .inr ⟨_, rfl, p, rfl, ⟨_, SqT.of b4⟩, fun D hD => lc_it (walk_tup (K := K) (a := p) (xs := bs.map V.int)) (fun i H' => Same H4 H' ∧ H' D = some (.lst ((bs.take i).map fun c => V.str (iT c))))
          ⟨same_new hD, upd_same⟩ (fun i H' _ ⟨s, _⟩ => sameT s (SqT.of b4)) ?_ ?_⟩
        · rintro i y H5 H5' hi ⟨s5, d5⟩ ⟨rfl, hy⟩
          rw [List.length_map] at hi
          rw [List.getElem?_map, List.getElem?_eq_getElem hi] at hy
          cases hy
          have bd := hA.all _ (List.getElem_mem hi)
          refine ⟨rfl, _, rfl, _, rfl, log_small (by omega) (by omega), _, d5, ?_, ?_, ?_⟩
          · rw [List.length_map, List.length_take]
            exact Nat.lt_of_le_of_lt (Nat.min_le_left _ _) (Nat.lt_of_lt_of_le hi (Nat.le_trans hl (by decide)))
          · intro c u ec
            rw [upd_ne (ne_of_none ec hD)]
            exact s5 c u ec
          · rw [upd_same, List.take_add_one, List.getElem?_eq_getElem hi, List.map_append]
            rfl
        · rintro H5 ⟨s5, d5⟩
          rw [List.length_map, List.take_length] at d5
          have p15 := s5 _ _ p1e
          refine ⟨p1, D, _, _, rfl, rfl, p15, d5, ?_, fun p2 hp2 => ?_⟩
          · rw [List.length_map]
            show 1 + bs.length ≤ 16777216
            omega
          have t2 := same_new (o := .lst ([.str "days"] ++ bs.map fun c => V.str (iT c))) hp2
          have p2e : upd H5 p2 (.lst ([.str "days"] ++ bs.map fun c => V.str (iT c))) p2 = some (.lst ([.str "days"] ++ bs.map fun c => V.str (iT c))) := upd_same
          generalize upd H5 p2 (.lst ([.str "days"] ++ bs.map fun c => V.str (iT c))) = H6 at t2 p2e ⊢
          refine ⟨_, rfl, _, rfl, log_small (by omega) (by omega), (by show 2 ≤ sizeLine; decide), fun p3 hp3 => ?_⟩
          have t3 := same_new (o := .lst [.str "then", .str (Str.ofString (toString e))]) hp3
          have p3e : upd H6 p3 (.lst [.str "then", .str (Str.ofString (toString e))]) p3 = some (.lst [.str "then", .str (iT e)]) := upd_same
          generalize upd H6 p3 (.lst [.str "then", .str (Str.ofString (toString e))]) = H7 at t3 p3e ⊢
          refine ⟨p2, p3, _, _, rfl, rfl, t3 _ _ p2e, p3e, ?_, fun p4 hp4 => ?_⟩
          · rw [List.length_append, List.length_map]
            show 1 + bs.length + 2 ≤ 16777216
            omega
          rw [ey]
          have t4 := same_new (o := .lst ((wordsT bs e).map V.str)) hp4
          have p4e : upd H7 p4 (.lst ((wordsT bs e).map V.str)) p4 = some (.lst ((wordsT bs e).map V.str)) := upd_same
          generalize upd H7 p4 (.lst ((wordsT bs e).map V.str)) = H8 at t4 p4e ⊢
          have t38 : Same H3 H8 := t1.trans (s5.trans (t2.trans (t3.trans t4)))
          have el1 : (" " : Str).length = 1 := by decide +kernel
          refine ⟨x, dx, _, rfl, t38 _ _ hx3, fun q hq => ?_⟩
          have tq := same_new (o := .met a.fRi x) hq
          have nq : upd H8 q (.met a.fRi x) q = some (.met a.fRi x) := upd_same
          refine ⟨⟨_, rfl⟩, _, rfl, _, p4, wordsT bs e, rfl, rfl, .inl (SqL.of (tq _ _ p4e)), ?_, ?_⟩
          · have := sum_le yb
            rw [el1]
            omega
          refine ⟨_, rfl, (by show 1 ≤ sizeLine; decide), fun p5 hp5 => ?_⟩
          have t5 := same_new (o := .lst [V.int 0]) hp5
          have p5e : upd (upd H8 q (.met a.fRi x)) p5 (.lst [V.int 0]) p5 = some (.lst [V.int 0]) := upd_same
          have tA := tq.trans t5
          have nq5 := t5 _ _ nq
          generalize upd (upd H8 q (.met a.fRi x)) p5 (.lst [V.int 0]) = H10 at tA p5e nq5 ⊢
          have hx10 := tA _ _ (t38 _ _ hx3)
          have hl10 := tA _ _ (t38 _ _ hl3)
          have lkb : (putF "every" (.int e) (putF "_borders" (.ref l) [])).lookup ("_borders" : Str) = some (.ref l) := by rw [lk_ne (by decide +kernel)]; exact lk_eq
          refine ⟨_, rfl, x, a.D, dx, _, _, rfl, hx10, KN.d.cl, KN.nb, lkb, p5, l, _, _, rfl, rfl, p5e, hl10, ?_, fun p6 hp6 => ?_⟩
          · rw [List.length_map]
            show 1 + bs.length ≤ 16777216
            omega
          have t6 := same_new (o := .lst ([V.int 0] ++ bs.map V.int)) hp6
          have p6e : upd H10 p6 (.lst ([V.int 0] ++ bs.map V.int)) p6 = some (.lst ((0 :: bs).map V.int)) := upd_same
          generalize upd H10 p6 (.lst ([V.int 0] ++ bs.map V.int)) = H11 at t6 p6e ⊢
          refine ⟨p6, 0 :: bs, rfl, SqL.of p6e, Nat.succ_pos _, fun m hm hu => ?_⟩
          have em : m = lastOf bs := hA.max hm hu
          refine ⟨t6 _ _ nq5, x, a.D, dx, _, _, 1, e, m, rfl, t6 _ _ hx10, KN.d, (by show 2 ≤ 10; decide), fun H12 h12 h12' => ?_⟩
          have sF : Same Hb H11 := s3.trans (t38.trans (tA.trans t6))
          have sG : Same Hb H12 := fun c u ec => by
            rw [h12' c (ne_of_none ec hb)]
            exact sF c u ec
          have hl12 : H12 l = some (.lst (bs.map V.int)) := by
            rw [h12' l (Ne.symm xl)]
            exact t6 _ _ hl10
          refine k bs e H12 rfl rfl gd sG ⟨xg, dx, l, ?_, lg, hl12⟩
          rw [h12, em, TL.join_eq]
          rfl
theorem KB_Days {K : PySem.W.Frag} {cc c : Addr} {doc pm ct : Value} : KBn K ((FDays_init cc c).fd doc pm ct) PDays_init 1 ["every", "borders"] kg2 kg2 := by
  refine ⟨fun s us ws _ hu hl => ?_, fun {vs us zs ws} r1 r2 => ?_⟩
  · match us, ws, hu, hl with
    | [a], [b, c], _, _ => exact .of_eq rfl
  · cases r1 with
    | nil => exact .nil
    | cons q1 r1 =>
      cases r1 with
      | cons _ _ => exact .nil
      | nil =>
        match zs, ws, r2 with
        | _, _, .cons r0 (.cons r1 .nil) => exact .cons q1 (.cons r1 (.cons r0 .nil))
        | _, _, .nil => exact .nil
        | _, _, .cons _ .nil => exact .nil
        | _, _, .cons _ (.cons _ (.cons _ _)) => exact .nil
end k04
namespace k04
open PySem L2 LC RM
def spDays_borders (K : PySem.W.Frag) (a : Ad) : Sp := fun vs H Q _ => ∃ (x : Addr) (g : Addr → Prop) (bs : List Int) (e : Int), vs = [.ref x] ∧ RestX a g H (.days bs e) x ∧ ∀ p H', Same H H' → H p = none → H' = upd H p (.lst (bs.map V.int)) → Q (.ref p) H'
theorem ok_Days_borders {P : Program} {w : World} {K : PySem.W.Frag} {mg : Str → Option Value} {base : Heap} {f : Addr} {fd : FuncData} (F0 : Fun K "borders" "Days.borders" sDays_borders f fd) (T : Txt K mg) {a : Ad} (KN : Kn K mg a) :
    FnOk P w K mg base CX0 1 f fd PDays_borders (spDays_borders K a) := by
  refine F0.ok scDays_borders (fun vs H Q E h => ?_) (fun cdv A outer s H vs Q E hr h => ?_)
  · obtain ⟨x, g, bs, e, rfl, R, k⟩ := h
    rfl
  · obtain ⟨x, g, bs, e, rfl, R, k⟩ := h
    refine ⟨_, (pss_one (ps_ret (pe_callTy call_list_of (by rfl) T.n_list (by decide +kernel) (pa_cons (pe_fld (pv 0) rfl) pa_nil)))), ?_⟩
    obtain ⟨n, dx, b, hx, nb, hb⟩ := R
    exact ⟨_, rfl, x, a.D, dx, _, _, rfl, hx, KN.d.cl, KN.nb, lk_borders, b, _, rfl, .inl (SqL.of hb), fun l hl => k l _ (same_new hl) hl rfl⟩
end k04
namespace k04
open PySem L2 LC RM
def spPair_init (C : Addr) (J : Pl → Pl → Pl) (w : Str) (a : Ad) (ce : Ce) : Sp := fun vs H Q E => ∃ (x dx : Addr) (F : Addr → Prop) (u v : V) (o1 o2 : Option Pl) (Hb : Hp), vs = [.ref x, u, v] ∧ H x = some (.ins C dx []) ∧ Hb x = none ∧ ¬ F x ∧ Same Hb H ∧ RestV a F Hb u o1 ∧ RestV a F Hb v o2 ∧
  (∀ er, pairDue o1 o2 u v = some er → Out ce Hb E er) ∧ ∀ (p q : Pl) H', o1 = some p → o2 = some q → p.leaves + q.leaves ≤ 3 → lcmI p.per q.per ≤ 2000 → Same Hb H' → RestX a F H' (J p q) x → Q .non H'
def spLater_init (K : PySem.W.Frag) (a : Ad) (ce : Ce) : Sp := spPair_init a.L Pl.lat "later" a ce
theorem ok_Later_init {P : Program} {w : World} {K : PySem.W.Frag} {mg : Str → Option Value} {base : Heap} {f cc c : Addr} (T : Txt K mg) {a : Ad} (KN : Kn K mg a) {ce : Ce} {fdInvalidNumber : FuncData} {fInvalidNumber : Addr} (RInvalidNumber : RE P w K mg base "InvalidNumber" "value" (ivF "InvalidNumber") ce.nu fInvalidNumber fdInvalidNumber) {fdInvalidBorders : FuncData} {fInvalidBorders : Addr} (RInvalidBorders : RE P w K mg base "InvalidBorders" "at" (atF "InvalidBorders") ce.bo fInvalidBorders fdInvalidBorders) {fdInvalidRest : FuncData} {fInvalidRest : Addr} (RInvalidRest : RE P w K mg base "InvalidRest" "value" (ivF "InvalidRest") ce.re fInvalidRest fdInvalidRest) {fdTooMany : FuncData} {fTooMany : Addr} (RTooMany : RTM P w K mg base ce.tm fTooMany fdTooMany) (RI : FnR P w K mg base CX0 1 a.fRi (spRest_init K a)) {fpair_facts : Addr} {fdpair_facts : FuncData} (Dpair_facts : Def K mg "pair_facts" spair_facts Ppair_facts fpair_facts fdpair_facts) (Gpair_facts : FnOk P w K mg base (L2.CX P w) 5 fpair_facts fdpair_facts Ppair_facts (sppair_facts K a ce)) {doc pm ct oc : Value} {od : Option Addr} {osl : Array (Option Value)} (U : LS.SupF P K (FLater_init cc c) f a.L a.fRi "__init__") (lf : K.lookup f = some ⟨oc, od, .func ((FLater_init cc c).fd doc pm ct), osl⟩) :
    FnOk P w K mg base (L2.CX P w) 6 f ((FLater_init cc c).fd doc pm ct) PLater_init (spLater_init K a ce) := by
  refine LO.fnS_ofX scLater_init U lf (fun vs H Q E h => ?_) (fun A outer s H vs Q E hr h => ?_)
  · obtain ⟨x, dx, F, u, v, o1, o2, Hb, rfl, hx, hb, xg, sb, R1, R2, ke, k⟩ := h
    rfl
  · obtain ⟨x, dx, F, u, v, o1, o2, Hb, rfl, hx, hb, xg, sb, R1, R2, ke, k⟩ := h
    have hrpair_facts : Room 5 _ := hr.mono (by decide)
    have hrS : Room 1 _ := hr.mono (by decide)
    refine ⟨_, (LS.pssa_cons (LS.psa (ps_set (i := 4) scLater_init.nd rfl (Or.inl rfl) (pe_call Gpair_facts hrpair_facts rfl Dpair_facts.g Dpair_facts.F.kp Dpair_facts.b .nil (passes_call (takes_of rfl rfl rfl rfl) fun _ _ _ _ h => h) (pa_cons pe_str (pa_cons (pv 1) (pa_cons (pv 2) pa_nil))))))
        (LS.pssa_cons (LS.ps_supS U ⟨rfl, rfl, rfl, rfl⟩ T.n_super RI hrS (pv 4) ⟨_, rfl, rfl⟩)
        (LS.pssa (pss_cons (ps_fld (pv 0) (pv 1) rfl)
        (pss_one (ps_fld (pv 0) (pv 2) rfl)))))), ?_⟩
    refine ⟨_, rfl, _, rfl, _, u, v, o1, o2, F, rfl, by decide +kernel, R1.same sb, R2.same sb, fun er h => Out.same sb (ke er h), fun p q T0 H1 q1 q2 hl hc s1 hT0 hT1 => ?_⟩
    subst q1
    subst q2
    obtain ⟨y, rfl, R1, g1⟩ := R1
    obtain ⟨z, rfl, R2, g2⟩ := R2
    have hx1 := s1 _ _ hx
    refine ⟨x, dx, _, rfl, hx1, fun u hu => ?_⟩
    have tu := same_new (o := .met a.fRi x) hu
    refine ⟨_, rfl, T0, _, rfl, .inl (SqT.of (tu _ _ hT1)), upd_same, x, _, dx, [], _, _, _, _, rfl, tu _ _ hx1, KN.l, Nat.zero_le _, fun H2 h3 h4 => ?_⟩
    have sA := sb.trans (s1.trans tu)
    have sB : Same Hb H2 := fun c v ec => by
      rw [h4 c (ne_of_none ec hb)]
      exact sA c v ec
    have l4 := four_len (.lat p q) []
    refine ⟨_, rfl, _, rfl, x, _, dx, four (.lat p q) [], rfl, h3, KN.l.cl, KN.l1, Nat.lt_of_le_of_lt l4 (by decide), ?_⟩
    have l5 := length_putF "first" (.ref y) (four (.lat p q) [])
    refine ⟨_, rfl, _, rfl, x, _, dx, _, rfl, upd_same, KN.l.cl, KN.l2, Nat.lt_of_le_of_lt l5 (Nat.lt_of_le_of_lt (Nat.succ_le_succ l4) (by decide)), ?_⟩
    have sC := same_upd (o := .ins a.L dx (putF "second" (.ref z) (putF "first" (.ref y) (four (.lat p q) [])))) hb (same_upd (o := .ins a.L dx (putF "first" (.ref y) (four (.lat p q) []))) hb sB)
    exact k p q _ rfl rfl hl hc sC ⟨xg, dx, y, z, upd_same, R1.same sC, R2.same sC⟩
theorem KB_Later {K : PySem.W.Frag} {cc c : Addr} {doc pm ct : Value} : KBn K ((FLater_init cc c).fd doc pm ct) PLater_init 1 ["second", "first"] kg2 kg2 := by
  refine ⟨fun s us ws _ hu hl => ?_, fun {vs us zs ws} r1 r2 => ?_⟩
  · match us, ws, hu, hl with
    | [a], [b, c], _, _ => exact .of_eq rfl
  · cases r1 with
    | nil => exact .nil
    | cons q1 r1 =>
      cases r1 with
      | cons _ _ => exact .nil
      | nil =>
        match zs, ws, r2 with
        | _, _, .cons r0 (.cons r1 .nil) => exact .cons q1 (.cons r1 (.cons r0 .nil))
        | _, _, .nil => exact .nil
        | _, _, .cons _ .nil => exact .nil
        | _, _, .cons _ (.cons _ (.cons _ _)) => exact .nil
end k04
namespace k04
open PySem L2 LC RM
def spSooner_init (K : PySem.W.Frag) (a : Ad) (ce : Ce) : Sp := spPair_init a.S Pl.soo "sooner" a ce
theorem ok_Sooner_init {P : Program} {w : World} {K : PySem.W.Frag} {mg : Str → Option Value} {base : Heap} {f cc c : Addr} (T : Txt K mg) {a : Ad} (KN : Kn K mg a) {ce : Ce} {fdInvalidNumber : FuncData} {fInvalidNumber : Addr} (RInvalidNumber : RE P w K mg base "InvalidNumber" "value" (ivF "InvalidNumber") ce.nu fInvalidNumber fdInvalidNumber) {fdInvalidBorders : FuncData} {fInvalidBorders : Addr} (RInvalidBorders : RE P w K mg base "InvalidBorders" "at" (atF "InvalidBorders") ce.bo fInvalidBorders fdInvalidBorders) {fdInvalidRest : FuncData} {fInvalidRest : Addr} (RInvalidRest : RE P w K mg base "InvalidRest" "value" (ivF "InvalidRest") ce.re fInvalidRest fdInvalidRest) {fdTooMany : FuncData} {fTooMany : Addr} (RTooMany : RTM P w K mg base ce.tm fTooMany fdTooMany) (RI : FnR P w K mg base CX0 1 a.fRi (spRest_init K a)) {fpair_facts : Addr} {fdpair_facts : FuncData} (Dpair_facts : Def K mg "pair_facts" spair_facts Ppair_facts fpair_facts fdpair_facts) (Gpair_facts : FnOk P w K mg base (L2.CX P w) 5 fpair_facts fdpair_facts Ppair_facts (sppair_facts K a ce)) {doc pm ct oc : Value} {od : Option Addr} {osl : Array (Option Value)} (U : LS.SupF P K (FSooner_init cc c) f a.S a.fRi "__init__") (lf : K.lookup f = some ⟨oc, od, .func ((FSooner_init cc c).fd doc pm ct), osl⟩) :
    FnOk P w K mg base (L2.CX P w) 6 f ((FSooner_init cc c).fd doc pm ct) PSooner_init (spSooner_init K a ce) := by
  refine LO.fnS_ofX scSooner_init U lf (fun vs H Q E h => ?_) (fun A outer s H vs Q E hr h => ?_)
  · obtain ⟨x, dx, F, u, v, o1, o2, Hb, rfl, hx, hb, xg, sb, R1, R2, ke, k⟩ := h
    rfl
  · obtain ⟨x, dx, F, u, v, o1, o2, Hb, rfl, hx, hb, xg, sb, R1, R2, ke, k⟩ := h
    have hrpair_facts : Room 5 _ := hr.mono (by decide)
    have hrS : Room 1 _ := hr.mono (by decide)
    refine ⟨_, (LS.pssa_cons (LS.psa (ps_set (i := 4) scSooner_init.nd rfl (Or.inl rfl) (pe_call Gpair_facts hrpair_facts rfl Dpair_facts.g Dpair_facts.F.kp Dpair_facts.b .nil (passes_call (takes_of rfl rfl rfl rfl) fun _ _ _ _ h => h) (pa_cons pe_str (pa_cons (pv 1) (pa_cons (pv 2) pa_nil))))))
        (LS.pssa_cons (LS.ps_supS U ⟨rfl, rfl, rfl, rfl⟩ T.n_super RI hrS (pv 4) ⟨_, rfl, rfl⟩)
        (LS.pssa (pss_cons (ps_fld (pv 0) (pv 1) rfl)
        (pss_one (ps_fld (pv 0) (pv 2) rfl)))))), ?_⟩
    refine ⟨_, rfl, _, rfl, _, u, v, o1, o2, F, rfl, by decide +kernel, R1.same sb, R2.same sb, fun er h => Out.same sb (ke er h), fun p q T0 H1 q1 q2 hl hc s1 hT0 hT1 => ?_⟩
    subst q1
    subst q2
    obtain ⟨y, rfl, R1, g1⟩ := R1
    obtain ⟨z, rfl, R2, g2⟩ := R2
    have hx1 := s1 _ _ hx
    refine ⟨x, dx, _, rfl, hx1, fun u hu => ?_⟩
    have tu := same_new (o := .met a.fRi x) hu
    refine ⟨_, rfl, T0, _, rfl, .inl (SqT.of (tu _ _ hT1)), upd_same, x, _, dx, [], _, _, _, _, rfl, tu _ _ hx1, KN.s, Nat.zero_le _, fun H2 h3 h4 => ?_⟩
    have sA := sb.trans (s1.trans tu)
    have sB : Same Hb H2 := fun c v ec => by
      rw [h4 c (ne_of_none ec hb)]
      exact sA c v ec
    have l4 := four_len (.soo p q) []
    refine ⟨_, rfl, _, rfl, x, _, dx, four (.soo p q) [], rfl, h3, KN.s.cl, KN.s1, Nat.lt_of_le_of_lt l4 (by decide), ?_⟩
    have l5 := length_putF "first" (.ref y) (four (.soo p q) [])
    refine ⟨_, rfl, _, rfl, x, _, dx, _, rfl, upd_same, KN.s.cl, KN.s2, Nat.lt_of_le_of_lt l5 (Nat.lt_of_le_of_lt (Nat.succ_le_succ l4) (by decide)), ?_⟩
    have sC := same_upd (o := .ins a.S dx (putF "second" (.ref z) (putF "first" (.ref y) (four (.soo p q) [])))) hb (same_upd (o := .ins a.S dx (putF "first" (.ref y) (four (.soo p q) []))) hb sB)
    exact k p q _ rfl rfl hl hc sC ⟨xg, dx, y, z, upd_same, R1.same sC, R2.same sC⟩
theorem KB_Sooner {K : PySem.W.Frag} {cc c : Addr} {doc pm ct : Value} : KBn K ((FSooner_init cc c).fd doc pm ct) PSooner_init 1 ["second", "first"] kg2 kg2 := by
  refine ⟨fun s us ws _ hu hl => ?_, fun {vs us zs ws} r1 r2 => ?_⟩
  · match us, ws, hu, hl with
    | [a], [b, c], _, _ => exact .of_eq rfl
  · cases r1 with
    | nil => exact .nil
    | cons q1 r1 =>
      cases r1 with
      | cons _ _ => exact .nil
      | nil =>
        match zs, ws, r2 with
        | _, _, .cons r0 (.cons r1 .nil) => exact .cons q1 (.cons r1 (.cons r0 .nil))
        | _, _, .nil => exact .nil
        | _, _, .cons _ .nil => exact .nil
        | _, _, .cons _ (.cons _ (.cons _ _)) => exact .nil
end k04
namespace k04
open PySem L2 LC RM
def spNext_init (K : PySem.W.Frag) (a : Ad) (ce : Ce) : Sp := spPair_init a.N Pl.nex "next" a ce
theorem ok_Next_init {P : Program} {w : World} {K : PySem.W.Frag} {mg : Str → Option Value} {base : Heap} {f cc c : Addr} (T : Txt K mg) {a : Ad} (KN : Kn K mg a) {ce : Ce} {fdInvalidNumber : FuncData} {fInvalidNumber : Addr} (RInvalidNumber : RE P w K mg base "InvalidNumber" "value" (ivF "InvalidNumber") ce.nu fInvalidNumber fdInvalidNumber) {fdInvalidBorders : FuncData} {fInvalidBorders : Addr} (RInvalidBorders : RE P w K mg base "InvalidBorders" "at" (atF "InvalidBorders") ce.bo fInvalidBorders fdInvalidBorders) {fdInvalidRest : FuncData} {fInvalidRest : Addr} (RInvalidRest : RE P w K mg base "InvalidRest" "value" (ivF "InvalidRest") ce.re fInvalidRest fdInvalidRest) {fdTooMany : FuncData} {fTooMany : Addr} (RTooMany : RTM P w K mg base ce.tm fTooMany fdTooMany) (RI : FnR P w K mg base CX0 1 a.fRi (spRest_init K a)) {fpair_facts : Addr} {fdpair_facts : FuncData} (Dpair_facts : Def K mg "pair_facts" spair_facts Ppair_facts fpair_facts fdpair_facts) (Gpair_facts : FnOk P w K mg base (L2.CX P w) 5 fpair_facts fdpair_facts Ppair_facts (sppair_facts K a ce)) {doc pm ct oc : Value} {od : Option Addr} {osl : Array (Option Value)} (U : LS.SupF P K (FNext_init cc c) f a.N a.fRi "__init__") (lf : K.lookup f = some ⟨oc, od, .func ((FNext_init cc c).fd doc pm ct), osl⟩) :
    FnOk P w K mg base (L2.CX P w) 6 f ((FNext_init cc c).fd doc pm ct) PNext_init (spNext_init K a ce) := by
  refine LO.fnS_ofX scNext_init U lf (fun vs H Q E h => ?_) (fun A outer s H vs Q E hr h => ?_)
  · obtain ⟨x, dx, F, u, v, o1, o2, Hb, rfl, hx, hb, xg, sb, R1, R2, ke, k⟩ := h
    rfl
  · obtain ⟨x, dx, F, u, v, o1, o2, Hb, rfl, hx, hb, xg, sb, R1, R2, ke, k⟩ := h
    have hrpair_facts : Room 5 _ := hr.mono (by decide)
    have hrS : Room 1 _ := hr.mono (by decide)
    refine ⟨_, (LS.pssa_cons (LS.psa (ps_set (i := 4) scNext_init.nd rfl (Or.inl rfl) (pe_call Gpair_facts hrpair_facts rfl Dpair_facts.g Dpair_facts.F.kp Dpair_facts.b .nil (passes_call (takes_of rfl rfl rfl rfl) fun _ _ _ _ h => h) (pa_cons pe_str (pa_cons (pv 1) (pa_cons (pv 2) pa_nil))))))
        (LS.pssa_cons (LS.ps_supS U ⟨rfl, rfl, rfl, rfl⟩ T.n_super RI hrS (pv 4) ⟨_, rfl, rfl⟩)
        (LS.pssa (pss_cons (ps_fld (pv 0) (pv 1) rfl)
        (pss_one (ps_fld (pv 0) (pv 2) rfl)))))), ?_⟩
    refine ⟨_, rfl, _, rfl, _, u, v, o1, o2, F, rfl, by decide +kernel, R1.same sb, R2.same sb, fun er h => Out.same sb (ke er h), fun p q T0 H1 q1 q2 hl hc s1 hT0 hT1 => ?_⟩
    subst q1
    subst q2
    obtain ⟨y, rfl, R1, g1⟩ := R1
    obtain ⟨z, rfl, R2, g2⟩ := R2
    have hx1 := s1 _ _ hx
    refine ⟨x, dx, _, rfl, hx1, fun u hu => ?_⟩
    have tu := same_new (o := .met a.fRi x) hu
    refine ⟨_, rfl, T0, _, rfl, .inl (SqT.of (tu _ _ hT1)), upd_same, x, _, dx, [], _, _, _, _, rfl, tu _ _ hx1, KN.n, Nat.zero_le _, fun H2 h3 h4 => ?_⟩
    have sA := sb.trans (s1.trans tu)
    have sB : Same Hb H2 := fun c v ec => by
      rw [h4 c (ne_of_none ec hb)]
      exact sA c v ec
    have l4 := four_len (.nex p q) []
    refine ⟨_, rfl, _, rfl, x, _, dx, four (.nex p q) [], rfl, h3, KN.n.cl, KN.n1, Nat.lt_of_le_of_lt l4 (by decide), ?_⟩
    have l5 := length_putF "first" (.ref y) (four (.nex p q) [])
    refine ⟨_, rfl, _, rfl, x, _, dx, _, rfl, upd_same, KN.n.cl, KN.n2, Nat.lt_of_le_of_lt l5 (Nat.lt_of_le_of_lt (Nat.succ_le_succ l4) (by decide)), ?_⟩
    have sC := same_upd (o := .ins a.N dx (putF "second" (.ref z) (putF "first" (.ref y) (four (.nex p q) [])))) hb (same_upd (o := .ins a.N dx (putF "first" (.ref y) (four (.nex p q) []))) hb sB)
    exact k p q _ rfl rfl hl hc sC ⟨xg, dx, y, z, upd_same, R1.same sC, R2.same sC⟩
theorem KB_Next {K : PySem.W.Frag} {cc c : Addr} {doc pm ct : Value} : KBn K ((FNext_init cc c).fd doc pm ct) PNext_init 1 ["second", "first"] kg2 kg2 := by
  refine ⟨fun s us ws _ hu hl => ?_, fun {vs us zs ws} r1 r2 => ?_⟩
  · match us, ws, hu, hl with
    | [a], [b, c], _, _ => exact .of_eq rfl
  · cases r1 with
    | nil => exact .nil
    | cons q1 r1 =>
      cases r1 with
      | cons _ _ => exact .nil
      | nil =>
        match zs, ws, r2 with
        | _, _, .cons r0 (.cons r1 .nil) => exact .cons q1 (.cons r1 (.cons r0 .nil))
        | _, _, .nil => exact .nil
        | _, _, .cons _ .nil => exact .nil
        | _, _, .cons _ (.cons _ (.cons _ _)) => exact .nil
end k04
namespace k04
open PySem L2 LC RM
def spbag (K : PySem.W.Frag) : Sp := fun vs H Q _ => ∃ (a : Addr) (ns : List Int), vs = [.ref a] ∧ SqL K H a (ns.map V.int) ∧ ns.length ≤ 63 ∧ ∀ g H', H g = none → Same H H' → (∃ l, Bag l H' g) → Q (.ref g) H'
theorem ok_bag {P : Program} {w : World} {K : PySem.W.Frag} {mg : Str → Option Value} {base : Heap} {f : Addr} {fd : FuncData} (D : Def K mg "_law_bag" sbag Pbag f fd) (T : Txt K mg) :
    FnOk P w K mg base CX0 1 f fd Pbag (spbag K) := by
  refine D.F.ok scbag (fun vs H Q E h => ?_) (fun cdv A outer s H vs Q E hr h => ?_)
  · obtain ⟨a, ns, rfl, hS, hl, k⟩ := h
    rfl
  · obtain ⟨a, ns, rfl, hS, hl, k⟩ := h
    refine ⟨_, (pss_cons (ps_set (i := 1) scbag.nd rfl (Or.inl rfl) pe_int)
        (pss_cons (ps_for PassesOwn.never rfl (pi_list (pe_slice sl_list (pv 0) po_none (po_some pe_int))) (pg_name (i := 2) scbag.nd rfl (Or.inl rfl))
          (pss_one (ps_set (i := 1) scbag.nd rfl (Or.inl rfl) (pe_op op_mod (pe_callTy call_int1 (by rfl) T.n_int (by decide +kernel) (pa_cons (pe_op op_add (pe_op op_add (pe_op op_mul (pv 1) pe_int) (pe_op op_mod (pe_callTy call_int1 (by rfl) T.n_int (by decide +kernel) (pa_cons (pv 2) pa_nil)) pe_int)) pe_int) pa_nil)) pe_int))))
        (pss_one (ps_ret (pe_lst (pa_cons (pe_callTy call_list_of (by rfl) T.n_list (by decide +kernel) (pa_cons (pe_slice sl_list (pv 0) po_none (po_some pe_int)) pa_nil)) (pa_cons pe_int (pa_cons pe_int (pa_cons (pv 1) (pa_cons pe_int pa_nil)))))))))), ?_⟩
    obtain ⟨ms, hms, hml⟩ := cut_ints ns none (some 63)
    refine ⟨_, rfl, _, rfl, a, _, rfl, hS, fun p hp => ?_⟩
    rw [hms]
    have s1 : Same H (upd H p (.lst (ms.map V.int))) := same_new hp
    refine ⟨p, rfl, ⟨_, SqL.of upd_same⟩, for_list (K := K) (a := p) (xs := ms.map V.int) (fun i σ H' => ∃ (s : Int) (v : Option V), σ = [some (.ref a), some (.int s), v] ∧ 0 ≤ s ∧ s < 2147483399 ∧ Same (upd H p (.lst (ms.map V.int))) H')
      ⟨13962, none, rfl, by decide, by decide, Same.refl _⟩ (fun i σ H' _ ⟨_, _, _, _, _, R⟩ => R.seq (SqL.of upd_same)) ?_ ?_⟩
    · rintro i y σ H' hi ⟨s, v, rfl, h1, h2, R⟩
      obtain ⟨u, rfl⟩ := int_of hi
      refine ⟨_, rfl, _, _, rfl, rfl, .inr ⟨by decide, by decide⟩, _, rfl, .inl ⟨_, rfl, _, _, rfl, rfl, (by show (0 : Int) < 2147483563; decide), _, _, rfl, rfl, _, _, rfl, rfl, .inl ⟨_, rfl, _, _, rfl, rfl, (by show (0 : Int) < 2147483399; decide), ?_⟩⟩⟩
      refine ⟨_, _, rfl, Int.emod_nonneg _ (by decide), Int.emod_lt_of_pos _ (by decide), R⟩
    · rintro σ H' ⟨s, v, rfl, h1, h2, R⟩
      refine ⟨_, rfl, _, rfl, a, _, rfl, (s1.trans R).seq hS, fun q hq => ?_⟩
      rw [hms]
      refine ⟨q, _, rfl, .inl (SqL.of upd_same), fun l hl' => ?_⟩
      refine ⟨_, rfl, (by show 5 ≤ sizeLine; decide), fun g hg => ?_⟩
      have r1 : Same H' (upd H' q (.lst (ms.map V.int))) := same_new hq
      have r2 := same_new (o := .lst (ms.map V.int)) hl'
      have r3 := same_new (o := .lst [V.ref l, V.int 0, V.int 0, V.int s, V.int 0]) hg
      refine k g _ (s1.free (R.free (r1.free (r2.free hg)))) (s1.trans (R.trans (r1.trans (r2.trans r3)))) ?_
      have ne : l ≠ g := fun e => by
        rw [← e, upd_same] at hg
        cases hg
      exact ⟨l, ms, 0, 0, s, 0, upd_same, ne, by rw [upd_ne ne]; exact upd_same, Int.le_refl _, Int.natCast_nonneg _, Int.le_refl _, h1, h2⟩
end k04
namespace k04
open PySem L2 LC RM
def spdraw : Sp := fun vs H Q _ => ∃ (g l : Addr) (n : Int), vs = [.ref g, .int n] ∧ Bag l H g ∧ 0 < n ∧ n < 1073741824 ∧ ∀ (d : Int) (H' : Hp), 0 ≤ d → d < n → Ok g l H H' → Q (.int d) H'
theorem ok_draw {P : Program} {w : World} {K : PySem.W.Frag} {mg : Str → Option Value} {base : Heap} {f : Addr} {fd : FuncData} (D : Def K mg "_law_draw" sdraw Pdraw f fd) (T : Txt K mg) :
    FnOk P w K mg base CX0 1 f fd Pdraw (spdraw) := by
  refine D.F.ok scdraw (fun vs H Q E h => ?_) (fun cdv A outer s H vs Q E hr h => ?_)
  · obtain ⟨g, l, n, rfl, B, n0, n1, k⟩ := h
    rfl
  · obtain ⟨g, l, n, rfl, B, n0, n1, k⟩ := h
    refine ⟨_, (pss_cons (ps_asg (pe_op op_add (pe_ix ix_list (pv 0) pe_int (fun _ _ => rfl)) pe_int) (pg_sub (pv 0) pe_int set_list))
        (Evl.pss_cut (ps_if (PW.pt (pw_and (pt_cmpR op_eq (pe_ix ix_list (pv 0) pe_int (fun _ _ => rfl)) pe_int (nomark _)) (pw_and1 (pt_cmpR op_lt (pe_ix ix_list (pv 0) pe_int (fun _ _ => rfl)) (pe_callB call_len (by rfl) T.n_len PySem.boot_len (pa_cons (pe_ix ix_list (pv 0) pe_int (fun _ _ => rfl)) pa_nil)) (nomark _))))) (pss_cons (ps_set (i := 2) scdraw.nd rfl (Or.inl rfl) (pe_ix ix_list (pe_ix ix_list (pv 0) pe_int (fun _ _ => rfl)) (pe_ix ix_list (pv 0) pe_int (fun _ _ => rfl)) (fun _ _ => rfl)))
        (pss_cons (ps_asg (pe_op op_add (pe_ix ix_list (pv 0) pe_int (fun _ _ => rfl)) pe_int) (pg_sub (pv 0) pe_int set_list))
        (pss_one (ps_if (pt_cmpR op_ge (pv 2) (pe_op op_pow pe_int pe_int) (nomark _)) (pss_one (ps_asg (pv 2) (pg_sub (pv 0) pe_int set_list))) (pss_one (ps_asg (pe_op op_mod (pe_callTy call_int1 (by rfl) T.n_int (by decide +kernel) (pa_cons (pe_op op_add (pe_op op_add (pe_op op_mul (pe_ix ix_list (pv 0) pe_int (fun _ _ => rfl)) pe_int) (pe_op op_mul (pe_op op_mod (pe_callTy call_int1 (by rfl) T.n_int (by decide +kernel) (pa_cons (pv 2) pa_nil)) pe_int) pe_int)) pe_int) pa_nil)) pe_int) (pg_sub (pv 0) pe_int set_list))))))) pss_nil)
        (pss_cons (ps_if (pt_cmpR op_gt (pe_ix ix_list (pv 0) pe_int (fun _ _ => rfl)) pe_int (nomark _)) (pss_cons (ps_set (i := 3) scdraw.nd rfl (Or.inl rfl) (pe_op op_modN (pe_callTy call_int1 (by rfl) T.n_int (by decide +kernel) (pa_cons (pe_ix ix_list (pv 0) pe_int (fun _ _ => rfl)) pa_nil)) (pv 1)))
        (pss_cons (ps_asg (pe_op op_fdivN (pe_ix ix_list (pv 0) pe_int (fun _ _ => rfl)) (pv 1)) (pg_sub (pv 0) pe_int set_list))
        (pss_one (ps_ret (pv 3))))) pss_nil)
        (pss_cons (ps_asg (pe_op op_mod (pe_callTy call_int1 (by rfl) T.n_int (by decide +kernel) (pa_cons (pe_op op_add (pe_op op_add (pe_op op_pow (pe_ix ix_list (pv 0) pe_int (fun _ _ => rfl)) pe_int) (pe_op op_mul (pe_ix ix_list (pv 0) pe_int (fun _ _ => rfl)) pe_int)) pe_int) pa_nil)) pe_int) (pg_sub (pv 0) pe_int set_list))
        (pss_one (ps_ret (pe_op op_modN (pe_callTy call_int1 (by rfl) T.n_int (by decide +kernel) (pa_cons (pe_op op_add (pe_op op_fdiv (pe_ix ix_list (pv 0) pe_int (fun _ _ => rfl)) pe_int) (pe_op op_mul (pe_op op_mod (pe_callTy call_int1 (by rfl) T.n_int (by decide +kernel) (pa_cons (pe_ix ix_list (pv 0) pe_int (fun _ _ => rfl)) pa_nil)) pe_int) pe_int)) pa_nil)) (pv 1)))))))), ?_⟩
    obtain ⟨ns, i, d, s, c, hg, lg, hl, i0, i1, d0, s0, s1⟩ := id B
    have up : ∀ (i' d' s' c' : Int) (H1 : Hp), Kp g H H1 → H1 l = some (.lst (ns.map V.int)) → Kp g H (upd H1 g (.lst [.ref l, .int i', .int d', .int s', .int c'])) ∧ upd H1 g (.lst [.ref l, .int i', .int d', .int s', .int c']) l = some (.lst (ns.map V.int)) :=
      fun i' d' s' c' H1 r q => ⟨r.bag, by rw [upd_ne lg]; exact q⟩
    -- b[4] = b[4] + 1
    refine ⟨_, rfl, _, _, _, _, rfl, rfl, SqL.of hg, rfl, _, _, rfl, rfl, _, rfl, g, _, _, 4, rfl, rfl, hg, rfl, ?_⟩
    obtain ⟨K1, L1⟩ := up i d s (c + 1) H (Kp.refl g H) hl
    -- the joined ways
    refine ⟨fun σ H' => ∃ (i' d' s' : Int) (v w : Option V), σ = [some (.ref g), some (.int n), v, w] ∧ H' g = some (.lst [.ref l, .int i', .int d', .int s', .int (c + 1)]) ∧ Kp g H H' ∧ H' l = some (.lst (ns.map V.int)) ∧ 0 ≤ i' ∧ i' ≤ ns.length ∧ 0 ≤ d' ∧ 0 ≤ s' ∧ s' < 2147483399, ?_, ?_⟩
    · refine ⟨_, rfl, _, _, _, _, rfl, rfl, SqL.of upd_same, rfl, rfl, _, rfl, ?_⟩
      refine ite_eq (fun e1 => ?_) (fun e1 => ?_)
      · refine ⟨_, rfl, _, _, _, _, rfl, rfl, SqL.of upd_same, rfl, _, rfl, _, _, _, _, rfl, rfl, SqL.of upd_same, rfl, _, _, rfl, .inl ⟨_, SqL.of L1, rfl⟩, _, _, rfl, rfl, _, rfl, ?_⟩
        refine ite_d (fun e2 => ?_) (fun e2 => ?_)
        · rw [List.length_map] at e2
          obtain ⟨j, rfl⟩ : ∃ j : Nat, i = (j : Int) := ⟨i.toNat, by omega⟩
          have hj : j < ns.length := by omega
          have hx : (ns.map V.int)[j]? = some (V.int ns[j]) := by rw [List.getElem?_map, List.getElem?_eq_getElem hj]; rfl
          -- item = b[0][b[1]]; b[1] = b[1] + 1
          refine ⟨_, rfl, _, _, _, _, rfl, rfl, SqL.of upd_same, rfl, _, rfl, _, _, _, _, rfl, rfl, SqL.of upd_same, rfl, _, _, _, _, rfl, rfl, SqL.of L1, atI_nat hx, ?_⟩
          refine ⟨_, rfl, _, _, _, _, rfl, rfl, SqL.of upd_same, rfl, _, _, rfl, rfl, _, rfl, g, _, _, 1, rfl, rfl, upd_same, rfl, ?_⟩
          obtain ⟨K2, L2⟩ := up ((j : Int) + 1) d s (c + 1) _ K1 L1
          refine ⟨_, rfl, _, _, rfl, rfl, ⟨by decide, by decide, by decide⟩, _, _, rfl, rfl, _, rfl, ?_⟩
          refine ite_d (fun e3 => ?_) (fun e3 => ?_)
          · refine ⟨_, rfl, _, rfl, g, _, _, 2, rfl, rfl, upd_same, rfl, ?_⟩
            obtain ⟨K3, L3⟩ := up ((j : Int) + 1) ns[j] s (c + 1) _ K2 L2
            exact ⟨_, _, _, _, _, rfl, upd_same, K3, L3, by omega, by omega, Int.le_trans (by decide) e3, s0, s1⟩
          · refine ⟨_, rfl, _, _, _, _, rfl, rfl, SqL.of upd_same, rfl, _, _, rfl, rfl, .inr ⟨by decide, by decide⟩, _, rfl, .inl ⟨_, rfl, _, _, rfl, rfl, (by show (0 : Int) < 2147483549; decide), _, _, rfl, rfl, .inr ⟨by decide, by decide⟩, _, _, rfl, rfl, _, _, rfl, rfl, .inl ⟨_, rfl, _, _, rfl, rfl, (by show (0 : Int) < 2147483399; decide), ?_⟩⟩⟩
            refine ⟨_, rfl, g, _, _, 3, rfl, rfl, upd_same, rfl, ?_⟩
            obtain ⟨K3, L3⟩ := up ((j : Int) + 1) d ((s * 69621 + ns[j] % 2147483549 * 30103 + 89) % 2147483399) (c + 1) _ K2 L2
            exact ⟨_, _, _, _, _, rfl, upd_same, K3, L3, by omega, by omega, d0, Int.emod_nonneg _ (by decide), Int.emod_lt_of_pos _ (by decide)⟩
        · exact ⟨_, _, _, _, _, rfl, upd_same, K1, L1, i0, i1, d0, s0, s1⟩
      · refine iteF ?_
        exact ⟨_, _, _, _, _, rfl, upd_same, K1, L1, i0, i1, d0, s0, s1⟩
    · rintro σ H' ⟨i', d', s', v, w, rfl, hg', K1, L1, i0, i1, d0, s0, s1⟩
      have bag : ∀ (d'' s'' : Int), 0 ≤ d'' → 0 ≤ s'' → s'' < 2147483399 → Bag l (upd H' g (.lst [.ref l, .int i', .int d'', .int s'', .int (c + 1)])) g := fun d'' s'' h1 h2 h3 =>
        ⟨ns, i', d'', s'', c + 1, upd_same, lg, by rw [upd_ne lg]; exact L1, i0, i1, h1, h2, h3⟩
      refine ⟨_, rfl, _, _, _, _, rfl, rfl, SqL.of hg', rfl, _, _, rfl, rfl, _, rfl, ?_⟩
      refine ite_d (fun e1 => ?_) (fun e1 => ?_)
      · refine ⟨_, rfl, _, _, _, _, rfl, rfl, SqL.of hg', rfl, .inl ⟨_, rfl, _, rfl, _, _, rfl, rfl, (by omega), ?_⟩⟩
        refine ⟨_, rfl, _, _, _, _, rfl, rfl, SqL.of hg', rfl, _, rfl, _, _, rfl, rfl, ⟨by omega, by omega⟩, _, rfl, g, _, _, 2, rfl, rfl, hg', rfl, _, rfl, ?_⟩
        refine k _ _ (fmod_nn _ n0) (fmod_lt _ n0) ⟨B, K1.bag, bag _ s' ?_ s0 s1⟩
        rw [Int.fdiv_eq_ediv_of_nonneg _ (Int.le_of_lt n0)]
        exact Int.ediv_nonneg d0 (Int.le_of_lt n0)
      · refine ⟨_, rfl, _, _, _, _, rfl, rfl, SqL.of hg', rfl, _, _, rfl, rfl, ⟨by decide, by decide, by omega⟩, _, rfl, _, _, _, _, rfl, rfl, SqL.of hg', rfl, _, _, rfl, rfl, .inr ⟨by decide, by decide⟩, _, _, rfl, rfl, _, _, rfl, rfl, .inl ⟨_, rfl, _, _, rfl, rfl, (by show (0 : Int) < 2147483399; decide), ?_⟩⟩
        refine ⟨_, rfl, g, _, _, 3, rfl, rfl, hg', rfl, ?_⟩
        refine ⟨_, rfl, _, _, _, _, rfl, rfl, SqL.of upd_same, rfl, _, _, rfl, rfl, ⟨by decide, by decide⟩, _, rfl, _, _, _, _, rfl, rfl, SqL.of upd_same, rfl, .inl ⟨_, rfl, _, _, rfl, rfl, (by show (0 : Int) < 7901; decide), _, _, rfl, rfl, .inr ⟨by decide, by decide⟩, _, _, rfl, rfl, .inl ⟨_, rfl, _, rfl, _, _, rfl, rfl, (by omega), ?_⟩⟩⟩
        exact k _ _ (fmod_nn _ n0) (fmod_lt _ n0) ⟨B, K1.bag, bag d' _ d0 (Int.emod_nonneg _ (by decide)) (Int.emod_lt_of_pos _ (by decide))⟩
end k04
namespace k04
open PySem L2 LC RM
inductive Src (K : PySem.W.Frag) (g : Addr) (H : Hp) : V → (V → Prop) → Prop where
  | lst {a : Addr} {xs : List V} (h : SqL K H a xs) (n : a ≠ g) (h0 : 0 < xs.length) (h1 : xs.length ≤ 1000000) : Src K g H (.ref a) fun x => x ∈ xs
  | tup {a : Addr} {xs : List V} (h : SqT K H a xs) (n : a ≠ g) (h0 : 0 < xs.length) (h1 : xs.length ≤ 1000000) : Src K g H (.ref a) fun x => x ∈ xs
  | str {z : Str} (h0 : 0 < z.length) (h1 : z.length ≤ 1000000) : Src K g H (.str z) fun x => ∃ c ∈ z.cps.toList, x = .str ⟨#[c]⟩
def spof (K : PySem.W.Frag) : Sp := fun vs H Q _ => ∃ (g l : Addr) (t : V) (F : V → Prop), vs = [.ref g, t] ∧ Bag l H g ∧ Src K g H t F ∧ ∀ x H', F x → Ok g l H H' → Q x H'
theorem ok_of {P : Program} {w : World} {K : PySem.W.Frag} {mg : Str → Option Value} {base : Heap} {f : Addr} {fd : FuncData} (D : Def K mg "_law_of" sof Pof f fd) (T : Txt K mg) {fdraw : Addr} {fddraw : FuncData} (Ddraw : Def K mg "_law_draw" sdraw Pdraw fdraw fddraw) (Gdraw : FnOk P w K mg base CX0 1 fdraw fddraw Pdraw (spdraw)) :
    FnOk P w K mg base CX0 2 f fd Pof (spof K) := by
  refine D.F.ok scof (fun vs H Q E h => ?_) (fun cdv A outer s H vs Q E hr h => ?_)
  · obtain ⟨g, l, t, F, rfl, B, S, k⟩ := h
    rfl
  · obtain ⟨g, l, t, F, rfl, B, S, k⟩ := h
    have hrdraw : Room 1 _ := hr.mono (by decide)
    refine ⟨_, (pss_one (ps_ret (pe_ix ix_seq (pv 1) (pe_call Gdraw hrdraw rfl Ddraw.g Ddraw.F.kp Ddraw.b .nil pass0 (pa_cons (pv 0) (pa_cons (pe_callB call_len (by rfl) T.n_len PySem.boot_len (pa_cons (pv 1) pa_nil)) pa_nil))) (fun _ _ => rfl)))), ?_⟩
    cases S with
    | @lst a xs h n h0 h1 =>
      refine ⟨_, rfl, _, rfl, _, rfl, _, _, rfl, .inl ⟨xs, h, rfl⟩, g, l, _, rfl, B, by omega, by omega, fun d H' d0 d1 r => ?_⟩
      obtain ⟨j, rfl⟩ : ∃ j : Nat, d = (j : Int) := ⟨d.toNat, by omega⟩
      have hj : j < xs.length := by omega
      exact .inl ⟨_, _, _, _, rfl, rfl, SqL.kp r.kp n h, atI_nat (List.getElem?_eq_getElem hj), k _ _ (List.getElem_mem hj) r⟩
    | @tup a xs h n h0 h1 =>
      refine ⟨_, rfl, _, rfl, _, rfl, _, _, rfl, .inr ⟨xs, h, rfl⟩, g, l, _, rfl, B, by omega, by omega, fun d H' d0 d1 r => ?_⟩
      obtain ⟨j, rfl⟩ : ∃ j : Nat, d = (j : Int) := ⟨d.toNat, by omega⟩
      have hj : j < xs.length := by omega
      exact .inr (.inl ⟨_, _, _, _, rfl, rfl, SqT.kp r.kp n h, atI_nat (List.getElem?_eq_getElem hj), k _ _ (List.getElem_mem hj) r⟩)
    | @str z h0 h1 =>
      have hz : z.length ≤ sizeLine := Nat.le_trans h1 (by decide)
      refine ⟨_, rfl, _, rfl, _, rfl, _, _, rfl, ⟨hz, rfl⟩, g, l, _, rfl, B, by omega, by omega, fun d H' d0 d1 r => ?_⟩
      obtain ⟨j, rfl⟩ : ∃ j : Nat, d = (j : Int) := ⟨d.toNat, by omega⟩
      have hj : j < z.cps.toList.length := by
        have e : z.cps.toList.length = z.length := rfl
        omega
      exact .inr (.inr ⟨_, _, _, rfl, rfl, hz, atI_nat (List.getElem?_eq_getElem hj), k _ _ ⟨_, List.getElem_mem hj, rfl⟩ r⟩)
/-- one of the things of a new list -/
theorem of_disp {K : PySem.W.Frag} {g l p : Addr} {H0 H : Hp} {xs : List V} {Q : VK} {E : XK} (R : Ok g l H0 H) (hp : H p = none) (h0 : 0 < xs.length) (h1 : xs.length ≤ 1000000) (k : ∀ x H', x ∈ xs → Kp g H H' → Ok g l H0 H' → Q x H') :
    spof K [.ref g, .ref p] (upd H p (.lst xs)) Q E := by
  refine ⟨g, l, .ref p, _, rfl, (R.new hp).bag, .lst (SqL.of upd_same) (R.bag.ne hp).1 h0 h1, fun x H' hx r => ?_⟩
  exact k x H' hx ((Ok.new (Ok.refl R.bag) hp).kp.trans r.kp) ((R.new hp).trans r)
end k04
namespace k04
open PySem L2 LC RM
def splike (n : Nat) : Sp := fun vs H Q _ => ∃ (u v : V) (m : Nat), vs = [u, v] ∧ m < n ∧ Lq H m u v ∧ ∀ H', Same H H' → Q (.bl true) H'
theorem no_like {vs : List V} {H : Hp} {Q : VK} {E : XK} (h : splike 0 vs H Q E) : False := by
  obtain ⟨_, _, _, _, h, _⟩ := h
  exact Nat.not_lt_zero _ h

theorem step_like {P : Program} {w : World} {K : PySem.W.Frag} {mg : Str → Option Value} {base : Heap} {f : Addr} {fd : FuncData} (D : Def K mg "_law_like" slike Plike f fd) (T : Txt K mg) {n : Nat} (Glike : FnOk P w K mg base CX0 (n + 0) f fd Plike (splike n)) :
    FnOk P w K mg base CX0 (n + 1) f fd Plike (splike (n + 1)) := by
  refine D.F.ok sclike (fun vs H Q E h => ?_) (fun cdv A outer s H vs Q E hr h => ?_)
  · obtain ⟨u, v, m, rfl, hm, hl, k⟩ := h
    rfl
  · obtain ⟨u, v, m, rfl, hm, hl, k⟩ := h
    have Dlike := D
    have hrlike : Room (n + 0) _ := hr
    refine ⟨_, (pss_cons (ps_if (pt_val (pe_callB call_isiT (by rfl) T.n_isinstance (by decide +kernel) (pa_cons (pv 1) (pa_cons (pe_tup (pa_cons (pe_ty "list" (by rfl) T.n_list (by decide +kernel)) (pa_cons (pe_ty "tuple" (by rfl) T.n_tuple (by decide +kernel)) pa_nil))) pa_nil)))) (pss_cons (ps_if (PW.pt (pw_or (pt_cmpR op_ne (pe_callB call_isi (by rfl) T.n_isinstance (by decide +kernel) (pa_cons (pv 0) (pa_cons (pe_ty "list" (by rfl) T.n_list (by decide +kernel)) pa_nil))) (pe_callB call_isi (by rfl) T.n_isinstance (by decide +kernel) (pa_cons (pv 1) (pa_cons (pe_ty "list" (by rfl) T.n_list (by decide +kernel)) pa_nil))) (nomark _)) (pw_or1 (pt_cmpR op_ne (pe_callB call_isi (by rfl) T.n_isinstance (by decide +kernel) (pa_cons (pv 0) (pa_cons (pe_ty "tuple" (by rfl) T.n_tuple (by decide +kernel)) pa_nil))) (pe_callB call_isi (by rfl) T.n_isinstance (by decide +kernel) (pa_cons (pv 1) (pa_cons (pe_ty "tuple" (by rfl) T.n_tuple (by decide +kernel)) pa_nil))) (nomark _))))) (pss_one (ps_ret pe_bl)) pss_nil)
        (pss_one (ps_ret (pe_and (pe_cmpR op_eq (pe_callB call_len (by rfl) T.n_len PySem.boot_len (pa_cons (pv 0) pa_nil)) (pe_callB call_len (by rfl) T.n_len PySem.boot_len (pa_cons (pv 1) pa_nil)) (nomark _)) (pe_one (pe_callB (cr_all rfl) (by rfl) T.n_all (by decide +kernel) (pa_cons (pe_lc (own := [("_law_a", 2), ("_law_b", 3)]) (g := gTup _ 2 (gCons (gName 2) (gCons (gName 3) gNil))) (tt := tYes) rfl sclike.nd (RZ.pi_zipA (by rfl) T.n_zip (pa_cons (pv 0) (pa_cons (pv 1) pa_nil))) (blkOk_by (own := [("_law_a", 2), ("_law_b", 3)]) (N := Nmlike) (sc := defScope slike) (by decide +kernel)) (fun _ _ _ _ _ => by exact (pg_tup rfl (pgs_cons (pg_name (i := 2) sclike.nd rfl (Or.inl rfl)) (pgs_cons (pg_name (i := 3) sclike.nd rfl (Or.inl rfl)) pgs_nil)))) (fun _ _ _ _ _ => pts_nil) (fun _ _ _ _ _ => (pe_call Glike hrlike rfl Dlike.g Dlike.F.kp Dlike.b .nil pass0 (pa_cons (pv 2) (pa_cons (pv 3) pa_nil))))) pa_nil))))))) pss_nil)
        (pss_cons (ps_if (PW.pt (pw_or (pt_cmpR op_isN (pv 1) pe_non (nomark _)) (pw_or1 (pt_cmpR op_isN (pv 0) pe_non (nomark _))))) (pss_one (ps_ret (pe_and (pe_cmpR op_isN (pv 1) pe_non (nomark _)) (pe_one (pe_cmpR op_isN (pv 0) pe_non (nomark _)))))) pss_nil)
        (pss_cons (ps_if (PW.pt (pw_or (pt_val (pe_callB call_isiT (by rfl) T.n_isinstance (by decide +kernel) (pa_cons (pv 0) (pa_cons (pe_tup (pa_cons (pe_ty "list" (by rfl) T.n_list (by decide +kernel)) (pa_cons (pe_ty "tuple" (by rfl) T.n_tuple (by decide +kernel)) pa_nil))) pa_nil)))) (pw_or1 (pt_cmpR op_ne (pe_callB call_isi (by rfl) T.n_isinstance (by decide +kernel) (pa_cons (pv 0) (pa_cons (pe_ty "bool" (by rfl) T.n_bool (by decide +kernel)) pa_nil))) (pe_callB call_isi (by rfl) T.n_isinstance (by decide +kernel) (pa_cons (pv 1) (pa_cons (pe_ty "bool" (by rfl) T.n_bool (by decide +kernel)) pa_nil))) (nomark _))))) (pss_one (ps_ret pe_bl)) pss_nil)
        (pss_cons (ps_if (PW.pt (pw_or (pt_cmpR op_ne (pe_callB call_isi (by rfl) T.n_isinstance (by decide +kernel) (pa_cons (pv 0) (pa_cons (pe_ty "str" (by rfl) T.n_str (by decide +kernel)) pa_nil))) (pe_callB call_isi (by rfl) T.n_isinstance (by decide +kernel) (pa_cons (pv 1) (pa_cons (pe_ty "str" (by rfl) T.n_str (by decide +kernel)) pa_nil))) (nomark _)) (pw_or1 (pt_cmpR op_ne (pe_callB call_isi (by rfl) T.n_isinstance (by decide +kernel) (pa_cons (pv 0) (pa_cons (pe_ty "int" (by rfl) T.n_int (by decide +kernel)) pa_nil))) (pe_callB call_isi (by rfl) T.n_isinstance (by decide +kernel) (pa_cons (pv 1) (pa_cons (pe_ty "int" (by rfl) T.n_int (by decide +kernel)) pa_nil))) (nomark _))))) (pss_one (ps_ret pe_bl)) pss_nil)
        (pss_cons (ps_if (pt_cmpR op_ne (pe_callB call_isi (by rfl) T.n_isinstance (by decide +kernel) (pa_cons (pv 0) (pa_cons (pe_ty "dict" (by rfl) T.n_dict (by decide +kernel)) pa_nil))) (pe_callB call_isi (by rfl) T.n_isinstance (by decide +kernel) (pa_cons (pv 1) (pa_cons (pe_ty "dict" (by rfl) T.n_dict (by decide +kernel)) pa_nil))) (nomark _)) (pss_one (ps_ret pe_bl)) pss_nil)
        (pss_one (ps_ret (pe_callTy call_bool1 (by rfl) T.n_bool (by decide +kernel) (pa_cons (pe_cmpR (op_eqS hr.units) (pv 0) (pv 1) (nomark _)) pa_nil))))))))), ?_⟩
    rcases hl.cases with ⟨rfl, hs⟩ | ⟨p, ks, rfl, rfl, hp, hok⟩ | ⟨j, rfl, bb, p, q, xs, ys, rfl, rfl, hp, hq, hn, hz, hi⟩
    · cases u with
      | int c =>
        refine ⟨_, rfl, (by show 2 ≤ sizeLine; decide), fun t1 ht1 => ?_⟩
        have s1 := same_new (o := .tup [.ty "list", .ty "tuple"]) ht1
        refine ⟨_, t1, _, _, _, false, rfl, upd_same, .cons (.ty _) (.cons (.ty _) .nil), .base (.int c), kLT_int, _, rfl, iteF ?_⟩
        generalize upd H t1 (.tup [.ty "list", .ty "tuple"]) = H1 at s1 ⊢
        refine ⟨_, rfl, rfl, _, rfl, ite_d (fun h => by cases h) (fun _ => ⟨_, rfl, rfl, _, rfl, ite_d (fun h => by cases h) (fun _ => ?_)⟩)⟩
        refine ⟨_, rfl, (by show 2 ≤ sizeLine; decide), fun t2 ht2 => ?_⟩
        have s2 := s1.trans (same_new (o := .tup [.ty "list", .ty "tuple"]) ht2)
        refine ⟨_, t2, _, _, _, false, rfl, upd_same, .cons (.ty _) (.cons (.ty _) .nil), .base (.int c), kLT_int, _, rfl, iteF ?_⟩
        generalize upd H1 t2 (.tup [.ty "list", .ty "tuple"]) = H2 at s2 ⊢
        refine ⟨_, rfl, _, _, _, _, _, rfl, .ty _, .base (.int c), kit_ty (show kitB "int" "bool" = some false by decide +kernel), _, rfl, _, _, _, _, _, rfl, .ty _, .base (.int c), kit_ty (show kitB "int" "bool" = some false by decide +kernel), rfl, _, rfl, iteF ?_⟩
        refine ⟨_, rfl, _, _, _, _, _, rfl, .ty _, .base (.int c), kit_ty (show kitB "int" "str" = some false by decide +kernel), _, rfl, _, _, _, _, _, rfl, .ty _, .base (.int c), kit_ty (show kitB "int" "str" = some false by decide +kernel), rfl, _, rfl, iteF ?_⟩
        refine ⟨_, rfl, _, _, _, _, _, rfl, .ty _, .base (.int c), kit_ty (show kitB "int" "int" = some true by decide +kernel), _, rfl, _, _, _, _, _, rfl, .ty _, .base (.int c), kit_ty (show kitB "int" "int" = some true by decide +kernel), rfl, _, rfl, iteF ?_⟩
        refine ⟨_, rfl, _, _, _, _, _, rfl, .ty _, .base (.int c), kit_ty (show kitB "int" "dict" = some false by decide +kernel), _, rfl, _, _, _, _, _, rfl, .ty _, .base (.int c), kit_ty (show kitB "int" "dict" = some false by decide +kernel), rfl, _, rfl, iteF ?_⟩
        refine ⟨_, rfl, _, rfl, .inl ⟨rfl, .inr ⟨_, rfl, ?_⟩⟩⟩
        rw [decide_eq_true rfl]
        exact k H2 s2
      | bl c =>
        refine ⟨_, rfl, (by show 2 ≤ sizeLine; decide), fun t1 ht1 => ?_⟩
        have s1 := same_new (o := .tup [.ty "list", .ty "tuple"]) ht1
        refine ⟨_, t1, _, _, _, false, rfl, upd_same, .cons (.ty _) (.cons (.ty _) .nil), .base (.bl c), kLT_bool, _, rfl, iteF ?_⟩
        generalize upd H t1 (.tup [.ty "list", .ty "tuple"]) = H1 at s1 ⊢
        refine ⟨_, rfl, rfl, _, rfl, ite_d (fun h => by cases h) (fun _ => ⟨_, rfl, rfl, _, rfl, ite_d (fun h => by cases h) (fun _ => ?_)⟩)⟩
        refine ⟨_, rfl, (by show 2 ≤ sizeLine; decide), fun t2 ht2 => ?_⟩
        have s2 := s1.trans (same_new (o := .tup [.ty "list", .ty "tuple"]) ht2)
        refine ⟨_, t2, _, _, _, false, rfl, upd_same, .cons (.ty _) (.cons (.ty _) .nil), .base (.bl c), kLT_bool, _, rfl, iteF ?_⟩
        generalize upd H1 t2 (.tup [.ty "list", .ty "tuple"]) = H2 at s2 ⊢
        refine ⟨_, rfl, _, _, _, _, _, rfl, .ty _, .base (.bl c), kit_ty (show kitB "bool" "bool" = some true by decide +kernel), _, rfl, _, _, _, _, _, rfl, .ty _, .base (.bl c), kit_ty (show kitB "bool" "bool" = some true by decide +kernel), rfl, _, rfl, iteF ?_⟩
        refine ⟨_, rfl, _, _, _, _, _, rfl, .ty _, .base (.bl c), kit_ty (show kitB "bool" "str" = some false by decide +kernel), _, rfl, _, _, _, _, _, rfl, .ty _, .base (.bl c), kit_ty (show kitB "bool" "str" = some false by decide +kernel), rfl, _, rfl, iteF ?_⟩
        refine ⟨_, rfl, _, _, _, _, _, rfl, .ty _, .base (.bl c), kit_ty (show kitB "bool" "int" = some true by decide +kernel), _, rfl, _, _, _, _, _, rfl, .ty _, .base (.bl c), kit_ty (show kitB "bool" "int" = some true by decide +kernel), rfl, _, rfl, iteF ?_⟩
        refine ⟨_, rfl, _, _, _, _, _, rfl, .ty _, .base (.bl c), kit_ty (show kitB "bool" "dict" = some false by decide +kernel), _, rfl, _, _, _, _, _, rfl, .ty _, .base (.bl c), kit_ty (show kitB "bool" "dict" = some false by decide +kernel), rfl, _, rfl, iteF ?_⟩
        refine ⟨_, rfl, _, rfl, .inl ⟨rfl, .inr ⟨_, rfl, ?_⟩⟩⟩
        rw [decide_eq_true rfl]
        exact k H2 s2
      | str c =>
        refine ⟨_, rfl, (by show 2 ≤ sizeLine; decide), fun t1 ht1 => ?_⟩
        have s1 := same_new (o := .tup [.ty "list", .ty "tuple"]) ht1
        refine ⟨_, t1, _, _, _, false, rfl, upd_same, .cons (.ty _) (.cons (.ty _) .nil), .base (.str c), kLT_str, _, rfl, iteF ?_⟩
        generalize upd H t1 (.tup [.ty "list", .ty "tuple"]) = H1 at s1 ⊢
        refine ⟨_, rfl, rfl, _, rfl, ite_d (fun h => by cases h) (fun _ => ⟨_, rfl, rfl, _, rfl, ite_d (fun h => by cases h) (fun _ => ?_)⟩)⟩
        refine ⟨_, rfl, (by show 2 ≤ sizeLine; decide), fun t2 ht2 => ?_⟩
        have s2 := s1.trans (same_new (o := .tup [.ty "list", .ty "tuple"]) ht2)
        refine ⟨_, t2, _, _, _, false, rfl, upd_same, .cons (.ty _) (.cons (.ty _) .nil), .base (.str c), kLT_str, _, rfl, iteF ?_⟩
        generalize upd H1 t2 (.tup [.ty "list", .ty "tuple"]) = H2 at s2 ⊢
        refine ⟨_, rfl, _, _, _, _, _, rfl, .ty _, .base (.str c), kit_ty (show kitB "str" "bool" = some false by decide +kernel), _, rfl, _, _, _, _, _, rfl, .ty _, .base (.str c), kit_ty (show kitB "str" "bool" = some false by decide +kernel), rfl, _, rfl, iteF ?_⟩
        refine ⟨_, rfl, _, _, _, _, _, rfl, .ty _, .base (.str c), kit_ty (show kitB "str" "str" = some true by decide +kernel), _, rfl, _, _, _, _, _, rfl, .ty _, .base (.str c), kit_ty (show kitB "str" "str" = some true by decide +kernel), rfl, _, rfl, iteF ?_⟩
        refine ⟨_, rfl, _, _, _, _, _, rfl, .ty _, .base (.str c), kit_ty (show kitB "str" "int" = some false by decide +kernel), _, rfl, _, _, _, _, _, rfl, .ty _, .base (.str c), kit_ty (show kitB "str" "int" = some false by decide +kernel), rfl, _, rfl, iteF ?_⟩
        refine ⟨_, rfl, _, _, _, _, _, rfl, .ty _, .base (.str c), kit_ty (show kitB "str" "dict" = some false by decide +kernel), _, rfl, _, _, _, _, _, rfl, .ty _, .base (.str c), kit_ty (show kitB "str" "dict" = some false by decide +kernel), rfl, _, rfl, iteF ?_⟩
        refine ⟨_, rfl, _, rfl, .inl ⟨rfl, .inr ⟨_, rfl, ?_⟩⟩⟩
        rw [decide_eq_true rfl]
        exact k H2 s2
      | non =>
        refine ⟨_, rfl, (by show 2 ≤ sizeLine; decide), fun t1 ht1 => ?_⟩
        have s1 := same_new (o := .tup [.ty "list", .ty "tuple"]) ht1
        refine ⟨_, t1, _, _, _, false, rfl, upd_same, .cons (.ty _) (.cons (.ty _) .nil), .base .non, kLT_non, _, rfl, iteF ?_⟩
        generalize upd H t1 (.tup [.ty "list", .ty "tuple"]) = H1 at s1 ⊢
        refine ⟨_, rfl, rfl, _, rfl, ite_d (fun _ => ⟨_, rfl, rfl, _, rfl, ite_d (fun _ => ⟨_, rfl, rfl, ?_⟩) (fun h => absurd rfl h)⟩) (fun h => absurd rfl h)⟩
        rw [decide_eq_true rfl]
        exact k H1 s1
      | _ => exact hs.elim
    · refine ⟨_, rfl, (by show 2 ≤ sizeLine; decide), fun t1 ht1 => ?_⟩
      have s1 := same_new (o := .tup [.ty "list", .ty "tuple"]) ht1
      refine ⟨_, t1, _, _, _, false, rfl, upd_same, .cons (.ty _) (.cons (.ty _) .nil), .base (.dK (s1 _ _ hp)), kLT_dK, _, rfl, iteF ?_⟩
      have hp1 := s1 _ _ hp
      generalize upd H t1 (.tup [.ty "list", .ty "tuple"]) = H1 at s1 hp1 ⊢
      refine ⟨_, rfl, rfl, _, rfl, ite_d (fun h => by cases h) (fun _ => ⟨_, rfl, rfl, _, rfl, ite_d (fun h => by cases h) (fun _ => ?_)⟩)⟩
      refine ⟨_, rfl, (by show 2 ≤ sizeLine; decide), fun t2 ht2 => ?_⟩
      have s2 := s1.trans (same_new (o := .tup [.ty "list", .ty "tuple"]) ht2)
      refine ⟨_, t2, _, _, _, false, rfl, upd_same, .cons (.ty _) (.cons (.ty _) .nil), .base (.dK (s2 _ _ hp)), kLT_dK, _, rfl, iteF ?_⟩
      have hp2 := s2 _ _ hp
      generalize upd H1 t2 (.tup [.ty "list", .ty "tuple"]) = H2 at s2 hp2 ⊢
      refine ⟨_, rfl, _, _, _, _, _, rfl, .ty _, .base (.dK hp2), kit_ty (show kitB "dict" "bool" = some false by decide +kernel), _, rfl, _, _, _, _, _, rfl, .ty _, .base (.dK hp2), kit_ty (show kitB "dict" "bool" = some false by decide +kernel), rfl, _, rfl, iteF ?_⟩
      refine ⟨_, rfl, _, _, _, _, _, rfl, .ty _, .base (.dK hp2), kit_ty (show kitB "dict" "str" = some false by decide +kernel), _, rfl, _, _, _, _, _, rfl, .ty _, .base (.dK hp2), kit_ty (show kitB "dict" "str" = some false by decide +kernel), rfl, _, rfl, iteF ?_⟩
      refine ⟨_, rfl, _, _, _, _, _, rfl, .ty _, .base (.dK hp2), kit_ty (show kitB "dict" "int" = some false by decide +kernel), _, rfl, _, _, _, _, _, rfl, .ty _, .base (.dK hp2), kit_ty (show kitB "dict" "int" = some false by decide +kernel), rfl, _, rfl, iteF ?_⟩
      refine ⟨_, rfl, _, _, _, _, _, rfl, .ty _, .base (.dK hp2), kit_ty (show kitB "dict" "dict" = some true by decide +kernel), _, rfl, _, _, _, _, _, rfl, .ty _, .base (.dK hp2), kit_ty (show kitB "dict" "dict" = some true by decide +kernel), rfl, _, rfl, iteF ?_⟩
      exact ⟨_, rfl, _, rfl, .inr ⟨p, ks, rfl, rfl, hp2, hok, .inr ⟨_, rfl, k H2 s2⟩⟩⟩
    · cases bb with
      | true =>
        have hp : H p = some (.lst xs) := hp
        have hq : H q = some (.lst ys) := hq
        refine ⟨_, rfl, (by show 2 ≤ sizeLine; decide), fun t1 ht1 => ?_⟩
        have s1 := same_new (o := .tup [.ty "list", .ty "tuple"]) ht1
        have hp1 := s1 _ _ hp
        have hq1 := s1 _ _ hq
        refine ⟨_, t1, _, _, _, true, rfl, upd_same, .cons (.ty _) (.cons (.ty _) .nil), .base (.lst hq1), kLT_lst, _, rfl, iteT ?_⟩
        generalize upd H t1 (.tup [.ty "list", .ty "tuple"]) = H1 at s1 hp1 hq1 ⊢
        refine ⟨_, rfl, _, _, _, _, _, rfl, .ty _, .base (.lst hp1), kit_ty (show kitB "list" "list" = some true by decide +kernel), _, rfl, _, _, _, _, _, rfl, .ty _, .base (.lst hq1), kit_ty (show kitB "list" "list" = some true by decide +kernel), rfl, _, rfl, iteF ?_⟩
        refine ⟨_, rfl, _, _, _, _, _, rfl, .ty _, .base (.lst hp1), kit_ty (show kitB "list" "tuple" = some false by decide +kernel), _, rfl, _, _, _, _, _, rfl, .ty _, .base (.lst hq1), kit_ty (show kitB "list" "tuple" = some false by decide +kernel), rfl, _, rfl, iteF ?_⟩
        refine ⟨_, rfl, _, _, rfl, .inl ⟨_, SqL.of hp1, rfl⟩, _, rfl, _, _, rfl, .inl ⟨_, SqL.of hq1, rfl⟩, rfl, _, rfl, ite_d (fun _ => ?_) (fun h => absurd (by rw [hn]) h)⟩
        refine ⟨_, rfl, _, rfl, p, q, _, _, rfl, .inl ⟨SqL.of hp1, SqL.of hq1, fun D hD => ?_⟩⟩
        refine lc_it (walk_zip (K := K) (a := p) (b := q) (xs := xs) (ys := ys) (n := xs.length) (by rw [← hn, Nat.min_self])) (fun i H' => i ≤ xs.length ∧ Same H1 H' ∧ H' D = some (.lst ((List.replicate i true).map V.bl)))
          ⟨Nat.zero_le _, same_new hD, upd_same⟩ (fun i H' _ ⟨_, s, _⟩ => ⟨s.seq (SqL.of hp1), s.seq (SqL.of hq1)⟩) ?_ ?_
        · rintro i x H2 H3 hlt ⟨_, s2, h2⟩ ⟨T, x1, x2, rfl, hT, rfl, e1, e2⟩
          have nT : D ≠ T := ne_of_none h2 hT
          refine ⟨T, _, rfl, SqT.of upd_same, rfl, _, _, rfl, _, _, rfl, rfl, rfl, ?_⟩
          have s3 := same_new (o := .tup [x1, x2]) hT
          refine ⟨_, rfl, _, rfl, x1, x2, j, rfl, by omega, ((hi i x1 x2 e1 e2).same s1).same (s2.trans s3), fun H4 s4 => ⟨_, s4 _ _ (s3 _ _ h2), ?_, hlt, fun b o e => ?_, ?_⟩⟩
          · rw [List.length_map, List.length_replicate]
            exact Nat.lt_of_le_of_lt (Nat.le_trans (Nat.le_of_lt hlt) hz) (by decide)
          · rw [upd_ne (ne_of_none e hD)]
            exact s4 _ _ (s3 _ _ (s2 _ _ e))
          · rw [upd_same, List.replicate_succ', List.map_append]
            rfl
        · rintro H2 ⟨_, s2, h2⟩
          refine ⟨D, List.replicate xs.length true, rfl, SqL.of h2, ?_⟩
          have e : (List.replicate xs.length true).all id = true := by simp
          rw [e]
          exact k H2 (s1.trans s2)
      | false =>
        have hp : H p = some (.tup xs) := hp
        have hq : H q = some (.tup ys) := hq
        refine ⟨_, rfl, (by show 2 ≤ sizeLine; decide), fun t1 ht1 => ?_⟩
        have s1 := same_new (o := .tup [.ty "list", .ty "tuple"]) ht1
        have hp1 := s1 _ _ hp
        have hq1 := s1 _ _ hq
        refine ⟨_, t1, _, _, _, true, rfl, upd_same, .cons (.ty _) (.cons (.ty _) .nil), .base (.tup hq1), kLT_tup, _, rfl, iteT ?_⟩
        generalize upd H t1 (.tup [.ty "list", .ty "tuple"]) = H1 at s1 hp1 hq1 ⊢
        refine ⟨_, rfl, _, _, _, _, _, rfl, .ty _, .base (.tup hp1), kit_ty (show kitB "tuple" "list" = some false by decide +kernel), _, rfl, _, _, _, _, _, rfl, .ty _, .base (.tup hq1), kit_ty (show kitB "tuple" "list" = some false by decide +kernel), rfl, _, rfl, iteF ?_⟩
        refine ⟨_, rfl, _, _, _, _, _, rfl, .ty _, .base (.tup hp1), kit_ty (show kitB "tuple" "tuple" = some true by decide +kernel), _, rfl, _, _, _, _, _, rfl, .ty _, .base (.tup hq1), kit_ty (show kitB "tuple" "tuple" = some true by decide +kernel), rfl, _, rfl, iteF ?_⟩
        refine ⟨_, rfl, _, _, rfl, .inr ⟨_, SqT.of hp1, rfl⟩, _, rfl, _, _, rfl, .inr ⟨_, SqT.of hq1, rfl⟩, rfl, _, rfl, ite_d (fun _ => ?_) (fun h => absurd (by rw [hn]) h)⟩
        refine ⟨_, rfl, _, rfl, p, q, _, _, rfl, .inr ⟨SqT.of hp1, SqT.of hq1, fun D hD => ?_⟩⟩
        refine lc_it (walk_zipT (K := K) (a := p) (b := q) (xs := xs) (ys := ys) (n := xs.length) (by rw [← hn, Nat.min_self])) (fun i H' => i ≤ xs.length ∧ Same H1 H' ∧ H' D = some (.lst ((List.replicate i true).map V.bl)))
          ⟨Nat.zero_le _, same_new hD, upd_same⟩ (fun i H' _ ⟨_, s, _⟩ => ⟨sameT s (SqT.of hp1), sameT s (SqT.of hq1)⟩) ?_ ?_
        · rintro i x H2 H3 hlt ⟨_, s2, h2⟩ ⟨T, x1, x2, rfl, hT, rfl, e1, e2⟩
          have nT : D ≠ T := ne_of_none h2 hT
          refine ⟨T, _, rfl, SqT.of upd_same, rfl, _, _, rfl, _, _, rfl, rfl, rfl, ?_⟩
          have s3 := same_new (o := .tup [x1, x2]) hT
          refine ⟨_, rfl, _, rfl, x1, x2, j, rfl, by omega, ((hi i x1 x2 e1 e2).same s1).same (s2.trans s3), fun H4 s4 => ⟨_, s4 _ _ (s3 _ _ h2), ?_, hlt, fun b o e => ?_, ?_⟩⟩
          · rw [List.length_map, List.length_replicate]
            exact Nat.lt_of_le_of_lt (Nat.le_trans (Nat.le_of_lt hlt) hz) (by decide)
          · rw [upd_ne (ne_of_none e hD)]
            exact s4 _ _ (s3 _ _ (s2 _ _ e))
          · rw [upd_same, List.replicate_succ', List.map_append]
            rfl
        · rintro H2 ⟨_, s2, h2⟩
          refine ⟨D, List.replicate xs.length true, rfl, SqL.of h2, ?_⟩
          have e : (List.replicate xs.length true).all id = true := by simp
          rw [e]
          exact k H2 (s1.trans s2)
theorem ok_like {P : Program} {w : World} {K : PySem.W.Frag} {mg : Str → Option Value} {base : Heap} {f : Addr} {fd : FuncData} (D : Def K mg "_law_like" slike Plike f fd) (T : Txt K mg) :
    FnOk P w K mg base CX0 5 f fd Plike (splike 5) := by
  have go : ∀ n : Nat, FnOk P w K mg base CX0 (n + 0) f fd Plike (splike n) := fun n => by
    induction n with
    | zero => exact LC.fn_none fun vs H Q E h => no_like h
    | succ n ih => exact step_like D T ih
  exact go 5
end k04
namespace k04
open PySem L2 LC RM
def spodd : Sp := fun vs H Q _ => ∃ (g l : Addr) (F : Addr → Prop), vs = [.ref g] ∧ Bag l H g ∧ F g ∧ (∀ b, F b → ∃ o, H b = some o) ∧ ∀ v H', Ov F H' 2 v → v ≠ .int 8 → Ok g l H H' → Q v H'
theorem ok_odd {P : Program} {w : World} {K : PySem.W.Frag} {mg : Str → Option Value} {base : Heap} {f : Addr} {fd : FuncData} (D : Def K mg "_law_odd" sodd Podd f fd) (T : Txt K mg) {fdraw : Addr} {fddraw : FuncData} (Ddraw : Def K mg "_law_draw" sdraw Pdraw fdraw fddraw) (Gdraw : FnOk P w K mg base CX0 1 fdraw fddraw Pdraw (spdraw)) {fof : Addr} {fdof : FuncData} (Dof : Def K mg "_law_of" sof Pof fof fdof) (Gof : FnOk P w K mg base CX0 2 fof fdof Pof (spof K)) :
    FnOk P w K mg base CX0 3 f fd Podd (spodd) := by
  refine D.F.ok scodd (fun vs H Q E h => ?_) (fun cdv A outer s H vs Q E hr h => ?_)
  · obtain ⟨g, l, F, rfl, B, Fg, hF, k⟩ := h
    rfl
  · obtain ⟨g, l, F, rfl, B, Fg, hF, k⟩ := h
    have hrdraw : Room 1 _ := hr.mono (by decide)
    have hrof : Room 2 _ := hr.mono (by decide)
    refine ⟨_, (pss_cons (ps_set (i := 1) scodd.nd rfl (Or.inl rfl) (pe_call Gdraw hrdraw rfl Ddraw.g Ddraw.F.kp Ddraw.b .nil pass0 (pa_cons (pv 0) (pa_cons pe_int pa_nil))))
        (pss_cons (ps_if (pt_cmpR op_eq (pv 1) pe_int (nomark _)) (pss_one (ps_ret (pe_call Gof hrof rfl Dof.g Dof.F.kp Dof.b .nil pass0 (pa_cons (pv 0) (pa_cons (pe_lst (pa_cons pe_non (pa_cons pe_bl (pa_cons pe_bl pa_nil)))) pa_nil))))) pss_nil)
        (pss_cons (ps_if (pt_cmpR op_eq (pv 1) pe_int (nomark _)) (pss_one (ps_ret (pe_call Gof hrof rfl Dof.g Dof.F.kp Dof.b .nil pass0 (pa_cons (pv 0) (pa_cons (pe_lst (pa_cons pe_int (pa_cons pe_int (pa_cons (pe_un un_neg pe_int) (pa_cons pe_int (pa_cons pe_int (pa_cons pe_int (pa_cons pe_int (pa_cons (pe_un un_neg pe_int) pa_nil))))))))) pa_nil))))) pss_nil)
        (pss_cons (ps_if (pt_cmpR op_eq (pv 1) pe_int (nomark _)) (pss_one (ps_ret (pe_call Gof hrof rfl Dof.g Dof.F.kp Dof.b .nil pass0 (pa_cons (pv 0) (pa_cons (pe_lst (pa_cons pe_str (pa_cons pe_str (pa_cons pe_str (pa_cons pe_str (pa_cons pe_str (pa_cons pe_str (pa_cons pe_str (pa_cons pe_str pa_nil))))))))) pa_nil))))) pss_nil)
        (pss_cons (ps_if (pt_cmpR op_eq (pv 1) pe_int (nomark _)) (pss_one (ps_ret (pe_callTy call_tuple_of (by rfl) T.n_tuple (by decide +kernel) (pa_cons (pe_lc (own := [("_law_k", 2)]) (g := gName 2) (tt := tYes) rfl scodd.nd (pi_range1 rfl T.n_range (pa_cons (pe_call Gdraw hrdraw rfl Ddraw.g Ddraw.F.kp Ddraw.b .nil pass0 (pa_cons (pv 0) (pa_cons pe_int pa_nil))) pa_nil)) (blkOk_by (own := [("_law_k", 2)]) (N := Nmodd) (sc := defScope sodd) (by decide +kernel)) (fun _ _ _ _ _ => pg_name (i := 2) scodd.nd rfl (Or.inl rfl)) (fun _ _ _ _ _ => pts_nil) (fun _ _ _ _ _ => (pe_call Gof hrof rfl Dof.g Dof.F.kp Dof.b .nil pass0 (pa_cons (pv 0) (pa_cons (pe_lst (pa_cons pe_int (pa_cons pe_str (pa_cons pe_non (pa_cons pe_bl (pa_cons pe_int pa_nil)))))) pa_nil))))) pa_nil)))) pss_nil)
        (pss_cons (ps_if (pt_cmpR op_eq (pv 1) pe_int (nomark _)) (pss_one (ps_ret (pe_lc (own := [("_law_k", 2)]) (g := gName 2) (tt := tYes) rfl scodd.nd (pi_range1 rfl T.n_range (pa_cons (pe_call Gdraw hrdraw rfl Ddraw.g Ddraw.F.kp Ddraw.b .nil pass0 (pa_cons (pv 0) (pa_cons pe_int pa_nil))) pa_nil)) (blkOk_by (own := [("_law_k", 2)]) (N := Nmodd) (sc := defScope sodd) (by decide +kernel)) (fun _ _ _ _ _ => pg_name (i := 2) scodd.nd rfl (Or.inl rfl)) (fun _ _ _ _ _ => pts_nil) (fun _ _ _ _ _ => (pe_call Gof hrof rfl Dof.g Dof.F.kp Dof.b .nil pass0 (pa_cons (pv 0) (pa_cons (pe_lst (pa_cons pe_int (pa_cons pe_str (pa_cons pe_non (pa_cons pe_bl (pa_cons (pe_tup (pa_cons pe_int (pa_cons pe_int pa_nil))) pa_nil)))))) pa_nil))))))) pss_nil)
        (pss_one (ps_ret (pe_call Gof hrof rfl Dof.g Dof.F.kp Dof.b .nil pass0 (pa_cons (pv 0) (pa_cons (pe_lst (pa_cons pe_dnewK (pa_cons (pe_disp (pps_cons pe_str pe_int pps_nil) (by rfl) (by rfl) (fun z => by cases z) (by decide)) (pa_cons (pe_disp (pps_cons pe_int (pe_lst (pa_cons pe_int pa_nil)) pps_nil) (by rfl) (by rfl) (fun z => by cases z) (by decide)) (pa_cons (pe_disp (pps_cons pe_str (pe_disp (pps_cons pe_str (pe_tup (pa_cons pe_int (pa_cons pe_non pa_nil))) pps_nil) (by rfl) (by rfl) (fun z => by cases z) (by decide)) pps_nil) (by rfl) (by rfl) (fun z => by cases z) (by decide)) pa_nil))))) pa_nil))))))))))), ?_⟩
    refine ⟨_, rfl, g, l, 6, rfl, B, by decide, by decide, fun d H1 d0 d1 r1 => ?_⟩
    refine ⟨_, rfl, rfl, _, rfl, ite_eq (fun _ => ?_) (fun _ => ?_)⟩
    · refine ⟨_, rfl, (by show 3 ≤ sizeLine; decide), fun p hp => of_disp (E := E0) r1 hp (by decide) (by decide) fun x H' hx _ r => k x H' (Ov.sz ?_ 2) ?_ r⟩
      all_goals simp only [List.mem_cons, List.not_mem_nil, or_false] at hx
      · rcases hx with rfl | rfl | rfl
        all_goals exact True.intro
      · rcases hx with rfl | rfl | rfl
        all_goals exact fun z => by cases z
    refine ⟨_, rfl, rfl, _, rfl, ite_eq (fun _ => ?_) (fun _ => ?_)⟩
    · refine ⟨_, rfl, _, rfl, _, rfl, (by show 8 ≤ sizeLine; decide), fun p hp => of_disp (E := E0) r1 hp (by show 0 < 8; decide) (by show 8 ≤ 1000000; decide) fun x H' hx _ r => k x H' (Ov.sz ?_ 2) ?_ r⟩
      all_goals simp only [List.mem_cons, List.not_mem_nil, or_false] at hx
      · rcases hx with rfl | rfl | rfl | rfl | rfl | rfl | rfl | rfl
        all_goals exact True.intro
      · rcases hx with rfl | rfl | rfl | rfl | rfl | rfl | rfl | rfl
        all_goals exact fun z => absurd (V.int.inj z) (by decide)
    refine ⟨_, rfl, rfl, _, rfl, ite_eq (fun _ => ?_) (fun _ => ?_)⟩
    · refine ⟨_, rfl, (by show 8 ≤ sizeLine; decide), fun p hp => of_disp (E := E0) r1 hp (by show 0 < 8; decide) (by show 8 ≤ 1000000; decide) fun x H' hx _ r => k x H' (Ov.sz ?_ 2) ?_ r⟩
      all_goals simp only [List.mem_cons, List.not_mem_nil, or_false] at hx
      · rcases hx with rfl | rfl | rfl | rfl | rfl | rfl | rfl | rfl
        all_goals (show Str.length _ ≤ 1000000; decide +kernel)
      · rcases hx with rfl | rfl | rfl | rfl | rfl | rfl | rfl | rfl
        all_goals exact fun z => by cases z
    refine ⟨_, rfl, rfl, _, rfl, ite_eq (fun _ => ?_) (fun _ => ?_)⟩
    · refine ⟨_, rfl, g, l, 4, rfl, r1.bag, by decide, by decide, fun d2 H2 d20 d21 r2 => ⟨_, rfl, by omega, by omega, fun D hD => ?_⟩⟩
      refine lc_draws (fun H x => Sz x) (r1.trans r2) hD (by omega) (fun _ => rfl) (fun x H H' t r => t) (fun x H xs ys h t => t) (fun i H3 Q3 _ r q => ?_) ?_
      · refine ⟨_, rfl, (by show 5 ≤ sizeLine; decide), fun p hp => of_disp (E := E0) (Ok.refl r.bag) hp (by show 0 < 5; decide) (by show 5 ≤ 1000000; decide) fun x H' hx _ r' => q x H' ?_ r'⟩
        simp only [List.mem_cons, List.not_mem_nil, or_false] at hx
        rcases hx with rfl | rfl | rfl | rfl | rfl
        · exact True.intro
        · show Str.length _ ≤ 1000000
          decide +kernel
        · exact True.intro
        · exact True.intro
        · exact True.intro
      · intro H3 xs r _ h3 hl hx
        exact ⟨D, xs, rfl, .inl ⟨SqL.of h3, fun t ht => k _ _ (.inr (.inr ⟨false, t, xs, rfl, nF_of hF r ht, upd_same, by omega, fun u hu => Ov.sz (hx u hu) 1⟩)) (fun z => by cases z) (r.new ht)⟩⟩
    refine ⟨_, rfl, rfl, _, rfl, ite_eq (fun _ => ?_) (fun _ => ?_)⟩
    · refine ⟨_, rfl, g, l, 4, rfl, r1.bag, by decide, by decide, fun d2 H2 d20 d21 r2 => ⟨_, rfl, by omega, by omega, fun D hD => ?_⟩⟩
      refine lc_draws (fun H x => Sz x ∨ ∃ t, x = .ref t ∧ ¬ F t ∧ H t = some (.tup [.int 1, .int 2])) (r1.trans r2) hD (by omega) (fun _ => rfl) (fun x H H' t r => ?_) (fun x H xs ys h t => ?_) (fun i H3 Q3 _ r q => ?_) ?_
      · rcases t with t | ⟨u, e, nu, eu⟩
        · exact .inl t
        · exact .inr ⟨u, e, nu, r _ _ (fun z => nu (by rw [z]; exact Fg)) eu⟩
      · rcases t with t | ⟨u, e, nu, eu⟩
        · exact .inl t
        · exact .inr ⟨u, e, nu, by rw [upd_ne (ne_of eu h (by intro z; cases z))]; exact eu⟩
      · refine ⟨_, rfl, (by show 2 ≤ sizeLine; decide), fun t ht => ⟨(by show 5 ≤ sizeLine; decide), fun p hp => ?_⟩⟩
        have nt := nF_of hF r ht
        have r3 := (Ok.refl r.bag).new (o := .tup [.int 1, .int 2]) ht
        refine of_disp (E := E0) r3 hp (by show 0 < 5; decide) (by show 5 ≤ 1000000; decide) fun x H' hx kk r' => q x H' ?_ r'
        simp only [List.mem_cons, List.not_mem_nil, or_false] at hx
        rcases hx with rfl | rfl | rfl | rfl | rfl
        · exact .inl True.intro
        · refine .inl ?_
          show Str.length _ ≤ 1000000
          decide +kernel
        · exact .inl True.intro
        · exact .inl True.intro
        · exact .inr ⟨t, rfl, nt, kk _ _ (fun z => nt (by rw [z]; exact Fg)) upd_same⟩
      · intro H3 xs r _ h3 hl hx
        refine k _ _ (.inr (.inr ⟨true, D, xs, rfl, nF_of hF (r1.trans r2) hD, h3, by omega, fun u hu => ?_⟩)) (fun z => by cases z) r
        rcases hx u hu with t | ⟨u, e, nu, eu⟩
        · exact .inl t
        · refine .inr (.inr ⟨false, u, _, e, nu, eu, (by show 2 ≤ 1000000; decide), fun z hz => ?_⟩)
          simp only [List.mem_cons, List.not_mem_nil, or_false] at hz
          rcases hz with rfl | rfl
          · exact True.intro
          · exact True.intro
    -- the dicts
    refine ⟨_, rfl, fun d1 hd1 => ?_⟩
    have f1 := nF_of hF r1 hd1
    have q1 := r1.new (o := .dK []) hd1
    intro p2 hp2
    have f2 := nF_of hF q1 hp2
    have q2 := q1.new (o := .dK []) hp2
    refine ⟨upd_same, [(.inr "a", .int 1)], rfl, by show 1 ≤ 15; decide, ?_⟩
    have q2' := q2.mut (o := .dK (mergeK [] [(.inr "a", .int 1)])) (q1.free hp2)
    intro p3 hp3
    have f3 := nF_of hF q2' hp3
    have q3 := q2'.new (o := .dK []) hp3
    refine ⟨(by show 1 ≤ sizeLine; decide), fun l3 hl3 => ?_⟩
    have n3 : p3 ≠ l3 := ne_of_none upd_same hl3
    have q3' := q3.new (o := .lst [.int 2]) hl3
    refine ⟨by rw [upd_ne n3]; exact upd_same, [(.inl 1, .ref l3)], rfl, by show 1 ≤ 15; decide, ?_⟩
    have q3'' := q3'.mut (o := .dK (mergeK [] [(.inl 1, .ref l3)])) (q2'.free hp3)
    intro p4 hp4
    have f4 := nF_of hF q3'' hp4
    have q4 := q3''.new (o := .dK []) hp4
    intro p5 hp5
    have q5 := q4.new (o := .dK []) hp5
    have n45 : p4 ≠ p5 := ne_of_none upd_same hp5
    refine ⟨(by show 2 ≤ sizeLine; decide), fun t5 ht5 => ?_⟩
    have q5' := q5.new (o := .tup [.int 1, .non]) ht5
    have n5 : p5 ≠ t5 := ne_of_none upd_same ht5
    have n4 : p4 ≠ t5 := ne_of_none (o := .dK []) (by rw [upd_ne n45]; exact upd_same) ht5
    refine ⟨by rw [upd_ne n5]; exact upd_same, [(.inr "b", .ref t5)], rfl, by show 1 ≤ 15; decide, ?_⟩
    have q5'' := q5'.mut (o := .dK (mergeK [] [(.inr "b", .ref t5)])) (q4.free hp5)
    refine ⟨by rw [upd_ne n45, upd_ne n4, upd_ne n45]; exact upd_same, [(.inr "a", .ref p5)], rfl, by show 1 ≤ 15; decide, ?_⟩
    have q6 := q5''.mut (o := .dK (mergeK [] [(.inr "a", .ref p5)])) (q3''.free hp4)
    have k2 : DkOk (mergeK [] [(.inr "a", .int 1)]) := dk1 (.inl rfl)
    have k3 : DkOk (mergeK [] [(.inl 1, .ref l3)]) := dk1 (.inr ⟨_, rfl⟩)
    have k5 : DkOk (mergeK [] [(.inr "b", .ref t5)]) := dk1 (.inr ⟨_, rfl⟩)
    have k4 : DkOk (mergeK [] [(.inr "a", .ref p5)]) := dk1 (.inr ⟨_, rfl⟩)
    have t1 : Dq F _ d1 := (((((((((Dq.new (F := F) ⟨f1, [], upd_same, dk0⟩ (o := .dK []) hp2).dict (q := p2) k2).new (o := .dK []) hp3).new (o := .lst [.int 2]) hl3).dict (q := p3) k3).new (o := .dK []) hp4).new (o := .dK []) hp5).new (o := .tup [.int 1, .non]) ht5).dict (q := p5) k5).dict (q := p4) k4
    have t2 : Dq F _ p2 := ((((((((Dq.dict (F := F) k2 (q := p2) ⟨f2, [], upd_same, dk0⟩).new (o := .dK []) hp3).new (o := .lst [.int 2]) hl3).dict (q := p3) k3).new (o := .dK []) hp4).new (o := .dK []) hp5).new (o := .tup [.int 1, .non]) ht5).dict (q := p5) k5).dict (q := p4) k4
    have t3 : Dq F _ p3 := ((((((Dq.new (F := F) ⟨f3, [], upd_same, dk0⟩ (o := .lst [.int 2]) hl3).dict (q := p3) k3).new (o := .dK []) hp4).new (o := .dK []) hp5).new (o := .tup [.int 1, .non]) ht5).dict (q := p5) k5).dict (q := p4) k4
    have t4 : Dq F _ p4 := (((Dq.new (F := F) ⟨f4, [], upd_same, dk0⟩ (o := .dK []) hp5).new (o := .tup [.int 1, .non]) ht5).dict (q := p5) k5).dict (q := p4) k4
    refine ⟨(by show 4 ≤ sizeLine; decide), fun p hp => of_disp (E := E0) q6 hp (by show 0 < 4; decide) (by show 4 ≤ 1000000; decide) fun x H' hx kk r' => k x H' ?_ (by simp only [List.mem_cons, List.not_mem_nil, or_false] at hx; rcases hx with rfl | rfl | rfl | rfl <;> exact fun z => by cases z) r'⟩
    have kf := KpF.kp Fg kk
    simp only [List.mem_cons, List.not_mem_nil, or_false] at hx
    rcases hx with rfl | rfl | rfl | rfl
    · exact (t1.ov 1).kp kf
    · exact (t2.ov 1).kp kf
    · exact (t3.ov 1).kp kf
    · exact (t4.ov 1).kp kf
end k04
namespace k04
open PySem L2 LC RM
def splcm : Sp := fun vs H Q _ => ∃ (a b : Int), vs = [.int a, .int b] ∧ 1 ≤ a ∧ a ≤ 1000000 ∧ 1 ≤ b ∧ b ≤ 1000000 ∧ Q (.int (lcmI a b)) H
theorem ok_lcm {P : Program} {w : World} {K : PySem.W.Frag} {mg : Str → Option Value} {base : Heap} {f : Addr} {fd : FuncData} (D : Def K mg "_law_lcm" slcm Plcm f fd) (T : Txt K mg) :
    FnOk P w K mg base CX0 1 f fd Plcm (splcm) := by
  refine D.F.ok sclcm (fun vs H Q E h => ?_) (fun cdv A outer s H vs Q E hr h => ?_)
  · obtain ⟨a, b, rfl, a0, a1, b0, b1, k⟩ := h
    rfl
  · obtain ⟨a, b, rfl, a0, a1, b0, b1, k⟩ := h
    refine ⟨_, (pss_cons (ps_par (i := 2) (j := 3) (by rfl) sclcm.nd rfl rfl (by decide) rfl rfl (pa_cons (pv 0) (pa_cons (pv 1) pa_nil)) (by rfl))
        (pss_cons (ps_while PassesOwn.never (pt_cmpR op_gt (pv 3) pe_int (nomark _)) (pss_one (ps_par (i := 2) (j := 3) (by rfl) sclcm.nd rfl rfl (by decide) rfl rfl (pa_cons (pv 3) (pa_cons (pe_op op_modN (pe_callTy call_int1 (by rfl) T.n_int (by decide +kernel) (pa_cons (pv 2) pa_nil)) (pv 3)) pa_nil)) (by rfl))))
        (pss_one (ps_ret (pe_op op_mul (pe_op op_fdivN (pv 0) (pv 2)) (pv 1)))))), ?_⟩
    obtain ⟨A, rfl⟩ : ∃ A : Nat, a = (A : Int) := ⟨a.toNat, by omega⟩
    obtain ⟨B, rfl⟩ : ∃ B : Nat, b = (B : Int) := ⟨b.toNat, by omega⟩
    refine ⟨_, rfl, _, rfl, _, _, rfl, ?_⟩
    refine ⟨fun m σ H' => ∃ X Y : Nat, σ = [some (.int A), some (.int B), some (.int X), some (.int Y)] ∧ H' = H ∧ m = Y ∧ 0 < X ∧ X ≤ 1000000 ∧ Y ≤ 1000000 ∧ Nat.gcd X Y = Nat.gcd A B, ⟨B, A, B, rfl, rfl, rfl, by omega, by omega, by omega, rfl⟩, ?_⟩
    rintro m σ H' ⟨X, Y, rfl, rfl, rfl, x0, x1, y1, hg⟩
    refine ⟨_, rfl, _, _, rfl, rfl, _, rfl, ite_d (fun hy => ?_) (fun hy => ?_)⟩
    · have hy' : 0 < m := by omega
      have lt := Nat.mod_lt X hy'
      refine ⟨_, fun σ' H' z => z, _, rfl, _, rfl, .inl ⟨_, rfl, _, rfl, _, _, rfl, rfl, by omega, _, _, rfl, X % m, lt, m, X % m, ?_, rfl, rfl, hy', y1, by omega, by rw [gcd_step]; exact hg⟩⟩
      show [some (V.int A), some (V.int B), some (V.int m), some (V.int ((X : Int).fmod (m : Int)))] = _
      rw [fmod_nat]
    · obtain rfl : m = 0 := by omega
      rw [Nat.gcd_zero_right] at hg
      refine ⟨_, rfl, _, rfl, _, _, rfl, rfl, ⟨by omega, by omega⟩, _, rfl, _, _, rfl, rfl, .inr ⟨by omega, by omega⟩, ?_⟩
      show Q (.int ((A : Int).fdiv (X : Int) * (B : Int))) _
      rw [hg, lcm_by]
      exact k
end k04
namespace k04
open PySem L2 LC RM
def sptext (n : Nat) : Sp := fun vs H Q _ => ∃ (x : Addr) (p : Pl), vs = [.ref x] ∧ PlanAt H p x ∧ p.ok 0 ∧ p.h ≤ 2 ∧ p.h < n ∧ ∀ H', Same H H' → Q (.str p.text) H'
theorem no_text {vs : List V} {H : Hp} {Q : VK} {E : XK} (h : sptext 0 vs H Q E) : False := by
  obtain ⟨_, _, _, _, _, _, h, _⟩ := h
  exact Nat.not_lt_zero _ h

theorem step_text {P : Program} {w : World} {K : PySem.W.Frag} {mg : Str → Option Value} {base : Heap} {f : Addr} {fd : FuncData} (D : Def K mg "_law_text" stext Ptext f fd) (T : Txt K mg) {n : Nat} (Gtext : FnOk P w K mg base CX0 (n + 0) f fd Ptext (sptext n)) :
    FnOk P w K mg base CX0 (n + 1) f fd Ptext (sptext (n + 1)) := by
  refine D.F.ok sctext (fun vs H Q E h => ?_) (fun cdv A outer s H vs Q E hr h => ?_)
  · obtain ⟨x, p, rfl, hx, o, h2, hh, k⟩ := h
    rfl
  · obtain ⟨x, p, rfl, hx, o, h2, hh, k⟩ := h
    have Dtext := D
    have hrtext : Room (n + 0) _ := hr
    refine ⟨_, (pss_cons (ps_if (pt_cmpR op_eq (pe_ix ix_tup (pv 0) pe_int (fun _ _ => rfl)) pe_str (nomark _)) (pss_one (ps_ret (pe_joined (.cons pe_str (.cons (pe_fmt (pe_ix ix_tup (pv 0) pe_int (fun _ _ => rfl))) .nil))))) pss_nil)
        (pss_cons (ps_if (pt_cmpR op_eq (pe_ix ix_tup (pv 0) pe_int (fun _ _ => rfl)) pe_str (nomark _)) (pss_one (ps_ret (pe_join pe_str (pe_op op_cat (pe_op op_cat (pe_lst (pa_cons pe_str pa_nil)) (pe_lc (own := [("_law_edge", 1)]) (g := gName 1) (tt := tYes) rfl sctext.nd (pi_tup (pe_ix ix_tup (pv 0) pe_int (fun _ _ => rfl))) (blkOk_by (own := [("_law_edge", 1)]) (N := Nmtext) (sc := defScope stext) (by decide +kernel)) (fun _ _ _ _ _ => pg_name (i := 1) sctext.nd rfl (Or.inl rfl)) (fun _ _ _ _ _ => pts_nil) (fun _ _ _ _ _ => (pe_callTy call_str_int (by rfl) T.n_str (by decide +kernel) (pa_cons (pv 1) pa_nil))))) (pe_lst (pa_cons (pe_joined (.cons pe_str (.cons (pe_fmt (pe_ix ix_tup (pv 0) pe_int (fun _ _ => rfl))) .nil))) pa_nil)))))) pss_nil)
        (pss_one (ps_ret (pe_joined (.cons (pe_fmt (pe_ix ix_tup (pv 0) pe_int (fun _ _ => rfl))) (.cons pe_str (.cons (pe_fmt (pe_call Gtext hrtext rfl Dtext.g Dtext.F.kp Dtext.b .nil pass0 (pa_cons (pe_ix ix_tup (pv 0) pe_int (fun _ _ => rfl)) pa_nil))) (.cons pe_str (.cons (pe_fmt (pe_call Gtext hrtext rfl Dtext.g Dtext.F.kp Dtext.b .nil pass0 (pa_cons (pe_ix ix_tup (pv 0) pe_int (fun _ _ => rfl)) pa_nil))) (.cons pe_str .nil))))))))))), ?_⟩
    have sz : sizeLine = 16777216 := rfl
    have e0 : Str.empty.length = 0 := rfl
    have ap := fun x y : Str => Str.length_append x y
    cases p with
    | win w =>
      have hx : H x = some (.tup [.str "window", .int w]) := hx
      have e1 : ("window " : Str).length = 7 := by decide +kernel
      have w0 := o.1
      have w1 := o.2
      have il := iT_len (i := w) (by omega) (by omega)
      refine ⟨_, rfl, _, _, _, _, rfl, rfl, SqT.of hx, rfl, rfl, _, rfl, iteT ?_⟩
      exact ⟨_, rfl, by rw [ap]; omega, _, rfl, _, _, _, _, rfl, rfl, SqT.of hx, rfl, .inr ⟨_, rfl, log_small (by omega) (by omega), _, rfl, by rw [ap, ap]; show _ + (iT w).length ≤ _; omega, k H (Same.refl H)⟩⟩
    | days bs e =>
      obtain ⟨z, hx, hz⟩ := hx
      have hA := o.2.2.2.2
      have hl := o.2.2.2.1
      have g0 := o.1
      have g1 := o.2.1
      have et : ("then " : Str).length = 5 := by decide +kernel
      have il := iT_len (i := e) (by omega) (by omega)
      refine ⟨_, rfl, _, _, _, _, rfl, rfl, SqT.of hx, rfl, rfl, _, rfl, iteF ?_⟩
      refine ⟨_, rfl, _, _, _, _, rfl, rfl, SqT.of hx, rfl, rfl, _, rfl, iteT ?_⟩
      refine ⟨⟨_, rfl⟩, (by show 1 ≤ sizeLine; decide), fun p1 hp1 => ?_⟩
      have t1 := same_new (o := .lst [.str "days"]) hp1
      have p1e : upd H p1 (.lst [.str "days"]) p1 = some (.lst [.str "days"]) := upd_same
      generalize upd H p1 (.lst [.str "days"]) = H4 at t1 p1e ⊢
      have hz4 := t1 _ _ hz
      have hx4 := t1 _ _ hx
      refine ⟨_, rfl, _, _, _, _, rfl, rfl, SqT.of hx4, rfl, z, rfl, ⟨_, SqT.of hz4⟩, fun D hD => lc_it (walk_tup (K := K) (a := z) (xs := bs.map V.int)) (fun i H' => Same H4 H' ∧ H' D = some (.lst ((bs.take i).map fun c => V.str (iT c))))
          ⟨same_new hD, upd_same⟩ (fun i H' _ ⟨s, _⟩ => sameT s (SqT.of hz4)) ?_ ?_⟩
      · rintro i y H5 H5' hi ⟨s5, d5⟩ ⟨rfl, hy⟩
        rw [List.length_map] at hi
        rw [List.getElem?_map, List.getElem?_eq_getElem hi] at hy
        cases hy
        have bd := hA.all _ (List.getElem_mem hi)
        refine ⟨rfl, _, rfl, _, rfl, log_small (by omega) (by omega), _, d5, ?_, ?_, ?_⟩
        · rw [List.length_map, List.length_take]
          exact Nat.lt_of_le_of_lt (Nat.min_le_left _ _) (Nat.lt_of_lt_of_le hi (Nat.le_trans hl (by decide)))
        · intro c u ec
          rw [upd_ne (ne_of_none ec hD)]
          exact s5 c u ec
        · rw [upd_same, List.take_add_one, List.getElem?_eq_getElem hi, List.map_append]
          rfl
      · rintro H5 ⟨s5, d5⟩
        rw [List.length_map, List.take_length] at d5
        have p15 := s5 _ _ p1e
        refine ⟨p1, D, _, _, rfl, rfl, p15, d5, ?_, fun p2 hp2 => ?_⟩
        · rw [List.length_map]
          show 1 + bs.length ≤ 16777216
          omega
        have t2 := same_new (o := .lst ([.str "days"] ++ bs.map fun c => V.str (iT c))) hp2
        have p2e : upd H5 p2 (.lst ([.str "days"] ++ bs.map fun c => V.str (iT c))) p2 = some (.lst ([.str "days"] ++ bs.map fun c => V.str (iT c))) := upd_same
        have hx6 := t2 _ _ (s5 _ _ hx4)
        generalize upd H5 p2 (.lst ([.str "days"] ++ bs.map fun c => V.str (iT c))) = H6 at t2 p2e hx6 ⊢
        refine ⟨_, rfl, by rw [ap]; omega, _, rfl, _, _, _, _, rfl, rfl, SqT.of hx6, rfl, .inr ⟨_, rfl, log_small (by omega) (by omega), _, rfl, by rw [ap, ap]; show _ + (iT e).length ≤ _; omega, (by show 1 ≤ sizeLine; decide), fun p3 hp3 => ?_⟩⟩
        have t3 := same_new (o := .lst [.str (Str.empty ++ "then " ++ Str.ofString (toString e))]) hp3
        have p3e : upd H6 p3 (.lst [.str (Str.empty ++ "then " ++ Str.ofString (toString e))]) p3 = some (.lst [.str (Str.empty ++ "then " ++ iT e)]) := upd_same
        generalize upd H6 p3 (.lst [.str (Str.empty ++ "then " ++ Str.ofString (toString e))]) = H7 at t3 p3e ⊢
        refine ⟨p2, p3, _, _, rfl, rfl, t3 _ _ p2e, p3e, ?_, fun p4 hp4 => ?_⟩
        · rw [List.length_append, List.length_map]
          show 1 + bs.length + 1 ≤ 16777216
          omega
        have ey : ([V.str "days"] ++ bs.map fun c => V.str (iT c)) ++ [V.str (Str.empty ++ "then " ++ iT e)] = (("days" : Str) :: (bs.map iT ++ [Str.empty ++ "then " ++ iT e])).map V.str := by
          rw [List.map_cons, List.map_append, List.map_map]
          rfl
        rw [ey]
        have yb : ∀ y ∈ (("days" : Str) :: (bs.map iT ++ [Str.empty ++ "then " ++ iT e])), y.length ≤ 1940 := by
          intro y hy
          simp only [List.mem_cons, List.mem_append, List.mem_map, List.not_mem_nil, or_false] at hy
          rcases hy with rfl | ⟨c, hc, rfl⟩ | rfl
          · decide +kernel
          · have := hA.all _ hc
            have := iT_len (i := c) (by omega) (by omega)
            omega
          · rw [ap, ap]
            omega
        have yl : (("days" : Str) :: (bs.map iT ++ [Str.empty ++ "then " ++ iT e])).length = bs.length + 2 := by
          rw [List.length_cons, List.length_append, List.length_map]
          rfl
        have el1 : (" " : Str).length = 1 := by decide +kernel
        refine ⟨_, p4, _, rfl, rfl, .inl (SqL.of upd_same), ?_, ?_⟩
        · have := sum_le yb
          rw [el1]
          omega
        rw [TL.join_eq, join_then]
        exact k _ (t1.trans (s5.trans (t2.trans (t3.trans (same_new hp4)))))
    | lat p q =>
      obtain ⟨y, z, hx, hp, hq⟩ := hx
      have hh' : 1 + max p.h q.h < n + 1 := hh
      have h2' : 1 + max p.h q.h ≤ 2 := h2
      have l1 := Nat.le_trans (p.text_len o.1) (Nat.le_trans (tb_le (show p.h ≤ 2 by omega)) (show tb 2 ≤ 160120 by decide))
      have l2 := Nat.le_trans (q.text_len o.2) (Nat.le_trans (tb_le (show q.h ≤ 2 by omega)) (show tb 2 ≤ 160120 by decide))
      have e1 : ("(" : Str).length = 1 := by decide +kernel
      have e2 : (", " : Str).length = 2 := by decide +kernel
      have e3 : (")" : Str).length = 1 := by decide +kernel
      have ew : ("later" : Str).length ≤ 6 := by decide +kernel
      refine ⟨_, rfl, _, _, _, _, rfl, rfl, SqT.of hx, rfl, rfl, _, rfl, iteF ?_⟩
      refine ⟨_, rfl, _, _, _, _, rfl, rfl, SqT.of hx, rfl, rfl, _, rfl, iteF ?_⟩
      refine ⟨_, rfl, _, _, _, _, rfl, rfl, SqT.of hx, rfl, .inl ⟨_, rfl, by omega, _, rfl, by rw [ap]; omega, _, rfl, by rw [ap, ap]; omega, ?_⟩⟩
      refine ⟨_, rfl, _, _, _, _, rfl, rfl, SqT.of hx, rfl, y, p, rfl, hp, o.1, by omega, by omega, fun H1 s1 => .inl ⟨_, rfl, by omega, _, rfl, by rw [ap, ap, ap]; omega, _, rfl, by rw [ap, ap, ap, ap]; omega, ?_⟩⟩
      refine ⟨_, rfl, _, _, _, _, rfl, rfl, SqT.of (s1 _ _ hx), rfl, z, q, rfl, hq.kt (Kt.same s1), o.2, by omega, by omega, fun H2 s2 => .inl ⟨_, rfl, by omega, _, rfl, by rw [ap, ap, ap, ap, ap]; omega, _, rfl, by rw [ap, ap, ap, ap, ap, ap]; omega, ?_⟩⟩
      exact k _ (s1.trans s2)
    | soo p q =>
      obtain ⟨y, z, hx, hp, hq⟩ := hx
      have hh' : 1 + max p.h q.h < n + 1 := hh
      have h2' : 1 + max p.h q.h ≤ 2 := h2
      have l1 := Nat.le_trans (p.text_len o.1) (Nat.le_trans (tb_le (show p.h ≤ 2 by omega)) (show tb 2 ≤ 160120 by decide))
      have l2 := Nat.le_trans (q.text_len o.2) (Nat.le_trans (tb_le (show q.h ≤ 2 by omega)) (show tb 2 ≤ 160120 by decide))
      have e1 : ("(" : Str).length = 1 := by decide +kernel
      have e2 : (", " : Str).length = 2 := by decide +kernel
      have e3 : (")" : Str).length = 1 := by decide +kernel
      have ew : ("sooner" : Str).length ≤ 6 := by decide +kernel
      refine ⟨_, rfl, _, _, _, _, rfl, rfl, SqT.of hx, rfl, rfl, _, rfl, iteF ?_⟩
      refine ⟨_, rfl, _, _, _, _, rfl, rfl, SqT.of hx, rfl, rfl, _, rfl, iteF ?_⟩
      refine ⟨_, rfl, _, _, _, _, rfl, rfl, SqT.of hx, rfl, .inl ⟨_, rfl, by omega, _, rfl, by rw [ap]; omega, _, rfl, by rw [ap, ap]; omega, ?_⟩⟩
      refine ⟨_, rfl, _, _, _, _, rfl, rfl, SqT.of hx, rfl, y, p, rfl, hp, o.1, by omega, by omega, fun H1 s1 => .inl ⟨_, rfl, by omega, _, rfl, by rw [ap, ap, ap]; omega, _, rfl, by rw [ap, ap, ap, ap]; omega, ?_⟩⟩
      refine ⟨_, rfl, _, _, _, _, rfl, rfl, SqT.of (s1 _ _ hx), rfl, z, q, rfl, hq.kt (Kt.same s1), o.2, by omega, by omega, fun H2 s2 => .inl ⟨_, rfl, by omega, _, rfl, by rw [ap, ap, ap, ap, ap]; omega, _, rfl, by rw [ap, ap, ap, ap, ap, ap]; omega, ?_⟩⟩
      exact k _ (s1.trans s2)
    | nex p q =>
      obtain ⟨y, z, hx, hp, hq⟩ := hx
      have hh' : 1 + max p.h q.h < n + 1 := hh
      have h2' : 1 + max p.h q.h ≤ 2 := h2
      have l1 := Nat.le_trans (p.text_len o.1) (Nat.le_trans (tb_le (show p.h ≤ 2 by omega)) (show tb 2 ≤ 160120 by decide))
      have l2 := Nat.le_trans (q.text_len o.2) (Nat.le_trans (tb_le (show q.h ≤ 2 by omega)) (show tb 2 ≤ 160120 by decide))
      have e1 : ("(" : Str).length = 1 := by decide +kernel
      have e2 : (", " : Str).length = 2 := by decide +kernel
      have e3 : (")" : Str).length = 1 := by decide +kernel
      have ew : ("next" : Str).length ≤ 6 := by decide +kernel
      refine ⟨_, rfl, _, _, _, _, rfl, rfl, SqT.of hx, rfl, rfl, _, rfl, iteF ?_⟩
      refine ⟨_, rfl, _, _, _, _, rfl, rfl, SqT.of hx, rfl, rfl, _, rfl, iteF ?_⟩
      refine ⟨_, rfl, _, _, _, _, rfl, rfl, SqT.of hx, rfl, .inl ⟨_, rfl, by omega, _, rfl, by rw [ap]; omega, _, rfl, by rw [ap, ap]; omega, ?_⟩⟩
      refine ⟨_, rfl, _, _, _, _, rfl, rfl, SqT.of hx, rfl, y, p, rfl, hp, o.1, by omega, by omega, fun H1 s1 => .inl ⟨_, rfl, by omega, _, rfl, by rw [ap, ap, ap]; omega, _, rfl, by rw [ap, ap, ap, ap]; omega, ?_⟩⟩
      refine ⟨_, rfl, _, _, _, _, rfl, rfl, SqT.of (s1 _ _ hx), rfl, z, q, rfl, hq.kt (Kt.same s1), o.2, by omega, by omega, fun H2 s2 => .inl ⟨_, rfl, by omega, _, rfl, by rw [ap, ap, ap, ap, ap]; omega, _, rfl, by rw [ap, ap, ap, ap, ap, ap]; omega, ?_⟩⟩
      exact k _ (s1.trans s2)
theorem ok_text {P : Program} {w : World} {K : PySem.W.Frag} {mg : Str → Option Value} {base : Heap} {f : Addr} {fd : FuncData} (D : Def K mg "_law_text" stext Ptext f fd) (T : Txt K mg) :
    FnOk P w K mg base CX0 3 f fd Ptext (sptext 3) := by
  have go : ∀ n : Nat, FnOk P w K mg base CX0 (n + 0) f fd Ptext (sptext n) := fun n => by
    induction n with
    | zero => exact LC.fn_none fun vs H Q E h => no_text h
    | succ n ih => exact step_text D T ih
  exact go 3
end k04
namespace k04
open PySem L2 LC RM
def spfacts (n : Nat) : Sp := fun vs H Q _ => ∃ (x : Addr) (p : Pl), vs = [.ref x] ∧ PlanAt H p x ∧ Good p ∧ p.h < n ∧ ∀ (T : Addr) H', Same H H' → H T = none → H' T = some (.tup [.int p.forms, .int p.per, .int p.bend]) → Q (.ref T) H'
theorem no_facts {vs : List V} {H : Hp} {Q : VK} {E : XK} (h : spfacts 0 vs H Q E) : False := by
  obtain ⟨_, _, _, _, _, h, _⟩ := h
  exact Nat.not_lt_zero _ h

theorem step_facts {P : Program} {w : World} {K : PySem.W.Frag} {mg : Str → Option Value} {base : Heap} {f : Addr} {fd : FuncData} (D : Def K mg "_law_facts" sfacts Pfacts f fd) (T : Txt K mg) {flcm : Addr} {fdlcm : FuncData} (Dlcm : Def K mg "_law_lcm" slcm Plcm flcm fdlcm) (Glcm : FnOk P w K mg base CX0 1 flcm fdlcm Plcm (splcm)) {n : Nat} (Gfacts : FnOk P w K mg base CX0 (n + 1) f fd Pfacts (spfacts n)) :
    FnOk P w K mg base CX0 (n + 2) f fd Pfacts (spfacts (n + 1)) := by
  refine D.F.ok scfacts (fun vs H Q E h => ?_) (fun cdv A outer s H vs Q E hr h => ?_)
  · obtain ⟨x, p, rfl, hx, gd, hh, k⟩ := h
    rfl
  · obtain ⟨x, p, rfl, hx, gd, hh, k⟩ := h
    have hrlcm : Room 1 _ := hr.mono (by omega)
    have Dfacts := D
    have hrfacts : Room (n + 1) _ := hr
    refine ⟨_, (pss_cons (ps_if (pt_cmpR op_eq (pe_ix ix_tup (pv 0) pe_int (fun _ _ => rfl)) pe_str (nomark _)) (pss_one (ps_ret (pe_tup (pa_cons pe_int (pa_cons pe_int (pa_cons pe_int pa_nil)))))) pss_nil)
        (pss_cons (ps_if (pt_cmpR op_eq (pe_ix ix_tup (pv 0) pe_int (fun _ _ => rfl)) pe_str (nomark _)) (pss_one (ps_ret (pe_tup (pa_cons pe_int (pa_cons (pe_ix ix_tup (pv 0) pe_int (fun _ _ => rfl)) (pa_cons (pe_ifExp (pt_truth (pe_ix ix_tup (pv 0) pe_int (fun _ _ => rfl)) (by intro _; rfl)) (pe_ix ix_tup (pe_ix ix_tup (pv 0) pe_int (fun _ _ => rfl)) (pe_un un_neg pe_int) (fun _ _ => rfl)) pe_int) pa_nil)))))) pss_nil)
        (pss_cons (ps_par (i := 1) (j := 2) (by rfl) scfacts.nd rfl rfl (by decide) rfl rfl (pa_cons (pe_call Gfacts hrfacts rfl Dfacts.g Dfacts.F.kp Dfacts.b .nil pass0 (pa_cons (pe_ix ix_tup (pv 0) pe_int (fun _ _ => rfl)) pa_nil)) (pa_cons (pe_call Gfacts hrfacts rfl Dfacts.g Dfacts.F.kp Dfacts.b .nil pass0 (pa_cons (pe_ix ix_tup (pv 0) pe_int (fun _ _ => rfl)) pa_nil)) pa_nil)) (by rfl))
        (pss_one (ps_ret (pe_tup (pa_cons (pe_op op_add (pe_op op_add pe_int (pe_ix ix_tup (pv 1) pe_int (fun _ _ => rfl))) (pe_ix ix_tup (pv 2) pe_int (fun _ _ => rfl))) (pa_cons (pe_call Glcm hrlcm rfl Dlcm.g Dlcm.F.kp Dlcm.b .nil pass0 (pa_cons (pe_ix ix_tup (pv 1) pe_int (fun _ _ => rfl)) (pa_cons (pe_ix ix_tup (pv 2) pe_int (fun _ _ => rfl)) pa_nil))) (pa_cons (pe_callB (call_max2 rfl) (by rfl) T.n_max (by decide +kernel) (pa_cons (pe_ix ix_tup (pv 1) pe_int (fun _ _ => rfl)) (pa_cons (pe_ix ix_tup (pv 2) pe_int (fun _ _ => rfl)) pa_nil))) pa_nil))))))))), ?_⟩
    cases p with
    | win w =>
      refine ⟨_, rfl, _, _, _, _, rfl, rfl, SqT.of hx, rfl, rfl, _, rfl, iteT ?_⟩
      exact ⟨(by show 3 ≤ sizeLine; decide), fun T hT => k T _ (same_new hT) hT upd_same⟩
    | days bs e =>
      obtain ⟨z, hx, hz⟩ := hx
      refine ⟨_, rfl, _, _, _, _, rfl, rfl, SqT.of hx, rfl, rfl, _, rfl, iteF ?_⟩
      refine ⟨_, rfl, _, _, _, _, rfl, rfl, SqT.of hx, rfl, rfl, _, rfl, iteT ?_⟩
      refine ⟨_, rfl, _, _, _, _, rfl, rfl, SqT.of hx, rfl, _, rfl, _, _, _, _, rfl, rfl, SqT.of hx, rfl, !(bs.map V.int).isEmpty, .inr (.inl ⟨_, SqT.of hz, rfl⟩), ?_⟩
      cases bs with
      | nil => exact iteF ⟨(by show 3 ≤ sizeLine; decide), fun T hT => k T _ (same_new hT) hT upd_same⟩
      | cons b r => exact iteT ⟨_, rfl, _, _, _, _, rfl, rfl, SqT.of hx, rfl, _, rfl, _, _, _, _, rfl, rfl, SqT.of hz, last_ix (by simp), (by show 3 ≤ sizeLine; decide), fun T hT => k T _ (same_new hT) hT upd_same⟩
    | lat p q =>
      obtain ⟨y, z, hx, hp, hq⟩ := hx
      have hh' : 1 + max p.h q.h < n + 1 := hh
      obtain ⟨g1, g2⟩ := Good.two gd.o.1 gd.o.2 gd.l gd.p2
      have p1 := g1.p1
      have p2 := g1.p2
      have p3 := g2.p1
      have p4 := g2.p2
      refine ⟨_, rfl, _, _, _, _, rfl, rfl, SqT.of hx, rfl, rfl, _, rfl, iteF ?_⟩
      refine ⟨_, rfl, _, _, _, _, rfl, rfl, SqT.of hx, rfl, rfl, _, rfl, iteF ?_⟩
      refine ⟨_, rfl, _, _, _, _, rfl, rfl, SqT.of hx, rfl, y, p, rfl, hp, g1, by omega, fun T1 H1 s1 n1 e1 => ?_⟩
      refine ⟨_, rfl, _, _, _, _, rfl, rfl, SqT.of (s1 _ _ hx), rfl, z, q, rfl, hq.kt (Kt.same s1), g2, by omega, fun T2 H2 s2 n2 e2 => ⟨_, _, rfl, ?_⟩⟩
      have e1' := s2 _ _ e1
      exact ⟨_, rfl, _, _, _, _, rfl, rfl, SqT.of e1', rfl, _, _, rfl, rfl, _, rfl, _, _, _, _, rfl, rfl, SqT.of e2, rfl, _, _, rfl, rfl, _, rfl, _, _, _, _, rfl, rfl, SqT.of e1', rfl, _, rfl, _, _, _, _, rfl, rfl, SqT.of e2, rfl, _, _, rfl, by omega, by omega, by omega, by omega, _, rfl, _, _, _, _, rfl, rfl, SqT.of e1', rfl, _, rfl, _, _, _, _, rfl, rfl, SqT.of e2, rfl, _, _, rfl, (by show 3 ≤ sizeLine; decide), fun T hT => k T _ (s1.trans (s2.trans (same_new hT))) (s1.free (s2.free hT)) upd_same⟩
    | soo p q =>
      obtain ⟨y, z, hx, hp, hq⟩ := hx
      have hh' : 1 + max p.h q.h < n + 1 := hh
      obtain ⟨g1, g2⟩ := Good.two gd.o.1 gd.o.2 gd.l gd.p2
      have p1 := g1.p1
      have p2 := g1.p2
      have p3 := g2.p1
      have p4 := g2.p2
      refine ⟨_, rfl, _, _, _, _, rfl, rfl, SqT.of hx, rfl, rfl, _, rfl, iteF ?_⟩
      refine ⟨_, rfl, _, _, _, _, rfl, rfl, SqT.of hx, rfl, rfl, _, rfl, iteF ?_⟩
      refine ⟨_, rfl, _, _, _, _, rfl, rfl, SqT.of hx, rfl, y, p, rfl, hp, g1, by omega, fun T1 H1 s1 n1 e1 => ?_⟩
      refine ⟨_, rfl, _, _, _, _, rfl, rfl, SqT.of (s1 _ _ hx), rfl, z, q, rfl, hq.kt (Kt.same s1), g2, by omega, fun T2 H2 s2 n2 e2 => ⟨_, _, rfl, ?_⟩⟩
      have e1' := s2 _ _ e1
      exact ⟨_, rfl, _, _, _, _, rfl, rfl, SqT.of e1', rfl, _, _, rfl, rfl, _, rfl, _, _, _, _, rfl, rfl, SqT.of e2, rfl, _, _, rfl, rfl, _, rfl, _, _, _, _, rfl, rfl, SqT.of e1', rfl, _, rfl, _, _, _, _, rfl, rfl, SqT.of e2, rfl, _, _, rfl, by omega, by omega, by omega, by omega, _, rfl, _, _, _, _, rfl, rfl, SqT.of e1', rfl, _, rfl, _, _, _, _, rfl, rfl, SqT.of e2, rfl, _, _, rfl, (by show 3 ≤ sizeLine; decide), fun T hT => k T _ (s1.trans (s2.trans (same_new hT))) (s1.free (s2.free hT)) upd_same⟩
    | nex p q =>
      obtain ⟨y, z, hx, hp, hq⟩ := hx
      have hh' : 1 + max p.h q.h < n + 1 := hh
      obtain ⟨g1, g2⟩ := Good.two gd.o.1 gd.o.2 gd.l gd.p2
      have p1 := g1.p1
      have p2 := g1.p2
      have p3 := g2.p1
      have p4 := g2.p2
      refine ⟨_, rfl, _, _, _, _, rfl, rfl, SqT.of hx, rfl, rfl, _, rfl, iteF ?_⟩
      refine ⟨_, rfl, _, _, _, _, rfl, rfl, SqT.of hx, rfl, rfl, _, rfl, iteF ?_⟩
      refine ⟨_, rfl, _, _, _, _, rfl, rfl, SqT.of hx, rfl, y, p, rfl, hp, g1, by omega, fun T1 H1 s1 n1 e1 => ?_⟩
      refine ⟨_, rfl, _, _, _, _, rfl, rfl, SqT.of (s1 _ _ hx), rfl, z, q, rfl, hq.kt (Kt.same s1), g2, by omega, fun T2 H2 s2 n2 e2 => ⟨_, _, rfl, ?_⟩⟩
      have e1' := s2 _ _ e1
      exact ⟨_, rfl, _, _, _, _, rfl, rfl, SqT.of e1', rfl, _, _, rfl, rfl, _, rfl, _, _, _, _, rfl, rfl, SqT.of e2, rfl, _, _, rfl, rfl, _, rfl, _, _, _, _, rfl, rfl, SqT.of e1', rfl, _, rfl, _, _, _, _, rfl, rfl, SqT.of e2, rfl, _, _, rfl, by omega, by omega, by omega, by omega, _, rfl, _, _, _, _, rfl, rfl, SqT.of e1', rfl, _, rfl, _, _, _, _, rfl, rfl, SqT.of e2, rfl, _, _, rfl, (by show 3 ≤ sizeLine; decide), fun T hT => k T _ (s1.trans (s2.trans (same_new hT))) (s1.free (s2.free hT)) upd_same⟩
theorem ok_facts {P : Program} {w : World} {K : PySem.W.Frag} {mg : Str → Option Value} {base : Heap} {f : Addr} {fd : FuncData} (D : Def K mg "_law_facts" sfacts Pfacts f fd) (T : Txt K mg) {flcm : Addr} {fdlcm : FuncData} (Dlcm : Def K mg "_law_lcm" slcm Plcm flcm fdlcm) (Glcm : FnOk P w K mg base CX0 1 flcm fdlcm Plcm (splcm)) :
    FnOk P w K mg base CX0 4 f fd Pfacts (spfacts 3) := by
  have go : ∀ n : Nat, FnOk P w K mg base CX0 (n + 1) f fd Pfacts (spfacts n) := fun n => by
    induction n with
    | zero => exact LC.fn_none fun vs H Q E h => no_facts h
    | succ n ih => exact step_facts D T Dlcm Glcm ih
  exact go 3
end k04
namespace k04
open PySem L2 LC RM
theorem ask_gives {X : Cx} {P : Program} {w : World} {base : Heap} {ce : Ce} {fInvalidNumber fInvalidBorders fInvalidRest fTooMany S g : Addr} {fdInvalidNumber fdInvalidBorders fdInvalidRest fdTooMany : FuncData} {cdg : Value} {q : Str}
    (RInvalidNumber : RE P w X.K X.mg base "InvalidNumber" "value" (ivF "InvalidNumber") ce.nu fInvalidNumber fdInvalidNumber) (RInvalidBorders : RE P w X.K X.mg base "InvalidBorders" "at" (atF "InvalidBorders") ce.bo fInvalidBorders fdInvalidBorders) (RInvalidRest : RE P w X.K X.mg base "InvalidRest" "value" (ivF "InvalidRest") ce.re fInvalidRest fdInvalidRest) (RTooMany : RTM P w X.K X.mg base ce.tm fTooMany fdTooMany)
    (eBN : PySem.W.exmOne X.K (.ref ce.bo) (.ref ce.nu) = some false) (eRN : PySem.W.exmOne X.K (.ref ce.re) (.ref ce.nu) = some false) (eRB : PySem.W.exmOne X.K (.ref ce.re) (.ref ce.bo) = some false) (eTN : PySem.W.exmOne X.K (.ref ce.tm) (.ref ce.nu) = some false) (eTB : PySem.W.exmOne X.K (.ref ce.tm) (.ref ce.bo) = some false) (eTR : PySem.W.exmOne X.K (.ref ce.tm) (.ref ce.re) = some false) (gSE : X.mg "SureletError" = some (.ref S)) :
    LL.GivesS X Nmask "_law_ask" (defScope sask) g cdg (defBody sask) "_law_deed" q (TAsk ce) := by
  intro f c' s H Q tl act hc h
  refine ⟨_, (pss_cons (ps_asg (pe_tup (pa_cons pe_non (pa_cons pe_non pa_nil))) (pg_tup rfl (pgs_cons (pg_name (i := 1) scask.nd rfl (Or.inl rfl)) (pgs_cons (pg_name (i := 2) scask.nd rfl (Or.inl rfl)) pgs_nil))))
        (pss_cons (LX.ps_try_asM rfl rfl scask.nd takes0 (fun W pn xe tk po => (pss_one (ps_set (i := 1) scask.nd rfl (Or.inl rfl) (act W pn xe _ _ tk))))
          (.cons (i := 3) rfl rfl ⟨rfl, by decide, .inl RInvalidNumber.er.gC⟩ (fun a oe cls d pn hz hf => (pss_one (ps_set (i := 2) scask.nd rfl (Or.inl rfl) (pe_lst (pa_cons pe_str (pa_cons (pe_xf RInvalidNumber.er.xf (RInvalidNumber.er.no _ (by decide +kernel)) hz hf (pv 3)) pa_nil)))))) (.cons (i := 3) rfl rfl ⟨rfl, by decide, .inl RInvalidBorders.er.gC⟩ (fun a oe cls d pn hz hf => (pss_one (ps_set (i := 2) scask.nd rfl (Or.inl rfl) (pe_lst (pa_cons pe_str (pa_cons (pe_xf RInvalidBorders.er.xf (RInvalidBorders.er.no _ (by decide +kernel)) hz hf (pv 3)) pa_nil)))))) (.cons (i := 3) rfl rfl ⟨rfl, by decide, .inl RInvalidRest.er.gC⟩ (fun a oe cls d pn hz hf => (pss_one (ps_set (i := 2) scask.nd rfl (Or.inl rfl) (pe_lst (pa_cons pe_str (pa_cons (pe_xf RInvalidRest.er.xf (RInvalidRest.er.no _ (by decide +kernel)) hz hf (pv 3)) pa_nil)))))) (.cons (i := 3) rfl rfl ⟨rfl, by decide, .inl RTooMany.er.gC⟩ (fun a oe cls d pn hz hf => (pss_one (ps_set (i := 2) scask.nd rfl (Or.inl rfl) (pe_lst (pa_cons pe_str (pa_cons (pe_xf RTooMany.er.xf (RTooMany.er.no _ (by decide +kernel)) hz hf (pv 3)) (pa_cons (pe_xf RTooMany.er.xf (RTooMany.er.no _ (by decide +kernel)) hz hf (pv 3)) pa_nil))))))) (.cons (i := 3) rfl rfl ⟨rfl, by decide, .inl gSE⟩ (fun a oe cls d pn hz hf => LC.pss_never) .nil))))))
        (pss_one (ps_ret (pe_tup (pa_cons (pv 1) (pa_cons (pv 2) pa_nil))))))), ?_⟩
  refine ⟨(by show 2 ≤ sizeLine; decide), fun T0 hT0 => ⟨T0, _, rfl, SqT.of upd_same, rfl, _, _, rfl, _, _, rfl, rfl, ?_⟩⟩
  have s0 := same_new (o := .tup [.non, .non]) hT0
  have hc1 := s0 _ _ hc
  generalize upd H T0 (.tup [.non, .non]) = H1 at s0 hc1 ⊢
  obtain ⟨G, hG, ht⟩ := h H1 s0
  refine ⟨rfl, hc1, ?_⟩
  refine ht _ _ (fun cls d H' hg => ?_) (fun v H' hv => ⟨_, rfl, _, rfl, (by show 2 ≤ sizeLine; decide), fun T hT => hv T hT⟩)
  obtain ⟨nm, C, dd, ws, fs, cs, rfl, rfl, hx, k⟩ := hG _ _ _ hg
  have fin : ∀ D, H' D = none → ∀ T, upd H' D (.lst (.str nm :: ws)) T = none → Q (.ref T) (upd (upd H' D (.lst (.str nm :: ws))) T (.tup [.non, .ref D])) := fun D hD T hT => by
    have nT : T ≠ D := fun z => by
      rw [z, upd_same] at hT
      cases hT
    have sD := same_new (o := .lst (.str nm :: ws)) hD
    exact k D T _ (sD.trans (same_new hT)) hD (sD.free hT) (by rw [upd_ne (Ne.symm nT)]; exact upd_same) upd_same
  cases cs with
  | nu v =>
    refine ⟨true, RInvalidNumber.er.te, fun _ e ne => ?_, fun q => Bool.noConfusion q⟩
    exact ⟨_, rfl, rfl, rfl, dd, _, v, rfl, hx, rfl, (by show 2 ≤ sizeLine; decide), fun D hD => ⟨_, rfl, _, rfl, (by show 2 ≤ sizeLine; decide), fun T hT => fin D hD T hT⟩⟩
  | bo v =>
    refine ⟨false, eBN, fun q => Bool.noConfusion q, fun _ => ⟨true, RInvalidBorders.er.te, fun _ e ne => ?_, fun q => Bool.noConfusion q⟩⟩
    exact ⟨_, rfl, rfl, rfl, dd, _, v, rfl, hx, rfl, (by show 2 ≤ sizeLine; decide), fun D hD => ⟨_, rfl, _, rfl, (by show 2 ≤ sizeLine; decide), fun T hT => fin D hD T hT⟩⟩
  | re v =>
    refine ⟨false, eRN, fun q => Bool.noConfusion q, fun _ => ⟨false, eRB, fun q => Bool.noConfusion q, fun _ => ⟨true, RInvalidRest.er.te, fun _ e ne => ?_, fun q => Bool.noConfusion q⟩⟩⟩
    exact ⟨_, rfl, rfl, rfl, dd, _, v, rfl, hx, rfl, (by show 2 ≤ sizeLine; decide), fun D hD => ⟨_, rfl, _, rfl, (by show 2 ≤ sizeLine; decide), fun T hT => fin D hD T hT⟩⟩
  | tm v n =>
    refine ⟨false, eTN, fun q => Bool.noConfusion q, fun _ => ⟨false, eTB, fun q => Bool.noConfusion q, fun _ => ⟨false, eTR, fun q => Bool.noConfusion q, fun _ => ⟨true, RTooMany.er.te, fun _ e ne => ?_, fun q => Bool.noConfusion q⟩⟩⟩⟩
    exact ⟨_, rfl, rfl, rfl, dd, _, v, rfl, hx, rfl, _, rfl, rfl, rfl, dd, _, n, rfl, hx, rfl, (by show 3 ≤ sizeLine; decide), fun D hD => ⟨_, rfl, _, rfl, (by show 2 ≤ sizeLine; decide), fun T hT => fin D hD T hT⟩⟩
end k04
namespace k04
open PySem L2 LC RM
def spin : Sp := fun vs H Q _ => ∃ (F : Addr → Prop) (n : Nat) (v : V) (lo hi : Int), vs = [v, .int lo, .int hi] ∧ Ov F H n v ∧ Q (.bl (isNum v lo hi)) H
theorem ok_in {P : Program} {w : World} {K : PySem.W.Frag} {mg : Str → Option Value} {base : Heap} {f : Addr} {fd : FuncData} (D : Def K mg "_law_in" sin Pin f fd) (T : Txt K mg) :
    FnOk P w K mg base CX0 1 f fd Pin (spin) := by
  refine D.F.ok scin (fun vs H Q E h => ?_) (fun cdv A outer s H vs Q E hr h => ?_)
  · obtain ⟨F, n, v, lo, hi, rfl, o, k⟩ := h
    rfl
  · obtain ⟨F, n, v, lo, hi, rfl, o, k⟩ := h
    refine ⟨_, (pss_one (ps_ret (pe_and (pe_callB call_isi (by rfl) T.n_isinstance (by decide +kernel) (pa_cons (pv 0) (pa_cons (pe_ty "int" (by rfl) T.n_int (by decide +kernel)) pa_nil))) (pe_and (pe_not (pe_callB call_isi (by rfl) T.n_isinstance (by decide +kernel) (pa_cons (pv 0) (pa_cons (pe_ty "bool" (by rfl) T.n_bool (by decide +kernel)) pa_nil)))) (pe_and (pe_cmpR op_le (pv 1) (pv 0) (nomark _)) (pe_one (pe_cmpR op_le (pv 0) (pv 2) (nomark _)))))))), ?_⟩
    obtain ⟨t, ty, ki, kb, _, _⟩ := o.ty (K := K)
    refine ⟨_, rfl, _, _, _, _, _, rfl, .ty _, ty, kit_ty ki, _, rfl, ?_⟩
    cases v with
    | int i =>
      refine iteT ⟨_, rfl, _, _, _, _, _, rfl, .ty _, ty, kit_ty kb, _, rfl, _, rfl, ?_⟩
      refine iteT ⟨_, rfl, _, rfl, _, _, rfl, rfl, _, rfl, ?_⟩
      have e : isNum (.int i) lo hi = (decide (lo ≤ i) && decide (i ≤ hi)) := rfl
      refine ite_d (fun h1 => ?_) (fun h1 => ?_)
      · refine ⟨_, rfl, _, rfl, _, _, rfl, rfl, ?_⟩
        rw [e, decide_eq_true h1, Bool.true_and] at k
        exact k
      · rw [e, decide_eq_false h1, Bool.false_and] at k
        exact k
    | bl b => exact iteT ⟨_, rfl, _, _, _, _, _, rfl, .ty _, ty, kit_ty kb, _, rfl, _, rfl, iteF k⟩
    | _ => exact iteF k
end k04
namespace k04
open PySem L2 LC RM
def spnumber : Sp := fun vs H Q _ => ∃ (g l : Addr) (F : Addr → Prop) (hi : Int), vs = [.ref g, .int hi] ∧ Bag l H g ∧ F g ∧ (∀ b, F b → ∃ o, H b = some o) ∧ 40 ≤ hi ∧ hi ≤ 2000 ∧ ∀ v H', Ov F H' 2 v → Ok g l H H' → Q v H'
theorem ok_number {P : Program} {w : World} {K : PySem.W.Frag} {mg : Str → Option Value} {base : Heap} {f : Addr} {fd : FuncData} (D : Def K mg "_law_number" snumber Pnumber f fd) (T : Txt K mg) {fdraw : Addr} {fddraw : FuncData} (Ddraw : Def K mg "_law_draw" sdraw Pdraw fdraw fddraw) (Gdraw : FnOk P w K mg base CX0 1 fdraw fddraw Pdraw (spdraw)) {fof : Addr} {fdof : FuncData} (Dof : Def K mg "_law_of" sof Pof fof fdof) (Gof : FnOk P w K mg base CX0 2 fof fdof Pof (spof K)) {fodd : Addr} {fdodd : FuncData} (Dodd : Def K mg "_law_odd" sodd Podd fodd fdodd) (Godd : FnOk P w K mg base CX0 3 fodd fdodd Podd (spodd)) :
    FnOk P w K mg base CX0 4 f fd Pnumber (spnumber) := by
  refine D.F.ok scnumber (fun vs H Q E h => ?_) (fun cdv A outer s H vs Q E hr h => ?_)
  · obtain ⟨g, l, F, hi, rfl, B, Fg, hF, h0, h1, k⟩ := h
    rfl
  · obtain ⟨g, l, F, hi, rfl, B, Fg, hF, h0, h1, k⟩ := h
    have hrdraw : Room 1 _ := hr.mono (by decide)
    have hrof : Room 2 _ := hr.mono (by decide)
    have hrodd : Room 3 _ := hr.mono (by decide)
    refine ⟨_, (pss_cons (ps_set (i := 2) scnumber.nd rfl (Or.inl rfl) (pe_call Gdraw hrdraw rfl Ddraw.g Ddraw.F.kp Ddraw.b .nil pass0 (pa_cons (pv 0) (pa_cons pe_int pa_nil))))
        (pss_cons (ps_if (pt_cmpR op_eq (pv 2) pe_int (nomark _)) (pss_one (ps_ret (pe_call Godd hrodd rfl Dodd.g Dodd.F.kp Dodd.b .nil pass0 (pa_cons (pv 0) pa_nil)))) pss_nil)
        (pss_cons (ps_if (pt_cmpR op_eq (pv 2) pe_int (nomark _)) (pss_one (ps_ret (pe_call Gof hrof rfl Dof.g Dof.F.kp Dof.b .nil pass0 (pa_cons (pv 0) (pa_cons (pe_lst (pa_cons pe_int (pa_cons (pe_op op_add (pv 1) pe_int) (pa_cons (pe_un un_neg pe_int) (pa_cons pe_bl (pa_cons pe_bl (pa_cons pe_non (pa_cons pe_str (pa_cons (pe_tup (pa_cons pe_int pa_nil)) (pa_cons (pe_lst (pa_cons pe_int pa_nil)) pa_nil)))))))))) pa_nil))))) pss_nil)
        (pss_cons (ps_if (pt_cmpR op_eq (pv 2) pe_int (nomark _)) (pss_one (ps_ret (pe_call Gof hrof rfl Dof.g Dof.F.kp Dof.b .nil pass0 (pa_cons (pv 0) (pa_cons (pe_lst (pa_cons pe_int (pa_cons (pv 1) (pa_cons (pe_op op_sub (pv 1) pe_int) pa_nil)))) pa_nil))))) pss_nil)
        (pss_one (ps_ret (pe_op op_add pe_int (pe_call Gdraw hrdraw rfl Ddraw.g Ddraw.F.kp Ddraw.b .nil pass0 (pa_cons (pv 0) (pa_cons (pe_call Gof hrof rfl Dof.g Dof.F.kp Dof.b .nil pass0 (pa_cons (pv 0) (pa_cons (pe_lst (pa_cons pe_int (pa_cons pe_int (pa_cons (pv 1) pa_nil)))) pa_nil))) pa_nil)))))))))), ?_⟩
    refine ⟨_, rfl, g, l, 8, rfl, B, by decide, by decide, fun d H1 d0 d1 r1 => ?_⟩
    refine ⟨_, rfl, rfl, _, rfl, ite_eq (fun _ => ?_) (fun _ => ?_)⟩
    · exact ⟨_, rfl, g, l, F, rfl, r1.bag, Fg, hF_ok hF r1, fun v H' o _ r => k v H' o (r1.trans r)⟩
    refine ⟨_, rfl, rfl, _, rfl, ite_eq (fun _ => ?_) (fun _ => ?_)⟩
    · refine ⟨_, rfl, _, rfl, _, _, rfl, rfl, _, rfl, (by show 1 ≤ sizeLine; decide), fun t ht => ⟨(by show 1 ≤ sizeLine; decide), fun q hq => ⟨(by show 9 ≤ sizeLine; decide), fun p hp => ?_⟩⟩⟩
      have nt := nF_of hF r1 ht
      have r2 := r1.new (o := .tup [.int 5]) ht
      have nq := nF_of hF r2 hq
      have r3 := r2.new (o := .lst [.int 5]) hq
      have et : upd (upd H1 t (.tup [.int 5])) q (.lst [.int 5]) t = some (.tup [.int 5]) := by rw [upd_ne (ne_of_none upd_same hq)]; exact upd_same
      refine of_disp (E := E0) r3 hp (by show 0 < 9; decide) (by show 9 ≤ 1000000; decide) fun x H' hx kk r => k x H' ?_ r
      have kf := KpF.kp Fg kk
      have five : ∀ u ∈ [V.int 5], Ov F H' 1 u := fun u hu => by
        rw [List.mem_singleton.mp hu]
        exact Ov.sz (by exact True.intro) 1
      simp only [List.mem_cons, List.not_mem_nil, or_false] at hx
      rcases hx with rfl | rfl | rfl | rfl | rfl | rfl | rfl | rfl | rfl
      · exact Ov.sz (by exact True.intro) 2
      · exact Ov.sz (by exact True.intro) 2
      · exact Ov.sz (by exact True.intro) 2
      · exact Ov.sz (by exact True.intro) 2
      · exact Ov.sz (by exact True.intro) 2
      · exact Ov.sz (by exact True.intro) 2
      · exact Ov.sz (by show Str.length _ ≤ 1000000; decide +kernel) 2
      · exact .inr (.inr ⟨false, t, _, rfl, nt, kf _ _ nt tupN et, by decide, five⟩)
      · exact .inr (.inr ⟨true, q, _, rfl, nq, kf _ _ nq lstN upd_same, by decide, five⟩)
    refine ⟨_, rfl, rfl, _, rfl, ite_eq (fun _ => ?_) (fun _ => ?_)⟩
    · refine ⟨_, rfl, _, rfl, _, rfl, _, _, rfl, rfl, (by show 3 ≤ sizeLine; decide), fun p hp => of_disp (E := E0) r1 hp (by show 0 < 3; decide) (by show 3 ≤ 1000000; decide) fun x H' hx kk r => k x H' ?_ r⟩
      simp only [List.mem_cons, List.not_mem_nil, or_false] at hx
      rcases hx with rfl | rfl | rfl
      all_goals exact Ov.sz (by exact True.intro) 2
    refine ⟨_, rfl, _, rfl, _, rfl, (by show 3 ≤ sizeLine; decide), fun p hp => of_disp (E := E0) r1 hp (by show 0 < 3; decide) (by show 3 ≤ 1000000; decide) fun x H2 hx kk r2 => ?_⟩
    obtain ⟨m, rfl, m0, m1⟩ : ∃ m : Int, x = .int m ∧ 1 ≤ m ∧ m ≤ 2000 := by
      simp only [List.mem_cons, List.not_mem_nil, or_false] at hx
      rcases hx with rfl | rfl | rfl
      · exact ⟨6, rfl, by decide, by decide⟩
      · exact ⟨40, rfl, by decide, by decide⟩
      · exact ⟨hi, rfl, by omega, by omega⟩
    exact ⟨g, l, m, rfl, r2.bag, by omega, by omega, fun d3 H3 d30 d31 r3 => ⟨_, _, rfl, rfl, k _ H3 (Ov.sz (by exact True.intro) 2) (r2.trans r3)⟩⟩
end k04
namespace k04
open PySem L2 LC RM
def spborders : Sp := fun vs H Q _ => ∃ (g l : Addr) (F : Addr → Prop), vs = [.ref g] ∧ Bag l H g ∧ F g ∧ (∀ b, F b → ∃ o, H b = some o) ∧ ∀ v o H', BorV F H' v o → (∀ xs, o = some xs → ∃ p, v = .ref p ∧ H p = none) → Ok g l H H' → Q v H'
theorem ok_borders {P : Program} {w : World} {K : PySem.W.Frag} {mg : Str → Option Value} {base : Heap} {f : Addr} {fd : FuncData} (D : Def K mg "_law_borders" sborders Pborders f fd) (T : Txt K mg) {fdraw : Addr} {fddraw : FuncData} (Ddraw : Def K mg "_law_draw" sdraw Pdraw fdraw fddraw) (Gdraw : FnOk P w K mg base CX0 1 fdraw fddraw Pdraw (spdraw)) {fof : Addr} {fdof : FuncData} (Dof : Def K mg "_law_of" sof Pof fof fdof) (Gof : FnOk P w K mg base CX0 2 fof fdof Pof (spof K)) :
    FnOk P w K mg base CX0 3 f fd Pborders (spborders) := by
  refine D.F.ok scborders (fun vs H Q E h => ?_) (fun cdv A outer s H vs Q E hr h => ?_)
  · obtain ⟨g, l, F, rfl, B, Fg, hF, k⟩ := h
    rfl
  · obtain ⟨g, l, F, rfl, B, Fg, hF, k⟩ := h
    have hrdraw : Room 1 _ := hr.mono (by decide)
    have hrof : Room 2 _ := hr.mono (by decide)
    refine ⟨_, (pss_cons (ps_par (i := 1) (j := 2) (by rfl) scborders.nd rfl rfl (by decide) rfl rfl (pa_cons (pe_lst pa_nil) (pa_cons pe_int pa_nil)) (by rfl))
        (pss_cons (ps_for PassesOwn.never rfl (pi_range1 rfl T.n_range (pa_cons (pe_call Gof hrof rfl Dof.g Dof.F.kp Dof.b .nil pass0 (pa_cons (pv 0) (pa_cons (pe_lst (pa_cons pe_int (pa_cons pe_int (pa_cons pe_int (pa_cons pe_int (pa_cons pe_int (pa_cons pe_int (pa_cons pe_int (pa_cons pe_int (pa_cons pe_int (pa_cons pe_int pa_nil))))))))))) pa_nil))) pa_nil)) (pg_name (i := 3) scborders.nd rfl (Or.inl rfl))
          (pss_cons (ps_set (i := 2) scborders.nd rfl (Or.inl rfl) (pe_op op_add (pe_op op_add (pv 2) pe_int) (pe_call Gdraw hrdraw rfl Ddraw.g Ddraw.F.kp Ddraw.b .nil pass0 (pa_cons (pv 0) (pa_cons (pe_call Gof hrof rfl Dof.g Dof.F.kp Dof.b .nil pass0 (pa_cons (pv 0) (pa_cons (pe_lst (pa_cons pe_int (pa_cons pe_int pa_nil))) pa_nil))) pa_nil)))))
        (pss_one (ps_expr (pe_bm PySem.F.plainAttrs_list PySem.F.slot_list_append PySem.F.type_list_append mt_append (pv 1) (pa_cons (pv 2) pa_nil))))))
        (pss_cons (ps_for PassesOwn.never rfl (pi_range1 rfl T.n_range (pa_cons (pe_call Gof hrof rfl Dof.g Dof.F.kp Dof.b .nil pass0 (pa_cons (pv 0) (pa_cons (pe_lst (pa_cons pe_int (pa_cons pe_int (pa_cons pe_int (pa_cons pe_int (pa_cons pe_int pa_nil)))))) pa_nil))) pa_nil)) (pg_name (i := 3) scborders.nd rfl (Or.inl rfl))
          (pss_one (ps_if (pt_truth (pv 1) (by intro _; rfl)) (pss_cons (ps_set (i := 4) scborders.nd rfl (Or.inl rfl) (pe_call Gdraw hrdraw rfl Ddraw.g Ddraw.F.kp Ddraw.b .nil pass0 (pa_cons (pv 0) (pa_cons (pe_callB call_len_seq (by rfl) T.n_len PySem.boot_len (pa_cons (pv 1) pa_nil)) pa_nil))))
        (pss_cons (ps_set (i := 5) scborders.nd rfl (Or.inl rfl) (pe_call Gof hrof rfl Dof.g Dof.F.kp Dof.b .nil pass0 (pa_cons (pv 0) (pa_cons (pe_lst (pa_cons pe_int (pa_cons pe_int (pa_cons pe_bl (pa_cons pe_non (pa_cons pe_str (pa_cons (pe_tup (pa_cons pe_int pa_nil)) (pa_cons (pe_lst (pa_cons pe_int pa_nil)) (pa_cons (pe_ix ix_list (pv 1) (pe_op op_sub (pv 4) pe_int) (fun _ _ => rfl)) (pa_cons (pe_un un_neg pe_int) (pa_cons pe_int (pa_cons pe_int pa_nil)))))))))))) pa_nil))))
        (pss_one (ps_asg (pv 5) (pg_sub (pv 1) (pv 4) set_list))))) pss_nil)))
        (pss_cons (ps_set (i := 6) scborders.nd rfl (Or.inl rfl) (pe_call Gdraw hrdraw rfl Ddraw.g Ddraw.F.kp Ddraw.b .nil pass0 (pa_cons (pv 0) (pa_cons pe_int pa_nil))))
        (pss_cons (ps_if (pt_cmpR op_eq (pv 6) pe_int (nomark _)) (pss_one (ps_ret (pe_call Gof hrof rfl Dof.g Dof.F.kp Dof.b .nil pass0 (pa_cons (pv 0) (pa_cons (pe_lst (pa_cons pe_non (pa_cons pe_int (pa_cons pe_str (pa_cons pe_str (pa_cons pe_dnewK (pa_cons (pe_disp (pps_cons pe_int pe_int pps_nil) (by rfl) (by rfl) (fun z => by cases z) (by decide)) (pa_cons pe_bl pa_nil)))))))) pa_nil))))) pss_nil)
        (pss_one (ps_ret (pe_ifExp (pt_cmpR op_lt (pv 6) pe_int (nomark _)) (pe_callTy call_tuple_of (by rfl) T.n_tuple (by decide +kernel) (pa_cons (pv 1) pa_nil)) (pv 1))))))))), ?_⟩
    refine ⟨Nat.zero_le _, fun S hS => ⟨_, _, rfl, ?_⟩⟩
    have R1 := (Ok.refl B).new (o := .lst []) hS
    have nS := B.ne hS
    have FS := nF_of hF (Ok.refl B) hS
    refine ⟨_, rfl, (by show 10 ≤ sizeLine; decide), fun p hp => of_disp (E := E0) R1 hp (by show 0 < 10; decide) (by show 10 ≤ 1000000; decide) fun x H2 hx kk R2 => ?_⟩
    obtain ⟨n, rfl, n14⟩ := pick_nat [0, 1, 2, 3, 5, 11, 12, 13, 14, 2] (m := 14) hx (by decide)
    have eS2 := kk _ _ nS.1 (upd_same (H := H) (a := S) (o := .lst []))
    refine ⟨_, rfl, by omega, by omega, for_range (lo := 0) (n := n) (fun i σ H' => ∃ (xs : List V) (ed : Int) (v : Option V), σ = [some (.ref g), some (.ref S), some (.int ed), v, none, none, none] ∧ Ok g l H H' ∧ H' S = some (.lst xs) ∧ xs.length = i ∧ (∀ u ∈ xs, ∃ j : Int, u = .int j) ∧ 0 ≤ ed ∧ ed ≤ 71 * i)
      ⟨[], 0, none, rfl, R2, eS2, rfl, (fun b hb => by cases hb), by decide, by decide⟩ ?_ ?_⟩
    · rintro i σ H3 hi ⟨xs, ed, v, rfl, R3, eS3, hl, hu, e0, e1⟩
      refine ⟨_, rfl, _, _, rfl, rfl, _, rfl, _, rfl, (by show 2 ≤ sizeLine; decide), fun p hp => of_disp (E := E0) (Ok.refl R3.bag) hp (by show 0 < 2; decide) (by show 2 ≤ 1000000; decide) fun x H4 hx _ r4 => ?_⟩
      obtain ⟨m, rfl, m0, m1⟩ : ∃ m : Int, x = .int m ∧ 1 ≤ m ∧ m ≤ 70 := by
        simp only [List.mem_cons, List.not_mem_nil, or_false] at hx
        rcases hx with rfl | rfl
        · exact ⟨3, rfl, by decide, by decide⟩
        · exact ⟨70, rfl, by decide, by decide⟩
      refine ⟨g, l, m, rfl, r4.bag, by omega, by omega, fun d H5 d0 d1 r5 => ⟨_, _, rfl, rfl, ?_⟩⟩
      have r := r4.trans r5
      have eS5 := r.at_ eS3 nS.1
      refine ⟨_, rfl, .inl ⟨rfl, _, SqL.of eS5⟩, _, rfl, S, _, _, rfl, rfl, eS5, Nat.lt_of_le_of_lt (show xs.length ≤ 14 by omega) (by decide), ?_⟩
      exact ⟨xs ++ [.int (ed + 1 + d)], _, _, rfl, (R3.trans r).mut hS, upd_same, by rw [List.length_append, hl]; rfl, fun u hu' => (List.mem_append.mp hu').elim (hu u) (fun z => ⟨_, List.mem_singleton.mp z⟩), by omega, by omega⟩
    rintro σ H3 ⟨xs, ed, v3, rfl, R3, eS3, hl, hu, e0, e1⟩
    refine ⟨_, rfl, (by show 5 ≤ sizeLine; decide), fun p hp => of_disp (E := E0) R3 hp (by show 0 < 5; decide) (by show 5 ≤ 1000000; decide) fun x H4 hx kk R4 => ?_⟩
    obtain ⟨n2, rfl, n22⟩ := pick_nat [0, 0, 1, 0, 2] (m := 2) hx (by decide)
    have eS4 := kk _ _ nS.1 eS3
    have F2 : ∀ b, F b → (fun b => F b ∨ b = S) b := fun b z => .inl z
    refine ⟨_, rfl, by omega, by omega, for_range (lo := 0) (n := n2) (fun i σ H' => ∃ (xs : List V) (ed : Int) (v v4 v5 : Option V), σ = [some (.ref g), some (.ref S), some (.int ed), v, v4, v5, none] ∧ Ok g l H H' ∧ H' S = some (.lst xs) ∧ xs.length ≤ 14 ∧ (∀ u ∈ xs, Ov (fun b => F b ∨ b = S) H' 1 u))
      ⟨xs, ed, v3, none, none, rfl, R4, eS4, by omega, fun u h => (by obtain ⟨j, rfl⟩ := hu u h; exact Ov.sz (by exact True.intro) 1)⟩ ?_ ?_⟩
    · rintro i σ H5 hi ⟨xs, ed, v, v4, v5, rfl, R5, eS5, hl, hu⟩
      have hF5 : ∀ b, (fun b => F b ∨ b = S) b → ∃ o, H5 b = some o := fun b z => z.elim (fun z => hF_ok hF R5 b z) (fun z => by cases z; exact ⟨_, eS5⟩)
      have Fg2 : (fun b => F b ∨ b = S) g := .inl Fg
      refine ⟨_, rfl, !xs.isEmpty, .inl ⟨_, SqL.of eS5, rfl⟩, ite_nb (fun hne => ?_) (fun _ => ⟨xs, ed, _, v4, v5, rfl, R5, eS5, hl, hu⟩)⟩
      have h0 : 0 < xs.length := by
        cases xs with
        | nil => exact absurd hne (by decide)
        | cons _ _ => exact Nat.succ_pos _
      refine ⟨_, rfl, _, rfl, S, xs, rfl, .inl (SqL.of eS5), g, l, _, rfl, R5.bag, by omega, by omega, fun d H6 d0 d1 r6 => ?_⟩
      have R6 := R5.trans r6
      have eS6 := r6.at_ eS5 nS.1
      obtain ⟨um, hum, eum⟩ := atI_mem (xs := xs) d0 d1
      obtain ⟨jn, rfl⟩ : ∃ jn : Nat, d = (jn : Int) := ⟨d.toNat, by omega⟩
      refine ⟨_, rfl, (by show 1 ≤ sizeLine; decide), fun t ht => ⟨(by show 1 ≤ sizeLine; decide), fun q hq => ?_⟩⟩
      have nt := nF_of hF5 r6 ht
      have r7 := r6.new (o := .tup [.int 3]) ht
      have nq := nF_of hF5 r7 hq
      have r8 := r7.new (o := .lst [.int 3]) hq
      have et : upd (upd H6 t (.tup [.int 3])) q (.lst [.int 3]) t = some (.tup [.int 3]) := by rw [upd_ne (ne_of_none upd_same hq)]; exact upd_same
      have eq1 : upd (upd H6 t (.tup [.int 3])) q (.lst [.int 3]) q = some (.lst [.int 3]) := upd_same
      have s68 := (same_new (o := .tup [.int 3]) ht).trans (same_new (o := .lst [.int 3]) hq)
      have eS8 := s68 _ _ eS6
      generalize upd (upd H6 t (.tup [.int 3])) q (.lst [.int 3]) = H8 at r8 et eq1 s68 eS8 ⊢
      have R8 := R5.trans r8
      refine ⟨_, rfl, _, rfl, _, _, rfl, rfl, _, _, _, _, rfl, rfl, SqL.of eS8, eum, _, rfl, (by show 11 ≤ sizeLine; decide), fun p hp => ?_⟩
      refine of_disp (E := E0) R8 hp (by show 0 < 11; decide) (by show 11 ≤ 1000000; decide) fun x H9 hx kk9 R9 => ?_
      have k9 : KpF (fun b => F b ∨ b = S) H8 H9 := KpF.kp Fg2 kk9
      have eS9 := kk9 _ _ nS.1 eS8
      have k59 : KpF (fun b => F b ∨ b = S) H5 H9 := (KpF.kp Fg2 r6.kp).trans ((KpF.same s68).trans k9)
      have three : ∀ u ∈ [V.int 3], Ov (fun b => F b ∨ b = S) H9 0 u := fun u hu => by
        rw [List.mem_singleton.mp hu]
        exact True.intro
      have ox : Ov (fun b => F b ∨ b = S) H9 1 x := by
        simp only [List.mem_cons, List.not_mem_nil, or_false] at hx
        rcases hx with rfl | rfl | rfl | rfl | rfl | rfl | rfl | rfl | rfl | rfl | rfl
        · exact Ov.sz (by exact True.intro) 1
        · exact Ov.sz (by exact True.intro) 1
        · exact Ov.sz (by exact True.intro) 1
        · exact Ov.sz (by exact True.intro) 1
        · exact Ov.sz (by show Str.length _ ≤ 1000000; decide +kernel) 1
        · exact .inr (.inr ⟨false, t, _, rfl, nt, k9 _ _ nt tupN et, by decide, three⟩)
        · exact .inr (.inr ⟨true, q, _, rfl, nq, k9 _ _ nq lstN eq1, by decide, three⟩)
        · exact (hu _ hum).kp k59
        · exact Ov.sz (by exact True.intro) 1
        · exact Ov.sz (by exact True.intro) 1
        · exact Ov.sz (by exact True.intro) 1
      refine ⟨_, rfl, _, rfl, _, rfl, S, _, _, jn, rfl, rfl, eS9, ixN_nat (by omega), ?_⟩
      have km : KpF (fun b => F b ∨ b = S) H9 (upd H9 S (.lst (xs.set jn x))) := KpF.mut' (.inr rfl)
      refine ⟨xs.set jn x, ed, _, _, _, rfl, R9.mut hS, upd_same, by rw [List.length_set]; exact hl, fun u h => ?_⟩
      rcases List.mem_or_eq_of_mem_set h with h | rfl
      · exact ((hu u h).kp k59).kp km
      · exact ox.kp km
    rintro σ H5 ⟨xs, ed, v, v4, v5, rfl, R5, eS5, hl, hu⟩
    refine ⟨_, rfl, g, l, 10, rfl, R5.bag, by decide, by decide, fun d H6 d0 d1 r6 => ?_⟩
    have R6 := R5.trans r6
    have eS6 := r6.at_ eS5 nS.1
    have hu6 : ∀ u ∈ xs, Ov F H6 1 u := fun u h => ((hu u h).mono F2).kp (KpF.kp Fg r6.kp)
    refine ⟨_, rfl, rfl, _, rfl, ite_eq (fun _ => ?_) (fun _ => ?_)⟩
    · refine ⟨_, rfl, fun d1 hd1 => ?_⟩
      have f1 := nF_of hF R6 hd1
      have q1 := R6.new (o := .dK []) hd1
      intro d2 hd2
      have f2 := nF_of hF q1 hd2
      have q2 := q1.new (o := .dK []) hd2
      refine ⟨upd_same, [(.inl 1, .int 2)], rfl, by show 1 ≤ 15; decide, ?_⟩
      have q2' := q2.mut (o := .dK (mergeK [] [(.inl 1, .int 2)])) (q1.free hd2)
      have k2 : DkOk (mergeK [] [(.inl 1, .int 2)]) := dk1 (.inl rfl)
      have t1 : Dq F _ d1 := (Dq.new (F := F) ⟨f1, [], upd_same, dk0⟩ (o := .dK []) hd2).dict (q := d2) k2
      have t2 : Dq F (upd (upd (upd H6 d1 (.dK [])) d2 (.dK [])) d2 (.dK (mergeK [] [(.inl 1, .int 2)]))) d2 := ⟨f2, _, upd_same, k2⟩
      refine ⟨(by show 7 ≤ sizeLine; decide), fun p hp => of_disp (E := E0) q2' hp (by show 0 < 7; decide) (by show 7 ≤ 1000000; decide) fun x H' hx kk r' => k x none H' ?_ (fun xs z => by cases z) r'⟩
      have kf := KpF.kp Fg kk
      have dq : ∀ {d : Addr}, Dq F _ d → BorV F H' (.ref d) none := fun {d} t => (BorV.kp kf (o := none) (.inr (by obtain ⟨n, ks, e, kd⟩ := t; exact ⟨d, ks, rfl, n, e, kd⟩)))
      simp only [List.mem_cons, List.not_mem_nil, or_false] at hx
      rcases hx with rfl | rfl | rfl | rfl | rfl | rfl | rfl
      · exact .inl True.intro
      · exact .inl True.intro
      · exact .inl (by show Str.length _ ≤ 1000000; decide +kernel)
      · exact .inl (by show Str.length _ ≤ 1000000; decide +kernel)
      · exact dq t1
      · exact dq t2
      · exact .inl True.intro
    refine ⟨_, rfl, _, _, rfl, rfl, _, rfl, ite_d (fun _ => ?_) (fun _ => ?_)⟩
    · refine ⟨_, rfl, S, xs, rfl, .inl ⟨SqL.of eS6, fun t ht => ?_⟩⟩
      have nt := nF_of hF R6 ht
      have sT := same_new (o := .tup xs) ht
      exact k (.ref t) (some xs) _ ⟨false, t, rfl, upd_same, nt, hl, fun u h => (hu6 u h).same sT⟩ (fun ys _ => ⟨t, rfl, R6.free ht⟩) (R6.new ht)
    · exact ⟨_, rfl, k (.ref S) (some xs) _ ⟨true, S, rfl, eS6, FS, hl, hu6⟩ (fun ys _ => ⟨S, rfl, hS⟩) R6⟩
end k04
namespace k04
open PySem L2 LC RM
def spdays_due : Sp := fun vs H Q _ => ∃ (F : Addr → Prop) (n : Nat) (v e : V) (o : Option (List V)), vs = [v, e] ∧ BorV F H v o ∧ Ov F H n e ∧ (daysDue o e = none → ∀ H', Same H H' → Q .non H') ∧
  ∀ (nm : Str) (ws : List V), daysDue o e = some (nm, ws) → ∀ D H', Same H H' → H D = none → H' D = some (.lst (.str nm :: ws)) → Q (.ref D) H'
theorem ok_days_due {P : Program} {w : World} {K : PySem.W.Frag} {mg : Str → Option Value} {base : Heap} {f : Addr} {fd : FuncData} (D : Def K mg "_law_days_due" sdays_due Pdays_due f fd) (T : Txt K mg) {fin : Addr} {fdin : FuncData} (Din : Def K mg "_law_in" sin Pin fin fdin) (Gin : FnOk P w K mg base CX0 1 fin fdin Pin (spin)) :
    FnOk P w K mg base CX0 2 f fd Pdays_due (spdays_due) := by
  refine D.F.ok scdays_due (fun vs H Q E h => ?_) (fun cdv A outer s H vs Q E hr h => ?_)
  · obtain ⟨F, n, v, e, o, rfl, bv, oe, k0, k1⟩ := h
    rfl
  · obtain ⟨F, n, v, e, o, rfl, bv, oe, k0, k1⟩ := h
    have hrin : Room 1 _ := hr.mono (by decide)
    refine ⟨_, (pss_cons (ps_if (pt_not (pt_val (pe_callB call_isiT (by rfl) T.n_isinstance (by decide +kernel) (pa_cons (pv 0) (pa_cons (pe_tup (pa_cons (pe_ty "list" (by rfl) T.n_list (by decide +kernel)) (pa_cons (pe_ty "tuple" (by rfl) T.n_tuple (by decide +kernel)) pa_nil))) pa_nil))))) (pss_one (ps_ret (pe_lst (pa_cons pe_str (pa_cons (pe_un un_neg pe_int) pa_nil))))) pss_nil)
        (pss_cons (ps_if (pt_cmpR op_gt (pe_callB call_len (by rfl) T.n_len PySem.boot_len (pa_cons (pv 0) pa_nil)) pe_int (nomark _)) (pss_one (ps_ret (pe_lst (pa_cons pe_str (pa_cons pe_str (pa_cons (pe_callB call_len (by rfl) T.n_len PySem.boot_len (pa_cons (pv 0) pa_nil)) pa_nil)))))) pss_nil)
        (pss_cons (ps_set (i := 2) scdays_due.nd rfl (Or.inl rfl) pe_int)
        (pss_cons (ps_for PassesOwn.never rfl (pi_range1 rfl T.n_range (pa_cons (pe_callB call_len (by rfl) T.n_len PySem.boot_len (pa_cons (pv 0) pa_nil)) pa_nil)) (pg_name (i := 3) scdays_due.nd rfl (Or.inl rfl))
          (pss_cons (ps_if (pt_not (pt_val (pe_call Gin hrin rfl Din.g Din.F.kp Din.b .nil pass0 (pa_cons (pe_ix ix_seq (pv 0) (pv 3) (fun _ _ => rfl)) (pa_cons (pv 2) (pa_cons pe_int pa_nil)))))) (pss_one (ps_ret (pe_lst (pa_cons pe_str (pa_cons (pv 3) pa_nil))))) pss_nil)
        (pss_one (ps_set (i := 2) scdays_due.nd rfl (Or.inl rfl) (pe_op op_add (pe_ix ix_seq (pv 0) (pv 3) (fun _ _ => rfl)) pe_int)))))
        (pss_one (ps_ret (pe_ifExp (pt_val (pe_call Gin hrin rfl Din.g Din.F.kp Din.b .nil pass0 (pa_cons (pv 1) (pa_cons pe_int (pa_cons pe_int pa_nil))))) pe_non (pe_lst (pa_cons pe_str (pa_cons (pv 1) pa_nil)))))))))), ?_⟩
    cases o with
    | none =>
      refine ⟨_, rfl, (by show 2 ≤ sizeLine; decide), fun tp htp => ?_⟩
      have s1 := same_new (o := .tup [.ty "list", .ty "tuple"]) htp
      obtain ⟨ty, tx, ka⟩ := BorV.noty (K := K) (bv.same s1)
      refine ⟨_, tp, _, _, _, false, rfl, upd_same, .cons (.ty _) (.cons (.ty _) .nil), tx, ka, _, rfl, iteT ?_⟩
      exact ⟨_, rfl, (by show 2 ≤ sizeLine; decide), fun D hD => k1 _ _ rfl D _ (s1.trans (same_new hD)) (s1.free hD) upd_same⟩
    | some xs =>
      obtain ⟨bb, p, rfl, hp, np, hl14, hu⟩ := bv
      refine ⟨_, rfl, (by show 2 ≤ sizeLine; decide), fun tp htp => ?_⟩
      have s1 := same_new (o := .tup [.ty "list", .ty "tuple"]) htp
      have hp1 := s1 _ _ hp
      obtain ⟨ty, tx, ka⟩ := seq_ty (K := K) hp1
      refine ⟨_, tp, _, _, _, true, rfl, upd_same, .cons (.ty _) (.cons (.ty _) .nil), tx, ka, _, rfl, iteF ?_⟩
      generalize upd H tp (.tup [.ty "list", .ty "tuple"]) = H1 at s1 hp1 ⊢
      refine ⟨_, rfl, _, _, rfl, len_or hp1, _, _, rfl, rfl, _, rfl, ite_d (fun h12 => ?_) (fun h12 => ?_)⟩
      · refine ⟨_, rfl, _, _, rfl, len_or hp1, (by show 3 ≤ sizeLine; decide), fun D hD => k1 _ _ ?_ D _ (s1.trans (same_new hD)) (s1.free hD) upd_same⟩
        show (if 12 < xs.length then some (("TooMany" : Str), [V.str "borders", V.int xs.length]) else _) = _
        rw [if_pos (by omega)]
      have hc : xs.length ≤ 12 := by omega
      have dr : ∀ {i : Nat} (hi : i < xs.length), xs.drop i = xs[i] :: xs.drop (i + 1) := fun {i} hi => List.drop_eq_getElem_cons hi
      have due : ∀ r, (match bad 1 0 xs with | some i => some (("InvalidBorders" : Str), [V.int i]) | none => if isNum e 1 2000 = true then none else some ("InvalidNumber", [e])) = r → daysDue (some xs) e = r := fun r h => by
        show (if 12 < xs.length then _ else _) = _
        rw [if_neg (by omega)]
        exact h
      refine ⟨_, rfl, _, _, rfl, len_or hp1, _, rfl, by omega, by omega, for_range (lo := 0) (n := xs.length) (fun i σ H' => ∃ (m : Int) (v3 : Option V), σ = [some (.ref p), some e, some (.int m), v3] ∧ H' = H1 ∧ bad m i (xs.drop i) = bad 1 0 xs)
        ⟨1, none, rfl, rfl, rfl⟩ ?_ ?_⟩
      · rintro i σ H2 hi ⟨m, v3, rfl, rfl, hb⟩
        rw [dr hi, bad_step] at hb
        refine ⟨_, rfl, _, rfl, ix_or hp1 (Int.zero_add _) (List.getElem?_eq_getElem hi) ?_⟩
        refine ⟨_, rfl, F, 1, _, _, _, rfl, (hu _ (List.getElem_mem hi)).same s1, ?_⟩
        cases en : isNum xs[i] m 1000 with
        | false =>
          rw [en, if_neg Bool.false_ne_true] at hb
          refine ⟨_, rfl, iteT ⟨_, rfl, (by show 2 ≤ sizeLine; decide), fun D hD => k1 "InvalidBorders" [.int (0 + (i : Int))] (due _ ?_) D _ (s1.trans (same_new hD)) (s1.free hD) upd_same⟩⟩
          rw [← hb, Int.zero_add]
        | true =>
          rw [en, if_pos rfl] at hb
          obtain ⟨b, eb, b0, b1⟩ := num_int en
          rw [eb] at hb
          refine ⟨_, rfl, iteF ⟨_, rfl, _, rfl, ix_or hp1 (Int.zero_add _) (List.getElem?_eq_getElem hi) ?_⟩⟩
          rw [eb]
          exact ⟨_, _, rfl, rfl, _, _, rfl, rfl, hb⟩
      · rintro σ H2 ⟨m, v3, rfl, rfl, hb⟩
        rw [List.drop_length] at hb
        have hb' : bad 1 0 xs = none := hb.symm
        refine ⟨_, rfl, F, n, e, _, _, rfl, oe.same s1, ?_⟩
        cases en : isNum e 1 2000 with
        | true => exact ⟨_, rfl, iteT (k0 (due _ (by rw [hb', en, if_pos rfl])) _ s1)⟩
        | false => exact ⟨_, rfl, iteF ⟨_, rfl, (by show 2 ≤ sizeLine; decide), fun D hD => k1 "InvalidNumber" [e] (due _ (by rw [hb', en, if_neg Bool.false_ne_true])) D _ (s1.trans (same_new hD)) (s1.free hD) upd_same⟩⟩
end k04
namespace k04
open PySem L2 LC RM
def spwindow (a : Ad) (Tb : List (Addr × Str)) : Sp := fun vs H Q _ => ∃ (g l kp : Addr) (n : Nat), vs = [.ref g, .ref kp] ∧ StK Tb a g l kp n H ∧ n ≤ 40 ∧ ∀ m H', m ≤ n + 1 → StK Tb a g l kp m H' → Q (.bl true) H'
theorem ok_window {P : Program} {w : World} {K : PySem.W.Frag} {mg : Str → Option Value} {base : Heap} {f c Pt : Addr} {oc kV doc pm ct : Value} {od an : Option Addr} {osl : Array (Option Value)} (lk : K.lookup f = some ⟨oc, od, .func (PySem.W.fnOf "_law_window" "_law_window" (defArgs swindow) (defBody swindow) (defScope swindow) .none kV doc pm an (.ref c) ct), osl⟩) (hcd : PySem.W.codeIn K (.ref c) "_law_window" = true) (TB : LamX.TabB base mg c Pt) (T : Txt K mg) {a : Ad} (KN : Kn K mg a) {ce : Ce} {fdInvalidNumber : FuncData} {fInvalidNumber : Addr} (RInvalidNumber : RE P w K mg base "InvalidNumber" "value" (ivF "InvalidNumber") ce.nu fInvalidNumber fdInvalidNumber) {fdInvalidBorders : FuncData} {fInvalidBorders : Addr} (RInvalidBorders : RE P w K mg base "InvalidBorders" "at" (atF "InvalidBorders") ce.bo fInvalidBorders fdInvalidBorders) {fdInvalidRest : FuncData} {fInvalidRest : Addr} (RInvalidRest : RE P w K mg base "InvalidRest" "value" (ivF "InvalidRest") ce.re fInvalidRest fdInvalidRest) {fdTooMany : FuncData} {fTooMany : Addr} (RTooMany : RTM P w K mg base ce.tm fTooMany fdTooMany) {S fask : Addr} {fdask : FuncData} (Dask : Def K mg "_law_ask" sask Pask fask fdask) (eBN : PySem.W.exmOne K (.ref ce.bo) (.ref ce.nu) = some false) (eRN : PySem.W.exmOne K (.ref ce.re) (.ref ce.nu) = some false) (eRB : PySem.W.exmOne K (.ref ce.re) (.ref ce.bo) = some false) (eTN : PySem.W.exmOne K (.ref ce.tm) (.ref ce.nu) = some false) (eTB : PySem.W.exmOne K (.ref ce.tm) (.ref ce.bo) = some false) (eTR : PySem.W.exmOne K (.ref ce.tm) (.ref ce.re) = some false) (gSE : mg "SureletError" = some (.ref S)) {fdWindow : FuncData} (IWindow : FnR P w K mg base (L2.CX P w) 3 a.Wi (spWindow_init K a ce)) (GWindow : FnOk P w K mg base (L2.CX P w) 3 a.Wi fdWindow PWindow_init (spWindow_init K a ce)) (KBWindow : KBn K fdWindow PWindow_init 1 ["width"] kg1 kg1) {Tb : List (Addr × Str)} (hmT : (Pt, (("_law_window" : Str) ++ ".<locals>." ++ "<lambda>")) ∈ Tb) (hu : ∀ p ∈ Tb, p.1 = Pt → p.2 = (("_law_window" : Str) ++ ".<locals>." ++ "<lambda>")) {fdraw : Addr} {fddraw : FuncData} (Ddraw : Def K mg "_law_draw" sdraw Pdraw fdraw fddraw) (Gdraw : FnOk P w K mg base CX0 1 fdraw fddraw Pdraw (spdraw)) {flike : Addr} {fdlike : FuncData} (Dlike : Def K mg "_law_like" slike Plike flike fdlike) (Glike : FnOk P w K mg base CX0 5 flike fdlike Plike (splike 5)) {fin : Addr} {fdin : FuncData} (Din : Def K mg "_law_in" sin Pin fin fdin) (Gin : FnOk P w K mg base CX0 1 fin fdin Pin (spin)) {fnumber : Addr} {fdnumber : FuncData} (Dnumber : Def K mg "_law_number" snumber Pnumber fnumber fdnumber) (Gnumber : FnOk P w K mg base CX0 4 fnumber fdnumber Pnumber (spnumber)) :
    FnOk P w K mg base CX0 7 f (PySem.W.fnOf "_law_window" "_law_window" (defArgs swindow) (defBody swindow) (defScope swindow) .none kV doc pm an (.ref c) ct) Pwindow (spwindow a Tb) := by
  refine LL.okC lk hcd scwindow (fun vs H Q E h => ?_) (fun A outer s H vs Q E hr h => ?_)
  · obtain ⟨g, l, kp, n, rfl, S, n40, k⟩ := h
    rfl
  · obtain ⟨g, l, kp, n, rfl, S, n40, k⟩ := h
    have hrdraw : Room 1 _ := hr.mono (by decide)
    have hrlike : Room 5 _ := hr.mono (by decide)
    have hrin : Room 1 _ := hr.mono (by decide)
    have hrnumber : Room 4 _ := hr.mono (by decide)
    have hrL : Room (4 + 2) _ := hr.mono (by decide)
    refine ⟨_, (pss_cons (ps_set (i := 2) scwindow.nd rfl (Or.inr rfl) (pe_call Gnumber hrnumber rfl Dnumber.g Dnumber.F.kp Dnumber.b .nil pass0 (pa_cons (pv 0) (pa_cons pe_int pa_nil))))
        (pss_cons (ps_asg (LL.pe_lamcallS (T := Tb) (ql := ("_law_window" : Str) ++ ".<locals>.") Dask rfl scask rfl (Or.inl rfl) (fun _ => ask_gives RInvalidNumber RInvalidBorders RInvalidRest RTooMany eBN eRN eRB eTN eTB eTR gSE) rfl TB rfl hmT hu hrL (show LamX.LamS (defScope swindow) _ from LamX.lamS_by (by decide +kernel)) rfl (fun _ _ _ _ _ => rfl) (fun A outer s H E f c' hrB => (pe_ifExp (pt_cmpR op_eq (pe_call Gdraw (hrB.mono (by decide)) rfl Ddraw.g Ddraw.F.kp Ddraw.b .nil pass0 (pa_cons (pv 0) (pa_cons pe_int pa_nil))) pe_int (nomark _)) (StX.pe_makeR KN.mWindow IWindow hrB rfl KN.gWindow (passes_call (takes_of rfl rfl rfl rfl) fun _ _ _ _ h => h) (pa_cons (pv 2) pa_nil)) (pe_makeK0 KN.mWindow GWindow hrB rfl KN.gWindow KBWindow (passes_call (takes_of rfl rfl rfl rfl) fun _ _ _ _ h => h) (pk_cons (pv 2) pk_nil))))) (pg_tup rfl (pgs_cons (pg_name (i := 3) scwindow.nd rfl (Or.inl rfl)) (pgs_cons (pg_name (i := 4) scwindow.nd rfl (Or.inl rfl)) pgs_nil))))
        (pss_cons (ps_if (pt_not (pt_val (pe_call Gin hrin rfl Din.g Din.F.kp Din.b .nil pass0 (pa_cons (pv 2) (pa_cons pe_int (pa_cons pe_int pa_nil)))))) (pss_one (ps_ret (pe_and (pe_cmpR op_isN (pv 3) pe_non (nomark _)) (pe_one (pe_call Glike hrlike rfl Dlike.g Dlike.F.kp Dlike.b .nil pass0 (pa_cons (pv 4) (pa_cons (pe_lst (pa_cons pe_str (pa_cons (pv 2) pa_nil))) pa_nil))))))) pss_nil)
        (pss_cons (ps_expr (pe_bm PySem.F.plainAttrs_list PySem.F.slot_list_append PySem.F.type_list_append mt_append (pv 1) (pa_cons (pe_tup (pa_cons (pe_tup (pa_cons pe_str (pa_cons (pv 2) pa_nil))) (pa_cons (pv 3) pa_nil))) pa_nil)))
        (pss_one (ps_ret (pe_and (pe_cmpR op_isN (pv 4) pe_non (nomark _)) (pe_and (pe_callB call_isi (by rfl) T.n_isinstance (by decide +kernel) (pa_cons (pv 3) (pa_cons (pe_glob rfl KN.gWindow (show RelV (.ref a.W) _ from rfl)) pa_nil))) (pe_and (pe_callB call_isi (by rfl) T.n_isinstance (by decide +kernel) (pa_cons (pv 3) (pa_cons (pe_glob rfl KN.gR (show RelV (.ref a.R) _ from rfl)) pa_nil))) (pe_one (pe_call Glike hrlike rfl Dlike.g Dlike.F.kp Dlike.b .nil pass0 (pa_cons (pe_fld (pv 3) rfl) (pa_cons (pv 2) pa_nil))))))))))))), ?_⟩
    refine ⟨_, rfl, g, l, FK g kp, 1000, rfl, S.b, .inl rfl, S.hFo, by decide, by decide, fun v H1 ov r1 => ?_⟩
    have S1 := S.ok r1
    refine lam_std (F := (· = g)) S1.t S1.b (if isNum v 1 1000 = true then none else some ("InvalidNumber", [v])) (fun H' u => ∃ (x : Addr) (w : Int), u = .ref x ∧ v = .int w ∧ 1 ≤ w ∧ w ≤ 1000 ∧ RestX a (FK g kp) H' (.win w) x) (fun H H' u s ⟨x, w, e1, e2, e3, e4, R⟩ => ⟨x, w, e1, e2, e3, e4, R.same s⟩) ?_ ?_
    · intro H2 E' Qv k2 B2 t2 hout hmade
      have core : ∀ (Hd : Hp), Ok g l H2 Hd → ∀ (x dx : Addr), Hd x = none → Hd dx = none → spWindow_init K a ce [.ref x, v] (upd (upd Hd dx (.own x)) x (.ins a.W dx [])) (fun v H2 => v = .non ∧ Qv (.ref x) H2) E' := fun Hd rd x dx hx hdx => by
        have kd : KpF (· = g) H1 Hd := k2.trans (KpF.kp rfl rd.kp)
        have td := tabs_ok rd t2
        refine ⟨x, dx, FK g kp, 2, v, Hd, rfl, upd_same, hx, (S1.step kd rd.bag td).nF hx, same_two hx hdx, ov.kp kd.fk, fun q => hout _ Hd (by rw [q]; rfl) kd rd.bag td, fun w H' e w0 w1 s R => ⟨rfl, hmade _ H' (by rw [e, num_true w0 w1]; rfl) (kd.trans (KpF.same s)) (bag_same s rd.bag) (td.ext s) ⟨x, w, rfl, e, w0, w1, R⟩⟩⟩
      refine ⟨_, rfl, g, l, 2, rfl, B2, by decide, by decide, fun d H3 d0 d1 r3 => ?_⟩
      refine ⟨rfl, _, rfl, ?_⟩
      show if _ then _ else _
      split
      · exact ⟨_, rfl, fun x dx hx hdx nx => core H3 r3 x dx hx hdx⟩
      · exact ⟨_, rfl, rfl, rfl, fun x dx hx hdx nx => core H3 r3 x dx hx hdx⟩
    rintro T H3 tv fv k3 B3 t3 eT cs
    have S3 := S1.step k3 B3 t3
    have ov3 := ov.kp k3.fk
    refine ⟨T, _, rfl, SqT.of eT, rfl, _, _, rfl, _, _, rfl, rfl, ?_⟩
    refine ⟨_, rfl, FK g kp, 2, v, _, _, rfl, ov3, _, rfl, ?_⟩
    rcases cs with ⟨nm, ws, D, du, rfl, rfl, eD⟩ | ⟨du, rfl, x, w, rfl, rfl, w0, w1, R⟩
    · have en : isNum v 1 1000 = false := by
        cases q : isNum v 1 1000 with
        | false => rfl
        | true => rw [q, if_pos rfl] at du; cases du
      rw [en, if_neg Bool.false_ne_true] at du
      cases du
      rw [en]
      refine iteT ⟨_, rfl, rfl, _, rfl, iteT ⟨_, rfl, _, rfl, (by show 2 ≤ sizeLine; decide), fun U hU => ?_⟩⟩
      have sU := same_new (o := .lst [.str "InvalidNumber", v]) hU
      exact ⟨V.ref D, V.ref U, 3, rfl, by decide, Lq.list2 (sU _ _ eD) upd_same (ov3.same sU).lq, fun H5 s5 => k n _ (by omega) ((S3.same sU).same s5)⟩
    · rw [num_true w0 w1]
      refine iteF ?_
      obtain ⟨ts, eK, tl0, tl1, ent⟩ := S3.k
      refine ⟨_, rfl, .inl ⟨rfl, _, SqL.of eK⟩, _, rfl, (by show 2 ≤ sizeLine; decide), fun X hX => ⟨_, rfl, (by show 2 ≤ sizeLine; decide), fun T2 hT2 => ?_⟩⟩
      have sA := same_new (o := .tup [.str "window", .int w]) hX
      have sB := same_new (o := .tup [.ref X, .ref x]) hT2
      have S4 := (S3.same sA).same sB
      refine ⟨kp, _, _, rfl, rfl, sB _ _ (sA _ _ eK), by rw [List.length_map]; exact Nat.lt_of_le_of_lt (show ts.length ≤ 40 by omega) (by decide), ?_⟩
      have en : Ent a (FK g kp) (upd (upd H3 X (.tup [.str "window", .int w])) T2 (.tup [.ref X, .ref x])) T2 (.win w) := ⟨X, x, upd_same, (S3.same sA).nF hT2, Good.win w0 w1, sB _ _ upd_same, (R.same sA).same sB⟩
      have S5 := S4.add (sB _ _ (sA _ _ eK)) en
      have R5 : RestX a (FK g kp) (upd (upd (upd H3 X (.tup [.str "window", .int w])) T2 (.tup [.ref X, .ref x])) kp (.lst (ts.map V.ref ++ [.ref T2]))) (.win w) x := ((R.same sA).same sB).kp (KpF.mut' (.inr rfl))
      generalize upd (upd (upd H3 X (.tup [.str "window", .int w])) T2 (.tup [.ref X, .ref x])) kp (.lst (ts.map V.ref ++ [.ref T2])) = H5 at S5 R5 ⊢
      obtain ⟨nx, dx, hx⟩ := R5
      have tx : TyX K H5 (.ref x) (.ref a.W) := .base (.ins hx KN.w.cl KN.w.ha KN.w.hn KN.w.htk KN.w.hm)
      refine ⟨_, rfl, rfl, _, rfl, iteT ⟨_, rfl, _, _, _, _, _, rfl, .own _, tx, KN.w.ks, _, rfl, iteT ⟨_, rfl, _, _, _, _, _, rfl, .own _, tx, KN.w.me, _, rfl, iteT ?_⟩⟩⟩
      exact ⟨_, rfl, x, a.W, dx, _, _, rfl, hx, KN.w.cl, KN.nw, lk_width, _, rfl, V.int w, V.int w, 0, rfl, by decide, Lq.sc (by exact True.intro) 0, fun H6 s6 => k _ _ (Nat.le_refl _) (S5.same s6)⟩
end k04
namespace k04
open PySem L2 LC RM
def spdays (a : Ad) (Tb : List (Addr × Str)) : Sp := fun vs H Q _ => ∃ (g l kp : Addr) (n : Nat), vs = [.ref g, .ref kp] ∧ StK Tb a g l kp n H ∧ n ≤ 40 ∧ ∀ m H', m ≤ n + 1 → StK Tb a g l kp m H' → Q (.bl true) H'
theorem ok_days {P : Program} {w : World} {K : PySem.W.Frag} {mg : Str → Option Value} {base : Heap} {f c Pt : Addr} {oc kV doc pm ct : Value} {od an : Option Addr} {osl : Array (Option Value)} (lk : K.lookup f = some ⟨oc, od, .func (PySem.W.fnOf "_law_days" "_law_days" (defArgs sdays) (defBody sdays) (defScope sdays) .none kV doc pm an (.ref c) ct), osl⟩) (hcd : PySem.W.codeIn K (.ref c) "_law_days" = true) (TB : LamX.TabB base mg c Pt) (T : Txt K mg) {a : Ad} (KN : Kn K mg a) {ce : Ce} {fdInvalidNumber : FuncData} {fInvalidNumber : Addr} (RInvalidNumber : RE P w K mg base "InvalidNumber" "value" (ivF "InvalidNumber") ce.nu fInvalidNumber fdInvalidNumber) {fdInvalidBorders : FuncData} {fInvalidBorders : Addr} (RInvalidBorders : RE P w K mg base "InvalidBorders" "at" (atF "InvalidBorders") ce.bo fInvalidBorders fdInvalidBorders) {fdInvalidRest : FuncData} {fInvalidRest : Addr} (RInvalidRest : RE P w K mg base "InvalidRest" "value" (ivF "InvalidRest") ce.re fInvalidRest fdInvalidRest) {fdTooMany : FuncData} {fTooMany : Addr} (RTooMany : RTM P w K mg base ce.tm fTooMany fdTooMany) {S fask : Addr} {fdask : FuncData} (Dask : Def K mg "_law_ask" sask Pask fask fdask) (eBN : PySem.W.exmOne K (.ref ce.bo) (.ref ce.nu) = some false) (eRN : PySem.W.exmOne K (.ref ce.re) (.ref ce.nu) = some false) (eRB : PySem.W.exmOne K (.ref ce.re) (.ref ce.bo) = some false) (eTN : PySem.W.exmOne K (.ref ce.tm) (.ref ce.nu) = some false) (eTB : PySem.W.exmOne K (.ref ce.tm) (.ref ce.bo) = some false) (eTR : PySem.W.exmOne K (.ref ce.tm) (.ref ce.re) = some false) (gSE : mg "SureletError" = some (.ref S)) {fdDays : FuncData} (IDays : FnR P w K mg base (L2.CX P w) 5 a.Di (spDays_init K a ce)) (GDays : FnOk P w K mg base (L2.CX P w) 5 a.Di fdDays PDays_init (spDays_init K a ce)) (KBDays : KBn K fdDays PDays_init 1 ["every", "borders"] kg2 kg2) (RDb : FnR P w K mg base CX0 1 a.fDb (spDays_borders K a)) {Tb : List (Addr × Str)} (hmT : (Pt, (("_law_days" : Str) ++ ".<locals>." ++ "<lambda>")) ∈ Tb) (hu : ∀ p ∈ Tb, p.1 = Pt → p.2 = (("_law_days" : Str) ++ ".<locals>." ++ "<lambda>")) {fdraw : Addr} {fddraw : FuncData} (Ddraw : Def K mg "_law_draw" sdraw Pdraw fdraw fddraw) (Gdraw : FnOk P w K mg base CX0 1 fdraw fddraw Pdraw (spdraw)) {flike : Addr} {fdlike : FuncData} (Dlike : Def K mg "_law_like" slike Plike flike fdlike) (Glike : FnOk P w K mg base CX0 5 flike fdlike Plike (splike 5)) {fnumber : Addr} {fdnumber : FuncData} (Dnumber : Def K mg "_law_number" snumber Pnumber fnumber fdnumber) (Gnumber : FnOk P w K mg base CX0 4 fnumber fdnumber Pnumber (spnumber)) {fborders : Addr} {fdborders : FuncData} (Dborders : Def K mg "_law_borders" sborders Pborders fborders fdborders) (Gborders : FnOk P w K mg base CX0 3 fborders fdborders Pborders (spborders)) {fdays_due : Addr} {fddays_due : FuncData} (Ddays_due : Def K mg "_law_days_due" sdays_due Pdays_due fdays_due fddays_due) (Gdays_due : FnOk P w K mg base CX0 2 fdays_due fddays_due Pdays_due (spdays_due)) :
    FnOk P w K mg base CX0 9 f (PySem.W.fnOf "_law_days" "_law_days" (defArgs sdays) (defBody sdays) (defScope sdays) .none kV doc pm an (.ref c) ct) Pdays (spdays a Tb) := by
  refine LL.okC lk hcd scdays (fun vs H Q E h => ?_) (fun A outer s H vs Q E hr h => ?_)
  · obtain ⟨g, l, kp, n, rfl, S, n40, k⟩ := h
    rfl
  · obtain ⟨g, l, kp, n, rfl, S, n40, k⟩ := h
    have hrdraw : Room 1 _ := hr.mono (by decide)
    have hrlike : Room 5 _ := hr.mono (by decide)
    have hrnumber : Room 4 _ := hr.mono (by decide)
    have hrborders : Room 3 _ := hr.mono (by decide)
    have hrdays_due : Room 2 _ := hr.mono (by decide)
    have hrL : Room (6 + 2) _ := hr.mono (by decide)
    have hrM : Room 1 _ := hr.mono (by decide)
    refine ⟨_, (pss_cons (ps_asg (pe_tup (pa_cons (pe_call Gborders hrborders rfl Dborders.g Dborders.F.kp Dborders.b .nil pass0 (pa_cons (pv 0) pa_nil)) (pa_cons (pe_call Gnumber hrnumber rfl Dnumber.g Dnumber.F.kp Dnumber.b .nil pass0 (pa_cons (pv 0) (pa_cons pe_int pa_nil))) pa_nil))) (pg_tup rfl (pgs_cons (pg_name (i := 2) scdays.nd rfl (Or.inr rfl)) (pgs_cons (pg_name (i := 3) scdays.nd rfl (Or.inr rfl)) pgs_nil))))
        (Evl.pss_cut (ps_set (i := 4) scdays.nd rfl (Or.inl rfl) (pe_ifExp (pt_val (pe_callB call_isiT (by rfl) T.n_isinstance (by decide +kernel) (pa_cons (pv 2) (pa_cons (pe_tup (pa_cons (pe_ty "list" (by rfl) T.n_list (by decide +kernel)) (pa_cons (pe_ty "tuple" (by rfl) T.n_tuple (by decide +kernel)) pa_nil))) pa_nil)))) (pe_callTy call_list_of (by rfl) T.n_list (by decide +kernel) (pa_cons (pv 2) pa_nil)) pe_non))
        (Evl.pss_cut (ps_set (i := 5) scdays.nd rfl (Or.inl rfl) (pe_call Gdays_due hrdays_due rfl Ddays_due.g Ddays_due.F.kp Ddays_due.b .nil pass0 (pa_cons (pv 2) (pa_cons (pv 3) pa_nil))))
        (pss_cons (ps_asg (LL.pe_lamcallS (T := Tb) (ql := ("_law_days" : Str) ++ ".<locals>.") Dask rfl scask rfl (Or.inl rfl) (fun _ => ask_gives RInvalidNumber RInvalidBorders RInvalidRest RTooMany eBN eRN eRB eTN eTB eTR gSE) rfl TB rfl hmT hu hrL (show LamX.LamS (defScope sdays) _ from LamX.lamS_by (by decide +kernel)) rfl (fun _ _ _ _ _ => rfl) (fun A outer s H E f c' hrB => (pe_ifExp (pt_cmpR op_eq (pe_call Gdraw (hrB.mono (by decide)) rfl Ddraw.g Ddraw.F.kp Ddraw.b .nil pass0 (pa_cons (pv 0) (pa_cons pe_int pa_nil))) pe_int (nomark _)) (StX.pe_makeR KN.mDays IDays hrB rfl KN.gDays (passes_call (takes_of rfl rfl rfl rfl) fun _ _ _ _ h => h) (pa_cons (pv 2) (pa_cons (pv 3) pa_nil))) (pe_makeK0 KN.mDays GDays hrB rfl KN.gDays KBDays (passes_call (takes_of rfl rfl rfl rfl) fun _ _ _ _ h => h) (pk_cons (pv 3) (pk_cons (pv 2) pk_nil)))))) (pg_tup rfl (pgs_cons (pg_name (i := 6) scdays.nd rfl (Or.inl rfl)) (pgs_cons (pg_name (i := 7) scdays.nd rfl (Or.inl rfl)) pgs_nil))))
        (pss_cons (ps_if (pt_cmpR op_notN (pv 5) pe_non (nomark _)) (pss_one (ps_ret (pe_and (pe_cmpR op_isN (pv 6) pe_non (nomark _)) (pe_and (pe_call Glike hrlike rfl Dlike.g Dlike.F.kp Dlike.b .nil pass0 (pa_cons (pv 7) (pa_cons (pv 5) pa_nil))) (pe_one (pe_or (pe_cmpR op_isN (pv 4) pe_non (nomark _)) (pe_one (pe_call Glike hrlike rfl Dlike.g Dlike.F.kp Dlike.b .nil pass0 (pa_cons (pe_callTy call_list_of (by rfl) T.n_list (by decide +kernel) (pa_cons (pv 2) pa_nil)) (pa_cons (pv 4) pa_nil)))))))))) pss_nil)
        (pss_cons (ps_if (PW.pt (pw_or (pt_cmpR op_notN (pv 7) pe_non (nomark _)) (pw_or (pt_not (pt_val (pe_callB call_isi (by rfl) T.n_isinstance (by decide +kernel) (pa_cons (pv 6) (pa_cons (pe_glob rfl KN.gDays (show RelV (.ref a.D) _ from rfl)) pa_nil))))) (pw_or1 (pt_not (pt_val (pe_callB call_isi (by rfl) T.n_isinstance (by decide +kernel) (pa_cons (pv 6) (pa_cons (pe_glob rfl KN.gR (show RelV (.ref a.R) _ from rfl)) pa_nil))))))))) (pss_one (ps_ret pe_bl)) pss_nil)
        (Evl.pss_cut (ps_if (pt_val (pe_callB call_isi (by rfl) T.n_isinstance (by decide +kernel) (pa_cons (pv 2) (pa_cons (pe_ty "list" (by rfl) T.n_list (by decide +kernel)) pa_nil)))) (pss_one (ps_expr (pe_bm PySem.F.plainAttrs_list PySem.F.slot_list_append PySem.F.type_list_append mt_append (pv 2) (pa_cons pe_int pa_nil)))) pss_nil)
        (pss_cons (ps_if (pt_not (pt_val (pe_call Glike hrlike rfl Dlike.g Dlike.F.kp Dlike.b .nil pass0 (pa_cons (pe_lst (pa_cons (pe_fld (pv 6) rfl) (pa_cons (LS.pe_methD0 (pv 6) KN.kDb RDb hrM) pa_nil))) (pa_cons (pe_lst (pa_cons (pv 3) (pa_cons (pv 4) pa_nil))) pa_nil))))) (pss_one (ps_ret pe_bl)) pss_nil)
        (pss_cons (ps_set (i := 8) scdays.nd rfl (Or.inl rfl) (LS.pe_methD0 (pv 6) KN.kDb RDb hrM))
        (pss_cons (ps_expr (pe_bm PySem.F.plainAttrs_list PySem.F.slot_list_append PySem.F.type_list_append mt_append (pv 8) (pa_cons pe_int pa_nil)))
        (pss_cons (ps_expr (pe_bm PySem.F.plainAttrs_list PySem.F.slot_list_append PySem.F.type_list_append mt_append (pv 1) (pa_cons (pe_tup (pa_cons (pe_tup (pa_cons pe_str (pa_cons (pe_callTy call_tuple_of (by rfl) T.n_tuple (by decide +kernel) (pa_cons (pv 4) pa_nil)) (pa_cons (pv 3) pa_nil)))) (pa_cons (pv 6) pa_nil))) pa_nil)))
        (pss_one (ps_ret (pe_call Glike hrlike rfl Dlike.g Dlike.F.kp Dlike.b .nil pass0 (pa_cons (LS.pe_methD0 (pv 6) KN.kDb RDb hrM) (pa_cons (pv 4) pa_nil)))))))))))))))), ?_⟩
    refine ⟨_, rfl, g, l, FK g kp, rfl, S.b, .inl rfl, S.hFo, fun v o H1 bv fr r1 => ?_⟩
    have S1 := S.ok r1
    refine ⟨_, rfl, g, l, FK g kp, 2000, rfl, S1.b, .inl rfl, S1.hFo, by decide, by decide, fun e H2 oe r2 => ⟨(by show 2 ≤ sizeLine; decide), fun T0 hT0 => ⟨T0, _, rfl, SqT.of upd_same, rfl, _, _, rfl, _, _, rfl, rfl, ?_⟩⟩⟩
    have sT0 := same_new (o := .tup [v, e]) hT0
    have r2 := r2.same sT0
    have oe := oe.same sT0
    generalize upd H2 T0 (.tup [v, e]) = H2 at sT0 r2 oe ⊢
    have r12 := r1.trans r2
    have k2 : KpF (· = g) H H2 := KpF.kp rfl r12.kp
    have S2 := S1.ok r2
    have bv2 := bv.kp (KpF.kp (.inl rfl) r2.kp)
    refine ⟨fun σ H' => ∃ cv, σ = [some (.ref g), some (.ref kp), some v, some e, some cv, none, none, none, none] ∧ Same H2 H' ∧ Cop (FK g kp) H' v cv o, ?_, ?_⟩
    · cases o with
      | none =>
        refine ⟨_, rfl, (by show 2 ≤ sizeLine; decide), fun tp htp => ?_⟩
        have s1 := same_new (o := .tup [.ty "list", .ty "tuple"]) htp
        obtain ⟨ty, tx, ka⟩ := BorV.noty (K := K) (bv2.same s1)
        exact ⟨_, tp, _, _, _, false, rfl, upd_same, .cons (.ty _) (.cons (.ty _) .nil), tx, ka, _, rfl, iteF ⟨_, rfl, s1, rfl⟩⟩
      | some xs =>
        obtain ⟨bb, p, rfl, hp, np, hl14, hu⟩ := bv2
        refine ⟨_, rfl, (by show 2 ≤ sizeLine; decide), fun tp htp => ?_⟩
        have s1 := same_new (o := .tup [.ty "list", .ty "tuple"]) htp
        have hp1 := s1 _ _ hp
        obtain ⟨ty, tx, ka⟩ := seq_ty (K := K) hp1
        refine ⟨_, tp, _, _, _, true, rfl, upd_same, .cons (.ty _) (.cons (.ty _) .nil), tx, ka, _, rfl, iteT ?_⟩
        have S3 := S2.same s1
        refine ⟨_, rfl, p, _, rfl, sq_or hp1, fun C hC => ⟨_, rfl, s1.trans (same_new hC), C, rfl, S3.nF hC, upd_same, fun z => ?_⟩⟩
        cases z
        rw [hp1] at hC
        cases hC
    rintro σ H3 ⟨cv, rfl, s3, cop⟩
    refine ⟨fun σ H' => ∃ dv, σ = [some (.ref g), some (.ref kp), some v, some e, some cv, some dv, none, none, none] ∧ Same H3 H' ∧ DueV g H' dv (daysDue o e), ?_, ?_⟩
    · have S3 := S2.same s3
      refine ⟨_, rfl, _, rfl, FK g kp, 2, v, e, o, rfl, bv2.same s3, oe.same s3, fun q H4 s4 => ⟨_, rfl, s4, by rw [q]; rfl⟩, fun nm ws q D H4 s4 hD eD => ⟨_, rfl, s4, ?_⟩⟩
      rw [q]
      exact ⟨D, rfl, (fun z => S3.nF hD (.inl z)), eD⟩
    rintro σ H4 ⟨dv, rfl, s4, duv⟩
    have s24 := s3.trans s4
    have S4 := S2.same s24
    have bv4 := bv2.same s24
    have oe4 := oe.same s24
    have cop4 := cop.kp (F := FK g kp) (KpF.same s4)
    have k4 : KpF (· = g) H H4 := k2.trans (KpF.same s24)
    refine lam_std (F := (· = g)) S4.t S4.b (daysDue o e) (fun H' u => ∃ (x : Addr) (bs : List Int) (e' : Int), u = .ref x ∧ o = some (bs.map V.int) ∧ e = .int e' ∧ Good (.days bs e') ∧ RestX a (fun b => FK g kp b ∨ v = .ref b) H' (.days bs e') x) (fun H H' u s ⟨x, bs, e', e1, e2, e3, e4, R⟩ => ⟨x, bs, e', e1, e2, e3, e4, R.same s⟩) ?_ ?_
    · intro H5 E' Qv k5 B5 t5 hout hmade
      have core : ∀ (Hd : Hp), Ok g l H5 Hd → ∀ (x dx : Addr), Hd x = none → Hd dx = none → spDays_init K a ce [.ref x, v, e] (upd (upd Hd dx (.own x)) x (.ins a.D dx [])) (fun v H2 => v = .non ∧ Qv (.ref x) H2) E' := fun Hd rd x dx hx hdx => by
        have kd : KpF (· = g) H4 Hd := k5.trans (KpF.kp rfl rd.kp)
        have td := tabs_ok rd t5
        have hFd : ∀ b, (FK g kp b ∨ v = .ref b) → ∃ o, Hd b = some o := fun b z => z.elim ((S4.step kd rd.bag td).hFo b) fun z => BorV.there (by rw [← z]; exact bv4.kp kd.fk)
        refine ⟨x, dx, (fun b => FK g kp b ∨ v = .ref b), FK g kp, 2, v, e, o, Hd, rfl, upd_same, hx, (fun z => by obtain ⟨ob, q⟩ := hFd x z; rw [hx] at q; cases q), same_two hx hdx, hFd, bv4.kp kd.fk, oe4.kp kd.fk, fun er q => hout er Hd q kd rd.bag td, fun bs e' H' ho he gd s R => ⟨rfl, hmade _ H' ?_ (kd.trans (KpF.same s)) (bag_same s rd.bag) (td.ext s) ⟨x, bs, e', rfl, ho, he, gd, R⟩⟩⟩
        rw [ho, he]
        exact daysDue_none gd
      refine ⟨_, rfl, g, l, 2, rfl, B5, by decide, by decide, fun d H3 d0 d1 r3 => ?_⟩
      refine ⟨rfl, _, rfl, ?_⟩
      show if _ then _ else _
      split
      · exact ⟨_, rfl, _, rfl, fun x dx hx hdx nx => core H3 r3 x dx hx hdx⟩
      · exact ⟨_, rfl, _, rfl, rfl, rfl, fun x dx hx hdx nx => core H3 r3 x dx hx hdx⟩
    rintro T H5 tv fv k5 B5 t5 eT cs
    have S5 := S4.step k5 B5 t5
    have k05 := k4.trans k5
    have bv5 := bv4.kp k5.fk
    have oe5 := oe4.kp k5.fk
    have cop5 := cop4.kp k5.fk
    have duv5 := duv.kp k5
    refine ⟨T, _, rfl, SqT.of eT, rfl, _, _, rfl, _, _, rfl, rfl, ?_⟩
    rcases cs with ⟨nm, ws, D, du, rfl, rfl, eD⟩ | ⟨du, rfl, x, bs, e', rfl, rfl, rfl, gd, R⟩
    · rw [du] at duv5
      obtain ⟨D2, rfl, nD2, eD2⟩ := duv5
      refine ⟨_, rfl, rfl, _, rfl, ite_nd (fun _ => ?_) (fun h => by cases h)⟩
      refine ⟨_, rfl, rfl, _, rfl, iteT ?_⟩
      refine ⟨_, rfl, _, rfl, V.ref D, V.ref D2, 3, rfl, by decide, Lq.lst2 eD eD2 (daysDue_len du) (fun w hw => ?_), fun H6 s6 => ⟨_, rfl, iteT ?_⟩⟩
      · rcases List.mem_cons.mp hw with rfl | hw
        · exact Lq.sc (by exact True.intro) 2
        · exact (daysDue_ov oe5 du w hw).lq
      cases o with
      | none =>
        obtain rfl : cv = .non := cop5
        exact ⟨_, rfl, rfl, _, rfl, iteT (k _ _ (Nat.le_succ n) (S5.same s6))⟩
      | some xs =>
        obtain ⟨C, rfl, nC, eC, _⟩ := cop5
        obtain ⟨bb, p, rfl, hp, np, hl14, hu⟩ := bv5
        refine ⟨_, rfl, rfl, _, rfl, ite_d (fun h => by cases h) (fun _ => ?_)⟩
        refine ⟨_, rfl, p, xs, rfl, sq_or (s6 _ _ hp), fun L hL => ?_⟩
        have s7 := s6.trans (same_new (o := .lst xs) hL)
        exact ⟨_, rfl, V.ref L, V.ref C, 2, rfl, by decide, Lq.lst2 upd_same (s7 _ _ eC) (by omega) (fun w hw => ((hu w hw).same s7).lq), fun H8 s8 => k _ _ (Nat.le_succ n) (S5.same (s7.trans s8))⟩
    rw [du] at duv5
    obtain rfl : dv = .non := duv5
    obtain ⟨C, rfl, nC, eC, vC⟩ := cop5
    obtain ⟨bb, p, rfl, hp, np, hl14, hu⟩ := bv5
    have hp0 : H p = none := by
      obtain ⟨p', z', q⟩ := fr _ rfl
      cases z'
      exact q
    obtain ⟨nx, dx, b, hx, nb, hb⟩ := id R
    have tx : TyX K H5 (.ref x) (.ref a.D) := .base (.ins hx KN.d.cl KN.d.ha KN.d.hn KN.d.htk KN.d.hm)
    refine ⟨_, rfl, rfl, _, rfl, ite_nd (fun h => absurd rfl h) (fun _ => ?_)⟩
    refine ⟨_, rfl, rfl, _, rfl, ite_nd (fun h => absurd rfl h) (fun _ => ⟨_, rfl, _, _, _, _, _, rfl, .own _, tx, KN.d.ks, _, rfl, iteF ⟨_, rfl, _, _, _, _, _, rfl, .own _, tx, KN.d.me, _, rfl, iteF ?_⟩⟩)⟩
    refine ⟨fun σ H' => σ = [some (.ref g), some (.ref kp), some (.ref p), some (.int e'), some (.ref C), some .non, some (.ref x), some .non, none] ∧ KpF (· = g) H H' ∧ Bag l H' g ∧ LamX.Tabs Tb H' ∧ RestX a (FK g kp) H' (.days bs e') x ∧ H' C = some (.lst (bs.map V.int)), ?_, ?_⟩
    · rcases seq_of hp with hp | hp
      · refine ⟨_, rfl, _, _, _, _, _, rfl, .ty _, .base (.lst hp), kit_ty (show kitB "list" "list" = some true by decide +kernel), _, rfl, iteT ?_⟩
        refine ⟨_, rfl, .inl ⟨rfl, _, SqL.of hp⟩, p, _, _, rfl, rfl, hp, Nat.lt_of_le_of_lt hl14 (by decide), rfl, ?_, ?_, ?_, ?_, ?_⟩
        · refine fun c o n t e => ?_
          rw [upd_ne (fun z => by rw [z, hp0] at e; cases e)]
          exact k05 _ _ n t e
        · exact S5.b.mut (fun z => np (.inl z)) (fun z => by
            obtain ⟨_, ⟨ys, q⟩⟩ := S.b.there
            rw [← z, hp0] at q
            cases q)
        · exact tabs_lst hp S5.t
        · exact (R.kp (KpF.mut' (.inr rfl))).mono fun b z => .inl z
        · rw [upd_ne (fun z => vC (by rw [z]))]
          exact eC
      · refine ⟨_, rfl, _, _, _, _, _, rfl, .ty _, .base (.tup hp), kit_ty (show kitB "tuple" "list" = some false by decide +kernel), _, rfl, iteF ?_⟩
        exact ⟨rfl, k05, S5.b, S5.t, R.mono fun b z => .inl z, eC⟩
    rintro σ H6 ⟨rfl, k06, B6, t6, R6, eC6⟩
    have S6 := S.step k06 B6 t6
    obtain ⟨nx6, dx6, b6, hx6, nb6, hb6⟩ := id R6
    refine ⟨_, rfl, x, a.D, dx6, _, _, rfl, hx6, KN.d.cl, KN.ne, lk_every, _, rfl, x, a.D, dx6, _, rfl, hx6, KN.d.cl, KN.mDb, lk_bm, x, FK g kp, bs, e', rfl, R6, fun B1 H7 s7 hB1 eH7 => ⟨(by show 2 ≤ sizeLine; decide), fun L1 hL1 => ⟨_, rfl, _, rfl, (by show 2 ≤ sizeLine; decide), fun L2 hL2 => ?_⟩⟩⟩
    have eB1 : H7 B1 = some (.lst (bs.map V.int)) := by rw [eH7]; exact upd_same
    have sL1 := same_new (o := .lst [.int e', .ref B1]) hL1
    have sL2 := same_new (o := .lst [.int e', .ref C]) hL2
    have s69 := s7.trans (sL1.trans sL2)
    have inn : ∀ (Hx : Hp), ∀ w ∈ bs.map V.int, Lq Hx 0 w w := fun Hx w hw => by
      obtain ⟨z, _, rfl⟩ := List.mem_map.mp hw
      exact Lq.sc (by exact True.intro) 0
    have bl6 : (bs.map V.int).length ≤ 1000000 := by omega
    refine ⟨V.ref L1, V.ref L2, 2, rfl, by decide, .inr (.inr ⟨true, L1, L2, _, _, rfl, rfl, sL2 _ _ upd_same, upd_same, rfl, (by show 2 ≤ 1000000; decide), fun j u w a1 a2 => ?_⟩), fun H8 s8 => ⟨_, rfl, iteF ?_⟩⟩
    · match j, a1, a2 with
      | 0, a1, a2 => cases a1; cases a2; exact Lq.sc (by exact True.intro) 1
      | 1, a1, a2 => cases a1; cases a2; exact Lq.lst2 (sL2 _ _ (sL1 _ _ eB1)) (s69 _ _ eC6) bl6 (inn _)
    have s68 := s69.trans s8
    have R8 := R6.same s68
    refine ⟨_, rfl, x, a.D, dx6, _, rfl, s68 _ _ hx6, KN.d.cl, KN.mDb, lk_bm, x, FK g kp, bs, e', rfl, R8, fun B2 H9 s9 hB2 eH9 => ?_⟩
    have eB2 : H9 B2 = some (.lst (bs.map V.int)) := by rw [eH9]; exact upd_same
    refine ⟨_, rfl, .inl ⟨rfl, _, SqL.of eB2⟩, B2, _, _, rfl, rfl, eB2, Nat.lt_of_le_of_lt hl14 (by decide), ?_⟩
    have s10 : Same H6 (upd H9 B2 (.lst (bs.map V.int ++ [.int 1000]))) := s68.trans (same_upd hB2 s9)
    generalize upd H9 B2 (.lst (bs.map V.int ++ [.int 1000])) = H10 at s10 ⊢
    have S10 := S6.same s10
    obtain ⟨ts, eK, tl0, tl1, ent⟩ := S10.k
    refine ⟨_, rfl, .inl ⟨rfl, _, SqL.of eK⟩, _, rfl, C, _, rfl, .inl ⟨SqL.of (s10 _ _ eC6), fun Y hY => ⟨_, rfl, (by show 3 ≤ sizeLine; decide), fun X hX => ⟨_, rfl, (by show 2 ≤ sizeLine; decide), fun T2 hT2 => ?_⟩⟩⟩⟩
    have sY := same_new (o := .tup (bs.map V.int)) hY
    have sA := same_new (o := .tup [.str "days", .ref Y, .int e']) hX
    have sB := same_new (o := .tup [.ref X, .ref x]) hT2
    have eY := sB _ _ (sA _ _ (upd_same (H := H10) (a := Y) (o := .tup (bs.map V.int))))
    have sYB := sY.trans (sA.trans sB)
    have en : Ent a (FK g kp) _ T2 (.days bs e') := ⟨X, x, upd_same, (S10.same (sY.trans sA)).nF hT2, gd, ⟨Y, sB _ _ upd_same, eY⟩, (R6.same s10).same sYB⟩
    have S11 := S10.same sYB
    have eK11 := sYB _ _ eK
    have R11 := (R6.same s10).same sYB
    have eC11 := sYB _ _ (s10 _ _ eC6)
    generalize upd (upd (upd H10 Y (.tup (bs.map V.int))) X (.tup [.str "days", .ref Y, .int e'])) T2 (.tup [.ref X, .ref x]) = H11 at en S11 eK11 R11 eC11 ⊢
    refine ⟨kp, _, _, rfl, rfl, eK11, by rw [List.length_map]; exact Nat.lt_of_le_of_lt (show ts.length ≤ 40 by omega) (by decide), ?_⟩
    have S12 := S11.add eK11 en
    have km : KpF (FK g kp) H11 (upd H11 kp (.lst (ts.map V.ref ++ [.ref T2]))) := KpF.mut' (.inr rfl)
    have R12 := R11.kp km
    have eC12 := km _ _ nC lstN eC11
    generalize upd H11 kp (.lst (ts.map V.ref ++ [.ref T2])) = H12 at S12 R12 eC12 ⊢
    obtain ⟨nx2, dx2, b2, hx2, nb2, hb2⟩ := id R12
    refine ⟨_, rfl, x, a.D, dx2, _, rfl, hx2, KN.d.cl, KN.mDb, lk_bm, x, FK g kp, bs, e', rfl, R12, fun B3 H13 s13 hB3 eH13 => ?_⟩
    have eB3 : H13 B3 = some (.lst (bs.map V.int)) := by rw [eH13]; exact upd_same
    exact ⟨_, rfl, V.ref B3, V.ref C, 1, rfl, by decide, Lq.lst2 eB3 (s13 _ _ eC12) bl6 (inn _), fun H14 s14 => k _ _ (Nat.le_refl _) (S12.same (s13.trans s14))⟩
end k04
namespace k04
open PySem L2 LC RM
def sppair (a : Ad) (ce : Ce) : Sp := fun vs H Q E => ∃ (g l : Addr) (pick : Str) (J : Pl → Pl → Pl) (C : Addr) (u v : V) (o1 o2 : Option Pl) (F : Addr → Prop), vs = [.ref g, .str pick, u, v] ∧ Pk a pick J C ∧ Bag l H g ∧ RestV a F H u o1 ∧ RestV a F H v o2 ∧ F g ∧ (∀ b, F b → ∃ o, H b = some o) ∧
  (∀ er H', pairDue o1 o2 u v = some er → Ok g l H H' → Out ce H' E er) ∧ ∀ p q x H', o1 = some p → o2 = some q → p.leaves + q.leaves ≤ 3 → lcmI p.per q.per ≤ 2000 → Ok g l H H' → RestX a F H' (J p q) x → Q (.ref x) H'
theorem ok_pair {P : Program} {w : World} {K : PySem.W.Frag} {mg : Str → Option Value} {base : Heap} {f : Addr} {fd : FuncData} (D : Def K mg "_law_pair" spair Ppair f fd) (T : Txt K mg) {a : Ad} (KN : Kn K mg a) {ce : Ce} {fdLater : FuncData} (ILater : FnR P w K mg base (L2.CX P w) 6 a.Li (spLater_init K a ce)) (GLater : FnOk P w K mg base (L2.CX P w) 6 a.Li fdLater PLater_init (spLater_init K a ce)) (KBLater : KBn K fdLater PLater_init 1 ["second", "first"] kg2 kg2) {fdSooner : FuncData} (ISooner : FnR P w K mg base (L2.CX P w) 6 a.Si (spSooner_init K a ce)) (GSooner : FnOk P w K mg base (L2.CX P w) 6 a.Si fdSooner PSooner_init (spSooner_init K a ce)) (KBSooner : KBn K fdSooner PSooner_init 1 ["second", "first"] kg2 kg2) {fdNext : FuncData} (INext : FnR P w K mg base (L2.CX P w) 6 a.Ni (spNext_init K a ce)) (GNext : FnOk P w K mg base (L2.CX P w) 6 a.Ni fdNext PNext_init (spNext_init K a ce)) (KBNext : KBn K fdNext PNext_init 1 ["second", "first"] kg2 kg2) {fdraw : Addr} {fddraw : FuncData} (Ddraw : Def K mg "_law_draw" sdraw Pdraw fdraw fddraw) (Gdraw : FnOk P w K mg base CX0 1 fdraw fddraw Pdraw (spdraw)) :
    FnOk P w K mg base (L2.CX P w) 8 f fd Ppair (sppair a ce) := by
  refine D.F.okX scpair (fun vs H Q E h => ?_) (fun cdv A outer s H vs Q E hr h => ?_)
  · obtain ⟨g, l, pick, J, C, u, v, o1, o2, F, rfl, pk, B, R1, R2, Fg, hF, ke, k⟩ := h
    rfl
  · obtain ⟨g, l, pick, J, C, u, v, o1, o2, F, rfl, pk, B, R1, R2, Fg, hF, ke, k⟩ := h
    have hrdraw : Room 1 _ := hr.mono (by decide)
    have hrI : Room 7 _ := hr.mono (by decide)
    refine ⟨_, (pss_cons (ps_set (i := 4) scpair.nd rfl (Or.inl rfl) (pe_call Gdraw hrdraw rfl Ddraw.g Ddraw.F.kp Ddraw.b .nil pass0 (pa_cons (pv 0) (pa_cons pe_int pa_nil))))
        (pss_cons (ps_if (pt_cmpR op_eq (pv 1) pe_str (nomark _)) (pss_one (ps_ret (pe_ifExp (pt_cmpR op_eq (pv 4) pe_int (nomark _)) (StX.pe_makeR KN.mLater ILater hrI rfl KN.gLater (passes_call (takes_of rfl rfl rfl rfl) fun _ _ _ _ h => h) (pa_cons (pv 2) (pa_cons (pv 3) pa_nil))) (pe_makeK0 KN.mLater GLater hrI rfl KN.gLater KBLater (passes_call (takes_of rfl rfl rfl rfl) fun _ _ _ _ h => h) (pk_cons (pv 3) (pk_cons (pv 2) pk_nil)))))) pss_nil)
        (pss_cons (ps_if (pt_cmpR op_eq (pv 1) pe_str (nomark _)) (pss_one (ps_ret (pe_ifExp (pt_cmpR op_eq (pv 4) pe_int (nomark _)) (StX.pe_makeR KN.mSooner ISooner hrI rfl KN.gSooner (passes_call (takes_of rfl rfl rfl rfl) fun _ _ _ _ h => h) (pa_cons (pv 2) (pa_cons (pv 3) pa_nil))) (pe_makeK0 KN.mSooner GSooner hrI rfl KN.gSooner KBSooner (passes_call (takes_of rfl rfl rfl rfl) fun _ _ _ _ h => h) (pk_cons (pv 3) (pk_cons (pv 2) pk_nil)))))) pss_nil)
        (pss_one (ps_ret (pe_ifExp (pt_cmpR op_eq (pv 4) pe_int (nomark _)) (StX.pe_makeR KN.mNext INext hrI rfl KN.gNext (passes_call (takes_of rfl rfl rfl rfl) fun _ _ _ _ h => h) (pa_cons (pv 2) (pa_cons (pv 3) pa_nil))) (pe_makeK0 KN.mNext GNext hrI rfl KN.gNext KBNext (passes_call (takes_of rfl rfl rfl rfl) fun _ _ _ _ h => h) (pk_cons (pv 3) (pk_cons (pv 2) pk_nil))))))))), ?_⟩
    refine ⟨_, rfl, g, l, 2, rfl, B, by decide, by decide, fun d H1 d0 d1 r1 => ?_⟩
    have R1' := R1.kp (KpF.kp Fg r1.kp)
    have R2' := R2.kp (KpF.kp Fg r1.kp)
    have nF : ∀ x, H1 x = none → ¬ F x := fun x hx => nF_of hF r1 hx
    cases pk with
    | l =>
      have core : ∀ (x dx : Addr), H1 x = none → H1 dx = none → spLater_init K a ce [.ref x, u, v] (upd (upd H1 dx (.own x)) x (.ins a.L dx [])) (fun v H2 => v = .non ∧ Q (.ref x) H2) E := fun x dx hx hdx =>
        ⟨x, dx, F, u, v, o1, o2, H1, rfl, upd_same, hx, nF x hx, same_two hx hdx, R1', R2', fun er q => ke er H1 q r1, fun p q H' e1 e2 h1 h2 s R => ⟨rfl, k p q x H' e1 e2 h1 h2 (r1.same s) R⟩⟩
      refine ⟨_, rfl, rfl, _, rfl, iteT ?_⟩
      refine ⟨_, rfl, rfl, _, rfl, ite_eq (fun _ => ?_) (fun _ => ?_)⟩
      · exact ⟨_, rfl, _, rfl, fun x dx hx hdx nx => core x dx hx hdx⟩
      · exact ⟨_, rfl, _, rfl, rfl, rfl, fun x dx hx hdx nx => core x dx hx hdx⟩
    | s =>
      have core : ∀ (x dx : Addr), H1 x = none → H1 dx = none → spSooner_init K a ce [.ref x, u, v] (upd (upd H1 dx (.own x)) x (.ins a.S dx [])) (fun v H2 => v = .non ∧ Q (.ref x) H2) E := fun x dx hx hdx =>
        ⟨x, dx, F, u, v, o1, o2, H1, rfl, upd_same, hx, nF x hx, same_two hx hdx, R1', R2', fun er q => ke er H1 q r1, fun p q H' e1 e2 h1 h2 s R => ⟨rfl, k p q x H' e1 e2 h1 h2 (r1.same s) R⟩⟩
      refine ⟨_, rfl, rfl, _, rfl, iteF ?_⟩
      refine ⟨_, rfl, rfl, _, rfl, iteT ?_⟩
      refine ⟨_, rfl, rfl, _, rfl, ite_eq (fun _ => ?_) (fun _ => ?_)⟩
      · exact ⟨_, rfl, _, rfl, fun x dx hx hdx nx => core x dx hx hdx⟩
      · exact ⟨_, rfl, _, rfl, rfl, rfl, fun x dx hx hdx nx => core x dx hx hdx⟩
    | n =>
      have core : ∀ (x dx : Addr), H1 x = none → H1 dx = none → spNext_init K a ce [.ref x, u, v] (upd (upd H1 dx (.own x)) x (.ins a.N dx [])) (fun v H2 => v = .non ∧ Q (.ref x) H2) E := fun x dx hx hdx =>
        ⟨x, dx, F, u, v, o1, o2, H1, rfl, upd_same, hx, nF x hx, same_two hx hdx, R1', R2', fun er q => ke er H1 q r1, fun p q H' e1 e2 h1 h2 s R => ⟨rfl, k p q x H' e1 e2 h1 h2 (r1.same s) R⟩⟩
      refine ⟨_, rfl, rfl, _, rfl, iteF ?_⟩
      refine ⟨_, rfl, rfl, _, rfl, iteF ?_⟩
      refine ⟨_, rfl, rfl, _, rfl, ite_eq (fun _ => ?_) (fun _ => ?_)⟩
      · exact ⟨_, rfl, _, rfl, fun x dx hx hdx nx => core x dx hx hdx⟩
      · exact ⟨_, rfl, _, rfl, rfl, rfl, fun x dx hx hdx nx => core x dx hx hdx⟩
end k04
namespace k04
open PySem L2 LC RM
def sppair_due (a : Ad) : Sp := fun vs H Q _ => ∃ (t1 t2 : Addr) (u v : V) (o1 o2 : Option Pl) (F : Addr → Prop), vs = [.ref t1, .ref t2] ∧ PEt a F H t1 u o1 ∧ PEt a F H t2 v o2 ∧ (pairDue o1 o2 u v = none → ∀ H', Same H H' → Q .non H') ∧
  ∀ (nm : Str) (ws : List V), pairDue o1 o2 u v = some (nm, ws) → ∀ D H', Same H H' → H D = none → H' D = some (.lst (.str nm :: ws)) → Q (.ref D) H'
theorem ok_pair_due {P : Program} {w : World} {K : PySem.W.Frag} {mg : Str → Option Value} {base : Heap} {f : Addr} {fd : FuncData} (D : Def K mg "_law_pair_due" spair_due Ppair_due f fd) (T : Txt K mg) {flcm : Addr} {fdlcm : FuncData} (Dlcm : Def K mg "_law_lcm" slcm Plcm flcm fdlcm) (Glcm : FnOk P w K mg base CX0 1 flcm fdlcm Plcm (splcm)) {ffacts : Addr} {fdfacts : FuncData} (Dfacts : Def K mg "_law_facts" sfacts Pfacts ffacts fdfacts) (Gfacts : FnOk P w K mg base CX0 4 ffacts fdfacts Pfacts (spfacts 3)) :
    FnOk P w K mg base CX0 5 f fd Ppair_due (sppair_due a) := by
  refine D.F.ok scpair_due (fun vs H Q E h => ?_) (fun cdv A outer s H vs Q E hr h => ?_)
  · obtain ⟨t1, t2, u, v, o1, o2, F, rfl, P1, P2, k0, k1⟩ := h
    rfl
  · obtain ⟨t1, t2, u, v, o1, o2, F, rfl, P1, P2, k0, k1⟩ := h
    have hrlcm : Room 1 _ := hr.mono (by decide)
    have hrfacts : Room 4 _ := hr.mono (by decide)
    refine ⟨_, (pss_cons (ps_if (pt_cmpR op_isN (pe_ix ix_tup (pv 0) pe_int (fun _ _ => rfl)) pe_non (nomark _)) (pss_one (ps_ret (pe_lst (pa_cons pe_str (pa_cons (pe_ix ix_tup (pv 0) pe_int (fun _ _ => rfl)) pa_nil))))) pss_nil)
        (pss_cons (ps_if (pt_cmpR op_isN (pe_ix ix_tup (pv 1) pe_int (fun _ _ => rfl)) pe_non (nomark _)) (pss_one (ps_ret (pe_lst (pa_cons pe_str (pa_cons (pe_ix ix_tup (pv 1) pe_int (fun _ _ => rfl)) pa_nil))))) pss_nil)
        (pss_cons (ps_par (i := 2) (j := 3) (by rfl) scpair_due.nd rfl rfl (by decide) rfl rfl (pa_cons (pe_call Gfacts hrfacts rfl Dfacts.g Dfacts.F.kp Dfacts.b .nil pass0 (pa_cons (pe_ix ix_tup (pv 0) pe_int (fun _ _ => rfl)) pa_nil)) (pa_cons (pe_call Gfacts hrfacts rfl Dfacts.g Dfacts.F.kp Dfacts.b .nil pass0 (pa_cons (pe_ix ix_tup (pv 1) pe_int (fun _ _ => rfl)) pa_nil)) pa_nil)) (by rfl))
        (pss_cons (ps_if (pt_cmpR op_gt (pe_op op_add (pe_op op_add (pe_ix ix_tup (pv 2) pe_int (fun _ _ => rfl)) (pe_ix ix_tup (pv 3) pe_int (fun _ _ => rfl))) pe_int) pe_int (nomark _)) (pss_one (ps_ret (pe_lst (pa_cons pe_str (pa_cons pe_str (pa_cons (pe_op op_add (pe_op op_add (pe_ix ix_tup (pv 2) pe_int (fun _ _ => rfl)) (pe_ix ix_tup (pv 3) pe_int (fun _ _ => rfl))) pe_int) pa_nil)))))) pss_nil)
        (pss_cons (ps_set (i := 4) scpair_due.nd rfl (Or.inl rfl) (pe_call Glcm hrlcm rfl Dlcm.g Dlcm.F.kp Dlcm.b .nil pass0 (pa_cons (pe_ix ix_tup (pv 2) pe_int (fun _ _ => rfl)) (pa_cons (pe_ix ix_tup (pv 3) pe_int (fun _ _ => rfl)) pa_nil))))
        (pss_one (ps_ret (pe_ifExp (pt_cmpR op_gt (pv 4) pe_int (nomark _)) (pe_lst (pa_cons pe_str (pa_cons pe_str (pa_cons (pv 4) pa_nil)))) pe_non)))))))), ?_⟩
    cases o1 with
    | none =>
      obtain ⟨h1, _⟩ := P1
      refine ⟨_, rfl, _, _, _, _, rfl, rfl, SqT.of h1, rfl, rfl, _, rfl, iteT ?_⟩
      exact ⟨_, rfl, _, _, _, _, rfl, rfl, SqT.of h1, rfl, (by show 2 ≤ sizeLine; decide), fun D hD => k1 _ _ rfl D _ (same_new hD) hD upd_same⟩
    | some p =>
      obtain ⟨x, y, h1, rfl, hp, gp, R1⟩ := P1
      refine ⟨_, rfl, _, _, _, _, rfl, rfl, SqT.of h1, rfl, rfl, _, rfl, ite_d (fun z => by cases z) (fun _ => ?_)⟩
      cases o2 with
      | none =>
        obtain ⟨h2, _⟩ := P2
        refine ⟨_, rfl, _, _, _, _, rfl, rfl, SqT.of h2, rfl, rfl, _, rfl, iteT ?_⟩
        exact ⟨_, rfl, _, _, _, _, rfl, rfl, SqT.of h2, rfl, (by show 2 ≤ sizeLine; decide), fun D hD => k1 _ _ rfl D _ (same_new hD) hD upd_same⟩
      | some q =>
        obtain ⟨x2, y2, h2, rfl, hq, gq, R2⟩ := P2
        refine ⟨_, rfl, _, _, _, _, rfl, rfl, SqT.of h2, rfl, rfl, _, rfl, ite_d (fun z => by cases z) (fun _ => ?_)⟩
        have hh1 := gp.h
        have hh2 := gq.h
        refine ⟨_, rfl, _, _, _, _, rfl, rfl, SqT.of h1, rfl, x, p, rfl, hp, gp, by omega, fun T1 H1 s1 n1 e1 => ?_⟩
        refine ⟨_, rfl, _, _, _, _, rfl, rfl, SqT.of (s1 _ _ h2), rfl, x2, q, rfl, hq.kt (Kt.same s1), gq, by omega, fun T2 H2 s2 n2 e2 => ⟨_, _, rfl, ?_⟩⟩
        have e1 := s2 _ _ e1
        have s12 := s1.trans s2
        have a1 := gp.p1
        have a2 := gp.p2
        have a3 := gq.p1
        have a4 := gq.p2
        have due : ∀ r, (if 6 < 1 + p.forms + q.forms then some (("TooMany" : Str), [V.str "forms", V.int (1 + p.forms + q.forms)]) else if 2000 < lcmI p.per q.per then some (("TooMany" : Str), [V.str "period", V.int (lcmI p.per q.per)]) else none) = r → pairDue (some p) (some q) (.ref y) (.ref y2) = r := fun r h => h
        have ef : p.forms + q.forms + 1 = 1 + p.forms + q.forms := by omega
        refine ⟨_, rfl, _, _, _, _, rfl, rfl, SqT.of e1, rfl, _, rfl, _, _, _, _, rfl, rfl, SqT.of e2, rfl, _, _, rfl, rfl, _, _, rfl, rfl, _, _, rfl, rfl, _, rfl, ite_d (fun hf => ?_) (fun hf => ?_)⟩
        · refine ⟨_, rfl, _, _, _, _, rfl, rfl, SqT.of e1, rfl, _, rfl, _, _, _, _, rfl, rfl, SqT.of e2, rfl, _, _, rfl, rfl, _, _, rfl, rfl, (by show 3 ≤ sizeLine; decide), fun D hD => k1 "TooMany" [.str "forms", .int (1 + p.forms + q.forms)] (due _ (by rw [if_pos (by omega)])) D _ (s12.trans (same_new hD)) (s12.free hD) (by rw [← ef]; exact upd_same)⟩
        refine ⟨_, rfl, _, _, _, _, rfl, rfl, SqT.of e1, rfl, _, rfl, _, _, _, _, rfl, rfl, SqT.of e2, rfl, _, _, rfl, by omega, by omega, by omega, by omega, ?_⟩
        refine ⟨_, rfl, _, _, rfl, rfl, _, rfl, ite_d (fun hc => ?_) (fun hc => ?_)⟩
        · exact ⟨_, rfl, (by show 3 ≤ sizeLine; decide), fun D hD => k1 "TooMany" [.str "period", .int (lcmI p.per q.per)] (due _ (by rw [if_neg (by omega), if_pos (by omega)])) D _ (s12.trans (same_new hD)) (s12.free hD) upd_same⟩
        · exact k0 (due _ (by rw [if_neg (by omega), if_neg (by omega)])) _ s12
end k04
namespace k04
open PySem L2 LC RM
def spclass_so (a : Ad) : Sp := fun vs H Q _ => ∃ (pick : Str) (J : Pl → Pl → Pl) (C x dx : Addr) (fs : List (Str × V)), vs = [.str pick, .ref x] ∧ Pk a pick J C ∧ H x = some (.ins C dx fs) ∧ Q (.bl true) H
theorem ok_class_so {P : Program} {w : World} {K : PySem.W.Frag} {mg : Str → Option Value} {base : Heap} {f : Addr} {fd : FuncData} (D : Def K mg "_law_class_so" sclass_so Pclass_so f fd) (T : Txt K mg) {a : Ad} (KN : Kn K mg a) :
    FnOk P w K mg base CX0 1 f fd Pclass_so (spclass_so a) := by
  refine D.F.ok scclass_so (fun vs H Q E h => ?_) (fun cdv A outer s H vs Q E hr h => ?_)
  · obtain ⟨pick, J, C, x, dx, fs, rfl, pk, hx, k⟩ := h
    rfl
  · obtain ⟨pick, J, C, x, dx, fs, rfl, pk, hx, k⟩ := h
    refine ⟨_, (pss_cons (ps_if (pt_cmpR op_eq (pv 0) pe_str (nomark _)) (pss_one (ps_ret (pe_callB call_isi (by rfl) T.n_isinstance (by decide +kernel) (pa_cons (pv 1) (pa_cons (pe_glob rfl KN.gLater (show RelV (.ref a.L) _ from rfl)) pa_nil))))) pss_nil)
        (pss_one (ps_ret (pe_ifExp (pt_cmpR op_eq (pv 0) pe_str (nomark _)) (pe_callB call_isi (by rfl) T.n_isinstance (by decide +kernel) (pa_cons (pv 1) (pa_cons (pe_glob rfl KN.gSooner (show RelV (.ref a.S) _ from rfl)) pa_nil))) (pe_callB call_isi (by rfl) T.n_isinstance (by decide +kernel) (pa_cons (pv 1) (pa_cons (pe_glob rfl KN.gNext (show RelV (.ref a.N) _ from rfl)) pa_nil))))))), ?_⟩
    cases pk with
    | l =>
      refine ⟨_, rfl, rfl, _, rfl, iteT ?_⟩
      exact ⟨_, rfl, _, _, _, _, _, rfl, .own _, .base (.ins hx KN.l.cl KN.l.ha KN.l.hn KN.l.htk KN.l.hm), KN.l.ks, k⟩
    | s =>
      refine ⟨_, rfl, rfl, _, rfl, iteF ?_⟩
      refine ⟨_, rfl, rfl, _, rfl, iteT ?_⟩
      exact ⟨_, rfl, _, _, _, _, _, rfl, .own _, .base (.ins hx KN.s.cl KN.s.ha KN.s.hn KN.s.htk KN.s.hm), KN.s.ks, k⟩
    | n =>
      refine ⟨_, rfl, rfl, _, rfl, iteF ?_⟩
      refine ⟨_, rfl, rfl, _, rfl, iteF ?_⟩
      exact ⟨_, rfl, _, _, _, _, _, rfl, .own _, .base (.ins hx KN.n.cl KN.n.ha KN.n.hn KN.n.htk KN.n.hm), KN.n.ks, k⟩
end k04
namespace k04
open PySem L2 LC RM
def spunder (a : Ad) (Tb : List (Addr × Str)) : Sp := fun vs H Q _ => ∃ (g l kp : Addr) (n : Nat), vs = [.ref g, .ref kp] ∧ StK Tb a g l kp n H ∧ n ≤ 40 ∧ ∀ m H', m ≤ n + 1 → StK Tb a g l kp m H' → Q (.bl true) H'
theorem ok_under {P : Program} {w : World} {K : PySem.W.Frag} {mg : Str → Option Value} {base : Heap} {f c Pt : Addr} {oc kV doc pm ct : Value} {od an : Option Addr} {osl : Array (Option Value)} (lk : K.lookup f = some ⟨oc, od, .func (PySem.W.fnOf "_law_under" "_law_under" (defArgs sunder) (defBody sunder) (defScope sunder) .none kV doc pm an (.ref c) ct), osl⟩) (hcd : PySem.W.codeIn K (.ref c) "_law_under" = true) (TB : LamX.TabB base mg c Pt) (T : Txt K mg) {a : Ad} (KN : Kn K mg a) {ce : Ce} {fdInvalidNumber : FuncData} {fInvalidNumber : Addr} (RInvalidNumber : RE P w K mg base "InvalidNumber" "value" (ivF "InvalidNumber") ce.nu fInvalidNumber fdInvalidNumber) {fdInvalidBorders : FuncData} {fInvalidBorders : Addr} (RInvalidBorders : RE P w K mg base "InvalidBorders" "at" (atF "InvalidBorders") ce.bo fInvalidBorders fdInvalidBorders) {fdInvalidRest : FuncData} {fInvalidRest : Addr} (RInvalidRest : RE P w K mg base "InvalidRest" "value" (ivF "InvalidRest") ce.re fInvalidRest fdInvalidRest) {fdTooMany : FuncData} {fTooMany : Addr} (RTooMany : RTM P w K mg base ce.tm fTooMany fdTooMany) {S fask : Addr} {fdask : FuncData} (Dask : Def K mg "_law_ask" sask Pask fask fdask) (eBN : PySem.W.exmOne K (.ref ce.bo) (.ref ce.nu) = some false) (eRN : PySem.W.exmOne K (.ref ce.re) (.ref ce.nu) = some false) (eRB : PySem.W.exmOne K (.ref ce.re) (.ref ce.bo) = some false) (eTN : PySem.W.exmOne K (.ref ce.tm) (.ref ce.nu) = some false) (eTB : PySem.W.exmOne K (.ref ce.tm) (.ref ce.bo) = some false) (eTR : PySem.W.exmOne K (.ref ce.tm) (.ref ce.re) = some false) (gSE : mg "SureletError" = some (.ref S)) (OE : FnR P w K mg base CX0 1 a.fE (spRest_eq K a)) (RW : FnR P w K mg base CX0 1 a.fW (spRest_written K a)) {fpair : Addr} {fdpair : FuncData} (Dpair : Def K mg "_law_pair" spair Ppair fpair fdpair) (Gpair : FnOk P w K mg base (L2.CX P w) 8 fpair fdpair Ppair (sppair a ce)) {Tb : List (Addr × Str)} (hmT : (Pt, (("_law_under" : Str) ++ ".<locals>." ++ "<lambda>")) ∈ Tb) (hu : ∀ p ∈ Tb, p.1 = Pt → p.2 = (("_law_under" : Str) ++ ".<locals>." ++ "<lambda>")) {fdraw : Addr} {fddraw : FuncData} (Ddraw : Def K mg "_law_draw" sdraw Pdraw fdraw fddraw) (Gdraw : FnOk P w K mg base CX0 1 fdraw fddraw Pdraw (spdraw)) {fof : Addr} {fdof : FuncData} (Dof : Def K mg "_law_of" sof Pof fof fdof) (Gof : FnOk P w K mg base CX0 2 fof fdof Pof (spof K)) {flike : Addr} {fdlike : FuncData} (Dlike : Def K mg "_law_like" slike Plike flike fdlike) (Glike : FnOk P w K mg base CX0 5 flike fdlike Plike (splike 5)) {fodd : Addr} {fdodd : FuncData} (Dodd : Def K mg "_law_odd" sodd Podd fodd fdodd) (Godd : FnOk P w K mg base CX0 3 fodd fdodd Podd (spodd)) {ftext : Addr} {fdtext : FuncData} (Dtext : Def K mg "_law_text" stext Ptext ftext fdtext) (Gtext : FnOk P w K mg base CX0 3 ftext fdtext Ptext (sptext 3)) {fpair_due : Addr} {fdpair_due : FuncData} (Dpair_due : Def K mg "_law_pair_due" spair_due Ppair_due fpair_due fdpair_due) (Gpair_due : FnOk P w K mg base CX0 5 fpair_due fdpair_due Ppair_due (sppair_due a)) {fclass_so : Addr} {fdclass_so : FuncData} (Dclass_so : Def K mg "_law_class_so" sclass_so Pclass_so fclass_so fdclass_so) (Gclass_so : FnOk P w K mg base CX0 1 fclass_so fdclass_so Pclass_so (spclass_so a)) :
    FnOk P w K mg base CX0 11 f (PySem.W.fnOf "_law_under" "_law_under" (defArgs sunder) (defBody sunder) (defScope sunder) .none kV doc pm an (.ref c) ct) Punder (spunder a Tb) := by
  refine LL.okC lk hcd scunder (fun vs H Q E h => ?_) (fun A outer s H vs Q E hr h => ?_)
  · obtain ⟨g, l, kp, n, rfl, S, n40, k⟩ := h
    rfl
  · obtain ⟨g, l, kp, n, rfl, S, n40, k⟩ := h
    have hrdraw : Room 1 _ := hr.mono (by decide)
    have hrof : Room 2 _ := hr.mono (by decide)
    have hrlike : Room 5 _ := hr.mono (by decide)
    have hrodd : Room 3 _ := hr.mono (by decide)
    have hrtext : Room 3 _ := hr.mono (by decide)
    have hrpair_due : Room 5 _ := hr.mono (by decide)
    have hrclass_so : Room 1 _ := hr.mono (by decide)
    have hrL : Room (8 + 2) _ := hr.mono (by decide)
    have hrM : Room 1 _ := hr.mono (by decide)
    have hrQ : Room 1 _ := hr.mono (by decide)
    refine ⟨_, (pss_cons (ps_set (i := 2) scunder.nd rfl (Or.inr rfl) (pe_call Gof hrof rfl Dof.g Dof.F.kp Dof.b .nil pass0 (pa_cons (pv 0) (pa_cons (pe_lst (pa_cons pe_str (pa_cons pe_str (pa_cons pe_str pa_nil)))) pa_nil))))
        (pss_cons (ps_set (i := 3) scunder.nd rfl (Or.inr rfl) (pe_lc (own := [("_law_k", 8)]) (g := gName 8) (tt := tYes) rfl scunder.nd (pi_range1 rfl T.n_range (pa_cons pe_int pa_nil)) (blkOk_by (own := [("_law_k", 8)]) (N := Nmunder) (sc := defScope sunder) (by decide +kernel)) (fun _ _ _ _ _ => pg_name (i := 8) scunder.nd rfl (Or.inl rfl)) (fun _ _ _ _ _ => pts_nil) (fun _ _ _ _ _ => (pe_call Gof hrof rfl Dof.g Dof.F.kp Dof.b .nil pass0 (pa_cons (pv 0) (pa_cons (pv 1) pa_nil))))))
        (Evl.pss_cut (ps_if (pt_cmpR op_eq (pe_call Gdraw hrdraw rfl Ddraw.g Ddraw.F.kp Ddraw.b .nil pass0 (pa_cons (pv 0) (pa_cons pe_int pa_nil))) pe_int (nomark _)) (pss_one (ps_asg (pe_tup (pa_cons pe_non (pa_cons (pe_call Godd hrodd rfl Dodd.g Dodd.F.kp Dodd.b .nil pass0 (pa_cons (pv 0) pa_nil)) pa_nil))) (pg_sub (pv 3) (pe_call Gdraw hrdraw rfl Ddraw.g Ddraw.F.kp Ddraw.b .nil pass0 (pa_cons (pv 0) (pa_cons pe_int pa_nil))) set_list))) pss_nil)
        (Evl.pss_cut (ps_set (i := 4) scunder.nd rfl (Or.inl rfl) (pe_call Gpair_due hrpair_due rfl Dpair_due.g Dpair_due.F.kp Dpair_due.b .nil pass0 (pa_cons (pe_ix ix_list (pv 3) pe_int (fun _ _ => rfl)) (pa_cons (pe_ix ix_list (pv 3) pe_int (fun _ _ => rfl)) pa_nil))))
        (pss_cons (ps_asg (LL.pe_lamcallS (T := Tb) (ql := ("_law_under" : Str) ++ ".<locals>.") Dask rfl scask rfl (Or.inl rfl) (fun _ => ask_gives RInvalidNumber RInvalidBorders RInvalidRest RTooMany eBN eRN eRB eTN eTB eTR gSE) rfl TB rfl hmT hu hrL (show LamX.LamS (defScope sunder) _ from LamX.lamS_by (by decide +kernel)) rfl (fun _ _ _ _ _ => rfl) (fun A outer s H E f c' hrB => (pe_call Gpair hrB rfl Dpair.g Dpair.F.kp Dpair.b .nil (passes_call (takes_of rfl rfl rfl rfl) fun _ _ _ _ h => h) (pa_cons (pv 0) (pa_cons (pv 2) (pa_cons (pe_ix (show IxR _ (rIxT K) from ix_tup) (pe_ix (show IxR _ (rIxL K) from ix_list) (pv 3) pe_int (fun _ _ => rfl)) pe_int (fun _ _ => rfl)) (pa_cons (pe_ix (show IxR _ (rIxT K) from ix_tup) (pe_ix (show IxR _ (rIxL K) from ix_list) (pv 3) pe_int (fun _ _ => rfl)) pe_int (fun _ _ => rfl)) pa_nil))))))) (pg_tup rfl (pgs_cons (pg_name (i := 5) scunder.nd rfl (Or.inl rfl)) (pgs_cons (pg_name (i := 6) scunder.nd rfl (Or.inl rfl)) pgs_nil))))
        (pss_cons (ps_if (pt_cmpR op_notN (pv 4) pe_non (nomark _)) (pss_one (ps_ret (pe_and (pe_cmpR op_isN (pv 5) pe_non (nomark _)) (pe_one (pe_call Glike hrlike rfl Dlike.g Dlike.F.kp Dlike.b .nil pass0 (pa_cons (pv 6) (pa_cons (pv 4) pa_nil))))))) pss_nil)
        (pss_cons (ps_if (PW.pt (pw_or (pt_cmpR op_notN (pv 6) pe_non (nomark _)) (pw_or (pt_not (pt_val (pe_call Gclass_so hrclass_so rfl Dclass_so.g Dclass_so.F.kp Dclass_so.b .nil pass0 (pa_cons (pv 2) (pa_cons (pv 5) pa_nil))))) (pw_or1 (pt_not (pt_val (pe_callB call_isi (by rfl) T.n_isinstance (by decide +kernel) (pa_cons (pv 5) (pa_cons (pe_glob rfl KN.gR (show RelV (.ref a.R) _ from rfl)) pa_nil))))))))) (pss_one (ps_ret pe_bl)) pss_nil)
        (pss_cons (ps_set (i := 7) scunder.nd rfl (Or.inl rfl) (pe_tup (pa_cons (pv 2) (pa_cons (pe_ix ix_tup (pe_ix ix_list (pv 3) pe_int (fun _ _ => rfl)) pe_int (fun _ _ => rfl)) (pa_cons (pe_ix ix_tup (pe_ix ix_list (pv 3) pe_int (fun _ _ => rfl)) pe_int (fun _ _ => rfl)) pa_nil)))))
        (pss_cons (ps_expr (pe_bm PySem.F.plainAttrs_list PySem.F.slot_list_append PySem.F.type_list_append mt_append (pv 1) (pa_cons (pe_tup (pa_cons (pv 7) (pa_cons (pv 5) pa_nil))) pa_nil)))
        (pss_one (ps_ret (pe_and (pe_cmpR (LO.op_eqO (n := 1) hrQ) (pe_fld (pv 5) rfl) (pe_ix ix_tup (pe_ix ix_list (pv 3) pe_int (fun _ _ => rfl)) pe_int (fun _ _ => rfl)) (nomark _)) (pe_and (pe_cmpR (LO.op_eqO (n := 1) hrQ) (pe_fld (pv 5) rfl) (pe_ix ix_tup (pe_ix ix_list (pv 3) pe_int (fun _ _ => rfl)) pe_int (fun _ _ => rfl)) (nomark _)) (pe_one (pe_call Glike hrlike rfl Dlike.g Dlike.F.kp Dlike.b .nil pass0 (pa_cons (pe_lst (pa_cons (LS.pe_methD0 (pe_fld (pv 5) rfl) KN.kW RW hrM) (pa_cons (LS.pe_methD0 (pe_fld (pv 5) rfl) KN.kW RW hrM) pa_nil))) (pa_cons (pe_lst (pa_cons (pe_call Gtext hrtext rfl Dtext.g Dtext.F.kp Dtext.b .nil pass0 (pa_cons (pe_ix ix_tup (pv 7) pe_int (fun _ _ => rfl)) pa_nil)) (pa_cons (pe_call Gtext hrtext rfl Dtext.g Dtext.F.kp Dtext.b .nil pass0 (pa_cons (pe_ix ix_tup (pv 7) pe_int (fun _ _ => rfl)) pa_nil)) pa_nil))) pa_nil))))))))))))))))), ?_⟩
    refine ⟨_, rfl, (by show 3 ≤ sizeLine; decide), fun p hp => of_disp (E := E0) (Ok.refl S.b) hp (by show 0 < 3; decide) (by show 3 ≤ 1000000; decide) fun x H1 hx _ r1 => ?_⟩
    obtain ⟨pick, J, C, rfl, pk⟩ : ∃ (z : Str) (J : Pl → Pl → Pl) (C : Addr), x = .str z ∧ Pk a z J C := by
      simp only [List.mem_cons, List.not_mem_nil, or_false] at hx
      rcases hx with rfl | rfl | rfl
      · exact ⟨_, _, _, rfl, .l⟩
      · exact ⟨_, _, _, rfl, .s⟩
      · exact ⟨_, _, _, rfl, .n⟩
    have S1 := S.ok r1
    obtain ⟨ts, eK, tl0, tl1, ent⟩ := S1.k
    refine ⟨_, rfl, by omega, by omega, fun D hD => ?_⟩
    have Dg := (S1.b.ne hD).1
    have hDn := r1.free hD
    refine lc_draws (n := 2) (fun _ x => ∃ t ∈ ts, x = V.ref t) (Ok.refl S1.b) hD (by omega) (fun _ => rfl) (fun x H H' t _ => t) (fun x H xs ys _ t => t) (fun i H3 Q3 _ r q => ?_) ?_
    · refine ⟨_, rfl, _, rfl, g, l, .ref kp, _, rfl, r.bag, .lst (SqL.of (r.at_ eK S.n1)) S.n1 (by rw [List.length_map]; exact tl0) (by rw [List.length_map]; omega), fun x H' hx r' => q x H' ?_ r'⟩
      obtain ⟨t, ht, e⟩ := List.mem_map.mp hx
      exact ⟨t, ht, e.symm⟩
    intro H3 xs r _ eD3 hl hxs
    obtain ⟨x1, x2, rfl⟩ : ∃ x1 x2, xs = [x1, x2] := by
      match xs, hl with
      | [x1, x2], _ => exact ⟨x1, x2, rfl⟩
    obtain ⟨t1, ht1, rfl⟩ := hxs x1 (by simp)
    obtain ⟨t2, ht2, rfl⟩ := hxs x2 (by simp)
    have R3 := r1.trans r
    have eK3 := r.at_ eK S.n1
    refine ⟨fun σ H' => ∃ s1 s2 u1 u2 o1 o2, σ = [some (.ref g), some (.ref kp), some (.str pick), some (.ref D), none, none, none, none, none] ∧ Ok g l H H' ∧ H' D = some (.lst [.ref s1, .ref s2]) ∧ PEt a (FK g kp) H' s1 u1 o1 ∧ PEt a (FK g kp) H' s2 u2 o2, ?_, ?_⟩
    · refine ⟨_, rfl, g, l, 5, rfl, R3.bag, by decide, by decide, fun d H4 d0 d1 r4 => ⟨rfl, _, rfl, ite_eq (fun _ => ?_) (fun _ => ?_)⟩⟩
      · have R4 := R3.trans r4
        have eD4 := r4.at_ eD3 Dg
        have S4 := S.ok R4
        have hF4 : ∀ b, (fun b => FK g kp b ∨ b = D) b → ∃ o, H4 b = some o := fun b z => z.elim (S4.hFo b) (fun z => by cases z; exact ⟨_, eD4⟩)
        have Fg2 : (fun b => FK g kp b ∨ b = D) g := .inl (.inl rfl)
        refine ⟨_, rfl, g, l, (fun b => FK g kp b ∨ b = D), rfl, R4.bag, Fg2, hF4, fun v H5 ov _ r5 => ⟨(by show 2 ≤ sizeLine; decide), fun T hT => ?_⟩⟩
        have R5 := R4.trans r5
        have nT := R5.bag.ne hT
        have eD5 := r5.at_ eD4 Dg
        have nTD : T ≠ D := fun z => by
          rw [z, eD5] at hT
          cases hT
        have sT := same_new (o := .tup [.non, v]) hT
        have R6 := R5.new (o := .tup [.non, v]) hT
        refine ⟨_, rfl, _, rfl, g, l, 2, rfl, R6.bag, by decide, by decide, fun d6 H6 d60 d61 r6 => ?_⟩
        have eT6 : H6 T = some (.tup [.non, v]) := r6.at_ upd_same nT.1
        have eD6 := r6.at_ (sT _ _ eD5) Dg
        obtain ⟨jn, rfl⟩ : ∃ jn : Nat, d6 = (jn : Int) := ⟨d6.toNat, by omega⟩
        refine ⟨D, _, _, jn, rfl, rfl, eD6, ixN_nat (by show jn < 2; omega), ?_⟩
        have fin : ∀ xs : List V, Ok g l H (upd H6 D (.lst xs)) ∧ (∀ t ∈ ts, ∃ u p, PEt a (FK g kp) (upd H6 D (.lst xs)) t u (some p)) ∧ PEt a (FK g kp) (upd H6 D (.lst xs)) T v none := fun xs => by
          have R7 := (R6.trans r6).mut (o := .lst xs) hDn
          have S7 := S.ok R7
          refine ⟨R7, fun t ht => ?_, by rw [upd_ne nTD]; exact eT6, ?_⟩
          · have kD : kp ≠ D := fun z => by
              rw [← z, eK] at hD
              cases hD
            obtain ⟨p, en⟩ := S7.ent (ts := ts) (by rw [upd_ne kD]; exact r6.at_ (sT _ _ (r5.at_ (r4.at_ eK3 S.n1) S.n1)) S.n1) t ht
            obtain ⟨u, q⟩ := en.pet
            exact ⟨u, p, q⟩
          · exact (((ov.same sT).kp (KpF.kp Fg2 r6.kp)).kp (KpF.mut' (.inr rfl))).mono fun b z => .inl z
        obtain ⟨f1, f2, f3⟩ := fin (List.set [V.ref t1, V.ref t2] jn (.ref T))
        obtain ⟨u1, p1, q1⟩ := f2 t1 ht1
        obtain ⟨u2, p2, q2⟩ := f2 t2 ht2
        match jn, d61 with
        | 0, _ => exact ⟨T, t2, _, _, _, _, rfl, f1, upd_same, f3, q2⟩
        | 1, _ => exact ⟨t1, T, _, _, _, _, rfl, f1, upd_same, q1, f3⟩
      · have R4 := R3.trans r4
        have S4 := S.ok R4
        have eK4 := r4.at_ eK3 S.n1
        obtain ⟨p1, en1⟩ := S4.ent eK4 t1 ht1
        obtain ⟨p2, en2⟩ := S4.ent eK4 t2 ht2
        obtain ⟨u1, q1⟩ := en1.pet
        obtain ⟨u2, q2⟩ := en2.pet
        exact ⟨t1, t2, _, _, _, _, rfl, R4, r4.at_ eD3 Dg, q1, q2⟩
    rintro σ H8 ⟨s1, s2, u1, u2, o1, o2, rfl, R8, eD8, P1, P2⟩
    have S8 := S.ok R8
    refine ⟨fun σ H' => ∃ dv, σ = [some (.ref g), some (.ref kp), some (.str pick), some (.ref D), some dv, none, none, none, none] ∧ Same H8 H' ∧ DueV g H' dv (pairDue o1 o2 u1 u2), ?_, ?_⟩
    · refine ⟨_, rfl, _, _, _, _, rfl, rfl, SqL.of eD8, rfl, _, rfl, _, _, _, _, rfl, rfl, SqL.of eD8, rfl, s1, s2, u1, u2, o1, o2, FK g kp, rfl, P1, P2, fun q H9 s9 => ⟨_, rfl, s9, by rw [q]; rfl⟩, fun nm ws q D9 H9 s9 hD9 eD9 => ⟨_, rfl, s9, ?_⟩⟩
      rw [q]
      exact ⟨D9, rfl, (fun z => S8.nF hD9 (.inl z)), eD9⟩
    rintro σ H9 ⟨dv, rfl, s9, duv⟩
    have S9 := S8.same s9
    have kt89 := Kt.same s9
    have P1 := P1.kp kt89 (KpF.same s9)
    have P2 := P2.kp kt89 (KpF.same s9)
    have eD9 := s9 _ _ eD8
    have R9 := R8.same s9
    refine lam_std (F := (· = g)) S9.t S9.b (pairDue o1 o2 u1 u2) (fun H' u => ∃ (x : Addr) (p q : Pl), u = .ref x ∧ o1 = some p ∧ o2 = some q ∧ p.leaves + q.leaves ≤ 3 ∧ lcmI p.per q.per ≤ 2000 ∧ RestX a (FK g kp) H' (J p q) x) (fun H H' u s ⟨x, p, q, e1, e2, e3, e4, e5, R⟩ => ⟨x, p, q, e1, e2, e3, e4, e5, R.same s⟩) ?_ ?_
    · intro H10 E' Qv k10 B10 t10 hout hmade
      have S10 := S9.step k10 B10 t10
      have kt10 := k10.fk.kt S9.hF
      have P1' := P1.kp kt10 k10.fk
      have P2' := P2.kp kt10 k10.fk
      have eD10 := k10 _ _ Dg lstN eD9
      obtain ⟨pv1, ht1'⟩ := P1'.tup
      obtain ⟨pv2, ht2'⟩ := P2'.tup
      refine ⟨_, rfl, _, rfl, _, rfl, _, _, _, _, rfl, rfl, SqL.of eD10, rfl, _, _, _, _, rfl, rfl, SqT.of ht1', rfl, _, rfl, _, _, _, _, rfl, rfl, SqL.of eD10, rfl, _, _, _, _, rfl, rfl, SqT.of ht2', rfl, ?_⟩
      refine ⟨g, l, pick, J, C, u1, u2, o1, o2, FK g kp, rfl, pk, B10, P1'.rest, P2'.rest, .inl rfl, S10.hFo, fun er H' q r' => hout er H' q (k10.trans (KpF.kp rfl r'.kp)) r'.bag (tabs_ok r' t10), fun p q x H' e1 e2 h1 h2 r' R => hmade _ H' ?_ (k10.trans (KpF.kp rfl r'.kp)) r'.bag (tabs_ok r' t10) ⟨x, p, q, rfl, e1, e2, h1, h2, R⟩⟩
      rw [e1, e2]
      exact pairDue_none h1 h2
    rintro T H11 tv fv k11 B11 t11 eT cs
    have S11 := S9.step k11 B11 t11
    have kt11 := k11.fk.kt S9.hF
    have P1 := P1.kp kt11 k11.fk
    have P2 := P2.kp kt11 k11.fk
    have eD11 := k11 _ _ Dg lstN eD9
    have duv := duv.kp k11
    refine ⟨T, _, rfl, SqT.of eT, rfl, _, _, rfl, _, _, rfl, rfl, ?_⟩
    rcases cs with ⟨nm, ws, D1, du, rfl, rfl, eDD⟩ | ⟨du, rfl, x, p, q, rfl, rfl, rfl, l3, lc, R⟩
    · rw [du] at duv
      obtain ⟨D2, rfl, nD2, eD2⟩ := duv
      refine ⟨_, rfl, rfl, _, rfl, ite_nd (fun _ => ?_) (fun h => by cases h)⟩
      refine ⟨_, rfl, rfl, _, rfl, iteT ?_⟩
      obtain ⟨dc, dl⟩ := pairDue_cases du
      refine ⟨_, rfl, _, rfl, V.ref D1, V.ref D2, 3, rfl, by decide, Lq.lst2 eDD eD2 (by show ws.length + 1 ≤ 1000000; omega) (fun w hw => ?_), fun H6 s6 => k _ _ (Nat.le_succ n) (S11.same s6)⟩
      rcases List.mem_cons.mp hw with rfl | hw
      · exact Lq.sc (by exact True.intro) 2
      · rcases dc w hw with z | ⟨rfl, z⟩ | ⟨rfl, z⟩
        · exact (Ov.sz (F := FK g kp) (H := H11) z 2).lq
        · exact (P1.none_ov z).lq
        · exact (P2.none_ov z).lq
    rw [du] at duv
    obtain rfl : dv = .non := duv
    obtain ⟨x1, y1, h1, rfl, hp1, gp, R1⟩ := P1
    obtain ⟨x2, y2, h2, rfl, hp2, gq, R2⟩ := P2
    obtain ⟨dx, z1, z2, hx, Rz1, Rz2, nx⟩ := pk.rest R
    obtain ⟨rc, n1, n2, ic⟩ := pk.rc KN
    have tx : TyX K H11 (.ref x) (.ref C) := .base (.ins hx rc.cl rc.ha rc.hn rc.htk rc.hm)
    refine ⟨_, rfl, rfl, _, rfl, ite_nd (fun h => absurd rfl h) (fun _ => ?_)⟩
    refine ⟨_, rfl, rfl, _, rfl, ite_nd (fun h => absurd rfl h) (fun _ => ⟨_, rfl, _, rfl, pick, J, C, x, dx, _, rfl, pk, hx, _, rfl, iteF ⟨_, rfl, _, _, _, _, _, rfl, .own _, tx, rc.me, _, rfl, iteF ?_⟩⟩)⟩
    refine ⟨_, rfl, _, rfl, _, _, _, _, rfl, rfl, SqL.of eD11, rfl, _, _, _, _, rfl, rfl, SqT.of h1, rfl, _, rfl, _, _, _, _, rfl, rfl, SqL.of eD11, rfl, _, _, _, _, rfl, rfl, SqT.of h2, rfl, (by show 3 ≤ sizeLine; decide), fun X hX => ?_⟩
    have sX := same_new (o := .tup [.str pick, .ref x1, .ref x2]) hX
    have S12 := S11.same sX
    obtain ⟨ts', eK', tl0', tl1', ent'⟩ := S12.k
    refine ⟨_, rfl, .inl ⟨rfl, _, SqL.of eK'⟩, _, rfl, _, rfl, (by show 2 ≤ sizeLine; decide), fun T2 hT2 => ?_⟩
    have sT2 := same_new (o := .tup [.ref X, .ref x]) hT2
    have sB := sX.trans sT2
    have eX := sT2 _ _ (upd_same (H := H11) (a := X) (o := .tup [.str pick, .ref x1, .ref x2]))
    have en : Ent a (FK g kp) _ T2 (J p q) := ⟨X, x, upd_same, S12.nF hT2, pk.good gp gq l3 lc, pk.plan eX (hp1.kt (Kt.same sB)) (hp2.kt (Kt.same sB)), R.same sB⟩
    have S13 := S12.same sT2
    have eK13 := sT2 _ _ eK'
    have R1 := R1.same sB
    have R2 := R2.same sB
    have R := R.same sB
    have hp1 := hp1.kt (Kt.same sB)
    have hp2 := hp2.kt (Kt.same sB)
    have h1 := sB _ _ h1
    have h2 := sB _ _ h2
    have eD13 := sB _ _ eD11
    generalize upd (upd H11 X (.tup [.str pick, .ref x1, .ref x2])) T2 (.tup [.ref X, .ref x]) = H13 at en S13 eK13 R1 R2 R hp1 hp2 h1 h2 eX eD13 ⊢
    refine ⟨kp, _, _, rfl, rfl, eK13, by rw [List.length_map]; exact Nat.lt_of_le_of_lt (show ts'.length ≤ 40 by omega) (by decide), ?_⟩
    have S14 := S13.add eK13 en
    have km : KpF (FK g kp) H13 (upd H13 kp (.lst (ts'.map V.ref ++ [.ref T2]))) := KpF.mut' (.inr rfl)
    have kt := km.kt S13.hF
    have R1 := R1.kp km
    have R2 := R2.kp km
    have R := R.kp km
    have hp1 := hp1.kt kt
    have hp2 := hp2.kt kt
    have h1 := kt _ _ h1
    have h2 := kt _ _ h2
    have eX := kt _ _ eX
    have kD : D ≠ kp := fun z => by
      rw [z, eK] at hD
      cases hD
    have eD14 : upd H13 kp (.lst (ts'.map V.ref ++ [.ref T2])) D = some (.lst [.ref s1, .ref s2]) := by rw [upd_ne kD]; exact eD13
    generalize upd H13 kp (.lst (ts'.map V.ref ++ [.ref T2])) = H14 at S14 R1 R2 R hp1 hp2 h1 h2 eX eD14 ⊢
    obtain ⟨dx, z1, z2, hx, Rz1, Rz2, nx⟩ := pk.rest R
    obtain ⟨C1, dz1, fz1, hz1, rc1, F1, ic1, _⟩ := Rz1.view KN
    obtain ⟨C2, dz2, fz2, hz2, rc2, F2, ic2, _⟩ := Rz2.view KN
    obtain ⟨C3, dy1, fy1, hy1, rc3, _, ic3, _⟩ := R1.view KN
    obtain ⟨C4, dy2, fy2, hy2, rc4, _, ic4, _⟩ := R2.view KN
    refine ⟨_, rfl, x, C, dx, _, _, rfl, hx, rc.cl, n1, lk_first, _, rfl, _, _, _, _, rfl, rfl, SqL.of eD14, rfl, _, _, _, _, rfl, rfl, SqT.of h1, rfl, ?_⟩
    refine ⟨z1, C1, dz1, a.fE, fz1, _, _, rfl, hz1, ⟨rc1.e1, rc1.e2, OE⟩, .base (.ins hy1 rc3.cl rc3.ha rc3.hn rc3.htk rc3.hm), KN.nf _ _ ic1 ic3, ?_⟩
    refine ⟨z1, .ref y1, FK g kp, p, true, rfl, Rz1, .inl ⟨y1, FK g kp, p, rfl, R1, (decide_eq_true rfl).symm⟩, _, rfl, iteT ?_⟩
    refine ⟨_, rfl, x, C, dx, _, _, rfl, hx, rc.cl, n2, lk_second, _, rfl, _, _, _, _, rfl, rfl, SqL.of eD14, rfl, _, _, _, _, rfl, rfl, SqT.of h2, rfl, ?_⟩
    refine ⟨z2, C2, dz2, a.fE, fz2, _, _, rfl, hz2, ⟨rc2.e1, rc2.e2, OE⟩, .base (.ins hy2 rc4.cl rc4.ha rc4.hn rc4.htk rc4.hm), KN.nf _ _ ic2 ic4, ?_⟩
    refine ⟨z2, .ref y2, FK g kp, q, true, rfl, Rz2, .inl ⟨y2, FK g kp, q, rfl, R2, (decide_eq_true rfl).symm⟩, _, rfl, iteT ?_⟩
    refine ⟨_, rfl, x, C, dx, _, _, rfl, hx, rc.cl, n1, lk_first, z1, C1, dz1, fz1, rfl, hz1, rc1.cl, rc1.mW, F1.mw, z1, FK g kp, p, rfl, Rz1, ?_⟩
    refine ⟨_, rfl, x, C, dx, _, _, rfl, hx, rc.cl, n2, lk_second, z2, C2, dz2, fz2, rfl, hz2, rc2.cl, rc2.mW, F2.mw, z2, FK g kp, q, rfl, Rz2, (by show 2 ≤ sizeLine; decide), fun L1 hL1 => ?_⟩
    have sL1 := same_new (o := .lst [.str p.text, .str q.text]) hL1
    have hh1 := gp.h
    have hh2 := gq.h
    refine ⟨_, rfl, _, _, _, _, rfl, rfl, SqT.of (sL1 _ _ eX), rfl, x1, p, rfl, hp1.kt (Kt.same sL1), gp.o, gp.h, by omega, fun H15 s15 => ?_⟩
    have s15' := sL1.trans s15
    refine ⟨_, rfl, _, _, _, _, rfl, rfl, SqT.of (s15' _ _ eX), rfl, x2, q, rfl, hp2.kt (Kt.same s15'), gq.o, gq.h, by omega, fun H16 s16 => ⟨(by show 2 ≤ sizeLine; decide), fun L2 hL2 => ?_⟩⟩
    have sL2 := same_new (o := .lst [.str p.text, .str q.text]) hL2
    refine ⟨V.ref L1, V.ref L2, 1, rfl, by decide, Lq.lst2 (sL2 _ _ (s16 _ _ (s15 _ _ upd_same))) upd_same (by show 2 ≤ 1000000; decide) (fun w hw => ?_), fun H17 s17 => k _ _ (Nat.le_refl _) (S14.same (s15'.trans (s16.trans (sL2.trans s17))))⟩
    simp only [List.mem_cons, List.not_mem_nil, or_false] at hw
    rcases hw with rfl | rfl
    · exact Lq.sc (by exact True.intro) 0
    · exact Lq.sc (by exact True.intro) 0
end k04
namespace k04
open PySem L2 LC RM
def sptold_so (a : Ad) : Sp := fun vs H Q _ => ∃ (x y : Addr) (F : Addr → Prop) (p : Pl), vs = [.ref x, .ref y] ∧ PlanAt H p x ∧ Good p ∧ RestX a F H p y ∧ ∀ H', Same H H' → Q (.bl true) H'
theorem ok_told_so {P : Program} {w : World} {K : PySem.W.Frag} {mg : Str → Option Value} {base : Heap} {f : Addr} {fd : FuncData} (D : Def K mg "_law_told_so" stold_so Ptold_so f fd) (T : Txt K mg) {a : Ad} (KN : Kn K mg a) (RW : FnR P w K mg base CX0 1 a.fW (spRest_written K a)) (RF : FnR P w K mg base CX0 1 a.fF (spRest_forms K a)) (RP : FnR P w K mg base CX0 1 a.fP (spRest_period K a)) (RB : FnR P w K mg base CX0 1 a.fB (spRest_bend K a)) (OS : FnR P w K mg base CX0 1 a.fS (spRest_str K a)) (ORp : FnR P w K mg base CX0 1 a.fr (spRest_repr K a)) {flike : Addr} {fdlike : FuncData} (Dlike : Def K mg "_law_like" slike Plike flike fdlike) (Glike : FnOk P w K mg base CX0 5 flike fdlike Plike (splike 5)) {ftext : Addr} {fdtext : FuncData} (Dtext : Def K mg "_law_text" stext Ptext ftext fdtext) (Gtext : FnOk P w K mg base CX0 3 ftext fdtext Ptext (sptext 3)) {ffacts : Addr} {fdfacts : FuncData} (Dfacts : Def K mg "_law_facts" sfacts Pfacts ffacts fdfacts) (Gfacts : FnOk P w K mg base CX0 4 ffacts fdfacts Pfacts (spfacts 3)) :
    FnOk P w K mg base CX0 6 f fd Ptold_so (sptold_so a) := by
  refine D.F.ok sctold_so (fun vs H Q E h => ?_) (fun cdv A outer s H vs Q E hr h => ?_)
  · obtain ⟨x, y, F, p, rfl, hp, gp, R, k⟩ := h
    rfl
  · obtain ⟨x, y, F, p, rfl, hp, gp, R, k⟩ := h
    have hrlike : Room 5 _ := hr.mono (by decide)
    have hrtext : Room 3 _ := hr.mono (by decide)
    have hrfacts : Room 4 _ := hr.mono (by decide)
    have hrS : Room (1 + 2) _ := hr.mono (by decide)
    have hrN : Room (1 + 1) _ := hr.mono (by decide)
    have hrM : Room 1 _ := hr.mono (by decide)
    refine ⟨_, (pss_cons (ps_set (i := 2) sctold_so.nd rfl (Or.inl rfl) (pe_call Gtext hrtext rfl Dtext.g Dtext.F.kp Dtext.b .nil pass0 (pa_cons (pv 0) pa_nil)))
        (pss_cons (ps_if (pt_not (pt_val (pe_call Glike hrlike rfl Dlike.g Dlike.F.kp Dlike.b .nil pass0 (pa_cons (pe_lst (pa_cons (LS.pe_methD0 (pv 1) KN.kW RW hrM) (pa_cons (pe_callTy (LE.call_strI (n := 1) hrS) (by rfl) T.n_str (by decide +kernel) (pa_cons (pv 1) pa_nil)) (pa_cons (pe_callB (LO.call_reprI (n := 1) hrN) (by rfl) T.n_repr (by decide +kernel) (pa_cons (pv 1) pa_nil)) pa_nil)))) (pa_cons (pe_lst (pa_cons (pv 2) (pa_cons (pv 2) (pa_cons (pe_joined (.cons pe_str (.cons (pe_fmt (pv 2)) (.cons pe_str .nil)))) pa_nil)))) pa_nil))))) (pss_one (ps_ret pe_bl)) pss_nil)
        (pss_one (ps_ret (pe_call Glike hrlike rfl Dlike.g Dlike.F.kp Dlike.b .nil pass0 (pa_cons (pe_tup (pa_cons (LS.pe_methD0 (pv 1) KN.kF RF hrM) (pa_cons (LS.pe_methD0 (pv 1) KN.kP RP hrM) (pa_cons (LS.pe_methD0 (pv 1) KN.kB RB hrM) pa_nil)))) (pa_cons (pe_call Gfacts hrfacts rfl Dfacts.g Dfacts.F.kp Dfacts.b .nil pass0 (pa_cons (pv 0) pa_nil)) pa_nil))))))), ?_⟩
    have sz : sizeLine = 16777216 := rfl
    have e0 : Str.empty.length = 0 := rfl
    have e1 : ("Rest(" : Str).length = 5 := by decide +kernel
    have e2 : (")" : Str).length = 1 := by decide +kernel
    have ap := fun x y : Str => Str.length_append x y
    have tl := gp.t
    have hh := gp.h
    refine ⟨_, rfl, x, p, rfl, hp, gp.o, gp.h, by omega, fun H1 s1 => ?_⟩
    have R1 := R.same s1
    obtain ⟨C, dx, fs, hy, rc, F4, _⟩ := R1.view KN
    refine ⟨_, rfl, y, C, dx, fs, rfl, hy, rc.cl, rc.mW, F4.mw, y, F, p, rfl, R1, _, rfl, y, C, dx, a.fS, fs, _, rfl, hy, ⟨rc.s1, rc.s2, OS⟩, y, F, p, rfl, R1, tl, _, rfl, _, rfl, y, C, dx, a.fr, fs, _, rfl, hy, ⟨rc.r1, rc.r2, ORp⟩, y, F, p, rfl, R1, tl, _, rfl, (by show 3 ≤ sizeLine; decide), fun L1 hL1 => ?_⟩
    have sL1 := same_new (o := .lst [.str p.text, .str p.text, .str (Str.empty ++ "Rest(" ++ p.text ++ ")")]) hL1
    refine ⟨_, rfl, _, rfl, _, rfl, by rw [ap]; omega, _, rfl, .inl ⟨_, rfl, by omega, _, rfl, by rw [ap, ap]; omega, _, rfl, by rw [ap, ap, ap]; omega, (by show 3 ≤ sizeLine; decide), fun L2 hL2 => ?_⟩⟩
    have sL2 := same_new (o := .lst [.str p.text, .str p.text, .str (Str.empty ++ "Rest(" ++ p.text ++ ")")]) hL2
    refine ⟨V.ref L1, V.ref L2, 1, rfl, by decide, Lq.lst2 (sL2 _ _ upd_same) upd_same (by show 3 ≤ 1000000; decide) (fun w hw => ?_), fun H2 s2 => ⟨_, rfl, iteF ?_⟩⟩
    · simp only [List.mem_cons, List.not_mem_nil, or_false] at hw
      rcases hw with rfl | rfl | rfl
      all_goals exact Lq.sc (by exact True.intro) 0
    have s12 := sL1.trans (sL2.trans s2)
    have R2 := R1.same s12
    have hy2 := s12 _ _ hy
    refine ⟨_, rfl, y, C, dx, fs, rfl, hy2, rc.cl, rc.mF, F4.mf, y, F, p, rfl, R2, _, rfl, y, C, dx, fs, rfl, hy2, rc.cl, rc.mP, F4.mp, y, F, p, rfl, R2, _, rfl, y, C, dx, fs, rfl, hy2, rc.cl, rc.mB, F4.mb, y, F, p, rfl, R2, (by show 3 ≤ sizeLine; decide), fun U hU => ?_⟩
    have sU := same_new (o := .tup [.int p.forms, .int p.per, .int p.bend]) hU
    have s02 := s1.trans (s12.trans sU)
    refine ⟨_, rfl, x, p, rfl, hp.kt (Kt.same s02), gp, by omega, fun U2 H3 s3 n3 e3 => ?_⟩
    refine ⟨V.ref U, V.ref U2, 1, rfl, by decide, .inr (.inr ⟨false, U, U2, _, _, rfl, rfl, s3 _ _ upd_same, e3, rfl, (by show 3 ≤ 1000000; decide), fun j u w a1 a2 => ?_⟩), fun H4 s4 => k _ (s02.trans (s3.trans s4))⟩
    rw [a1] at a2
    cases a2
    have hu : u ∈ [V.int p.forms, V.int p.per, V.int p.bend] := List.mem_of_getElem? a1
    simp only [List.mem_cons, List.not_mem_nil, or_false] at hu
    rcases hu with rfl | rfl | rfl
    all_goals exact Lq.sc (by exact True.intro) 0
end k04
namespace k04
open PySem L2 LC RM
def spequal_so (a : Ad) : Sp := fun vs H Q _ => ∃ (g l kp : Addr) (n : Nat) (Tb : List (Addr × Str)), vs = [.ref g, .ref kp] ∧ StK Tb a g l kp n H ∧ n ≤ 40 ∧ ∀ H', Ok g l H H' → Q (.bl true) H'
theorem ok_equal_so {P : Program} {w : World} {K : PySem.W.Frag} {mg : Str → Option Value} {base : Heap} {f : Addr} {fd : FuncData} (D : Def K mg "_law_equal_so" sequal_so Pequal_so f fd) (T : Txt K mg) {a : Ad} (KN : Kn K mg a) (OE : FnR P w K mg base CX0 1 a.fE (spRest_eq K a)) {fof : Addr} {fdof : FuncData} (Dof : Def K mg "_law_of" sof Pof fof fdof) (Gof : FnOk P w K mg base CX0 2 fof fdof Pof (spof K)) {flike : Addr} {fdlike : FuncData} (Dlike : Def K mg "_law_like" slike Plike flike fdlike) (Glike : FnOk P w K mg base CX0 5 flike fdlike Plike (splike 5)) {ftext : Addr} {fdtext : FuncData} (Dtext : Def K mg "_law_text" stext Ptext ftext fdtext) (Gtext : FnOk P w K mg base CX0 3 ftext fdtext Ptext (sptext 3)) :
    FnOk P w K mg base CX0 6 f fd Pequal_so (spequal_so a) := by
  refine D.F.ok scequal_so (fun vs H Q E h => ?_) (fun cdv A outer s H vs Q E hr h => ?_)
  · obtain ⟨g, l, kp, n, Tb, rfl, S, n40, k⟩ := h
    rfl
  · obtain ⟨g, l, kp, n, Tb, rfl, S, n40, k⟩ := h
    have hrof : Room 2 _ := hr.mono (by decide)
    have hrlike : Room 5 _ := hr.mono (by decide)
    have hrtext : Room 3 _ := hr.mono (by decide)
    have hrQ : Room 1 _ := hr.mono (by decide)
    have hrN : Room (1 + 1) _ := hr.mono (by decide)
    refine ⟨_, (pss_cons (ps_par (i := 2) (j := 3) (by rfl) scequal_so.nd rfl rfl (by decide) rfl rfl (pa_cons (pe_call Gof hrof rfl Dof.g Dof.F.kp Dof.b .nil pass0 (pa_cons (pv 0) (pa_cons (pv 1) pa_nil))) (pa_cons (pe_call Gof hrof rfl Dof.g Dof.F.kp Dof.b .nil pass0 (pa_cons (pv 0) (pa_cons (pv 1) pa_nil))) pa_nil)) (by rfl))
        (pss_cons (ps_set (i := 4) scequal_so.nd rfl (Or.inl rfl) (pe_cmpR (LO.op_eqO (n := 1) hrQ) (pe_ix ix_tup (pv 2) pe_int (fun _ _ => rfl)) (pe_ix ix_tup (pv 3) pe_int (fun _ _ => rfl)) (nomark _)))
        (pss_cons (ps_if (pt_not (pt_val (pe_call Glike hrlike rfl Dlike.g Dlike.F.kp Dlike.b .nil pass0 (pa_cons (pv 4) (pa_cons (pe_cmpR op_eq (pe_call Gtext hrtext rfl Dtext.g Dtext.F.kp Dtext.b .nil pass0 (pa_cons (pe_ix ix_tup (pv 2) pe_int (fun _ _ => rfl)) pa_nil)) (pe_call Gtext hrtext rfl Dtext.g Dtext.F.kp Dtext.b .nil pass0 (pa_cons (pe_ix ix_tup (pv 3) pe_int (fun _ _ => rfl)) pa_nil)) (nomark _)) pa_nil))))) (pss_one (ps_ret pe_bl)) pss_nil)
        (pss_cons (ps_set (i := 5) scequal_so.nd rfl (Or.inl rfl) (pe_call Gof hrof rfl Dof.g Dof.F.kp Dof.b .nil pass0 (pa_cons (pv 0) (pa_cons (pe_lst (pa_cons pe_non (pa_cons pe_int (pa_cons pe_bl (pa_cons (pe_call Gtext hrtext rfl Dtext.g Dtext.F.kp Dtext.b .nil pass0 (pa_cons (pe_ix ix_tup (pv 2) pe_int (fun _ _ => rfl)) pa_nil)) (pa_cons (pe_tup (pa_cons pe_int pa_nil)) (pa_cons (pe_lst pa_nil) (pa_cons pe_str pa_nil)))))))) pa_nil))))
        (pss_one (ps_ret (pe_call Glike hrlike rfl Dlike.g Dlike.F.kp Dlike.b .nil pass0 (pa_cons (pe_lst (pa_cons (pe_cmpR (LO.op_eqO (n := 1) hrQ) (pe_ix ix_tup (pv 2) pe_int (fun _ _ => rfl)) (pv 5) (nomark _)) (pa_cons (pe_cmpR (LO.op_neO (n := 1) hrN) (pe_ix ix_tup (pv 2) pe_int (fun _ _ => rfl)) (pv 5) (nomark _)) pa_nil))) (pa_cons (pe_lst (pa_cons pe_bl (pa_cons pe_bl pa_nil))) pa_nil))))))))), ?_⟩
    obtain ⟨ts, eK, tl0, tl1, ent⟩ := S.k
    have src : ∀ {H'}, Ok g l H H' → Src K g H' (.ref kp) (fun x => x ∈ ts.map V.ref) := fun {H'} r => .lst (SqL.of (r.at_ eK S.n1)) S.n1 (by rw [List.length_map]; exact tl0) (by rw [List.length_map]; omega)
    refine ⟨_, rfl, _, rfl, g, l, .ref kp, _, rfl, S.b, src (Ok.refl S.b), fun x1 H1 hx1 r1 => ?_⟩
    obtain ⟨t1, ht1, e1⟩ := List.mem_map.mp hx1
    subst e1
    refine ⟨_, rfl, _, rfl, g, l, .ref kp, _, rfl, r1.bag, src r1, fun x2 H2 hx2 r2 => ⟨_, _, rfl, ?_⟩⟩
    obtain ⟨t2, ht2, e2⟩ := List.mem_map.mp hx2
    subst e2
    have R12 := r1.trans r2
    have S2 := S.ok R12
    have eK2 := R12.at_ eK S.n1
    obtain ⟨p1, x1, y1, h1, nt1, g1, hp1, RR1⟩ := S2.ent eK2 t1 ht1
    obtain ⟨p2, x2, y2, h2, nt2, g2, hp2, RR2⟩ := S2.ent eK2 t2 ht2
    obtain ⟨C1, dx1, fs1, hy1, rc1, F1, ic1, _⟩ := RR1.view KN
    obtain ⟨C2, dx2, fs2, hy2, rc2, F2, ic2, _⟩ := RR2.view KN
    have hh1 := g1.h
    have hh2 := g2.h
    refine ⟨_, rfl, _, _, _, _, rfl, rfl, SqT.of h1, rfl, _, rfl, _, _, _, _, rfl, rfl, SqT.of h2, rfl, ?_⟩
    refine ⟨y1, C1, dx1, a.fE, fs1, _, _, rfl, hy1, ⟨rc1.e1, rc1.e2, OE⟩, .base (.ins hy2 rc2.cl rc2.ha rc2.hn rc2.htk rc2.hm), KN.nf _ _ ic1 ic2, ?_⟩
    refine ⟨y1, .ref y2, FK g kp, p1, decide (p1.text = p2.text), rfl, RR1, .inl ⟨y2, FK g kp, p2, rfl, RR2, rfl⟩, ?_⟩
    refine ⟨_, rfl, _, rfl, _, _, _, _, rfl, rfl, SqT.of h1, rfl, x1, p1, rfl, hp1, g1.o, g1.h, by omega, fun H3 s3 => ?_⟩
    refine ⟨_, rfl, _, _, _, _, rfl, rfl, SqT.of (s3 _ _ h2), rfl, x2, p2, rfl, hp2.kt (Kt.same s3), g2.o, g2.h, by omega, fun H4 s4 => ⟨rfl, ?_⟩⟩
    have ed : decide (V.str p1.text = V.str p2.text) = decide (p1.text = p2.text) := decide_eq_decide.mpr ⟨fun z => V.str.inj z, fun z => by rw [z]⟩
    refine ⟨V.bl (decide (p1.text = p2.text)), V.bl (decide (V.str p1.text = V.str p2.text)), 0, rfl, by decide, ⟨by rw [ed], True.intro⟩, fun H5 s5 => ⟨_, rfl, iteF ?_⟩⟩
    have s25 := s3.trans (s4.trans s5)
    have R15 := R12.same s25
    have h1 := s25 _ _ h1
    refine ⟨_, rfl, _, rfl, _, _, _, _, rfl, rfl, SqT.of h1, rfl, x1, p1, rfl, hp1.kt (Kt.same s25), g1.o, g1.h, by omega, fun H6 s6 => ⟨(by show 1 ≤ sizeLine; decide), fun t ht => ⟨Nat.zero_le _, fun q hq => ?_⟩⟩⟩
    have R16 := R15.same s6
    have nt := (R16.bag.ne ht).1
    have R17 := R16.new (o := .tup [.int 5]) ht
    have nq := (R17.bag.ne hq).1
    have R18 := R17.new (o := .lst []) hq
    have et : upd (upd H6 t (.tup [.int 5])) q (.lst []) t = some (.tup [.int 5]) := by rw [upd_ne (ne_of_none upd_same hq)]; exact upd_same
    have tl := g1.t
    refine ⟨(by show 7 ≤ sizeLine; decide), fun p hp => of_disp (E := E0) R18 hp (by show 0 < 7; decide) (by show 7 ≤ 1000000; decide) fun x H9 hx kk R9 => ?_⟩
    have ov : Ov (· = g) H9 1 x := by
      simp only [List.mem_cons, List.not_mem_nil, or_false] at hx
      rcases hx with rfl | rfl | rfl | rfl | rfl | rfl | rfl
      · exact Ov.sz (by exact True.intro) 1
      · exact Ov.sz (by exact True.intro) 1
      · exact Ov.sz (by exact True.intro) 1
      · exact Ov.sz (by show p1.text.length ≤ 1000000; omega) 1
      · exact .inr (.inr ⟨false, t, _, rfl, nt, kk _ _ nt et, by decide, fun u hu => by rw [List.mem_singleton.mp hu]; exact True.intro⟩)
      · exact .inr (.inr ⟨true, q, _, rfl, nq, kk _ _ nq upd_same, by decide, fun u hu => by cases hu⟩)
      · exact Ov.sz (by show Str.length _ ≤ 1000000; decide +kernel) 1
    obtain ⟨ty, txx, _, _, _, hm⟩ := ov.ty (K := K)
    have s28 := s25.trans (s6.trans ((same_new (o := .tup [.int 5]) ht).trans (same_new (o := .lst []) hq)))
    have k9 : KpF (FK g kp) H2 H9 := (KpF.same s28).trans (KpF.kp (.inl rfl) kk)
    have RR9 := RR1.kp k9
    have h19 : H9 t1 = some (.tup [.ref x1, .ref y1]) := k9 _ _ nt1 tupN (by
      obtain ⟨_, _, q, _⟩ := S2.ent eK2 t1 ht1
      first | exact q | assumption)
    obtain ⟨C1, dx1, fs1, hy1, rc1, F1, ic1, _⟩ := RR9.view KN
    refine ⟨_, rfl, _, _, _, _, rfl, rfl, SqT.of h19, rfl, _, rfl, ?_⟩
    refine ⟨y1, C1, dx1, a.fE, fs1, _, _, rfl, hy1, ⟨rc1.e1, rc1.e2, OE⟩, txx, rc1.nft ty hm, y1, x, FK g kp, p1, false, rfl, RR9, .inr ⟨(· = g), 1, ov, rfl⟩, ?_⟩
    refine ⟨_, rfl, _, _, _, _, rfl, rfl, SqT.of h19, rfl, _, rfl, ?_⟩
    refine ⟨y1, C1, dx1, a.fE, fs1, _, _, rfl, hy1, ⟨rc1.e1, rc1.e2, OE⟩, rc1.ne, rc1.hm, txx, rc1.nft ty hm, y1, x, FK g kp, p1, false, rfl, RR9, .inr ⟨(· = g), 1, ov, rfl⟩, false, rfl, (by show 2 ≤ sizeLine; decide), fun L1 hL1 => ⟨(by show 2 ≤ sizeLine; decide), fun L2 hL2 => ?_⟩⟩
    have sL1 := same_new (o := .lst [.bl false, .bl true]) hL1
    have sL2 := same_new (o := .lst [.bl false, .bl true]) hL2
    refine ⟨V.ref L1, V.ref L2, 1, rfl, by decide, Lq.lst2 (sL2 _ _ upd_same) upd_same (by show 2 ≤ 1000000; decide) (fun w hw => ?_), fun H10 s10 => k _ (R9.same (sL1.trans (sL2.trans s10)))⟩
    simp only [List.mem_cons, List.not_mem_nil, or_false] at hw
    rcases hw with rfl | rfl
    all_goals exact Lq.sc (by exact True.intro) 0
end k04
namespace k04
open PySem L2 LC RM
def splaw (K : PySem.W.Frag) (Tb : List (Addr × Str)) : Sp := fun vs H Q _ => ∃ (a : Addr) (ns : List Int), vs = [.ref a] ∧ SqL K H a (ns.map V.int) ∧ ns.length ≤ 63 ∧ LamX.Tabs Tb H ∧ ∀ H', Q (.bl true) H'
theorem ok_law {P : Program} {w : World} {K : PySem.W.Frag} {mg : Str → Option Value} {base : Heap} {f : Addr} {fd : FuncData} (D : Def K mg "law" slaw Plaw f fd) (T : Txt K mg) {a : Ad} (KN : Kn K mg a) {ce : Ce} {fdWindow : FuncData} (IWindow : FnR P w K mg base (L2.CX P w) 3 a.Wi (spWindow_init K a ce)) (GWindow : FnOk P w K mg base (L2.CX P w) 3 a.Wi fdWindow PWindow_init (spWindow_init K a ce)) (KBWindow : KBn K fdWindow PWindow_init 1 ["width"] kg1 kg1) {fdDays : FuncData} (IDays : FnR P w K mg base (L2.CX P w) 5 a.Di (spDays_init K a ce)) (GDays : FnOk P w K mg base (L2.CX P w) 5 a.Di fdDays PDays_init (spDays_init K a ce)) (KBDays : KBn K fdDays PDays_init 1 ["every", "borders"] kg2 kg2) {Tb : List (Addr × Str)} {fbag : Addr} {fdbag : FuncData} (Dbag : Def K mg "_law_bag" sbag Pbag fbag fdbag) (Gbag : FnOk P w K mg base CX0 1 fbag fdbag Pbag (spbag K)) {fwindow : Addr} {fdwindow : FuncData} (Dwindow : Def K mg "_law_window" swindow Pwindow fwindow fdwindow) (Gwindow : FnOk P w K mg base CX0 7 fwindow fdwindow Pwindow (spwindow a Tb)) {fdays : Addr} {fddays : FuncData} (Ddays : Def K mg "_law_days" sdays Pdays fdays fddays) (Gdays : FnOk P w K mg base CX0 9 fdays fddays Pdays (spdays a Tb)) {funder : Addr} {fdunder : FuncData} (Dunder : Def K mg "_law_under" sunder Punder funder fdunder) (Gunder : FnOk P w K mg base CX0 11 funder fdunder Punder (spunder a Tb)) {ftold_so : Addr} {fdtold_so : FuncData} (Dtold_so : Def K mg "_law_told_so" stold_so Ptold_so ftold_so fdtold_so) (Gtold_so : FnOk P w K mg base CX0 6 ftold_so fdtold_so Ptold_so (sptold_so a)) {fequal_so : Addr} {fdequal_so : FuncData} (Dequal_so : Def K mg "_law_equal_so" sequal_so Pequal_so fequal_so fdequal_so) (Gequal_so : FnOk P w K mg base CX0 6 fequal_so fdequal_so Pequal_so (spequal_so a)) :
    FnOk P w K mg base CX0 12 f fd Plaw (splaw K Tb) := by
  refine D.F.ok sclaw (fun vs H Q E h => ?_) (fun cdv A outer s H vs Q E hr h => ?_)
  · obtain ⟨ax, ns, rfl, hS, hl, tb0, k⟩ := h
    rfl
  · obtain ⟨ax, ns, rfl, hS, hl, tb0, k⟩ := h
    have hrbag : Room 1 _ := hr.mono (by decide)
    have hrwindow : Room 7 _ := hr.mono (by decide)
    have hrdays : Room 9 _ := hr.mono (by decide)
    have hrunder : Room 11 _ := hr.mono (by decide)
    have hrtold_so : Room 6 _ := hr.mono (by decide)
    have hrequal_so : Room 6 _ := hr.mono (by decide)
    have hrIW : Room (3 + 1) _ := hr.mono (by decide)
    have hrID : Room (5 + 1) _ := hr.mono (by decide)
    refine ⟨_, (pss_cons (ps_set (i := 1) sclaw.nd rfl (Or.inl rfl) (pe_call Gbag hrbag rfl Dbag.g Dbag.F.kp Dbag.b .nil pass0 (pa_cons (pv 0) pa_nil)))
        (pss_cons (ps_set (i := 2) sclaw.nd rfl (Or.inl rfl) (pe_lst (pa_cons (pe_tup (pa_cons (pe_tup (pa_cons pe_str (pa_cons pe_int pa_nil))) (pa_cons (StX.pe_makeR KN.mWindow IWindow hrIW rfl KN.gWindow passL (pa_cons pe_int pa_nil)) pa_nil))) (pa_cons (pe_tup (pa_cons (pe_tup (pa_cons pe_str (pa_cons (pe_tup pa_nil) (pa_cons pe_int pa_nil)))) (pa_cons (StX.pe_makeR KN.mDays IDays hrID rfl KN.gDays passL (pa_cons (pe_tup pa_nil) (pa_cons pe_int pa_nil))) pa_nil))) (pa_cons (pe_tup (pa_cons (pe_tup (pa_cons pe_str (pa_cons (pe_tup (pa_cons pe_int pa_nil)) (pa_cons pe_int pa_nil)))) (pa_cons (StX.pe_makeR KN.mDays IDays hrID rfl KN.gDays passL (pa_cons (pe_lst (pa_cons pe_int pa_nil)) (pa_cons pe_int pa_nil))) pa_nil))) pa_nil)))))
        (pss_cons (ps_for PassesOwn.never rfl (pi_range1 rfl T.n_range (pa_cons pe_int pa_nil)) (pg_name (i := 3) sclaw.nd rfl (Or.inl rfl))
          (pss_one (ps_if (PW.pt (pw_or (pt_not (pt_val (pe_call Gwindow hrwindow rfl Dwindow.g Dwindow.F.kp Dwindow.b .nil pass0 (pa_cons (pv 1) (pa_cons (pv 2) pa_nil))))) (pw_or (pt_not (pt_val (pe_call Gdays hrdays rfl Ddays.g Ddays.F.kp Ddays.b .nil pass0 (pa_cons (pv 1) (pa_cons (pv 2) pa_nil))))) (pw_or1 (pt_not (pt_val (pe_call Gdays hrdays rfl Ddays.g Ddays.F.kp Ddays.b .nil pass0 (pa_cons (pv 1) (pa_cons (pv 2) pa_nil))))))))) (pss_one (ps_ret pe_bl)) pss_nil)))
        (pss_cons (ps_for PassesOwn.never rfl (pi_range1 rfl T.n_range (pa_cons pe_int pa_nil)) (pg_name (i := 3) sclaw.nd rfl (Or.inl rfl))
          (pss_one (ps_if (pt_not (pt_val (pe_call Gunder hrunder rfl Dunder.g Dunder.F.kp Dunder.b .nil pass0 (pa_cons (pv 1) (pa_cons (pv 2) pa_nil))))) (pss_one (ps_ret pe_bl)) pss_nil)))
        (pss_cons (ps_for PassesOwn.never rfl (pi_list (pv 2)) ((pg_tup rfl (pgs_cons (pg_name (i := 4) sclaw.nd rfl (Or.inl rfl)) (pgs_cons (pg_name (i := 5) sclaw.nd rfl (Or.inl rfl)) pgs_nil))))
          (pss_one (ps_if (pt_not (pt_val (pe_call Gtold_so hrtold_so rfl Dtold_so.g Dtold_so.F.kp Dtold_so.b .nil pass0 (pa_cons (pv 4) (pa_cons (pv 5) pa_nil))))) (pss_one (ps_ret pe_bl)) pss_nil)))
        (pss_cons (ps_for PassesOwn.never rfl (pi_range1 rfl T.n_range (pa_cons pe_int pa_nil)) (pg_name (i := 3) sclaw.nd rfl (Or.inl rfl))
          (pss_one (ps_if (pt_not (pt_val (pe_call Gequal_so hrequal_so rfl Dequal_so.g Dequal_so.F.kp Dequal_so.b .nil pass0 (pa_cons (pv 1) (pa_cons (pv 2) pa_nil))))) (pss_one (ps_ret pe_bl)) pss_nil)))
        (pss_one (ps_ret pe_bl)))))))), ?_⟩
    refine ⟨_, rfl, ax, ns, rfl, hS, hl, fun g H1 hg s1 ⟨l, B1⟩ => ?_⟩
    have tb1 := tb0.ext s1
    have R1 := Ok.refl B1
    refine ⟨(by show 2 ≤ sizeLine; decide), fun X1 hX1 => ?_⟩
    have q1 := R1.new (o := .tup [.str "window", .int 5]) hX1
    have eX1 : upd H1 X1 (.tup [.str "window", .int 5]) X1 = some (.tup [.str "window", .int 5]) := upd_same
    have t1 := tb1.ext (same_new (o := .tup [.str "window", .int 5]) hX1)
    generalize upd H1 X1 (.tup [.str "window", .int 5]) = H2 at q1 eX1 t1 ⊢
    refine fun y1 dy1 hy1 hdy1 ny1 => ⟨y1, dy1, (· = g), 0, .int 5, H2, rfl, upd_same, hy1, (q1.bag.ne hy1).1, same_two hy1 hdy1, True.intro, fun q => absurd q (by decide), fun w J e w0 w1 sJ RJ => ⟨rfl, (by show 2 ≤ sizeLine; decide), fun T1 hT1 => ?_⟩⟩
    cases e
    have q2 := (q1.same sJ).new (o := .tup [.ref X1, .ref y1]) hT1
    have t2 := (t1.ext sJ).ext (same_new (o := .tup [.ref X1, .ref y1]) hT1)
    have sT1 := same_new (o := .tup [.ref X1, .ref y1]) hT1
    have en1 : Ent a (· = g) (upd J T1 (.tup [.ref X1, .ref y1])) T1 (.win 5) := ⟨X1, y1, upd_same, ((q1.same sJ).bag.ne hT1).1, Good.win (by decide) (by decide), sT1 _ _ (sJ _ _ eX1), RJ.same sT1⟩
    show _
    generalize upd J T1 (.tup [.ref X1, .ref y1]) = H3 at q2 t2 en1 ⊢
    -- the second entry
    refine ⟨(by show 0 ≤ sizeLine; decide), fun E2 hE2 => ⟨(by show 3 ≤ sizeLine; decide), fun X2 hX2 => ⟨(by show 0 ≤ sizeLine; decide), fun E3 hE3 => ?_⟩⟩⟩
    have s1' := same_new (o := .tup []) hE2
    have s2' := same_new (o := .tup [.str "days", .ref E2, .int 5]) hX2
    have s3' := same_new (o := .tup []) hE3
    have q3 := ((q2.new (o := .tup []) hE2).new (o := .tup [.str "days", .ref E2, .int 5]) hX2).new (o := .tup []) hE3
    have eX2 := s3' _ _ (upd_same (H := upd H3 E2 (.tup [])) (a := X2) (o := .tup [.str "days", .ref E2, .int 5]))
    have eE2 := s3' _ _ (s2' _ _ (upd_same (H := H3) (a := E2) (o := .tup [])))
    have nE3 := (((q2.new (o := .tup []) hE2).new (o := .tup [.str "days", .ref E2, .int 5]) hX2).bag.ne hE3).1
    have eE3 : upd (upd (upd H3 E2 (.tup [])) X2 (.tup [.str "days", .ref E2, .int 5])) E3 (.tup []) E3 = some (.tup []) := upd_same
    have en1 := en1.same (s1'.trans (s2'.trans s3'))
    have t3 := t2.ext (s1'.trans (s2'.trans s3'))
    generalize upd (upd (upd H3 E2 (.tup [])) X2 (.tup [.str "days", .ref E2, .int 5])) E3 (.tup []) = H4 at q3 eX2 eE2 eE3 en1 t3 ⊢
    have hFg : ∀ {Hx : Hp}, Ok g l H1 Hx → ∀ c, c = g → ∃ o, Hx c = some o := fun {Hx} r c e => by
      obtain ⟨⟨us, e'⟩, _⟩ := r.bag.there
      exact ⟨_, e ▸ e'⟩
    have gd2 : Good (.days [] 5) := Good.days (by decide) True.intro (by decide) (by decide)
    refine fun y2 dy2 hy2 hdy2 ny2 => ⟨y2, dy2, (· = g), (· = g), 0, .ref E3, .int 5, some [], H4, rfl, upd_same, hy2, (q3.bag.ne hy2).1, same_two hy2 hdy2, hFg q3, ⟨false, E3, rfl, eE3, nE3, by decide, fun u hu => by cases hu⟩, True.intro, fun er q => absurd ((daysDue_none gd2).symm.trans q) (fun z => by cases z), fun bs e' J2 ho he gd sJ RJ => ⟨rfl, (by show 2 ≤ sizeLine; decide), fun T2 hT2 => ?_⟩⟩
    cases he
    obtain rfl : bs = [] := by
      cases bs with
      | nil => rfl
      | cons _ _ => cases ho
    have q4 := (q3.same sJ).new (o := .tup [.ref X2, .ref y2]) hT2
    have sT2 := same_new (o := .tup [.ref X2, .ref y2]) hT2
    have t4 := (t3.ext sJ).ext sT2
    have en1 := (en1.same sJ).same sT2
    have en2 : Ent a (· = g) (upd J2 T2 (.tup [.ref X2, .ref y2])) T2 (.days [] 5) := ⟨X2, y2, upd_same, ((q3.same sJ).bag.ne hT2).1, gd, ⟨E2, sT2 _ _ (sJ _ _ eX2), sT2 _ _ (sJ _ _ eE2)⟩, RJ.same sT2⟩
    generalize upd J2 T2 (.tup [.ref X2, .ref y2]) = H5 at q4 t4 en1 en2 ⊢
    -- the third
    refine ⟨(by show 1 ≤ sizeLine; decide), fun E4 hE4 => ⟨(by show 3 ≤ sizeLine; decide), fun X3 hX3 => ⟨(by show 1 ≤ sizeLine; decide), fun E5 hE5 => ?_⟩⟩⟩
    have s4' := same_new (o := .tup [.int 3]) hE4
    have s5' := same_new (o := .tup [.str "days", .ref E4, .int 1999]) hX3
    have s6' := same_new (o := .lst [.int 3]) hE5
    have q5 := ((q4.new (o := .tup [.int 3]) hE4).new (o := .tup [.str "days", .ref E4, .int 1999]) hX3).new (o := .lst [.int 3]) hE5
    have eX3 := s6' _ _ (upd_same (H := upd H5 E4 (.tup [.int 3])) (a := X3) (o := .tup [.str "days", .ref E4, .int 1999]))
    have eE4 := s6' _ _ (s5' _ _ (upd_same (H := H5) (a := E4) (o := .tup [.int 3])))
    have nE5 := (((q4.new (o := .tup [.int 3]) hE4).new (o := .tup [.str "days", .ref E4, .int 1999]) hX3).bag.ne hE5).1
    have eE5 : upd (upd (upd H5 E4 (.tup [.int 3])) X3 (.tup [.str "days", .ref E4, .int 1999])) E5 (.lst [.int 3]) E5 = some (.lst [.int 3]) := upd_same
    have s46 := s4'.trans (s5'.trans s6')
    have en1 := en1.same s46
    have en2 := en2.same s46
    have t5 := t4.ext s46
    generalize upd (upd (upd H5 E4 (.tup [.int 3])) X3 (.tup [.str "days", .ref E4, .int 1999])) E5 (.lst [.int 3]) = H6 at q5 eX3 eE4 eE5 en1 en2 t5 ⊢
    have gd3 : Good (.days [3] 1999) := Good.days (by decide) ⟨by decide, by decide, True.intro⟩ (by decide) (by decide)
    refine fun y3 dy3 hy3 hdy3 ny3 => ⟨y3, dy3, (· = g), (· = g), 0, .ref E5, .int 1999, some [.int 3], H6, rfl, upd_same, hy3, (q5.bag.ne hy3).1, same_two hy3 hdy3, hFg q5, ⟨true, E5, rfl, eE5, nE5, (by show 1 ≤ 14; decide), fun u hu => (by rw [List.mem_singleton.mp hu]; exact Ov.sz (by exact True.intro) 1)⟩, True.intro, fun er q => absurd ((daysDue_none gd3).symm.trans q) (fun z => by cases z), fun bs e' J3 ho he gd sJ RJ => ⟨rfl, (by show 2 ≤ sizeLine; decide), fun T3 hT3 => ?_⟩⟩
    cases he
    obtain rfl : bs = [3] := by
      match bs, ho with
      | [b], ho =>
        have e := List.cons.inj (Option.some.inj ho)
        rw [V.int.inj e.1]
      | [], ho => cases ho
      | _ :: _ :: _, ho => cases ho
    have q6 := (q5.same sJ).new (o := .tup [.ref X3, .ref y3]) hT3
    have sT3 := same_new (o := .tup [.ref X3, .ref y3]) hT3
    have t6 := (t5.ext sJ).ext sT3
    have en1 := (en1.same sJ).same sT3
    have en2 := (en2.same sJ).same sT3
    have en3 : Ent a (· = g) (upd J3 T3 (.tup [.ref X3, .ref y3])) T3 (.days [3] 1999) := ⟨X3, y3, upd_same, ((q5.same sJ).bag.ne hT3).1, gd, ⟨E4, sT3 _ _ (sJ _ _ eX3), sT3 _ _ (sJ _ _ eE4)⟩, RJ.same sT3⟩
    generalize upd J3 T3 (.tup [.ref X3, .ref y3]) = H7 at q6 t6 en1 en2 en3 ⊢
    refine ⟨(by show 3 ≤ sizeLine; decide), fun kp hkp => ?_⟩
    have nk := q6.bag.ne hkp
    have sK := same_new (o := .lst [.ref T1, .ref T2, .ref T3]) hkp
    have S0 : StK Tb a g l kp 3 (upd H7 kp (.lst [.ref T1, .ref T2, .ref T3])) := ⟨(q6.new hkp).bag, nk.1, nk.2, t6.ext sK, [T1, T2, T3], upd_same, (by show 0 < 3; decide), Nat.le_refl 3, fun t ht => by
      simp only [List.mem_cons, List.not_mem_nil, or_false] at ht
      rcases ht with rfl | rfl | rfl
      · exact ⟨_, (en1.plus hkp).same sK⟩
      · exact ⟨_, (en2.plus hkp).same sK⟩
      · exact ⟨_, (en3.plus hkp).same sK⟩⟩
    generalize upd H7 kp (.lst [.ref T1, .ref T2, .ref T3]) = H8 at S0 ⊢
    refine ⟨_, rfl, by decide, by decide, for_range (lo := 0) (n := 3) (fun i σ H' => ∃ (v3 : Option V) (m : Nat), σ = [some (.ref ax), some (.ref g), some (.ref kp), v3, none, none] ∧ m ≤ 3 + 3 * i ∧ StK Tb a g l kp m H') ⟨none, 3, rfl, by omega, S0⟩ ?_ ?_⟩
    · rintro i σ H9 hi ⟨v3, m, rfl, hm, S9⟩
      refine ⟨_, rfl, _, rfl, g, l, kp, m, rfl, S9, by omega, fun m1 H10 hm1 S10 => ⟨_, rfl, iteF ?_⟩⟩
      refine ⟨_, rfl, _, rfl, g, l, kp, m1, rfl, S10, by omega, fun m2 H11 hm2 S11 => ⟨_, rfl, iteF ?_⟩⟩
      exact ⟨_, rfl, _, rfl, g, l, kp, m2, rfl, S11, by omega, fun m3 H12 hm3 S12 => ⟨_, rfl, iteF ⟨_, m3, rfl, by omega, S12⟩⟩⟩
    rintro σ H9 ⟨v3, m, rfl, hm, S9⟩
    refine ⟨_, rfl, by decide, by decide, for_range (lo := 0) (n := 8) (fun i σ H' => ∃ (v3 : Option V) (m : Nat), σ = [some (.ref ax), some (.ref g), some (.ref kp), v3, none, none] ∧ m ≤ 12 + i ∧ StK Tb a g l kp m H') ⟨v3, m, rfl, by omega, S9⟩ ?_ ?_⟩
    · rintro i σ H10 hi ⟨v3, m, rfl, hm, S10⟩
      exact ⟨_, rfl, _, rfl, g, l, kp, m, rfl, S10, by omega, fun m1 H11 hm1 S11 => ⟨_, rfl, iteF ⟨_, m1, rfl, by omega, S11⟩⟩⟩
    rintro σ H10 ⟨v3, m, rfl, hm, S10⟩
    obtain ⟨ts, eK, tl0, tl1, ent⟩ := S10.k
    refine ⟨_, rfl, kp, rfl, ⟨_, SqL.of eK⟩, for_list (K := K) (a := kp) (xs := ts.map V.ref) (fun i σ H' => ∃ (v4 v5 : Option V), σ = [some (.ref ax), some (.ref g), some (.ref kp), v3, v4, v5] ∧ Same H10 H') ⟨none, none, rfl, Same.refl _⟩ (fun i σ H' _ ⟨_, _, _, s⟩ => s.seq (SqL.of eK)) ?_ ?_⟩
    · rintro i x σ H11 hi ⟨v4, v5, rfl, s⟩
      rw [List.getElem?_map] at hi
      obtain ⟨t, ht, rfl⟩ := Option.map_eq_some_iff.mp hi
      obtain ⟨p, en⟩ := ent t (List.mem_of_getElem? ht)
      obtain ⟨x, y, h1, n, gd, h2, h3⟩ := en.same s
      refine ⟨t, _, rfl, SqT.of h1, rfl, _, _, rfl, _, _, rfl, rfl, ?_⟩
      exact ⟨_, rfl, _, rfl, x, y, FK g kp, p, rfl, h2, gd, h3, fun H12 s12 => ⟨_, rfl, iteF ⟨_, _, rfl, s.trans s12⟩⟩⟩
    rintro σ H11 ⟨v4, v5, rfl, s⟩
    have S11 := S10.same s
    refine ⟨_, rfl, by decide, by decide, for_range (lo := 0) (n := 8) (fun i σ H' => ∃ (v3 : Option V), σ = [some (.ref ax), some (.ref g), some (.ref kp), v3, v4, v5] ∧ StK Tb a g l kp m H') ⟨v3, rfl, S11⟩ ?_ ?_⟩
    · rintro i σ H12 hi ⟨v3, rfl, S12⟩
      exact ⟨_, rfl, _, rfl, g, l, kp, m, Tb, rfl, S12, by omega, fun H13 r => ⟨_, rfl, iteF ⟨_, rfl, S12.ok r⟩⟩⟩
    rintro σ H12 ⟨v3, rfl, S12⟩
    exact k _
end k04
namespace k04
open PySem L2 LC RM

theorem all_mk {l : PySem.W.OpenLaw} {w : World} {K : PySem.W.Frag} {h : Heap} {mg : Str → Option Value} {fa : Addr} (X : K.In h) (G : h.Ns mainGlobals mg) (hfa : mg "law" = some (.ref fa))
    {fcheck_count : Addr} {odcheck_count ancheck_count : Option Addr} {slcheck_count : Array (Option Value)} {occheck_count kVcheck_count dccheck_count pmcheck_count cdcheck_count ctcheck_count : Value}
    (acheck_count : PySem.W.nsIn K mainGlobals "check_count" = some (some (.ref fcheck_count)))
    (lcheck_count : K.lookup fcheck_count = some ⟨occheck_count, odcheck_count, .func (PySem.W.fnOf "check_count" "check_count" (defArgs scheck_count) (defBody scheck_count) (defScope scheck_count) .none kVcheck_count dccheck_count pmcheck_count ancheck_count cdcheck_count ctcheck_count), slcheck_count⟩)
    (ccheck_count : PySem.W.codeIn K cdcheck_count "check_count" = true)
    (kcheck_count : PySem.W.keepIn K (.ref fcheck_count) = true)
    {fis_whole : Addr} {odis_whole anis_whole : Option Addr} {slis_whole : Array (Option Value)} {ocis_whole kVis_whole dcis_whole pmis_whole cdis_whole ctis_whole : Value}
    (ais_whole : PySem.W.nsIn K mainGlobals "is_whole" = some (some (.ref fis_whole)))
    (lis_whole : K.lookup fis_whole = some ⟨ocis_whole, odis_whole, .func (PySem.W.fnOf "is_whole" "is_whole" (defArgs sis_whole) (defBody sis_whole) (defScope sis_whole) .none kVis_whole dcis_whole pmis_whole anis_whole cdis_whole ctis_whole), slis_whole⟩)
    (cis_whole : PySem.W.codeIn K cdis_whole "is_whole" = true)
    (kis_whole : PySem.W.keepIn K (.ref fis_whole) = true)
    {fis_number : Addr} {odis_number anis_number : Option Addr} {slis_number : Array (Option Value)} {ocis_number kVis_number dcis_number pmis_number cdis_number ctis_number : Value}
    (ais_number : PySem.W.nsIn K mainGlobals "is_number" = some (some (.ref fis_number)))
    (lis_number : K.lookup fis_number = some ⟨ocis_number, odis_number, .func (PySem.W.fnOf "is_number" "is_number" (defArgs sis_number) (defBody sis_number) (defScope sis_number) .none kVis_number dcis_number pmis_number anis_number cdis_number ctis_number), slis_number⟩)
    (cis_number : PySem.W.codeIn K cdis_number "is_number" = true)
    (kis_number : PySem.W.keepIn K (.ref fis_number) = true)
    {fcheck_borders : Addr} {odcheck_borders ancheck_borders : Option Addr} {slcheck_borders : Array (Option Value)} {occheck_borders kVcheck_borders dccheck_borders pmcheck_borders cdcheck_borders ctcheck_borders : Value}
    (acheck_borders : PySem.W.nsIn K mainGlobals "check_borders" = some (some (.ref fcheck_borders)))
    (lcheck_borders : K.lookup fcheck_borders = some ⟨occheck_borders, odcheck_borders, .func (PySem.W.fnOf "check_borders" "check_borders" (defArgs scheck_borders) (defBody scheck_borders) (defScope scheck_borders) .none kVcheck_borders dccheck_borders pmcheck_borders ancheck_borders cdcheck_borders ctcheck_borders), slcheck_borders⟩)
    (ccheck_borders : PySem.W.codeIn K cdcheck_borders "check_borders" = true)
    (kcheck_borders : PySem.W.keepIn K (.ref fcheck_borders) = true)
    {fcommon_period : Addr} {odcommon_period ancommon_period : Option Addr} {slcommon_period : Array (Option Value)} {occommon_period kVcommon_period dccommon_period pmcommon_period cdcommon_period ctcommon_period : Value}
    (acommon_period : PySem.W.nsIn K mainGlobals "common_period" = some (some (.ref fcommon_period)))
    (lcommon_period : K.lookup fcommon_period = some ⟨occommon_period, odcommon_period, .func (PySem.W.fnOf "common_period" "common_period" (defArgs scommon_period) (defBody scommon_period) (defScope scommon_period) .none kVcommon_period dccommon_period pmcommon_period ancommon_period cdcommon_period ctcommon_period), slcommon_period⟩)
    (ccommon_period : PySem.W.codeIn K cdcommon_period "common_period" = true)
    (kcommon_period : PySem.W.keepIn K (.ref fcommon_period) = true)
    {fpair_facts : Addr} {odpair_facts anpair_facts : Option Addr} {slpair_facts : Array (Option Value)} {ocpair_facts kVpair_facts dcpair_facts pmpair_facts cdpair_facts ctpair_facts : Value}
    (apair_facts : PySem.W.nsIn K mainGlobals "pair_facts" = some (some (.ref fpair_facts)))
    (lpair_facts : K.lookup fpair_facts = some ⟨ocpair_facts, odpair_facts, .func (PySem.W.fnOf "pair_facts" "pair_facts" (defArgs spair_facts) (defBody spair_facts) (defScope spair_facts) .none kVpair_facts dcpair_facts pmpair_facts anpair_facts cdpair_facts ctpair_facts), slpair_facts⟩)
    (cpair_facts : PySem.W.codeIn K cdpair_facts "pair_facts" = true)
    (kpair_facts : PySem.W.keepIn K (.ref fpair_facts) = true)
    {fbag : Addr} {odbag anbag : Option Addr} {slbag : Array (Option Value)} {ocbag kVbag dcbag pmbag cdbag ctbag : Value}
    (abag : PySem.W.nsIn K mainGlobals "_law_bag" = some (some (.ref fbag)))
    (lbag : K.lookup fbag = some ⟨ocbag, odbag, .func (PySem.W.fnOf "_law_bag" "_law_bag" (defArgs sbag) (defBody sbag) (defScope sbag) .none kVbag dcbag pmbag anbag cdbag ctbag), slbag⟩)
    (cbag : PySem.W.codeIn K cdbag "_law_bag" = true)
    (kbag : PySem.W.keepIn K (.ref fbag) = true)
    {fdraw : Addr} {oddraw andraw : Option Addr} {sldraw : Array (Option Value)} {ocdraw kVdraw dcdraw pmdraw cddraw ctdraw : Value}
    (adraw : PySem.W.nsIn K mainGlobals "_law_draw" = some (some (.ref fdraw)))
    (ldraw : K.lookup fdraw = some ⟨ocdraw, oddraw, .func (PySem.W.fnOf "_law_draw" "_law_draw" (defArgs sdraw) (defBody sdraw) (defScope sdraw) .none kVdraw dcdraw pmdraw andraw cddraw ctdraw), sldraw⟩)
    (cdraw : PySem.W.codeIn K cddraw "_law_draw" = true)
    (kdraw : PySem.W.keepIn K (.ref fdraw) = true)
    {fof : Addr} {odof anof : Option Addr} {slof : Array (Option Value)} {ocof kVof dcof pmof cdof ctof : Value}
    (aof : PySem.W.nsIn K mainGlobals "_law_of" = some (some (.ref fof)))
    (lof : K.lookup fof = some ⟨ocof, odof, .func (PySem.W.fnOf "_law_of" "_law_of" (defArgs sof) (defBody sof) (defScope sof) .none kVof dcof pmof anof cdof ctof), slof⟩)
    (cof : PySem.W.codeIn K cdof "_law_of" = true)
    (kof : PySem.W.keepIn K (.ref fof) = true)
    {flike : Addr} {odlike anlike : Option Addr} {sllike : Array (Option Value)} {oclike kVlike dclike pmlike cdlike ctlike : Value}
    (alike : PySem.W.nsIn K mainGlobals "_law_like" = some (some (.ref flike)))
    (llike : K.lookup flike = some ⟨oclike, odlike, .func (PySem.W.fnOf "_law_like" "_law_like" (defArgs slike) (defBody slike) (defScope slike) .none kVlike dclike pmlike anlike cdlike ctlike), sllike⟩)
    (clike : PySem.W.codeIn K cdlike "_law_like" = true)
    (klike : PySem.W.keepIn K (.ref flike) = true)
    {fodd : Addr} {ododd anodd : Option Addr} {slodd : Array (Option Value)} {ocodd kVodd dcodd pmodd cdodd ctodd : Value}
    (aodd : PySem.W.nsIn K mainGlobals "_law_odd" = some (some (.ref fodd)))
    (lodd : K.lookup fodd = some ⟨ocodd, ododd, .func (PySem.W.fnOf "_law_odd" "_law_odd" (defArgs sodd) (defBody sodd) (defScope sodd) .none kVodd dcodd pmodd anodd cdodd ctodd), slodd⟩)
    (codd : PySem.W.codeIn K cdodd "_law_odd" = true)
    (kodd : PySem.W.keepIn K (.ref fodd) = true)
    {flcm : Addr} {odlcm anlcm : Option Addr} {sllcm : Array (Option Value)} {oclcm kVlcm dclcm pmlcm cdlcm ctlcm : Value}
    (alcm : PySem.W.nsIn K mainGlobals "_law_lcm" = some (some (.ref flcm)))
    (llcm : K.lookup flcm = some ⟨oclcm, odlcm, .func (PySem.W.fnOf "_law_lcm" "_law_lcm" (defArgs slcm) (defBody slcm) (defScope slcm) .none kVlcm dclcm pmlcm anlcm cdlcm ctlcm), sllcm⟩)
    (clcm : PySem.W.codeIn K cdlcm "_law_lcm" = true)
    (klcm : PySem.W.keepIn K (.ref flcm) = true)
    {ftext : Addr} {odtext antext : Option Addr} {sltext : Array (Option Value)} {octext kVtext dctext pmtext cdtext cttext : Value}
    (atext : PySem.W.nsIn K mainGlobals "_law_text" = some (some (.ref ftext)))
    (ltext : K.lookup ftext = some ⟨octext, odtext, .func (PySem.W.fnOf "_law_text" "_law_text" (defArgs stext) (defBody stext) (defScope stext) .none kVtext dctext pmtext antext cdtext cttext), sltext⟩)
    (ctext : PySem.W.codeIn K cdtext "_law_text" = true)
    (ktext : PySem.W.keepIn K (.ref ftext) = true)
    {ffacts : Addr} {odfacts anfacts : Option Addr} {slfacts : Array (Option Value)} {ocfacts kVfacts dcfacts pmfacts cdfacts ctfacts : Value}
    (afacts : PySem.W.nsIn K mainGlobals "_law_facts" = some (some (.ref ffacts)))
    (lfacts : K.lookup ffacts = some ⟨ocfacts, odfacts, .func (PySem.W.fnOf "_law_facts" "_law_facts" (defArgs sfacts) (defBody sfacts) (defScope sfacts) .none kVfacts dcfacts pmfacts anfacts cdfacts ctfacts), slfacts⟩)
    (cfacts : PySem.W.codeIn K cdfacts "_law_facts" = true)
    (kfacts : PySem.W.keepIn K (.ref ffacts) = true)
    {fask : Addr} {odask anask : Option Addr} {slask : Array (Option Value)} {ocask kVask dcask pmask cdask ctask : Value}
    (aask : PySem.W.nsIn K mainGlobals "_law_ask" = some (some (.ref fask)))
    (lask : K.lookup fask = some ⟨ocask, odask, .func (PySem.W.fnOf "_law_ask" "_law_ask" (defArgs sask) (defBody sask) (defScope sask) .none kVask dcask pmask anask cdask ctask), slask⟩)
    (cask : PySem.W.codeIn K cdask "_law_ask" = true)
    (kask : PySem.W.keepIn K (.ref fask) = true)
    {fin : Addr} {odin anin : Option Addr} {slin : Array (Option Value)} {ocin kVin dcin pmin cdin ctin : Value}
    (ain : PySem.W.nsIn K mainGlobals "_law_in" = some (some (.ref fin)))
    (lin : K.lookup fin = some ⟨ocin, odin, .func (PySem.W.fnOf "_law_in" "_law_in" (defArgs sin) (defBody sin) (defScope sin) .none kVin dcin pmin anin cdin ctin), slin⟩)
    (cin : PySem.W.codeIn K cdin "_law_in" = true)
    (kin : PySem.W.keepIn K (.ref fin) = true)
    {fnumber : Addr} {odnumber annumber : Option Addr} {slnumber : Array (Option Value)} {ocnumber kVnumber dcnumber pmnumber cdnumber ctnumber : Value}
    (anumber : PySem.W.nsIn K mainGlobals "_law_number" = some (some (.ref fnumber)))
    (lnumber : K.lookup fnumber = some ⟨ocnumber, odnumber, .func (PySem.W.fnOf "_law_number" "_law_number" (defArgs snumber) (defBody snumber) (defScope snumber) .none kVnumber dcnumber pmnumber annumber cdnumber ctnumber), slnumber⟩)
    (cnumber : PySem.W.codeIn K cdnumber "_law_number" = true)
    (knumber : PySem.W.keepIn K (.ref fnumber) = true)
    {fborders : Addr} {odborders anborders : Option Addr} {slborders : Array (Option Value)} {ocborders kVborders dcborders pmborders cdborders ctborders : Value}
    (aborders : PySem.W.nsIn K mainGlobals "_law_borders" = some (some (.ref fborders)))
    (lborders : K.lookup fborders = some ⟨ocborders, odborders, .func (PySem.W.fnOf "_law_borders" "_law_borders" (defArgs sborders) (defBody sborders) (defScope sborders) .none kVborders dcborders pmborders anborders cdborders ctborders), slborders⟩)
    (cborders : PySem.W.codeIn K cdborders "_law_borders" = true)
    (kborders : PySem.W.keepIn K (.ref fborders) = true)
    {fdays_due : Addr} {oddays_due andays_due : Option Addr} {sldays_due : Array (Option Value)} {ocdays_due kVdays_due dcdays_due pmdays_due cddays_due ctdays_due : Value}
    (adays_due : PySem.W.nsIn K mainGlobals "_law_days_due" = some (some (.ref fdays_due)))
    (ldays_due : K.lookup fdays_due = some ⟨ocdays_due, oddays_due, .func (PySem.W.fnOf "_law_days_due" "_law_days_due" (defArgs sdays_due) (defBody sdays_due) (defScope sdays_due) .none kVdays_due dcdays_due pmdays_due andays_due cddays_due ctdays_due), sldays_due⟩)
    (cdays_due : PySem.W.codeIn K cddays_due "_law_days_due" = true)
    (kdays_due : PySem.W.keepIn K (.ref fdays_due) = true)
    {fwindow cowindow ptwindow : Addr} {odwindow anwindow odcwindow : Option Addr} {slwindow slcwindow : Array (Option Value)} {ocwindow kVwindow dcwindow pmwindow ctwindow : Value} {vswindow : Array Value}
    (awindow : PySem.W.nsIn K mainGlobals "_law_window" = some (some (.ref fwindow)))
    (lwindow : K.lookup fwindow = some ⟨ocwindow, odwindow, .func (PySem.W.fnOf "_law_window" "_law_window" (defArgs swindow) (defBody swindow) (defScope swindow) .none kVwindow dcwindow pmwindow anwindow (.ref cowindow) ctwindow), slwindow⟩)
    (cwindow : PySem.W.codeIn K (.ref cowindow) "_law_window" = true)
    (kwindow : PySem.W.keepIn K (.ref fwindow) = true)
    (lcwindow : K.lookup cowindow = some ⟨.type "code", odcwindow, .fields vswindow, slcwindow⟩)
    (vpwindow : vswindow[11]? = some (.ref ptwindow))
    (hdwindow : LE2.hdB vswindow cowindow ptwindow = true)
    (npwindow : K.lookup ptwindow = none)
    {fdays codays ptdays : Addr} {oddays andays odcdays : Option Addr} {sldays slcdays : Array (Option Value)} {ocdays kVdays dcdays pmdays ctdays : Value} {vsdays : Array Value}
    (adays : PySem.W.nsIn K mainGlobals "_law_days" = some (some (.ref fdays)))
    (ldays : K.lookup fdays = some ⟨ocdays, oddays, .func (PySem.W.fnOf "_law_days" "_law_days" (defArgs sdays) (defBody sdays) (defScope sdays) .none kVdays dcdays pmdays andays (.ref codays) ctdays), sldays⟩)
    (cdays : PySem.W.codeIn K (.ref codays) "_law_days" = true)
    (kdays : PySem.W.keepIn K (.ref fdays) = true)
    (lcdays : K.lookup codays = some ⟨.type "code", odcdays, .fields vsdays, slcdays⟩)
    (vpdays : vsdays[11]? = some (.ref ptdays))
    (hddays : LE2.hdB vsdays codays ptdays = true)
    (npdays : K.lookup ptdays = none)
    {fpair : Addr} {odpair anpair : Option Addr} {slpair : Array (Option Value)} {ocpair kVpair dcpair pmpair cdpair ctpair : Value}
    (apair : PySem.W.nsIn K mainGlobals "_law_pair" = some (some (.ref fpair)))
    (lpair : K.lookup fpair = some ⟨ocpair, odpair, .func (PySem.W.fnOf "_law_pair" "_law_pair" (defArgs spair) (defBody spair) (defScope spair) .none kVpair dcpair pmpair anpair cdpair ctpair), slpair⟩)
    (cpair : PySem.W.codeIn K cdpair "_law_pair" = true)
    (kpair : PySem.W.keepIn K (.ref fpair) = true)
    {fpair_due : Addr} {odpair_due anpair_due : Option Addr} {slpair_due : Array (Option Value)} {ocpair_due kVpair_due dcpair_due pmpair_due cdpair_due ctpair_due : Value}
    (apair_due : PySem.W.nsIn K mainGlobals "_law_pair_due" = some (some (.ref fpair_due)))
    (lpair_due : K.lookup fpair_due = some ⟨ocpair_due, odpair_due, .func (PySem.W.fnOf "_law_pair_due" "_law_pair_due" (defArgs spair_due) (defBody spair_due) (defScope spair_due) .none kVpair_due dcpair_due pmpair_due anpair_due cdpair_due ctpair_due), slpair_due⟩)
    (cpair_due : PySem.W.codeIn K cdpair_due "_law_pair_due" = true)
    (kpair_due : PySem.W.keepIn K (.ref fpair_due) = true)
    {fclass_so : Addr} {odclass_so anclass_so : Option Addr} {slclass_so : Array (Option Value)} {occlass_so kVclass_so dcclass_so pmclass_so cdclass_so ctclass_so : Value}
    (aclass_so : PySem.W.nsIn K mainGlobals "_law_class_so" = some (some (.ref fclass_so)))
    (lclass_so : K.lookup fclass_so = some ⟨occlass_so, odclass_so, .func (PySem.W.fnOf "_law_class_so" "_law_class_so" (defArgs sclass_so) (defBody sclass_so) (defScope sclass_so) .none kVclass_so dcclass_so pmclass_so anclass_so cdclass_so ctclass_so), slclass_so⟩)
    (cclass_so : PySem.W.codeIn K cdclass_so "_law_class_so" = true)
    (kclass_so : PySem.W.keepIn K (.ref fclass_so) = true)
    {funder counder ptunder : Addr} {odunder anunder odcunder : Option Addr} {slunder slcunder : Array (Option Value)} {ocunder kVunder dcunder pmunder ctunder : Value} {vsunder : Array Value}
    (aunder : PySem.W.nsIn K mainGlobals "_law_under" = some (some (.ref funder)))
    (lunder : K.lookup funder = some ⟨ocunder, odunder, .func (PySem.W.fnOf "_law_under" "_law_under" (defArgs sunder) (defBody sunder) (defScope sunder) .none kVunder dcunder pmunder anunder (.ref counder) ctunder), slunder⟩)
    (cunder : PySem.W.codeIn K (.ref counder) "_law_under" = true)
    (kunder : PySem.W.keepIn K (.ref funder) = true)
    (lcunder : K.lookup counder = some ⟨.type "code", odcunder, .fields vsunder, slcunder⟩)
    (vpunder : vsunder[11]? = some (.ref ptunder))
    (hdunder : LE2.hdB vsunder counder ptunder = true)
    (npunder : K.lookup ptunder = none)
    {ftold_so : Addr} {odtold_so antold_so : Option Addr} {sltold_so : Array (Option Value)} {octold_so kVtold_so dctold_so pmtold_so cdtold_so cttold_so : Value}
    (atold_so : PySem.W.nsIn K mainGlobals "_law_told_so" = some (some (.ref ftold_so)))
    (ltold_so : K.lookup ftold_so = some ⟨octold_so, odtold_so, .func (PySem.W.fnOf "_law_told_so" "_law_told_so" (defArgs stold_so) (defBody stold_so) (defScope stold_so) .none kVtold_so dctold_so pmtold_so antold_so cdtold_so cttold_so), sltold_so⟩)
    (ctold_so : PySem.W.codeIn K cdtold_so "_law_told_so" = true)
    (ktold_so : PySem.W.keepIn K (.ref ftold_so) = true)
    {fequal_so : Addr} {odequal_so anequal_so : Option Addr} {slequal_so : Array (Option Value)} {ocequal_so kVequal_so dcequal_so pmequal_so cdequal_so ctequal_so : Value}
    (aequal_so : PySem.W.nsIn K mainGlobals "_law_equal_so" = some (some (.ref fequal_so)))
    (lequal_so : K.lookup fequal_so = some ⟨ocequal_so, odequal_so, .func (PySem.W.fnOf "_law_equal_so" "_law_equal_so" (defArgs sequal_so) (defBody sequal_so) (defScope sequal_so) .none kVequal_so dcequal_so pmequal_so anequal_so cdequal_so ctequal_so), slequal_so⟩)
    (cequal_so : PySem.W.codeIn K cdequal_so "_law_equal_so" = true)
    (kequal_so : PySem.W.keepIn K (.ref fequal_so) = true)
    {flaw : Addr} {odlaw anlaw : Option Addr} {sllaw : Array (Option Value)} {oclaw kVlaw dclaw pmlaw cdlaw ctlaw : Value}
    (alaw : PySem.W.nsIn K mainGlobals "law" = some (some (.ref flaw)))
    (llaw : K.lookup flaw = some ⟨oclaw, odlaw, .func (PySem.W.fnOf "law" "law" (defArgs slaw) (defBody slaw) (defScope slaw) .none kVlaw dclaw pmlaw anlaw cdlaw ctlaw), sllaw⟩)
    (claw : PySem.W.codeIn K cdlaw "law" = true)
    (klaw : PySem.W.keepIn K (.ref flaw) = true)
    (zall : PySem.W.nsIn K mainGlobals "all" = some none)
    (zbool : PySem.W.nsIn K mainGlobals "bool" = some none)
    (zdict : PySem.W.nsIn K mainGlobals "dict" = some none)
    (zenumerate : PySem.W.nsIn K mainGlobals "enumerate" = some none)
    (zint : PySem.W.nsIn K mainGlobals "int" = some none)
    (zisinstance : PySem.W.nsIn K mainGlobals "isinstance" = some none)
    (zlen : PySem.W.nsIn K mainGlobals "len" = some none)
    (zlist : PySem.W.nsIn K mainGlobals "list" = some none)
    (zmax : PySem.W.nsIn K mainGlobals "max" = some none)
    (zrange : PySem.W.nsIn K mainGlobals "range" = some none)
    (zrepr : PySem.W.nsIn K mainGlobals "repr" = some none)
    (zstr : PySem.W.nsIn K mainGlobals "str" = some none)
    (zsuper : PySem.W.nsIn K mainGlobals "super" = some none)
    (ztuple : PySem.W.nsIn K mainGlobals "tuple" = some none)
    (zzip : PySem.W.nsIn K mainGlobals "zip" = some none)
    {tkMOST_BORDERS : Tok} (yMOST_BORDERS : PySem.W.nsIn K mainGlobals "MOST_BORDERS" = some (some (.int 12 tkMOST_BORDERS)))
    {tkMOST_FORMS : Tok} (yMOST_FORMS : PySem.W.nsIn K mainGlobals "MOST_FORMS" = some (some (.int 6 tkMOST_FORMS)))
    {tkMOST_PERIOD : Tok} (yMOST_PERIOD : PySem.W.nsIn K mainGlobals "MOST_PERIOD" = some (some (.int 2000 tkMOST_PERIOD)))
    {tkMOST_SIZE : Tok} (yMOST_SIZE : PySem.W.nsIn K mainGlobals "MOST_SIZE" = some (some (.int 1000 tkMOST_SIZE)))
        {aR fRi fF fP fB fW fS fr fE : Addr}
    (aRest : PySem.W.nsIn K mainGlobals "Rest" = some (some (.ref aR)))
    {ocxR : Value} {odxR : Option Addr} {cdxR : ClassData} {slxR : Array (Option Value)}
    (xRest : K.lookup aR = some ⟨ocxR, odxR, .cls cdxR, slxR⟩)
    (tyR : PySem.W.typeIn K (.ref aR) = some (.type "type"))
    (clR : PySem.W.isClsIn K aR = true)
    (ffRi : PySem.W.findIn K (.ref aR) "__init__" = some (some (.ref fRi)))
    {odRest_init anRest_init : Option Addr} {slRest_init : Array (Option Value)} {ocRest_init kVRest_init dcRest_init pmRest_init cdRest_init ctRest_init : Value}
    (lRest_init : K.lookup fRi = some ⟨ocRest_init, odRest_init, .func (PySem.W.fnOf "__init__" "Rest.__init__" (defArgs sRest_init) (defBody sRest_init) (defScope sRest_init) .none kVRest_init dcRest_init pmRest_init anRest_init cdRest_init ctRest_init), slRest_init⟩)
    (cRest_init : PySem.W.codeIn K cdRest_init "Rest.__init__" = true)
    (kRest_init : PySem.W.keepIn K (.ref fRi) = true)
    (iRest_init : PySem.W.isFn K (.ref fRi) = true)
    (ffF : PySem.W.findIn K (.ref aR) "forms" = some (some (.ref fF)))
    {odRest_forms anRest_forms : Option Addr} {slRest_forms : Array (Option Value)} {ocRest_forms kVRest_forms dcRest_forms pmRest_forms cdRest_forms ctRest_forms : Value}
    (lRest_forms : K.lookup fF = some ⟨ocRest_forms, odRest_forms, .func (PySem.W.fnOf "forms" "Rest.forms" (defArgs sRest_forms) (defBody sRest_forms) (defScope sRest_forms) .none kVRest_forms dcRest_forms pmRest_forms anRest_forms cdRest_forms ctRest_forms), slRest_forms⟩)
    (cRest_forms : PySem.W.codeIn K cdRest_forms "Rest.forms" = true)
    (kRest_forms : PySem.W.keepIn K (.ref fF) = true)
    (iRest_forms : PySem.W.isFn K (.ref fF) = true)
    (ffP : PySem.W.findIn K (.ref aR) "period" = some (some (.ref fP)))
    {odRest_period anRest_period : Option Addr} {slRest_period : Array (Option Value)} {ocRest_period kVRest_period dcRest_period pmRest_period cdRest_period ctRest_period : Value}
    (lRest_period : K.lookup fP = some ⟨ocRest_period, odRest_period, .func (PySem.W.fnOf "period" "Rest.period" (defArgs sRest_period) (defBody sRest_period) (defScope sRest_period) .none kVRest_period dcRest_period pmRest_period anRest_period cdRest_period ctRest_period), slRest_period⟩)
    (cRest_period : PySem.W.codeIn K cdRest_period "Rest.period" = true)
    (kRest_period : PySem.W.keepIn K (.ref fP) = true)
    (iRest_period : PySem.W.isFn K (.ref fP) = true)
    (ffB : PySem.W.findIn K (.ref aR) "bend" = some (some (.ref fB)))
    {odRest_bend anRest_bend : Option Addr} {slRest_bend : Array (Option Value)} {ocRest_bend kVRest_bend dcRest_bend pmRest_bend cdRest_bend ctRest_bend : Value}
    (lRest_bend : K.lookup fB = some ⟨ocRest_bend, odRest_bend, .func (PySem.W.fnOf "bend" "Rest.bend" (defArgs sRest_bend) (defBody sRest_bend) (defScope sRest_bend) .none kVRest_bend dcRest_bend pmRest_bend anRest_bend cdRest_bend ctRest_bend), slRest_bend⟩)
    (cRest_bend : PySem.W.codeIn K cdRest_bend "Rest.bend" = true)
    (kRest_bend : PySem.W.keepIn K (.ref fB) = true)
    (iRest_bend : PySem.W.isFn K (.ref fB) = true)
    (ffW : PySem.W.findIn K (.ref aR) "written" = some (some (.ref fW)))
    {odRest_written anRest_written : Option Addr} {slRest_written : Array (Option Value)} {ocRest_written kVRest_written dcRest_written pmRest_written cdRest_written ctRest_written : Value}
    (lRest_written : K.lookup fW = some ⟨ocRest_written, odRest_written, .func (PySem.W.fnOf "written" "Rest.written" (defArgs sRest_written) (defBody sRest_written) (defScope sRest_written) .none kVRest_written dcRest_written pmRest_written anRest_written cdRest_written ctRest_written), slRest_written⟩)
    (cRest_written : PySem.W.codeIn K cdRest_written "Rest.written" = true)
    (kRest_written : PySem.W.keepIn K (.ref fW) = true)
    (iRest_written : PySem.W.isFn K (.ref fW) = true)
    (ffS : PySem.W.findIn K (.ref aR) "__str__" = some (some (.ref fS)))
    {odRest_str anRest_str : Option Addr} {slRest_str : Array (Option Value)} {ocRest_str kVRest_str dcRest_str pmRest_str cdRest_str ctRest_str : Value}
    (lRest_str : K.lookup fS = some ⟨ocRest_str, odRest_str, .func (PySem.W.fnOf "__str__" "Rest.__str__" (defArgs sRest_str) (defBody sRest_str) (defScope sRest_str) .none kVRest_str dcRest_str pmRest_str anRest_str cdRest_str ctRest_str), slRest_str⟩)
    (cRest_str : PySem.W.codeIn K cdRest_str "Rest.__str__" = true)
    (kRest_str : PySem.W.keepIn K (.ref fS) = true)
    (iRest_str : PySem.W.isFn K (.ref fS) = true)
    (ffr : PySem.W.findIn K (.ref aR) "__repr__" = some (some (.ref fr)))
    {odRest_repr anRest_repr : Option Addr} {slRest_repr : Array (Option Value)} {ocRest_repr kVRest_repr dcRest_repr pmRest_repr cdRest_repr ctRest_repr : Value}
    (lRest_repr : K.lookup fr = some ⟨ocRest_repr, odRest_repr, .func (PySem.W.fnOf "__repr__" "Rest.__repr__" (defArgs sRest_repr) (defBody sRest_repr) (defScope sRest_repr) .none kVRest_repr dcRest_repr pmRest_repr anRest_repr cdRest_repr ctRest_repr), slRest_repr⟩)
    (cRest_repr : PySem.W.codeIn K cdRest_repr "Rest.__repr__" = true)
    (kRest_repr : PySem.W.keepIn K (.ref fr) = true)
    (iRest_repr : PySem.W.isFn K (.ref fr) = true)
    (ffE : PySem.W.findIn K (.ref aR) "__eq__" = some (some (.ref fE)))
    {odRest_eq anRest_eq : Option Addr} {slRest_eq : Array (Option Value)} {ocRest_eq kVRest_eq dcRest_eq pmRest_eq cdRest_eq ctRest_eq : Value}
    (lRest_eq : K.lookup fE = some ⟨ocRest_eq, odRest_eq, .func (PySem.W.fnOf "__eq__" "Rest.__eq__" (defArgs sRest_eq) (defBody sRest_eq) (defScope sRest_eq) .none kVRest_eq dcRest_eq pmRest_eq anRest_eq cdRest_eq ctRest_eq), slRest_eq⟩)
    (cRest_eq : PySem.W.codeIn K cdRest_eq "Rest.__eq__" = true)
    (kRest_eq : PySem.W.keepIn K (.ref fE) = true)
    (iRest_eq : PySem.W.isFn K (.ref fE) = true)
    (tyfR : PySem.W.typeIn K (.ref fRi) = some (.type "function"))
    (fiR : PySem.W.fnIn K fRi = true)
    (opq : PySem.W.nsIn K cStatics "thirdparty.any" = some none)
    (tp : (l.prog.main.scope.names.lookup ("super" : Str)).isSome = false)
    {aWindow fWindow_init : Addr}
    (a_Window : PySem.W.nsIn K mainGlobals "Window" = some (some (.ref aWindow)))
    (tyWindow : PySem.W.typeIn K (.ref aWindow) = some (.type "type"))
    (clWindow : PySem.W.isClsIn K aWindow = true)
    (pgWindow : PySem.W.plainGet K aWindow Str.empty = true)
    (hdWindow : PySem.W.hasDictIn K aWindow = true)
    (poWindow : PySem.W.plainOver K aWindow = true)
    (saWindow : PySem.W.findIn K (.ref aWindow) "__setattr__" = some (some (.builtin "object.__setattr__")))
    (mkWindow : PySem.W.makesIn K aWindow = true)
    (kpWindow : PySem.W.keepIn K (.ref aWindow) = true)
    (fiWindow : PySem.W.findIn K (.ref aWindow) "__init__" = some (some (.ref fWindow_init)))
    {cWindow_init ccWindow_init : Addr} {odfWindow_init odcWindow_init odlWindow_init : Option Addr} {slfWindow_init slcWindow_init sllWindow_init : Array (Option Value)} {ocfWindow_init occWindow_init oclWindow_init dcWindow_init pmWindow_init ctWindow_init : Value} {vsWindow_init : Array Value} {flWindow_init : Str} {tkWindow_init : Tok}
    (lWindow_init : K.lookup fWindow_init = some ⟨ocfWindow_init, odfWindow_init, .func ((FWindow_init ccWindow_init cWindow_init).fd dcWindow_init pmWindow_init ctWindow_init), slfWindow_init⟩)
    (lcWindow_init : K.lookup cWindow_init = some ⟨occWindow_init, odcWindow_init, .fields vsWindow_init, slcWindow_init⟩)
    (vfWindow_init : vsWindow_init[2]? = some (.str flWindow_init tkWindow_init))
    (ffWindow_init : ((l.prog.main.file : Str) == flWindow_init) = true)
    (llWindow_init : K.lookup ccWindow_init = some ⟨oclWindow_init, odlWindow_init, .cell (some (.ref aWindow)), sllWindow_init⟩)
    (cdWindow_init : PySem.W.codeIn K (.ref cWindow_init) "Window.__init__" = true)
    (isfWindow_init : PySem.W.isFn K (.ref fWindow_init) = true)
    {ocxWindow : Value} {odxWindow : Option Addr} {cdxWindow : ClassData} {slxWindow : Array (Option Value)}
    (xWindow : K.lookup aWindow = some ⟨ocxWindow, odxWindow, .cls cdxWindow, slxWindow⟩)
    (mrWindow : PySem.W.mroIn K aWindow (.ref aWindow) = some true)
    (moWindow : (cdxWindow.mro.dropWhile (· != .ref aWindow)).drop 1 = cdxR.mro)
    (nWindow_text : PySem.W.findIn K (.ref aWindow) "_text" = some none)
    (nWindow_forms : PySem.W.findIn K (.ref aWindow) "_forms" = some none)
    (nWindow_period : PySem.W.findIn K (.ref aWindow) "_period" = some none)
    (nWindow_bend : PySem.W.findIn K (.ref aWindow) "_bend" = some none)
    (nWindowwidth : PySem.W.findIn K (.ref aWindow) "width" = some none)
    (mWindowforms : PySem.W.findIn K (.ref aWindow) "forms" = some (some (.ref fF)))
    (mWindowperiod : PySem.W.findIn K (.ref aWindow) "period" = some (some (.ref fP)))
    (mWindowbend : PySem.W.findIn K (.ref aWindow) "bend" = some (some (.ref fB)))
    (mWindowwritten : PySem.W.findIn K (.ref aWindow) "written" = some (some (.ref fW)))
    (mWindowstr : PySem.W.findIn K (.ref aWindow) "__str__" = some (some (.ref fS)))
    (mWindowrepr : PySem.W.findIn K (.ref aWindow) "__repr__" = some (some (.ref fr)))
    (mWindoweq : PySem.W.findIn K (.ref aWindow) "__eq__" = some (some (.ref fE)))
    (mneWindow : PySem.W.findIn K (.ref aWindow) "__ne__" = some (some (.builtin "object.__ne__")))
    (isWindow : PySem.W.subIn K (.ref aWindow) (.ref aR) = some true)
    (ssWindow : PySem.W.subIn K (.ref aWindow) (.ref aWindow) = some true)
    (haWindow : PySem.W.findIn K (.ref aWindow) "__class__" = some (some (.builtin "object.__class__")))
    (hmWindow : PySem.W.mroIn K aWindow (.type "object") = some true)
    {aDays fDays_init : Addr}
    (a_Days : PySem.W.nsIn K mainGlobals "Days" = some (some (.ref aDays)))
    (tyDays : PySem.W.typeIn K (.ref aDays) = some (.type "type"))
    (clDays : PySem.W.isClsIn K aDays = true)
    (pgDays : PySem.W.plainGet K aDays Str.empty = true)
    (hdDays : PySem.W.hasDictIn K aDays = true)
    (poDays : PySem.W.plainOver K aDays = true)
    (saDays : PySem.W.findIn K (.ref aDays) "__setattr__" = some (some (.builtin "object.__setattr__")))
    (mkDays : PySem.W.makesIn K aDays = true)
    (kpDays : PySem.W.keepIn K (.ref aDays) = true)
    (fiDays : PySem.W.findIn K (.ref aDays) "__init__" = some (some (.ref fDays_init)))
    {cDays_init ccDays_init : Addr} {odfDays_init odcDays_init odlDays_init : Option Addr} {slfDays_init slcDays_init sllDays_init : Array (Option Value)} {ocfDays_init occDays_init oclDays_init dcDays_init pmDays_init ctDays_init : Value} {vsDays_init : Array Value} {flDays_init : Str} {tkDays_init : Tok}
    (lDays_init : K.lookup fDays_init = some ⟨ocfDays_init, odfDays_init, .func ((FDays_init ccDays_init cDays_init).fd dcDays_init pmDays_init ctDays_init), slfDays_init⟩)
    (lcDays_init : K.lookup cDays_init = some ⟨occDays_init, odcDays_init, .fields vsDays_init, slcDays_init⟩)
    (vfDays_init : vsDays_init[2]? = some (.str flDays_init tkDays_init))
    (ffDays_init : ((l.prog.main.file : Str) == flDays_init) = true)
    (llDays_init : K.lookup ccDays_init = some ⟨oclDays_init, odlDays_init, .cell (some (.ref aDays)), sllDays_init⟩)
    (cdDays_init : PySem.W.codeIn K (.ref cDays_init) "Days.__init__" = true)
    (isfDays_init : PySem.W.isFn K (.ref fDays_init) = true)
    {ocxDays : Value} {odxDays : Option Addr} {cdxDays : ClassData} {slxDays : Array (Option Value)}
    (xDays : K.lookup aDays = some ⟨ocxDays, odxDays, .cls cdxDays, slxDays⟩)
    (mrDays : PySem.W.mroIn K aDays (.ref aDays) = some true)
    (moDays : (cdxDays.mro.dropWhile (· != .ref aDays)).drop 1 = cdxR.mro)
    (nDays_text : PySem.W.findIn K (.ref aDays) "_text" = some none)
    (nDays_forms : PySem.W.findIn K (.ref aDays) "_forms" = some none)
    (nDays_period : PySem.W.findIn K (.ref aDays) "_period" = some none)
    (nDays_bend : PySem.W.findIn K (.ref aDays) "_bend" = some none)
    (nDays_borders : PySem.W.findIn K (.ref aDays) "_borders" = some none)
    (nDaysevery : PySem.W.findIn K (.ref aDays) "every" = some none)
    (mDaysforms : PySem.W.findIn K (.ref aDays) "forms" = some (some (.ref fF)))
    (mDaysperiod : PySem.W.findIn K (.ref aDays) "period" = some (some (.ref fP)))
    (mDaysbend : PySem.W.findIn K (.ref aDays) "bend" = some (some (.ref fB)))
    (mDayswritten : PySem.W.findIn K (.ref aDays) "written" = some (some (.ref fW)))
    (mDaysstr : PySem.W.findIn K (.ref aDays) "__str__" = some (some (.ref fS)))
    (mDaysrepr : PySem.W.findIn K (.ref aDays) "__repr__" = some (some (.ref fr)))
    (mDayseq : PySem.W.findIn K (.ref aDays) "__eq__" = some (some (.ref fE)))
    (mneDays : PySem.W.findIn K (.ref aDays) "__ne__" = some (some (.builtin "object.__ne__")))
    (isDays : PySem.W.subIn K (.ref aDays) (.ref aR) = some true)
    (ssDays : PySem.W.subIn K (.ref aDays) (.ref aDays) = some true)
    (haDays : PySem.W.findIn K (.ref aDays) "__class__" = some (some (.builtin "object.__class__")))
    (hmDays : PySem.W.mroIn K aDays (.type "object") = some true)
    {aLater fLater_init : Addr}
    (a_Later : PySem.W.nsIn K mainGlobals "Later" = some (some (.ref aLater)))
    (tyLater : PySem.W.typeIn K (.ref aLater) = some (.type "type"))
    (clLater : PySem.W.isClsIn K aLater = true)
    (pgLater : PySem.W.plainGet K aLater Str.empty = true)
    (hdLater : PySem.W.hasDictIn K aLater = true)
    (poLater : PySem.W.plainOver K aLater = true)
    (saLater : PySem.W.findIn K (.ref aLater) "__setattr__" = some (some (.builtin "object.__setattr__")))
    (mkLater : PySem.W.makesIn K aLater = true)
    (kpLater : PySem.W.keepIn K (.ref aLater) = true)
    (fiLater : PySem.W.findIn K (.ref aLater) "__init__" = some (some (.ref fLater_init)))
    {cLater_init ccLater_init : Addr} {odfLater_init odcLater_init odlLater_init : Option Addr} {slfLater_init slcLater_init sllLater_init : Array (Option Value)} {ocfLater_init occLater_init oclLater_init dcLater_init pmLater_init ctLater_init : Value} {vsLater_init : Array Value} {flLater_init : Str} {tkLater_init : Tok}
    (lLater_init : K.lookup fLater_init = some ⟨ocfLater_init, odfLater_init, .func ((FLater_init ccLater_init cLater_init).fd dcLater_init pmLater_init ctLater_init), slfLater_init⟩)
    (lcLater_init : K.lookup cLater_init = some ⟨occLater_init, odcLater_init, .fields vsLater_init, slcLater_init⟩)
    (vfLater_init : vsLater_init[2]? = some (.str flLater_init tkLater_init))
    (ffLater_init : ((l.prog.main.file : Str) == flLater_init) = true)
    (llLater_init : K.lookup ccLater_init = some ⟨oclLater_init, odlLater_init, .cell (some (.ref aLater)), sllLater_init⟩)
    (cdLater_init : PySem.W.codeIn K (.ref cLater_init) "Later.__init__" = true)
    (isfLater_init : PySem.W.isFn K (.ref fLater_init) = true)
    {ocxLater : Value} {odxLater : Option Addr} {cdxLater : ClassData} {slxLater : Array (Option Value)}
    (xLater : K.lookup aLater = some ⟨ocxLater, odxLater, .cls cdxLater, slxLater⟩)
    (mrLater : PySem.W.mroIn K aLater (.ref aLater) = some true)
    (moLater : (cdxLater.mro.dropWhile (· != .ref aLater)).drop 1 = cdxR.mro)
    (nLater_text : PySem.W.findIn K (.ref aLater) "_text" = some none)
    (nLater_forms : PySem.W.findIn K (.ref aLater) "_forms" = some none)
    (nLater_period : PySem.W.findIn K (.ref aLater) "_period" = some none)
    (nLater_bend : PySem.W.findIn K (.ref aLater) "_bend" = some none)
    (nLaterfirst : PySem.W.findIn K (.ref aLater) "first" = some none)
    (nLatersecond : PySem.W.findIn K (.ref aLater) "second" = some none)
    (mLaterforms : PySem.W.findIn K (.ref aLater) "forms" = some (some (.ref fF)))
    (mLaterperiod : PySem.W.findIn K (.ref aLater) "period" = some (some (.ref fP)))
    (mLaterbend : PySem.W.findIn K (.ref aLater) "bend" = some (some (.ref fB)))
    (mLaterwritten : PySem.W.findIn K (.ref aLater) "written" = some (some (.ref fW)))
    (mLaterstr : PySem.W.findIn K (.ref aLater) "__str__" = some (some (.ref fS)))
    (mLaterrepr : PySem.W.findIn K (.ref aLater) "__repr__" = some (some (.ref fr)))
    (mLatereq : PySem.W.findIn K (.ref aLater) "__eq__" = some (some (.ref fE)))
    (mneLater : PySem.W.findIn K (.ref aLater) "__ne__" = some (some (.builtin "object.__ne__")))
    (isLater : PySem.W.subIn K (.ref aLater) (.ref aR) = some true)
    (ssLater : PySem.W.subIn K (.ref aLater) (.ref aLater) = some true)
    (haLater : PySem.W.findIn K (.ref aLater) "__class__" = some (some (.builtin "object.__class__")))
    (hmLater : PySem.W.mroIn K aLater (.type "object") = some true)
    {aSooner fSooner_init : Addr}
    (a_Sooner : PySem.W.nsIn K mainGlobals "Sooner" = some (some (.ref aSooner)))
    (tySooner : PySem.W.typeIn K (.ref aSooner) = some (.type "type"))
    (clSooner : PySem.W.isClsIn K aSooner = true)
    (pgSooner : PySem.W.plainGet K aSooner Str.empty = true)
    (hdSooner : PySem.W.hasDictIn K aSooner = true)
    (poSooner : PySem.W.plainOver K aSooner = true)
    (saSooner : PySem.W.findIn K (.ref aSooner) "__setattr__" = some (some (.builtin "object.__setattr__")))
    (mkSooner : PySem.W.makesIn K aSooner = true)
    (kpSooner : PySem.W.keepIn K (.ref aSooner) = true)
    (fiSooner : PySem.W.findIn K (.ref aSooner) "__init__" = some (some (.ref fSooner_init)))
    {cSooner_init ccSooner_init : Addr} {odfSooner_init odcSooner_init odlSooner_init : Option Addr} {slfSooner_init slcSooner_init sllSooner_init : Array (Option Value)} {ocfSooner_init occSooner_init oclSooner_init dcSooner_init pmSooner_init ctSooner_init : Value} {vsSooner_init : Array Value} {flSooner_init : Str} {tkSooner_init : Tok}
    (lSooner_init : K.lookup fSooner_init = some ⟨ocfSooner_init, odfSooner_init, .func ((FSooner_init ccSooner_init cSooner_init).fd dcSooner_init pmSooner_init ctSooner_init), slfSooner_init⟩)
    (lcSooner_init : K.lookup cSooner_init = some ⟨occSooner_init, odcSooner_init, .fields vsSooner_init, slcSooner_init⟩)
    (vfSooner_init : vsSooner_init[2]? = some (.str flSooner_init tkSooner_init))
    (ffSooner_init : ((l.prog.main.file : Str) == flSooner_init) = true)
    (llSooner_init : K.lookup ccSooner_init = some ⟨oclSooner_init, odlSooner_init, .cell (some (.ref aSooner)), sllSooner_init⟩)
    (cdSooner_init : PySem.W.codeIn K (.ref cSooner_init) "Sooner.__init__" = true)
    (isfSooner_init : PySem.W.isFn K (.ref fSooner_init) = true)
    {ocxSooner : Value} {odxSooner : Option Addr} {cdxSooner : ClassData} {slxSooner : Array (Option Value)}
    (xSooner : K.lookup aSooner = some ⟨ocxSooner, odxSooner, .cls cdxSooner, slxSooner⟩)
    (mrSooner : PySem.W.mroIn K aSooner (.ref aSooner) = some true)
    (moSooner : (cdxSooner.mro.dropWhile (· != .ref aSooner)).drop 1 = cdxR.mro)
    (nSooner_text : PySem.W.findIn K (.ref aSooner) "_text" = some none)
    (nSooner_forms : PySem.W.findIn K (.ref aSooner) "_forms" = some none)
    (nSooner_period : PySem.W.findIn K (.ref aSooner) "_period" = some none)
    (nSooner_bend : PySem.W.findIn K (.ref aSooner) "_bend" = some none)
    (nSoonerfirst : PySem.W.findIn K (.ref aSooner) "first" = some none)
    (nSoonersecond : PySem.W.findIn K (.ref aSooner) "second" = some none)
    (mSoonerforms : PySem.W.findIn K (.ref aSooner) "forms" = some (some (.ref fF)))
    (mSoonerperiod : PySem.W.findIn K (.ref aSooner) "period" = some (some (.ref fP)))
    (mSoonerbend : PySem.W.findIn K (.ref aSooner) "bend" = some (some (.ref fB)))
    (mSoonerwritten : PySem.W.findIn K (.ref aSooner) "written" = some (some (.ref fW)))
    (mSoonerstr : PySem.W.findIn K (.ref aSooner) "__str__" = some (some (.ref fS)))
    (mSoonerrepr : PySem.W.findIn K (.ref aSooner) "__repr__" = some (some (.ref fr)))
    (mSoonereq : PySem.W.findIn K (.ref aSooner) "__eq__" = some (some (.ref fE)))
    (mneSooner : PySem.W.findIn K (.ref aSooner) "__ne__" = some (some (.builtin "object.__ne__")))
    (isSooner : PySem.W.subIn K (.ref aSooner) (.ref aR) = some true)
    (ssSooner : PySem.W.subIn K (.ref aSooner) (.ref aSooner) = some true)
    (haSooner : PySem.W.findIn K (.ref aSooner) "__class__" = some (some (.builtin "object.__class__")))
    (hmSooner : PySem.W.mroIn K aSooner (.type "object") = some true)
    {aNext fNext_init : Addr}
    (a_Next : PySem.W.nsIn K mainGlobals "Next" = some (some (.ref aNext)))
    (tyNext : PySem.W.typeIn K (.ref aNext) = some (.type "type"))
    (clNext : PySem.W.isClsIn K aNext = true)
    (pgNext : PySem.W.plainGet K aNext Str.empty = true)
    (hdNext : PySem.W.hasDictIn K aNext = true)
    (poNext : PySem.W.plainOver K aNext = true)
    (saNext : PySem.W.findIn K (.ref aNext) "__setattr__" = some (some (.builtin "object.__setattr__")))
    (mkNext : PySem.W.makesIn K aNext = true)
    (kpNext : PySem.W.keepIn K (.ref aNext) = true)
    (fiNext : PySem.W.findIn K (.ref aNext) "__init__" = some (some (.ref fNext_init)))
    {cNext_init ccNext_init : Addr} {odfNext_init odcNext_init odlNext_init : Option Addr} {slfNext_init slcNext_init sllNext_init : Array (Option Value)} {ocfNext_init occNext_init oclNext_init dcNext_init pmNext_init ctNext_init : Value} {vsNext_init : Array Value} {flNext_init : Str} {tkNext_init : Tok}
    (lNext_init : K.lookup fNext_init = some ⟨ocfNext_init, odfNext_init, .func ((FNext_init ccNext_init cNext_init).fd dcNext_init pmNext_init ctNext_init), slfNext_init⟩)
    (lcNext_init : K.lookup cNext_init = some ⟨occNext_init, odcNext_init, .fields vsNext_init, slcNext_init⟩)
    (vfNext_init : vsNext_init[2]? = some (.str flNext_init tkNext_init))
    (ffNext_init : ((l.prog.main.file : Str) == flNext_init) = true)
    (llNext_init : K.lookup ccNext_init = some ⟨oclNext_init, odlNext_init, .cell (some (.ref aNext)), sllNext_init⟩)
    (cdNext_init : PySem.W.codeIn K (.ref cNext_init) "Next.__init__" = true)
    (isfNext_init : PySem.W.isFn K (.ref fNext_init) = true)
    {ocxNext : Value} {odxNext : Option Addr} {cdxNext : ClassData} {slxNext : Array (Option Value)}
    (xNext : K.lookup aNext = some ⟨ocxNext, odxNext, .cls cdxNext, slxNext⟩)
    (mrNext : PySem.W.mroIn K aNext (.ref aNext) = some true)
    (moNext : (cdxNext.mro.dropWhile (· != .ref aNext)).drop 1 = cdxR.mro)
    (nNext_text : PySem.W.findIn K (.ref aNext) "_text" = some none)
    (nNext_forms : PySem.W.findIn K (.ref aNext) "_forms" = some none)
    (nNext_period : PySem.W.findIn K (.ref aNext) "_period" = some none)
    (nNext_bend : PySem.W.findIn K (.ref aNext) "_bend" = some none)
    (nNextfirst : PySem.W.findIn K (.ref aNext) "first" = some none)
    (nNextsecond : PySem.W.findIn K (.ref aNext) "second" = some none)
    (mNextforms : PySem.W.findIn K (.ref aNext) "forms" = some (some (.ref fF)))
    (mNextperiod : PySem.W.findIn K (.ref aNext) "period" = some (some (.ref fP)))
    (mNextbend : PySem.W.findIn K (.ref aNext) "bend" = some (some (.ref fB)))
    (mNextwritten : PySem.W.findIn K (.ref aNext) "written" = some (some (.ref fW)))
    (mNextstr : PySem.W.findIn K (.ref aNext) "__str__" = some (some (.ref fS)))
    (mNextrepr : PySem.W.findIn K (.ref aNext) "__repr__" = some (some (.ref fr)))
    (mNexteq : PySem.W.findIn K (.ref aNext) "__eq__" = some (some (.ref fE)))
    (mneNext : PySem.W.findIn K (.ref aNext) "__ne__" = some (some (.builtin "object.__ne__")))
    (isNext : PySem.W.subIn K (.ref aNext) (.ref aR) = some true)
    (ssNext : PySem.W.subIn K (.ref aNext) (.ref aNext) = some true)
    (haNext : PySem.W.findIn K (.ref aNext) "__class__" = some (some (.builtin "object.__class__")))
    (hmNext : PySem.W.mroIn K aNext (.type "object") = some true)
    {fDays_borders : Addr}
    (mDaysborders : PySem.W.findIn K (.ref aDays) "borders" = some (some (.ref fDays_borders)))
    {odDays_borders anDays_borders : Option Addr} {slDays_borders : Array (Option Value)} {ocDays_borders kVDays_borders dcDays_borders pmDays_borders cdDays_borders ctDays_borders : Value}
    (lDays_borders : K.lookup fDays_borders = some ⟨ocDays_borders, odDays_borders, .func (PySem.W.fnOf "borders" "Days.borders" (defArgs sDays_borders) (defBody sDays_borders) (defScope sDays_borders) .none kVDays_borders dcDays_borders pmDays_borders anDays_borders cdDays_borders ctDays_borders), slDays_borders⟩)
    (cDays_borders : PySem.W.codeIn K cdDays_borders "Days.borders" = true)
    (kDays_borders : PySem.W.keepIn K (.ref fDays_borders) = true)
    (iDays_borders : PySem.W.isFn K (.ref fDays_borders) = true)
    (sDaysWindow : PySem.W.subIn K (.ref aDays) (.ref aWindow) = some false)
    (sLaterWindow : PySem.W.subIn K (.ref aLater) (.ref aWindow) = some false)
    (sSoonerWindow : PySem.W.subIn K (.ref aSooner) (.ref aWindow) = some false)
    (sNextWindow : PySem.W.subIn K (.ref aNext) (.ref aWindow) = some false)
    (sWindowDays : PySem.W.subIn K (.ref aWindow) (.ref aDays) = some false)
    (sLaterDays : PySem.W.subIn K (.ref aLater) (.ref aDays) = some false)
    (sSoonerDays : PySem.W.subIn K (.ref aSooner) (.ref aDays) = some false)
    (sNextDays : PySem.W.subIn K (.ref aNext) (.ref aDays) = some false)
    (sWindowLater : PySem.W.subIn K (.ref aWindow) (.ref aLater) = some false)
    (sDaysLater : PySem.W.subIn K (.ref aDays) (.ref aLater) = some false)
    (sSoonerLater : PySem.W.subIn K (.ref aSooner) (.ref aLater) = some false)
    (sNextLater : PySem.W.subIn K (.ref aNext) (.ref aLater) = some false)
    (sWindowSooner : PySem.W.subIn K (.ref aWindow) (.ref aSooner) = some false)
    (sDaysSooner : PySem.W.subIn K (.ref aDays) (.ref aSooner) = some false)
    (sLaterSooner : PySem.W.subIn K (.ref aLater) (.ref aSooner) = some false)
    (sNextSooner : PySem.W.subIn K (.ref aNext) (.ref aSooner) = some false)
    (sWindowNext : PySem.W.subIn K (.ref aWindow) (.ref aNext) = some false)
    (sDaysNext : PySem.W.subIn K (.ref aDays) (.ref aNext) = some false)
    (sLaterNext : PySem.W.subIn K (.ref aLater) (.ref aNext) = some false)
    (sSoonerNext : PySem.W.subIn K (.ref aSooner) (.ref aNext) = some false)
    (sintR : PySem.W.subIn K (.type "int") (.ref aR) = some false)
    (sintWindow : PySem.W.subIn K (.type "int") (.ref aWindow) = some false)
    (sintDays : PySem.W.subIn K (.type "int") (.ref aDays) = some false)
    (sintLater : PySem.W.subIn K (.type "int") (.ref aLater) = some false)
    (sintSooner : PySem.W.subIn K (.type "int") (.ref aSooner) = some false)
    (sintNext : PySem.W.subIn K (.type "int") (.ref aNext) = some false)
    (sboolR : PySem.W.subIn K (.type "bool") (.ref aR) = some false)
    (sboolWindow : PySem.W.subIn K (.type "bool") (.ref aWindow) = some false)
    (sboolDays : PySem.W.subIn K (.type "bool") (.ref aDays) = some false)
    (sboolLater : PySem.W.subIn K (.type "bool") (.ref aLater) = some false)
    (sboolSooner : PySem.W.subIn K (.type "bool") (.ref aSooner) = some false)
    (sboolNext : PySem.W.subIn K (.type "bool") (.ref aNext) = some false)
    (sstrR : PySem.W.subIn K (.type "str") (.ref aR) = some false)
    (sstrWindow : PySem.W.subIn K (.type "str") (.ref aWindow) = some false)
    (sstrDays : PySem.W.subIn K (.type "str") (.ref aDays) = some false)
    (sstrLater : PySem.W.subIn K (.type "str") (.ref aLater) = some false)
    (sstrSooner : PySem.W.subIn K (.type "str") (.ref aSooner) = some false)
    (sstrNext : PySem.W.subIn K (.type "str") (.ref aNext) = some false)
    (sNoneTypeR : PySem.W.subIn K (.type "NoneType") (.ref aR) = some false)
    (sNoneTypeWindow : PySem.W.subIn K (.type "NoneType") (.ref aWindow) = some false)
    (sNoneTypeDays : PySem.W.subIn K (.type "NoneType") (.ref aDays) = some false)
    (sNoneTypeLater : PySem.W.subIn K (.type "NoneType") (.ref aLater) = some false)
    (sNoneTypeSooner : PySem.W.subIn K (.type "NoneType") (.ref aSooner) = some false)
    (sNoneTypeNext : PySem.W.subIn K (.type "NoneType") (.ref aNext) = some false)
    (slistR : PySem.W.subIn K (.type "list") (.ref aR) = some false)
    (slistWindow : PySem.W.subIn K (.type "list") (.ref aWindow) = some false)
    (slistDays : PySem.W.subIn K (.type "list") (.ref aDays) = some false)
    (slistLater : PySem.W.subIn K (.type "list") (.ref aLater) = some false)
    (slistSooner : PySem.W.subIn K (.type "list") (.ref aSooner) = some false)
    (slistNext : PySem.W.subIn K (.type "list") (.ref aNext) = some false)
    (stupleR : PySem.W.subIn K (.type "tuple") (.ref aR) = some false)
    (stupleWindow : PySem.W.subIn K (.type "tuple") (.ref aWindow) = some false)
    (stupleDays : PySem.W.subIn K (.type "tuple") (.ref aDays) = some false)
    (stupleLater : PySem.W.subIn K (.type "tuple") (.ref aLater) = some false)
    (stupleSooner : PySem.W.subIn K (.type "tuple") (.ref aSooner) = some false)
    (stupleNext : PySem.W.subIn K (.type "tuple") (.ref aNext) = some false)
    (sdictR : PySem.W.subIn K (.type "dict") (.ref aR) = some false)
    (sdictWindow : PySem.W.subIn K (.type "dict") (.ref aWindow) = some false)
    (sdictDays : PySem.W.subIn K (.type "dict") (.ref aDays) = some false)
    (sdictLater : PySem.W.subIn K (.type "dict") (.ref aLater) = some false)
    (sdictSooner : PySem.W.subIn K (.type "dict") (.ref aSooner) = some false)
    (sdictNext : PySem.W.subIn K (.type "dict") (.ref aNext) = some false)
    (hn : PySem.W.specialIn K (.builtin "object.__class__") "__get__" = some (some (.builtin "getset_descriptor.__get__")))
    (ht : PySem.W.takesIn K (.builtin "object.__class__") = some true)
    (xlcm : PySem.W.nsIn K mainGlobals "lcm" = some (some (.builtin "math.lcm")))
    {aInvalidNumber : Addr}
    (a_InvalidNumber : PySem.W.nsIn K mainGlobals "InvalidNumber" = some (some (.ref aInvalidNumber)))
    {nmInvalidNumber qInvalidNumber : Str} {NEInvalidNumber SEInvalidNumber : Addr} {bsInvalidNumber : List Value} {snInvalidNumber : List Str} {subInvalidNumber : List Value} {abInvalidNumber : Bool} {colInvalidNumber : Option Bool} {ddInvalidNumber : Option Addr} {m0InvalidNumber m1InvalidNumber m2InvalidNumber m3InvalidNumber m5InvalidNumber : Option Value} {fInvalidNumber_init : Addr}
    (xInvalidNumber : K.lookup aInvalidNumber = some (excClassObj nmInvalidNumber qInvalidNumber aInvalidNumber NEInvalidNumber bsInvalidNumber [.ref SEInvalidNumber, .type "ValueError", .type "Exception", .type "BaseException", .type "object"] true snInvalidNumber subInvalidNumber abInvalidNumber colInvalidNumber ddInvalidNumber m0InvalidNumber m1InvalidNumber m2InvalidNumber m3InvalidNumber m5InvalidNumber "ValueError.__new__"))
    (saInvalidNumber : PySem.W.findIn K (.ref aInvalidNumber) "__setattr__" = some (some (.builtin "object.__setattr__")))
    (exInvalidNumber : PySem.W.subIn K (.ref aInvalidNumber) (.type "BaseException") = some true)
    (tyInvalidNumber : PySem.W.typeIn K (.ref aInvalidNumber) = some (.type "type"))
    (kpInvalidNumber : PySem.W.keepIn K (.ref aInvalidNumber) = true)
    (inInvalidNumber : PySem.W.findIn K (.ref aInvalidNumber) "__init__" = some (some (.ref fInvalidNumber_init)))
    (tiInvalidNumber : PySem.W.typeIn K (.ref fInvalidNumber_init) = some (.type "function"))
    (gaInvalidNumber : PySem.W.findIn K (.ref aInvalidNumber) "__getattribute__" = some (some (.builtin "BaseException.__getattribute__")))
    (ggInvalidNumber : PySem.W.findIn K (.ref aInvalidNumber) "__getattr__" = some none)
    (hdInvalidNumber : PySem.W.hasDictIn K aInvalidNumber = true)
    (clInvalidNumber : PySem.W.isClsIn K aInvalidNumber = true)
    (ssInvalidNumber : PySem.W.subIn K (.ref aInvalidNumber) (.ref aInvalidNumber) = some true)
    (nvalueInvalidNumber : PySem.W.findIn K (.ref aInvalidNumber) "value" = some none)
    (ncodeInvalidNumber : PySem.W.findIn K (.ref aInvalidNumber) "code" = some none)
    {odInvalidNumber_init anInvalidNumber_init : Option Addr} {slInvalidNumber_init : Array (Option Value)} {ocInvalidNumber_init kVInvalidNumber_init dcInvalidNumber_init pmInvalidNumber_init cdInvalidNumber_init ctInvalidNumber_init : Value}
    (lInvalidNumber_init : K.lookup fInvalidNumber_init = some ⟨ocInvalidNumber_init, odInvalidNumber_init, .func (PySem.W.fnOf "__init__" "InvalidNumber.__init__" (defArgs sInvalidNumber_init) (defBody sInvalidNumber_init) (defScope sInvalidNumber_init) .none kVInvalidNumber_init dcInvalidNumber_init pmInvalidNumber_init anInvalidNumber_init cdInvalidNumber_init ctInvalidNumber_init), slInvalidNumber_init⟩)
    (cInvalidNumber_init : PySem.W.codeIn K cdInvalidNumber_init "InvalidNumber.__init__" = true)
    (kInvalidNumber_init : PySem.W.keepIn K (.ref fInvalidNumber_init) = true)
    (iInvalidNumber_init : PySem.W.isFn K (.ref fInvalidNumber_init) = true)
    {aInvalidBorders : Addr}
    (a_InvalidBorders : PySem.W.nsIn K mainGlobals "InvalidBorders" = some (some (.ref aInvalidBorders)))
    {nmInvalidBorders qInvalidBorders : Str} {NEInvalidBorders SEInvalidBorders : Addr} {bsInvalidBorders : List Value} {snInvalidBorders : List Str} {subInvalidBorders : List Value} {abInvalidBorders : Bool} {colInvalidBorders : Option Bool} {ddInvalidBorders : Option Addr} {m0InvalidBorders m1InvalidBorders m2InvalidBorders m3InvalidBorders m5InvalidBorders : Option Value} {fInvalidBorders_init : Addr}
    (xInvalidBorders : K.lookup aInvalidBorders = some (excClassObj nmInvalidBorders qInvalidBorders aInvalidBorders NEInvalidBorders bsInvalidBorders [.ref SEInvalidBorders, .type "ValueError", .type "Exception", .type "BaseException", .type "object"] true snInvalidBorders subInvalidBorders abInvalidBorders colInvalidBorders ddInvalidBorders m0InvalidBorders m1InvalidBorders m2InvalidBorders m3InvalidBorders m5InvalidBorders "ValueError.__new__"))
    (saInvalidBorders : PySem.W.findIn K (.ref aInvalidBorders) "__setattr__" = some (some (.builtin "object.__setattr__")))
    (exInvalidBorders : PySem.W.subIn K (.ref aInvalidBorders) (.type "BaseException") = some true)
    (tyInvalidBorders : PySem.W.typeIn K (.ref aInvalidBorders) = some (.type "type"))
    (kpInvalidBorders : PySem.W.keepIn K (.ref aInvalidBorders) = true)
    (inInvalidBorders : PySem.W.findIn K (.ref aInvalidBorders) "__init__" = some (some (.ref fInvalidBorders_init)))
    (tiInvalidBorders : PySem.W.typeIn K (.ref fInvalidBorders_init) = some (.type "function"))
    (gaInvalidBorders : PySem.W.findIn K (.ref aInvalidBorders) "__getattribute__" = some (some (.builtin "BaseException.__getattribute__")))
    (ggInvalidBorders : PySem.W.findIn K (.ref aInvalidBorders) "__getattr__" = some none)
    (hdInvalidBorders : PySem.W.hasDictIn K aInvalidBorders = true)
    (clInvalidBorders : PySem.W.isClsIn K aInvalidBorders = true)
    (ssInvalidBorders : PySem.W.subIn K (.ref aInvalidBorders) (.ref aInvalidBorders) = some true)
    (natInvalidBorders : PySem.W.findIn K (.ref aInvalidBorders) "at" = some none)
    (ncodeInvalidBorders : PySem.W.findIn K (.ref aInvalidBorders) "code" = some none)
    {odInvalidBorders_init anInvalidBorders_init : Option Addr} {slInvalidBorders_init : Array (Option Value)} {ocInvalidBorders_init kVInvalidBorders_init dcInvalidBorders_init pmInvalidBorders_init cdInvalidBorders_init ctInvalidBorders_init : Value}
    (lInvalidBorders_init : K.lookup fInvalidBorders_init = some ⟨ocInvalidBorders_init, odInvalidBorders_init, .func (PySem.W.fnOf "__init__" "InvalidBorders.__init__" (defArgs sInvalidBorders_init) (defBody sInvalidBorders_init) (defScope sInvalidBorders_init) .none kVInvalidBorders_init dcInvalidBorders_init pmInvalidBorders_init anInvalidBorders_init cdInvalidBorders_init ctInvalidBorders_init), slInvalidBorders_init⟩)
    (cInvalidBorders_init : PySem.W.codeIn K cdInvalidBorders_init "InvalidBorders.__init__" = true)
    (kInvalidBorders_init : PySem.W.keepIn K (.ref fInvalidBorders_init) = true)
    (iInvalidBorders_init : PySem.W.isFn K (.ref fInvalidBorders_init) = true)
    {aInvalidRest : Addr}
    (a_InvalidRest : PySem.W.nsIn K mainGlobals "InvalidRest" = some (some (.ref aInvalidRest)))
    {nmInvalidRest qInvalidRest : Str} {NEInvalidRest SEInvalidRest : Addr} {bsInvalidRest : List Value} {snInvalidRest : List Str} {subInvalidRest : List Value} {abInvalidRest : Bool} {colInvalidRest : Option Bool} {ddInvalidRest : Option Addr} {m0InvalidRest m1InvalidRest m2InvalidRest m3InvalidRest m5InvalidRest : Option Value} {fInvalidRest_init : Addr}
    (xInvalidRest : K.lookup aInvalidRest = some (excClassObj nmInvalidRest qInvalidRest aInvalidRest NEInvalidRest bsInvalidRest [.ref SEInvalidRest, .type "ValueError", .type "Exception", .type "BaseException", .type "object"] true snInvalidRest subInvalidRest abInvalidRest colInvalidRest ddInvalidRest m0InvalidRest m1InvalidRest m2InvalidRest m3InvalidRest m5InvalidRest "ValueError.__new__"))
    (saInvalidRest : PySem.W.findIn K (.ref aInvalidRest) "__setattr__" = some (some (.builtin "object.__setattr__")))
    (exInvalidRest : PySem.W.subIn K (.ref aInvalidRest) (.type "BaseException") = some true)
    (tyInvalidRest : PySem.W.typeIn K (.ref aInvalidRest) = some (.type "type"))
    (kpInvalidRest : PySem.W.keepIn K (.ref aInvalidRest) = true)
    (inInvalidRest : PySem.W.findIn K (.ref aInvalidRest) "__init__" = some (some (.ref fInvalidRest_init)))
    (tiInvalidRest : PySem.W.typeIn K (.ref fInvalidRest_init) = some (.type "function"))
    (gaInvalidRest : PySem.W.findIn K (.ref aInvalidRest) "__getattribute__" = some (some (.builtin "BaseException.__getattribute__")))
    (ggInvalidRest : PySem.W.findIn K (.ref aInvalidRest) "__getattr__" = some none)
    (hdInvalidRest : PySem.W.hasDictIn K aInvalidRest = true)
    (clInvalidRest : PySem.W.isClsIn K aInvalidRest = true)
    (ssInvalidRest : PySem.W.subIn K (.ref aInvalidRest) (.ref aInvalidRest) = some true)
    (nvalueInvalidRest : PySem.W.findIn K (.ref aInvalidRest) "value" = some none)
    (ncodeInvalidRest : PySem.W.findIn K (.ref aInvalidRest) "code" = some none)
    {odInvalidRest_init anInvalidRest_init : Option Addr} {slInvalidRest_init : Array (Option Value)} {ocInvalidRest_init kVInvalidRest_init dcInvalidRest_init pmInvalidRest_init cdInvalidRest_init ctInvalidRest_init : Value}
    (lInvalidRest_init : K.lookup fInvalidRest_init = some ⟨ocInvalidRest_init, odInvalidRest_init, .func (PySem.W.fnOf "__init__" "InvalidRest.__init__" (defArgs sInvalidRest_init) (defBody sInvalidRest_init) (defScope sInvalidRest_init) .none kVInvalidRest_init dcInvalidRest_init pmInvalidRest_init anInvalidRest_init cdInvalidRest_init ctInvalidRest_init), slInvalidRest_init⟩)
    (cInvalidRest_init : PySem.W.codeIn K cdInvalidRest_init "InvalidRest.__init__" = true)
    (kInvalidRest_init : PySem.W.keepIn K (.ref fInvalidRest_init) = true)
    (iInvalidRest_init : PySem.W.isFn K (.ref fInvalidRest_init) = true)
    {aTooMany : Addr}
    (a_TooMany : PySem.W.nsIn K mainGlobals "TooMany" = some (some (.ref aTooMany)))
    {nmTooMany qTooMany : Str} {NETooMany SETooMany : Addr} {bsTooMany : List Value} {snTooMany : List Str} {subTooMany : List Value} {abTooMany : Bool} {colTooMany : Option Bool} {ddTooMany : Option Addr} {m0TooMany m1TooMany m2TooMany m3TooMany m5TooMany : Option Value} {fTooMany_init : Addr}
    (xTooMany : K.lookup aTooMany = some (excClassObj nmTooMany qTooMany aTooMany NETooMany bsTooMany [.ref SETooMany, .type "ValueError", .type "Exception", .type "BaseException", .type "object"] true snTooMany subTooMany abTooMany colTooMany ddTooMany m0TooMany m1TooMany m2TooMany m3TooMany m5TooMany "ValueError.__new__"))
    (saTooMany : PySem.W.findIn K (.ref aTooMany) "__setattr__" = some (some (.builtin "object.__setattr__")))
    (exTooMany : PySem.W.subIn K (.ref aTooMany) (.type "BaseException") = some true)
    (tyTooMany : PySem.W.typeIn K (.ref aTooMany) = some (.type "type"))
    (kpTooMany : PySem.W.keepIn K (.ref aTooMany) = true)
    (inTooMany : PySem.W.findIn K (.ref aTooMany) "__init__" = some (some (.ref fTooMany_init)))
    (tiTooMany : PySem.W.typeIn K (.ref fTooMany_init) = some (.type "function"))
    (gaTooMany : PySem.W.findIn K (.ref aTooMany) "__getattribute__" = some (some (.builtin "BaseException.__getattribute__")))
    (ggTooMany : PySem.W.findIn K (.ref aTooMany) "__getattr__" = some none)
    (hdTooMany : PySem.W.hasDictIn K aTooMany = true)
    (clTooMany : PySem.W.isClsIn K aTooMany = true)
    (ssTooMany : PySem.W.subIn K (.ref aTooMany) (.ref aTooMany) = some true)
    (nwhatTooMany : PySem.W.findIn K (.ref aTooMany) "what" = some none)
    (ncountTooMany : PySem.W.findIn K (.ref aTooMany) "count" = some none)
    (ncodeTooMany : PySem.W.findIn K (.ref aTooMany) "code" = some none)
    {odTooMany_init anTooMany_init : Option Addr} {slTooMany_init : Array (Option Value)} {ocTooMany_init kVTooMany_init dcTooMany_init pmTooMany_init cdTooMany_init ctTooMany_init : Value}
    (lTooMany_init : K.lookup fTooMany_init = some ⟨ocTooMany_init, odTooMany_init, .func (PySem.W.fnOf "__init__" "TooMany.__init__" (defArgs sTooMany_init) (defBody sTooMany_init) (defScope sTooMany_init) .none kVTooMany_init dcTooMany_init pmTooMany_init anTooMany_init cdTooMany_init ctTooMany_init), slTooMany_init⟩)
    (cTooMany_init : PySem.W.codeIn K cdTooMany_init "TooMany.__init__" = true)
    (kTooMany_init : PySem.W.keepIn K (.ref fTooMany_init) = true)
    (iTooMany_init : PySem.W.isFn K (.ref fTooMany_init) = true)
    (eBN : PySem.W.subIn K (.ref aInvalidBorders) (.ref aInvalidNumber) = some false)
    (eRN : PySem.W.subIn K (.ref aInvalidRest) (.ref aInvalidNumber) = some false)
    (eRB : PySem.W.subIn K (.ref aInvalidRest) (.ref aInvalidBorders) = some false)
    (eTN : PySem.W.subIn K (.ref aTooMany) (.ref aInvalidNumber) = some false)
    (eTB : PySem.W.subIn K (.ref aTooMany) (.ref aInvalidBorders) = some false)
    (eTR : PySem.W.subIn K (.ref aTooMany) (.ref aInvalidRest) = some false)
    {aSE : Addr}
    (aSure : PySem.W.nsIn K mainGlobals "SureletError" = some (some (.ref aSE)))
    (npt : (ptwindow == ptdays) = false ∧ (ptwindow == ptunder) = false ∧ (ptdays == ptunder) = false)
    (own : ∀ nm : Str, (nm = "_law_window" ∨ nm = "_law_days" ∨ nm = "_law_under") → ∀ fb, mg nm = some (.ref fb) → LamX.OwnTab K fb h) :
    LamX.LawAtS l w K CX0 12 63 "_law_script" mg fa h := by
  have e := hfa.symm.trans (PySem.W.mg_of X G alaw)
  cases e
  have T : Txt K mg := ⟨PySem.W.mg_none_of X G zall, PySem.W.mg_none_of X G zbool, PySem.W.mg_none_of X G zdict, PySem.W.mg_none_of X G zenumerate, PySem.W.mg_none_of X G zint, PySem.W.mg_none_of X G zisinstance, PySem.W.mg_none_of X G zlen, PySem.W.mg_none_of X G zlist, PySem.W.mg_none_of X G zmax, PySem.W.mg_none_of X G zrange, PySem.W.mg_none_of X G zrepr, PySem.W.mg_none_of X G zstr, PySem.W.mg_none_of X G zsuper, PySem.W.mg_none_of X G ztuple, PySem.W.mg_none_of X G zzip, ⟨_, PySem.W.mg_of X G yMOST_BORDERS⟩, ⟨_, PySem.W.mg_of X G yMOST_FORMS⟩, ⟨_, PySem.W.mg_of X G yMOST_PERIOD⟩, ⟨_, PySem.W.mg_of X G yMOST_SIZE⟩⟩
  have Fcheck_count := fun_mk (st := scheck_count) lcheck_count ccheck_count kcheck_count
  have Dcheck_count : Def K mg "check_count" scheck_count Pcheck_count _ _ := ⟨Fcheck_count, PySem.W.mg_of X G acheck_count, Fcheck_count.binds (ps := Pcheck_count) fun _ _ _ _ _ _ us hl => match us, hl with | [_, _, _], _ => rfl⟩
  have Fis_whole := fun_mk (st := sis_whole) lis_whole cis_whole kis_whole
  have Dis_whole : Def K mg "is_whole" sis_whole Pis_whole _ _ := ⟨Fis_whole, PySem.W.mg_of X G ais_whole, Fis_whole.binds (ps := Pis_whole) fun _ _ _ _ _ _ us hl => match us, hl with | [_], _ => rfl⟩
  have Fis_number := fun_mk (st := sis_number) lis_number cis_number kis_number
  have Dis_number : Def K mg "is_number" sis_number Pis_number _ _ := ⟨Fis_number, PySem.W.mg_of X G ais_number, Fis_number.binds (ps := Pis_number) fun _ _ _ _ _ _ us hl => match us, hl with | [_, _, _], _ => rfl⟩
  have Fcheck_borders := fun_mk (st := scheck_borders) lcheck_borders ccheck_borders kcheck_borders
  have Dcheck_borders : Def K mg "check_borders" scheck_borders Pcheck_borders _ _ := ⟨Fcheck_borders, PySem.W.mg_of X G acheck_borders, Fcheck_borders.binds (ps := Pcheck_borders) fun _ _ _ _ _ _ us hl => match us, hl with | [_], _ => rfl⟩
  have Fcommon_period := fun_mk (st := scommon_period) lcommon_period ccommon_period kcommon_period
  have Dcommon_period : Def K mg "common_period" scommon_period Pcommon_period _ _ := ⟨Fcommon_period, PySem.W.mg_of X G acommon_period, Fcommon_period.binds (ps := Pcommon_period) fun _ _ _ _ _ _ us hl => match us, hl with | [_, _], _ => rfl⟩
  have Fpair_facts := fun_mk (st := spair_facts) lpair_facts cpair_facts kpair_facts
  have Dpair_facts : Def K mg "pair_facts" spair_facts Ppair_facts _ _ := ⟨Fpair_facts, PySem.W.mg_of X G apair_facts, Fpair_facts.binds (ps := Ppair_facts) fun _ _ _ _ _ _ us hl => match us, hl with | [_, _, _], _ => rfl⟩
  have Fbag := fun_mk (st := sbag) lbag cbag kbag
  have Dbag : Def K mg "_law_bag" sbag Pbag _ _ := ⟨Fbag, PySem.W.mg_of X G abag, Fbag.binds (ps := Pbag) fun _ _ _ _ _ _ us hl => match us, hl with | [_], _ => rfl⟩
  have Fdraw := fun_mk (st := sdraw) ldraw cdraw kdraw
  have Ddraw : Def K mg "_law_draw" sdraw Pdraw _ _ := ⟨Fdraw, PySem.W.mg_of X G adraw, Fdraw.binds (ps := Pdraw) fun _ _ _ _ _ _ us hl => match us, hl with | [_, _], _ => rfl⟩
  have Fof := fun_mk (st := sof) lof cof kof
  have Dof : Def K mg "_law_of" sof Pof _ _ := ⟨Fof, PySem.W.mg_of X G aof, Fof.binds (ps := Pof) fun _ _ _ _ _ _ us hl => match us, hl with | [_, _], _ => rfl⟩
  have Flike := fun_mk (st := slike) llike clike klike
  have Dlike : Def K mg "_law_like" slike Plike _ _ := ⟨Flike, PySem.W.mg_of X G alike, Flike.binds (ps := Plike) fun _ _ _ _ _ _ us hl => match us, hl with | [_, _], _ => rfl⟩
  have Fodd := fun_mk (st := sodd) lodd codd kodd
  have Dodd : Def K mg "_law_odd" sodd Podd _ _ := ⟨Fodd, PySem.W.mg_of X G aodd, Fodd.binds (ps := Podd) fun _ _ _ _ _ _ us hl => match us, hl with | [_], _ => rfl⟩
  have Flcm := fun_mk (st := slcm) llcm clcm klcm
  have Dlcm : Def K mg "_law_lcm" slcm Plcm _ _ := ⟨Flcm, PySem.W.mg_of X G alcm, Flcm.binds (ps := Plcm) fun _ _ _ _ _ _ us hl => match us, hl with | [_, _], _ => rfl⟩
  have Ftext := fun_mk (st := stext) ltext ctext ktext
  have Dtext : Def K mg "_law_text" stext Ptext _ _ := ⟨Ftext, PySem.W.mg_of X G atext, Ftext.binds (ps := Ptext) fun _ _ _ _ _ _ us hl => match us, hl with | [_], _ => rfl⟩
  have Ffacts := fun_mk (st := sfacts) lfacts cfacts kfacts
  have Dfacts : Def K mg "_law_facts" sfacts Pfacts _ _ := ⟨Ffacts, PySem.W.mg_of X G afacts, Ffacts.binds (ps := Pfacts) fun _ _ _ _ _ _ us hl => match us, hl with | [_], _ => rfl⟩
  have Fask := fun_mk (st := sask) lask cask kask
  have Dask : Def K mg "_law_ask" sask Pask _ _ := ⟨Fask, PySem.W.mg_of X G aask, Fask.binds (ps := Pask) fun _ _ _ _ _ _ us hl => match us, hl with | [_], _ => rfl⟩
  have Fin := fun_mk (st := sin) lin cin kin
  have Din : Def K mg "_law_in" sin Pin _ _ := ⟨Fin, PySem.W.mg_of X G ain, Fin.binds (ps := Pin) fun _ _ _ _ _ _ us hl => match us, hl with | [_, _, _], _ => rfl⟩
  have Fnumber := fun_mk (st := snumber) lnumber cnumber knumber
  have Dnumber : Def K mg "_law_number" snumber Pnumber _ _ := ⟨Fnumber, PySem.W.mg_of X G anumber, Fnumber.binds (ps := Pnumber) fun _ _ _ _ _ _ us hl => match us, hl with | [_, _], _ => rfl⟩
  have Fborders := fun_mk (st := sborders) lborders cborders kborders
  have Dborders : Def K mg "_law_borders" sborders Pborders _ _ := ⟨Fborders, PySem.W.mg_of X G aborders, Fborders.binds (ps := Pborders) fun _ _ _ _ _ _ us hl => match us, hl with | [_], _ => rfl⟩
  have Fdays_due := fun_mk (st := sdays_due) ldays_due cdays_due kdays_due
  have Ddays_due : Def K mg "_law_days_due" sdays_due Pdays_due _ _ := ⟨Fdays_due, PySem.W.mg_of X G adays_due, Fdays_due.binds (ps := Pdays_due) fun _ _ _ _ _ _ us hl => match us, hl with | [_, _], _ => rfl⟩
  have Fwindow := fun_mk (st := swindow) lwindow cwindow kwindow
  have Dwindow : Def K mg "_law_window" swindow Pwindow _ _ := ⟨Fwindow, PySem.W.mg_of X G awindow, Fwindow.binds (ps := Pwindow) fun _ _ _ _ _ _ us hl => match us, hl with | [_, _], _ => rfl⟩
  have Fdays := fun_mk (st := sdays) ldays cdays kdays
  have Ddays : Def K mg "_law_days" sdays Pdays _ _ := ⟨Fdays, PySem.W.mg_of X G adays, Fdays.binds (ps := Pdays) fun _ _ _ _ _ _ us hl => match us, hl with | [_, _], _ => rfl⟩
  have Fpair := fun_mk (st := spair) lpair cpair kpair
  have Dpair : Def K mg "_law_pair" spair Ppair _ _ := ⟨Fpair, PySem.W.mg_of X G apair, Fpair.binds (ps := Ppair) fun _ _ _ _ _ _ us hl => match us, hl with | [_, _, _, _], _ => rfl⟩
  have Fpair_due := fun_mk (st := spair_due) lpair_due cpair_due kpair_due
  have Dpair_due : Def K mg "_law_pair_due" spair_due Ppair_due _ _ := ⟨Fpair_due, PySem.W.mg_of X G apair_due, Fpair_due.binds (ps := Ppair_due) fun _ _ _ _ _ _ us hl => match us, hl with | [_, _], _ => rfl⟩
  have Fclass_so := fun_mk (st := sclass_so) lclass_so cclass_so kclass_so
  have Dclass_so : Def K mg "_law_class_so" sclass_so Pclass_so _ _ := ⟨Fclass_so, PySem.W.mg_of X G aclass_so, Fclass_so.binds (ps := Pclass_so) fun _ _ _ _ _ _ us hl => match us, hl with | [_, _], _ => rfl⟩
  have Funder := fun_mk (st := sunder) lunder cunder kunder
  have Dunder : Def K mg "_law_under" sunder Punder _ _ := ⟨Funder, PySem.W.mg_of X G aunder, Funder.binds (ps := Punder) fun _ _ _ _ _ _ us hl => match us, hl with | [_, _], _ => rfl⟩
  have Ftold_so := fun_mk (st := stold_so) ltold_so ctold_so ktold_so
  have Dtold_so : Def K mg "_law_told_so" stold_so Ptold_so _ _ := ⟨Ftold_so, PySem.W.mg_of X G atold_so, Ftold_so.binds (ps := Ptold_so) fun _ _ _ _ _ _ us hl => match us, hl with | [_, _], _ => rfl⟩
  have Fequal_so := fun_mk (st := sequal_so) lequal_so cequal_so kequal_so
  have Dequal_so : Def K mg "_law_equal_so" sequal_so Pequal_so _ _ := ⟨Fequal_so, PySem.W.mg_of X G aequal_so, Fequal_so.binds (ps := Pequal_so) fun _ _ _ _ _ _ us hl => match us, hl with | [_, _], _ => rfl⟩
  have Flaw := fun_mk (st := slaw) llaw claw klaw
  have Dlaw : Def K mg "law" slaw Plaw _ _ := ⟨Flaw, PySem.W.mg_of X G alaw, Flaw.binds (ps := Plaw) fun _ _ _ _ _ _ us hl => match us, hl with | [_], _ => rfl⟩
  let a : Ad := ⟨aR, aWindow, aDays, aLater, aSooner, aNext, fRi, fF, fP, fB, fW, fS, fr, fE, fDays_borders, fWindow_init, fDays_init, fLater_init, fSooner_init, fNext_init⟩
  let ce : Ce := ⟨aInvalidNumber, aInvalidBorders, aInvalidRest, aTooMany⟩
  have nftWindow : ∀ t : String, t ∈ ["int", "bool", "str", "NoneType", "list", "tuple", "dict"] → PySem.W.notFirst K aWindow (.type t) = true := fun t ht => by
    simp only [List.mem_cons, List.not_mem_nil, or_false] at ht
    rcases ht with rfl | rfl | rfl | rfl | rfl | rfl | rfl
    · exact LE2.nf_of sintWindow
    · exact LE2.nf_of sboolWindow
    · exact LE2.nf_of sstrWindow
    · exact LE2.nf_of sNoneTypeWindow
    · exact LE2.nf_of slistWindow
    · exact LE2.nf_of stupleWindow
    · exact LE2.nf_of sdictWindow
  have rcWindow : RC K a aWindow := ⟨⟨pgWindow, hdWindow, poWindow, saWindow⟩, nWindow_text, nWindow_forms, nWindow_period, nWindow_bend, ⟨mWindowforms, iRest_forms, kRest_forms⟩, ⟨mWindowperiod, iRest_period, kRest_period⟩, ⟨mWindowbend, iRest_bend, kRest_bend⟩, ⟨mWindowwritten, iRest_written, kRest_written⟩, LS.kit_own xRest tyR isWindow, LE2.kit_ref clWindow tyWindow ssWindow ssWindow, haWindow, hn, ht, hmWindow, mWindowstr, iRest_str, mWindowrepr, iRest_repr, mWindoweq, iRest_eq, mneWindow, nftWindow⟩
  have nftDays : ∀ t : String, t ∈ ["int", "bool", "str", "NoneType", "list", "tuple", "dict"] → PySem.W.notFirst K aDays (.type t) = true := fun t ht => by
    simp only [List.mem_cons, List.not_mem_nil, or_false] at ht
    rcases ht with rfl | rfl | rfl | rfl | rfl | rfl | rfl
    · exact LE2.nf_of sintDays
    · exact LE2.nf_of sboolDays
    · exact LE2.nf_of sstrDays
    · exact LE2.nf_of sNoneTypeDays
    · exact LE2.nf_of slistDays
    · exact LE2.nf_of stupleDays
    · exact LE2.nf_of sdictDays
  have rcDays : RC K a aDays := ⟨⟨pgDays, hdDays, poDays, saDays⟩, nDays_text, nDays_forms, nDays_period, nDays_bend, ⟨mDaysforms, iRest_forms, kRest_forms⟩, ⟨mDaysperiod, iRest_period, kRest_period⟩, ⟨mDaysbend, iRest_bend, kRest_bend⟩, ⟨mDayswritten, iRest_written, kRest_written⟩, LS.kit_own xRest tyR isDays, LE2.kit_ref clDays tyDays ssDays ssDays, haDays, hn, ht, hmDays, mDaysstr, iRest_str, mDaysrepr, iRest_repr, mDayseq, iRest_eq, mneDays, nftDays⟩
  have nftLater : ∀ t : String, t ∈ ["int", "bool", "str", "NoneType", "list", "tuple", "dict"] → PySem.W.notFirst K aLater (.type t) = true := fun t ht => by
    simp only [List.mem_cons, List.not_mem_nil, or_false] at ht
    rcases ht with rfl | rfl | rfl | rfl | rfl | rfl | rfl
    · exact LE2.nf_of sintLater
    · exact LE2.nf_of sboolLater
    · exact LE2.nf_of sstrLater
    · exact LE2.nf_of sNoneTypeLater
    · exact LE2.nf_of slistLater
    · exact LE2.nf_of stupleLater
    · exact LE2.nf_of sdictLater
  have rcLater : RC K a aLater := ⟨⟨pgLater, hdLater, poLater, saLater⟩, nLater_text, nLater_forms, nLater_period, nLater_bend, ⟨mLaterforms, iRest_forms, kRest_forms⟩, ⟨mLaterperiod, iRest_period, kRest_period⟩, ⟨mLaterbend, iRest_bend, kRest_bend⟩, ⟨mLaterwritten, iRest_written, kRest_written⟩, LS.kit_own xRest tyR isLater, LE2.kit_ref clLater tyLater ssLater ssLater, haLater, hn, ht, hmLater, mLaterstr, iRest_str, mLaterrepr, iRest_repr, mLatereq, iRest_eq, mneLater, nftLater⟩
  have nftSooner : ∀ t : String, t ∈ ["int", "bool", "str", "NoneType", "list", "tuple", "dict"] → PySem.W.notFirst K aSooner (.type t) = true := fun t ht => by
    simp only [List.mem_cons, List.not_mem_nil, or_false] at ht
    rcases ht with rfl | rfl | rfl | rfl | rfl | rfl | rfl
    · exact LE2.nf_of sintSooner
    · exact LE2.nf_of sboolSooner
    · exact LE2.nf_of sstrSooner
    · exact LE2.nf_of sNoneTypeSooner
    · exact LE2.nf_of slistSooner
    · exact LE2.nf_of stupleSooner
    · exact LE2.nf_of sdictSooner
  have rcSooner : RC K a aSooner := ⟨⟨pgSooner, hdSooner, poSooner, saSooner⟩, nSooner_text, nSooner_forms, nSooner_period, nSooner_bend, ⟨mSoonerforms, iRest_forms, kRest_forms⟩, ⟨mSoonerperiod, iRest_period, kRest_period⟩, ⟨mSoonerbend, iRest_bend, kRest_bend⟩, ⟨mSoonerwritten, iRest_written, kRest_written⟩, LS.kit_own xRest tyR isSooner, LE2.kit_ref clSooner tySooner ssSooner ssSooner, haSooner, hn, ht, hmSooner, mSoonerstr, iRest_str, mSoonerrepr, iRest_repr, mSoonereq, iRest_eq, mneSooner, nftSooner⟩
  have nftNext : ∀ t : String, t ∈ ["int", "bool", "str", "NoneType", "list", "tuple", "dict"] → PySem.W.notFirst K aNext (.type t) = true := fun t ht => by
    simp only [List.mem_cons, List.not_mem_nil, or_false] at ht
    rcases ht with rfl | rfl | rfl | rfl | rfl | rfl | rfl
    · exact LE2.nf_of sintNext
    · exact LE2.nf_of sboolNext
    · exact LE2.nf_of sstrNext
    · exact LE2.nf_of sNoneTypeNext
    · exact LE2.nf_of slistNext
    · exact LE2.nf_of stupleNext
    · exact LE2.nf_of sdictNext
  have rcNext : RC K a aNext := ⟨⟨pgNext, hdNext, poNext, saNext⟩, nNext_text, nNext_forms, nNext_period, nNext_bend, ⟨mNextforms, iRest_forms, kRest_forms⟩, ⟨mNextperiod, iRest_period, kRest_period⟩, ⟨mNextbend, iRest_bend, kRest_bend⟩, ⟨mNextwritten, iRest_written, kRest_written⟩, LS.kit_own xRest tyR isNext, LE2.kit_ref clNext tyNext ssNext ssNext, haNext, hn, ht, hmNext, mNextstr, iRest_str, mNextrepr, iRest_repr, mNexteq, iRest_eq, mneNext, nftNext⟩
  have kOdd : ∀ t : String, t ∈ ["int", "bool", "str", "NoneType", "list", "tuple", "dict"] → PySem.W.kitOne K (.type t) (.ref aR) = some false := fun t ht => by
    simp only [List.mem_cons, List.not_mem_nil, or_false] at ht
    rcases ht with rfl | rfl | rfl | rfl | rfl | rfl | rfl
    · exact LE2.kit_tyF clR tyR sintR
    · exact LE2.kit_tyF clR tyR sboolR
    · exact LE2.kit_tyF clR tyR sstrR
    · exact LE2.kit_tyF clR tyR sNoneTypeR
    · exact LE2.kit_tyF clR tyR slistR
    · exact LE2.kit_tyF clR tyR stupleR
    · exact LE2.kit_tyF clR tyR sdictR
  have nfC : ∀ C C' : Addr, isC a C → isC a C' → PySem.W.notFirst K C (.ref C') = true := fun C C' h h' => by
    rcases h with rfl | rfl | rfl | rfl | rfl
    · rcases h' with rfl | rfl | rfl | rfl | rfl
      · exact LO.nf_self
      · exact LE2.nf_of sDaysWindow
      · exact LE2.nf_of sLaterWindow
      · exact LE2.nf_of sSoonerWindow
      · exact LE2.nf_of sNextWindow
    · rcases h' with rfl | rfl | rfl | rfl | rfl
      · exact LE2.nf_of sWindowDays
      · exact LO.nf_self
      · exact LE2.nf_of sLaterDays
      · exact LE2.nf_of sSoonerDays
      · exact LE2.nf_of sNextDays
    · rcases h' with rfl | rfl | rfl | rfl | rfl
      · exact LE2.nf_of sWindowLater
      · exact LE2.nf_of sDaysLater
      · exact LO.nf_self
      · exact LE2.nf_of sSoonerLater
      · exact LE2.nf_of sNextLater
    · rcases h' with rfl | rfl | rfl | rfl | rfl
      · exact LE2.nf_of sWindowSooner
      · exact LE2.nf_of sDaysSooner
      · exact LE2.nf_of sLaterSooner
      · exact LO.nf_self
      · exact LE2.nf_of sNextSooner
    · rcases h' with rfl | rfl | rfl | rfl | rfl
      · exact LE2.nf_of sWindowNext
      · exact LE2.nf_of sDaysNext
      · exact LE2.nf_of sLaterNext
      · exact LE2.nf_of sSoonerNext
      · exact LO.nf_self
  have KN : Kn K mg a := ⟨rcWindow, rcDays, rcLater, rcSooner, rcNext, nWindowwidth, nDays_borders, nDaysevery, nLaterfirst, nLatersecond, nSoonerfirst, nSoonersecond, nNextfirst, nNextsecond, kRest_written, kRest_forms, kRest_period, kRest_bend, ⟨mDaysborders, iDays_borders, kDays_borders⟩, kDays_borders, PySem.W.mg_of X G aRest, PySem.W.mg_of X G xlcm, PySem.W.mg_of X G a_Window, PySem.W.mg_of X G a_Days, PySem.W.mg_of X G a_Later, PySem.W.mg_of X G a_Sooner, PySem.W.mg_of X G a_Next, ⟨mkWindow, fiWindow, isfWindow_init, kpWindow⟩, ⟨mkDays, fiDays, isfDays_init, kpDays⟩, ⟨mkLater, fiLater, isfLater_init, kpLater⟩, ⟨mkSooner, fiSooner, isfSooner_init, kpSooner⟩, ⟨mkNext, fiNext, isfNext_init, kpNext⟩, nfC, kOdd⟩
  have UWindow_init : LS.SupF l.prog K (FWindow_init ccWindow_init cWindow_init) fWindow_init aWindow fRi "__init__" := ⟨⟨_, _, _, _, _, _, lWindow_init⟩, cdWindow_init, ⟨_, _, _, _, _, _, lcWindow_init, vfWindow_init, ffWindow_init⟩, ⟨_, _, _, _, rfl, llWindow_init⟩, ⟨_, LS.cls_of xWindow⟩, mrWindow, LS.sup_of xWindow moWindow xRest ffRi, tyfR, opq, fiR, tp⟩
  have UDays_init : LS.SupF l.prog K (FDays_init ccDays_init cDays_init) fDays_init aDays fRi "__init__" := ⟨⟨_, _, _, _, _, _, lDays_init⟩, cdDays_init, ⟨_, _, _, _, _, _, lcDays_init, vfDays_init, ffDays_init⟩, ⟨_, _, _, _, rfl, llDays_init⟩, ⟨_, LS.cls_of xDays⟩, mrDays, LS.sup_of xDays moDays xRest ffRi, tyfR, opq, fiR, tp⟩
  have ULater_init : LS.SupF l.prog K (FLater_init ccLater_init cLater_init) fLater_init aLater fRi "__init__" := ⟨⟨_, _, _, _, _, _, lLater_init⟩, cdLater_init, ⟨_, _, _, _, _, _, lcLater_init, vfLater_init, ffLater_init⟩, ⟨_, _, _, _, rfl, llLater_init⟩, ⟨_, LS.cls_of xLater⟩, mrLater, LS.sup_of xLater moLater xRest ffRi, tyfR, opq, fiR, tp⟩
  have USooner_init : LS.SupF l.prog K (FSooner_init ccSooner_init cSooner_init) fSooner_init aSooner fRi "__init__" := ⟨⟨_, _, _, _, _, _, lSooner_init⟩, cdSooner_init, ⟨_, _, _, _, _, _, lcSooner_init, vfSooner_init, ffSooner_init⟩, ⟨_, _, _, _, rfl, llSooner_init⟩, ⟨_, LS.cls_of xSooner⟩, mrSooner, LS.sup_of xSooner moSooner xRest ffRi, tyfR, opq, fiR, tp⟩
  have UNext_init : LS.SupF l.prog K (FNext_init ccNext_init cNext_init) fNext_init aNext fRi "__init__" := ⟨⟨_, _, _, _, _, _, lNext_init⟩, cdNext_init, ⟨_, _, _, _, _, _, lcNext_init, vfNext_init, ffNext_init⟩, ⟨_, _, _, _, rfl, llNext_init⟩, ⟨_, LS.cls_of xNext⟩, mrNext, LS.sup_of xNext moNext xRest ffRi, tyfR, opq, fiR, tp⟩
  have eBN := LX.exm_self exInvalidNumber clInvalidNumber tyInvalidNumber eBN
  have eRN := LX.exm_self exInvalidNumber clInvalidNumber tyInvalidNumber eRN
  have eRB := LX.exm_self exInvalidBorders clInvalidBorders tyInvalidBorders eRB
  have eTN := LX.exm_self exInvalidNumber clInvalidNumber tyInvalidNumber eTN
  have eTB := LX.exm_self exInvalidBorders clInvalidBorders tyInvalidBorders eTB
  have eTR := LX.exm_self exInvalidRest clInvalidRest tyInvalidRest eTR
  have gSE : mg "SureletError" = some (.ref aSE) := PySem.W.mg_of X G aSure
  let cs : List (Addr × Addr) := [(cowindow, ptwindow), (codays, ptdays), (counder, ptunder)]
  let Tb : List (Addr × Str) := [(ptwindow, (("_law_window" : Str) ++ ".<locals>." ++ "<lambda>")), (ptdays, (("_law_days" : Str) ++ ".<locals>." ++ "<lambda>")), (ptunder, (("_law_under" : Str) ++ ".<locals>." ++ "<lambda>"))]
  have nwindowdays : ptwindow ≠ ptdays := fun z => by rw [z] at npt; simp at npt
  have nwindowunder : ptwindow ≠ ptunder := fun z => by rw [z] at npt; simp at npt
  have ndaysunder : ptdays ≠ ptunder := fun z => by rw [z] at npt; simp at npt
  have hmwindow : (ptwindow, (("_law_window" : Str) ++ ".<locals>." ++ "<lambda>")) ∈ Tb := by simp [Tb]
  have huwindow : ∀ p ∈ Tb, p.1 = ptwindow → p.2 = (("_law_window" : Str) ++ ".<locals>." ++ "<lambda>") := fun p hp e => by
    simp only [Tb, List.mem_cons, List.not_mem_nil, or_false] at hp
    rcases hp with rfl | rfl | rfl
    · rfl
    · exact absurd e (Ne.symm nwindowdays)
    · exact absurd e (Ne.symm nwindowunder)
  have hmdays : (ptdays, (("_law_days" : Str) ++ ".<locals>." ++ "<lambda>")) ∈ Tb := by simp [Tb]
  have hudays : ∀ p ∈ Tb, p.1 = ptdays → p.2 = (("_law_days" : Str) ++ ".<locals>." ++ "<lambda>") := fun p hp e => by
    simp only [Tb, List.mem_cons, List.not_mem_nil, or_false] at hp
    rcases hp with rfl | rfl | rfl
    · exact absurd e nwindowdays
    · rfl
    · exact absurd e (Ne.symm ndaysunder)
  have hmunder : (ptunder, (("_law_under" : Str) ++ ".<locals>." ++ "<lambda>")) ∈ Tb := by simp [Tb]
  have huunder : ∀ p ∈ Tb, p.1 = ptunder → p.2 = (("_law_under" : Str) ++ ".<locals>." ++ "<lambda>") := fun p hp e => by
    simp only [Tb, List.mem_cons, List.not_mem_nil, or_false] at hp
    rcases hp with rfl | rfl | rfl
    · exact absurd e nwindowunder
    · exact absurd e ndaysunder
    · rfl
  refine ⟨PySem.W.fnOf "law" "law" (defArgs slaw) (defBody slaw) (defScope slaw) .none kVlaw dclaw pmlaw anlaw cdlaw ctlaw, cs, splaw K Tb, fun p hp => ?_, fun p hp => ?_, fun p hp => ?_, fun s v => .of_eq rfl, fun H a ns hl _ hH hS => ⟨a, ns, rfl, hS, hl, fun p hp => ?_, fun _ => rfl⟩, fun base _ _ TBs => ?_⟩
  · simp only [cs, List.mem_cons, List.not_mem_nil, or_false] at hp
    rcases hp with rfl | rfl | rfl
    · exact own "_law_window" (by simp) _ (PySem.W.mg_of X G awindow) _ _ _ _ _ _ _ _ lwindow rfl rfl lcwindow vpwindow
    · exact own "_law_days" (by simp) _ (PySem.W.mg_of X G adays) _ _ _ _ _ _ _ _ ldays rfl rfl lcdays vpdays
    · exact own "_law_under" (by simp) _ (PySem.W.mg_of X G aunder) _ _ _ _ _ _ _ _ lunder rfl rfl lcunder vpunder
  · simp only [cs, List.mem_cons, List.not_mem_nil, or_false] at hp
    rcases hp with rfl | rfl | rfl
    · exact npwindow
    · exact npdays
    · exact npunder
  · simp only [cs, List.mem_cons, List.not_mem_nil, or_false] at hp
    rcases hp with rfl | rfl | rfl
    · exact PySem.W.codeHd_of_K X (LE2.hd_of lcwindow hdwindow)
    · exact PySem.W.codeHd_of_K X (LE2.hd_of lcdays hddays)
    · exact PySem.W.codeHd_of_K X (LE2.hd_of lcunder hdunder)
  · simp only [Tb, List.mem_cons, List.not_mem_nil, or_false] at hp
    rcases hp with rfl | rfl | rfl
    · exact LamX.TabS.nil (hH (cowindow, ptwindow) (by simp [cs]))
    · exact LamX.TabS.nil (hH (codays, ptdays) (by simp [cs]))
    · exact LamX.TabS.nil (hH (counder, ptunder) (by simp [cs]))
  have FInvalidNumber_init := fun_mk (st := sInvalidNumber_init) lInvalidNumber_init cInvalidNumber_init kInvalidNumber_init
  have oxInvalidNumber : OexC K aInvalidNumber := ⟨⟨_, _, _, _, _, _, _, _, _, _, _, _, _, _, _, xInvalidNumber, refs_ve _⟩, saInvalidNumber, exInvalidNumber, tyInvalidNumber, kpInvalidNumber⟩
  have RInvalidNumber : RE l.prog w K mg base "InvalidNumber" "value" (ivF "InvalidNumber") ce.nu fInvalidNumber_init _ := ⟨⟨oxInvalidNumber, inInvalidNumber, tiInvalidNumber, PySem.W.mg_of X G a_InvalidNumber, ⟨gaInvalidNumber, ggInvalidNumber, exInvalidNumber, hdInvalidNumber⟩, LX.exm_self exInvalidNumber clInvalidNumber tyInvalidNumber ssInvalidNumber, LX.no_cons nvalueInvalidNumber (LX.no_cons ncodeInvalidNumber LX.no_nil)⟩, ok_InvalidNumber_init FInvalidNumber_init T oxInvalidNumber nvalueInvalidNumber ncodeInvalidNumber, FInvalidNumber_init.binds (ps := PInvalidNumber_init) fun _ _ _ _ _ _ us hl => match us, hl with | [_, _], _ => rfl⟩
  have FInvalidBorders_init := fun_mk (st := sInvalidBorders_init) lInvalidBorders_init cInvalidBorders_init kInvalidBorders_init
  have oxInvalidBorders : OexC K aInvalidBorders := ⟨⟨_, _, _, _, _, _, _, _, _, _, _, _, _, _, _, xInvalidBorders, refs_ve _⟩, saInvalidBorders, exInvalidBorders, tyInvalidBorders, kpInvalidBorders⟩
  have RInvalidBorders : RE l.prog w K mg base "InvalidBorders" "at" (atF "InvalidBorders") ce.bo fInvalidBorders_init _ := ⟨⟨oxInvalidBorders, inInvalidBorders, tiInvalidBorders, PySem.W.mg_of X G a_InvalidBorders, ⟨gaInvalidBorders, ggInvalidBorders, exInvalidBorders, hdInvalidBorders⟩, LX.exm_self exInvalidBorders clInvalidBorders tyInvalidBorders ssInvalidBorders, LX.no_cons natInvalidBorders (LX.no_cons ncodeInvalidBorders LX.no_nil)⟩, ok_InvalidBorders_init FInvalidBorders_init T oxInvalidBorders natInvalidBorders ncodeInvalidBorders, FInvalidBorders_init.binds (ps := PInvalidBorders_init) fun _ _ _ _ _ _ us hl => match us, hl with | [_, _], _ => rfl⟩
  have FInvalidRest_init := fun_mk (st := sInvalidRest_init) lInvalidRest_init cInvalidRest_init kInvalidRest_init
  have oxInvalidRest : OexC K aInvalidRest := ⟨⟨_, _, _, _, _, _, _, _, _, _, _, _, _, _, _, xInvalidRest, refs_ve _⟩, saInvalidRest, exInvalidRest, tyInvalidRest, kpInvalidRest⟩
  have RInvalidRest : RE l.prog w K mg base "InvalidRest" "value" (ivF "InvalidRest") ce.re fInvalidRest_init _ := ⟨⟨oxInvalidRest, inInvalidRest, tiInvalidRest, PySem.W.mg_of X G a_InvalidRest, ⟨gaInvalidRest, ggInvalidRest, exInvalidRest, hdInvalidRest⟩, LX.exm_self exInvalidRest clInvalidRest tyInvalidRest ssInvalidRest, LX.no_cons nvalueInvalidRest (LX.no_cons ncodeInvalidRest LX.no_nil)⟩, ok_InvalidRest_init FInvalidRest_init T oxInvalidRest nvalueInvalidRest ncodeInvalidRest, FInvalidRest_init.binds (ps := PInvalidRest_init) fun _ _ _ _ _ _ us hl => match us, hl with | [_, _], _ => rfl⟩
  have FTooMany_init := fun_mk (st := sTooMany_init) lTooMany_init cTooMany_init kTooMany_init
  have oxTooMany : OexC K aTooMany := ⟨⟨_, _, _, _, _, _, _, _, _, _, _, _, _, _, _, xTooMany, refs_ve _⟩, saTooMany, exTooMany, tyTooMany, kpTooMany⟩
  have RTooMany : RTM l.prog w K mg base ce.tm fTooMany_init _ := ⟨⟨oxTooMany, inTooMany, tiTooMany, PySem.W.mg_of X G a_TooMany, ⟨gaTooMany, ggTooMany, exTooMany, hdTooMany⟩, LX.exm_self exTooMany clTooMany tyTooMany ssTooMany, LX.no_cons nwhatTooMany (LX.no_cons ncountTooMany (LX.no_cons ncodeTooMany LX.no_nil))⟩, ok_TooMany_init FTooMany_init T oxTooMany nwhatTooMany ncountTooMany ncodeTooMany, FTooMany_init.binds (ps := PTooMany_init) fun _ _ _ _ _ _ us hl => match us, hl with | [_, _, _], _ => rfl⟩
  have Gcheck_count := ok_check_count (P := l.prog) (w := w) (base := base) Dcheck_count T RTooMany
  have Gis_whole := ok_is_whole (P := l.prog) (w := w) (base := base) Dis_whole T
  have Gis_number := ok_is_number (P := l.prog) (w := w) (base := base) Dis_number T Dis_whole Gis_whole
  have Gcheck_borders := ok_check_borders (P := l.prog) (w := w) (base := base) Dcheck_borders T RInvalidNumber RInvalidBorders RInvalidRest RTooMany Dcheck_count Gcheck_count Dis_number Gis_number
  have FRest_init := fun_mk (st := sRest_init) lRest_init cRest_init kRest_init
  have BRest_init := FRest_init.binds (ps := PRest_init) fun _ _ _ _ _ _ us hl => match us, hl with | [_, _, _, _, _], _ => rfl
  have GRest_init := ok_Rest_init (P := l.prog) (w := w) (base := base) FRest_init T KN
  have RI : FnR l.prog w K mg base CX0 1 fRi (spRest_init K a) := LC.raw0 GRest_init BRest_init
  have FRest_forms := fun_mk (st := sRest_forms) lRest_forms cRest_forms kRest_forms
  have BRest_forms := FRest_forms.binds (ps := PRest_forms) fun _ _ _ _ _ _ us hl => match us, hl with | [_], _ => rfl
  have GRest_forms := ok_Rest_forms (P := l.prog) (w := w) (base := base) FRest_forms T KN
  have RF : FnR l.prog w K mg base CX0 1 fF (spRest_forms K a) := LC.raw0 GRest_forms BRest_forms
  have FRest_period := fun_mk (st := sRest_period) lRest_period cRest_period kRest_period
  have BRest_period := FRest_period.binds (ps := PRest_period) fun _ _ _ _ _ _ us hl => match us, hl with | [_], _ => rfl
  have GRest_period := ok_Rest_period (P := l.prog) (w := w) (base := base) FRest_period T KN
  have RP : FnR l.prog w K mg base CX0 1 fP (spRest_period K a) := LC.raw0 GRest_period BRest_period
  have FRest_bend := fun_mk (st := sRest_bend) lRest_bend cRest_bend kRest_bend
  have BRest_bend := FRest_bend.binds (ps := PRest_bend) fun _ _ _ _ _ _ us hl => match us, hl with | [_], _ => rfl
  have GRest_bend := ok_Rest_bend (P := l.prog) (w := w) (base := base) FRest_bend T KN
  have RB : FnR l.prog w K mg base CX0 1 fB (spRest_bend K a) := LC.raw0 GRest_bend BRest_bend
  have FRest_written := fun_mk (st := sRest_written) lRest_written cRest_written kRest_written
  have BRest_written := FRest_written.binds (ps := PRest_written) fun _ _ _ _ _ _ us hl => match us, hl with | [_], _ => rfl
  have GRest_written := ok_Rest_written (P := l.prog) (w := w) (base := base) FRest_written T KN
  have RW : FnR l.prog w K mg base CX0 1 fW (spRest_written K a) := LC.raw0 GRest_written BRest_written
  have FRest_str := fun_mk (st := sRest_str) lRest_str cRest_str kRest_str
  have BRest_str := FRest_str.binds (ps := PRest_str) fun _ _ _ _ _ _ us hl => match us, hl with | [_], _ => rfl
  have GRest_str := ok_Rest_str (P := l.prog) (w := w) (base := base) FRest_str T KN
  have OS : FnR l.prog w K mg base CX0 1 fS (spRest_str K a) := LC.raw0 GRest_str BRest_str
  have FRest_repr := fun_mk (st := sRest_repr) lRest_repr cRest_repr kRest_repr
  have BRest_repr := FRest_repr.binds (ps := PRest_repr) fun _ _ _ _ _ _ us hl => match us, hl with | [_], _ => rfl
  have GRest_repr := ok_Rest_repr (P := l.prog) (w := w) (base := base) FRest_repr T KN
  have ORp : FnR l.prog w K mg base CX0 1 fr (spRest_repr K a) := LC.raw0 GRest_repr BRest_repr
  have FRest_eq := fun_mk (st := sRest_eq) lRest_eq cRest_eq kRest_eq
  have BRest_eq := FRest_eq.binds (ps := PRest_eq) fun _ _ _ _ _ _ us hl => match us, hl with | [_, _], _ => rfl
  have GRest_eq := ok_Rest_eq (P := l.prog) (w := w) (base := base) FRest_eq T KN
  have OE : FnR l.prog w K mg base CX0 1 fE (spRest_eq K a) := LC.raw0 GRest_eq BRest_eq
  have Gcommon_period := ok_common_period (P := l.prog) (w := w) (base := base) Dcommon_period T KN RTooMany RP Dcheck_count Gcheck_count
  have Gpair_facts := ok_pair_facts (P := l.prog) (w := w) (base := base) Dpair_facts T KN RInvalidNumber RInvalidBorders RInvalidRest RTooMany RW RF RP RB Dcheck_count Gcheck_count Dcommon_period Gcommon_period
  have GWindow_init := ok_Window_init (P := l.prog) (w := w) (base := base) T KN RInvalidNumber RInvalidBorders RInvalidRest RTooMany RI Dis_number Gis_number UWindow_init lWindow_init
  have BWindow_init : Binds K ((FWindow_init ccWindow_init cWindow_init).fd dcWindow_init pmWindow_init ctWindow_init) PWindow_init [] := Binds.all fun us hl => match us, hl with | [_, _], _ => rfl
  have IWindow : FnR l.prog w K mg base (L2.CX l.prog w) 3 fWindow_init (spWindow_init K a ce) := LC.raw0 GWindow_init BWindow_init
  have GDays_init := ok_Days_init (P := l.prog) (w := w) (base := base) T KN RInvalidNumber RInvalidBorders RInvalidRest RTooMany RI Dis_number Gis_number Dcheck_borders Gcheck_borders UDays_init lDays_init
  have BDays_init : Binds K ((FDays_init ccDays_init cDays_init).fd dcDays_init pmDays_init ctDays_init) PDays_init [] := Binds.all fun us hl => match us, hl with | [_, _, _], _ => rfl
  have IDays : FnR l.prog w K mg base (L2.CX l.prog w) 5 fDays_init (spDays_init K a ce) := LC.raw0 GDays_init BDays_init
  have FDays_borders := fun_mk (st := sDays_borders) lDays_borders cDays_borders kDays_borders
  have BDays_borders := FDays_borders.binds (ps := PDays_borders) fun _ _ _ _ _ _ us hl => match us, hl with | [_], _ => rfl
  have GDays_borders := ok_Days_borders (P := l.prog) (w := w) (base := base) FDays_borders T KN
  have RDb : FnR l.prog w K mg base CX0 1 fDays_borders (spDays_borders K a) := LC.raw0 GDays_borders BDays_borders
  have GLater_init := ok_Later_init (P := l.prog) (w := w) (base := base) T KN RInvalidNumber RInvalidBorders RInvalidRest RTooMany RI Dpair_facts Gpair_facts ULater_init lLater_init
  have BLater_init : Binds K ((FLater_init ccLater_init cLater_init).fd dcLater_init pmLater_init ctLater_init) PLater_init [] := Binds.all fun us hl => match us, hl with | [_, _, _], _ => rfl
  have ILater : FnR l.prog w K mg base (L2.CX l.prog w) 6 fLater_init (spLater_init K a ce) := LC.raw0 GLater_init BLater_init
  have GSooner_init := ok_Sooner_init (P := l.prog) (w := w) (base := base) T KN RInvalidNumber RInvalidBorders RInvalidRest RTooMany RI Dpair_facts Gpair_facts USooner_init lSooner_init
  have BSooner_init : Binds K ((FSooner_init ccSooner_init cSooner_init).fd dcSooner_init pmSooner_init ctSooner_init) PSooner_init [] := Binds.all fun us hl => match us, hl with | [_, _, _], _ => rfl
  have ISooner : FnR l.prog w K mg base (L2.CX l.prog w) 6 fSooner_init (spSooner_init K a ce) := LC.raw0 GSooner_init BSooner_init
  have GNext_init := ok_Next_init (P := l.prog) (w := w) (base := base) T KN RInvalidNumber RInvalidBorders RInvalidRest RTooMany RI Dpair_facts Gpair_facts UNext_init lNext_init
  have BNext_init : Binds K ((FNext_init ccNext_init cNext_init).fd dcNext_init pmNext_init ctNext_init) PNext_init [] := Binds.all fun us hl => match us, hl with | [_, _, _], _ => rfl
  have INext : FnR l.prog w K mg base (L2.CX l.prog w) 6 fNext_init (spNext_init K a ce) := LC.raw0 GNext_init BNext_init
  have Gbag := ok_bag (P := l.prog) (w := w) (base := base) Dbag T
  have Gdraw := ok_draw (P := l.prog) (w := w) (base := base) Ddraw T
  have Gof := ok_of (P := l.prog) (w := w) (base := base) Dof T Ddraw Gdraw
  have Glike := ok_like (P := l.prog) (w := w) (base := base) Dlike T
  have Godd := ok_odd (P := l.prog) (w := w) (base := base) Dodd T Ddraw Gdraw Dof Gof
  have Glcm := ok_lcm (P := l.prog) (w := w) (base := base) Dlcm T
  have Gtext := ok_text (P := l.prog) (w := w) (base := base) Dtext T
  have Gfacts := ok_facts (P := l.prog) (w := w) (base := base) Dfacts T Dlcm Glcm
  have Gin := ok_in (P := l.prog) (w := w) (base := base) Din T
  have Gnumber := ok_number (P := l.prog) (w := w) (base := base) Dnumber T Ddraw Gdraw Dof Gof Dodd Godd
  have Gborders := ok_borders (P := l.prog) (w := w) (base := base) Dborders T Ddraw Gdraw Dof Gof
  have Gdays_due := ok_days_due (P := l.prog) (w := w) (base := base) Ddays_due T Din Gin
  have TBwindow : LamX.TabB base mg cowindow ptwindow := TBs (cowindow, ptwindow) (by simp [cs])
  have Gwindow := ok_window (P := l.prog) (w := w) (base := base) lwindow cwindow TBwindow T KN RInvalidNumber RInvalidBorders RInvalidRest RTooMany Dask eBN eRN eRB eTN eTB eTR gSE IWindow GWindow_init KB_Window hmwindow huwindow Ddraw Gdraw Dlike Glike Din Gin Dnumber Gnumber
  have TBdays : LamX.TabB base mg codays ptdays := TBs (codays, ptdays) (by simp [cs])
  have Gdays := ok_days (P := l.prog) (w := w) (base := base) ldays cdays TBdays T KN RInvalidNumber RInvalidBorders RInvalidRest RTooMany Dask eBN eRN eRB eTN eTB eTR gSE IDays GDays_init KB_Days RDb hmdays hudays Ddraw Gdraw Dlike Glike Dnumber Gnumber Dborders Gborders Ddays_due Gdays_due
  have Gpair := ok_pair (P := l.prog) (w := w) (base := base) Dpair T KN ILater GLater_init KB_Later ISooner GSooner_init KB_Sooner INext GNext_init KB_Next Ddraw Gdraw
  have Gpair_due := ok_pair_due (P := l.prog) (w := w) (base := base) Dpair_due T (a := a) Dlcm Glcm Dfacts Gfacts
  have Gclass_so := ok_class_so (P := l.prog) (w := w) (base := base) Dclass_so T KN
  have TBunder : LamX.TabB base mg counder ptunder := TBs (counder, ptunder) (by simp [cs])
  have Gunder := ok_under (P := l.prog) (w := w) (base := base) lunder cunder TBunder T KN RInvalidNumber RInvalidBorders RInvalidRest RTooMany Dask eBN eRN eRB eTN eTB eTR gSE OE RW Dpair Gpair hmunder huunder Ddraw Gdraw Dof Gof Dlike Glike Dodd Godd Dtext Gtext Dpair_due Gpair_due Dclass_so Gclass_so
  have Gtold_so := ok_told_so (P := l.prog) (w := w) (base := base) Dtold_so T KN RW RF RP RB OS ORp Dlike Glike Dtext Gtext Dfacts Gfacts
  have Gequal_so := ok_equal_so (P := l.prog) (w := w) (base := base) Dequal_so T KN OE Dof Gof Dlike Glike Dtext Gtext
  have Glaw := ok_law (P := l.prog) (w := w) (base := base) Dlaw T KN IWindow GWindow_init KB_Window IDays GDays_init KB_Days Dbag Gbag Dwindow Gwindow Ddays Gdays Dunder Gunder Dtold_so Gtold_so Dequal_so Gequal_so
  exact Glaw
open PySem.Spec PyProof.Rows in
theorem walk {l : PySem.W.OpenLaw} {q : Program} {loose : List Str} {XP : (Str → Option Value) → Heap → Prop} {YP : World → Heap → Prop} {d : DefRec} {K : Params → PySem.W.Frag} (hn : l.most = some 63) (hdf : d.params.defaults = [])
    (hrec : ∀ nm : Str, (nm = "_law_window" ∨ nm = "_law_days" ∨ nm = "_law_under") → ((recsOf q).any fun e => e.name == nm) = true) (hY : ∀ (w : World) (h : Heap), YP w h → (K w.params).In h)
    (F : ∀ (w : World) (mg : Str → Option Value) (fa : Addr) (h : Heap), (K w.params).In h → h.Ns mainGlobals mg → mg d.name = some (.ref fa) → (∀ nm : Str, (nm = "_law_window" ∨ nm = "_law_days" ∨ nm = "_law_under") → ∀ fb, mg nm = some (.ref fb) → LamX.OwnTab (K w.params) fb h) → LamX.LawAtS l w (K w.params) CX0 12 63 "_law_script" mg fa h) :
    PySem.W.WalkO q loose XP YP l.row.toRowW d [] (fun f vs => PySem.call f vs) :=
  LE2.walk_own2 (CX := fun _ => CX0) hn (by decide) hdf ⟨rfl, by decide, by decide⟩ hrec hY (fun w mg fa h Y KX G e own => F w mg fa h KX G e own) fun _ _ _ _ _ z => z
end k04
open PySem PySem.W PyProof.Rows
set_option maxRecDepth 100000 in
set_option maxHeartbeats 0 in
theorem PySem.Challenge.cw_surelet_k04_rests_built_and_refused_holds : PySem.Challenge.rw_surelet_k04_rests_built_and_refused.Holds := by
  w_on; o_law; k_head; (case hw => w_witness2)
  k_fill
  refine k04.walk (l := PySem.Challenge.rw_surelet_k04_rests_built_and_refused) rfl rfl ?hrec (fun w h Y => PySem.W.km_in_of Y) ?F
  case hrec =>
    intro nm hnm
    rcases hnm with rfl | rfl | rfl
    all_goals decide +kernel
  case F =>
    intro w mg fa h KX G hmg own
    refine' k04.all_mk KX G hmg ?acheck_count ?lcheck_count ?ccheck_count ?kcheck_count ?ais_whole ?lis_whole ?cis_whole ?kis_whole ?ais_number ?lis_number ?cis_number ?kis_number ?acheck_borders ?lcheck_borders ?ccheck_borders ?kcheck_borders ?acommon_period ?lcommon_period ?ccommon_period ?kcommon_period ?apair_facts ?lpair_facts ?cpair_facts ?kpair_facts ?abag ?lbag ?cbag ?kbag ?adraw ?ldraw ?cdraw ?kdraw ?aof ?lof ?cof ?kof ?alike ?llike ?clike ?klike ?aodd ?lodd ?codd ?kodd ?alcm ?llcm ?clcm ?klcm ?atext ?ltext ?ctext ?ktext ?afacts ?lfacts ?cfacts ?kfacts ?aask ?lask ?cask ?kask ?ain ?lin ?cin ?kin ?anumber ?lnumber ?cnumber ?knumber ?aborders ?lborders ?cborders ?kborders ?adays_due ?ldays_due ?cdays_due ?kdays_due ?awindow ?lwindow ?cwindow ?kwindow ?lcwindow ?vpwindow ?hdwindow ?npwindow ?adays ?ldays ?cdays ?kdays ?lcdays ?vpdays ?hddays ?npdays ?apair ?lpair ?cpair ?kpair ?apair_due ?lpair_due ?cpair_due ?kpair_due ?aclass_so ?lclass_so ?cclass_so ?kclass_so ?aunder ?lunder ?cunder ?kunder ?lcunder ?vpunder ?hdunder ?npunder ?atold_so ?ltold_so ?ctold_so ?ktold_so ?aequal_so ?lequal_so ?cequal_so ?kequal_so ?alaw ?llaw ?claw ?klaw ?zall ?zbool ?zdict ?zenumerate ?zint ?zisinstance ?zlen ?zlist ?zmax ?zrange ?zrepr ?zstr ?zsuper ?ztuple ?zzip ?yMOST_BORDERS ?yMOST_FORMS ?yMOST_PERIOD ?yMOST_SIZE ?aRest ?xRest ?tyR ?clR ?ffRi ?lRest_init ?cRest_init ?kRest_init ?iRest_init ?ffF ?lRest_forms ?cRest_forms ?kRest_forms ?iRest_forms ?ffP ?lRest_period ?cRest_period ?kRest_period ?iRest_period ?ffB ?lRest_bend ?cRest_bend ?kRest_bend ?iRest_bend ?ffW ?lRest_written ?cRest_written ?kRest_written ?iRest_written ?ffS ?lRest_str ?cRest_str ?kRest_str ?iRest_str ?ffr ?lRest_repr ?cRest_repr ?kRest_repr ?iRest_repr ?ffE ?lRest_eq ?cRest_eq ?kRest_eq ?iRest_eq ?tyfR ?fiR ?opq ?tp ?a_Window ?tyWindow ?clWindow ?pgWindow ?hdWindow ?poWindow ?saWindow ?mkWindow ?kpWindow ?fiWindow ?lWindow_init ?lcWindow_init ?vfWindow_init ?ffWindow_init ?llWindow_init ?cdWindow_init ?isfWindow_init ?xWindow ?mrWindow ?moWindow ?nWindow_text ?nWindow_forms ?nWindow_period ?nWindow_bend ?nWindowwidth ?mWindowforms ?mWindowperiod ?mWindowbend ?mWindowwritten ?mWindowstr ?mWindowrepr ?mWindoweq ?mneWindow ?isWindow ?ssWindow ?haWindow ?hmWindow ?a_Days ?tyDays ?clDays ?pgDays ?hdDays ?poDays ?saDays ?mkDays ?kpDays ?fiDays ?lDays_init ?lcDays_init ?vfDays_init ?ffDays_init ?llDays_init ?cdDays_init ?isfDays_init ?xDays ?mrDays ?moDays ?nDays_text ?nDays_forms ?nDays_period ?nDays_bend ?nDays_borders ?nDaysevery ?mDaysforms ?mDaysperiod ?mDaysbend ?mDayswritten ?mDaysstr ?mDaysrepr ?mDayseq ?mneDays ?isDays ?ssDays ?haDays ?hmDays ?a_Later ?tyLater ?clLater ?pgLater ?hdLater ?poLater ?saLater ?mkLater ?kpLater ?fiLater ?lLater_init ?lcLater_init ?vfLater_init ?ffLater_init ?llLater_init ?cdLater_init ?isfLater_init ?xLater ?mrLater ?moLater ?nLater_text ?nLater_forms ?nLater_period ?nLater_bend ?nLaterfirst ?nLatersecond ?mLaterforms ?mLaterperiod ?mLaterbend ?mLaterwritten ?mLaterstr ?mLaterrepr ?mLatereq ?mneLater ?isLater ?ssLater ?haLater ?hmLater ?a_Sooner ?tySooner ?clSooner ?pgSooner ?hdSooner ?poSooner ?saSooner ?mkSooner ?kpSooner ?fiSooner ?lSooner_init ?lcSooner_init ?vfSooner_init ?ffSooner_init ?llSooner_init ?cdSooner_init ?isfSooner_init ?xSooner ?mrSooner ?moSooner ?nSooner_text ?nSooner_forms ?nSooner_period ?nSooner_bend ?nSoonerfirst ?nSoonersecond ?mSoonerforms ?mSoonerperiod ?mSoonerbend ?mSoonerwritten ?mSoonerstr ?mSoonerrepr ?mSoonereq ?mneSooner ?isSooner ?ssSooner ?haSooner ?hmSooner ?a_Next ?tyNext ?clNext ?pgNext ?hdNext ?poNext ?saNext ?mkNext ?kpNext ?fiNext ?lNext_init ?lcNext_init ?vfNext_init ?ffNext_init ?llNext_init ?cdNext_init ?isfNext_init ?xNext ?mrNext ?moNext ?nNext_text ?nNext_forms ?nNext_period ?nNext_bend ?nNextfirst ?nNextsecond ?mNextforms ?mNextperiod ?mNextbend ?mNextwritten ?mNextstr ?mNextrepr ?mNexteq ?mneNext ?isNext ?ssNext ?haNext ?hmNext ?mDaysborders ?lDays_borders ?cDays_borders ?kDays_borders ?iDays_borders ?sDaysWindow ?sLaterWindow ?sSoonerWindow ?sNextWindow ?sWindowDays ?sLaterDays ?sSoonerDays ?sNextDays ?sWindowLater ?sDaysLater ?sSoonerLater ?sNextLater ?sWindowSooner ?sDaysSooner ?sLaterSooner ?sNextSooner ?sWindowNext ?sDaysNext ?sLaterNext ?sSoonerNext ?sintR ?sintWindow ?sintDays ?sintLater ?sintSooner ?sintNext ?sboolR ?sboolWindow ?sboolDays ?sboolLater ?sboolSooner ?sboolNext ?sstrR ?sstrWindow ?sstrDays ?sstrLater ?sstrSooner ?sstrNext ?sNoneTypeR ?sNoneTypeWindow ?sNoneTypeDays ?sNoneTypeLater ?sNoneTypeSooner ?sNoneTypeNext ?slistR ?slistWindow ?slistDays ?slistLater ?slistSooner ?slistNext ?stupleR ?stupleWindow ?stupleDays ?stupleLater ?stupleSooner ?stupleNext ?sdictR ?sdictWindow ?sdictDays ?sdictLater ?sdictSooner ?sdictNext ?hn ?ht ?xlcm ?a_InvalidNumber ?xInvalidNumber ?saInvalidNumber ?exInvalidNumber ?tyInvalidNumber ?kpInvalidNumber ?inInvalidNumber ?tiInvalidNumber ?gaInvalidNumber ?ggInvalidNumber ?hdInvalidNumber ?clInvalidNumber ?ssInvalidNumber ?nvalueInvalidNumber ?ncodeInvalidNumber ?lInvalidNumber_init ?cInvalidNumber_init ?kInvalidNumber_init ?iInvalidNumber_init ?a_InvalidBorders ?xInvalidBorders ?saInvalidBorders ?exInvalidBorders ?tyInvalidBorders ?kpInvalidBorders ?inInvalidBorders ?tiInvalidBorders ?gaInvalidBorders ?ggInvalidBorders ?hdInvalidBorders ?clInvalidBorders ?ssInvalidBorders ?natInvalidBorders ?ncodeInvalidBorders ?lInvalidBorders_init ?cInvalidBorders_init ?kInvalidBorders_init ?iInvalidBorders_init ?a_InvalidRest ?xInvalidRest ?saInvalidRest ?exInvalidRest ?tyInvalidRest ?kpInvalidRest ?inInvalidRest ?tiInvalidRest ?gaInvalidRest ?ggInvalidRest ?hdInvalidRest ?clInvalidRest ?ssInvalidRest ?nvalueInvalidRest ?ncodeInvalidRest ?lInvalidRest_init ?cInvalidRest_init ?kInvalidRest_init ?iInvalidRest_init ?a_TooMany ?xTooMany ?saTooMany ?exTooMany ?tyTooMany ?kpTooMany ?inTooMany ?tiTooMany ?gaTooMany ?ggTooMany ?hdTooMany ?clTooMany ?ssTooMany ?nwhatTooMany ?ncountTooMany ?ncodeTooMany ?lTooMany_init ?cTooMany_init ?kTooMany_init ?iTooMany_init ?eBN ?eRN ?eRB ?eTN ?eTB ?eTR ?aSure ?npt own
    (case acheck_count => k_is)
    (case lcheck_count => k_is)
    (case ccheck_count => k_is)
    (case kcheck_count => k_is)
    (case ais_whole => k_is)
    (case lis_whole => k_is)
    (case cis_whole => k_is)
    (case kis_whole => k_is)
    (case ais_number => k_is)
    (case lis_number => k_is)
    (case cis_number => k_is)
    (case kis_number => k_is)
    (case acheck_borders => k_is)
    (case lcheck_borders => k_is)
    (case ccheck_borders => k_is)
    (case kcheck_borders => k_is)
    (case acommon_period => k_is)
    (case lcommon_period => k_is)
    (case ccommon_period => k_is)
    (case kcommon_period => k_is)
    (case apair_facts => k_is)
    (case lpair_facts => k_is)
    (case cpair_facts => k_is)
    (case kpair_facts => k_is)
    (case abag => k_is)
    (case lbag => k_is)
    (case cbag => k_is)
    (case kbag => k_is)
    (case adraw => k_is)
    (case ldraw => k_is)
    (case cdraw => k_is)
    (case kdraw => k_is)
    (case aof => k_is)
    (case lof => k_is)
    (case cof => k_is)
    (case kof => k_is)
    (case alike => k_is)
    (case llike => k_is)
    (case clike => k_is)
    (case klike => k_is)
    (case aodd => k_is)
    (case lodd => k_is)
    (case codd => k_is)
    (case kodd => k_is)
    (case alcm => k_is)
    (case llcm => k_is)
    (case clcm => k_is)
    (case klcm => k_is)
    (case atext => k_is)
    (case ltext => k_is)
    (case ctext => k_is)
    (case ktext => k_is)
    (case afacts => k_is)
    (case lfacts => k_is)
    (case cfacts => k_is)
    (case kfacts => k_is)
    (case aask => k_is)
    (case lask => k_is)
    (case cask => k_is)
    (case kask => k_is)
    (case ain => k_is)
    (case lin => k_is)
    (case cin => k_is)
    (case kin => k_is)
    (case anumber => k_is)
    (case lnumber => k_is)
    (case cnumber => k_is)
    (case knumber => k_is)
    (case aborders => k_is)
    (case lborders => k_is)
    (case cborders => k_is)
    (case kborders => k_is)
    (case adays_due => k_is)
    (case ldays_due => k_is)
    (case cdays_due => k_is)
    (case kdays_due => k_is)
    (case awindow => k_is)
    (case lwindow => k_is)
    (case cwindow => k_is)
    (case kwindow => k_is)
    (case lcwindow => k_is)
    (case vpwindow => rfl)
    (case hdwindow => rfl)
    (case npwindow => (first | kernel_rfl | rfl | decide +kernel))
    (case adays => k_is)
    (case ldays => k_is)
    (case cdays => k_is)
    (case kdays => k_is)
    (case lcdays => k_is)
    (case vpdays => rfl)
    (case hddays => rfl)
    (case npdays => (first | kernel_rfl | rfl | decide +kernel))
    (case apair => k_is)
    (case lpair => k_is)
    (case cpair => k_is)
    (case kpair => k_is)
    (case apair_due => k_is)
    (case lpair_due => k_is)
    (case cpair_due => k_is)
    (case kpair_due => k_is)
    (case aclass_so => k_is)
    (case lclass_so => k_is)
    (case cclass_so => k_is)
    (case kclass_so => k_is)
    (case aunder => k_is)
    (case lunder => k_is)
    (case cunder => k_is)
    (case kunder => k_is)
    (case lcunder => k_is)
    (case vpunder => rfl)
    (case hdunder => rfl)
    (case npunder => (first | kernel_rfl | rfl | decide +kernel))
    (case atold_so => k_is)
    (case ltold_so => k_is)
    (case ctold_so => k_is)
    (case ktold_so => k_is)
    (case aequal_so => k_is)
    (case lequal_so => k_is)
    (case cequal_so => k_is)
    (case kequal_so => k_is)
    (case alaw => k_is)
    (case llaw => k_is)
    (case claw => k_is)
    (case klaw => k_is)
    (case zall => k_is)
    (case zbool => k_is)
    (case zdict => k_is)
    (case zenumerate => k_is)
    (case zint => k_is)
    (case zisinstance => k_is)
    (case zlen => k_is)
    (case zlist => k_is)
    (case zmax => k_is)
    (case zrange => k_is)
    (case zrepr => k_is)
    (case zstr => k_is)
    (case zsuper => k_is)
    (case ztuple => k_is)
    (case zzip => k_is)
    (case yMOST_BORDERS => k_is)
    (case yMOST_FORMS => k_is)
    (case yMOST_PERIOD => k_is)
    (case yMOST_SIZE => k_is)
    (case aRest => k_is)
    (case xRest => k_is)
    (case tyR => k_is)
    (case clR => k_is)
    (case ffRi => k_is)
    (case lRest_init => k_is)
    (case cRest_init => k_is)
    (case kRest_init => k_is)
    (case iRest_init => k_is)
    (case ffF => k_is)
    (case lRest_forms => k_is)
    (case cRest_forms => k_is)
    (case kRest_forms => k_is)
    (case iRest_forms => k_is)
    (case ffP => k_is)
    (case lRest_period => k_is)
    (case cRest_period => k_is)
    (case kRest_period => k_is)
    (case iRest_period => k_is)
    (case ffB => k_is)
    (case lRest_bend => k_is)
    (case cRest_bend => k_is)
    (case kRest_bend => k_is)
    (case iRest_bend => k_is)
    (case ffW => k_is)
    (case lRest_written => k_is)
    (case cRest_written => k_is)
    (case kRest_written => k_is)
    (case iRest_written => k_is)
    (case ffS => k_is)
    (case lRest_str => k_is)
    (case cRest_str => k_is)
    (case kRest_str => k_is)
    (case iRest_str => k_is)
    (case ffr => k_is)
    (case lRest_repr => k_is)
    (case cRest_repr => k_is)
    (case kRest_repr => k_is)
    (case iRest_repr => k_is)
    (case ffE => k_is)
    (case lRest_eq => k_is)
    (case cRest_eq => k_is)
    (case kRest_eq => k_is)
    (case iRest_eq => k_is)
    (case tyfR => k_is)
    (case fiR => k_is)
    (case opq => k_is)
    (case tp => rfl)
    (case a_Window => k_is)
    (case tyWindow => k_is)
    (case clWindow => k_is)
    (case pgWindow => k_is)
    (case hdWindow => k_is)
    (case poWindow => k_is)
    (case saWindow => k_is)
    (case mkWindow => k_is)
    (case kpWindow => k_is)
    (case fiWindow => k_is)
    (case lWindow_init => k_is)
    (case lcWindow_init => k_is)
    (case vfWindow_init => rfl)
    (case ffWindow_init => rfl)
    (case llWindow_init => k_is)
    (case cdWindow_init => k_is)
    (case isfWindow_init => k_is)
    (case xWindow => k_is)
    (case mrWindow => k_is)
    (case moWindow => rfl)
    (case nWindow_text => k_is)
    (case nWindow_forms => k_is)
    (case nWindow_period => k_is)
    (case nWindow_bend => k_is)
    (case nWindowwidth => k_is)
    (case mWindowforms => k_is)
    (case mWindowperiod => k_is)
    (case mWindowbend => k_is)
    (case mWindowwritten => k_is)
    (case mWindowstr => k_is)
    (case mWindowrepr => k_is)
    (case mWindoweq => k_is)
    (case mneWindow => k_is)
    (case isWindow => k_is)
    (case ssWindow => k_is)
    (case haWindow => k_is)
    (case hmWindow => k_is)
    (case a_Days => k_is)
    (case tyDays => k_is)
    (case clDays => k_is)
    (case pgDays => k_is)
    (case hdDays => k_is)
    (case poDays => k_is)
    (case saDays => k_is)
    (case mkDays => k_is)
    (case kpDays => k_is)
    (case fiDays => k_is)
    (case lDays_init => k_is)
    (case lcDays_init => k_is)
    (case vfDays_init => rfl)
    (case ffDays_init => rfl)
    (case llDays_init => k_is)
    (case cdDays_init => k_is)
    (case isfDays_init => k_is)
    (case xDays => k_is)
    (case mrDays => k_is)
    (case moDays => rfl)
    (case nDays_text => k_is)
    (case nDays_forms => k_is)
    (case nDays_period => k_is)
    (case nDays_bend => k_is)
    (case nDays_borders => k_is)
    (case nDaysevery => k_is)
    (case mDaysforms => k_is)
    (case mDaysperiod => k_is)
    (case mDaysbend => k_is)
    (case mDayswritten => k_is)
    (case mDaysstr => k_is)
    (case mDaysrepr => k_is)
    (case mDayseq => k_is)
    (case mneDays => k_is)
    (case isDays => k_is)
    (case ssDays => k_is)
    (case haDays => k_is)
    (case hmDays => k_is)
    (case a_Later => k_is)
    (case tyLater => k_is)
    (case clLater => k_is)
    (case pgLater => k_is)
    (case hdLater => k_is)
    (case poLater => k_is)
    (case saLater => k_is)
    (case mkLater => k_is)
    (case kpLater => k_is)
    (case fiLater => k_is)
    (case lLater_init => k_is)
    (case lcLater_init => k_is)
    (case vfLater_init => rfl)
    (case ffLater_init => rfl)
    (case llLater_init => k_is)
    (case cdLater_init => k_is)
    (case isfLater_init => k_is)
    (case xLater => k_is)
    (case mrLater => k_is)
    (case moLater => rfl)
    (case nLater_text => k_is)
    (case nLater_forms => k_is)
    (case nLater_period => k_is)
    (case nLater_bend => k_is)
    (case nLaterfirst => k_is)
    (case nLatersecond => k_is)
    (case mLaterforms => k_is)
    (case mLaterperiod => k_is)
    (case mLaterbend => k_is)
    (case mLaterwritten => k_is)
    (case mLaterstr => k_is)
    (case mLaterrepr => k_is)
    (case mLatereq => k_is)
    (case mneLater => k_is)
    (case isLater => k_is)
    (case ssLater => k_is)
    (case haLater => k_is)
    (case hmLater => k_is)
    (case a_Sooner => k_is)
    (case tySooner => k_is)
    (case clSooner => k_is)
    (case pgSooner => k_is)
    (case hdSooner => k_is)
    (case poSooner => k_is)
    (case saSooner => k_is)
    (case mkSooner => k_is)
    (case kpSooner => k_is)
    (case fiSooner => k_is)
    (case lSooner_init => k_is)
    (case lcSooner_init => k_is)
    (case vfSooner_init => rfl)
    (case ffSooner_init => rfl)
    (case llSooner_init => k_is)
    (case cdSooner_init => k_is)
    (case isfSooner_init => k_is)
    (case xSooner => k_is)
    (case mrSooner => k_is)
    (case moSooner => rfl)
    (case nSooner_text => k_is)
    (case nSooner_forms => k_is)
    (case nSooner_period => k_is)
    (case nSooner_bend => k_is)
    (case nSoonerfirst => k_is)
    (case nSoonersecond => k_is)
    (case mSoonerforms => k_is)
    (case mSoonerperiod => k_is)
    (case mSoonerbend => k_is)
    (case mSoonerwritten => k_is)
    (case mSoonerstr => k_is)
    (case mSoonerrepr => k_is)
    (case mSoonereq => k_is)
    (case mneSooner => k_is)
    (case isSooner => k_is)
    (case ssSooner => k_is)
    (case haSooner => k_is)
    (case hmSooner => k_is)
    (case a_Next => k_is)
    (case tyNext => k_is)
    (case clNext => k_is)
    (case pgNext => k_is)
    (case hdNext => k_is)
    (case poNext => k_is)
    (case saNext => k_is)
    (case mkNext => k_is)
    (case kpNext => k_is)
    (case fiNext => k_is)
    (case lNext_init => k_is)
    (case lcNext_init => k_is)
    (case vfNext_init => rfl)
    (case ffNext_init => rfl)
    (case llNext_init => k_is)
    (case cdNext_init => k_is)
    (case isfNext_init => k_is)
    (case xNext => k_is)
    (case mrNext => k_is)
    (case moNext => rfl)
    (case nNext_text => k_is)
    (case nNext_forms => k_is)
    (case nNext_period => k_is)
    (case nNext_bend => k_is)
    (case nNextfirst => k_is)
    (case nNextsecond => k_is)
    (case mNextforms => k_is)
    (case mNextperiod => k_is)
    (case mNextbend => k_is)
    (case mNextwritten => k_is)
    (case mNextstr => k_is)
    (case mNextrepr => k_is)
    (case mNexteq => k_is)
    (case mneNext => k_is)
    (case isNext => k_is)
    (case ssNext => k_is)
    (case haNext => k_is)
    (case hmNext => k_is)
    (case mDaysborders => k_is)
    (case lDays_borders => k_is)
    (case cDays_borders => k_is)
    (case kDays_borders => k_is)
    (case iDays_borders => k_is)
    (case sDaysWindow => k_is)
    (case sLaterWindow => k_is)
    (case sSoonerWindow => k_is)
    (case sNextWindow => k_is)
    (case sWindowDays => k_is)
    (case sLaterDays => k_is)
    (case sSoonerDays => k_is)
    (case sNextDays => k_is)
    (case sWindowLater => k_is)
    (case sDaysLater => k_is)
    (case sSoonerLater => k_is)
    (case sNextLater => k_is)
    (case sWindowSooner => k_is)
    (case sDaysSooner => k_is)
    (case sLaterSooner => k_is)
    (case sNextSooner => k_is)
    (case sWindowNext => k_is)
    (case sDaysNext => k_is)
    (case sLaterNext => k_is)
    (case sSoonerNext => k_is)
    (case sintR => k_is)
    (case sintWindow => k_is)
    (case sintDays => k_is)
    (case sintLater => k_is)
    (case sintSooner => k_is)
    (case sintNext => k_is)
    (case sboolR => k_is)
    (case sboolWindow => k_is)
    (case sboolDays => k_is)
    (case sboolLater => k_is)
    (case sboolSooner => k_is)
    (case sboolNext => k_is)
    (case sstrR => k_is)
    (case sstrWindow => k_is)
    (case sstrDays => k_is)
    (case sstrLater => k_is)
    (case sstrSooner => k_is)
    (case sstrNext => k_is)
    (case sNoneTypeR => k_is)
    (case sNoneTypeWindow => k_is)
    (case sNoneTypeDays => k_is)
    (case sNoneTypeLater => k_is)
    (case sNoneTypeSooner => k_is)
    (case sNoneTypeNext => k_is)
    (case slistR => k_is)
    (case slistWindow => k_is)
    (case slistDays => k_is)
    (case slistLater => k_is)
    (case slistSooner => k_is)
    (case slistNext => k_is)
    (case stupleR => k_is)
    (case stupleWindow => k_is)
    (case stupleDays => k_is)
    (case stupleLater => k_is)
    (case stupleSooner => k_is)
    (case stupleNext => k_is)
    (case sdictR => k_is)
    (case sdictWindow => k_is)
    (case sdictDays => k_is)
    (case sdictLater => k_is)
    (case sdictSooner => k_is)
    (case sdictNext => k_is)
    (case hn => k_is)
    (case ht => k_is)
    (case xlcm => k_is)
    (case a_InvalidNumber => k_is)
    (case xInvalidNumber => k_is)
    (case saInvalidNumber => k_is)
    (case exInvalidNumber => k_is)
    (case tyInvalidNumber => k_is)
    (case kpInvalidNumber => k_is)
    (case inInvalidNumber => k_is)
    (case tiInvalidNumber => k_is)
    (case gaInvalidNumber => k_is)
    (case ggInvalidNumber => k_is)
    (case hdInvalidNumber => k_is)
    (case clInvalidNumber => k_is)
    (case ssInvalidNumber => k_is)
    (case nvalueInvalidNumber => k_is)
    (case ncodeInvalidNumber => k_is)
    (case lInvalidNumber_init => k_is)
    (case cInvalidNumber_init => k_is)
    (case kInvalidNumber_init => k_is)
    (case iInvalidNumber_init => k_is)
    (case a_InvalidBorders => k_is)
    (case xInvalidBorders => k_is)
    (case saInvalidBorders => k_is)
    (case exInvalidBorders => k_is)
    (case tyInvalidBorders => k_is)
    (case kpInvalidBorders => k_is)
    (case inInvalidBorders => k_is)
    (case tiInvalidBorders => k_is)
    (case gaInvalidBorders => k_is)
    (case ggInvalidBorders => k_is)
    (case hdInvalidBorders => k_is)
    (case clInvalidBorders => k_is)
    (case ssInvalidBorders => k_is)
    (case natInvalidBorders => k_is)
    (case ncodeInvalidBorders => k_is)
    (case lInvalidBorders_init => k_is)
    (case cInvalidBorders_init => k_is)
    (case kInvalidBorders_init => k_is)
    (case iInvalidBorders_init => k_is)
    (case a_InvalidRest => k_is)
    (case xInvalidRest => k_is)
    (case saInvalidRest => k_is)
    (case exInvalidRest => k_is)
    (case tyInvalidRest => k_is)
    (case kpInvalidRest => k_is)
    (case inInvalidRest => k_is)
    (case tiInvalidRest => k_is)
    (case gaInvalidRest => k_is)
    (case ggInvalidRest => k_is)
    (case hdInvalidRest => k_is)
    (case clInvalidRest => k_is)
    (case ssInvalidRest => k_is)
    (case nvalueInvalidRest => k_is)
    (case ncodeInvalidRest => k_is)
    (case lInvalidRest_init => k_is)
    (case cInvalidRest_init => k_is)
    (case kInvalidRest_init => k_is)
    (case iInvalidRest_init => k_is)
    (case a_TooMany => k_is)
    (case xTooMany => k_is)
    (case saTooMany => k_is)
    (case exTooMany => k_is)
    (case tyTooMany => k_is)
    (case kpTooMany => k_is)
    (case inTooMany => k_is)
    (case tiTooMany => k_is)
    (case gaTooMany => k_is)
    (case ggTooMany => k_is)
    (case hdTooMany => k_is)
    (case clTooMany => k_is)
    (case ssTooMany => k_is)
    (case nwhatTooMany => k_is)
    (case ncountTooMany => k_is)
    (case ncodeTooMany => k_is)
    (case lTooMany_init => k_is)
    (case cTooMany_init => k_is)
    (case kTooMany_init => k_is)
    (case iTooMany_init => k_is)
    (case eBN => k_is)
    (case eRN => k_is)
    (case eRB => k_is)
    (case eTN => k_is)
    (case eTB => k_is)
    (case eTR => k_is)
    (case aSure => k_is)
    (case npt => decide)