import PyProof.Rows.All
import Wide.All
import OpenK.AllK
import Wide.FinOn
import HandS.ForMost
import HandS.IsInst
import HandS.Evl
import HandS.Zip
import HandS.ExcInit
import HandS.ExcIs
import HandS.Walk
import KE.KExcIs
import KE.KxText
import HandS.Nested
import HandS.Star
import HandS.More
import HandS.MethStar
import KE.KSuper
import HandS.FStr
import HandS.Gcd
import KE.KMathGC
import HandS.TupSets
import HandS.RaiseMore
import HandS.TupAny
import HandS.SortRule
import HandS.ForExc
import HandS.TryMany
import HandS.ExcField
import HandS.SlotsOwn
import KE.KFmtOwn
import KE.KCallOwn
import HandS.DeepEq
import HandS.Lambda
import HandS.EndTab
import HandS.HeadWalk
import HandS.Defaults
import HandS.MakeKwOnly
import HandS.EndOwn
import PySem.Challenge.RW_surelet_k10_whole_ladder_beside_a_bucket
set_option Elab.async false
set_option linter.all false
set_option maxRecDepth 100000
set_option maxHeartbeats 4000000
namespace LC
open PySem L2
/-- a def as it stands behind the top: its text, its name, how its arguments bind -/
structure Def (K : PySem.W.Frag) (mg : Str → Option Value) (x : Str) (st : Stmt) (ps : List Str) (f : Addr) (fd : FuncData) : Prop where
  F : Fun K x x st f fd
  g : mg x = some (.ref f)
  b : Binds K fd ps []
/-- all but the bag at g is as it was -/
def Kp (g : Addr) (H H' : Hp) : Prop := ∀ b o, b ≠ g → H b = some o → H' b = some o
theorem Kp.refl (g : Addr) (H : Hp) : Kp g H H := fun _ _ _ h => h
theorem Kp.trans {g : Addr} {H H1 H2 : Hp} (a : Kp g H H1) (b : Kp g H1 H2) : Kp g H H2 := fun c o n h => b c o n (a c o n h)
theorem Kp.upd {g : Addr} {H H1 : Hp} {p : Addr} {o : HO} (a : Kp g H H1) (h : H1 p = none) : Kp g H (upd H1 p o) := fun c u n e => by
  have q := a c u n e
  rw [upd_ne (ne_of_none q h)]
  exact q
theorem Kp.bag {g : Addr} {H H1 : Hp} {o : HO} (a : Kp g H H1) : Kp g H (L2.upd H1 g o) := fun c u n e => by
  rw [upd_ne n]
  exact a c u n e
theorem Kp.free {g : Addr} {H H' : Hp} (e : Kp g H H') {l : Addr} (hl : l ≠ g) (h : H' l = Option.none) : H l = Option.none := by
  cases q : H l with
  | none => rfl
  | some o =>
    rw [e l o hl q] at h
    cases h
/-- the bag of draws at g, the script's copy at l -/
def Bag (l : Addr) (H : Hp) (g : Addr) : Prop := ∃ (ns : List Int) (i d s c : Int), H g = some (.lst [.ref l, .int i, .int d, .int s, .int c]) ∧ l ≠ g ∧ H l = some (.lst (ns.map V.int)) ∧
  0 ≤ i ∧ i ≤ ns.length ∧ 0 ≤ d ∧ 0 ≤ s ∧ s < 2147483399
theorem Bag.there {l : Addr} {H : Hp} {g : Addr} (B : Bag l H g) : (∃ xs, H g = some (.lst xs)) ∧ ∃ xs, H l = some (.lst xs) := by
  obtain ⟨ns, i, d, s, c, h, _, h2, _⟩ := B
  exact ⟨⟨_, h⟩, ⟨_, h2⟩⟩
theorem Bag.ne {l : Addr} {H : Hp} {g p : Addr} (B : Bag l H g) (h : H p = none) : p ≠ g ∧ p ≠ l := by
  obtain ⟨⟨xs, q⟩, ⟨ys, r⟩⟩ := B.there
  refine ⟨fun e => ?_, fun e => ?_⟩
  · rw [e, q] at h
    cases h
  · rw [e, r] at h
    cases h
theorem Bag.mut {l : Addr} {H : Hp} {g p : Addr} {o : HO} (B : Bag l H g) (h : p ≠ g) (h' : p ≠ l) : Bag l (L2.upd H p o) g := by
  obtain ⟨ns, i, d, s, c, h1, h2, h3, r⟩ := B
  exact ⟨ns, i, d, s, c, by rw [upd_ne (Ne.symm h)]; exact h1, h2, by rw [upd_ne (Ne.symm h')]; exact h3, r⟩
/-- from H0 to H: all but the bag stands, things came beside it, the bag is one -/
structure Ok (g l : Addr) (H0 H : Hp) : Prop where
  b0 : Bag l H0 g
  kp : Kp g H0 H
  bag : Bag l H g
theorem Ok.refl {g l : Addr} {H : Hp} (B : Bag l H g) : Ok g l H H := ⟨B, Kp.refl g H, B⟩
theorem Ok.trans {g l : Addr} {H H1 H2 : Hp} (a : Ok g l H H1) (b : Ok g l H1 H2) : Ok g l H H2 := ⟨a.b0, a.kp.trans b.kp, b.bag⟩
theorem Ok.new {g l p : Addr} {H H1 : Hp} {o : HO} (a : Ok g l H H1) (h : H1 p = none) : Ok g l H (L2.upd H1 p o) := ⟨a.b0, a.kp.upd h, a.bag.mut (a.bag.ne h).1 (a.bag.ne h).2⟩
theorem Ok.free {g l p : Addr} {H H1 : Hp} (a : Ok g l H H1) (h : H1 p = none) : H p = none := a.kp.free (a.bag.ne h).1 h
theorem Ok.mut {g l p : Addr} {H H1 : Hp} {o : HO} (a : Ok g l H H1) (h : H p = none) : Ok g l H (L2.upd H1 p o) :=
  ⟨a.b0, fun b u n e => by rw [upd_ne (ne_of_none e h)]; exact a.kp b u n e, a.bag.mut (a.b0.ne h).1 (a.b0.ne h).2⟩
theorem Ok.at_ {g l p : Addr} {H H1 : Hp} {o : HO} (a : Ok g l H H1) (h : H p = some o) (n : p ≠ g) : H1 p = some o := a.kp p o n h
theorem SqL.kp {K : PySem.W.Frag} {g : Addr} {H H' : Hp} {a : Addr} {xs : List V} (e : Kp g H H') (n : a ≠ g) (h : SqL K H a xs) : SqL K H' a xs := by
  rcases h with (h | ⟨o, h⟩) | h
  · exact .inl (.inl (e _ _ n h))
  · exact .inl (.inr ⟨o, e _ _ n h⟩)
  · exact .inr h
theorem SqT.kp {K : PySem.W.Frag} {g : Addr} {H H' : Hp} {a : Addr} {xs : List V} (e : Kp g H H') (n : a ≠ g) (h : SqT K H a xs) : SqT K H' a xs := by
  rcases h with (h | ⟨o, h⟩) | h
  · exact .inl (.inl (e _ _ n h))
  · exact .inl (.inr ⟨o, e _ _ n h⟩)
  · exact .inr h
theorem ite_b {c : Bool} {A B : Prop} (h1 : c = true → A) (h2 : c = false → B) : if c = true then A else B := by
  cases c with
  | true => exact iteT (h1 rfl)
  | false => exact iteF (h2 rfl)
/-- a test of two ints -/
theorem ite_d {p : Prop} [Decidable p] {A B : Prop} (h1 : p → A) (h2 : ¬ p → B) : if decide p = true then A else B := by
  by_cases h : p
  · rw [decide_eq_true h]
    exact iteT (h1 h)
  · rw [decide_eq_false h]
    exact iteF (h2 h)
theorem ite_eq {i j : Int} {A B : Prop} (h1 : i = j → A) (h2 : i ≠ j → B) : if decide (V.int i = V.int j) = true then A else B :=
  ite_d (fun h => h1 (V.int.inj h)) fun h => h2 fun e => h (by rw [e])
section
variable {X : Cx} {CX : CXT} {k : Nat} {f : Addr} {fd : FuncData} {ps ks : List Str} {sp : Sp} {E : XK} {x : Str} {p pos : Pos} {kws : List Keyword} {tk : TA} {g : List Value → List Value → List Value} {gV : List V → List V → List V}
theorem pe_callK0 (F : FnOk X.prog X.w X.K X.mg X.base CX k f fd ps sp) (hr : Room k X.A) (hg : Gl X x) (hm : X.mg x = some (.ref f)) (hk : PySem.W.keepIn X.K (.ref f) = true) (hb : KBinds X.K fd ps ks g gV) (hx : Passes CX X E)
    (hkw : PK X kws tk) (hall : (backToKw pos (keywordEach kws X.env)).all (·.1.isSome) = true := by rfl) (hks : (backToKw pos (keywordEach kws X.env)).filterMap (·.1) = ks := by rfl)
    (hdb : (x == ("__debug__" : Str)) = false := by decide) (hpl : ((backTo pos (starEach [] X.env)).any (·.1) || (backToKw pos (keywordEach kws X.env)).any (·.1.isNone)) = false := by rfl) :
    PE X (.Call (.Name x p) [] kws pos) (tCallK sp gV E tNil tk) := by
  refine ⟨fun pins s σ H Q I h => ?_⟩
  refine wpAny_Call_Name_kw (ld_glob I hg hm ?_ hdb)
  refine PySem.W.callWith_KW0 (h₀ := X.base) I.ok.mod.kin hk hall ?_ hpl
  refine thn (hkw.run pos pins s σ H _ I h) fun ws s2 ⟨zs, H2, I2, rz, q2⟩ => ⟨I2.kIn, ?_⟩
  rw [hks]
  exact run_fnk (us := []) F hr hb hx I2 .nil rz q2
end
end LC
namespace LC
open PySem L2
theorem cut_ints (ns : List Int) (lo hi : Option Int) : ∃ ms : List Int, cutV (ns.map V.int) lo hi = ms.map V.int ∧ ms.length ≤ ns.length := by
  refine ⟨(ns.drop (HT.sIx ns.length 0 lo)).take (HT.sIx ns.length ns.length hi - HT.sIx ns.length 0 lo), ?_, ?_⟩
  · unfold cutV
    rw [List.length_map, ← List.map_drop, ← List.map_take]
  · rw [List.length_take, List.length_drop]
    omega
theorem same_new {H : Hp} {p : Addr} {o : HO} (h : H p = none) : Same H (upd H p o) := fun b u e => by
  rw [upd_ne (ne_of_none e h)]
  exact e
theorem int_of {ns : List Int} {i : Nat} {y : V} (h : (ns.map V.int)[i]? = some y) : ∃ u, y = V.int u := by
  rw [List.getElem?_map] at h
  cases e : ns[i]? with
  | none =>
    rw [e] at h
    cases h
  | some u =>
    rw [e] at h
    exact ⟨u, (Option.some.inj h).symm⟩
end LC

namespace LC
theorem fmod_nn (a : Int) {n : Int} (h : 0 < n) : 0 ≤ a.fmod n := by
  rw [Int.fmod_eq_emod_of_nonneg _ (Int.le_of_lt h)]
  exact Int.emod_nonneg _ (by omega)
theorem fmod_lt (a : Int) {n : Int} (h : 0 < n) : a.fmod n < n := by
  rw [Int.fmod_eq_emod_of_nonneg _ (Int.le_of_lt h)]
  exact Int.emod_lt_of_pos _ h
end LC

namespace LC
open PySem L2
/-- a value of any of the drawn kinds; C: the error's class -/
inductive Th (C g : Addr) (H : Hp) : V → Prop where
  | non : Th C g H .non
  | bl (b : Bool) : Th C g H (.bl b)
  | int (i : Int) : Th C g H (.int i)
  | str (z : Str) (h : z.length ≤ 1000000) : Th C g H (.str z)
  | lst {a : Addr} {xs : List V} (h : H a = some (.lst xs)) (n : a ≠ g) : Th C g H (.ref a)
  | tup {a : Addr} {xs : List V} (h : H a = some (.tup xs)) (n : a ≠ g) : Th C g H (.ref a)
  | dK {a : Addr} {kvs : List (Key × V)} (h : H a = some (.dK kvs)) (n : a ≠ g) : Th C g H (.ref a)
  | exo {a d : Addr} {fs : List (Str × V)} (h : H a = some (exo a C (some d))) (n : a ≠ g) (hd : H d = some (exd d fs)) (nd : d ≠ g) : Th C g H (.ref a)
theorem Th.kp {C g : Addr} {H H' : Hp} {v : V} (r : Kp g H H') (t : Th C g H v) : Th C g H' v := by
  cases t with
  | non => exact .non
  | bl b => exact .bl b
  | int i => exact .int i
  | str z h => exact .str z h
  | lst h n => exact .lst (r _ _ n h) n
  | tup h n => exact .tup (r _ _ n h) n
  | dK h n => exact .dK (r _ _ n h) n
  | exo h n hd nd => exact .exo (r _ _ n h) n (r _ _ nd hd) nd
theorem Th.list {C g l : Addr} {H0 H : Hp} {p : Addr} {xs : List V} (a : Ok g l H0 H) (h : H p = none) : Th C g (upd H p (.lst xs)) (.ref p) := .lst upd_same (a.bag.ne h).1
theorem Th.tupl {C g l : Addr} {H0 H : Hp} {p : Addr} {xs : List V} (a : Ok g l H0 H) (h : H p = none) : Th C g (upd H p (.tup xs)) (.ref p) := .tup upd_same (a.bag.ne h).1
theorem upd_kp {g l : Addr} {H0 H : Hp} {p : Addr} {o : HO} (a : Ok g l H0 H) (h : H p = none) : Kp g H (upd H p o) := (Ok.new (Ok.refl a.bag) h).kp
/-- a comprehension over a text whose element leaves the heap -/
theorem lc_text {z : Str} {j : Nat} {te : TE} {vs : List Nat} {σ : L2.St} {H1 : Hp} {D : Addr} {Qd : Hp → Prop} (f : Nat → V) (hD : H1 D = none) (hz : z.length ≤ 1000000) (hw : ∀ x, wipe ((wipe σ vs).set j (some x)) vs = wipe σ vs)
    (he : ∀ (c : Nat) (H : Hp) (Q : VK), c ∈ z.cps.toList → Q (f c) H → te ((wipe σ vs).set j (some (.str ⟨#[c]⟩))) H Q) (hd : Qd (upd H1 D (.lst (z.cps.toList.map f)))) :
    ∃ W : Nat → Nat → Hp → Prop, (∃ m, W 0 m (upd H1 D (.lst []))) ∧ ∀ i m H, W i m H →
      ((Its z).stop i H ∧ Qd H) ∨ ((Its z).go i H ∧ ∃ Nx : Hp → Prop, (∀ H', Nx H' → ∃ m', m' < m ∧ W (i + 1) m' H') ∧ ∀ x H', (Its z).yld i H x H' → gName j x (wipe σ vs) H' fun σ2 H2 => wipe σ2 vs = wipe σ vs ∧ tYes σ2 H2 fun b H3 =>
        if b = true then te σ2 H3 fun y H4 => ∃ acc, H4 D = some (.lst acc) ∧ acc.length < sizeLine ∧ Nx (upd H4 D (.lst (acc ++ [y]))) else Nx H3) := by
  have hn : z.cps.toList.length = z.cps.size := Array.length_toList
  refine lc_it (walk_str (z := z)) (fun i H => i ≤ z.cps.size ∧ H = upd H1 D (.lst ((z.cps.toList.take i).map f))) ⟨Nat.zero_le _, rfl⟩ (fun _ _ _ _ => trivial) ?_ ?_
  · rintro i x H H' hi ⟨_, rfl⟩ ⟨rfl, c, hc, rfl⟩
    refine ⟨hw _, ?_⟩
    have hc' : z.cps.toList[i]? = some c := by rw [Array.getElem?_toList]; exact hc
    refine he c _ _ (List.mem_of_getElem? hc') ?_
    refine ⟨_, upd_same, ?_, hi, ?_⟩
    · rw [List.length_map, List.length_take]
      have e1 : z.cps.size = z.length := rfl
      exact Nat.lt_of_le_of_lt (Nat.min_le_right _ _) (Nat.lt_of_le_of_lt (by rw [hn, e1]; exact hz) (by decide : 1000000 < sizeLine))
    · rw [upd_upd, List.take_add_one, hc', List.map_append]
      rfl
  · rintro H ⟨_, rfl⟩
    rw [← hn, List.take_length]
    exact hd
end LC
namespace LC
open PySem L2 PySem.Spec PyProof.Rows
/-- C(e, ..) as a value, C an own error class over ValueError with its own __init__, which keeps sp -/
def tMkV (C : Addr) (sp : Sp) (ta : TA) : TE := fun σ H Q => ta σ H fun vs H1 => vs.length ≤ 1000 ∧ ∀ a, H1 a = none → sp (.ref a :: vs) (upd H1 a (exo a C none)) (fun v H2 => v = .non ∧ Q (.ref a) H2) (fun _ _ _ => False)
section
variable {X : Cx} {e : Expr} {es : List Expr} {ta : TA} {p pos : Pos}
theorem pe_oexV {CX : CXT} {x : Str} {C fI : Addr} {k : Nat} {fd : FuncData} {ps : List Str} {sp : Sp} (T : OexC X.K C) (iC : PySem.W.findIn X.K (.ref C) "__init__" = some (some (.ref fI))) (tI : PySem.W.typeIn X.K (.ref fI) = some (.type "function"))
    (F1 : FnOk X.prog X.w X.K X.mg X.base CX k fI fd ps sp) (hr : Room (k + 1) X.A) (hb : Binds X.K fd ps []) (hx : Passes CX X (fun _ _ _ => False)) (hg : Gl X x) (hm : X.mg x = some (.ref C)) (ha : PA X (e :: es) ta)
    (hdb : (x == ("__debug__" : Str)) = false := by decide) (he : starEach (e :: es) X.env = (false, eval e X.env) :: starEach es X.env := by rfl) (hpl : (backTo pos (starEach es X.env)).any (·.1) = false := by rfl) :
    PE X (.Call (.Name x p) (e :: es) [] pos) (tMkV C sp ta) := by
  refine ⟨fun pins s σ H Q I h => ?_⟩
  obtain ⟨nm, q, N, bs, bm, sn, sub, ab, col, dd, k0, k1, k2, k3, k5, hC, hbm⟩ := T.cls
  refine wpAny_Call_Name_kw (ld_glob I hg hm ?_ hdb)
  refine PySem.W.callWith_K (h₀ := X.base) I.ok.mod.kin T.kC (thn (ha.run pos pins s σ H _ I h) fun us s1 ⟨vs, H1, I1, r1, hz, q1⟩ => ⟨I1.kIn, ?_⟩) he hpl
  show wpAny _ _ (call (.ref C) us) _ _ _
  obtain ⟨hp, g, dr, tk, os⟩ := s1
  have hsz : hp.objs.size ≤ hp.objs.size + 1 := Nat.le_succ _
  have hn : H1 (hp.objs.size + 1) = none := I1.hok.fresh hsz
  have hq := q1 (hp.objs.size + 1) hn
  have kk : ∀ b o, hp.get? b = some o → ((hp.push (PySem.W.kdv_tup us)).push (PySem.HandSPX.excO C hp.objs.size)).get? b = some o := fun b o e => Heap.get?_push_of_some _ (Heap.get?_push_of_some _ e)
  have hget : ((hp.push (PySem.W.kdv_tup us)).push (PySem.HandSPX.excO C hp.objs.size)).get? (hp.objs.size + 1) = some (PySem.HandSPX.excO C hp.objs.size) := by heap_get
  have I2 : L2.Inv X pins σ (upd H1 (hp.objs.size + 1) (exo (hp.objs.size + 1) C none)) ⟨(hp.push (PySem.W.kdv_tup us)).push (PySem.HandSPX.excO C hp.objs.size), g, dr, tk, os⟩ :=
    I1.laid (t' := tk) (a := hp.objs.size + 1) (o := exo (hp.objs.size + 1) C none) (h' := (hp.push (PySem.W.kdv_tup us)).push (PySem.HandSPX.excO C hp.objs.size)) kk hsz (exo_ok hget)
  have r2 : Vals (V.ref (hp.objs.size + 1) :: vs) (Value.ref (hp.objs.size + 1) :: us) := .cons rfl r1
  have hl : (Value.ref (hp.objs.size + 1) :: us ++ []).length = ps.length := by
    have e := r2.length
    rw [F1.len _ _ _ _ hq] at e
    rw [List.append_nil]
    exact e.symm
  have hus : us.length ≤ sizeLine := by
    rw [← Paired.length r1, sizeLine_eq]
    omega
  have hbb := hb _ (Value.ref (hp.objs.size + 1) :: us) I2.kIn hl
  rw [List.append_nil] at hbb
  refine wpAny_call (PySem.HandSPX.call_own F.excBase_ValueError (fun Y => PySem.HandSPX.refsVE_contains Y bm hbm) (I1.kIn _ _ hC) (PySem.W.looks_findIn I1.kIn iC) (fun self => PySem.W.bind_fn I1.kIn self tI) hus
    (codeAny_mono (F1.run _ X.stack _ _ ⟨Value.ref (hp.objs.size + 1) :: us, []⟩ (Value.ref (hp.objs.size + 1) :: us) _ _ (fun _ _ _ => False) (hr.make C us []) (I2.env0.make C us []) hbb r2 hq) fun r s' hq' => ?_))
  cases r with
  | error er => exact hx pins σ _ _ er s' I2 hq'
  | ok fl =>
    cases fl with
    | ret u =>
      obtain ⟨v, H2, os2, bare2, un2, hok2, rv, ev, q2⟩ := hq'
      subst ev
      exact ⟨rv, .ref (hp.objs.size + 1), H2, I2.call' (ch := []) os2 un2 hok2 bare2 (fun b hb => by cases hb), rfl, q2⟩
    | next => exact False.elim hq'
    | brk => exact False.elim hq'
    | cont => exact False.elim hq'
end
/-- what the written part says of an own error class, for isinstance -/
structure IsC (K : PySem.W.Frag) (C : Addr) : Prop where
  hcl : (PySem.W.clsIn K C).isSome = true
  hga : PySem.W.findIn K (.ref C) "__getattribute__" = some (some (.builtin "BaseException.__getattribute__"))
  hgt : PySem.W.findIn K (.ref C) "__getattr__" = some none
  hsub : PySem.W.subIn K (.ref C) (.type "BaseException") = some true
  ha : PySem.W.findIn K (.ref C) "__class__" = some (some (.builtin "object.__class__"))
  hn : PySem.W.specialIn K (.builtin "object.__class__") "__get__" = some (some (.builtin "getset_descriptor.__get__"))
  htk : PySem.W.takesIn K (.builtin "object.__class__") = some true
  hm : PySem.W.mroIn K C (.type "object") = some true
/-- isinstance(x, c), x an own error too -/
def rIsX (K : PySem.W.Frag) : List V → Hp → VK → Prop := fun xs H Q => rIsi K xs H Q ∨
  ∃ (a C d : Addr) (c : V) (cv : Value) (b : Bool) (fs : List (Str × V)), xs = [.ref a, c] ∧ IsC K C ∧ H a = some (exo a C (some d)) ∧ H d = some (exd d fs) ∧ ClsV c cv ∧ PySem.W.kitOne K (.ref C) cv = some b ∧ Q (.bl b) H
theorem call_isX {X : Cx} : CallR X (.builtin "isinstance") (rIsX X.K) := by
  intro pins s σ H xs us Q I r h
  rcases h with h | ⟨a, C, d, c, cv, b, fs, rfl, T, ha, hd, k, e, q⟩
  · exact call_isi pins s σ H xs us Q I r h
  · obtain ⟨u1, u2, rfl, r1, r2⟩ := vals2 r
    have e2 := k.eq r2
    subst e2
    obtain rfl : u1 = Value.ref a := r1
    obtain ⟨t1, ho⟩ := exo_at I.hok ha
    obtain ⟨od, hod⟩ : ∃ od, s.heap.get? d = some od := by
      obtain ⟨_, z, _⟩ := I.hok d _ hd
      exact z
    have J : PySem.W.InstAt s.heap a { cls := .ref C, dict := some d, data := .fields #[.ref t1, .none, .none, .none, .bool false, .none] } C (some od) := ⟨ho, rfl, rfl, hod⟩
    exact PySem.W.kia_one (PySem.W.kitx_exc T.hcl T.hga T.hgt T.hsub T.ha T.hn T.htk T.hm) I.kIn J e (fun z => nomatch z) fun tk => ⟨.bl b, H, I.tok tk, rfl, q⟩
end LC

namespace LC
open PySem L2
/-! the values of isinstance(x, int | bool | str) -/
def isI : V → Bool | .int _ => true | .bl _ => true | _ => false
def isB : V → Bool | .bl _ => true | _ => false
def isS : V → Bool | .str _ => true | _ => false
/-- what the error's class answers -/
structure NoB (K : PySem.W.Frag) (C : Addr) : Prop where
  is : IsC K C
  i : PySem.W.kitOne K (.ref C) (.type "int") = some false
  b : PySem.W.kitOne K (.ref C) (.type "bool") = some false
  s : PySem.W.kitOne K (.ref C) (.type "str") = some false
theorem isi_th {K : PySem.W.Frag} {C g : Addr} {H : Hp} {v : V} {Q : VK} (N : NoB K C) (t : Th C g H v) : (Q (.bl (isI v)) H → rIsX K [v, .ty "int"] H Q) ∧ (Q (.bl (isB v)) H → rIsX K [v, .ty "bool"] H Q) ∧ (Q (.bl (isS v)) H → rIsX K [v, .ty "str"] H Q) := by
  have go : ∀ {x : V} {T S : String} {b : Bool}, TyOf K H x (.type T) → kitB T S = some b → Q (.bl b) H → rIsX K [x, .ty S] H Q := fun ty e q => .inl ⟨_, _, _, _, _, rfl, .ty _, .base ty, kit_ty e, q⟩
  cases t with
  | non => exact ⟨go .non (show kitB "NoneType" "int" = some false by decide +kernel), go .non (show kitB "NoneType" "bool" = some false by decide +kernel), go .non (show kitB "NoneType" "str" = some false by decide +kernel)⟩
  | bl b => exact ⟨go (.bl b) (show kitB "bool" "int" = some true by decide +kernel), go (.bl b) (show kitB "bool" "bool" = some true by decide +kernel), go (.bl b) (show kitB "bool" "str" = some false by decide +kernel)⟩
  | int i => exact ⟨go (.int i) (show kitB "int" "int" = some true by decide +kernel), go (.int i) (show kitB "int" "bool" = some false by decide +kernel), go (.int i) (show kitB "int" "str" = some false by decide +kernel)⟩
  | str z h => exact ⟨go (.str z) (show kitB "str" "int" = some false by decide +kernel), go (.str z) (show kitB "str" "bool" = some false by decide +kernel), go (.str z) (show kitB "str" "str" = some true by decide +kernel)⟩
  | lst h n => exact ⟨go (.lst h) (show kitB "list" "int" = some false by decide +kernel), go (.lst h) (show kitB "list" "bool" = some false by decide +kernel), go (.lst h) (show kitB "list" "str" = some false by decide +kernel)⟩
  | tup h n => exact ⟨go (.tup h) (show kitB "tuple" "int" = some false by decide +kernel), go (.tup h) (show kitB "tuple" "bool" = some false by decide +kernel), go (.tup h) (show kitB "tuple" "str" = some false by decide +kernel)⟩
  | dK h n => exact ⟨go (.dK h) (show kitB "dict" "int" = some false by decide +kernel), go (.dK h) (show kitB "dict" "bool" = some false by decide +kernel), go (.dK h) (show kitB "dict" "str" = some false by decide +kernel)⟩
  | exo h n hd nd => exact ⟨fun q => .inr ⟨_, C, _, _, _, _, _, rfl, N.is, h, hd, .ty _, N.i, q⟩, fun q => .inr ⟨_, C, _, _, _, _, _, rfl, N.is, h, hd, .ty _, N.b, q⟩, fun q => .inr ⟨_, C, _, _, _, _, _, rfl, N.is, h, hd, .ty _, N.s, q⟩⟩
def isNum (v : V) (lo hi : Int) : Bool := match v with | .int i => decide (lo ≤ i) && decide (i ≤ hi) | _ => false
def chL (c : Nat) : Bool := decide (97 ≤ c) && decide (c ≤ 122)
def chD (c : Nat) : Bool := decide (48 ≤ c) && decide (c ≤ 57)
def isNam (v : V) : Bool := match v with | .str z => decide (1 ≤ z.length) && decide (z.length ≤ 8) && chL (z.cps.toList.getD 0 0) && z.cps.toList.all (fun c => chL c || chD c) | _ => false
theorem mem_low (c : Nat) : decide (c ∈ ("abcdefghijklmnopqrstuvwxyz" : Str).cps.toList) = chL c := by
  have e : ("abcdefghijklmnopqrstuvwxyz" : Str).cps.toList = List.range' 97 26 := by decide +kernel
  rw [e]
  unfold chL
  rw [← Bool.decide_and]
  refine decide_eq_decide.mpr ?_
  rw [List.mem_range'_1]
  omega
theorem mem_dig (c : Nat) : decide (c ∈ ("0123456789" : Str).cps.toList) = chD c := by
  have e : ("0123456789" : Str).cps.toList = List.range' 48 10 := by decide +kernel
  rw [e]
  unfold chD
  rw [← Bool.decide_and]
  refine decide_eq_decide.mpr ?_
  rw [List.mem_range'_1]
  omega
end LC
namespace LC
open PySem L2
theorem pe_ty {X : Cx} {x : Str} {pos : Pos} (n : String) (hg : Gl X x) (hm : X.mg x = none) (hv : bootBuiltins x = some (.type n)) (hn : x ≠ "__name__" := by decide) (hd : (x == ("__debug__" : Str)) = false := by decide) : PE X (.Name x pos) (tC (.ty n)) :=
  pe_bltn hg hm hv rfl hn hd
end LC
namespace LC
open PySem L2
theorem ite_nd {p : Prop} [Decidable p] {A B : Prop} (h1 : ¬ p → A) (h2 : p → B) : if (!decide p) = true then A else B := by
  by_cases h : p
  · rw [decide_eq_true h]
    exact iteF (h2 h)
  · rw [decide_eq_false h]
    exact iteT (h1 h)
theorem ite_nb {c : Bool} {A B : Prop} (h1 : c = false → A) (h2 : c = true → B) : if (!c) = true then A else B := by
  cases c with
  | true => exact iteF (h2 rfl)
  | false => exact iteT (h1 rfl)
theorem ite_is {a b : Bool} {A B : Prop} (e : a = b) (h1 : b = true → A) (h2 : b = false → B) : if a = true then A else B := by
  subst e
  exact ite_b h1 h2
theorem Ok.same {g l : Addr} {H0 H H' : Hp} (a : Ok g l H0 H) (s : Same H H') : Ok g l H0 H' := by
  refine ⟨a.b0, fun b o n e => s _ _ (a.kp b o n e), ?_⟩
  obtain ⟨ns, i, d, t, c, h1, h2, h3, r⟩ := a.bag
  exact ⟨ns, i, d, t, c, s _ _ h1, h2, s _ _ h3, r⟩
theorem Th.same {C g : Addr} {H H' : Hp} {v : V} (t : Th C g H v) (s : Same H H') : Th C g H' v := t.kp fun b o _ e => s b o e
theorem len1 {z : Str} (h : 1 ≤ z.length) : ∃ c, z.cps.toList[0]? = some c ∧ z.cps.toList.getD 0 0 = c := by
  have e : z.cps.toList.length = z.length := rfl
  have h0 : 0 < z.cps.toList.length := by omega
  refine ⟨z.cps.toList[0], List.getElem?_eq_getElem h0, ?_⟩
  rw [List.getD_eq_getElem?_getD, List.getElem?_eq_getElem h0]
  rfl
theorem sz_str {z : Str} (h : z.length ≤ 1000000) : z.length ≤ sizeLine := Nat.le_trans h (by decide)
theorem bls_map {α : Type} (l : List α) (f : α → Bool) : (l.map fun c => V.bl (f c)) = (l.map f).map V.bl := by
  rw [List.map_map]
  rfl
theorem all_id {α : Type} (l : List α) (f : α → Bool) : (l.map f).all id = l.all f := by
  rw [List.all_map]
  rfl
theorem isNam_str (z : Str) : isNam (.str z) = (decide (1 ≤ z.length) && decide (z.length ≤ 8) && chL (z.cps.toList.getD 0 0) && z.cps.toList.all (fun c => chL c || chD c)) := rfl
end LC
namespace LC
open PySem L2
theorem pe_gstr {X : Cx} {x z : Str} {t : Tok} {pos : Pos} (hg : Gl X x) (hm : X.mg x = some (.str z t)) (hd : (x == ("__debug__" : Str)) = false := by decide) : PE X (.Name x pos) (tC (.str z)) := pe_glob hg hm ⟨_, rfl⟩ hd
theorem pe_gint {X : Cx} {x : Str} {z : Int} {t : Tok} {pos : Pos} (hg : Gl X x) (hm : X.mg x = some (.int z t)) (hd : (x == ("__debug__" : Str)) = false := by decide) : PE X (.Name x pos) (tC (.int z)) := pe_glob hg hm ⟨_, rfl⟩ hd
end LC

namespace LC
open PySem L2
/-- ord('a') <= ord(sign) <= ord('z') as an element -/
theorem ord_in {a b : Str} {c i lo hi : Nat} {σ : L2.St} {H : Hp} {Q : VK} {f : Nat → Bool} (h1 : a.length = 1 ∧ a.cps.getD 0 0 = lo) (h2 : b.length = 1 ∧ b.cps.getD 0 0 = hi) (hf : f c = (decide (lo ≤ c) && decide (c ≤ hi))) (hs : σ[i]? = some (some (.str ⟨#[c]⟩))) (q : Q (.bl (f c)) H) :
    tChain (rI0 fun i j => .bl (decide (i ≤ j))) (rI0 fun i j => .bl (decide (i ≤ j))) (tCB (fun xs H Q => ∃ x, xs = [.str x] ∧ x.length = 1 ∧ Q (.int (x.cps.getD 0 0 : Nat)) H) (tCons (tC (.str a)) tNil))
      (tCB (fun xs H Q => ∃ x, xs = [.str x] ∧ x.length = 1 ∧ Q (.int (x.cps.getD 0 0 : Nat)) H) (tCons (tVar i) tNil)) (tCB (fun xs H Q => ∃ x, xs = [.str x] ∧ x.length = 1 ∧ Q (.int (x.cps.getD 0 0 : Nat)) H) (tCons (tC (.str b)) tNil)) σ H Q := by
  refine ⟨a, rfl, h1.1, _, hs, _, rfl, rfl, _, _, rfl, rfl, _, rfl, ?_⟩
  rw [h1.2]
  refine ite_d (fun e1 => ?_) (fun e1 => ?_)
  · refine ⟨b, rfl, h2.1, _, _, rfl, rfl, ?_⟩
    rw [h2.2]
    have e : f c = decide ((c : Int) ≤ (hi : Int)) := by
      rw [hf, decide_eq_true (show lo ≤ c by exact Int.ofNat_le.mp e1), Bool.true_and]
      exact decide_eq_decide.mpr Int.ofNat_le.symm
    rw [e] at q
    exact q
  · have e : f c = false := by
      rw [hf, decide_eq_false (show ¬ lo ≤ c from fun z => e1 (Int.ofNat_le.mpr z)), Bool.false_and]
    rw [e] at q
    exact q
end LC
namespace LC
open PySem L2
/-- a comprehension over range(n) whose element draws: the list's items all in F -/
theorem lc_draws {n : Nat} {j : Nat} {te : TE} {vs : List Nat} {σ : L2.St} {g l : Addr} {H0 H1 : Hp} {D : Addr} {Qd : Hp → Prop} (F : Hp → V → Prop) (R : Ok g l H0 H1) (hD : H1 D = none) (hn : n ≤ 1000000)
    (hw : ∀ x, wipe ((wipe σ vs).set j (some x)) vs = wipe σ vs) (hF : ∀ x H H', F H x → Kp g H H' → F H' x) (hG : ∀ x H xs ys, H D = some (.lst xs) → F H x → F (upd H D (.lst ys)) x)
    (he : ∀ (i : Nat) (H : Hp) (Q : VK), i < n → Ok g l H0 H → (∀ x H', F H' x → Ok g l H H' → Q x H') → te ((wipe σ vs).set j (some (.int (0 + (i : Int))))) H Q)
    (hd : ∀ H xs, Ok g l H0 H → Kp g H1 H → H D = some (.lst xs) → xs.length = n → (∀ x ∈ xs, F H x) → Qd H) :
    ∃ W : Nat → Nat → Hp → Prop, (∃ m, W 0 m (upd H1 D (.lst []))) ∧ ∀ i m H, W i m H →
      ((Itr 0 n).stop i H ∧ Qd H) ∨ ((Itr 0 n).go i H ∧ ∃ Nx : Hp → Prop, (∀ H', Nx H' → ∃ m', m' < m ∧ W (i + 1) m' H') ∧ ∀ x H', (Itr 0 n).yld i H x H' → gName j x (wipe σ vs) H' fun σ2 H2 => wipe σ2 vs = wipe σ vs ∧ tYes σ2 H2 fun b H3 =>
        if b = true then te σ2 H3 fun y H4 => ∃ acc, H4 D = some (.lst acc) ∧ acc.length < sizeLine ∧ Nx (upd H4 D (.lst (acc ++ [y]))) else Nx H3) := by
  have nD := R.bag.ne hD
  refine lc_it walk_range (fun i H => i ≤ n ∧ Ok g l H1 H ∧ ∃ xs, H D = some (.lst xs) ∧ xs.length = i ∧ ∀ x ∈ xs, F H x) ⟨Nat.zero_le _, Ok.new (Ok.refl R.bag) hD, [], upd_same, rfl, fun x hx => by cases hx⟩ (fun _ _ _ _ => trivial) ?_ ?_
  · rintro i x H H' hi ⟨_, r, xs, h1, h2, h3⟩ ⟨rfl, rfl⟩
    refine ⟨hw _, ?_⟩
    refine he i _ _ hi (R.trans r) fun x H2 fx r2 => ?_
    have h4 := r2.kp D _ nD.1 h1
    refine ⟨xs, h4, Nat.lt_of_lt_of_le (by omega : xs.length < 1000000 + 1) (by decide), hi, (r.trans r2).mut hD, xs ++ [x], upd_same, by rw [List.length_append, h2]; rfl, fun y hy => ?_⟩
    refine hG y H2 xs _ h4 ?_
    rcases List.mem_append.mp hy with hy | hy
    · exact hF y _ _ (h3 y hy) r2.kp
    · rw [List.mem_singleton] at hy
      rw [hy]
      exact fx
  · rintro H ⟨_, r, xs, h1, h2, h3⟩
    exact hd H xs (R.trans r) r.kp h1 h2 h3
end LC

namespace LC
open PySem L2
theorem Th.lstmut {C g : Addr} {H : Hp} {D : Addr} {v : V} {xs ys : List V} (h : H D = some (.lst xs)) (t : Th C g H v) : Th C g (upd H D (.lst ys)) v := by
  cases t with
  | non => exact .non
  | bl b => exact .bl b
  | int i => exact .int i
  | str z h => exact .str z h
  | @lst a xs' h' n =>
    by_cases e : a = D
    · subst e
      exact .lst upd_same n
    · exact .lst (by rw [upd_ne e]; exact h') n
  | tup h' n => exact .tup (by rw [upd_ne (ne_of h' h (by intro z; cases z))]; exact h') n
  | dK h' n => exact .dK (by rw [upd_ne (ne_of h' h (by intro z; cases z))]; exact h') n
  | exo h' n hd nd => exact .exo (by rw [upd_ne (ne_of h' h (by intro z; cases z))]; exact h') n (by rw [upd_ne (ne_of hd h (by intro z; cases z))]; exact hd) nd
end LC

namespace LC
open PySem L2
theorem Th.dKmut {C g : Addr} {H : Hp} {D : Addr} {v : V} {xs ys : List (Key × V)} (h : H D = some (.dK xs)) (t : Th C g H v) : Th C g (upd H D (.dK ys)) v := by
  cases t with
  | non => exact .non
  | bl b => exact .bl b
  | int i => exact .int i
  | str z h => exact .str z h
  | @dK a xs' h' n =>
    by_cases e : a = D
    · subst e
      exact .dK upd_same n
    · exact .dK (by rw [upd_ne e]; exact h') n
  | tup h' n => exact .tup (by rw [upd_ne (ne_of h' h (by intro z; cases z))]; exact h') n
  | lst h' n => exact .lst (by rw [upd_ne (ne_of h' h (by intro z; cases z))]; exact h') n
  | exo h' n hd nd => exact .exo (by rw [upd_ne (ne_of h' h (by intro z; cases z))]; exact h') n (by rw [upd_ne (ne_of hd h (by intro z; cases z))]; exact hd) nd
theorem Th.upd {C g l : Addr} {H0 H : Hp} {p : Addr} {o : HO} {v : V} (a : Ok g l H0 H) (h : H p = none) (t : Th C g H v) : Th C g (L2.upd H p o) v := t.kp (upd_kp a h)
theorem Th.dict {C g l : Addr} {H0 H : Hp} {p : Addr} {xs : List (Key × V)} (a : Ok g l H0 H) (h : H p = none) : Th C g (L2.upd H p (.dK xs)) (.ref p) := .dK upd_same (a.bag.ne h).1
end LC

namespace LC
open PySem L2
/-- a dict stands at p -/
def Dd (g : Addr) (H : Hp) (p : Addr) : Prop := p ≠ g ∧ ∃ kvs, H p = some (.dK kvs)
theorem Dd.new {g : Addr} {H : Hp} {p q : Addr} {o : HO} (d : Dd g H p) (h : H q = none) : Dd g (L2.upd H q o) p := by
  obtain ⟨n, kvs, e⟩ := d
  exact ⟨n, kvs, by rw [upd_ne (ne_of_none e h)]; exact e⟩
theorem Dd.dict {g : Addr} {H : Hp} {p q : Addr} {kvs : List (Key × V)} (d : Dd g H p) : Dd g (L2.upd H q (.dK kvs)) p := by
  obtain ⟨n, ks, e⟩ := d
  by_cases h : p = q
  · subst h
    exact ⟨n, kvs, upd_same⟩
  · exact ⟨n, ks, by rw [upd_ne h]; exact e⟩
theorem Dd.mk' {g l : Addr} {H0 H : Hp} {p : Addr} {kvs : List (Key × V)} (a : Ok g l H0 H) (h : H p = none) : Dd g (L2.upd H p (.dK kvs)) p := ⟨(a.bag.ne h).1, kvs, upd_same⟩
theorem Dd.th {C g : Addr} {H : Hp} {p : Addr} (d : Dd g H p) : Th C g H (.ref p) := by
  obtain ⟨n, kvs, e⟩ := d
  exact .dK e n
end LC
namespace LC
open PySem L2
theorem strs_of (z : Str) : ∀ xs : List V, (∀ x ∈ xs, ∃ c ∈ z.cps.toList, x = V.str ⟨#[c]⟩) → ∃ ys : List Str, xs = ys.map V.str ∧ (∀ y ∈ ys, y.length = 1) ∧ ys.length = xs.length
  | [], _ => ⟨[], rfl, (fun y hy => by cases hy), rfl⟩
  | x :: r, h => by
    obtain ⟨ys, e, h1, h2⟩ := strs_of z r fun y hy => h y (List.mem_cons_of_mem _ hy)
    obtain ⟨c, _, rfl⟩ := h x (List.mem_cons_self ..)
    refine ⟨⟨#[c]⟩ :: ys, by rw [e]; rfl, fun y hy => ?_, by rw [List.length_cons, h2]; rfl⟩
    rcases List.mem_cons.mp hy with rfl | hy
    · rfl
    · exact h1 y hy
theorem sum_ones : ∀ ys : List Str, (∀ y ∈ ys, y.length = 1) → (ys.map (·.length)).sum = ys.length
  | [], _ => rfl
  | y :: r, h => by
    have e := sum_ones r fun z hz => h z (List.mem_cons_of_mem _ hz)
    show (y.length :: r.map (·.length)).sum = r.length + 1
    rw [List.sum_cons, e, h y (List.mem_cons_self ..)]
    omega
theorem cutS_le (z : Str) (lo hi : Option Int) : (cutS z lo hi).length ≤ z.length := by
  show (cutS z lo hi).cps.size ≤ z.cps.size
  unfold cutS
  rw [List.size_toArray, List.length_take, List.length_drop, Array.length_toList]
  omega
end LC

namespace LC
open PySem L2
theorem kp_of {g : Addr} {H1 H2 : Hp} {a : Addr} {o : HO} (ha : H1 a = none) (k : ∀ b u, b ≠ a → L2.upd H1 a o b = some u → H2 b = some u) : Kp g H1 H2 := fun b u _ e => k b u (ne_of_none e ha) (by rw [upd_ne (ne_of_none e ha)]; exact e)
theorem log_small {i : Int} (h0 : -1000000 ≤ i) (h1 : i ≤ 1000000) : i.natAbs.log2 < 1920 := Nat.lt_trans (PySem.Flt.log2_lt_of (k := 20) (by decide) (Nat.lt_of_le_of_lt (show i.natAbs ≤ 1000000 by omega) (by decide))) (by decide)
end LC

namespace LC
theorem ite_same {c : Prop} [Decidable c] {A B C : Prop} (h : C) (h1 : C → A) (h2 : C → B) : if c then A else B := by
  by_cases q : c
  · rw [if_pos q]
    exact h1 h
  · rw [if_neg q]
    exact h2 h
theorem ite_nbeq {b : Bool} {A B : Prop} (h : B) : if (!(b == b)) = true then A else B := by
  rw [beq_self_eq_true]
  exact L2.iteF h
end LC

namespace LC
open PySem L2
theorem kit_sub {K : PySem.W.Frag} {C : Addr} {T : String} {b : Bool} (m : PySem.W.kitMeta T = true) (h : PySem.W.subIn K (.ref C) (.type T) = some b) : PySem.W.kitOne K (.ref C) (.type T) = some b := by
  have e : ((Value.ref C : Value) == Value.type T) = false := rfl
  unfold PySem.W.kitOne
  rw [e, if_neg Bool.false_ne_true]
  show (if PySem.W.kitMeta T = true then PySem.W.subIn K (.ref C) (.type T) else none) = some b
  rw [m, if_pos rfl]
  exact h
theorem cls_some {K : PySem.W.Frag} {C : Addr} {nm q : Str} {N : Addr} {bs bm : List Value} {sn : List Str} {sub : List Value} {ab : Bool} {col : Option Bool} {dd : Option Addr} {k0 k1 k2 k3 k5 : Option Value} {nw : String} (h : K.lookup C = some (excClassObj nm q C N bs bm true sn sub ab col dd k0 k1 k2 k3 k5 nw)) : (PySem.W.clsIn K C).isSome = true := by
  unfold PySem.W.clsIn
  rw [h] <;> rfl
theorem refs_ve (S : Addr) : PySem.HandSPX.refsVE [.ref S, .type "ValueError", .type "Exception", .type "BaseException", .type "object"] = true := by
  show PySem.HandSPX.refsVE [.type "ValueError", .type "Exception", .type "BaseException", .type "object"] = true
  decide +kernel
end LC

namespace LS
open PySem L2 NdefX
/-! ### bodies that say super(): run at their own code -/
structure PSAt (X : Cx) (c : Code) (st : Stmt) (t : TS) : Prop where
  run : ∀ (pins : List (Addr × Obj)) (s : Shared) (σ : L2.St) (H : Hp) (D : Ends), Inv X pins σ H s → t D σ H → PySem.wpAt (model X.prog X.w) X.A c (exec st X.env) (SP X pins D) X.xe s
structure PSsAt (X : Cx) (c : Code) (ss : List Stmt) (t : TS) : Prop where
  run : ∀ (pins : List (Addr × Obj)) (s : Shared) (σ : L2.St) (H : Hp) (D : Ends), Inv X pins σ H s → t D σ H → PySem.wpAt (model X.prog X.w) X.A c (execs ss X.env) (SP X pins D) X.xe s
section
variable {X : Cx} {c : Code} {st : Stmt} {rest : List Stmt} {t u : TS}
theorem psa (h : PS X st t) : PSAt X c st t := ⟨fun pins s σ H D I q => PySem.wpAt_of_wpAny (h.run pins s σ H D I q)⟩
theorem pssa (h : PSs X rest t) : PSsAt X c rest t := ⟨fun pins s σ H D I q => PySem.wpAt_of_wpAny (h.run pins s σ H D I q)⟩
theorem pssa_cons (h1 : PSAt X c st t) (h2 : PSsAt X c rest u) : PSsAt X c (st :: rest) (tSeq t u) := by
  refine ⟨fun pins s σ H D I h => ?_⟩
  refine ks_wpAt_execs_cons (PySem.wpAt_mono (h1.run pins s σ H { D with nx := u D } I h) (fun f s1 q => ?_) fun _ _ x => x)
  cases f with
  | next =>
    obtain ⟨σ', H', I', q⟩ := q
    exact h2.run pins s1 σ' H' D I' q
  | ret v => exact q
  | brk => exact q
  | cont => exact q
end
/-- what the written part says of the method f of the class D, which says super(): its def, its code, the cell of its class; the base's method f2 -/
structure SupF (P : Program) (K : PySem.W.Frag) (F : NF) (f D f2 : Addr) (m : Str) : Prop where
  fn : ∃ (oc : Value) (od : Option Addr) (doc pm ct : Value) (osl : Array (Option Value)), K.lookup f = some ⟨oc, od, .func (F.fd doc pm ct), osl⟩
  cd : PySem.W.codeIn K (.ref F.c) F.qual = true
  code : ∃ (oc : Value) (od : Option Addr) (vs : Array Value) (sl : Array (Option Value)) (file : Str) (tf : Tok), K.lookup F.c = some ⟨oc, od, .fields vs, sl⟩ ∧ vs[2]? = some (.str file tf) ∧ ((P.main.file : Str) == file) = true
  cell : ∃ (cc : Addr) (oc : Value) (od : Option Addr) (sl : Array (Option Value)), F.cl = [(("__class__" : Str), cc)] ∧ K.lookup cc = some ⟨oc, od, .cell (some (.ref D)), sl⟩
  cls : ∃ cd, PySem.W.clsIn K D = some cd
  sub : PySem.W.mroIn K D (.ref D) = some true
  sup : PySem.W.ks_superIn K D D m = some (some (.ref f2))
  ty : PySem.W.typeIn K (.ref f2) = some (.type "function")
  op : PySem.W.nsIn K cStatics "thirdparty.any" = some none
  fi : PySem.W.fnIn K f2 = true
  top : (P.main.scope.names.lookup ("super" : Str)).isSome = false
/-- super().m(e, ..): the base's method, its promise sp; self in slot 0 -/
def tSup (D f2 : Addr) (sp : Sp) (ta : TA) : TE := fun σ H Q => ∃ (x dx : Addr) (fs : List (Str × V)), σ[0]? = some (some (.ref x)) ∧ H x = some (.ins D dx fs) ∧
  ∀ q, H q = none → ta σ (upd H q (.met f2 x)) fun vs H1 => H1 q = some (.met f2 x) ∧ sp (.ref x :: vs) H1 Q E0
section
variable {X : Cx} {F : NF} {f D f2 : Addr} {m : Str} {sp : Sp} {k : Nat} {e : Expr} {es : List Expr} {ta : TA} {p0 p1 p2 pos pos' : Pos}
theorem sup_core (S : SupF X.prog X.K F f D f2 m) (hF : X.env.scope = F.scope ∧ X.env.func = some f ∧ X.env.code = .ref F.c ∧ X.env.cells = F.cl) (hmg : X.mg "super" = none) (hat : (m == ("__class__" : Str)) = false)
    (hks : F.scope.names.lookup ("super" : Str) = some .globalImplicit) (hkc : F.scope.names.lookup ("__class__" : Str) = some .free) (hka : F.scope.names.lookup ("self" : Str) = some .local) (hN : X.N[0]? = some ("self" : Str))
    (hp : ∃ ar, (F.params.posonlyargs ++ F.params.args).head? = some ar ∧ ar.arg = "self") {body : List Stmt} {whole : Sem Value} {Q : Value → Shared → Prop}
    {pins : List (Addr × Obj)} {s : Shared} {σ : L2.St} {H : Hp} {x dx : Addr} {fs : List (Str × V)} (I : Inv X pins σ H s) (hs : σ[0]? = some (some (.ref x))) (hx : H x = some (.ins D dx fs))
    (h : ∀ (so : Addr) (s' : Shared), Inv X pins σ H s' → s'.heap.get? so = some { cls := .type "super", dict := none, data := .fields #[.ref D, .ref x, .ref D], slots := #[] } → Q (.ref so) s') :
    PySem.wpAt (model X.prog X.w) X.A (.func body X.env) (attributeBase (.Call (.Name "super" p0) [] [] p1) m X.env whole) Q X.xe s := by
  obtain ⟨hsc, hfu, hco, hce⟩ := hF
  obtain ⟨oc, od, doc, pm, ct, osl, lf⟩ := S.fn
  obtain ⟨occ, occd, vs, ccs, file, tf, lc, hvs, hfile⟩ := S.code
  obtain ⟨cc, cl, cld, csl, ecl, lcell⟩ := S.cell
  obtain ⟨cdD, hD⟩ := S.cls
  obtain ⟨ar, ha1, ha2⟩ := hp
  have KX := I.kIn
  obtain ⟨oD, hD1, hD2⟩ : ∃ oD, s.heap.get? D = some oD ∧ oD.data = .cls cdD := by
    unfold PySem.W.clsIn at hD
    split at hD
    · rename_i c d cd' sl ho
      cases hD
      exact ⟨_, KX _ _ ho, rfl⟩
    · cases hD
  have kks : X.env.kindOf "super" = some .globalImplicit := by
    show X.env.scope.names.lookup ("super" : Str) = _
    rw [hsc]; exact hks
  have kkc : X.env.kindOf "__class__" = some .free := by
    show X.env.scope.names.lookup ("__class__" : Str) = _
    rw [hsc]; exact hkc
  have kka : X.env.kindOf "self" = some .local := by
    show X.env.scope.names.lookup ("self" : Str) = _
    rw [hsc]; exact hka
  obtain ⟨mb, b1, b2⟩ := I.mod.blt
  obtain ⟨mA, O, _, _, _, _⟩ := ins_get I.hok hx
  obtain ⟨odx, J, _⟩ := O.look
  obtain ⟨ml, hns, hl⟩ := I.loc
  have vself : ml "self" = some (.ref x) := by
    obtain ⟨u, ru, lk⟩ := hl 0 "self" (.ref x) hN hs (.inl (by rw [hsc]; exact hka))
    cases ru
    rcases lk with ⟨_, e1⟩ | ⟨z, _⟩
    · exact e1
    · rw [kka] at z
      rcases z with z | z <;> cases z
  refine ks_wpAt_super_base (env := X.env) kks kkc hat hfu (KX _ _ lf) rfl ha1 hco (KX _ _ lc) rfl hvs hfile S.top ?_
  refine PySem.W.ks_loadName_global I.ok.kind kks (Calls.loadGlobal_builtin (by rw [I.ok.glob]; exact I.mod.glob.keeps I.bk) hmg (by rw [I.ok.blt]; exact b1.keeps I.bk) ((b2 "super" (by decide +kernel)).trans (by decide +kernel : bootBuiltins "super" = some (.type "super"))) ⟨rfl, ?_⟩)
  refine wpAny_loadName_free I.ok.kind kkc (by rw [hce, ecl]; rfl) ⟨_, KX _ _ lcell, rfl⟩ ?_
  rw [ha2]
  refine wpAny_loadName_local I.ok.kind kka hns vself ?_
  refine ks_wpAny_isType_cls hD1 hD2 ⟨rfl, ?_⟩
  obtain ⟨hh, g, dr, t, os⟩ := s
  refine ks_wpAny_call_super hD1 hD2 J.at_ J.cls (fun c e => ?_) (PySem.W.looks_mroIn KX S.sub) (fun h' eso kk => ?_)
  · have z := J.no
    unfold PySem.W.notCls at z
    rw [e] at z
    exact Bool.noConfusion z
  exact h _ _ (I.kept (t' := t) kk) eso
theorem sup_facts (S : SupF X.prog X.K F f D f2 m) {pins : List (Addr × Obj)} {s : Shared} {σ : L2.St} {H : Hp} {x dx : Addr} {fs : List (Str × V)} (I : Inv X pins σ H s) (hx : H x = some (.ins D dx fs)) :
    PySem.W.Looks (model X.prog X.w) s.heap (opaqueClassAbove (.ref D)) none ∧ ∃ (l0 : List Value) (of : Obj), PySem.W.Looks (model X.prog X.w) s.heap (mroOf (.ref D)) l0 ∧ PySem.W.alongIn X.K m ((l0.dropWhile (· != .ref D)).drop 1) = some (some (.ref f2)) ∧ s.heap.get? f2 = some of ∧ of.cls = .type "function" ∧ x ≠ D := by
  obtain ⟨cdD, hD⟩ := S.cls
  have KX2 := I.kIn
  have hm := S.sup
  unfold PySem.W.ks_superIn at hm
  rw [hD] at hm
  obtain ⟨of, hof, hofc⟩ : ∃ of, s.heap.get? f2 = some of ∧ of.cls = .type "function" := by
    have ht' : (X.K.lookup f2).map (·.cls) = some (.type "function") := S.ty
    cases z : X.K.lookup f2 with
    | none => rw [z] at ht'; cases ht'
    | some of => rw [z] at ht'; exact ⟨of, KX2 _ _ z, Option.some.inj ht'⟩
  obtain ⟨mA, O, _, _, _, _⟩ := ins_get I.hok hx
  obtain ⟨odx, J, _⟩ := O.look
  exact ⟨PySem.W.looks_opaque KX2 S.op, cdD.mro, of, fun A Q E s k q => wpAny_bind ((PySem.W.looks_clsIn KX2 hD) A _ E s k (wpAny_pure q)), hm, hof, hofc, PySem.W.ks_ne KX2 J hD⟩
theorem sup_meth (S : SupF X.prog X.K F f D f2 m) (hat : (m == ("__class__" : Str)) = false) {pl : Sem Bool} {Q : Value × List Value → Shared → Prop}
    {pins : List (Addr × Obj)} {s : Shared} {σ : L2.St} {H : Hp} {x dx so : Addr} {fs : List (Str × V)} (I : Inv X pins σ H s) (hx : H x = some (.ins D dx fs))
    (eso : s.heap.get? so = some { cls := .type "super", dict := none, data := .fields #[.ref D, .ref x, .ref D], slots := #[] })
    (h : ∀ (q : Addr) (s' : Shared), H q = none → Inv X pins σ (upd H q (.met f2 x)) s' → Q (.ref q, []) s') : wpAny (model X.prog X.w) X.A (getMethod (.ref so) m pl) Q X.xe s := by
  obtain ⟨h1, l0, of, h2, hm, hof, hofc, hne⟩ := sup_facts S I hx
  have KX := I.kIn
  obtain ⟨h', g, dr, t, os⟩ := s
  refine ks_wpAny_getMethod_super eso h1 h2 rfl KX hm hof hofc hne hat ?_
  refine h h'.objs.size _ (I.hok.fresh (Nat.le_refl _)) ?_
  exact I.laid (t' := t + 1) (a := h'.objs.size) (o := .met f2 x) (fun b u z => Heap.get?_push_of_some _ z) (Nat.le_refl _)
    (show (h'.push (PySem.W.methodObj (.ref f2) (.ref x))).get? h'.objs.size = some (PySem.W.methodObj (.ref f2) (.ref x)) from Heap.get?_push_size h' rfl)
theorem getAttr_super {prog : Program} {w : World} {A : Around} {E : Value → Shared → Prop} {h : Heap} {g : Array GenState} {d : Drawn} {t : Nat} {os : OsState} {so D x C f : Addr} {of : Obj} {l₀ l : List Value} {K : PySem.W.Frag} {name : Str} {b : Bool} {Q : Value → Shared → Prop}
    (hso : h.get? so = some { cls := .type "super", dict := none, data := .fields #[.ref D, .ref x, .ref C], slots := #[] }) (hno : PySem.W.Looks (model prog w) h (opaqueClassAbove (.ref C)) none)
    (hC : PySem.W.Looks (model prog w) h (mroOf (.ref C)) l₀) (hl : (l₀.dropWhile (· != .ref D)).drop 1 = l) (X : K.In h)
    (hf : PySem.W.alongIn K name l = some (some (.ref f))) (hfo : h.get? f = some of) (hfc : of.cls = .type "function") (hxC : x ≠ C) (hn : (name == ("__class__" : Str)) = false)
    (hq : Q (.ref h.objs.size) ⟨h.push { cls := .type "method", data := .fields #[.ref f, .ref x] }, g, d, t + 1, os⟩) :
    wpAny (model prog w) A (getAttr (.ref so) name b) Q E ⟨h, g, d, t, os⟩ := by
  have hlk := F.ks_slot_super_ga.lookup
  have hT : ∀ t', (⟨h, g, d, t', os⟩ : Shared).TypeIs (.ref so) "super" := fun _ => ⟨_, hso, rfl⟩
  unfold getAttr getAttrBy
  refine wpAny_bind (wpAny_mkText (wpAny_holding (wpAny_bind (wpAny_typeOf (hT _) (wpAny_bind (wpAny_of_eq hlk ?_))))))
  show wpAny _ _ (getAttrByItsOwn (.ref so) (.str name t) (.type "super") (.builtin "super.__getattribute__") true b) _ _ _
  unfold getAttrByItsOwn hookBefore callGetattribute boundAndCalled
  refine wpAny_bind (wpAny_of_eq (show (if onTheHeap (.type "super") then typeLookup (.type "super") "__getattr__" else pure none) = pure none from rfl) ?_)
  refine wpAny_bind (wpAny_attempt (wpAny_holding ?_))
  have e0 : (b && onTheHeap (Value.builtin "super.__getattribute__")) = false := by cases b <;> rfl
  rw [e0, if_neg Bool.false_ne_true]
  refine wpAny_bind (wpAny_of_eq (F.ks_slot_super_ga.bind _) ?_)
  refine wpAny_mono (Q := fun v s' => v = .ref h.objs.size ∧ s' = ⟨h.push { cls := .type "method", data := .fields #[.ref f, .ref x] }, g, d, t + 1, os⟩) (E := fun _ _ => False)
    (wpAny_call_entry F.ks_slot_super_ga (hT _) F.ks_entry_super_ga (ks_wpAny_super_ga hso hno hC hl X hf hfo hfc hxC hn ⟨_, rfl, rfl, rfl⟩) (F.ks_gaArgs_super _ _)) (fun v s' hv => ?_) fun _ _ z => z.elim
  obtain ⟨rfl, rfl⟩ := hv
  exact wpAny_pure hq
/-- super().m(e, ..) as a statement -/
theorem ps_sup (S : SupF X.prog X.K F f D f2 m) (hF : X.env.scope = F.scope ∧ X.env.func = some f ∧ X.env.code = .ref F.c ∧ X.env.cells = F.cl) (hmg : X.mg "super" = none) (F2 : FnR X.prog X.w X.K X.mg X.base CX0 k f2 sp) (hr : Room k X.A) (ha : PA X (e :: es) ta)
    (hp : ∃ ar, (F.params.posonlyargs ++ F.params.args).head? = some ar ∧ ar.arg = "self") (hat : (m == ("__class__" : Str)) = false := by decide)
    (hks : F.scope.names.lookup ("super" : Str) = some .globalImplicit := by rfl) (hkc : F.scope.names.lookup ("__class__" : Str) = some .free := by rfl) (hka : F.scope.names.lookup ("self" : Str) = some .local := by rfl) (hN : X.N[0]? = some ("self" : Str) := by rfl)
    {pl : Sem Bool} (he : eval (.Call (.Attribute (.Call (.Name "super" p0) [] [] p1) m p2) (e :: es) [] pos) X.env = (do
      let ov ← attributeBase (.Call (.Name "super" p0) [] [] p1) m X.env (eval (.Call (.Name "super" p0) [] [] p1) X.env)
      standAt p2.atName
      let (f, first) ← holding [ov] (getMethod ov m pl)
      callWith pos f first (backTo pos (starEach (e :: es) X.env)) []) := by rfl)
    (hst : starEach (e :: es) X.env = (false, eval e X.env) :: starEach es X.env := by rfl) (hpl : (backTo pos (starEach es X.env)).any (·.1) = false := by rfl)
    (hsw : swapsWith (.Call (.Attribute (.Call (.Name "super" p0) [] [] p1) m p2) (e :: es) [] pos) none pos'.line X.env = pure false := by rfl) :
    PSAt X (.func F.body X.env) (.Expr (.Call (.Attribute (.Call (.Name "super" p0) [] [] p1) m p2) (e :: es) [] pos) pos') (tDrop (tSup D f2 sp ta)) := by
  refine ⟨fun pins s σ H Dn I h => ?_⟩
  obtain ⟨x, dx, fs, hs, hx, q⟩ := h
  refine ks_wpAt_Expr_any (ks_wpAt_MethodCall (pl := pl) (sup_core S hF hmg hat hks hkc hka hN hp I hs hx fun so s0 I0 eso => sup_meth S hat I0 hx eso fun q1 s1 hq1 I1 => ?_) he) I.quiet hsw
  refine callwith_met (a := x) (by rw [hst]; show ((false || (backTo pos (starEach es X.env)).any (·.1)) || false) = false; rw [hpl]; rfl) S.fi ?_
  have hrun := ha.run pos pins s1 σ _ _ I1 (q q1 hq1)
  rw [hst] at hrun ⊢
  refine Calls.evalArgs_plain (thn hrun fun us s2 ⟨vs, H2, I2, rv, hm2, q2⟩ => ?_)
  refine ⟨met_P I2 hm2, ?_⟩
  refine wpAny_call (PySem.W.method_call (met_P I2 hm2).1 (codeAny_mono (run_fnR (us := .ref x :: us) (vs := .ref x :: vs) F2 hr pass0 I2 (.cons rfl rv) q2) fun r s' hr' => ?_))
  cases r with
  | error e => exact hr'
  | ok fl =>
    cases fl with
    | ret u =>
      obtain ⟨v, H', I', _, q'⟩ := hr'
      exact ⟨σ, H', I', q'⟩
    | next => exact hr'
    | brk => exact hr'
    | cont => exact hr'
end
/-- super().m(*e), e a tuple or a list -/
def tSupS (K : PySem.W.Frag) (D f2 : Addr) (sp : Sp) (te : TE) : TE := fun σ H Q => ∃ (x dx : Addr) (fs : List (Str × V)), σ[0]? = some (some (.ref x)) ∧ H x = some (.ins D dx fs) ∧
  ∀ q, H q = none → te σ (upd H q (.met f2 x)) fun y H1 => ∃ b vs, y = .ref b ∧ (SqT K H1 b vs ∨ SqL K H1 b vs) ∧ H1 q = some (.met f2 x) ∧ sp (.ref x :: vs) H1 Q E0
section
variable {X : Cx} {F : NF} {f D f2 : Addr} {m : Str} {sp : Sp} {k : Nat} {e : Expr} {te : TE} {p p0 p1 p2 pos pos' : Pos}
theorem ps_supS (S : SupF X.prog X.K F f D f2 m) (hF : X.env.scope = F.scope ∧ X.env.func = some f ∧ X.env.code = .ref F.c ∧ X.env.cells = F.cl) (hmg : X.mg "super" = none) (F2 : FnR X.prog X.w X.K X.mg X.base CX0 k f2 sp) (hr : Room k X.A) (ha : PE X e te)
    (hp : ∃ ar, (F.params.posonlyargs ++ F.params.args).head? = some ar ∧ ar.arg = "self") (hat : (m == ("__class__" : Str)) = false := by decide)
    (hks : F.scope.names.lookup ("super" : Str) = some .globalImplicit := by rfl) (hkc : F.scope.names.lookup ("__class__" : Str) = some .free := by rfl) (hka : F.scope.names.lookup ("self" : Str) = some .local := by rfl) (hN : X.N[0]? = some ("self" : Str) := by rfl)
    (hsw : swapsWith (.Call (.Attribute (.Call (.Name "super" p0) [] [] p1) m p2) [.Starred e p] [] pos) none pos'.line X.env = pure false := by rfl) :
    PSAt X (.func F.body X.env) (.Expr (.Call (.Attribute (.Call (.Name "super" p0) [] [] p1) m p2) [.Starred e p] [] pos) pos') (tDrop (tSupS X.K D f2 sp te)) := by
  refine ⟨fun pins s σ H Dn I h => ?_⟩
  obtain ⟨x, dx, fs, hs, hx, q⟩ := h
  have hse : starEach [.Starred e p] X.env = [(true, eval e X.env)] := rfl
  have hke : backToKw pos (keywordEach [] X.env) = [] := rfl
  have hform : methodCallForm ([Expr.Starred e p].length + ([] : List Keyword).length) (backTo pos [(true, eval e X.env)]) [] = false := rfl
  have hpos : methodCallPos false (.Call (.Name "super" p0) [] [] p1) X.env p2 pos = pure pos := rfl
  have hcal : ∀ ov, calleeOf false (.Call (.Name "super" p0) [] [] p1) X.env ov m = (getAttr ov m true >>= fun v => pure (v, [])) := fun _ => rfl
  refine ks_wpAt_Expr_any ?_ I.quiet hsw
  rw [arm_eval_Call, hse, hke]
  refine PySem.wpAt_bind (sup_core S hF hmg hat hks hkc hka hN hp I hs hx fun so s0 I0 eso => ?_)
  refine PySem.wpAt_of_wpAny ?_
  refine wpAny_bind (wpAny_standAt ?_)
  unfold methodCall
  rw [hform, hpos, hcal]
  obtain ⟨h1, l0, of, h2, hm, hof, hofc, hne⟩ := sup_facts S I0 hx
  have KX := I0.kIn
  obtain ⟨h', g, dr, t, os⟩ := s0
  refine wpAny_bind (wpAny_holding (wpAny_bind (getAttr_super eso h1 h2 rfl KX hm hof hofc hne hat (wpAny_pure ?_))))
  have hq1 := I0.hok.fresh (Nat.le_refl _)
  have I1 : Inv X pins σ (upd H h'.objs.size (.met f2 x)) ⟨h'.push (PySem.W.methodObj (.ref f2) (.ref x)), g, dr, t + 1, os⟩ :=
    I0.laid (t' := t + 1) (a := h'.objs.size) (o := .met f2 x) (fun b u z => Heap.get?_push_of_some _ z) (Nat.le_refl _)
      (show (h'.push (PySem.W.methodObj (.ref f2) (.ref x))).get? h'.objs.size = some (PySem.W.methodObj (.ref f2) (.ref x)) from Heap.get?_push_size h' rfl)
  refine wpAny_bind (wpAny_pure ?_)
  refine PySem.W.ks_call (P := PySem.W.MethP X.K h'.objs.size f2 (.ref x)) rfl (PySem.W.keeps_M S.fi) (PySem.W.ks_lone ?_)
  refine thn (ha.run pins _ σ _ _ I1 (q _ hq1)) fun v s3 ⟨y, H2, I3, ry, b, vs, ey, ht, hm2, hsp⟩ => ?_
  subst ey
  obtain rfl : v = Value.ref b := ry
  refine StX.star_any I3 ht fun us s4 I4 rv => ⟨met_P I4 hm2, ?_⟩
  refine wpAny_call (PySem.W.method_call (met_P I4 hm2).1 (codeAny_mono (run_fnR (us := .ref x :: us) (vs := .ref x :: vs) F2 hr pass0 I4 (.cons rfl rv) hsp) fun r s' hr' => ?_))
  cases r with
  | error e => exact hr'
  | ok fl =>
    cases fl with
    | ret u =>
      obtain ⟨v, H', I', _, q'⟩ := hr'
      exact ⟨σ, H', I', q'⟩
    | next => exact hr'
    | brk => exact hr'
    | cont => exact hr'
end
section
variable {P : Program} {w : World} {K : PySem.W.Frag} {mg : Str → Option Value} {base : Heap} {F : NF} {f D f2 : Addr} {m : Str} {N ps : List Str} {sp : Sp} {k : Nat}
theorem cell_at (U : SupF P K F f D f2 m) {A : Around} {outer : List Env} {s : Shared} {H : Hp} (e0 : Env0 P w K mg base A outer s H) : CellsAt F.cl [("__class__" : Str)] [some (.ref D)] s.heap H := by
  obtain ⟨cc, oc, od, sl, ecl, lc⟩ := U.cell
  obtain ⟨h1, h2⟩ := e0.bs cc _ (e0.mod.kin _ _ lc)
  have one : ∀ y c, F.cl.lookup y = some c → y = ("__class__" : Str) ∧ c = cc := fun y c e => by
    rw [ecl] at e
    by_cases q : y = ("__class__" : Str)
    · subst q
      have z : ([(("__class__" : Str), cc)] : List (Str × Addr)).lookup ("__class__" : Str) = some cc := by simp [List.lookup]
      rw [z] at e
      exact ⟨rfl, (Option.some.inj e).symm⟩
    · have z : (y == ("__class__" : Str)) = false := by simpa using q
      simp [List.lookup, z] at e
  refine ⟨rfl, fun y c e => ?_, fun x y c e1 e2 => (one x c e1).1.trans (one y c e2).1.symm, fun i y hi => ?_⟩
  · obtain ⟨rfl, rfl⟩ := one y c e
    exact ⟨h2, _, _, h1, rfl⟩
  · match i, hi with
    | 0, hi =>
      cases hi
      refine ⟨cc, by rw [ecl]; simp [List.lookup], fun v hv => ?_⟩
      cases hv
      exact ⟨_, rfl, _, h1, rfl⟩
    | i + 1, hi => simp at hi
/-- THE RULE for a method that says super() -/
theorem fnS_of (S : NScope N ps ["__class__"] F.scope) (U : SupF P K F f D f2 m) {doc pm ct oc : Value} {od : Option Addr} {osl : Array (Option Value)} (lf : K.lookup f = some ⟨oc, od, .func (F.fd doc pm ct), osl⟩) (len : ∀ vs H Q E, sp vs H Q E → vs.length = ps.length)
    (hbody : ∀ (A : Around) (outer : List Env) (s : Shared) (H : Hp) (vs : List V) (Q : VK) (E : XK), Room k (A.deeper (envF F f s.heap.objs.size)) → sp vs H Q E →
      ∃ t, PSsAt (ncx CX0 P w K mg base N F f A outer s H E) (.func F.body (ncx CX0 P w K mg base N F f A outer s H E).env) F.body t ∧ t { nx := fun _ H' => Q .non H', rt := Q } (startF N vs [some (.ref D)]) H) :
    FnOk P w K mg base CX0 (k + 1) f (F.fd doc pm ct) ps sp := by
  refine ⟨len, fun A outer s H args us vs Q E hr e0 hb r hsp => ?_⟩
  have hl := len _ _ _ _ hsp
  have KX : K.In s.heap := e0.mod.kin.keeps fun b o e => (e0.bs b o e).1
  have lim : s.heap.NoLimit := e0.mod.nolimit.keeps fun b o e => (e0.bs b o e).1
  have hloc : ∀ x ∈ ps.zip us, F.scope.names.lookup x.1 = some .local := fun ⟨n, v⟩ hy => S.par n (List.of_mem_zip hy).1
  refine ks_codeAny_call_defAt (fd := F.fd doc pm ct) (body := F.body) (binds := ps.zip us) hr.depth (KX _ _ lf) rfl lim (PySem.W.codeRec_of KX U.cd) rfl hb S.nocell hloc (fun h₁ hns kp => ?_) S.co S.gen S.kind
  obtain ⟨t, ht, hq⟩ := hbody A outer s H vs Q E (hr.deeper _) hsp
  have I : Inv (ncx CX0 P w K mg base N F f A outer s H E) [] (startF N vs [some (.ref D)]) H { s with heap := h₁, toks := s.toks + (ps.zip us).length } := inv_startN S hr.hd e0 hl r (cell_at U e0) hns kp
  refine PySem.wpAt_mono (ht.run [] _ (startF N vs [some (.ref D)]) H _ I hq) (fun fl s' hs => ?_) fun e s' hs => hs
  have fin : ∀ {σ' : L2.St} {H' : Hp} {v : V} {u : Value}, Inv (ncx CX0 P w K mg base N F f A outer s H E) [] σ' H' s' → L2.RelV v u → Q v H' → CE outer P w H s Q u s' :=
    fun {σ' H' v u} J rv q => ⟨v, H', J.os, J.bare, J.base, J.hok, rv, q⟩
  cases fl with
  | ret u =>
    obtain ⟨v, σ', H', J, rv, q⟩ := hs
    exact fin J rv q
  | next =>
    obtain ⟨σ', H', J, q⟩ := hs
    exact fin (v := V.non) (u := Value.none) J rfl q
  | brk =>
    obtain ⟨_, _, _, q⟩ := hs
    exact False.elim q
  | cont =>
    obtain ⟨_, _, _, q⟩ := hs
    exact False.elim q
end
/-! ### calls whose class is known at the run alone -/
section
variable {X : Cx} {k : Nat} {fe e o : Expr} {es : List Expr} {tf ta : TE} {t : TA} {pos apos : Pos} {m : Str} {f : Addr} {sp : Sp}
def tCallD (X : Cx) (k : Nat) (tf : TE) (t : TA) : TE := fun σ H Q => tf σ H fun y H1 => ∃ a, y = V.ref a ∧ t σ H1 fun vs H2 => ∃ (C g : Addr) (sp : Sp), StX.CallO X.K C g ∧ FnR X.prog X.w X.K X.mg X.base CX0 k g sp ∧ (∃ dx fs, H2 a = some (.ins C dx fs)) ∧ sp (V.ref a :: vs) H2 Q E0
theorem pe_callD (hf : PE X fe tf) (hr : Room k X.A) (ha : PA X (e :: es) t)
    (ht : eval (.Call fe (e :: es) [] pos) X.env = (do callWith pos (← eval fe X.env) [] (backTo pos (starEach (e :: es) X.env)) (backToKw pos (keywordEach [] X.env))) := by rfl)
    (he : starEach (e :: es) X.env = (false, eval e X.env) :: starEach es X.env := by rfl) (hpl : (backTo pos (starEach es X.env)).any (·.1) = false := by rfl) : PE X (.Call fe (e :: es) [] pos) (tCallD X k tf t) := by
  refine ⟨fun pins s σ H Q I h => ?_⟩
  refine PyProof.Rows.Call_ (thn (hf.run pins s σ H _ I h) fun u s1 ⟨y, H1, I1, ry, a, ey, q⟩ => ?_) ht
  subst ey
  obtain rfl : u = Value.ref a := ry
  refine StX.callO_with (thn (ha.run pos pins s1 σ H1 _ I1 q) fun us s2 ⟨vs, H2, I2, r, C, g, sp, c, F, hi, q2⟩ => ?_) he hpl
  obtain ⟨ox, od, J, hd⟩ := StX.insC_at (X := X) I2 (.inr hi)
  exact ⟨⟨C, ox, od, J, hd⟩, StX.run_callO c F hr pass0 I2 (.inr hi) r q2⟩
def tMethD (K : PySem.W.Frag) (m : Str) (f : Addr) (sp : Sp) (ta : TE) (t : TA) : TE := fun σ H Q => ta σ H fun x H1 => ∃ a C dx fs, x = .ref a ∧ H1 a = some (.ins C dx fs) ∧ Cls K C ∧ Meth K C m f ∧ fs.lookup m = none ∧ t σ H1 fun vs H2 => sp (x :: vs) H2 Q E0
theorem pe_methD {pl : Sem Bool} (he : PE X o ta) (hk : PySem.W.keepIn X.K (.ref f) = true) (F : FnR X.prog X.w X.K X.mg X.base CX0 k f sp) (hr : Room k X.A) (ha : PA X (e :: es) t)
    (hst : starEach (e :: es) X.env = (false, eval e X.env) :: starEach es X.env := by rfl) (hpl : (backTo pos (starEach es X.env)).any (·.1) = false := by rfl)
    (ht : eval (.Call (.Attribute o m apos) (e :: es) [] pos) X.env = (do
      let ov ← eval o X.env
      standAt apos.atName
      let (f, first) ← holding [ov] (getMethod ov m pl)
      callWith pos f first (backTo pos (starEach (e :: es) X.env)) (backToKw pos (keywordEach [] X.env))) := by rfl) :
    PE X (.Call (.Attribute o m apos) (e :: es) [] pos) (tMethD X.K m f sp ta t) := by
  refine ⟨fun pins s σ H Q I h => ?_⟩
  refine PySem.W.methodCall_KW (pl := pl) (thn (he.run pins s σ H _ I h) fun u s1 ⟨x, H1, I1, rx, a, C, dx, fs, ex, ea, c, hm, l, q⟩ => ?_) ht
  subst ex
  obtain rfl : u = Value.ref a := rx
  refine getmeth_ok I1 ea c hm l ?_
  refine PySem.W.callWith_K (first := [.ref a]) (h₀ := X.base) I.ok.mod.kin hk (thn (ha.run pos pins s1 σ H1 _ I1 q) fun us s2 ⟨vs, H2, I2, r, q2⟩ => ⟨I2.kIn, ?_⟩) hst hpl
  exact wpAny_call (codeAny_mono (run_fnR (us := .ref a :: us) (vs := .ref a :: vs) F hr pass0 I2 (.cons rfl r) q2) fun r s' h => h)
theorem pe_methD0 {pl : Sem Bool} (he : PE X o ta) (hk : PySem.W.keepIn X.K (.ref f) = true) (F : FnR X.prog X.w X.K X.mg X.base CX0 k f sp) (hr : Room k X.A)
    (ht : eval (.Call (.Attribute o m apos) [] [] pos) X.env = (do
      let ov ← eval o X.env
      standAt apos.atName
      let (f, first) ← holding [ov] (getMethod ov m pl)
      callWith pos f first (backTo pos (starEach [] X.env)) (backToKw pos (keywordEach [] X.env))) := by rfl) :
    PE X (.Call (.Attribute o m apos) [] [] pos) (tMethD X.K m f sp ta tNil) := by
  refine ⟨fun pins s σ H Q I h => ?_⟩
  refine PySem.W.methodCall_KW (pl := pl) (thn (he.run pins s σ H _ I h) fun u s1 ⟨x, H1, I1, rx, a, C, dx, fs, ex, ea, c, hm, l, q⟩ => ?_) ht
  subst ex
  obtain rfl : u = Value.ref a := rx
  refine getmeth_ok I1 ea c hm l ?_
  refine PySem.W.callWith_K0 (first := [.ref a]) I1.kIn hk ?_
  exact wpAny_call (codeAny_mono (run_fnR (us := [.ref a]) (vs := [.ref a]) F hr pass0 I1 (.cons rfl .nil) q) fun r s' h => h)
/-- o.m(e, ..), m a field of the instance that holds an instance of a class that may be called -/
def tCallFD (X : Cx) (k : Nat) (m : Str) (to : TE) (t : TA) : TE := fun σ H Q => to σ H fun x H1 => ∃ (b D dx : Addr) (fs : List (Str × V)) (a : Addr), x = V.ref b ∧ H1 b = some (.ins D dx fs) ∧ Cls X.K D ∧ NoAttr X.K D m ∧ fs.lookup m = some (.ref a) ∧
  t σ H1 fun vs H2 => ∃ (C g : Addr) (sp : Sp), StX.CallO X.K C g ∧ FnR X.prog X.w X.K X.mg X.base CX0 k g sp ∧ (∃ dx fs, H2 a = some (.ins C dx fs)) ∧ sp (V.ref a :: vs) H2 Q E0
theorem pe_callFD {pl : Sem Bool} (ho : PE X o ta) (hr : Room k X.A) (ha : PA X (e :: es) t)
    (ht : eval (.Call (.Attribute o m apos) (e :: es) [] pos) X.env = (do
      let ov ← eval o X.env
      standAt apos.atName
      let (f, first) ← holding [ov] (getMethod ov m pl)
      callWith pos f first (backTo pos (starEach (e :: es) X.env)) (backToKw pos (keywordEach [] X.env))) := by rfl)
    (he : starEach (e :: es) X.env = (false, eval e X.env) :: starEach es X.env := by rfl) (hpl : (backTo pos (starEach es X.env)).any (·.1) = false := by rfl) : PE X (.Call (.Attribute o m apos) (e :: es) [] pos) (tCallFD X k m ta t) := by
  refine ⟨fun pins s σ H Q I h => ?_⟩
  refine PySem.W.methodCall_KW (pl := pl) (thn (ho.run pins s σ H _ I h) fun u s1 ⟨x, H1, I1, rx, b, D, dx, fs, a, ex, eb, c, n, l, q⟩ => ?_) ht
  subst ex
  obtain rfl : u = Value.ref b := rx
  refine getmeth_fld I1 eb c n l fun v s2 I2 rv => ?_
  obtain rfl : v = Value.ref a := rv
  refine StX.callO_with (thn (ha.run pos pins s2 σ H1 _ I2 q) fun us s3 ⟨vs, H2, I3, r, C, g, sp, c, F, hi, q2⟩ => ?_) he hpl
  obtain ⟨ox, od, J, hd⟩ := StX.insC_at (X := X) I3 (.inr hi)
  exact ⟨⟨C, ox, od, J, hd⟩, StX.run_callO c F hr pass0 I3 (.inr hi) r q2⟩
end
theorem cls_of {K : PySem.W.Frag} {C : Addr} {oc : Value} {od : Option Addr} {cd : ClassData} {sl : Array (Option Value)} (h : K.lookup C = some ⟨oc, od, .cls cd, sl⟩) : PySem.W.clsIn K C = some cd := by
  unfold PySem.W.clsIn
  rw [h]
theorem kit_own {K : PySem.W.Frag} {C R : Addr} {oc : Value} {od : Option Addr} {cd : ClassData} {sl : Array (Option Value)} (x : K.lookup R = some ⟨oc, od, .cls cd, sl⟩) (t : PySem.W.typeIn K (.ref R) = some (.type "type")) (h : PySem.W.subIn K (.ref C) (.ref R) = some true) : PySem.W.kitOne K (.ref C) (.ref R) = some true := by
  unfold PySem.W.kitOne
  by_cases q : ((Value.ref C : Value) == Value.ref R) = true
  · rw [if_pos q]
  · rw [if_neg q]
    show (if ((PySem.W.clsIn K R).isSome && PySem.W.typeIn K (.ref R) == some (.type "type")) = true then PySem.W.subIn K (.ref C) (.ref R) else none) = some true
    rw [cls_of x, t, if_pos (by simp)]
    exact h
theorem sup_of {K : PySem.W.Frag} {C R f : Addr} {oc oc2 : Value} {od od2 : Option Addr} {cd cd2 : ClassData} {sl sl2 : Array (Option Value)} {m : Str} (h : K.lookup C = some ⟨oc, od, .cls cd, sl⟩) (e : (cd.mro.dropWhile (· != .ref C)).drop 1 = cd2.mro) (h2 : K.lookup R = some ⟨oc2, od2, .cls cd2, sl2⟩)
    (hf : PySem.W.findIn K (.ref R) m = some (some (.ref f))) : PySem.W.ks_superIn K C C m = some (some (.ref f)) := by
  unfold PySem.W.ks_superIn
  rw [cls_of h]
  show PySem.W.alongIn K m ((cd.mro.dropWhile (· != .ref C)).drop 1) = _
  rw [e]
  have hf' : (match K.lookup R with | some ⟨_, _, .cls cd, _⟩ => PySem.W.alongIn K m cd.mro | _ => none) = some (some (.ref f)) := hf
  rw [h2] at hf'
  exact hf'
end LS

namespace RM
/-- the plan of a rest -/
inductive Pl where
  | win (w : Int)
  | days (bs : List Int) (e : Int)
  | lat (p q : Pl)
  | soo (p q : Pl)
  | nex (p q : Pl)
def lastOf (bs : List Int) : Int := bs.getLastD 0
def dayAt (bs : List Int) (e t : Int) : Int := match bs.find? (fun b => decide (b > t)) with
  | some b => b
  | none => lastOf bs + ((t - lastOf bs) / e + 1) * e
def Pl.at : Pl → Int → Int
  | .win w, t => t + w
  | .days bs e, t => dayAt bs e t
  | .lat p q, t => if q.at t > p.at t then q.at t else p.at t
  | .soo p q, t => if q.at t < p.at t then q.at t else p.at t
  | .nex p q, t => q.at (p.at t)
def Pl.leaves : Pl → Nat
  | .win _ => 1
  | .days _ _ => 1
  | .lat p q => p.leaves + q.leaves
  | .soo p q => p.leaves + q.leaves
  | .nex p q => p.leaves + q.leaves
def Pl.forms : Pl → Int
  | .win _ => 1
  | .days _ _ => 1
  | .lat p q => 1 + p.forms + q.forms
  | .soo p q => 1 + p.forms + q.forms
  | .nex p q => 1 + p.forms + q.forms
def lcmI (a b : Int) : Int := ((a.natAbs.lcm b.natAbs : Nat) : Int)
def Pl.per : Pl → Int
  | .win _ => 1
  | .days _ e => e
  | .lat p q => lcmI p.per q.per
  | .soo p q => lcmI p.per q.per
  | .nex p q => lcmI p.per q.per
def maxI (a b : Int) : Int := if b > a then b else a
def Pl.bend : Pl → Int
  | .win _ => 0
  | .days bs _ => lastOf bs
  | .lat p q => maxI p.bend q.bend
  | .soo p q => maxI p.bend q.bend
  | .nex p q => maxI p.bend q.bend
def Pl.h : Pl → Nat
  | .win _ => 0
  | .days _ _ => 0
  | .lat p q => 1 + max p.h q.h
  | .soo p q => 1 + max p.h q.h
  | .nex p q => 1 + max p.h q.h
/-- borders that rise from n on -/
def Asc : Int → List Int → Prop
  | _, [] => True
  | n, b :: r => n ≤ b ∧ b ≤ 1000 ∧ Asc (b + 1) r
def Pl.ok (L : Nat) : Pl → Prop
  | .win w => 1 ≤ w ∧ w ≤ 1000
  | .days bs e => 1 ≤ e ∧ e ≤ 2000 ∧ e.natAbs ∣ L ∧ bs.length ≤ 12 ∧ Asc 1 bs
  | .lat p q => p.ok L ∧ q.ok L
  | .soo p q => p.ok L ∧ q.ok L
  | .nex p q => p.ok L ∧ q.ok L
theorem Pl.leaves_pos : ∀ p : Pl, 1 ≤ p.leaves
  | .win _ => Nat.le_refl _
  | .days _ _ => Nat.le_refl _
  | .lat p q => Nat.le_trans p.leaves_pos (Nat.le_add_right _ _)
  | .soo p q => Nat.le_trans p.leaves_pos (Nat.le_add_right _ _)
  | .nex p q => Nat.le_trans p.leaves_pos (Nat.le_add_right _ _)
theorem Pl.h_lt : ∀ p : Pl, p.h + 1 ≤ p.leaves
  | .win _ => Nat.le_refl _
  | .days _ _ => Nat.le_refl _
  | .lat p q => by have := p.h_lt; have := q.h_lt; simp only [Pl.h, Pl.leaves]; omega
  | .soo p q => by have := p.h_lt; have := q.h_lt; simp only [Pl.h, Pl.leaves]; omega
  | .nex p q => by have := p.h_lt; have := q.h_lt; simp only [Pl.h, Pl.leaves]; omega
theorem Pl.forms_eq : ∀ p : Pl, p.forms = 2 * p.leaves - 1
  | .win _ => rfl
  | .days _ _ => rfl
  | .lat p q => by have := p.forms_eq; have := q.forms_eq; simp only [Pl.forms, Pl.leaves]; omega
  | .soo p q => by have := p.forms_eq; have := q.forms_eq; simp only [Pl.forms, Pl.leaves]; omega
  | .nex p q => by have := p.forms_eq; have := q.forms_eq; simp only [Pl.forms, Pl.leaves]; omega
theorem Pl.ok_mono {L M : Nat} (d : L ∣ M) : ∀ p : Pl, p.ok L → p.ok M
  | .win _, h => h
  | .days _ _, h => ⟨h.1, h.2.1, Nat.dvd_trans h.2.2.1 d, h.2.2.2⟩
  | .lat p q, h => ⟨p.ok_mono d h.1, q.ok_mono d h.2⟩
  | .soo p q, h => ⟨p.ok_mono d h.1, q.ok_mono d h.2⟩
  | .nex p q, h => ⟨p.ok_mono d h.1, q.ok_mono d h.2⟩
theorem lcmI_dvd {a b : Int} {L : Nat} (h1 : a.natAbs ∣ L) (h2 : b.natAbs ∣ L) : (lcmI a b).natAbs ∣ L := by
  unfold lcmI
  rw [Int.natAbs_natCast]
  exact Nat.lcm_dvd h1 h2
theorem lcmI_pos {a b : Int} (h1 : 0 < a) (h2 : 0 < b) : 0 < lcmI a b := by
  unfold lcmI
  have := Nat.lcm_pos (m := a.natAbs) (n := b.natAbs) (by omega) (by omega)
  omega
theorem Pl.per_ok {L : Nat} : ∀ p : Pl, p.ok L → p.per.natAbs ∣ L ∧ 0 < p.per
  | .win _, _ => ⟨Nat.one_dvd _, (show (0 : Int) < 1 by decide)⟩
  | .days _ e, h => ⟨h.2.2.1, by have := h.1; simp only [Pl.per]; omega⟩
  | .lat p q, h => ⟨lcmI_dvd (p.per_ok h.1).1 (q.per_ok h.2).1, lcmI_pos (p.per_ok h.1).2 (q.per_ok h.2).2⟩
  | .soo p q, h => ⟨lcmI_dvd (p.per_ok h.1).1 (q.per_ok h.2).1, lcmI_pos (p.per_ok h.1).2 (q.per_ok h.2).2⟩
  | .nex p q, h => ⟨lcmI_dvd (p.per_ok h.1).1 (q.per_ok h.2).1, lcmI_pos (p.per_ok h.1).2 (q.per_ok h.2).2⟩
theorem Pl.per_le {L : Nat} (p : Pl) (h : p.ok L) (h0 : 0 < L) (h1 : L ≤ 2000) : 1 ≤ p.per ∧ p.per ≤ 2000 := by
  obtain ⟨d, q⟩ := p.per_ok h
  have := Nat.le_of_dvd h0 d
  omega
theorem Asc.all : ∀ {n : Int} {bs : List Int}, Asc n bs → ∀ b ∈ bs, n ≤ b ∧ b ≤ 1000
  | _, [], _, b, hb => by cases hb
  | n, c :: r, h, b, hb => by
    rcases List.mem_cons.mp hb with rfl | hb
    · exact ⟨h.1, h.2.1⟩
    · have := Asc.all h.2.2 b hb
      have := h.1
      omega
theorem lastOf_nil : lastOf [] = 0 := rfl
theorem lastOf_mem : ∀ {bs : List Int}, bs ≠ [] → lastOf bs ∈ bs
  | [], h => absurd rfl h
  | [b], _ => List.mem_singleton.mpr rfl
  | b :: c :: r, _ => by
    have := lastOf_mem (bs := c :: r) (by simp)
    exact List.mem_cons_of_mem _ this
theorem Asc.last {n : Int} : ∀ {bs : List Int}, Asc n bs → ∀ b ∈ bs, b ≤ lastOf bs
  | [], _, b, hb => by cases hb
  | [c], _, b, hb => by
    rw [List.mem_singleton] at hb
    rw [hb]
    exact Int.le_refl _
  | c :: d :: r, h, b, hb => by
    have ih := Asc.last (bs := d :: r) h.2.2
    show b ≤ lastOf (d :: r)
    rcases List.mem_cons.mp hb with rfl | hb
    · have := ih d (by simp)
      have := h.2.2.1
      omega
    · exact ih b hb
theorem Asc.last_bd {bs : List Int} (h : Asc 1 bs) : 0 ≤ lastOf bs ∧ lastOf bs ≤ 1000 := by
  by_cases e : bs = []
  · subst e
    exact ⟨Int.le_refl _, by decide⟩
  · have := h.all _ (lastOf_mem e)
    omega
/-- the greatest of 0 and the borders -/
theorem Asc.max {bs : List Int} (h : Asc 1 bs) {m : Int} (hm : m ∈ 0 :: bs) (hu : ∀ y ∈ 0 :: bs, y ≤ m) : m = lastOf bs := by
  have l0 := h.last_bd
  rcases List.mem_cons.mp hm with rfl | hm
  · by_cases e : bs = []
    · subst e; rfl
    · have := h.all _ (lastOf_mem e)
      have := hu _ (List.mem_cons_of_mem _ (lastOf_mem e))
      omega
  · have e : bs ≠ [] := fun z => by rw [z] at hm; cases hm
    have := h.last m hm
    have := hu _ (List.mem_cons_of_mem _ (lastOf_mem e))
    omega
theorem dayAt_some {bs : List Int} {e t b : Int} (h : bs.find? (fun b => decide (b > t)) = some b) : dayAt bs e t = b := by unfold dayAt; rw [h]
theorem dayAt_none {bs : List Int} {e t : Int} (h : bs.find? (fun b => decide (b > t)) = none) : dayAt bs e t = lastOf bs + ((t - lastOf bs) / e + 1) * e := by unfold dayAt; rw [h]
theorem find_none {bs : List Int} {t : Int} (h : bs.find? (fun b => decide (b > t)) = none) : ∀ b ∈ bs, b ≤ t := by
  intro b hb
  have := List.find?_eq_none.mp h b hb
  simp at this
  exact this
theorem last_le {bs : List Int} {t : Int} (h0 : 0 ≤ t) (h : ∀ b ∈ bs, b ≤ t) : lastOf bs ≤ t := by
  by_cases e : bs = []
  · subst e; exact h0
  · exact h _ (lastOf_mem e)
theorem div_step (x e : Int) (he : 0 < e) : x < (x / e + 1) * e ∧ (x / e) * e ≤ x := by
  have h1 := Int.emod_nonneg x (by omega : e ≠ 0)
  have h2 := Int.emod_lt_of_pos x he
  have h3 := Int.mul_ediv_add_emod x e
  have h4 : (x / e + 1) * e = e * (x / e) + e := by rw [Int.add_mul, Int.one_mul, Int.mul_comm]
  have h5 : (x / e) * e = e * (x / e) := Int.mul_comm _ _
  omega
theorem dayAt_gt {bs : List Int} {e t : Int} (he : 0 < e) : t < dayAt bs e t := by
  cases q : bs.find? (fun b => decide (b > t)) with
  | some b =>
    rw [dayAt_some q]
    have := List.find?_some q
    simpa using this
  | none =>
    rw [dayAt_none q]
    have := (div_step (t - lastOf bs) e he).1
    omega
theorem dayAt_le {bs : List Int} {e t : Int} (he : 0 < e) (h1 : e ≤ 2000) (ha : Asc 1 bs) (h0 : 0 ≤ t) : dayAt bs e t ≤ t + 2000 := by
  cases q : bs.find? (fun b => decide (b > t)) with
  | some b =>
    rw [dayAt_some q]
    have := ha.all _ (List.mem_of_find?_eq_some q)
    omega
  | none =>
    rw [dayAt_none q]
    have := (div_step (t - lastOf bs) e he).2
    have h4 : ((t - lastOf bs) / e + 1) * e = (t - lastOf bs) / e * e + e := by rw [Int.add_mul, Int.one_mul]
    omega
theorem find_first {t t' : Int} (htt : t ≤ t') : ∀ {n : Int} {bs : List Int} {b b' : Int}, Asc n bs → bs.find? (fun b => decide (b > t)) = some b → bs.find? (fun b => decide (b > t')) = some b' → b ≤ b'
  | _, [], _, _, _, h, _ => by cases h
  | n, c :: r, b, b', ha, h, h' => by
    rw [List.find?_cons] at h h'
    by_cases q : c > t
    · rw [decide_eq_true q] at h
      cases h
      by_cases q' : c > t'
      · rw [decide_eq_true q'] at h'
        cases h'
        exact Int.le_refl _
      · rw [decide_eq_false q'] at h'
        have := ha.2.2.all _ (List.mem_of_find?_eq_some h')
        omega
    · rw [decide_eq_false q] at h
      rw [decide_eq_false (show ¬ c > t' by omega)] at h'
      exact find_first htt ha.2.2 h h'
theorem dayAt_mono {bs : List Int} {e t t' : Int} (he : 0 < e) (ha : Asc 1 bs) (htt : t ≤ t') : dayAt bs e t ≤ dayAt bs e t' := by
  cases q : bs.find? (fun b => decide (b > t)) with
  | some b =>
    rw [dayAt_some q]
    cases q' : bs.find? (fun b => decide (b > t')) with
    | some b' =>
      rw [dayAt_some q']
      exact find_first htt ha q q'
    | none =>
      have h1 := ha.last _ (List.mem_of_find?_eq_some q)
      have h2 := find_none q' _ (List.mem_of_find?_eq_some q)
      have := dayAt_gt (bs := bs) (t := t') he
      omega
  | none =>
    rw [dayAt_none q]
    have q2 : bs.find? (fun b => decide (b > t')) = none := by
      rw [List.find?_eq_none]
      intro b hb
      have := find_none q b hb
      simp
      omega
    rw [dayAt_none q2]
    have hd : (t - lastOf bs) / e ≤ (t' - lastOf bs) / e := Int.ediv_le_ediv he (by omega)
    have := Int.mul_le_mul_of_nonneg_right (show (t - lastOf bs) / e + 1 ≤ (t' - lastOf bs) / e + 1 by omega) (Int.le_of_lt he)
    omega
theorem dayAt_per {bs : List Int} {e t m : Int} (he : 0 < e) (ha : Asc 1 bs) (hb : lastOf bs ≤ t) (hm : 0 ≤ m) (hd : e ∣ m) : dayAt bs e (t + m) = dayAt bs e t + m := by
  have no : ∀ {u : Int}, lastOf bs ≤ u → bs.find? (fun b => decide (b > u)) = none := fun {u} hu => by
    rw [List.find?_eq_none]
    intro b hb
    have := ha.last b hb
    simp
    omega
  rw [dayAt_none (no hb), dayAt_none (no (show lastOf bs ≤ t + m by omega))]
  obtain ⟨c, rfl⟩ := hd
  have e1 : t + e * c - lastOf bs = (t - lastOf bs) + e * c := by omega
  rw [e1, Int.add_mul_ediv_left _ _ (by omega : e ≠ 0)]
  have e2 : ((t - lastOf bs) / e + c + 1) * e = ((t - lastOf bs) / e + 1) * e + e * c := by
    rw [Int.add_mul, Int.add_mul, Int.add_mul, Int.mul_comm c e]
    omega
  rw [e2]
  omega
theorem Pl.at_gt {L : Nat} : ∀ (p : Pl), p.ok L → ∀ t, t < p.at t
  | .win w, h, t => by have := h.1; simp only [Pl.at]; omega
  | .days bs e, h, t => dayAt_gt (by have := h.1; omega)
  | .lat p q, h, t => by
    have := p.at_gt h.1 t
    have := q.at_gt h.2 t
    simp only [Pl.at]
    split <;> omega
  | .soo p q, h, t => by
    have := p.at_gt h.1 t
    have := q.at_gt h.2 t
    simp only [Pl.at]
    split <;> omega
  | .nex p q, h, t => Int.lt_trans (p.at_gt h.1 t) (q.at_gt h.2 _)
theorem Pl.at_le {L : Nat} : ∀ (p : Pl), p.ok L → ∀ t, 0 ≤ t → p.at t ≤ t + 2000 * p.leaves
  | .win w, h, t, _ => by have := h.2; simp only [Pl.at, Pl.leaves]; omega
  | .days bs e, h, t, h0 => by
    have := dayAt_le (bs := bs) (by have := h.1; omega) h.2.1 h.2.2.2.2 h0
    simp only [Pl.at, Pl.leaves]
    omega
  | .lat p q, h, t, h0 => by
    have := p.at_le h.1 t h0
    have := q.at_le h.2 t h0
    simp only [Pl.at, Pl.leaves]
    split <;> omega
  | .soo p q, h, t, h0 => by
    have := p.at_le h.1 t h0
    have := q.at_le h.2 t h0
    simp only [Pl.at, Pl.leaves]
    split <;> omega
  | .nex p q, h, t, h0 => by
    have h1 := p.at_gt h.1 t
    have := p.at_le h.1 t h0
    have := q.at_le h.2 (p.at t) (by omega)
    simp only [Pl.at, Pl.leaves]
    omega
theorem Pl.at_mono {L : Nat} : ∀ (p : Pl), p.ok L → ∀ t t', t ≤ t' → p.at t ≤ p.at t'
  | .win w, h, t, t', ht => by simp only [Pl.at]; omega
  | .days bs e, h, t, t', ht => dayAt_mono (by have := h.1; omega) h.2.2.2.2 ht
  | .lat p q, h, t, t', ht => by
    have := p.at_mono h.1 t t' ht
    have := q.at_mono h.2 t t' ht
    simp only [Pl.at]
    split <;> split <;> omega
  | .soo p q, h, t, t', ht => by
    have := p.at_mono h.1 t t' ht
    have := q.at_mono h.2 t t' ht
    simp only [Pl.at]
    split <;> split <;> omega
  | .nex p q, h, t, t', ht => q.at_mono h.2 _ _ (p.at_mono h.1 t t' ht)
theorem maxI_le {a b t : Int} (h : maxI a b ≤ t) : a ≤ t ∧ b ≤ t := by
  unfold maxI at h
  split at h <;> omega
theorem dvd_l {a b m : Int} (h : lcmI a b ∣ m) : a ∣ m ∧ b ∣ m := by
  have h1 : a ∣ lcmI a b := Int.natAbs_dvd_natAbs.mp (by unfold lcmI; rw [Int.natAbs_natCast]; exact Nat.dvd_lcm_left _ _)
  have h2 : b ∣ lcmI a b := Int.natAbs_dvd_natAbs.mp (by unfold lcmI; rw [Int.natAbs_natCast]; exact Nat.dvd_lcm_right _ _)
  exact ⟨Int.dvd_trans h1 h, Int.dvd_trans h2 h⟩
theorem Pl.at_per {L : Nat} : ∀ (p : Pl), p.ok L → ∀ t m, p.bend ≤ t → 0 ≤ m → p.per ∣ m → p.at (t + m) = p.at t + m
  | .win w, h, t, m, _, _, _ => by simp only [Pl.at]; omega
  | .days bs e, h, t, m, hb, hm, hd => dayAt_per (by have := h.1; omega) h.2.2.2.2 hb hm hd
  | .lat p q, h, t, m, hb, hm, hd => by
    obtain ⟨d1, d2⟩ := dvd_l hd
    obtain ⟨b1, b2⟩ := maxI_le hb
    have h1 := p.at_per h.1 t m b1 hm d1
    have h2 := q.at_per h.2 t m b2 hm d2
    simp only [Pl.at, h1, h2]
    split <;> split <;> omega
  | .soo p q, h, t, m, hb, hm, hd => by
    obtain ⟨d1, d2⟩ := dvd_l hd
    obtain ⟨b1, b2⟩ := maxI_le hb
    have h1 := p.at_per h.1 t m b1 hm d1
    have h2 := q.at_per h.2 t m b2 hm d2
    simp only [Pl.at, h1, h2]
    split <;> split <;> omega
  | .nex p q, h, t, m, hb, hm, hd => by
    obtain ⟨d1, d2⟩ := dvd_l hd
    obtain ⟨b1, b2⟩ := maxI_le hb
    have h1 := p.at_per h.1 t m b1 hm d1
    have := p.at_gt h.1 t
    have h2 := q.at_per h.2 (p.at t) m (by omega) hm d2
    simp only [Pl.at, h1, h2]
theorem Pl.bend_bd {L : Nat} : ∀ p : Pl, p.ok L → 0 ≤ p.bend ∧ p.bend ≤ 1000
  | .win _, _ => ⟨Int.le_refl _, (show (0 : Int) ≤ 1000 by decide)⟩
  | .days _ _, h => h.2.2.2.2.last_bd
  | .lat p q, h => by have := p.bend_bd h.1; have := q.bend_bd h.2; simp only [Pl.bend, maxI]; split <;> omega
  | .soo p q, h => by have := p.bend_bd h.1; have := q.bend_bd h.2; simp only [Pl.bend, maxI]; split <;> omega
  | .nex p q, h => by have := p.bend_bd h.1; have := q.bend_bd h.2; simp only [Pl.bend, maxI]; split <;> omega
end RM
namespace RM
theorem fmod_nat (X Y : Nat) : (X : Int).fmod (Y : Int) = ((X % Y : Nat) : Int) := by
  rw [Int.fmod_eq_emod_of_nonneg _ (Int.natCast_nonneg _)]
  rfl
theorem fdiv_nat (X Y : Nat) : (X : Int).fdiv (Y : Int) = ((X / Y : Nat) : Int) := by
  rw [Int.fdiv_eq_ediv_of_nonneg _ (Int.natCast_nonneg _)]
  rfl
theorem lcm_by (A B : Nat) : ((A : Int).fdiv ((Nat.gcd A B : Nat) : Int)) * (B : Int) = lcmI A B := by
  rw [fdiv_nat]
  unfold lcmI
  rw [Int.natAbs_natCast, Int.natAbs_natCast, ← Int.natCast_mul]
  congr 1
  rw [Nat.div_mul_right_comm (Nat.gcd_dvd_left A B)]
  rfl
theorem gcd_step (X Y : Nat) : Nat.gcd Y (X % Y) = Nat.gcd X Y := by
  rw [Nat.gcd_comm X Y, Nat.gcd_rec Y X, Nat.gcd_comm]
end RM
namespace RM
theorem Asc.snoc {e c : Int} : ∀ {n : Int} {bs : List Int}, Asc n bs → (∀ b ∈ bs, b ≤ e) → n ≤ c → e < c → c ≤ 1000 → Asc n (bs ++ [c])
  | n, [], _, _, h1, _, h3 => ⟨h1, h3, True.intro⟩
  | n, b :: r, h, hb, h1, h2, h3 => ⟨h.1, h.2.1, Asc.snoc h.2.2 (fun x hx => hb x (List.mem_cons_of_mem _ hx)) (by have := hb b (by simp); omega) h2 h3⟩
theorem lcmI_one (B : Nat) : lcmI B 1 = B := by
  unfold lcmI
  rw [Int.natAbs_natCast]
  show ((B.lcm 1 : Nat) : Int) = B
  rw [Nat.lcm_one_right]
theorem lcmI_self (B : Nat) : lcmI B B = B := by
  unfold lcmI
  rw [Int.natAbs_natCast, Nat.lcm_self]
end RM
namespace RM
/-- a plan is as good with its own period -/
theorem Pl.ok_per {L : Nat} : ∀ p : Pl, p.ok L → p.ok p.per.natAbs
  | .win _, h => h
  | .days _ e, h => ⟨h.1, h.2.1, Nat.dvd_refl _, h.2.2.2⟩
  | .lat p q, h => ⟨Pl.ok_mono (by simp only [Pl.per, lcmI, Int.natAbs_natCast]; exact Nat.dvd_lcm_left _ _) p (p.ok_per h.1), Pl.ok_mono (by simp only [Pl.per, lcmI, Int.natAbs_natCast]; exact Nat.dvd_lcm_right _ _) q (q.ok_per h.2)⟩
  | .soo p q, h => ⟨Pl.ok_mono (by simp only [Pl.per, lcmI, Int.natAbs_natCast]; exact Nat.dvd_lcm_left _ _) p (p.ok_per h.1), Pl.ok_mono (by simp only [Pl.per, lcmI, Int.natAbs_natCast]; exact Nat.dvd_lcm_right _ _) q (q.ok_per h.2)⟩
  | .nex p q, h => ⟨Pl.ok_mono (by simp only [Pl.per, lcmI, Int.natAbs_natCast]; exact Nat.dvd_lcm_left _ _) p (p.ok_per h.1), Pl.ok_mono (by simp only [Pl.per, lcmI, Int.natAbs_natCast]; exact Nat.dvd_lcm_right _ _) q (q.ok_per h.2)⟩
theorem lcmI_comm (a b : Int) : lcmI a b = lcmI b a := by
  unfold lcmI
  rw [Nat.lcm_comm]
end RM

namespace LC
open PySem L2
section
variable {X : Cx} {st : Stmt} {ss : List Stmt}
/-- a statement that is never come to -/
theorem ps_never : PS X st (fun _ _ _ => False) := ⟨fun _ _ _ _ _ _ h => h.elim⟩
theorem pss_never : PSs X ss (fun _ _ _ => False) := ⟨fun _ _ _ _ _ _ h => h.elim⟩
def rLcm : List V → Hp → VK → Prop := fun vs H Q => ∃ a b : Int, vs = [.int a, .int b] ∧ a.natAbs < 2 ^ 64 ∧ b.natAbs < 2 ^ 64 ∧ Q (.int (RM.lcmI a b)) H
theorem cr_lcm : CallR X (.builtin "math.lcm") rLcm := by
  intro pins s σ H vs us Q I r h
  obtain ⟨a, b, rfl, h1, h2, q⟩ := h
  obtain ⟨t, u, rfl⟩ := Vals.int2 r
  exact PySem.W.mc_lcm h1 h2 fun _ => ⟨.int _, H, I.tok _, ⟨_, rfl⟩, q⟩
end
theorem fn_none {P : Program} {w : World} {K : PySem.W.Frag} {mg : Str → Option Value} {base : Heap} {CX : CXT} {k : Nat} {f : Addr} {fd : FuncData} {ps : List Str} {sp : Sp} (h : ∀ vs H Q E, ¬ sp vs H Q E) : FnOk P w K mg base CX k f fd ps sp :=
  ⟨fun vs H Q E q => (h _ _ _ _ q).elim, fun A outer s H args us vs Q E hr e0 hb r q => (h _ _ _ _ q).elim⟩
theorem raw0 {P : Program} {w : World} {K : PySem.W.Frag} {mg : Str → Option Value} {base : Heap} {CX : CXT} {k : Nat} {f : Addr} {fd : FuncData} {ps : List Str} {sp : Sp} (F : FnOk P w K mg base CX k f fd ps sp) (hb : Binds K fd ps []) : FnR P w K mg base CX k f sp :=
  (F.raw hb .nil).imp fun vs H Q E h => by
    rw [List.append_nil]
    exact h
theorem kLT_int {K : PySem.W.Frag} : PySem.W.kitAny K (.type "int") [.type "list", .type "tuple"] = some false := kitAny_cons (kit_ty (show kitB "int" "list" = some false by decide +kernel)) (fun _ => kitAny_cons (kit_ty (show kitB "int" "tuple" = some false by decide +kernel)) (fun _ => kitAny_nil) fun z => by cases z) (fun z => by cases z)
theorem kLT_lst {K : PySem.W.Frag} : PySem.W.kitAny K (.type "list") [.type "list", .type "tuple"] = some true := kitAny_cons (kit_ty (show kitB "list" "list" = some true by decide +kernel)) (fun z => by cases z) (fun _ => rfl)
end LC

namespace LX
open PySem L2 PySem.Spec PyProof.Rows
/-- what the written part says of an own error class with its own __init__ -/
structure ErrC (K : PySem.W.Frag) (mg : Str → Option Value) (nm : Str) (fs : List Str) (C fI : Addr) : Prop where
  ox : OexC K C
  iC : PySem.W.findIn K (.ref C) "__init__" = some (some (.ref fI))
  tI : PySem.W.typeIn K (.ref fI) = some (.type "function")
  gC : mg nm = some (.ref C)
  xf : XfC K C
  te : PySem.W.exmOne K (.ref C) (.ref C) = some true
  no : ∀ f ∈ fs, PySem.W.findIn K (.ref C) f = some none
theorem no_cons {K : PySem.W.Frag} {C : Addr} {f : Str} {fs : List Str} (h : PySem.W.findIn K (.ref C) f = some none) (r : ∀ f ∈ fs, PySem.W.findIn K (.ref C) f = some none) : ∀ g ∈ f :: fs, PySem.W.findIn K (.ref C) g = some none := fun g hg => by
  rcases List.mem_cons.mp hg with rfl | hg
  · exact h
  · exact r g hg
theorem no_nil {K : PySem.W.Frag} {C : Addr} : ∀ g ∈ ([] : List Str), PySem.W.findIn K (.ref C) g = some none := fun g hg => by cases hg
/-- an error of its class is what a clause of the class takes -/
theorem exm_self {K : PySem.W.Frag} {S T : Addr} {b : Bool} (h1 : PySem.W.subIn K (.ref T) (.type "BaseException") = some true) (h2 : PySem.W.isClsIn K T = true) (h3 : PySem.W.typeIn K (.ref T) = some (.type "type")) (h4 : PySem.W.subIn K (.ref S) (.ref T) = some b) :
    PySem.W.exmOne K (.ref S) (.ref T) = some b := by
  have h2' : (PySem.W.clsIn K T).isSome = true := h2
  unfold PySem.W.exmOne
  rw [h1, if_pos (by rfl)]
  show (if ((PySem.W.clsIn K T).isSome && PySem.W.typeIn K (.ref T) == some (.type "type")) = true then PySem.W.subIn K (.ref S) (.ref T) else none) = some b
  rw [h2', h3, if_pos (by rfl)]
  exact h4
/-- the way out of an error with the fields fs, made in H -/
def ErrOut (H : Hp) (E : XK) (C : Addr) (fs : List (Str × V)) : Prop := ∀ (d : Addr) (H' : Hp), L2.Same H H' → H d = none → H' d = some (.xd fs) → E (.ref C) (some d) H'
/-- the promise of an __init__ that stores fs of the arguments -/
def spErr (C : Addr) (n : Nat) (fs : List V → List (Str × V)) : Sp := fun vs H Q _ => ∃ (a : Addr) (ws : List V), vs = .ref a :: ws ∧ ws.length = n ∧ H a = some (exo a C none) ∧ ∀ (d : Addr) (H' : Hp), H d = none → H' a = some (exo a C (some d)) → H' d = some (exd d (fs ws)) → (∀ b o, b ≠ a → H b = some o → H' b = some o) → Q .non H'
/-- raise C(..): the way out follows from the class's promise -/
theorem err_out {H : Hp} {E : XK} {C : Addr} {n : Nat} {fs : List V → List (Str × V)} {ws : List V} (hn : ws.length = n) (h : ErrOut H E C (fs ws)) : ∀ a, H a = none → spErr C n fs (.ref a :: (ws ++ [])) (upd H a (exo a C none))
    (fun v H2 => v = .non ∧ ∃ (d : Addr) (gs : List (Str × V)), H2 a = some (exo a C (some d)) ∧ H2 d = some (exd d gs) ∧ H d = none ∧ E (.ref C) (some d) (upd (del H2 a) d (.xd gs))) (fun _ _ _ => False) := fun a ha => by
  rw [List.append_nil]
  refine ⟨a, ws, rfl, hn, upd_same, fun d H' hd h1 h2 k => ?_⟩
  have da : d ≠ a := fun z => by
    rw [z, upd_same] at hd
    cases hd
  rw [upd_ne da] at hd
  refine ⟨rfl, d, _, h1, h2, hd, h d _ (fun b o e => ?_) hd upd_same⟩
  have nb : b ≠ a := ne_of_none e ha
  rw [upd_ne (ne_of_none e hd), del_ne nb]
  exact k b o nb (by rw [upd_ne nb]; exact e)
/-- several clauses, each with a name -/
def wAsM (K : PySem.W.Frag) (Wout : WX) (D : Ends) : List (Value × Nat × (Addr → Value → Option Addr → TS)) → WX
  | [] => Wout
  | (c, i, ts) :: r => fun cls d σ H => ∃ b, PySem.W.exmOne K cls c = some b ∧
      (b = true → ∀ a, H a = none → ts a cls d { nx := fun σ' H' => D.nx (σ'.set i none) H', rt := D.rt, bk := fun σ' H' => D.bk (σ'.set i none) H', ct := fun σ' H' => D.ct (σ'.set i none) H' } (σ.set i (some (.ref a))) H) ∧
      (b = false → wAsM K Wout D r cls d σ H)
inductive AsOk (X : Cx) : List ExceptHandler → List (Value × Nat × (Addr → Value → Option Addr → TS)) → Prop
  | nil : AsOk X [] []
  | cons {x n : Str} {c : Value} {i : Nat} {ts : Addr → Value → Option Addr → TS} {b₀ : Stmt} {suite : List Stmt} {np pos' : Pos} {hds : List ExceptHandler} {l : List (Value × Nat × (Addr → Value → Option Addr → TS))}
      (hi : X.N[i]? = some n) (hln : X.env.kindOf n = some .local) (hc : Names X x c)
      (hsu : ∀ (a : Addr) (oe : Obj) (cls : Value) (d : Option Addr) (pn : List (Addr × Obj)), Zc cls d oe → (∃ vs, oe.data = .fields vs) → PSs (X.suite a ((a, oe) :: pn)) (b₀ :: suite) (ts a cls d)) (r : AsOk X hds l) :
      AsOk X (.ExceptHandler (some (.Name x np)) (some n) (b₀ :: suite) pos' :: hds) ((c, i, ts) :: l)
section
variable {X : Cx} {body : List Stmt} {h₀ : ExceptHandler} {hds : List ExceptHandler} {l : List (Value × Nat × (Addr → Value → Option Addr → TS))} {pos : Pos} {tb : WX → TS} {Wout : WX}
/-- what every clause finds: the error at a stands on the ground -/
structure Caught (X : Cx) (a : Addr) (B : Heap) (pins : List (Addr × Obj)) (σ : L2.St) (H : Hp) (cls : Value) (d : Option Addr) (sI s : Shared) : Prop where
  J : L2.Inv X pins σ H sI
  nb : ∀ b o, sI.heap.get? b = some o → b ∉ frs X.stack → B.get? b = some o
  up : sI.heap.UpToSlots s.heap
  fl : HandSPX.FlyingZ B (X.env :: X.outer) a (Zc cls d) s.heap
  na : H a = none
  os : s.os = sI.os
  ag : AllBare s.gens
  nL : a ≠ X.env.locals
  nF : a ∉ X.fs
theorem clauses {a : Addr} {B : Heap} {pins : List (Addr × Obj)} {σ : L2.St} {H : Hp} {cls : Value} {d : Option Addr} {sI s : Shared} {D : Ends} (hs : X.stack = X.env :: X.outer) (hf : X.env.frame = some X.env.locals) (hN : X.N.Nodup) (tk : Takes X Wout) (ok : X.Ok)
    (T : Caught X a B pins σ H cls d sI s) : ∀ {hds : List ExceptHandler} {l : List (Value × Nat × (Addr → Value → Option Addr → TS))}, AsOk X hds l → wAsM X.K Wout D l cls d σ H →
    wpAny (model X.prog X.w) X.A (handleBy (.ref a) X.env hds) (SP X pins D) X.xe s := by
  obtain ⟨J, nb, up, fl, na, os, ag, nL, nF⟩ := T
  obtain ⟨hp, g, dr, tok, oss⟩ := s
  intro hds l hk
  induction hk with
  | nil =>
    intro w
    refine wpAny_handleBy_nil ?_
    obtain ⟨k1, k2, k3, oe, vs, T, oT, ts', he, hz, hd, h1, hr⟩ := id fl
    unfold PySem.passOn
    refine wpAny_bind (wpAny_field he hd h1 ?_)
    rw [if_neg (show ¬ ((Value.ref T == Value.none) = true) from by simp)]
    have fin : wpAny (model X.prog X.w) X.A (setFlight (.ref a) X.env.frame) (fun _ s4 => wpAny (model X.prog X.w) X.A (throw (.ref a) : Sem Flow) (SP X pins D) X.xe s4) X.xe ⟨hp, g, dr, tok, oss⟩ := by
      rw [hf]
      refine HandSPX.setFlight_upZ fl fun h4 hh4 up4 => wpAny_throw (tk _ _ ?_)
      exact ⟨a, B, sI, pins, σ, H, cls, d, rfl, J, nb, up.trans up4, .inr (.inr (by rw [hs]; exact hh4)), na, os, ag, w⟩
    first
      | exact wpAny_bind (wpAny_pure (wpAny_bind fin))
      | exact wpAny_bind fin
  | @cons x n c i ts b₀ suite np pos' hds2 l2 hi hln hc hsu r ih =>
    intro w
    obtain ⟨b, hb1, hyes, hno⟩ := w
    have J3 : L2.Inv X pins σ H ⟨hp, g, dr, tok, oss⟩ := J.landed nb fl.1 up os ag
    obtain ⟨oe3, vs3, he3, hz3, hd3⟩ := fl.there
    have S3 := J3.suite he3 hd3 na nL nF
    refine wpAny_handleBy_cons (codeAny_handlers_test ?_) (by intro q; cases q)
    have LT : PySem.W.Looks (model X.prog X.w) hp (typeOf (.ref a)) cls := fun A Q E s k q => wpAny_typeOf_ref (k _ _ he3) (by rw [hz3.1]; exact q)
    have LM := PySem.W.exm_one (M := model X.prog X.w) (J3.kIn) LT hb1
    have test : ∀ {Q : Value → Shared → Prop} {E : Value → Shared → Prop}, Q c ⟨hp, g, dr, tok, oss⟩ → wpAny (model X.prog X.w) (X.A.mark (some (.ref a))) (eval (.Name x np) X.env) Q E ⟨hp, g, dr, tok, oss⟩ := fun {Q E} q => by
      obtain ⟨hg, hdbg, hm | ⟨hm, hv, hnn⟩⟩ := hc
      · exact ld_glob (X := X.suite a ((a, oe3) :: (X.pn ++ pins))) S3 hg hm q hdbg
      · exact ld_blt (X := X.suite a ((a, oe3) :: (X.pn ++ pins))) S3 hg hm hv q hnn hdbg
    refine test (LM.here ?_)
    cases b with
    | true =>
      refine codeAny_handlers_suite_as ?_
      refine HandSPX.lands_againZ fl fun h4 fl4 up4 => ?_
      have J4 : L2.Inv X pins σ H ⟨h4, g, dr, tok, oss⟩ := J.landed nb fl4.1 (up.trans up4) os ag
      obtain ⟨oe4, vs4, he4, hz4, hd4⟩ := fl4.there
      have S4 := J4.suite he4 hd4 na nL nF
      refine store_ok (X := X.suite a ((a, oe4) :: (X.pn ++ pins))) (v := .ref a) S4 hN hi (.inl hln) rfl (fun s5 S5 => ?_) (.inr hln)
      refine wpAny_mono ((hsu a oe4 cls d (X.pn ++ pins) hz4 ⟨_, hd4⟩).run [] s5 _ H _ S5 (hyes rfl a na)) (fun f s6 hsp => ?_) (fun _ _ z => False.elim z)
      have out : ∀ {σ6 : L2.St} {H6 : Hp} {Q : Shared → Prop}, L2.Inv (X.suite a ((a, oe4) :: (X.pn ++ pins))) [] σ6 H6 s6 → (∀ s7, L2.Inv X pins (σ6.set i none) H6 s7 → Q s7) →
          wpAny (model X.prog X.w) X.A (do bindName X.env n .none; unbindBehindTheSuite X.env n pos') (fun _ s7 => Q s7) X.xe s6 := fun {σ6 H6 Q} S6 hq => gone_ok (S6.unsuite ok) hN hi hln hq
      cases f with
      | next =>
        obtain ⟨σ6, H6, S6, q6⟩ := hsp
        exact out S6 fun s7 J7 => ⟨_, _, J7, q6⟩
      | brk =>
        obtain ⟨σ6, H6, S6, q6⟩ := hsp
        exact out S6 fun s7 J7 => ⟨_, _, J7, q6⟩
      | cont =>
        obtain ⟨σ6, H6, S6, q6⟩ := hsp
        exact out S6 fun s7 J7 => ⟨_, _, J7, q6⟩
      | ret u =>
        obtain ⟨v6, σ6, H6, S6, r6, q6⟩ := hsp
        exact out S6 fun s7 J7 => ⟨_, _, _, J7, r6, q6⟩
    | false =>
      show wpAny _ X.A (handleBy (.ref a) X.env hds2) _ _ _
      exact ih (hno rfl)
/-- try: .. except x1 as n1: .. except x2 as n2: .. -/
theorem ps_try_asM (hs : X.stack = X.env :: X.outer) (hf : X.env.frame = some X.env.locals) (hN : X.N.Nodup) (tk : Takes X Wout)
    (hb : ∀ (W : WX) (pn : List (Addr × Obj)) (xe : Value → Shared → Prop), Takes (X.tr pn xe) W → PassesOwn (model X.prog X.w) X.A X.env xe → PSs (X.tr pn xe) body (tb W))
    (hh : AsOk X (h₀ :: hds) l) : PS X (.Try body (h₀ :: hds) [] [] pos) (fun D σ H => tb (wAsM X.K Wout D l) D σ H) := by
  refine ⟨fun pins s σ H D I h => ?_⟩
  have ok := I.ok
  have hfr : X.A.frames = some (X.env :: X.outer) := by rw [ok.frames, hs]
  refine wpAny_Try_except ?_
  refine wpAny_mono ((hb (wAsM X.K Wout D l) (X.pn ++ pins) (fun e s₁ => wpAny (model X.prog X.w) X.A (noteFrame e X.env) (fun _ s₂ => wpAny (model X.prog X.w) X.A (setFlight e none) (fun _ s₃ =>
    wpAny (model X.prog X.w) X.A (handleBy e X.env (h₀ :: hds)) (SP X pins D) X.xe s₃) X.xe s₂) X.xe s₁) (fun u s' xx => ?_) PassesOwn.looking).run [] s σ H D (I.toTry _) h) (fun f s1 hsp => ?_) (fun e s1 he => he)
  · obtain ⟨a, B, sI, pins', σ', H', cls, d, rfl, J', nb, up, sky, na, os, ag, w⟩ := xx
    have J : L2.Inv X pins σ' H' sI := J'.ofTry ok
    have sky' : Sky B (X.env :: X.outer) a (Zc cls d) X.env.locals s'.heap := by rw [← hs]; exact sky
    show wpAny (model X.prog X.w) X.A (noteFrame (.ref a) X.env) _ _ _
    refine Sky.land Zc.steady hfr hf sky' fun h3 fl3 up3 => ?_
    have nfr : a ∉ frs (X.env :: X.outer) := fun hm => by
      obtain ⟨oe3, vs3, he3, hz3, hd3⟩ := fl3.there
      obtain ⟨_, o', e', hnf⟩ := fl3.2.2.1.mem hm
      rw [he3] at e'
      cases e'
      exact hnf _ hd3
    have nL : a ≠ X.env.locals := fun z => nfr (List.mem_filterMap.mpr ⟨X.env, List.mem_cons_self, by rw [hf, z]⟩)
    have nF : a ∉ X.fs := fun hm => by
      obtain ⟨e, he, q⟩ := List.mem_filterMap.mp hm
      exact nfr (List.mem_filterMap.mpr ⟨e, List.mem_cons_of_mem _ he, q⟩)
    exact clauses (s := { s' with heap := h3 }) hs hf hN tk ok ⟨J, nb, up.trans up3, fl3, na, os, ag, nL, nF⟩ hh w
  · cases f with
    | next =>
      obtain ⟨σ', H', J', q⟩ := hsp
      exact wpAny_execs_nil ⟨σ', H', J'.ofTry ok, q⟩
    | brk =>
      obtain ⟨σ', H', J', q⟩ := hsp
      exact ⟨σ', H', J'.ofTry ok, q⟩
    | cont =>
      obtain ⟨σ', H', J', q⟩ := hsp
      exact ⟨σ', H', J'.ofTry ok, q⟩
    | ret u =>
      obtain ⟨v, σ', H', J', r, q⟩ := hsp
      exact ⟨v, σ', H', J'.ofTry ok, r, q⟩
end
/-! ### calls by keyword alone, within a try -/
section
variable {X : Cx} {CX : CXT} {k : Nat} {f : Addr} {fd : FuncData} {ps ks : List Str} {sp : Sp} {E : L2.St → XK} {x : Str} {p pos : Pos} {kws : List Keyword} {tk : TA} {g : List Value → List Value → List Value} {gV : List V → List V → List V}
def tCallKS (sp : Sp) (gV : List V → List V → List V) (E : L2.St → XK) (t tk : TA) : TE := fun σ H Q => t σ H fun vs H1 => tk σ H1 fun zs H2 => sp (gV vs zs) H2 Q (E σ)
theorem run_kS {pins : List (Addr × Obj)} {σ : L2.St} {H : Hp} {s : Shared} {Q : VK} {us ws : List Value} {vs zs : List V} (F : FnOk X.prog X.w X.K X.mg X.base CX k f fd ps sp) (hr : Room k X.A) (hb : KBinds X.K fd ps ks g gV) (hx : PassesAt CX X σ (E σ))
    (I : L2.Inv X pins σ H s) (r : Vals vs us) (rz : Vals zs ws) (h : sp (gV vs zs) H Q (E σ)) : wpAny (model X.prog X.w) X.A (call (.ref f) us (ks.zip ws)) (EP X pins σ Q) X.xe s := by
  have r2 := hb.rel r rz
  have hl : (g us ws).length = ps.length := by
    have e := F.len _ _ _ _ h
    rw [r2.length] at e
    exact e
  refine wpAny_call (codeAny_mono (F.run X.A X.stack s H _ (g us ws) (gV vs zs) Q (E σ) hr I.env0 (hb.to s us ws I.kIn hl) r2 h) fun r s' hq => ?_)
  match r, hq with
  | .error e, hq => exact hx pins H s e s' I hq
  | .ok (.ret u), hq => exact I.after hq
theorem pe_callK0S (F : FnOk X.prog X.w X.K X.mg X.base CX k f fd ps sp) (hr : Room k X.A) (hg : Gl X x) (hm : X.mg x = some (.ref f)) (hk : PySem.W.keepIn X.K (.ref f) = true) (hb : KBinds X.K fd ps ks g gV) (hx : ∀ σ, PassesAt CX X σ (E σ))
    (hkw : PK X kws tk) (hall : (backToKw pos (keywordEach kws X.env)).all (·.1.isSome) = true := by rfl) (hks : (backToKw pos (keywordEach kws X.env)).filterMap (·.1) = ks := by rfl)
    (hdb : (x == ("__debug__" : Str)) = false := by decide) (hpl : ((backTo pos (starEach [] X.env)).any (·.1) || (backToKw pos (keywordEach kws X.env)).any (·.1.isNone)) = false := by rfl) :
    PE X (.Call (.Name x p) [] kws pos) (tCallKS sp gV E tNil tk) := by
  refine ⟨fun pins s σ H Q I h => ?_⟩
  refine wpAny_Call_Name_kw (ld_glob I hg hm ?_ hdb)
  refine PySem.W.callWith_KW0 (h₀ := X.base) I.ok.mod.kin hk hall ?_ hpl
  refine thn (hkw.run pos pins s σ H _ I h) fun ws s2 ⟨zs, H2, I2, rz, q2⟩ => ⟨I2.kIn, ?_⟩
  rw [hks]
  exact run_kS (us := []) F hr hb (hx σ) I2 .nil rz q2
end
end LX

namespace RM
/-- the uses in the stretch of s -/
def inS (p : Pl) (s : Int) (r : Int × Int) : Bool := decide (s ≤ r.1) && decide (r.1 < p.at s)
def wsum (p : Pl) (rs : List (Int × Int)) (s : Int) : Int := ((rs.filter (inS p s)).map (·.2)).sum
theorem sum_perm : ∀ {a b : List Int}, a.Perm b → a.sum = b.sum := fun h => by
  induction h with
  | nil => rfl
  | cons x _ ih => rw [List.sum_cons, List.sum_cons, ih]
  | swap x y l => simp only [List.sum_cons]; omega
  | trans _ _ h1 h2 => exact h1.trans h2
theorem wsum_perm {p : Pl} {rs rs' : List (Int × Int)} (h : rs.Perm rs') (s : Int) : wsum p rs s = wsum p rs' s := sum_perm ((h.filter _).map _)
theorem sum_nn : ∀ {l : List Int}, (∀ x ∈ l, 0 ≤ x) → 0 ≤ l.sum
  | [], _ => Int.le_refl _
  | x :: r, h => by
    have := sum_nn (l := r) fun y hy => h y (List.mem_cons_of_mem _ hy)
    have := h x (List.mem_cons_self ..)
    rw [List.sum_cons]
    omega
theorem sum_ge : ∀ {l : List Int} {x : Int}, (∀ y ∈ l, 0 ≤ y) → x ∈ l → x ≤ l.sum
  | y :: r, x, h, hx => by
    have n := sum_nn (l := r) fun z hz => h z (List.mem_cons_of_mem _ hz)
    have := h y (List.mem_cons_self ..)
    rw [List.sum_cons]
    rcases List.mem_cons.mp hx with rfl | hx
    · omega
    · have := sum_ge (l := r) (fun z hz => h z (List.mem_cons_of_mem _ hz)) hx
      omega
/-- a filter that takes more sums to more -/
theorem filt_le {f g : (Int × Int) → Bool} : ∀ {rs : List (Int × Int)}, (∀ r ∈ rs, 1 ≤ r.2) → (∀ r ∈ rs, f r = true → g r = true) → ((rs.filter f).map (·.2)).sum ≤ ((rs.filter g).map (·.2)).sum
  | [], _, _ => Int.le_refl _
  | r :: rs, h, fg => by
    have ih := filt_le (f := f) (g := g) (rs := rs) (fun x hx => h x (List.mem_cons_of_mem _ hx)) (fun x hx => fg x (List.mem_cons_of_mem _ hx))
    have h1 := h r (List.mem_cons_self ..)
    cases hf : f r with
    | true =>
      rw [List.filter_cons_of_pos hf, List.filter_cons_of_pos (fg r (List.mem_cons_self ..) hf)]
      simp only [List.map_cons, List.sum_cons]
      omega
    | false =>
      rw [List.filter_cons_of_neg (by rw [hf]; decide)]
      cases hg : g r with
      | true =>
        rw [List.filter_cons_of_pos hg]
        simp only [List.map_cons, List.sum_cons]
        omega
      | false =>
        rw [List.filter_cons_of_neg (by rw [hg]; decide)]
        exact ih
/-- the best of the moments P: its sum, the least moment that has it -/
def BestOn (f : Int → Int) (P : List Int) (c : Int) (o : Option Int) : Prop := (P = [] ∧ c = 0 ∧ o = none) ∨ ∃ m, m ∈ P ∧ o = some m ∧ c = f m ∧ ∀ m' ∈ P, f m' ≤ c ∧ (f m' = c → m ≤ m')
theorem BestOn.uniq {f : Int → Int} {P P' : List Int} {c c' : Int} {o o' : Option Int} (h : BestOn f P c o) (h' : BestOn f P' c' o') (e : ∀ m, m ∈ P ↔ m ∈ P') : c = c' ∧ o = o' := by
  rcases h with ⟨h1, h2, h3⟩ | ⟨m, h1, h2, h3, h4⟩
  · rcases h' with ⟨k1, k2, k3⟩ | ⟨m', k1, k2, k3, k4⟩
    · exact ⟨h2.trans k2.symm, h3.trans k3.symm⟩
    · rw [h1] at e
      exact absurd ((e m').mpr k1) (by simp)
  · rcases h' with ⟨k1, k2, k3⟩ | ⟨m', k1, k2, k3, k4⟩
    · rw [k1] at e
      exact absurd ((e m).mp h1) (by simp)
    · have a := h4 m' ((e m').mpr k1)
      have b := k4 m ((e m).mp h1)
      have ec : c = c' := by omega
      have em : m = m' := by
        have := a.2 (by omega)
        have := b.2 (by omega)
        omega
      exact ⟨ec, by rw [h2, k2, em]⟩
theorem BestOn.more {f : Int → Int} {P : List Int} {c s : Int} {o : Option Int} (h : BestOn f P c o) (hc : c < f s) (hs : ∀ m ∈ P, m ≤ s) : BestOn f (P ++ [s]) (f s) (some s) := by
  refine .inr ⟨s, by simp, rfl, rfl, fun m' hm => ?_⟩
  rcases List.mem_append.mp hm with hm | hm
  · rcases h with ⟨h1, _, _⟩ | ⟨m, h1, h2, h3, h4⟩
    · rw [h1] at hm
      cases hm
    · have := h4 m' hm
      omega
  · rw [List.mem_singleton] at hm
    rw [hm]
    omega
theorem BestOn.less {f : Int → Int} {P : List Int} {c s : Int} {o : Option Int} (h : BestOn f P c o) (h0 : 0 < f s) (hc : f s ≤ c) (hs : ∀ m ∈ P, m ≤ s) : BestOn f (P ++ [s]) c o := by
  rcases h with ⟨h1, h2, _⟩ | ⟨m, h1, h2, h3, h4⟩
  · omega
  · refine .inr ⟨m, List.mem_append_left _ h1, h2, h3, fun m' hm => ?_⟩
    rcases List.mem_append.mp hm with hm | hm
    · exact h4 m' hm
    · rw [List.mem_singleton] at hm
      have := hs m h1
      rw [hm]
      omega
theorem BestOn.again {f : Int → Int} {P : List Int} {c s : Int} {o : Option Int} (h : BestOn f P c o) (hs : s ∈ P) : BestOn f (P ++ [s]) c o ∧ f s ≤ c := by
  rcases h with ⟨h1, h2, _⟩ | ⟨m, h1, h2, h3, h4⟩
  · rw [h1] at hs
    cases hs
  · refine ⟨.inr ⟨m, List.mem_append_left _ h1, h2, h3, fun m' hm => ?_⟩, (h4 s hs).1⟩
    rcases List.mem_append.mp hm with hm | hm
    · exact h4 m' hm
    · rw [List.mem_singleton] at hm
      rw [hm]
      exact h4 s hs
theorem BestOn.congr {f g : Int → Int} {P P' : List Int} {c : Int} {o : Option Int} (h : BestOn f P c o) (e : ∀ m, m ∈ P ↔ m ∈ P') (fg : ∀ m, f m = g m) : BestOn g P' c o := by
  have : f = g := funext fg
  subst this
  rcases h with ⟨h1, h2, h3⟩ | ⟨m, h1, h2, h3, h4⟩
  · rw [h1] at e
    exact .inl ⟨List.eq_nil_iff_forall_not_mem.mpr fun m hm => absurd ((e m).mpr hm) (by simp), h2, h3⟩
  · exact .inr ⟨m, (e m).mp h1, h2, h3, fun m' hm => h4 m' ((e m').mpr hm)⟩
/-- each moment's own stretch has its uses -/
theorem wsum_pos {L : Nat} {p : Pl} (o : p.ok L) {rs : List (Int × Int)} (h : ∀ r ∈ rs, 1 ≤ r.2) {m : Int} (hm : m ∈ rs.map (·.1)) : 0 < wsum p rs m := by
  obtain ⟨r, hr, rfl⟩ := List.mem_map.mp hm
  have g := p.at_gt o r.1
  have : r.2 ≤ wsum p rs r.1 := by
    refine sum_ge (fun y hy => ?_) (List.mem_map.mpr ⟨r, List.mem_filter.mpr ⟨hr, ?_⟩, rfl⟩)
    · obtain ⟨q, hq, rfl⟩ := List.mem_map.mp hy
      have := h q ((List.mem_filter.mp hq).1)
      omega
    · unfold inS
      rw [decide_eq_true (Int.le_refl _), decide_eq_true g]
      rfl
  have := h r hr
  omega
/-- no stretch has more than the best of the moments -/
theorem wsum_best {L : Nat} {p : Pl} (o : p.ok L) {rs : List (Int × Int)} (h : ∀ r ∈ rs, 1 ≤ r.2) {c : Int} {b : Option Int} (B : BestOn (wsum p rs) (rs.map (·.1)) c b) (s : Int) : wsum p rs s ≤ c := by
  by_cases e : rs.filter (inS p s) = []
  · have z : wsum p rs s = 0 := by unfold wsum; rw [e]; rfl
    rcases B with ⟨_, h2, _⟩ | ⟨m, h1, _, h3, _⟩
    · omega
    · have := wsum_pos o h h1
      omega
  · obtain ⟨r, hr, hmin⟩ : ∃ r ∈ rs.filter (inS p s), ∀ q ∈ rs.filter (inS p s), r.1 ≤ q.1 := by
      have go : ∀ l : List (Int × Int), l ≠ [] → ∃ r ∈ l, ∀ q ∈ l, r.1 ≤ q.1 := by
        intro l
        induction l with
        | nil => intro z; exact absurd rfl z
        | cons x l ih =>
          intro _
          by_cases hl : l = []
          · subst hl
            exact ⟨x, by simp, fun q hq => by rw [List.mem_singleton] at hq; rw [hq]; exact Int.le_refl _⟩
          · obtain ⟨r, hr, hm⟩ := ih hl
            by_cases hx : x.1 ≤ r.1
            · exact ⟨x, by simp, fun q hq => by
                rcases List.mem_cons.mp hq with rfl | hq
                · exact Int.le_refl _
                · have := hm q hq
                  omega⟩
            · exact ⟨r, List.mem_cons_of_mem _ hr, fun q hq => by
                rcases List.mem_cons.mp hq with rfl | hq
                · omega
                · exact hm q hq⟩
      exact go _ e
    have hr' := List.mem_filter.mp hr
    have sr : s ≤ r.1 := by
      have z := hr'.2
      unfold inS at z
      rw [Bool.and_eq_true] at z
      exact of_decide_eq_true z.1
    have mono := p.at_mono o s r.1 sr
    have le : wsum p rs s ≤ wsum p rs r.1 := by
      have e2 : (rs.filter (inS p s)).filter (inS p r.1) = rs.filter (inS p s) := by
        rw [List.filter_eq_self]
        intro q hq
        have z := (List.mem_filter.mp hq).2
        have zm := hmin q hq
        unfold inS at z ⊢
        rw [Bool.and_eq_true] at z
        rw [decide_eq_true zm, decide_eq_true (show q.1 < p.at r.1 by have := of_decide_eq_true z.2; omega)]
        rfl
      unfold wsum
      rw [← e2, List.filter_filter]
      exact filt_le h fun q _ z => by
        rw [Bool.and_eq_true] at z
        exact z.1
    rcases B with ⟨h1, _, _⟩ | ⟨m, h1, h2, h3, h4⟩
    · have : r.1 ∈ rs.map (·.1) := List.mem_map.mpr ⟨r, hr'.1, rfl⟩
      rw [h1] at this
      cases this
    · have := (h4 r.1 (List.mem_map.mpr ⟨r, hr'.1, rfl⟩)).1
      omega
/-! ### the rows in their order, the window over them -/
def Srt1 (rs : List (Int × Int)) : Prop := rs.Pairwise fun a b => a.1 ≤ b.1
/-- the window of the row i: the rows from i on that are below b -/
def win (rs : List (Int × Int)) (i b : Nat) : Int := (((rs.drop i).take (b - i)).map (·.2)).sum
theorem win_nil (rs : List (Int × Int)) (i : Nat) : win rs i i = 0 := by unfold win; rw [Nat.sub_self, List.take_zero]; rfl
theorem win_more {rs : List (Int × Int)} {i b : Nat} (hi : i ≤ b) (hb : b < rs.length) : win rs i (b + 1) = win rs i b + rs[b].2 := by
  unfold win
  have e : b + 1 - i = (b - i) + 1 := by omega
  rw [e, List.take_add_one, List.getElem?_drop]
  have e2 : i + (b - i) = b := by omega
  rw [e2, List.getElem?_eq_getElem hb, Option.toList_some, List.map_append, List.sum_append]
  simp
theorem win_next {rs : List (Int × Int)} {i b : Nat} (hi : i < b) (hb : b ≤ rs.length) : win rs (i + 1) b = win rs i b - rs[i].2 := by
  unfold win
  have hl : i < rs.length := by omega
  have e : b - i = (b - (i + 1)) + 1 := by omega
  rw [e, List.drop_eq_getElem_cons hl, List.take_succ_cons]
  simp only [List.map_cons, List.sum_cons]
  omega
theorem pw_le {rs : List (Int × Int)} (hs : Srt1 rs) {i j : Nat} (hij : i ≤ j) (hj : j < rs.length) : rs[i].1 ≤ rs[j].1 := by
  by_cases e : i = j
  · subst e
    exact Int.le_refl _
  · exact List.pairwise_iff_getElem.mp hs i j (by omega) hj (by omega)
/-- the window is what the stretch has from the row i on -/
theorem win_eq {p : Pl} {rs : List (Int × Int)} {i b : Nat} (hs : Srt1 rs) (hi : i < rs.length) (hb : i < b) (h1 : ∀ j (hj : j < rs.length), j < b → rs[j].1 < p.at rs[i].1) (h2 : ∀ j (hj : j < rs.length), b ≤ j → p.at rs[i].1 ≤ rs[j].1) :
    wsum p rs rs[i].1 = (((rs.take i).filter (inS p rs[i].1)).map (·.2)).sum + win rs i b := by
  have ew : (rs.drop i).filter (inS p rs[i].1) = (rs.drop i).take (b - i) := by
    have sp := (List.take_append_drop (b - i) (rs.drop i)).symm
    have f1 : ((rs.drop i).take (b - i)).filter (inS p rs[i].1) = (rs.drop i).take (b - i) := by
      rw [List.filter_eq_self]
      intro r hr
      obtain ⟨k, hk⟩ := List.mem_iff_getElem?.mp hr
      obtain ⟨hk1, hk2⟩ := List.getElem?_eq_some_iff.mp hk
      rw [List.length_take, List.length_drop] at hk1
      rw [List.getElem_take, List.getElem_drop] at hk2
      have a := h1 (i + k) (by omega) (by omega)
      have s := pw_le hs (show i ≤ i + k by omega) (by omega)
      rw [hk2] at a s
      unfold inS
      rw [decide_eq_true s, decide_eq_true a]
      rfl
    have f2 : ((rs.drop i).drop (b - i)).filter (inS p rs[i].1) = [] := by
      rw [List.filter_eq_nil_iff]
      intro r hr
      obtain ⟨k, hk⟩ := List.mem_iff_getElem?.mp hr
      obtain ⟨hk1, hk2⟩ := List.getElem?_eq_some_iff.mp hk
      rw [List.length_drop, List.length_drop] at hk1
      rw [List.getElem_drop, List.getElem_drop] at hk2
      have a := h2 (i + (b - i + k)) (by omega) (by omega)
      rw [hk2] at a
      unfold inS
      rw [decide_eq_false (show ¬ r.1 < p.at rs[i].1 by omega), Bool.and_false]
      decide
    rw [sp, List.filter_append, f1, f2, List.append_nil, ← sp]
  unfold wsum win
  rw [← ew, ← List.sum_append, ← List.map_append, ← List.filter_append, List.take_append_drop]
theorem win_of {p : Pl} {rs : List (Int × Int)} {i b : Nat} {c : Int} {o : Option Int} {L : Nat} (ok : p.ok L) (hn : ∀ r ∈ rs, 1 ≤ r.2) (hs : Srt1 rs) (hi : i < rs.length) (hb : i < b) (h1 : ∀ j (hj : j < rs.length), j < b → rs[j].1 < p.at rs[i].1) (h2 : ∀ j (hj : j < rs.length), b ≤ j → p.at rs[i].1 ≤ rs[j].1)
    (B : BestOn (wsum p rs) ((rs.take i).map (·.1)) c o) : (c < win rs i b → BestOn (wsum p rs) ((rs.take (i + 1)).map (·.1)) (win rs i b) (some rs[i].1)) ∧ (¬ c < win rs i b → BestOn (wsum p rs) ((rs.take (i + 1)).map (·.1)) c o) := by
  have e := win_eq hs hi hb h1 h2
  have et : (rs.take (i + 1)).map (·.1) = (rs.take i).map (·.1) ++ [rs[i].1] := by
    rw [List.take_add_one, List.getElem?_eq_getElem hi, Option.toList_some, List.map_append]
    rfl
  have up : ∀ m ∈ (rs.take i).map (·.1), m ≤ rs[i].1 := fun m hm => by
    obtain ⟨r, hr, rfl⟩ := List.mem_map.mp hm
    obtain ⟨k, hk⟩ := List.mem_iff_getElem?.mp hr
    obtain ⟨hk1, hk2⟩ := List.getElem?_eq_some_iff.mp hk
    rw [List.length_take] at hk1
    rw [List.getElem_take] at hk2
    have := pw_le hs (show k ≤ i by omega) hi
    rw [hk2] at this
    exact this
  have pos := wsum_pos ok hn (m := rs[i].1) (List.mem_map.mpr ⟨_, List.getElem_mem hi, rfl⟩)
  rw [et]
  by_cases hm : rs[i].1 ∈ (rs.take i).map (·.1)
  · obtain ⟨a1, a2⟩ := B.again hm
    have nn : 0 ≤ (((rs.take i).filter (inS p rs[i].1)).map (·.2)).sum := sum_nn fun y hy => by
      obtain ⟨q, hq, rfl⟩ := List.mem_map.mp hy
      have := hn q (List.mem_of_mem_take ((List.mem_filter.mp hq).1))
      omega
    exact ⟨fun h => by omega, fun _ => a1⟩
  · have z : (rs.take i).filter (inS p rs[i].1) = [] := by
      rw [List.filter_eq_nil_iff]
      intro r hr
      have a := up r.1 (List.mem_map.mpr ⟨r, hr, rfl⟩)
      have b : r.1 ≠ rs[i].1 := fun ee => hm (by rw [← ee]; exact List.mem_map.mpr ⟨r, hr, rfl⟩)
      unfold inS
      rw [decide_eq_false (show ¬ rs[i].1 ≤ r.1 by omega), Bool.false_and]
      decide
    rw [z] at e
    have e' : wsum p rs rs[i].1 = win rs i b := by rw [e]; simp
    rw [← e']
    exact ⟨fun h => B.more h up, fun h => B.less pos (by omega) up⟩
end RM

namespace RM
open PySem
/-! ### a bucket beside its ladder -/
/-- the first and the last place at which f holds are at least as far apart as there are such places -/
theorem filt_ends {f : Int → Bool} : ∀ {ts : List Int}, 0 < (ts.filter f).length → ∃ i e : Nat, i ≤ e ∧ (∃ x, ts[i]? = some x ∧ f x = true) ∧ (∃ x, ts[e]? = some x ∧ f x = true) ∧ (ts.filter f).length ≤ e - i + 1
  | [], h => by cases h
  | x :: r, h => by
    by_cases hx : f x = true
    · rw [List.filter_cons_of_pos hx] at h ⊢
      by_cases hr : 0 < (r.filter f).length
      · obtain ⟨i, e, h1, _, h3, h4⟩ := filt_ends hr
        refine ⟨0, e + 1, Nat.zero_le _, ⟨x, rfl, hx⟩, ?_, ?_⟩
        · obtain ⟨y, a, b⟩ := h3
          exact ⟨y, by rw [List.getElem?_cons_succ]; exact a, b⟩
        · rw [List.length_cons]
          omega
      · refine ⟨0, 0, Nat.le_refl _, ⟨x, rfl, hx⟩, ⟨x, rfl, hx⟩, ?_⟩
        rw [List.length_cons]
        omega
    · rw [List.filter_cons_of_neg hx] at h ⊢
      obtain ⟨i, e, h1, ⟨y, a, b⟩, ⟨z, c, d⟩, h4⟩ := filt_ends h
      exact ⟨i + 1, e + 1, by omega, ⟨y, by rw [List.getElem?_cons_succ]; exact a, b⟩, ⟨z, by rw [List.getElem?_cons_succ]; exact c, d⟩, by omega⟩
theorem filt_drop {f : Int → Bool} {ts : List Int} {i : Nat} (h : ∀ x ∈ ts.drop i, f x = true) : ts.length - i ≤ (ts.filter f).length := by
  have e : ts = ts.take i ++ ts.drop i := (List.take_append_drop i ts).symm
  have q : (ts.drop i).filter f = ts.drop i := List.filter_eq_self.mpr h
  have l : (ts.filter f).length = ((ts.take i).filter f).length + ((ts.drop i).filter f).length := by
    rw [← List.length_append, ← List.filter_append, ← e]
  rw [l, q, List.length_drop]
  omega
def ones (ts : List Int) : List (Int × Int) := ts.map fun t => (t, 1)
theorem ones_fst (ts : List Int) : (ones ts).map (·.1) = ts := by
  unfold ones
  rw [List.map_map]
  exact (List.map_congr_left fun _ _ => rfl).trans (List.map_id ts)
theorem wsum_ones {p : Pl} (m : Int) : ∀ ts : List Int, wsum p (ones ts) m = ((ts.filter fun t => inS p m (t, 1)).length : Nat)
  | [] => rfl
  | t :: r => by
    have ih := wsum_ones (p := p) m r
    unfold wsum ones at ih ⊢
    rw [List.map_cons]
    by_cases h : inS p m (t, 1) = true
    · rw [List.filter_cons_of_pos h, List.filter_cons_of_pos (p := fun t => inS p m (t, 1)) h, List.map_cons, List.sum_cons, ih, List.length_cons]
      omega
    · rw [List.filter_cons_of_neg h, List.filter_cons_of_neg (p := fun t => inS p m (t, 1)) h, ih]
/-- what was let by, and when the bucket is due -/
structure Bk (size every : Int) (ts : List Int) (due : Int) : Prop where
  srt : ∀ (i e : Nat) (x y : Int), i ≤ e → ts[i]? = some x → ts[e]? = some y → x ≤ y
  gap : ∀ (i e : Nat) (x y : Int), i ≤ e → ts[i]? = some x → ts[e]? = some y → ((e : Int) - i + 1 - size) * every ≤ y - x
  up : ∀ (i : Nat) (x : Int), ts[i]? = some x → x + ((ts.length : Int) - i) * every ≤ due
  hit : (ts = [] ∧ due = 0) ∨ ∃ (i : Nat) (x : Int), ts[i]? = some x ∧ due = x + ((ts.length : Int) - i) * every
theorem Bk.nil (size every : Int) : Bk size every [] 0 := ⟨fun _ _ _ _ _ h => by simp at h, fun _ _ _ _ _ h => by simp at h, fun _ _ h => by simp at h, .inl ⟨rfl, rfl⟩⟩
theorem snoc_ix {ts : List Int} {s x : Int} {i : Nat} (h : (ts ++ [s])[i]? = some x) : (i < ts.length ∧ ts[i]? = some x) ∨ (i = ts.length ∧ x = s) := by
  by_cases c : i < ts.length
  · rw [List.getElem?_append_left c] at h
    exact .inl ⟨c, h⟩
  · rw [List.getElem?_append_right (by omega)] at h
    cases q : i - ts.length with
    | zero =>
      rw [q] at h
      exact .inr ⟨by omega, (Option.some.inj h).symm⟩
    | succ n =>
      rw [q] at h
      simp at h
theorem ix_lt {ts : List Int} {x : Int} {i : Nat} (h : ts[i]? = some x) : i < ts.length := (List.getElem?_eq_some_iff.mp h).1
theorem Bk.more {size every due s : Int} {ts : List Int} (B : Bk size every ts due) (h1 : 1 ≤ size) (he : 0 < every) (hs : ∀ x ∈ ts, x ≤ s) (s0 : 0 ≤ s) (hl : due ≤ s + (size - 1) * every) : Bk size every (ts ++ [s]) (max due s + every) := by
  have le : ∀ {i : Nat} {x : Int}, ts[i]? = some x → x ≤ s := fun h => hs _ (List.mem_of_getElem? h)
  refine ⟨fun i e x y ie hx hy => ?_, fun i e x y ie hx hy => ?_, fun i x hx => ?_, .inr ?_⟩
  · rcases snoc_ix hy with ⟨a, hy⟩ | ⟨a, rfl⟩
    · rcases snoc_ix hx with ⟨b, hx⟩ | ⟨b, _⟩
      · exact B.srt i e x y ie hx hy
      · omega
    · rcases snoc_ix hx with ⟨b, hx⟩ | ⟨b, rfl⟩
      · exact le hx
      · exact Int.le_refl _
  · rcases snoc_ix hy with ⟨a, hy⟩ | ⟨a, rfl⟩
    · rcases snoc_ix hx with ⟨b, hx⟩ | ⟨b, _⟩
      · exact B.gap i e x y ie hx hy
      · omega
    · rcases snoc_ix hx with ⟨b, hx⟩ | ⟨b, rfl⟩
      · have u := B.up i x hx
        have m1 : ((e : Int) - i + 1 - size) * every = ((ts.length : Int) - i) * every - (size - 1) * every := by
          rw [← Int.sub_mul, a]
          congr 1
          omega
        omega
      · have z : ((e : Int) - i + 1 - size) ≤ 0 := by omega
        have := Int.mul_nonpos_of_nonpos_of_nonneg z (Int.le_of_lt he)
        omega
  · rw [List.length_append]
    show x + (((ts.length + 1 : Nat) : Int) - i) * every ≤ max due s + every
    have e1 : (((ts.length + 1 : Nat) : Int) - i) * every = ((ts.length : Int) - i) * every + every := by
      rw [show (((ts.length + 1 : Nat) : Int) - i) = ((ts.length : Int) - i) + 1 by omega, Int.add_mul, Int.one_mul]
    rcases snoc_ix hx with ⟨b, hx⟩ | ⟨b, rfl⟩
    · have u := B.up i x hx
      have := Int.le_max_left due s
      omega
    · have := Int.le_max_right due x
      have e2 : ((ts.length : Int) - i) = 0 := by omega
      rw [e1, e2, Int.zero_mul]
      omega
  · rw [List.length_append]
    show ∃ (i : Nat) (x : Int), (ts ++ [s])[i]? = some x ∧ max due s + every = x + (((ts.length + 1 : Nat) : Int) - i) * every
    by_cases c : s < due
    · rcases B.hit with ⟨_, z⟩ | ⟨i, x, hx, e⟩
      · omega
      · refine ⟨i, x, by rw [List.getElem?_append_left (ix_lt hx)]; exact hx, ?_⟩
        have e1 : (((ts.length + 1 : Nat) : Int) - i) * every = ((ts.length : Int) - i) * every + every := by
          rw [show (((ts.length + 1 : Nat) : Int) - i) = ((ts.length : Int) - i) + 1 by omega, Int.add_mul, Int.one_mul]
        rw [e1, Int.max_eq_left (by omega), e]
        omega
    · refine ⟨ts.length, s, by rw [List.getElem?_append_right (Nat.le_refl _), Nat.sub_self]; rfl, ?_⟩
      have e1 : (((ts.length + 1 : Nat) : Int) - (ts.length : Nat)) = 1 := by omega
      rw [e1, Int.one_mul, Int.max_eq_right (by omega)]
theorem Bk.within {size every due : Int} {ts : List Int} (B : Bk size every ts due) (h1 : 1 ≤ size) (he : 0 < every) (k : Nat) (m : Int) : wsum (.win (((k : Int) + 1) * every)) (ones ts) m ≤ size + k := by
  rw [wsum_ones]
  by_cases c : ((ts.filter fun t => inS (.win (((k : Int) + 1) * every)) m (t, 1)).length : Int) ≤ size + k
  · exact c
  · exfalso
    obtain ⟨i, e, ie, ⟨x, hx, fx⟩, ⟨y, hy, fy⟩, hc⟩ := filt_ends (f := fun t => inS (.win (((k : Int) + 1) * every)) m (t, 1)) (ts := ts) (by omega)
    have g := B.gap i e x y ie hx hy
    have fx' : m ≤ x := of_decide_eq_true (Bool.and_eq_true _ _ ▸ fx : _ ∧ _).1
    have fy' : y < m + ((k : Int) + 1) * every := of_decide_eq_true (Bool.and_eq_true _ _ ▸ fy : _ ∧ _).2
    have big : (k : Int) + 1 ≤ (e : Int) - i + 1 - size := by omega
    have := Int.mul_le_mul_of_nonneg_right big (Int.le_of_lt he)
    omega
/-- no stretch of any rule of the ladder has too many, just when the bucket lets it by -/
theorem Bk.iff {size every due s base : Int} {steps : Nat} {ts : List Int} (B : Bk size every ts due) (h1 : 1 ≤ size) (he : 0 < every) (hs : ∀ x ∈ ts, x ≤ s) (s0 : 0 ≤ s) (hb : ∀ x ∈ ts, base ≤ x) (hsp : s < base + every * steps) :
    due ≤ s + (size - 1) * every ↔ ∀ k : Nat, k < steps → ∀ m ∈ ts ++ [s], wsum (.win (((k : Int) + 1) * every)) (ones (ts ++ [s])) m ≤ size + k := by
  constructor
  · intro hl k hk m hm
    have B' := B.more h1 he hs s0 hl
    rw [wsum_ones]
    by_cases c : (((ts ++ [s]).filter fun t => inS (.win (((k : Int) + 1) * every)) m (t, 1)).length : Int) ≤ size + k
    · exact c
    · exfalso
      obtain ⟨i, e, ie, ⟨x, hx, fx⟩, ⟨y, hy, fy⟩, hc⟩ := filt_ends (f := fun t => inS (.win (((k : Int) + 1) * every)) m (t, 1)) (ts := ts ++ [s]) (by omega)
      have g := B'.gap i e x y ie hx hy
      have fx' : m ≤ x := by
        have := (Bool.and_eq_true _ _ ▸ fx : _ ∧ _).1
        exact of_decide_eq_true this
      have fy' : y < m + ((k : Int) + 1) * every := by
        have := (Bool.and_eq_true _ _ ▸ fy : _ ∧ _).2
        exact of_decide_eq_true this
      have big : (k : Int) + 1 ≤ (e : Int) - i + 1 - size := by omega
      have := Int.mul_le_mul_of_nonneg_right big (Int.le_of_lt he)
      omega
  · intro h
    by_cases c : due ≤ s + (size - 1) * every
    · exact c
    · exfalso
      rcases B.hit with ⟨rfl, z⟩ | ⟨i, x, hx, e⟩
      · have := Int.mul_nonneg (show 0 ≤ size - 1 by omega) (Int.le_of_lt he)
        omega
      · have il := ix_lt hx
        have hxs := hs x (List.mem_of_getElem? hx)
        have hxb := hb x (List.mem_of_getElem? hx)
        -- the interval that the distance falls into
        have q0 : 0 ≤ (s - x) / every := Int.ediv_nonneg (by omega) (Int.le_of_lt he)
        obtain ⟨k, hk⟩ : ∃ k : Nat, (s - x) / every = (k : Int) := ⟨((s - x) / every).toNat, by omega⟩
        have lt := Int.lt_ediv_add_one_mul_self (s - x) he
        rw [hk] at lt
        have ge := Int.ediv_mul_le (s - x) (show every ≠ 0 by omega)
        rw [hk] at ge
        have kst : k < steps := by
          have a1 : (k : Int) * every < (steps : Int) * every := by
            rw [Int.mul_comm (steps : Int) every]
            omega
          have := Int.lt_of_mul_lt_mul_right a1 (Int.le_of_lt he)
          omega
        have hm : x ∈ ts ++ [s] := List.mem_append_left _ (List.mem_of_getElem? hx)
        have w := h k kst x hm
        rw [wsum_ones] at w
        have cnt := filt_drop (f := fun t => inS (.win (((k : Int) + 1) * every)) x (t, 1)) (ts := ts ++ [s]) (i := i) fun y hy => by
          obtain ⟨j, hj⟩ := List.mem_iff_getElem?.mp hy
          rw [List.getElem?_drop] at hj
          show (decide (x ≤ y) && decide (y < x + ((k : Int) + 1) * every)) = true
          rw [Bool.and_eq_true]
          rcases snoc_ix hj with ⟨a, hj⟩ | ⟨a, rfl⟩
          · have l1 := B.srt i (i + j) x y (by omega) hx hj
            have l2 := hs y (List.mem_of_getElem? hj)
            exact ⟨decide_eq_true l1, decide_eq_true (by omega)⟩
          · exact ⟨decide_eq_true hxs, decide_eq_true (by omega)⟩
        rw [List.length_append] at cnt
        have cnt' : (ts.length + 1 : Int) - i ≤ size + k := by
          have : ts.length + 1 - i ≤ ((ts ++ [s]).filter fun t => inS (.win (((k : Int) + 1) * every)) x (t, 1)).length := cnt
          omega
        have big : (ts.length : Int) - i - (size - 1) ≤ k := by omega
        have := Int.mul_le_mul_of_nonneg_right big (Int.le_of_lt he)
        rw [Int.sub_mul] at this
        omega
end RM

namespace LSo
open PySem PySem.Spec PyProof.Rows Srt SrtO
section
variable {prog : Program} {w : World} {A : Around} {E : Value → Shared → Prop} {s : Shared}
/-- a tuple's items, put into a new list -/
theorem collect_tup {l : Addr} {vs : List Value} {Q : List Value → Shared → Prop} (hl : IsTup s.heap l vs.toArray) (hsz : vs.length ≤ sizeLine)
    (h : Q vs { s with heap := (s.heap.push (seqObj "list" #[] 0)).update s.heap.objs.size (Obj.mapSeq (· ++ vs.toArray)) }) :
    wpAny (model prog w) A (collect (.ref l)) Q E s := by
  obtain ⟨o, ho, hc, n, hd⟩ := id hl
  unfold collect
  refine wpAny_bind (wpAny_runValue (codeAny_builtin entry_proto_collect' ?_))
  show wpAny _ _ (do again (.builtin "list.__iadd__" ⟨[← newList [], .ref l], []⟩)) _ _ s
  refine wpAny_bind (wpAny_newList (wpAny_pure ⟨Code.quiet_builtin _ (by decide +kernel), codeAny_builtin entry_list_iadd' ?_⟩))
  show wpAny _ _ (Builtin.List.listExtendWith (.ref s.heap.objs.size) (.ref l) (.ref s.heap.objs.size)) _ _ { s with heap := s.heap.push (seqObj "list" #[] 0) }
  unfold Builtin.List.listExtendWith
  have ho' : (s.heap.push (seqObj "list" #[] 0)).get? l = some o := Heap.get?_push_of_some _ ho
  refine wpAny_bind (wpAny_typeOf (T := "tuple") ⟨o, ho', hc⟩ ?_)
  have ht : (Value.type "tuple" == Value.type "tuple") = true := by rfl
  rw [if_pos (by rw [ht]; simp)]
  refine wpAny_bind (listItems_at ho' hd ?_)
  refine wpAny_bind (listItems_at (xs := #[]) (n := 0) (Heap.get?_push_size _ rfl) rfl ?_)
  rw [if_neg (by simp)]
  refine wpAny_bind (listUpdate_at (xs := #[]) (n := 0) (Heap.get?_push_size _ rfl) rfl ?_ (Nat.zero_le _) (by show (#[] ++ vs.toArray).size ≤ sizeLine + 1; simp only [Array.size_append, List.size_toArray, List.length_nil]; omega))
  refine wpAny_pure ?_
  show wpAny (model prog w) A (do
      let o ← load s.heap.objs.size
      match o.data with
      | .seq xs _ => pure xs.toList
      | _ => unsupported "internal:collect") Q E { s with heap := (s.heap.push (seqObj "list" #[] 0)).update s.heap.objs.size (Obj.mapSeq (· ++ vs.toArray)) }
  refine wpAny_bind (wpAny_load (get?_update_seq (Heap.get?_push_size _ rfl) _) ?_)
  show wpAny _ _ (pure ((#[] : Array Value) ++ vs.toArray).toList) Q E _
  rw [show ((#[] : Array Value) ++ vs.toArray).toList = vs by simp]
  exact wpAny_pure h
/-- sorted(t), t a tuple of pairs of ints -/
theorem sorted_tup {l : Addr} {vs : List Value} {k : Value → Int × Int} {Q : Value → Shared → Prop} (hl : IsTup s.heap l vs.toArray) (hz : vs.length ≤ sizeLine) (hp : ∀ v ∈ vs, IsPair s.heap v (k v).1 (k v).2)
    (h : ∀ (h' : Heap) (d : Addr) (out : List Value), Srtd (fun v u => lexB (k v) (k u)) out → Stb (fun v u => lexB (k v) (k u)) out vs → (∀ b o, s.heap.get? b = some o → h'.get? b = some o) → s.heap.objs.size ≤ d → (∃ n, h'.get? d = some (seqObj "list" out.toArray n)) → Q (.ref d) { s with heap := h' }) :
    wpAny (model prog w) A (call (.builtin "sorted") [.ref l]) Q E s := by
  have O := swo_lex k
  refine Calls.call_function_entry kind_sorted plain_sorted entry_sorted (args_sorted1 _) ?_
  unfold Builtin.«sorted»
  refine wpAny_bind (m := checkCount "sorted" 1 1 _) (wpAny_pure ?_)
  refine wpAny_bind (collect_tup hl hz ?_)
  refine wpAny_bind (wpAny_newList ?_ hz)
  have hsz : ((s.heap.push (seqObj "list" #[] 0)).update s.heap.objs.size (Obj.mapSeq (· ++ vs.toArray))).objs.size = s.heap.objs.size + 1 := by
    rw [Heap.size_update, size_push']
  have hoL : (((s.heap.push (seqObj "list" #[] 0)).update s.heap.objs.size (Obj.mapSeq (· ++ vs.toArray))).push (seqObj "list" vs.toArray 0)).get? (s.heap.objs.size + 1) = some (seqObj "list" vs.toArray 0) := by
    rw [← hsz]; exact Heap.get?_push_size _ rfl
  have keep : ∀ b o, s.heap.get? b = some o → b ≠ s.heap.objs.size + 1 ∧ (((s.heap.push (seqObj "list" #[] 0)).update s.heap.objs.size (Obj.mapSeq (· ++ vs.toArray))).push (seqObj "list" vs.toArray 0)).get? b = some o := fun b o q => by
    have hlt : b < s.heap.objs.size := Heap.lt_size q
    refine ⟨Nat.ne_of_lt (Nat.lt_succ_of_lt hlt), Heap.get?_push_of_some _ ?_⟩
    rw [Heap.get?_update_ne _ _ _ _ (Nat.ne_of_lt hlt)]
    exact Heap.get?_push_of_some _ q
  show wpAny _ _ _ _ _ { s with heap := ((s.heap.push (seqObj "list" #[] 0)).update s.heap.objs.size (Obj.mapSeq (· ++ vs.toArray))).push (seqObj "list" vs.toArray 0) }
  rw [hsz]
  refine wpAny_bind (wpAny_holding (wpAny_call_entry slot_list_sort ⟨_, hoL, rfl⟩ entry_list_sort (list_sort_ord O hoL hz (fun h2 => ?_) fun out hs hb => ⟨_, rfl, ?_⟩) (args_list_sort _)))
  · refine pairs_sortableO (s := { s with heap := _ }) (by omega) (fun v hm => (hp v hm).keeps fun b o e _ => (keep b o e).2) fun o e => ?_
    have e' : some o = some (seqObj "list" vs.toArray 0) := e.symm.trans hoL
    cases e'
    intro c
    exact absurd (Value.type.inj c) (by decide)
  · exact wpAny_pure ⟨_, rfl, h _ _ out hs hb (fun b o e => sortedAll_old e) (Nat.le_succ _) (sortedAll_at s.heap vs out.toArray)⟩
end
open L2
/-- sorted(xs), xs a list or a tuple of pairs of ints -/
def rSortedQ (K : PySem.W.Frag) : List V → Hp → VK → Prop := fun vs H Q => ∃ (a : Addr) (xs : List V) (k : V → Int × Int), vs = [V.ref a] ∧ (SqL K H a xs ∨ SqT K H a xs) ∧ (∀ x ∈ xs, ∃ t, x = V.ref t ∧ H t = some (.tup [.int (k x).1, .int (k x).2])) ∧
  ∀ ys p, SrtO.Srtd (ltP k) ys → ys.Perm xs → H p = none → Q (.ref p) (upd H p (.lst ys))
theorem cr_sortedQ {X : Cx} : CallR X (.builtin "sorted") (rSortedQ X.K) := by
  intro pins s σ H vs us Q I r h
  obtain ⟨a, xs, k, rfl, hs | hs, hx, q⟩ := h
  · exact cr_sortedPO pins s σ H _ us Q I r ⟨a, xs, k, rfl, hs, hx, fun ys p h1 h2 h3 => q ys p h1 h2.perm h3⟩
  · obtain ⟨its, rv, hl, hz⟩ := I.tuple hs
    obtain ⟨u, rfl, ru⟩ := vals1 r
    obtain rfl : u = Value.ref a := ru
    obtain ⟨e1, e2⟩ := refs_back rv fun x m => by
      obtain ⟨t, e, _⟩ := hx x m
      exact ⟨t, e⟩
    refine sorted_tup (k := fun u => k (backV u)) hl (by rw [← rv.length]; exact hz) (fun v hv => ?_) fun h' d out h1 h2 kp hd hn => ?_
    · obtain ⟨t, rfl⟩ := e2 v hv
      have hm : V.ref t ∈ xs := by rw [e1]; exact List.mem_map.mpr ⟨_, hv, rfl⟩
      obtain ⟨t', e, ht⟩ := hx _ hm
      cases e
      obtain ⟨_, its2, r2, o, ho, hc, n, hd⟩ := I.hok _ _ ht
      obtain ⟨u1, u2, rfl, ri, rj⟩ := vals2 r2
      obtain ⟨t1, rfl⟩ := ri
      obtain ⟨t2, rfl⟩ := rj
      exact ⟨t, o, t1, t2, n, rfl, ho, hc, hd⟩
    · have h3 : ∀ u ∈ out, ∃ a, u = Value.ref a := fun u hu => e2 u (h2.perm.mem_iff.mp hu)
      obtain ⟨n, hn⟩ := hn
      have hb : SrtO.Stb (ltP k) (out.map backV) xs := by
        rw [e1]
        exact SrtO.Stb.map (ltP_swo k) backV h2
      refine ⟨.ref d, upd H d (.lst (out.map backV)), I.laid (t' := s.toks) kp hd ⟨?_, out, n, vals_back h3, hn⟩, rfl, q _ d (SrtO.srtd_map h1) hb.perm (I.hok.fresh hd)⟩
      rw [hb.len]
      exact hz
end LSo

namespace LC
open PySem L2
section
variable {K : PySem.W.Frag} {a b : Addr} {xs ys : List V}
theorem walk_zipT {n : Nat} (hn : n = min xs.length ys.length) : Walk (RZ.ItzT K a b) n (fun H => SqT K H a xs ∧ SqT K H b ys) (YPair (fun i => xs[i]?) (fun i => ys[i]?)) := by
  have la : ∀ {i}, i < n → i < xs.length ∧ i < ys.length := fun h => by omega
  refine ⟨fun i _ hi q => ⟨xs, ys, xs[i]'(la hi).1, ys[i]'(la hi).2, q.1, q.2, List.getElem?_eq_getElem _, List.getElem?_eq_getElem _⟩, fun _ q => ⟨xs, ys, q.1, q.2, by omega⟩, fun i H v H' _ q y => ?_⟩
  obtain ⟨T, x, z, rest⟩ := y
  exact ⟨T, x, z, rest.1, rest.2.1, rest.2.2.1, rest.2.2.2.1 xs q.1, rest.2.2.2.2 ys q.2⟩
end
theorem kLT_non {K : PySem.W.Frag} : PySem.W.kitAny K (.type "NoneType") [.type "list", .type "tuple"] = some false := kitAny_cons (kit_ty (show kitB "NoneType" "list" = some false by decide +kernel)) (fun _ => kitAny_cons (kit_ty (show kitB "NoneType" "tuple" = some false by decide +kernel)) (fun _ => kitAny_nil) fun z => by cases z) (fun z => by cases z)
theorem kLT_str {K : PySem.W.Frag} : PySem.W.kitAny K (.type "str") [.type "list", .type "tuple"] = some false := kitAny_cons (kit_ty (show kitB "str" "list" = some false by decide +kernel)) (fun _ => kitAny_cons (kit_ty (show kitB "str" "tuple" = some false by decide +kernel)) (fun _ => kitAny_nil) fun z => by cases z) (fun z => by cases z)
theorem kLT_bool {K : PySem.W.Frag} : PySem.W.kitAny K (.type "bool") [.type "list", .type "tuple"] = some false := kitAny_cons (kit_ty (show kitB "bool" "list" = some false by decide +kernel)) (fun _ => kitAny_cons (kit_ty (show kitB "bool" "tuple" = some false by decide +kernel)) (fun _ => kitAny_nil) fun z => by cases z) (fun z => by cases z)
theorem kLT_tup {K : PySem.W.Frag} : PySem.W.kitAny K (.type "tuple") [.type "list", .type "tuple"] = some true := kitAny_cons (kit_ty (show kitB "tuple" "list" = some false by decide +kernel)) (fun _ => kitAny_cons (kit_ty (show kitB "tuple" "tuple" = some true by decide +kernel)) (fun z => by cases z) fun _ => rfl) (fun z => by cases z)
theorem sameT {K : PySem.W.Frag} {H H' : Hp} {a : Addr} {xs : List V} (e : L2.Same H H') (h : SqT K H a xs) : SqT K H' a xs := by
  rcases h with (h | ⟨o, h⟩) | h
  · exact .inl (.inl (e _ _ h))
  · exact .inl (.inr ⟨o, e _ _ h⟩)
  · exact .inr h
/-- both ways of a test go on alike -/
theorem ite_dc {p : Prop} [Decidable p] {A B C : Prop} (h : C) (h1 : p → C → A) (h2 : ¬ p → C → B) : if decide p = true then A else B := by
  by_cases q : p
  · rw [decide_eq_true q]
    exact L2.iteT (h1 q h)
  · rw [decide_eq_false q]
    exact L2.iteF (h2 q h)
theorem cut_lastV (xs : List V) (x : V) : cutV (xs ++ [x]) none (some (-1)) = xs := by
  have e : HT.sIx (xs ++ [x]).length (xs ++ [x]).length (some (-1)) = xs.length := by
    show (if (-1 : Int) < 0 then ((-1 : Int) + (((xs ++ [x]).length : Nat) : Int)).toNat else min (-1 : Int).toNat (xs ++ [x]).length) = xs.length
    rw [if_pos (by decide), List.length_append]
    show ((-1 : Int) + ((xs.length + 1 : Nat) : Int)).toNat = _
    omega
  unfold cutV
  rw [e, HT.sIx_none, Nat.sub_zero, List.drop_zero]
  exact List.take_left' rfl
/-- equal data, told and due -/
def Sc : V → Prop
  | .int _ => True
  | .non => True
  | .bl _ => True
  | .str _ => True
  | _ => False
def mkO (b : Bool) (xs : List V) : HO := if b = true then .lst xs else .tup xs
def Lk (H : Hp) : Nat → V → V → Prop
  | 0, x, y => x = y ∧ Sc x
  | n + 1, x, y => (x = y ∧ Sc x) ∨ ∃ (b : Bool) (p q : Addr) (xs ys : List V), x = .ref p ∧ y = .ref q ∧ H p = some (mkO b xs) ∧ H q = some (mkO b ys) ∧ xs.length = ys.length ∧ xs.length ≤ 1000000 ∧ ∀ (i : Nat) (u v : V), xs[i]? = some u → ys[i]? = some v → Lk H n u v
theorem Lk.same {H H' : Hp} (s : L2.Same H H') : ∀ {n : Nat} {x y : V}, Lk H n x y → Lk H' n x y
  | 0, _, _, h => h
  | n + 1, _, _, .inl h => .inl h
  | n + 1, _, _, .inr ⟨b, p, q, xs, ys, e1, e2, h1, h2, h3, h4, h5⟩ => .inr ⟨b, p, q, xs, ys, e1, e2, s _ _ h1, s _ _ h2, h3, h4, fun i u v a c => (h5 i u v a c).same s⟩
theorem Lk.sc {H : Hp} {x : V} (h : Sc x) : ∀ n, Lk H n x x
  | 0 => ⟨rfl, h⟩
  | _ + 1 => .inl ⟨rfl, h⟩
theorem Lk.cases {H : Hp} {m : Nat} {u v : V} (h : Lk H m u v) : (u = v ∧ Sc u) ∨ ∃ j, m = j + 1 ∧ ∃ (b : Bool) (p q : Addr) (xs ys : List V), u = .ref p ∧ v = .ref q ∧ H p = some (mkO b xs) ∧ H q = some (mkO b ys) ∧ xs.length = ys.length ∧ xs.length ≤ 1000000 ∧ ∀ (i : Nat) (s t : V), xs[i]? = some s → ys[i]? = some t → Lk H j s t := by
  cases m with
  | zero => exact .inl h
  | succ j =>
    rcases h with h | h
    · exact .inl h
    · exact .inr ⟨j, rfl, h⟩
end LC

namespace LE
open PySem L2 PySem.Spec PyProof.Rows
/-- the type of what stands on the right: an int, a text, an instance -/
inductive TyR (H : Hp) : V → Value → Prop where
  | int (i : Int) : TyR H (.int i) (.type "int")
  | str (z : Str) : TyR H (.str z) (.type "str")
  | ins {b C dx : Addr} {fs : List (Str × V)} (e : H b = some (.ins C dx fs)) : TyR H (.ref b) (.ref C)
/-- the class at C has the def at g, of the promise sp, under the name m -/
structure Own (X : Cx) (n : Nat) (m : Str) (C g : Addr) (sp : Sp) : Prop where
  at_ : PySem.W.findIn X.K (.ref C) m = some (some (.ref g))
  fn : PySem.W.isFn X.K (.ref g) = true
  F : FnR X.prog X.w X.K X.mg X.base CX0 n g sp
/-- x == y, x an instance of a class with an own == -/
def rEqI (X : Cx) (n : Nat) : R2 := fun x y H Q => ∃ (a C dx g : Addr) (fs : List (Str × V)) (sp : Sp) (tb : Value), x = .ref a ∧ H a = some (.ins C dx fs) ∧ Own X n "__eq__" C g sp ∧ TyR H y tb ∧ PySem.W.notFirst X.K C tb = true ∧ sp [x, y] H Q E0
section
variable {X : Cx} {n : Nat}
theorem op_eqI (hr : Room n X.A) : OpR X (compareOp .Eq) (rEqI X n) := by
  intro pins s σ H x y v u Q I rx ry h
  obtain ⟨a, C, dx, g, fs, sp, tb, rfl, ha, O, ty, hn, q⟩ := h
  cases (show v = Value.ref a from rx)
  obtain ⟨mA, J, _⟩ := ins_get I.hok ha
  obtain ⟨od, J, _⟩ := J.look
  obtain ⟨m, hF⟩ := I.fr
  have lk : PySem.W.Looks (model X.prog X.w) s.heap (typeOf u) tb := by
    cases ty with
    | int i => obtain ⟨t, e⟩ := (show ∃ t, u = Value.int i t from ry); cases e; exact PySem.W.Looks.of_pure rfl
    | str i => obtain ⟨t, e⟩ := (show ∃ t, u = Value.str i t from ry); cases e; exact PySem.W.Looks.of_pure rfl
    | ins e =>
      cases ry
      obtain ⟨mB, J', _⟩ := ins_get I.hok e
      obtain ⟨od', J', _⟩ := J'.look
      exact J'.type
  show wpAny (model X.prog X.w) X.A (richCompare .Eq (.ref a) u) (EP X pins σ Q) X.xe s
  refine PySem.W.cmp_K (op := .Eq) hr.units0 hF I.ok.mod.kin J lk hn O.at_ O.fn ?_
  refine wpAny_mono (wpAny_call (run_fnR (us := [.ref a, u]) (vs := [.ref a, y]) O.F hr (E := E0) pass0 I (.cons rfl (.cons ry .nil)) q)) (fun w s' z => ?_) fun _ _ x => x
  obtain ⟨z', H', I', rz, qz⟩ := z
  exact SlX.cmpback rz ⟨z', H', I', rz, qz⟩
/-- str(x) of an instance of a class with an own __str__ -/
def rStrI (X : Cx) (n : Nat) : List V → Hp → VK → Prop := fun xs H Q => ∃ (a C dx g : Addr) (fs : List (Str × V)) (sp : Sp), xs = [V.ref a] ∧ H a = some (.ins C dx fs) ∧ Own X n "__str__" C g sp ∧ sp [.ref a] H (fun z H' => ∃ t, z = .str t ∧ Q z H') E0
theorem run_in {A : Around} {pins : List (Addr × Obj)} {s : Shared} {σ : L2.St} {H : Hp} {g : Addr} {sp : Sp} {Q : VK} {us : List Value} {ws : List V} (F : FnR X.prog X.w X.K X.mg X.base CX0 n g sp) (hr : Room n A) (e0 : Env0 X.prog X.w X.K X.mg X.base A X.stack s H) (I : Inv X pins σ H s) (r : Vals ws us) (h : sp ws H Q E0) :
    codeAny (model X.prog X.w) A (.call (.ref g) ⟨us, []⟩) (fun r s' => match r with | .ok (.ret v) => EP X pins σ Q v s' | .ok _ => False | .error e => X.xe e s') s := by
  refine codeAny_mono (F A X.stack s H us ws Q E0 hr e0 r h) fun r s' hq => ?_
  cases r with
  | error e => exact pass0 pins σ H s e s' I hq
  | ok fl =>
    cases fl with
    | ret u => exact I.after hq
    | next => exact False.elim hq
    | brk => exact False.elim hq
    | cont => exact False.elim hq
theorem call_strI (hr : Room (n + 2) X.A) : CallR X (.type "str") (rStrI X n) := by
  intro pins s σ H xs us Q I r h
  obtain ⟨a, C, dx, g, fs, sp, rfl, ha, O, q⟩ := h
  obtain ⟨u, rfl, ru⟩ := r.one
  cases (show u = Value.ref a from ru)
  obtain ⟨mA, J, _⟩ := ins_get I.hok ha
  obtain ⟨od, J, _⟩ := J.look
  have hr2 : Room n X.A.in1.in1 := (show Room (n + 1) X.A.in1 from Room.in1 hr).in1
  refine PySem.W.kso_call hr2.units0 I.kIn J O.at_ O.fn (wpAny_mono (wpAny_call (run_in (us := [.ref a]) (ws := [.ref a]) O.F hr2 I.env0.in1.in1 I (.cons rfl .nil) q)) (fun w s' z => ?_) fun _ _ x => x)
  obtain ⟨z', H', I', rz, t, ez, qz⟩ := z
  subst ez
  obtain ⟨k, e⟩ := (show ∃ k, w = Value.str t k from rz)
  cases e
  exact ⟨.str t, H', I', ⟨k, rfl⟩, qz⟩
/-- f'{x}' of such an instance -/
def tFmtI (X : Cx) (n : Nat) (te : TE) : TE := fun σ H Q => te σ H fun x H1 => ∃ (a C dx g : Addr) (fs : List (Str × V)) (sp : Sp), x = V.ref a ∧ H1 a = some (.ins C dx fs) ∧ Own X n "__str__" C g sp ∧ PySem.W.findIn X.K (.ref C) "__format__" = some (some (.builtin "object.__format__")) ∧ PySem.W.mroIn X.K C (.type "object") = some true ∧
  sp [.ref a] H1 (fun z H' => ∃ t, z = .str t ∧ Q z H') E0
theorem pe_fmtI {e : Expr} {te : TE} {pos : Pos} (hr : Room (n + 1) X.A) (he : PE X e te) : PE X (.FormattedValue e (-1) none pos) (tFmtI X n te) := by
  refine ⟨fun pins s σ H Q I h => ?_⟩
  refine wpAny_FormattedValue_plain (thn (he.run pins s σ H _ I h) fun v s1 hv => ?_)
  obtain ⟨x, H1, I1, r1, a, C, dx, g, fs, sp, rfl, ha, O, hf, hm, q⟩ := hv
  cases (show v = Value.ref a from r1)
  obtain ⟨mA, J, _⟩ := ins_get I1.hok ha
  obtain ⟨od, J, _⟩ := J.look
  have hr1 : Room n X.A.in1 := Room.in1 hr
  have I2 := I1.tok (s1.toks + 1)
  refine PySem.W.kfo_fieldS hr1.units0 I1.kIn J hf hm O.at_ O.fn (wpAny_mono (wpAny_call (run_in (us := [.ref a]) (ws := [.ref a]) O.F hr1 I2.env0.in1 I2 (.cons rfl .nil) q)) (fun w s' z => ?_) fun _ _ x => x)
  obtain ⟨z', H', I', rz, t, ez, qz⟩ := z
  subst ez
  obtain ⟨k, e⟩ := (show ∃ k, w = Value.str t k from rz)
  cases e
  exact ⟨.str t, H', I', ⟨k, rfl⟩, qz⟩
end
end LE

namespace LL
open PySem PySem.Spec PyProof.Rows L2 LamX
/-! ### a lambda handed to a def that calls it within a try: the clauses see the names as they stood at the call -/
section
variable {X : Cx} {pins : List (Addr × Obj)} {σ : L2.St} {H : Hp} {s : Shared}
/-- x() in the def that got the lambda, the way out told at the very names -/
theorem pe_actS {CXg : CXT} {Eg : XK} {Ng : List Str} {qg : Str} {sg : Scope} {g f c' : Addr} {cdg pm ctv : Value} {params : Arguments} {body : Expr} {scope : Scope} {k i : Nat} {a : Str} {pn : List (Addr × Obj)} {xe : Value → Shared → Prop} {W : WX} {tb : XK → TE} {p1 p2 : Pos}
    (I : Inv X pins σ H s) (L : LamS X.env.scope scope) (hf : s.heap.get? f = some (PySem.W.kla_obj "<lambda>" (X.env.qual ++ "<lambda>") params body scope (cloFrom X.env.cells scope.names []) pm c' ctv)) (hfn : H f = none) (hfr : f ∉ frs X.stack)
    (hbind : bindArgs (PySem.W.kla_fn "<lambda>" (X.env.qual ++ "<lambda>") params body scope (cloFrom X.env.cells scope.names []) pm (.ref c') ctv) ⟨[], []⟩ = pure [])
    (tk : Takes ((cxOf CXg X.prog X.w X.K X.mg X.base Ng qg sg g cdg X.A X.stack s H Eg).tr pn xe) W) (hr : Room (k + 1) (X.A.deeper (envOfC qg sg s.heap.objs.size g cdg)))
    (hbody : ∀ (A : Around) (outer : List Env) (s : Shared) (H : Hp) (E : XK), Room k (A.deeper (lamEnv X scope s.heap.objs.size f c')) → PE (lamCx X A outer s H E scope f c') body (tb E))
    (hN : Ng[i]? = some a) (hv : Vis sg a) (hd : (a == ("__debug__" : Str)) = false := by decide) (hcd : (a == ("__classdict__" : Str)) = false := by decide) :
    PE ((cxOf CXg X.prog X.w X.K X.mg X.base Ng qg sg g cdg X.A X.stack s H Eg).tr pn xe) (.Call (.Name a p1) [] [] p2)
      (fun σZ HZ Q => σZ[i]? = some (some (.ref f)) ∧ HZ c' = some (CodeO c' (X.env.qual ++ "<lambda>")) ∧ tb (fun cls d H' => W cls d σZ H') σ HZ Q) := by
  refine ⟨fun pz sz σz Hz Q J0 h => ?_⟩
  obtain ⟨hs, hc, ht⟩ := h
  refine wpAny_Call_Name_kw (thn ((pe_var (pos := p1) (i := i) hN hv hd hcd).run pz sz σz Hz (fun v H1 => v = .ref f ∧ H1 = Hz) J0 ⟨.ref f, hs, rfl, rfl⟩) fun u s1 ⟨v, H1, J1, rv, ev, eH⟩ => ?_)
  subst ev
  subst eH
  obtain rfl : u = Value.ref f := rv
  have at1 := J1.base.keep f _ hf hfn hfr (fun z => nomatch (show f ∈ ([] : List Addr) from z))
  have un : Un (frs X.stack) [] H H1 s.heap s1.heap := J1.base
  refine PySem.W.callWith_F0 ⟨_, _, _, _, at1⟩ ?_
  obtain ⟨⟨oc, vs, t, ho, hdc, hvc⟩, _, _⟩ := J1.hok c' _ hc
  let E : XK := fun cls d H' => W cls d σz H'
  have run : codeAny (model X.prog X.w) (X.A.deeper (envOfC qg sg s.heap.objs.size g cdg)) (.call (.ref f) ⟨[], []⟩) (CR (L2.CX X.prog X.w) (envOfC qg sg s.heap.objs.size g cdg :: X.stack) X.prog X.w H1 s1 Q E) s1 := by
    refine PySem.W.kla_callFunE hr.depth at1 rfl L.co L.gen rfl ⟨c', oc, vs, t, rfl, ho, hdc, hvc⟩ ?_
    rw [hbind]
    refine wpAny_pure (wpAny_newFunctionEnv (fun y hy => (L.own y hy).2) (fun y hy => absurd hy (by simp)) (fun hh hns hsb => ⟨J1.nolimit.fresh _ hsb, ?_⟩) L.kind)
    show codeAny _ _ (.expr body (lamEnv X scope s1.heap.objs.size f c')) _ _
    have kp : ∀ b o, s1.heap.get? b = some o → hh.get? b = some o := fun b o e => hsb.extBut b o (Nat.ne_of_lt (Heap.lt_size e)) (Heap.get?_push_of_some _ e)
    refine PySem.W.kla_codeExpr (wpAny_mono ((hbody _ _ s1 H1 E (hr.deeper _)).run [] _ _ H1 Q (lam_start2 I L J1.env0 hr.hd un hns kp) ht) (fun v s' hq => ?_) fun e s' hq => hq)
    obtain ⟨w', H', J', rv, q⟩ := hq
    exact ⟨w', H', J'.os, J'.bare, J'.base, J'.hok, rv, q⟩
  refine wpAny_call (codeAny_mono run fun r s' hq => ?_)
  match r, hq with
  | .error e, hq => exact (passAt tk σz) pz H1 s1 e s' J1 hq
  | .ok (.ret u), hq => exact J1.after hq
end
/-- what the body of such a def gives, if its call of x runs as tl -/
def GivesS (X : Cx) (Ng : List Str) (x : Str) (sg : Scope) (g : Addr) (cdg : Value) (bg : List Stmt) (a : Str) (q : Str) (TT : (XK → Hp → VK → Prop) → Hp → VK → Prop) : Prop :=
  ∀ (f c' : Addr) (s : Shared) (H : Hp) (Q : VK) (tl : XK → Hp → VK → Prop),
    (∀ (W : WX) (pn : List (Addr × Obj)) (xe : Value → Shared → Prop) (p1 p2 : Pos), Takes ((cxOf CX0 X.prog X.w X.K X.mg X.base Ng x sg g cdg X.A X.stack s H E0).nox.tr pn xe) W →
      PE ((cxOf CX0 X.prog X.w X.K X.mg X.base Ng x sg g cdg X.A X.stack s H E0).nox.tr pn xe) (.Call (.Name a p1) [] [] p2) (fun σZ HZ Q => σZ[0]? = some (some (.ref f)) ∧ HZ c' = some (CodeO c' q) ∧ tl (fun cls d H' => W cls d σZ H') HZ Q)) →
    H c' = some (CodeO c' q) → TT tl H Q →
    ∃ t, PSs (cxOf CX0 X.prog X.w X.K X.mg X.base Ng x sg g cdg X.A X.stack s H E0).nox bg t ∧ t { nx := fun _ H' => Q .non H', rt := Q } (L2.start Ng [.ref f]) H
/-- x(lambda: body) -/
theorem pe_lamcallS {X : Cx} {T : List (Addr × Str)} {TT : (XK → Hp → VK → Prop) → Hp → VK → Prop} {x a : Str} {g c P : Addr} {k : Nat} {st : Stmt} {fd : FuncData} {Ng : List Str} {params : Arguments} {body : Expr} {scope : Scope} {t : XK → TE} {p lpos pos : Pos} {ql : Str}
    (D : LC.Def X.K X.mg x st [a] g fd) (hg : Gl X x) (Sg : FnScope Ng [a] (defScope st)) (hNg : Ng[0]? = some a) (hva : Vis (defScope st) a) (hG : ∀ cdg, GivesS X Ng x (defScope st) g cdg (defBody st) a (X.env.qual ++ "<lambda>") TT)
    (hql : X.env.qual = ql) (TB : TabB X.base X.mg c P) (hcode : X.env.code = .ref c) (hmT : (P, ql ++ "<lambda>") ∈ T) (hu : ∀ p ∈ T, p.1 = P → p.2 = ql ++ "<lambda>") (hr : Room (k + 2) X.A) (L : LamS X.env.scope scope) (hdef : defaultsOf params X.env = ([], []))
    (hbind : ∀ (q : Str) (cl : List (Str × Addr)) (pm cv ctv : Value), bindArgs (PySem.W.kla_fn "<lambda>" q params body scope cl pm cv ctv) ⟨[], []⟩ = pure [])
    (hbody : ∀ (A : Around) (outer : List Env) (s : Shared) (H : Hp) (E : XK) (f c' : Addr), Room k (A.deeper (lamEnv X scope s.heap.objs.size f c')) → PE (lamCx X A outer s H E scope f c') body (t E))
    (hdb : (x == ("__debug__" : Str)) = false := by decide) (hd : (a == ("__debug__" : Str)) = false := by decide) (hcd : (a == ("__classdict__" : Str)) = false := by decide) :
    PE X (.Call (.Name x p) [.Lambda params body scope lpos] [] pos) (tLam T TT t) := by
  subst hql
  refine ⟨fun pins s σ H Q I h => ?_⟩
  obtain ⟨hT, h⟩ := h
  obtain ⟨oc, od, kV, doc, pm, an, cdv, ct, osl, rfl, lk, hcg⟩ := D.F.ex
  refine wpAny_Call_Name_kw (ld_glob I hg D.g ?_ hdb)
  refine PySem.W.callWith_K (h₀ := X.base) I.ok.mod.kin D.F.kp ?_ (by rfl) (by rfl)
  show wpAny _ _ (spliced ((false, eval (.Lambda params body scope lpos) X.env) :: backTo pos (starEach [] X.env))) _ _ s
  refine Calls.spliced_cons (lam_make2 I TB hcode hmT hu hT hdef (L.has I.ok) fun f c' pm' ctv H1 s' I1 eN T1 hf hfn hfr hco => ?_)
  refine Calls.spliced_nil ⟨I1.kIn, ?_⟩
  have rc : codeAny (model X.prog X.w) X.A (.call (.ref g) ⟨[.ref f], []⟩) (CR CX0 X.stack X.prog X.w H1 s' Q E0) s' := by
    refine run_ofS (N := Ng) (ps := [a]) (us := [.ref f]) (vs := [.ref f]) lk hcg Sg hr I1.env0 (D.b s' [.ref f] I1.kIn rfl) (.cons rfl .nil) rfl fun hr' => ?_
    obtain ⟨t', ht', hq'⟩ := hG cdv f c' s' H1 Q (fun E H' Q' => t E σ H' Q') (fun W pn xe p1 p2 tk => pe_actS (CXg := CX0) (Eg := E0) (i := 0) I1 L hf hfn hfr (hbind _ _ _ _ _) tk hr' (fun A outer s H E hr2 => hbody A outer s H E f c' hr2) hNg hva hd hcd) hco (h H1 eN T1)
    exact ⟨t', ht'.nox, hq'⟩
  refine wpAny_call (codeAny_mono rc fun r s2 hq => ?_)
  match r, hq with
  | .error e, hq => exact (show False from hq).elim
  | .ok (.ret u), hq => exact I1.after hq
/-- a def's body where its code object is known -/
theorem okC {P : Program} {w : World} {K : PySem.W.Frag} {mg : Str → Option Value} {base : Heap} {x qual : Str} {st : Stmt} {f c : Addr} {N ps : List Str} {k : Nat} {sp : Sp} {oc kV doc pm ct : Value} {od an : Option Addr} {osl : Array (Option Value)}
    (lk : K.lookup f = some ⟨oc, od, .func (PySem.W.fnOf x qual (defArgs st) (defBody st) (defScope st) .none kV doc pm an (.ref c) ct), osl⟩) (hcd : PySem.W.codeIn K (.ref c) qual = true) (S : FnScope N ps (defScope st)) (len : ∀ vs H Q E, sp vs H Q E → vs.length = ps.length)
    (hbody : ∀ (A : Around) (outer : List Env) (s : Shared) (H : Hp) (vs : List V) (Q : VK) (E : XK), Room k (A.deeper (envOfC qual (defScope st) s.heap.objs.size f (.ref c))) → sp vs H Q E →
      ∃ t, PSs (cxOf CX0 P w K mg base N qual (defScope st) f (.ref c) A outer s H E).nox (defBody st) t ∧ t { nx := fun _ H' => Q .non H', rt := Q } (start N vs) H) :
    FnOk P w K mg base CX0 (k + 1) f (PySem.W.fnOf x qual (defArgs st) (defBody st) (defScope st) .none kV doc pm an (.ref c) ct) ps sp :=
  fn_of lk hcd S len fun A outer s H vs Q E hr hsp => by
    obtain ⟨t, h, q⟩ := hbody A outer s H vs Q E hr hsp
    exact ⟨t, h.nox, q⟩
end LL

namespace LE2
open PySem PySem.Spec PyProof.Rows L2 LamX
/-- the end by tables of the law's defs -/
theorem walk_own2 {l : PySem.W.OpenLaw} {n k : Nat} {q : Program} {loose : List Str} {XP : (Str → Option Value) → Heap → Prop} {YP : World → Heap → Prop} {d : DefRec} {K : Params → PySem.W.Frag} {CX : World → CXT} {x : Str} {NM : Str → Prop}
    (hn : l.most = some n) (hn2 : n ≤ sizeLine) (hdf : d.params.defaults = []) (hr : Room k callerA) (hrec : ∀ nm : Str, NM nm → ((recsOf q).any fun e => e.name == nm) = true) (hY : ∀ (w : World) (h : Heap), YP w h → (K w.params).In h)
    (F : ∀ (w : World) (mg : Str → Option Value) (fa : Addr) (h : Heap), YP w h → (K w.params).In h → h.Ns mainGlobals mg → mg d.name = some (.ref fa) → (∀ nm : Str, NM nm → ∀ fb, mg nm = some (.ref fb) → OwnTab (K w.params) fb h) → LawAtS l w (K w.params) (CX w) k n x mg fa h)
    (hCX : ∀ (w : World) (H : Hp) (s : Shared) (e : Value) (s' : Shared), CX w [] H s (fun _ _ _ => False) e s' → False) :
    PySem.W.WalkO q loose XP YP l.row.toRowW d [] (fun f vs => PySem.call f vs) := by
  refine Att.attach_callB hn hdf fun w s₀ s₁ mg mb fa o pm cd doc a vs ns G Y ho hd hcd hmg hobj hints hlen hbits hg => ?_
  have KX := hY w _ Y
  have own : ∀ nm : Str, NM nm → ∀ fb, mg nm = some (.ref fb) → OwnTab (K w.params) fb s₁.heap := fun nm hnm fb hfb c P o1 fd1 e dd vs1 sl k1 k2 k3 k4 k5 => by
    obtain ⟨dL, hm, hn1⟩ := List.any_eq_true.mp (hrec nm hnm)
    have e0 : dL.name = nm := beq_iff_eq.mp hn1
    obtain ⟨a', o', fd', c', P', h1, h2, h3, h4, h5, h6⟩ := G.T.tab dL hm
    rw [e0, hfb] at h1
    cases h1
    have g1 := KX _ _ k1
    rw [g1] at h2
    cases h2
    rw [k2] at h3
    cases h3
    rw [k3] at h4
    cases h4
    obtain ⟨⟨oc, vc, e1, _, e3, e4⟩, hP⟩ := h6
    have g2 := KX _ _ k4
    rw [g2] at e1
    cases e1
    cases e3
    rw [k5] at e4
    cases e4
    exact hP
  obtain ⟨fd, cs, sp, hT, nT, C, hb, hsp, hF⟩ := F w mg fa _ Y KX G.T.g hmg own
  exact law_callTs KX G.T.g G.T.b G.T.builtins G.T.nolimit hg hT nT C G.T.bmain hobj hints (Nat.le_trans hlen hn2) hr hF hb (fun H hH hS => hsp H a ns hlen hbits hH hS) fun H e s' => hCX w H s₁ e s'
end LE2
namespace LE2
open PySem L2
/-- the fields of a code object at c that has its table at P -/
def hdB (vs : Array Value) (c P : Addr) : Bool := (match (vs[11]? : Option Value) with | some (.ref P') => P' == P | _ => false) &&
      (match vs.getD 18 .none with | .str _ _ => true | _ => false) && (match vs.getD 7 .none with | .int _ _ => true | _ => false) &&
      (match vs.getD 9 .none with | .bool _ => true | _ => false) && (match vs.getD 10 .none with | .int _ _ => true | _ => false) && c != P
theorem hd_of {K : PySem.W.Frag} {c P : Addr} {od : Option Addr} {vs : Array Value} {sl : Array (Option Value)} (h : K.lookup c = some ⟨.type "code", od, .fields vs, sl⟩) (r : hdB vs c P = true) : PySem.W.codeHdIn K c P = true := by
  unfold PySem.W.codeHdIn
  rw [h]
  exact r
/-- facts of classes, from the plain look-ups -/
theorem kit_tyF {K : PySem.W.Frag} {R : Addr} {t : String} (c : PySem.W.isClsIn K R = true) (y : PySem.W.typeIn K (.ref R) = some (.type "type")) (h : PySem.W.subIn K (.type t) (.ref R) = some false) : PySem.W.kitOne K (.type t) (.ref R) = some false := by
  have c' : (PySem.W.clsIn K R).isSome = true := c
  have e : ((Value.type t : Value) == Value.ref R) = false := rfl
  unfold PySem.W.kitOne
  rw [e, if_neg Bool.false_ne_true]
  show (if ((PySem.W.clsIn K R).isSome && PySem.W.typeIn K (.ref R) == some (.type "type")) = true then PySem.W.subIn K (.type t) (.ref R) else none) = some false
  rw [c', y, if_pos (by rfl)]
  exact h
theorem kit_ref {K : PySem.W.Frag} {C R : Addr} {b : Bool} (c : PySem.W.isClsIn K R = true) (y : PySem.W.typeIn K (.ref R) = some (.type "type")) (s : PySem.W.subIn K (.ref C) (.ref C) = some true) (h : PySem.W.subIn K (.ref C) (.ref R) = some b) : PySem.W.kitOne K (.ref C) (.ref R) = some b := by
  have c' : (PySem.W.clsIn K R).isSome = true := c
  unfold PySem.W.kitOne
  by_cases q : ((Value.ref C : Value) == Value.ref R) = true
  · rw [if_pos q]
    have e : C = R := by simpa using q
    subst e
    rw [s] at h
    exact h
  · rw [if_neg q]
    show (if ((PySem.W.clsIn K R).isSome && PySem.W.typeIn K (.ref R) == some (.type "type")) = true then PySem.W.subIn K (.ref C) (.ref R) else none) = some b
    rw [c', y, if_pos (by rfl)]
    exact h
theorem any2F {K : PySem.W.Frag} {v c1 c2 : Value} (h1 : PySem.W.kitOne K v c1 = some false) (h2 : PySem.W.kitOne K v c2 = some false) : PySem.W.kitAny K v [c1, c2] = some false := by
  unfold PySem.W.kitAny
  rw [h1]
  show PySem.W.kitAny K v [c2] = some false
  unfold PySem.W.kitAny
  rw [h2] <;> rfl
theorem any2T1 {K : PySem.W.Frag} {v c1 c2 : Value} (h1 : PySem.W.kitOne K v c1 = some true) : PySem.W.kitAny K v [c1, c2] = some true := by
  unfold PySem.W.kitAny
  rw [h1]
theorem any2T2 {K : PySem.W.Frag} {v c1 c2 : Value} (h1 : PySem.W.kitOne K v c1 = some false) (h2 : PySem.W.kitOne K v c2 = some true) : PySem.W.kitAny K v [c1, c2] = some true := by
  unfold PySem.W.kitAny
  rw [h1]
  show PySem.W.kitAny K v [c2] = some true
  unfold PySem.W.kitAny
  rw [h2]
theorem nf_of {K : PySem.W.Frag} {C : Addr} {tb : Value} (h : PySem.W.subIn K tb (.ref C) = some false) : PySem.W.notFirst K C tb = true := by
  unfold PySem.W.notFirst
  rw [h]
  simp
end LE2


namespace k10
open PySem L2 LC
def top (i : Nat) : Stmt := PySem.Challenge.pw_surelet_k10_whole_ladder_beside_a_bucket.main.body.getD i (.Pass ⟨0, 0, 0, 0⟩)
abbrev sInvalidName_init : Stmt := inClass (top 4) 0
abbrev NmInvalidName_init : List Str := ["self", "value"]
abbrev PInvalidName_init : List Str := ["self", "value"]
theorem scInvalidName_init : FnScope NmInvalidName_init PInvalidName_init (defScope sInvalidName_init) := ⟨rfl, rfl, rfl, by decide +kernel, rfl, by decide +kernel, by decide +kernel⟩
abbrev sInvalidNumber_init : Stmt := inClass (top 3) 0
abbrev NmInvalidNumber_init : List Str := ["self", "value"]
abbrev PInvalidNumber_init : List Str := ["self", "value"]
theorem scInvalidNumber_init : FnScope NmInvalidNumber_init PInvalidNumber_init (defScope sInvalidNumber_init) := ⟨rfl, rfl, rfl, by decide +kernel, rfl, by decide +kernel, by decide +kernel⟩
abbrev sInvalidRest_init : Stmt := inClass (top 6) 0
abbrev NmInvalidRest_init : List Str := ["self", "value"]
abbrev PInvalidRest_init : List Str := ["self", "value"]
theorem scInvalidRest_init : FnScope NmInvalidRest_init PInvalidRest_init (defScope sInvalidRest_init) := ⟨rfl, rfl, rfl, by decide +kernel, rfl, by decide +kernel, by decide +kernel⟩
abbrev scheck_count : Stmt := top 12
abbrev Nmcheck_count : List Str := ["what", "count", "most"]
abbrev Pcheck_count : List Str := ["what", "count", "most"]
theorem sccheck_count : FnScope Nmcheck_count Pcheck_count (defScope scheck_count) := ⟨rfl, rfl, rfl, by decide +kernel, rfl, by decide +kernel, by decide +kernel⟩
abbrev sis_whole : Stmt := top 16
abbrev Nmis_whole : List Str := ["value"]
abbrev Pis_whole : List Str := ["value"]
theorem scis_whole : FnScope Nmis_whole Pis_whole (defScope sis_whole) := ⟨rfl, rfl, rfl, by decide +kernel, rfl, by decide +kernel, by decide +kernel⟩
abbrev sis_number : Stmt := top 17
abbrev Nmis_number : List Str := ["value", "least", "most"]
abbrev Pis_number : List Str := ["value", "least", "most"]
theorem scis_number : FnScope Nmis_number Pis_number (defScope sis_number) := ⟨rfl, rfl, rfl, by decide +kernel, rfl, by decide +kernel, by decide +kernel⟩
abbrev sis_name : Stmt := top 18
abbrev Nmis_name : List Str := ["value", "sign"]
abbrev Pis_name : List Str := ["value"]
theorem scis_name : FnScope Nmis_name Pis_name (defScope sis_name) := ⟨rfl, rfl, rfl, by decide +kernel, rfl, by decide +kernel, by decide +kernel⟩
abbrev scheck_borders : Stmt := top 23
abbrev Nmcheck_borders : List Str := ["borders", "least", "at", "border"]
abbrev Pcheck_borders : List Str := ["borders"]
theorem sccheck_borders : FnScope Nmcheck_borders Pcheck_borders (defScope scheck_borders) := ⟨rfl, rfl, rfl, by decide +kernel, rfl, by decide +kernel, by decide +kernel⟩
abbrev sRest_init : Stmt := inClass (top 20) 0
abbrev NmRest_init : List Str := ["self", "text", "forms", "period", "bend"]
abbrev PRest_init : List Str := ["self", "text", "forms", "period", "bend"]
theorem scRest_init : FnScope NmRest_init PRest_init (defScope sRest_init) := ⟨rfl, rfl, rfl, by decide +kernel, rfl, by decide +kernel, by decide +kernel⟩
abbrev sRest_bend : Stmt := inClass (top 20) 6
abbrev NmRest_bend : List Str := ["self"]
abbrev PRest_bend : List Str := ["self"]
theorem scRest_bend : FnScope NmRest_bend PRest_bend (defScope sRest_bend) := ⟨rfl, rfl, rfl, by decide +kernel, rfl, by decide +kernel, by decide +kernel⟩
abbrev sRest_written : Stmt := inClass (top 20) 7
abbrev NmRest_written : List Str := ["self"]
abbrev PRest_written : List Str := ["self"]
theorem scRest_written : FnScope NmRest_written PRest_written (defScope sRest_written) := ⟨rfl, rfl, rfl, by decide +kernel, rfl, by decide +kernel, by decide +kernel⟩
abbrev sRest_str : Stmt := inClass (top 20) 8
abbrev NmRest_str : List Str := ["self"]
abbrev PRest_str : List Str := ["self"]
theorem scRest_str : FnScope NmRest_str PRest_str (defScope sRest_str) := ⟨rfl, rfl, rfl, by decide +kernel, rfl, by decide +kernel, by decide +kernel⟩
abbrev sRest_eq : Stmt := inClass (top 20) 10
abbrev NmRest_eq : List Str := ["self", "other"]
abbrev PRest_eq : List Str := ["self", "other"]
theorem scRest_eq : FnScope NmRest_eq PRest_eq (defScope sRest_eq) := ⟨rfl, rfl, rfl, by decide +kernel, rfl, by decide +kernel, by decide +kernel⟩
abbrev sWindow_init : Stmt := inClass (top 21) 0
abbrev NmWindow_init : List Str := ["self", "width", "__class__"]
abbrev PWindow_init : List Str := ["self", "width"]
theorem scWindow_init : NdefX.NScope NmWindow_init PWindow_init ["__class__"] (defScope sWindow_init) := NdefX.nscope_by (by decide +kernel)
abbrev FWindow_init (cc c : Addr) : NdefX.NF := ⟨"__init__", "Window.__init__", defArgs sWindow_init, defBody sWindow_init, defScope sWindow_init, [("__class__", cc)], c⟩
abbrev sDays_init : Stmt := inClass (top 22) 0
abbrev NmDays_init : List Str := ["self", "borders", "every", "__class__", "words", "border"]
abbrev PDays_init : List Str := ["self", "borders", "every"]
theorem scDays_init : NdefX.NScope NmDays_init PDays_init ["__class__"] (defScope sDays_init) := NdefX.nscope_by (by decide +kernel)
abbrev FDays_init (cc c : Addr) : NdefX.NF := ⟨"__init__", "Days.__init__", defArgs sDays_init, defBody sDays_init, defScope sDays_init, [("__class__", cc)], c⟩
abbrev sWindow_call : Stmt := inClass (top 21) 1
abbrev NmWindow_call : List Str := ["self", "t"]
abbrev PWindow_call : List Str := ["self", "t"]
theorem scWindow_call : FnScope NmWindow_call PWindow_call (defScope sWindow_call) := ⟨rfl, rfl, rfl, by decide +kernel, rfl, by decide +kernel, by decide +kernel⟩
abbrev sDays_call : Stmt := inClass (top 22) 1
abbrev NmDays_call : List Str := ["self", "t", "border", "last"]
abbrev PDays_call : List Str := ["self", "t"]
theorem scDays_call : FnScope NmDays_call PDays_call (defScope sDays_call) := ⟨rfl, rfl, rfl, by decide +kernel, rfl, by decide +kernel, by decide +kernel⟩
abbrev sRule_init : Stmt := inClass (top 26) 0
abbrev NmRule_init : List Str := ["self", "name", "chips", "rest"]
abbrev PRule_init : List Str := ["self", "name", "chips", "rest"]
theorem scRule_init : FnScope NmRule_init PRule_init (defScope sRule_init) := ⟨rfl, rfl, rfl, by decide +kernel, rfl, by decide +kernel, by decide +kernel⟩
abbrev sRule_str : Stmt := inClass (top 26) 1
abbrev NmRule_str : List Str := ["self"]
abbrev PRule_str : List Str := ["self"]
theorem scRule_str : FnScope NmRule_str PRule_str (defScope sRule_str) := ⟨rfl, rfl, rfl, by decide +kernel, rfl, by decide +kernel, by decide +kernel⟩
abbrev sRule_eq : Stmt := inClass (top 26) 2
abbrev NmRule_eq : List Str := ["self", "other"]
abbrev PRule_eq : List Str := ["self", "other"]
theorem scRule_eq : FnScope NmRule_eq PRule_eq (defScope sRule_eq) := ⟨rfl, rfl, rfl, by decide +kernel, rfl, by decide +kernel, by decide +kernel⟩
abbrev sfullest : Stmt := top 28
abbrev Nmfullest : List Str := ["rest", "uses", "rows", "best", "held", "behind", "moment", "n", "end"]
abbrev Pfullest : List Str := ["rest", "uses"]
theorem scfullest : FnScope Nmfullest Pfullest (defScope sfullest) := ⟨rfl, rfl, rfl, by decide +kernel, rfl, by decide +kernel, by decide +kernel⟩
abbrev sis_within : Stmt := top 29
abbrev Nmis_within : List Str := ["rule", "uses", "count", "_"]
abbrev Pis_within : List Str := ["rule", "uses"]
theorem scis_within : FnScope Nmis_within Pis_within (defScope sis_within) := ⟨rfl, rfl, rfl, by decide +kernel, rfl, by decide +kernel, by decide +kernel⟩
abbrev sladder : Stmt := top 27
abbrev Nmladder : List Str := ["name", "size", "every", "steps", "value", "k"]
abbrev Pladder : List Str := ["name", "size", "every", "steps"]
theorem scladder : FnScope Nmladder Pladder (defScope sladder) := ⟨rfl, rfl, rfl, by decide +kernel, rfl, by decide +kernel, by decide +kernel⟩
abbrev sbag : Stmt := top 31
abbrev Nmbag : List Str := ["_law_script", "_law_seed", "_law_item"]
abbrev Pbag : List Str := ["_law_script"]
theorem scbag : FnScope Nmbag Pbag (defScope sbag) := ⟨rfl, rfl, rfl, by decide +kernel, rfl, by decide +kernel, by decide +kernel⟩
abbrev sdraw : Stmt := top 32
abbrev Nmdraw : List Str := ["_law_bag_here", "_law_limit", "_law_item", "_law_digit"]
abbrev Pdraw : List Str := ["_law_bag_here", "_law_limit"]
theorem scdraw : FnScope Nmdraw Pdraw (defScope sdraw) := ⟨rfl, rfl, rfl, by decide +kernel, rfl, by decide +kernel, by decide +kernel⟩
abbrev sof : Stmt := top 33
abbrev Nmof : List Str := ["_law_bag_here", "_law_things"]
abbrev Pof : List Str := ["_law_bag_here", "_law_things"]
theorem scof : FnScope Nmof Pof (defScope sof) := ⟨rfl, rfl, rfl, by decide +kernel, rfl, by decide +kernel, by decide +kernel⟩
abbrev slike : Stmt := top 34
abbrev Nmlike : List Str := ["_law_told", "_law_due", "_law_a", "_law_b"]
abbrev Plike : List Str := ["_law_told", "_law_due"]
theorem sclike : FnScope Nmlike Plike (defScope slike) := ⟨rfl, rfl, rfl, by decide +kernel, rfl, by decide +kernel, by decide +kernel⟩
abbrev sodd : Stmt := top 35
abbrev Nmodd : List Str := ["_law_bag_here", "_law_pick", "_law_k"]
abbrev Podd : List Str := ["_law_bag_here"]
theorem scodd : FnScope Nmodd Podd (defScope sodd) := ⟨rfl, rfl, rfl, by decide +kernel, rfl, by decide +kernel, by decide +kernel⟩
abbrev sin : Stmt := top 37
abbrev Nmin : List Str := ["_law_thing", "_law_high"]
abbrev Pin : List Str := ["_law_thing", "_law_high"]
theorem scin : FnScope Nmin Pin (defScope sin) := ⟨rfl, rfl, rfl, by decide +kernel, rfl, by decide +kernel, by decide +kernel⟩
abbrev snamed : Stmt := top 38
abbrev Nmnamed : List Str := ["_law_thing", "_law_high", "_law_sign"]
abbrev Pnamed : List Str := ["_law_thing", "_law_high"]
theorem scnamed : FnScope Nmnamed Pnamed (defScope snamed) := ⟨rfl, rfl, rfl, by decide +kernel, rfl, by decide +kernel, by decide +kernel⟩
abbrev swrong : Stmt := top 39
abbrev Nmwrong : List Str := ["_law_bag_here"]
abbrev Pwrong : List Str := ["_law_bag_here"]
theorem scwrong : FnScope Nmwrong Pwrong (defScope swrong) := ⟨rfl, rfl, rfl, by decide +kernel, rfl, by decide +kernel, by decide +kernel⟩
abbrev sgiven : Stmt := top 40
abbrev Nmgiven : List Str := ["_law_bag_here", "_law_small", "_law_parts", "_law_k"]
abbrev Pgiven : List Str := ["_law_bag_here"]
theorem scgiven : FnScope Nmgiven Pgiven (defScope sgiven) := ⟨rfl, rfl, rfl, by decide +kernel, rfl, by decide +kernel, by decide +kernel⟩
abbrev sladder_due : Stmt := top 41
abbrev Nmladder_due : List Str := ["_law_parts"]
abbrev Pladder_due : List Str := ["_law_parts"]
theorem scladder_due : FnScope Nmladder_due Pladder_due (defScope sladder_due) := ⟨rfl, rfl, rfl, by decide +kernel, rfl, by decide +kernel, by decide +kernel⟩
abbrev srules_so : Stmt := top 42
abbrev Nmrules_so : List Str := ["_law_parts", "_law_rules", "_law_k", "_law_one", "_law_wide", "_law_due"]
abbrev Prules_so : List Str := ["_law_parts", "_law_rules"]
theorem scrules_so : FnScope Nmrules_so Prules_so (defScope srules_so) := ⟨rfl, rfl, rfl, by decide +kernel, rfl, by decide +kernel, by decide +kernel⟩
abbrev slet : Stmt := top 43
abbrev Nmlet : List Str := ["_law_rules", "_law_gone", "_law_s", "_law_told", "_law_one", "_law_part"]
abbrev Plet : List Str := ["_law_rules", "_law_gone", "_law_s"]
theorem sclet : FnScope Nmlet Plet (defScope slet) := ⟨rfl, rfl, rfl, by decide +kernel, rfl, by decide +kernel, by decide +kernel⟩
abbrev sasked_so : Stmt := top 44
abbrev Nmasked_so : List Str := ["_law_bag_here", "_law_parts", "_law_rules", "_law_base", "_law_stop", "_law_room", "_law_gone", "_law_due", "_law_s", "_law_k", "_law_lets", "_law_step", "_law_one"]
abbrev Pasked_so : List Str := ["_law_bag_here", "_law_parts", "_law_rules"]
theorem scasked_so : FnScope Nmasked_so Pasked_so (defScope sasked_so) := ⟨rfl, rfl, rfl, by decide +kernel, rfl, by decide +kernel, by decide +kernel⟩
abbrev sask : Stmt := top 36
abbrev Nmask : List Str := ["_law_deed", "_law_told", "_law_fault", "error"]
abbrev Pask : List Str := ["_law_deed"]
theorem scask : FnScope Nmask Pask (defScope sask) := ⟨rfl, rfl, rfl, by decide +kernel, rfl, by decide +kernel, by decide +kernel⟩
abbrev sone_rule_so : Stmt := top 45
abbrev Nmone_rule_so : List Str := ["_law_bag_here", "_law_label", "_law_many", "_law_plain", "_law_some", "_law_k", "_law_told", "_law_fault", "_law_twin_r"]
abbrev Pone_rule_so : List Str := ["_law_bag_here"]
theorem scone_rule_so : FnScope Nmone_rule_so Pone_rule_so (defScope sone_rule_so) := ⟨rfl, rfl, rfl, by decide +kernel, rfl, by decide +kernel, by decide +kernel⟩
abbrev slaw : Stmt := top 46
abbrev Nmlaw : List Str := ["_law_script", "_law_bag_here", "_law_k", "_law_parts", "_law_due", "_law_way", "_law_told", "_law_fault"]
abbrev Plaw : List Str := ["_law_script"]
theorem sclaw : FnScope Nmlaw Plaw (defScope slaw) := ⟨rfl, rfl, rfl, by decide +kernel, rfl, by decide +kernel, by decide +kernel⟩
structure Txt (K : PySem.W.Frag) (mg : Str → Option Value) : Prop where
  n_all : mg "all" = none
  n_bool : mg "bool" = none
  n_dict : mg "dict" = none
  n_enumerate : mg "enumerate" = none
  n_int : mg "int" = none
  n_isinstance : mg "isinstance" = none
  n_len : mg "len" = none
  n_list : mg "list" = none
  n_max : mg "max" = none
  n_min : mg "min" = none
  n_range : mg "range" = none
  n_sorted : mg "sorted" = none
  n_str : mg "str" = none
  n_sum : mg "sum" = none
  n_super : mg "super" = none
  n_tuple : mg "tuple" = none
  n_zip : mg "zip" = none
  c_DIGITS : ∃ t, mg "DIGITS" = some (.str "0123456789" t)
  c_LETTERS : ∃ t, mg "LETTERS" = some (.str "abcdefghijklmnopqrstuvwxyz" t)
  c_MOST_BORDERS : ∃ t, mg "MOST_BORDERS" = some (.int 12 t)
  c_MOST_PERIOD : ∃ t, mg "MOST_PERIOD" = some (.int 2000 t)
  c_MOST_SIZE : ∃ t, mg "MOST_SIZE" = some (.int 1000 t)
  c_MOST_STEPS : ∃ t, mg "MOST_STEPS" = some (.int 9 t)
open RM
/-- the addresses of what the program's top has made for the rests -/
structure Ad where
  (R W D fRi fB fW fS fE Wi Di Wc Dc : Addr)
/-- what the written part says of a class of rests -/
structure RC (K : PySem.W.Frag) (a : Ad) (C : Addr) : Prop where
  cl : Cls K C
  nT : NoAttr K C "_text"
  nF : NoAttr K C "_forms"
  nP : NoAttr K C "_period"
  nB : NoAttr K C "_bend"
  mB : Meth K C "bend" a.fB
  mW : Meth K C "written" a.fW
  me : PySem.W.kitOne K (.ref C) (.ref a.R) = some true
  ha : PySem.W.findIn K (.ref C) "__class__" = some (some (.builtin "object.__class__"))
  hn : PySem.W.specialIn K (.builtin "object.__class__") "__get__" = some (some (.builtin "getset_descriptor.__get__"))
  htk : PySem.W.takesIn K (.builtin "object.__class__") = some true
  hm : PySem.W.mroIn K C (.type "object") = some true
  s1 : PySem.W.findIn K (.ref C) "__str__" = some (some (.ref a.fS))
  s2 : PySem.W.isFn K (.ref a.fS) = true
  s3 : PySem.W.findIn K (.ref C) "__format__" = some (some (.builtin "object.__format__"))
  e1 : PySem.W.findIn K (.ref C) "__eq__" = some (some (.ref a.fE))
  e2 : PySem.W.isFn K (.ref a.fE) = true
  kWD : PySem.W.kitAny K (.ref C) [.ref a.W, .ref a.D] = some true
structure Kn (K : PySem.W.Frag) (mg : Str → Option Value) (a : Ad) : Prop where
  w : RC K a a.W
  d : RC K a a.D
  nw : NoAttr K a.W "width"
  nb : NoAttr K a.D "_borders"
  ne : NoAttr K a.D "every"
  nf : PySem.W.notFirst K a.W (.ref a.D) = true
  nf2 : PySem.W.notFirst K a.D (.ref a.W) = true
  kW : PySem.W.keepIn K (.ref a.fW) = true
  kB : PySem.W.keepIn K (.ref a.fB) = true
  kOdd : ∀ t : String, t ∈ ["int", "bool", "str", "NoneType", "list", "tuple", "dict"] → PySem.W.kitOne K (.type t) (.ref a.R) = some false
  kWDo : ∀ t : String, t ∈ ["int", "bool", "str", "NoneType", "list", "tuple", "dict"] → PySem.W.kitAny K (.type t) [.ref a.W, .ref a.D] = some false
  gR : mg "Rest" = some (.ref a.R)
  gWindow : mg "Window" = some (.ref a.W)
  gDays : mg "Days" = some (.ref a.D)
  mWindow : Mk K a.W a.Wi
  mDays : Mk K a.D a.Di
  cW : StX.CallO K a.W a.Wc
  cD : StX.CallO K a.D a.Dc
def Kt (H H' : Hp) : Prop := ∀ b xs, H b = some (.tup xs) → H' b = some (.tup xs)
theorem Kt.refl (H : Hp) : Kt H H := fun _ _ h => h
theorem Kt.trans {H H1 H2 : Hp} (a : Kt H H1) (b : Kt H1 H2) : Kt H H2 := fun c o h => b c o (a c o h)
theorem Kt.new {H : Hp} {p : Addr} {o : HO} (h : H p = none) : Kt H (upd H p o) := fun b xs e => by
  rw [upd_ne (ne_of_none e h)]
  exact e
theorem Kt.lst {H : Hp} {p : Addr} {o : HO} {xs : List V} (h : H p = some (.lst xs)) : Kt H (upd H p o) := fun b ys e => by
  rw [upd_ne (ne_of e h (by intro z; cases z))]
  exact e
theorem Kt.same {H H' : Hp} (s : Same H H') : Kt H H' := fun b xs e => s b _ e
theorem Kt.ok {g l : Addr} {H H' : Hp} (r : Ok g l H H') : Kt H H' := fun b xs e => by
  obtain ⟨⟨ys, q⟩, _⟩ := r.b0.there
  refine r.kp b _ (fun z => ?_) e
  rw [z, q] at e
  cases e
/-! ### the rests as they stand in the heap -/
def tb : Nat → Nat
  | 0 => 40000
  | n + 1 => 2 * tb n + 40
theorem tb_le : ∀ {m n : Nat}, m ≤ n → tb m ≤ tb n
  | m, 0, h => by obtain rfl : m = 0 := by omega
                  exact Nat.le_refl _
  | m, n + 1, h => by
    by_cases e : m = n + 1
    · rw [e]; exact Nat.le_refl _
    · have := tb_le (m := m) (n := n) (by omega)
      show tb m ≤ 2 * tb n + 40
      omega
def four (t : Str) (p : Pl) (fs : List (Str × V)) : List (Str × V) := putF "_bend" (.int p.bend) (putF "_period" (.int p.per) (putF "_forms" (.int p.forms) (putF "_text" (.str t) fs)))
def winF (t : Str) (w : Int) : List (Str × V) := putF "width" (.int w) (four t (.win w) [])
def dayF (t : Str) (bs : List Int) (e : Int) (b : Addr) : List (Str × V) := four t (.days bs e) (putF "every" (.int e) (putF "_borders" (.ref b) []))
/-- all but what is in F and the tables of code is as it was -/
def KpF (F : Addr → Prop) (H H' : Hp) : Prop := ∀ b o, ¬ F b → (∀ ps, o ≠ .tbl ps) → H b = some o → H' b = some o
theorem KpF.same {F : Addr → Prop} {H H' : Hp} (s : Same H H') : KpF F H H' := fun b o _ _ e => s b o e
theorem KpF.kp {F : Addr → Prop} {g : Addr} {H H' : Hp} (hg : F g) (k : Kp g H H') : KpF F H H' := fun b o n _ e => k b o (fun z => n (z ▸ hg)) e
def winT (w : Int) : Str := Str.empty ++ "window " ++ Str.ofString (toString w)
/-- the rest p stands at x, its text t -/
def RestX (a : Ad) (g : Addr → Prop) (H : Hp) (t : Str) : Pl → Addr → Prop
  | .win w, x => ¬ g x ∧ ∃ dx, H x = some (.ins a.W dx (winF t w)) ∧ t.length ≤ tb 0 ∧ t = winT w
  | .days bs e, x => ¬ g x ∧ ∃ dx b, H x = some (.ins a.D dx (dayF t bs e b)) ∧ t.length ≤ tb 0 ∧ ¬ g b ∧ H b = some (.lst (bs.map V.int))
  | _, _ => False
theorem RestX.kp {a : Ad} {g : Addr → Prop} {t : Str} {H H' : Hp} (k : KpF g H H') : ∀ {p : Pl} {x : Addr}, RestX a g H t p x → RestX a g H' t p x
  | .win w, x, ⟨n, dx, h, l, e⟩ => ⟨n, dx, k _ _ n (fun _ z => by cases z) h, l, e⟩
  | .days bs e, x, ⟨n, dx, b, h, l, nb, hb⟩ => ⟨n, dx, b, k _ _ n (fun _ z => by cases z) h, l, nb, k _ _ nb (fun _ z => by cases z) hb⟩
  | .lat _ _, _, h => h.elim
  | .soo _ _, _, h => h.elim
  | .nex _ _, _, h => h.elim
theorem RestX.mono {a : Ad} {F G : Addr → Prop} {t : Str} {H : Hp} (k : ∀ b, G b → F b) : ∀ {p : Pl} {x : Addr}, RestX a F H t p x → RestX a G H t p x
  | .win w, x, ⟨n, dx, h, l, e⟩ => ⟨fun z => n (k _ z), dx, h, l, e⟩
  | .days bs e, x, ⟨n, dx, b, h, l, nb, hb⟩ => ⟨fun z => n (k _ z), dx, b, h, l, fun z => nb (k _ z), hb⟩
  | .lat _ _, _, h => h.elim
  | .soo _ _, _, h => h.elim
  | .nex _ _, _, h => h.elim
theorem RestX.same {a : Ad} {g : Addr → Prop} {t : Str} {H H' : Hp} {p : Pl} {x : Addr} (s : Same H H') (r : RestX a g H t p x) : RestX a g H' t p x := r.kp (KpF.same s)
/-- lookups in what was put -/
theorem lk_eq {f : Str} {v : V} {fs : List (Str × V)} : (putF f v fs).lookup f = some v := by rw [lookup_putF, if_pos rfl]
theorem lk_ne {f m : Str} {v : V} {fs : List (Str × V)} (h : decide (m = f) = false) : (putF f v fs).lookup m = fs.lookup m := by rw [lookup_putF, if_neg (of_decide_eq_false h)]
structure Four (t : Str) (p : Pl) (fs : List (Str × V)) : Prop where
  vt : fs.lookup ("_text" : Str) = some (.str t)
  vf : fs.lookup ("_forms" : Str) = some (.int p.forms)
  vp : fs.lookup ("_period" : Str) = some (.int p.per)
  vb : fs.lookup ("_bend" : Str) = some (.int p.bend)
  mw : fs.lookup ("written" : Str) = none
  mf : fs.lookup ("forms" : Str) = none
  mp : fs.lookup ("period" : Str) = none
  mb : fs.lookup ("bend" : Str) = none
theorem four_win {t : Str} {w : Int} : Four t (.win w) (winF t w) := by unfold winF four; exact ⟨by (first | rfl | exact lk_eq | (rw [lk_ne (by decide +kernel)]; (first | rfl | exact lk_eq | (rw [lk_ne (by decide +kernel)]; (first | rfl | exact lk_eq | (rw [lk_ne (by decide +kernel)]; (first | rfl | exact lk_eq | (rw [lk_ne (by decide +kernel)]; (first | rfl | exact lk_eq | (rw [lk_ne (by decide +kernel)]; (first | rfl | exact lk_eq | (rw [lk_ne (by decide +kernel)]; (first | rfl | exact lk_eq | (rw [lk_ne (by decide +kernel)]; (first | rfl | exact lk_eq))))))))))))))), by (first | rfl | exact lk_eq | (rw [lk_ne (by decide +kernel)]; (first | rfl | exact lk_eq | (rw [lk_ne (by decide +kernel)]; (first | rfl | exact lk_eq | (rw [lk_ne (by decide +kernel)]; (first | rfl | exact lk_eq | (rw [lk_ne (by decide +kernel)]; (first | rfl | exact lk_eq | (rw [lk_ne (by decide +kernel)]; (first | rfl | exact lk_eq | (rw [lk_ne (by decide +kernel)]; (first | rfl | exact lk_eq | (rw [lk_ne (by decide +kernel)]; (first | rfl | exact lk_eq))))))))))))))), by (first | rfl | exact lk_eq | (rw [lk_ne (by decide +kernel)]; (first | rfl | exact lk_eq | (rw [lk_ne (by decide +kernel)]; (first | rfl | exact lk_eq | (rw [lk_ne (by decide +kernel)]; (first | rfl | exact lk_eq | (rw [lk_ne (by decide +kernel)]; (first | rfl | exact lk_eq | (rw [lk_ne (by decide +kernel)]; (first | rfl | exact lk_eq | (rw [lk_ne (by decide +kernel)]; (first | rfl | exact lk_eq | (rw [lk_ne (by decide +kernel)]; (first | rfl | exact lk_eq))))))))))))))), by (first | rfl | exact lk_eq | (rw [lk_ne (by decide +kernel)]; (first | rfl | exact lk_eq | (rw [lk_ne (by decide +kernel)]; (first | rfl | exact lk_eq | (rw [lk_ne (by decide +kernel)]; (first | rfl | exact lk_eq | (rw [lk_ne (by decide +kernel)]; (first | rfl | exact lk_eq | (rw [lk_ne (by decide +kernel)]; (first | rfl | exact lk_eq | (rw [lk_ne (by decide +kernel)]; (first | rfl | exact lk_eq | (rw [lk_ne (by decide +kernel)]; (first | rfl | exact lk_eq))))))))))))))), by (first | rfl | exact lk_eq | (rw [lk_ne (by decide +kernel)]; (first | rfl | exact lk_eq | (rw [lk_ne (by decide +kernel)]; (first | rfl | exact lk_eq | (rw [lk_ne (by decide +kernel)]; (first | rfl | exact lk_eq | (rw [lk_ne (by decide +kernel)]; (first | rfl | exact lk_eq | (rw [lk_ne (by decide +kernel)]; (first | rfl | exact lk_eq | (rw [lk_ne (by decide +kernel)]; (first | rfl | exact lk_eq | (rw [lk_ne (by decide +kernel)]; (first | rfl | exact lk_eq))))))))))))))), by (first | rfl | exact lk_eq | (rw [lk_ne (by decide +kernel)]; (first | rfl | exact lk_eq | (rw [lk_ne (by decide +kernel)]; (first | rfl | exact lk_eq | (rw [lk_ne (by decide +kernel)]; (first | rfl | exact lk_eq | (rw [lk_ne (by decide +kernel)]; (first | rfl | exact lk_eq | (rw [lk_ne (by decide +kernel)]; (first | rfl | exact lk_eq | (rw [lk_ne (by decide +kernel)]; (first | rfl | exact lk_eq | (rw [lk_ne (by decide +kernel)]; (first | rfl | exact lk_eq))))))))))))))), by (first | rfl | exact lk_eq | (rw [lk_ne (by decide +kernel)]; (first | rfl | exact lk_eq | (rw [lk_ne (by decide +kernel)]; (first | rfl | exact lk_eq | (rw [lk_ne (by decide +kernel)]; (first | rfl | exact lk_eq | (rw [lk_ne (by decide +kernel)]; (first | rfl | exact lk_eq | (rw [lk_ne (by decide +kernel)]; (first | rfl | exact lk_eq | (rw [lk_ne (by decide +kernel)]; (first | rfl | exact lk_eq | (rw [lk_ne (by decide +kernel)]; (first | rfl | exact lk_eq))))))))))))))), by (first | rfl | exact lk_eq | (rw [lk_ne (by decide +kernel)]; (first | rfl | exact lk_eq | (rw [lk_ne (by decide +kernel)]; (first | rfl | exact lk_eq | (rw [lk_ne (by decide +kernel)]; (first | rfl | exact lk_eq | (rw [lk_ne (by decide +kernel)]; (first | rfl | exact lk_eq | (rw [lk_ne (by decide +kernel)]; (first | rfl | exact lk_eq | (rw [lk_ne (by decide +kernel)]; (first | rfl | exact lk_eq | (rw [lk_ne (by decide +kernel)]; (first | rfl | exact lk_eq)))))))))))))))⟩
theorem four_day {t : Str} {bs : List Int} {e : Int} {b : Addr} : Four t (.days bs e) (dayF t bs e b) := by unfold dayF four; exact ⟨by (first | rfl | exact lk_eq | (rw [lk_ne (by decide +kernel)]; (first | rfl | exact lk_eq | (rw [lk_ne (by decide +kernel)]; (first | rfl | exact lk_eq | (rw [lk_ne (by decide +kernel)]; (first | rfl | exact lk_eq | (rw [lk_ne (by decide +kernel)]; (first | rfl | exact lk_eq | (rw [lk_ne (by decide +kernel)]; (first | rfl | exact lk_eq | (rw [lk_ne (by decide +kernel)]; (first | rfl | exact lk_eq | (rw [lk_ne (by decide +kernel)]; (first | rfl | exact lk_eq))))))))))))))), by (first | rfl | exact lk_eq | (rw [lk_ne (by decide +kernel)]; (first | rfl | exact lk_eq | (rw [lk_ne (by decide +kernel)]; (first | rfl | exact lk_eq | (rw [lk_ne (by decide +kernel)]; (first | rfl | exact lk_eq | (rw [lk_ne (by decide +kernel)]; (first | rfl | exact lk_eq | (rw [lk_ne (by decide +kernel)]; (first | rfl | exact lk_eq | (rw [lk_ne (by decide +kernel)]; (first | rfl | exact lk_eq | (rw [lk_ne (by decide +kernel)]; (first | rfl | exact lk_eq))))))))))))))), by (first | rfl | exact lk_eq | (rw [lk_ne (by decide +kernel)]; (first | rfl | exact lk_eq | (rw [lk_ne (by decide +kernel)]; (first | rfl | exact lk_eq | (rw [lk_ne (by decide +kernel)]; (first | rfl | exact lk_eq | (rw [lk_ne (by decide +kernel)]; (first | rfl | exact lk_eq | (rw [lk_ne (by decide +kernel)]; (first | rfl | exact lk_eq | (rw [lk_ne (by decide +kernel)]; (first | rfl | exact lk_eq | (rw [lk_ne (by decide +kernel)]; (first | rfl | exact lk_eq))))))))))))))), by (first | rfl | exact lk_eq | (rw [lk_ne (by decide +kernel)]; (first | rfl | exact lk_eq | (rw [lk_ne (by decide +kernel)]; (first | rfl | exact lk_eq | (rw [lk_ne (by decide +kernel)]; (first | rfl | exact lk_eq | (rw [lk_ne (by decide +kernel)]; (first | rfl | exact lk_eq | (rw [lk_ne (by decide +kernel)]; (first | rfl | exact lk_eq | (rw [lk_ne (by decide +kernel)]; (first | rfl | exact lk_eq | (rw [lk_ne (by decide +kernel)]; (first | rfl | exact lk_eq))))))))))))))), by (first | rfl | exact lk_eq | (rw [lk_ne (by decide +kernel)]; (first | rfl | exact lk_eq | (rw [lk_ne (by decide +kernel)]; (first | rfl | exact lk_eq | (rw [lk_ne (by decide +kernel)]; (first | rfl | exact lk_eq | (rw [lk_ne (by decide +kernel)]; (first | rfl | exact lk_eq | (rw [lk_ne (by decide +kernel)]; (first | rfl | exact lk_eq | (rw [lk_ne (by decide +kernel)]; (first | rfl | exact lk_eq | (rw [lk_ne (by decide +kernel)]; (first | rfl | exact lk_eq))))))))))))))), by (first | rfl | exact lk_eq | (rw [lk_ne (by decide +kernel)]; (first | rfl | exact lk_eq | (rw [lk_ne (by decide +kernel)]; (first | rfl | exact lk_eq | (rw [lk_ne (by decide +kernel)]; (first | rfl | exact lk_eq | (rw [lk_ne (by decide +kernel)]; (first | rfl | exact lk_eq | (rw [lk_ne (by decide +kernel)]; (first | rfl | exact lk_eq | (rw [lk_ne (by decide +kernel)]; (first | rfl | exact lk_eq | (rw [lk_ne (by decide +kernel)]; (first | rfl | exact lk_eq))))))))))))))), by (first | rfl | exact lk_eq | (rw [lk_ne (by decide +kernel)]; (first | rfl | exact lk_eq | (rw [lk_ne (by decide +kernel)]; (first | rfl | exact lk_eq | (rw [lk_ne (by decide +kernel)]; (first | rfl | exact lk_eq | (rw [lk_ne (by decide +kernel)]; (first | rfl | exact lk_eq | (rw [lk_ne (by decide +kernel)]; (first | rfl | exact lk_eq | (rw [lk_ne (by decide +kernel)]; (first | rfl | exact lk_eq | (rw [lk_ne (by decide +kernel)]; (first | rfl | exact lk_eq))))))))))))))), by (first | rfl | exact lk_eq | (rw [lk_ne (by decide +kernel)]; (first | rfl | exact lk_eq | (rw [lk_ne (by decide +kernel)]; (first | rfl | exact lk_eq | (rw [lk_ne (by decide +kernel)]; (first | rfl | exact lk_eq | (rw [lk_ne (by decide +kernel)]; (first | rfl | exact lk_eq | (rw [lk_ne (by decide +kernel)]; (first | rfl | exact lk_eq | (rw [lk_ne (by decide +kernel)]; (first | rfl | exact lk_eq | (rw [lk_ne (by decide +kernel)]; (first | rfl | exact lk_eq)))))))))))))))⟩
theorem lk_width {t : Str} {w : Int} : (winF t w).lookup ("width" : Str) = some (.int w) := lk_eq
theorem lk_borders {t : Str} {bs : List Int} {e : Int} {b : Addr} : (dayF t bs e b).lookup ("_borders" : Str) = some (.ref b) := by unfold dayF four; (first | rfl | exact lk_eq | (rw [lk_ne (by decide +kernel)]; (first | rfl | exact lk_eq | (rw [lk_ne (by decide +kernel)]; (first | rfl | exact lk_eq | (rw [lk_ne (by decide +kernel)]; (first | rfl | exact lk_eq | (rw [lk_ne (by decide +kernel)]; (first | rfl | exact lk_eq | (rw [lk_ne (by decide +kernel)]; (first | rfl | exact lk_eq | (rw [lk_ne (by decide +kernel)]; (first | rfl | exact lk_eq | (rw [lk_ne (by decide +kernel)]; (first | rfl | exact lk_eq)))))))))))))))
theorem lk_every {t : Str} {bs : List Int} {e : Int} {b : Addr} : (dayF t bs e b).lookup ("every" : Str) = some (.int e) := by unfold dayF four; (first | rfl | exact lk_eq | (rw [lk_ne (by decide +kernel)]; (first | rfl | exact lk_eq | (rw [lk_ne (by decide +kernel)]; (first | rfl | exact lk_eq | (rw [lk_ne (by decide +kernel)]; (first | rfl | exact lk_eq | (rw [lk_ne (by decide +kernel)]; (first | rfl | exact lk_eq | (rw [lk_ne (by decide +kernel)]; (first | rfl | exact lk_eq | (rw [lk_ne (by decide +kernel)]; (first | rfl | exact lk_eq | (rw [lk_ne (by decide +kernel)]; (first | rfl | exact lk_eq)))))))))))))))
theorem RestX.view {K : PySem.W.Frag} {mg : Str → Option Value} {a : Ad} {g : Addr → Prop} {t : Str} {H : Hp} (KN : Kn K mg a) : ∀ {p : Pl} {x : Addr}, RestX a g H t p x → ∃ C dx fs, H x = some (.ins C dx fs) ∧ RC K a C ∧ Four t p fs ∧ t.length ≤ tb 0 ∧ (C = a.W ∨ C = a.D)
  | .win w, x, ⟨n, dx, h, l, _⟩ => ⟨_, _, _, h, KN.w, four_win, l, .inl rfl⟩
  | .days bs e, x, ⟨n, dx, b, h, l, nb, hb⟩ => ⟨_, _, _, h, KN.d, four_day, l, .inr rfl⟩
  | .lat _ _, _, h => h.elim
  | .soo _ _, _, h => h.elim
  | .nex _ _, _, h => h.elim
theorem tb0 : tb 0 = 40000 := rfl
theorem join_le (a : Str) {B : Nat} : ∀ {ys : List Str}, (∀ y ∈ ys, y.length ≤ B) → (Str.join a ys).length ≤ ys.length * (B + a.length)
  | [], _ => Nat.zero_le _
  | [y], h => by
    have := h y (by simp)
    show y.length ≤ 1 * (B + a.length)
    omega
  | y :: z :: r, h => by
    have ih := join_le a (ys := z :: r) fun t ht => h t (List.mem_cons_of_mem _ ht)
    have := h y (by simp)
    show (y ++ a ++ Str.join a (z :: r)).length ≤ _
    rw [Str.length_append, Str.length_append]
    have e : (y :: z :: r).length * (B + a.length) = (z :: r).length * (B + a.length) + (B + a.length) := by
      show ((z :: r).length + 1) * (B + a.length) = _
      rw [Nat.add_mul, Nat.one_mul]
    omega
theorem sum_le {B : Nat} : ∀ {ys : List Str}, (∀ y ∈ ys, y.length ≤ B) → (ys.map (·.length)).sum ≤ ys.length * B
  | [], _ => Nat.zero_le _
  | y :: r, h => by
    have ih := sum_le (ys := r) fun t ht => h t (List.mem_cons_of_mem _ ht)
    have := h y (by simp)
    show y.length + (r.map (·.length)).sum ≤ (r.length + 1) * B
    rw [Nat.add_mul, Nat.one_mul]
    omega
theorem int_len {i : Int} (h0 : -1000000 ≤ i) (h1 : i ≤ 1000000) : (PySem.Str.ofString (toString i)).length ≤ 1921 := PyProof.Rows.int_text_len_1921 (log_small h0 h1)

theorem same_mk {Hb H H1 : Hp} {x q : Addr} {o : HO} (hb : Hb x = none) (sb : Same Hb H) (hq : H q = none) (h2 : ∀ y, y ≠ x → H1 y = upd H q o y) : Same Hb H1 := fun c u e => by
  have nx : c ≠ x := ne_of_none e hb
  rw [h2 c nx, upd_ne (ne_of_none (sb c u e) hq)]
  exact sb c u e
theorem same_upd {Hb H : Hp} {x : Addr} {o : HO} (hb : Hb x = none) (s : Same Hb H) : Same Hb (upd H x o) := fun c u e => by
  rw [upd_ne (ne_of_none e hb)]
  exact s c u e
theorem four_len (t : Str) (p : Pl) (fs : List (Str × V)) : (four t p fs).length ≤ fs.length + 4 := by
  unfold four
  have l1 := length_putF "_text" (.str t) fs
  have l2 := length_putF "_forms" (.int p.forms) (putF "_text" (.str t) fs)
  have l3 := length_putF "_period" (.int p.per) (putF "_forms" (.int p.forms) (putF "_text" (.str t) fs))
  have l4 := length_putF "_bend" (.int p.bend) (putF "_period" (.int p.per) (putF "_forms" (.int p.forms) (putF "_text" (.str t) fs)))
  omega

theorem ixN_nat {j n : Nat} (h : j < n) : ixN n (j : Int) = some j := by
  unfold ixN
  rw [if_pos (by omega), if_pos (by omega)]
  simp
theorem last_ix {bs : List Int} (h : bs ≠ []) : atI (bs.map V.int) (-1) = some (V.int (lastOf bs)) := by
  obtain ⟨cs, c, rfl⟩ : ∃ cs c, bs = cs ++ [c] := ⟨bs.dropLast, bs.getLast h, (List.dropLast_concat_getLast h).symm⟩
  rw [List.map_append]
  have e : lastOf (cs ++ [c]) = c := by
    unfold lastOf
    rw [List.getLastD_concat]
  rw [e]
  exact atI_last _ _

/-! ### rules -/
structure Ar where
  (c i fS fE : Addr)
structure Kr (K : PySem.W.Frag) (mg : Str → Option Value) (r : Ar) : Prop where
  cl : Cls K r.c
  nn : NoAttr K r.c "name"
  nc : NoAttr K r.c "chips"
  nr : NoAttr K r.c "rest"
  m : Mk K r.c r.i
  g : mg "Rule" = some (.ref r.c)
  me : PySem.W.kitOne K (.ref r.c) (.ref r.c) = some true
  ha : PySem.W.findIn K (.ref r.c) "__class__" = some (some (.builtin "object.__class__"))
  hn : PySem.W.specialIn K (.builtin "object.__class__") "__get__" = some (some (.builtin "getset_descriptor.__get__"))
  htk : PySem.W.takesIn K (.builtin "object.__class__") = some true
  hm : PySem.W.mroIn K r.c (.type "object") = some true
  s1 : PySem.W.findIn K (.ref r.c) "__str__" = some (some (.ref r.fS))
  s2 : PySem.W.isFn K (.ref r.fS) = true
  e1 : PySem.W.findIn K (.ref r.c) "__eq__" = some (some (.ref r.fE))
  e2 : PySem.W.isFn K (.ref r.fE) = true
  ki : PySem.W.kitOne K (.type "int") (.ref r.c) = some false
  ks : PySem.W.kitOne K (.type "str") (.ref r.c) = some false
  nfi : PySem.W.notFirst K r.c (.type "int") = true
  nfs : PySem.W.notFirst K r.c (.type "str") = true
def ruleF (nm : Str) (ch : Int) (y : Addr) : List (Str × V) := putF "rest" (.ref y) (putF "chips" (.int ch) (putF "name" (.str nm) []))
def RuleAt (r : Ar) (H : Hp) (x : Addr) (nm : Str) (ch : Int) (y : Addr) : Prop := ∃ dx, H x = some (.ins r.c dx (ruleF nm ch y))
theorem lk_rest {nm : Str} {ch : Int} {y : Addr} : (ruleF nm ch y).lookup ("rest" : Str) = some (.ref y) := lk_eq
theorem lk_chips {nm : Str} {ch : Int} {y : Addr} : (ruleF nm ch y).lookup ("chips" : Str) = some (.int ch) := by unfold ruleF; rw [lk_ne (by decide +kernel)]; exact lk_eq
theorem lk_name {nm : Str} {ch : Int} {y : Addr} : (ruleF nm ch y).lookup ("name" : Str) = some (.str nm) := by unfold ruleF; rw [lk_ne (by decide +kernel), lk_ne (by decide +kernel)]; exact lk_eq
/-! ### the uses as they stand in the heap -/
def Rows (H : Hp) : List (Int × Int) → List Addr → Prop
  | [], [] => True
  | r :: rs, t :: ts => H t = some (.tup [.int r.1, .int r.2]) ∧ Rows H rs ts
  | _, _ => False
theorem Rows.len {H : Hp} : ∀ {rs : List (Int × Int)} {ts : List Addr}, Rows H rs ts → ts.length = rs.length
  | [], [], _ => rfl
  | _ :: rs, _ :: ts, h => by rw [List.length_cons, List.length_cons, Rows.len h.2]
  | [], _ :: _, h => h.elim
  | _ :: _, [], h => h.elim
theorem Rows.kt {H H' : Hp} (k : Kt H H') : ∀ {rs : List (Int × Int)} {ts : List Addr}, Rows H rs ts → Rows H' rs ts
  | [], [], _ => True.intro
  | _ :: _, _ :: _, h => ⟨k _ _ h.1, Rows.kt k h.2⟩
  | [], _ :: _, h => h.elim
  | _ :: _, [], h => h.elim
theorem Rows.at_ {H : Hp} : ∀ {rs : List (Int × Int)} {ts : List Addr}, Rows H rs ts → ∀ {i : Nat} {t : Addr}, ts[i]? = some t → ∃ r, rs[i]? = some r ∧ H t = some (.tup [.int r.1, .int r.2])
  | [], [], _, i, t, e => by cases i <;> cases e
  | r :: rs, u :: ts, h, 0, t, e => by cases e; exact ⟨r, rfl, h.1⟩
  | _ :: _, _ :: _, h, i + 1, t, e => Rows.at_ h.2 (i := i) e
  | [], _ :: _, h, _, _, _ => h.elim
  | _ :: _, [], h, _, _, _ => h.elim
theorem Rows.snoc {H : Hp} {r : Int × Int} {t : Addr} (ht : H t = some (.tup [.int r.1, .int r.2])) : ∀ {rs : List (Int × Int)} {ts : List Addr}, Rows H rs ts → Rows H (rs ++ [r]) (ts ++ [t])
  | [], [], _ => ⟨ht, True.intro⟩
  | _ :: _, _ :: _, h => ⟨h.1, Rows.snoc ht h.2⟩
  | [], _ :: _, h => h.elim
  | _ :: _, [], h => h.elim
/-- the pair that stands at v -/
def pairOf (H : Hp) : V → Int × Int
  | .ref t => match H t with
    | some (.tup [.int i, .int j]) => (i, j)
    | _ => (0, 0)
  | _ => (0, 0)
theorem pairOf_eq {H : Hp} {t : Addr} {r : Int × Int} (h : H t = some (.tup [.int r.1, .int r.2])) : pairOf H (.ref t) = r := by
  show (match H t with | some (.tup [.int i, .int j]) => (i, j) | _ => (0, 0)) = r
  rw [h]
theorem Rows.pairs {H : Hp} : ∀ {rs : List (Int × Int)} {ts : List Addr}, Rows H rs ts → (ts.map V.ref).map (pairOf H) = rs
  | [], [], _ => rfl
  | r :: rs, t :: ts, h => by
    have e := Rows.pairs h.2
    show pairOf H (.ref t) :: (ts.map V.ref).map (pairOf H) = r :: rs
    rw [pairOf_eq h.1, e]
  | [], _ :: _, h => h.elim
  | _ :: _, [], h => h.elim
theorem Rows.mem {H : Hp} {rs : List (Int × Int)} {ts : List Addr} (h : Rows H rs ts) {x : V} (hx : x ∈ ts.map V.ref) : ∃ t, x = V.ref t ∧ H t = some (.tup [.int (pairOf H x).1, .int (pairOf H x).2]) := by
  obtain ⟨t, ht, rfl⟩ := List.mem_map.mp hx
  obtain ⟨i, hi⟩ := List.mem_iff_getElem?.mp ht
  obtain ⟨r, _, e⟩ := h.at_ hi
  exact ⟨t, rfl, by rw [pairOf_eq e]; exact e⟩
theorem rows_of {H : Hp} : ∀ {ys : List V}, (∀ y ∈ ys, ∃ t, y = V.ref t ∧ H t = some (.tup [.int (pairOf H y).1, .int (pairOf H y).2])) → ∃ ts : List Addr, ys = ts.map V.ref ∧ Rows H (ys.map (pairOf H)) ts
  | [], _ => ⟨[], rfl, True.intro⟩
  | y :: ys, h => by
    obtain ⟨ts, e, r⟩ := rows_of (ys := ys) fun z hz => h z (List.mem_cons_of_mem _ hz)
    obtain ⟨t, rfl, ht⟩ := h y (List.mem_cons_self ..)
    exact ⟨t :: ts, by rw [e]; rfl, ht, r⟩
/-- a list of them, sorted -/
theorem rows_sorted {H : Hp} {rs : List (Int × Int)} {ts : List Addr} (h : Rows H rs ts) {ys : List V} (hs : SrtO.Srtd (ltP (pairOf H)) ys) (hp : ys.Perm (ts.map V.ref)) : ∃ (rs' : List (Int × Int)) (ts' : List Addr), ys = ts'.map V.ref ∧ Rows H rs' ts' ∧ rs'.Perm rs ∧ Srt1 rs' := by
  obtain ⟨ts', e, r⟩ := rows_of (H := H) (ys := ys) fun y hy => h.mem (hp.mem_iff.mp hy)
  refine ⟨_, ts', e, r, ?_, ?_⟩
  · have q := hp.map (pairOf H)
    rw [h.pairs] at q
    exact q
  · refine List.pairwise_map.mpr (hs.imp fun {x y} z => ?_)
    have := SrtO.lexB_no.mp z
    omega
def vOpt : Option Int → V
  | none => .non
  | some i => .int i

/-! ### values of any kind -/
def Sz : V → Prop
  | .int _ => True
  | .non => True
  | .bl _ => True
  | .str z => z.length ≤ 1000000
  | _ => False
theorem Sz.sc : ∀ {x : V}, Sz x → Sc x
  | .int _, _ => True.intro
  | .non, _ => True.intro
  | .bl _, _ => True.intro
  | .str _, _ => True.intro
/-- each value is the one of its key, flat or an object -/
def DkOk (ks : List (Key × V)) : Prop := ∀ p ∈ ks, valV ks p.1 = some p.2 ∧ (flatB p.2 = true ∨ ∃ a, p.2 = .ref a)
theorem dk0 : DkOk [] := fun p hp => by cases hp
theorem dk1 {k : Key} {v : V} (hv : flatB v = true ∨ ∃ a, v = .ref a) : DkOk (mergeK [] [(k, v)]) := fun p hp => by
  have e : mergeK [] [(k, v)] = [(k, v)] := rfl
  rw [e] at hp ⊢
  rw [List.mem_singleton] at hp
  rw [hp]
  refine ⟨?_, hv⟩
  unfold valV
  rw [List.find?_cons, decide_eq_true rfl]
  rfl
/-- data that is not in F: scalars, dicts, lists and tuples of such data, n deep -/
def Ov (F : Addr → Prop) (H : Hp) : Nat → V → Prop
  | 0, x => Sz x
  | n + 1, x => Sz x ∨ (∃ (p : Addr) (ks : List (Key × V)), x = .ref p ∧ ¬ F p ∧ H p = some (.dK ks) ∧ DkOk ks) ∨ ∃ (b : Bool) (p : Addr) (xs : List V), x = .ref p ∧ ¬ F p ∧ H p = some (mkO b xs) ∧ xs.length ≤ 1000000 ∧ ∀ u ∈ xs, Ov F H n u
theorem mkO_ne (b : Bool) (xs : List V) : ∀ ps, mkO b xs ≠ .tbl ps := fun ps z => by
  cases b with
  | true => cases (show HO.lst xs = .tbl ps from z)
  | false => cases (show HO.tup xs = .tbl ps from z)
theorem Ov.kp {F : Addr → Prop} {H H' : Hp} (k : KpF F H H') : ∀ {n : Nat} {x : V}, Ov F H n x → Ov F H' n x
  | 0, _, h => h
  | _ + 1, _, .inl h => .inl h
  | _ + 1, _, .inr (.inl ⟨p, ks, e, n, h, q⟩) => .inr (.inl ⟨p, ks, e, n, k _ _ n (fun _ z => by cases z) h, q⟩)
  | _ + 1, _, .inr (.inr ⟨b, p, xs, e, n, h, l, r⟩) => .inr (.inr ⟨b, p, xs, e, n, k _ _ n (mkO_ne b xs) h, l, fun u hu => (r u hu).kp k⟩)
theorem Ov.mono {F G : Addr → Prop} {H : Hp} (k : ∀ b, G b → F b) : ∀ {n : Nat} {x : V}, Ov F H n x → Ov G H n x
  | 0, _, h => h
  | _ + 1, _, .inl h => .inl h
  | _ + 1, _, .inr (.inl ⟨p, ks, e, n, h, q⟩) => .inr (.inl ⟨p, ks, e, fun z => n (k _ z), h, q⟩)
  | _ + 1, _, .inr (.inr ⟨b, p, xs, e, n, h, l, r⟩) => .inr (.inr ⟨b, p, xs, e, fun z => n (k _ z), h, l, fun u hu => (r u hu).mono k⟩)
theorem Ov.sz {F : Addr → Prop} {H : Hp} {x : V} (h : Sz x) : ∀ n, Ov F H n x
  | 0 => h
  | _ + 1 => .inl h
/-- by the mutation of a list in F nothing changes -/
theorem KpF.mut' {F : Addr → Prop} {H : Hp} {p : Addr} {o : HO} (h : F p) : KpF F H (L2.upd H p o) := fun b u n _ e => by
  rw [upd_ne (fun z => n (by rw [z]; exact h))]
  exact e
def isI : V → Bool
  | .int _ => true
  | .bl _ => true
  | _ => false
def isB : V → Bool
  | .bl _ => true
  | _ => false
def isS : V → Bool
  | .str _ => true
  | _ => false
/-- what isinstance says of such a value -/
theorem Ov.ty {K : PySem.W.Frag} {F : Addr → Prop} {H : Hp} {n : Nat} {x : V} (h : Ov F H n x) : ∃ t : String, TyX K H x (.type t) ∧ kitB t "int" = some (isI x) ∧ kitB t "bool" = some (isB x) ∧ kitB t "str" = some (isS x) ∧ t ∈ ["int", "bool", "str", "NoneType", "list", "tuple", "dict"] := by
  have sc : ∀ {x : V}, Sz x → ∃ t : String, TyX K H x (.type t) ∧ kitB t "int" = some (isI x) ∧ kitB t "bool" = some (isB x) ∧ kitB t "str" = some (isS x) ∧ t ∈ ["int", "bool", "str", "NoneType", "list", "tuple", "dict"] := fun {x} hs => by
    match x, hs with
    | .int i, _ => exact ⟨"int", .base (.int i), (show kitB "int" "int" = some true by decide +kernel), (show kitB "int" "bool" = some false by decide +kernel), (show kitB "int" "str" = some false by decide +kernel), by decide⟩
    | .bl i, _ => exact ⟨"bool", .base (.bl i), (show kitB "bool" "int" = some true by decide +kernel), (show kitB "bool" "bool" = some true by decide +kernel), (show kitB "bool" "str" = some false by decide +kernel), by decide⟩
    | .non, _ => exact ⟨"NoneType", .base .non, (show kitB "NoneType" "int" = some false by decide +kernel), (show kitB "NoneType" "bool" = some false by decide +kernel), (show kitB "NoneType" "str" = some false by decide +kernel), by decide⟩
    | .str i, _ => exact ⟨"str", .base (.str i), (show kitB "str" "int" = some false by decide +kernel), (show kitB "str" "bool" = some false by decide +kernel), (show kitB "str" "str" = some true by decide +kernel), by decide⟩
  cases n with
  | zero => exact sc h
  | succ n =>
    rcases h with h | ⟨p, ks, rfl, _, e, _⟩ | ⟨b, p, xs, rfl, _, e, _⟩
    · exact sc h
    · exact ⟨"dict", .base (.dK e), (show kitB "dict" "int" = some false by decide +kernel), (show kitB "dict" "bool" = some false by decide +kernel), (show kitB "dict" "str" = some false by decide +kernel), by decide⟩
    · cases b with
      | true => exact ⟨"list", .base (.lst e), (show kitB "list" "int" = some false by decide +kernel), (show kitB "list" "bool" = some false by decide +kernel), (show kitB "list" "str" = some false by decide +kernel), by decide⟩
      | false => exact ⟨"tuple", .base (.tup e), (show kitB "tuple" "int" = some false by decide +kernel), (show kitB "tuple" "bool" = some false by decide +kernel), (show kitB "tuple" "str" = some false by decide +kernel), by decide⟩
theorem Ov.str {F : Addr → Prop} {H : Hp} {n : Nat} {z : Str} (h : Ov F H n (.str z)) : z.length ≤ 1000000 := by
  cases n with
  | zero => exact h
  | succ n =>
    rcases h with h | ⟨p, ks, e, _⟩ | ⟨b, p, xs, e, _⟩
    · exact h
    · cases e
    · cases e
/-- a name of at most h signs -/
def isNamN (h : Int) (v : V) : Bool := match v with | .str z => decide (1 ≤ z.length) && decide ((z.length : Int) ≤ h) && chL (z.cps.toList.getD 0 0) && z.cps.toList.all (fun c => chL c || chD c) | _ => false
theorem namN8 (v : V) : isNamN 8 v = isNam v := by
  cases v with
  | str z =>
    show (decide (1 ≤ z.length) && decide ((z.length : Int) ≤ 8) && chL (z.cps.toList.getD 0 0) && z.cps.toList.all (fun c => chL c || chD c)) = (decide (1 ≤ z.length) && decide (z.length ≤ 8) && chL (z.cps.toList.getD 0 0) && z.cps.toList.all (fun c => chL c || chD c))
    rw [show decide ((z.length : Int) ≤ 8) = decide (z.length ≤ 8) from decide_eq_decide.mpr (by omega)]
  | _ => rfl
theorem namN7 (z : Str) : isNamN 7 (.str z) = (isNam (.str z) && decide (z.length ≤ 7)) := by
  show (decide (1 ≤ z.length) && decide ((z.length : Int) ≤ 7) && chL (z.cps.toList.getD 0 0) && z.cps.toList.all (fun c => chL c || chD c)) = ((decide (1 ≤ z.length) && decide (z.length ≤ 8) && chL (z.cps.toList.getD 0 0) && z.cps.toList.all (fun c => chL c || chD c)) && decide (z.length ≤ 7))
  rw [show decide ((z.length : Int) ≤ 7) = decide (z.length ≤ 7) from decide_eq_decide.mpr (by omega)]
  by_cases h : z.length ≤ 7
  · rw [decide_eq_true h, decide_eq_true (show z.length ≤ 8 by omega), Bool.and_true, Bool.and_true]
  · rw [decide_eq_false h, Bool.and_false, Bool.and_false, Bool.false_and, Bool.false_and]
theorem mem_ld (c : Nat) : decide (c ∈ ("abcdefghijklmnopqrstuvwxyz0123456789" : Str).cps.toList) = (chL c || chD c) := by
  have e : ("abcdefghijklmnopqrstuvwxyz0123456789" : Str).cps.toList = List.range' 97 26 ++ List.range' 48 10 := by decide +kernel
  rw [e]
  unfold chL chD
  rw [← Bool.decide_and, ← Bool.decide_and, ← Bool.decide_or]
  refine decide_eq_decide.mpr ?_
  rw [List.mem_append, List.mem_range'_1, List.mem_range'_1]
  omega
theorem chDL {c : Nat} (h : chD c = true) : chL c = false := by
  unfold chD at h
  unfold chL
  rw [Bool.and_eq_true] at h
  have h1 := of_decide_eq_true h.1
  have h2 := of_decide_eq_true h.2
  rw [decide_eq_false (show ¬ 97 ≤ c by omega)]
  rfl
/-! ### errors -/
def ivF (nm : Str) : List V → List (Str × V)
  | [v] => [("code", .str nm), ("value", v)]
  | _ => []
structure RE (P : Program) (w : World) (K : PySem.W.Frag) (mg : Str → Option Value) (base : Heap) (nm : Str) (C fI : Addr) (fdI : FuncData) : Prop where
  er : LX.ErrC K mg nm ["value", "code"] C fI
  G : FnOk P w K mg base CX0 1 fI fdI ["self", "value"] (LX.spErr C 1 (ivF nm))
  b : Binds K fdI ["self", "value"] []
theorem ErrOut.same {H H1 : Hp} {E : XK} {C : Addr} {fs : List (Str × V)} (s : Same H H1) (h : LX.ErrOut H E C fs) : LX.ErrOut H1 E C fs := fun d H' s' hd he => h d H' (s.trans s') (s.free hd) he
/-- the error classes -/
structure Ce where
  (nm nu re : Addr)
theorem num_true {v lo hi : Int} (h1 : lo ≤ v) (h2 : v ≤ hi) : isNum (.int v) lo hi = true := by
  show (decide (lo ≤ v) && decide (v ≤ hi)) = true
  rw [decide_eq_true h1, decide_eq_true h2]
  rfl
/-- alike, told and due: dicts are one object -/
def Lq (H : Hp) : Nat → V → V → Prop
  | 0, x, y => x = y ∧ Sc x
  | n + 1, x, y => (x = y ∧ Sc x) ∨ (∃ (p : Addr) (ks : List (Key × V)), x = .ref p ∧ y = .ref p ∧ H p = some (.dK ks) ∧ DkOk ks) ∨ ∃ (b : Bool) (p q : Addr) (xs ys : List V), x = .ref p ∧ y = .ref q ∧ H p = some (mkO b xs) ∧ H q = some (mkO b ys) ∧ xs.length = ys.length ∧ xs.length ≤ 1000000 ∧ ∀ (i : Nat) (u v : V), xs[i]? = some u → ys[i]? = some v → Lq H n u v
theorem Lq.same {H H' : Hp} (s : L2.Same H H') : ∀ {n : Nat} {x y : V}, Lq H n x y → Lq H' n x y
  | 0, _, _, h => h
  | n + 1, _, _, .inl h => .inl h
  | n + 1, _, _, .inr (.inl ⟨p, ks, e1, e2, h, q⟩) => .inr (.inl ⟨p, ks, e1, e2, s _ _ h, q⟩)
  | n + 1, _, _, .inr (.inr ⟨b, p, q, xs, ys, e1, e2, h1, h2, h3, h4, h5⟩) => .inr (.inr ⟨b, p, q, xs, ys, e1, e2, s _ _ h1, s _ _ h2, h3, h4, fun i u v a c => (h5 i u v a c).same s⟩)
theorem Lq.sc {H : Hp} {x : V} (h : Sc x) : ∀ n, Lq H n x x
  | 0 => ⟨rfl, h⟩
  | _ + 1 => .inl ⟨rfl, h⟩
theorem Lq.cases {H : Hp} {m : Nat} {u v : V} (h : Lq H m u v) : (u = v ∧ Sc u) ∨ (∃ (p : Addr) (ks : List (Key × V)), u = .ref p ∧ v = .ref p ∧ H p = some (.dK ks) ∧ DkOk ks) ∨ ∃ j, m = j + 1 ∧ ∃ (b : Bool) (p q : Addr) (xs ys : List V), u = .ref p ∧ v = .ref q ∧ H p = some (mkO b xs) ∧ H q = some (mkO b ys) ∧ xs.length = ys.length ∧ xs.length ≤ 1000000 ∧ ∀ (i : Nat) (s t : V), xs[i]? = some s → ys[i]? = some t → Lq H j s t := by
  cases m with
  | zero => exact .inl h
  | succ j =>
    rcases h with h | h | h
    · exact .inl h
    · exact .inr (.inl h)
    · exact .inr (.inr ⟨j, rfl, h⟩)
/-- data is like itself -/
theorem Ov.lq {F : Addr → Prop} {H : Hp} : ∀ {n : Nat} {x : V}, Ov F H n x → Lq H n x x
  | 0, _, h => ⟨rfl, h.sc⟩
  | _ + 1, _, .inl h => .inl ⟨rfl, h.sc⟩
  | _ + 1, _, .inr (.inl ⟨p, ks, e, _, h, q⟩) => .inr (.inl ⟨p, ks, e, e, h, q⟩)
  | _ + 1, _, .inr (.inr ⟨b, p, xs, e, _, h, l, r⟩) => .inr (.inr ⟨b, p, p, xs, xs, e, e, h, h, rfl, l, fun i u v a c => by
      rw [a] at c
      cases c
      exact (r u (List.mem_of_getElem? a)).lq⟩)
theorem kLT_dK {K : PySem.W.Frag} : PySem.W.kitAny K (.type "dict") [.type "list", .type "tuple"] = some false := kitAny_cons (kit_ty (show kitB "dict" "list" = some false by decide +kernel)) (fun _ => kitAny_cons (kit_ty (show kitB "dict" "tuple" = some false by decide +kernel)) (fun _ => kitAny_nil) fun z => by cases z) (fun z => by cases z)
/-- == of scalars, or of a dict with itself -/
def rEqS (K : PySem.W.Frag) : R2 := fun x y H Q => rEq x y H Q ∨ ∃ (p : Addr) (ks : List (Key × V)), x = .ref p ∧ y = .ref p ∧ H p = some (.dK ks) ∧ DkOk ks ∧ Q (.bl true) H
theorem op_eqS {X : Cx} (hu : X.A.units + 64 < cLine) : OpR X (compareOp .Eq) (rEqS X.K) := by
  intro pins s σ H x y v u Q I rx ry h
  rcases h with h | ⟨p, ks, rfl, rfl, hp, ok, q⟩
  · exact op_eq pins s σ H x y v u Q I rx ry h
  · refine op_eqV hu pins s σ H _ _ v u Q I rx ry ⟨1, by decide, .inr ⟨p, p, ks, ks, rfl, rfl, hp, hp, rfl, fun z hz => ?_⟩, q⟩
    obtain ⟨e, f⟩ := ok z hz
    refine ⟨z.2, e, ?_⟩
    rcases f with f | ⟨b, f⟩
    · exact .inl ⟨rfl, f⟩
    · exact .inr (.inl ⟨b, f, f⟩)
/-- what is new is not in F -/
theorem nF_of {F : Addr → Prop} {g l : Addr} {H H' : Hp} {t : Addr} (hF : ∀ b, F b → ∃ o, H b = some o) (r : Ok g l H H') (h : H' t = none) : ¬ F t := fun z => by
  obtain ⟨o, e⟩ := hF t z
  rw [r.free h] at e
  cases e
theorem hF_ok {F : Addr → Prop} {g l : Addr} {H H' : Hp} (hF : ∀ b, F b → ∃ o, H b = some o) (r : Ok g l H H') : ∀ b, F b → ∃ o, H' b = some o := fun b z => by
  cases q : H' b with
  | some o => exact ⟨o, rfl⟩
  | none => exact absurd z (nF_of hF r q)
/-- a good dict stands at p -/
def Dq (F : Addr → Prop) (H : Hp) (p : Addr) : Prop := ¬ F p ∧ ∃ ks, H p = some (.dK ks) ∧ DkOk ks
theorem Dq.new {F : Addr → Prop} {H : Hp} {p q : Addr} {o : HO} (d : Dq F H p) (h : H q = none) : Dq F (L2.upd H q o) p := by
  obtain ⟨n, ks, e, k⟩ := d
  exact ⟨n, ks, by rw [upd_ne (ne_of_none e h)]; exact e, k⟩
theorem Dq.dict {F : Addr → Prop} {H : Hp} {p q : Addr} {kvs : List (Key × V)} (ok : DkOk kvs) (d : Dq F H p) : Dq F (L2.upd H q (.dK kvs)) p := by
  obtain ⟨n, ks, e, k⟩ := d
  by_cases h : p = q
  · subst h
    exact ⟨n, kvs, upd_same, ok⟩
  · exact ⟨n, ks, by rw [upd_ne h]; exact e, k⟩
theorem Dq.ov {F : Addr → Prop} {H : Hp} {p : Addr} (d : Dq F H p) (n : Nat) : Ov F H (n + 1) (.ref p) := by
  obtain ⟨n, ks, e, k⟩ := d
  exact .inr (.inl ⟨p, ks, rfl, n, e, k⟩)
/-! ### the ladder's rules -/
def stOk (v1 v2 v3 : V) : Bool := match v1, v2, v3 with | .int s, .int e, .int t => decide (s + t - 1 ≤ 1000) && decide (e * t ≤ 1000) | _, _, _ => false
def dueV (v0 v1 v2 v3 : V) : Option (Str × V) := if isNamN 7 v0 = false then some (("InvalidName" : Str), v0) else if isNum v1 1 1000 = false then some (("InvalidNumber" : Str), v1) else if isNum v2 1 1000 = false then some (("InvalidNumber" : Str), v2) else if (isNum v3 1 9 && stOk v1 v2 v3) = false then some (("InvalidNumber" : Str), v3) else none
theorem due0 {v0 v1 v2 v3 : V} (h : isNamN 7 v0 = false) : dueV v0 v1 v2 v3 = some (("InvalidName" : Str), v0) := by unfold dueV; rw [if_pos h]
theorem due1 {v0 v1 v2 v3 : V} (h : isNamN 7 v0 = true) (h1 : isNum v1 1 1000 = false) : dueV v0 v1 v2 v3 = some (("InvalidNumber" : Str), v1) := by unfold dueV; rw [if_neg (by rw [h]; decide), if_pos h1]
theorem due2 {v0 v1 v2 v3 : V} (h : isNamN 7 v0 = true) (h1 : isNum v1 1 1000 = true) (h2 : isNum v2 1 1000 = false) : dueV v0 v1 v2 v3 = some (("InvalidNumber" : Str), v2) := by unfold dueV; rw [if_neg (by rw [h]; decide), if_neg (by rw [h1]; decide), if_pos h2]
theorem due3 {v0 v1 v2 v3 : V} (h : isNamN 7 v0 = true) (h1 : isNum v1 1 1000 = true) (h2 : isNum v2 1 1000 = true) (h3 : (isNum v3 1 9 && stOk v1 v2 v3) = false) : dueV v0 v1 v2 v3 = some (("InvalidNumber" : Str), v3) := by unfold dueV; rw [if_neg (by rw [h]; decide), if_neg (by rw [h1]; decide), if_neg (by rw [h2]; decide), if_pos h3]
theorem due4 {v0 v1 v2 v3 : V} (h : isNamN 7 v0 = true) (h1 : isNum v1 1 1000 = true) (h2 : isNum v2 1 1000 = true) (h3 : (isNum v3 1 9 && stOk v1 v2 v3) = true) : dueV v0 v1 v2 v3 = none := by unfold dueV; rw [if_neg (by rw [h]; decide), if_neg (by rw [h1]; decide), if_neg (by rw [h2]; decide), if_neg (by rw [h3]; decide)]
def nameK (z : Str) (k : Nat) : Str := z ++ Str.ofString (toString (k : Int))
def wideK (ev : Int) (k : Nat) : Int := ((k : Int) + 1) * ev
/-- the rules of a ladder, as far as they are made -/
def Rls (r : Ar) (a : Ad) (F : Addr → Prop) (H : Hp) (z : Str) (si ev : Int) (xs : List Addr) : Prop := ∀ (k : Nat) (x : Addr), xs[k]? = some x → ∃ y, ¬ F x ∧ RuleAt r H x (nameK z k) (si + k) y ∧ RestX a F H (winT (wideK ev k)) (.win (wideK ev k)) y
theorem Rls.kp {r : Ar} {a : Ad} {F : Addr → Prop} {H H' : Hp} {z : Str} {si ev : Int} {xs : List Addr} (k : KpF F H H') (h : Rls r a F H z si ev xs) : Rls r a F H' z si ev xs := fun i x e => by
  obtain ⟨y, n, ⟨dx, h1⟩, h2⟩ := h i x e
  exact ⟨y, n, ⟨dx, k _ _ n (fun _ z => by cases z) h1⟩, h2.kp k⟩
theorem Rls.mono {r : Ar} {a : Ad} {F G : Addr → Prop} {H : Hp} {z : Str} {si ev : Int} {xs : List Addr} (k : ∀ b, G b → F b) (h : Rls r a F H z si ev xs) : Rls r a G H z si ev xs := fun i x e => by
  obtain ⟨y, n, h1, h2⟩ := h i x e
  exact ⟨y, fun q => n (k _ q), h1, h2.mono k⟩
theorem Rls.snoc {r : Ar} {a : Ad} {F : Addr → Prop} {H : Hp} {z : Str} {si ev : Int} {xs : List Addr} {x y : Addr} {n : Nat} (hn : xs.length = n) (h : Rls r a F H z si ev xs) (nx : ¬ F x) (h1 : RuleAt r H x (nameK z n) (si + n) y) (h2 : RestX a F H (winT (wideK ev n)) (.win (wideK ev n)) y) : Rls r a F H z si ev (xs ++ [x]) := fun k u e => by
  by_cases c : k < xs.length
  · rw [List.getElem?_append_left c] at e
    exact h k u e
  · rw [List.getElem?_append_right (by omega)] at e
    cases q : k - xs.length with
    | zero =>
      rw [q] at e
      obtain rfl : x = u := Option.some.inj e
      obtain rfl : k = n := by omega
      exact ⟨y, nx, h1, h2⟩
    | succ m =>
      rw [q] at e
      simp at e
theorem nF_same {F : Addr → Prop} {H H' : Hp} {t : Addr} (hF : ∀ b, F b → ∃ o, H b = some o) (s : Same H H') (h : H' t = none) : ¬ F t := fun z => by
  obtain ⟨o, e⟩ := hF t z
  rw [s _ _ e] at h
  cases h
theorem empty_app (z : Str) : Str.empty ++ z = z := by
  show (⟨Str.empty.cps ++ z.cps⟩ : Str) = z
  have e : Str.empty.cps = #[] := rfl
  rw [e, Array.empty_append]
theorem app_cps (a b : Str) : (a ++ b).cps.toList = a.cps.toList ++ b.cps.toList := by
  show (a.cps ++ b.cps).toList = _
  rw [Array.toList_append]
theorem nam_dig {z : Str} (h : isNamN 7 (.str z) = true) {k : Nat} (hk : k < 10) : isNam (.str (nameK z k)) = true ∧ (nameK z k).length ≤ 8 ∧ (nameK z k).length ≤ 1000000 := by
  rw [namN7, isNam_str] at h
  simp only [Bool.and_eq_true, decide_eq_true_eq] at h
  obtain ⟨⟨⟨⟨h1, _⟩, h3⟩, h4⟩, h5⟩ := h
  have dg : (Str.ofString (toString (k : Int))).cps.toList.length = 1 ∧ (Str.ofString (toString (k : Int))).cps.toList.all (fun c => chL c || chD c) = true := by
    match k, hk with
    | 0, _ => decide +kernel
    | 1, _ => decide +kernel
    | 2, _ => decide +kernel
    | 3, _ => decide +kernel
    | 4, _ => decide +kernel
    | 5, _ => decide +kernel
    | 6, _ => decide +kernel
    | 7, _ => decide +kernel
    | 8, _ => decide +kernel
    | 9, _ => decide +kernel
  have e := app_cps z (Str.ofString (toString (k : Int)))
  have ll : (nameK z k).length = z.length + 1 := by
    have q : (nameK z k).cps.toList.length = (nameK z k).length := rfl
    have q2 : z.cps.toList.length = z.length := rfl
    rw [← q, ← q2]
    unfold nameK
    rw [e, List.length_append, dg.1]
  have lz : 0 < z.cps.toList.length := h1
  refine ⟨?_, by omega, by omega⟩
  rw [isNam_str, decide_eq_true (show 1 ≤ (nameK z k).length by omega), decide_eq_true (show (nameK z k).length ≤ 8 by omega)]
  have f0 : (nameK z k).cps.toList.getD 0 0 = z.cps.toList.getD 0 0 := by
    unfold nameK
    rw [e, List.getD_eq_getElem?_getD, List.getD_eq_getElem?_getD, List.getElem?_append_left lz]
  have fa : (nameK z k).cps.toList.all (fun c => chL c || chD c) = true := by
    unfold nameK
    rw [e, List.all_append, h4, dg.2]
    rfl
  rw [f0, h3, fa]
  rfl
theorem nam_str {v : V} (h : isNam v = true) : ∃ z, v = .str z := by
  cases v with
  | str z => exact ⟨z, rfl⟩
  | _ => exact Bool.noConfusion h
theorem num_int {v : V} {lo hi : Int} (h : isNum v lo hi = true) : ∃ i, v = .int i ∧ lo ≤ i ∧ i ≤ hi := by
  cases v with
  | int i =>
    have q : (decide (lo ≤ i) && decide (i ≤ hi)) = true := h
    rw [Bool.and_eq_true] at q
    exact ⟨i, rfl, of_decide_eq_true q.1, of_decide_eq_true q.2⟩
  | _ => exact Bool.noConfusion h
theorem same_two {H : Hp} {x dx : Addr} {o o' : HO} (hx : H x = none) (hdx : H dx = none) : Same H (upd (upd H dx o) x o') := same_upd hx (same_new hdx)
theorem app_assoc (a b c : Str) : a ++ b ++ c = a ++ (b ++ c) := by
  show (⟨a.cps ++ b.cps ++ c.cps⟩ : Str) = ⟨a.cps ++ (b.cps ++ c.cps)⟩
  rw [Array.append_assoc]
theorem win_ne_all : (List.range 1000).all (fun w => !decide (winT ((w : Int) + 1) = winT (1 + ((w : Int) + 1) % 1000))) = true := by decide +kernel
theorem win_ne {w : Int} (h0 : 1 ≤ w) (h1 : w ≤ 1000) : decide (winT w = winT (1 + w % 1000)) = false := by
  obtain ⟨n, hn⟩ : ∃ n : Nat, w = (n : Int) + 1 := ⟨(w - 1).toNat, by omega⟩
  have q := List.all_eq_true.mp win_ne_all n (List.mem_range.mpr (by omega))
  rw [hn]
  simpa using q

end k10
namespace k10
open PySem L2 LC RM
abbrev spInvalidName_init (C : Addr) : Sp := LX.spErr C 1 (ivF "InvalidName")
theorem ok_InvalidName_init {P : Program} {w : World} {K : PySem.W.Frag} {mg : Str → Option Value} {base : Heap} {f : Addr} {fd : FuncData} (F0 : Fun K "__init__" "InvalidName.__init__" sInvalidName_init f fd) (T : Txt K mg) {C : Addr} (ox : OexC K C) (n1 : PySem.W.findIn K (.ref C) "value" = some none) (n2 : PySem.W.findIn K (.ref C) "code" = some none) :
    FnOk P w K mg base CX0 1 f fd PInvalidName_init (spInvalidName_init C) := by
  refine F0.ok scInvalidName_init (fun vs H Q E h => ?_) (fun cdv A outer s H vs Q E hr h => ?_)
  · obtain ⟨x, ws, rfl, hw, _⟩ := h
    show ws.length + 1 = 2
    rw [hw]
  · obtain ⟨x, ws, rfl, hw, ha, k⟩ := h
    obtain ⟨u, rfl⟩ : ∃ u, ws = [u] := by
      match ws, hw with
      | [u], _ => exact ⟨u, rfl⟩
    refine ⟨_, (pss_cons (ps_ost (pv 0) (pv 1))
        (pss_one (ps_ost (pv 0) pe_str))), ?_⟩
    refine ⟨_, rfl, _, rfl, x, C, rfl, ox, n1, .inl ⟨ha, fun d hd da => ?_⟩⟩
    refine ⟨_, rfl, x, C, rfl, ox, n2, .inr ⟨d, _, upd_same, by rw [upd_ne da]; exact upd_same, (by show 1 ≤ 900; decide), ?_⟩⟩
    refine k d _ hd (by rw [upd_ne (Ne.symm da)]; exact upd_same) upd_same (fun b o hb e => ?_)
    have nd := ne_of_none e hd
    rw [upd_ne nd, upd_ne hb, upd_ne nd]
    exact e
end k10
namespace k10
open PySem L2 LC RM
abbrev spInvalidNumber_init (C : Addr) : Sp := LX.spErr C 1 (ivF "InvalidNumber")
theorem ok_InvalidNumber_init {P : Program} {w : World} {K : PySem.W.Frag} {mg : Str → Option Value} {base : Heap} {f : Addr} {fd : FuncData} (F0 : Fun K "__init__" "InvalidNumber.__init__" sInvalidNumber_init f fd) (T : Txt K mg) {C : Addr} (ox : OexC K C) (n1 : PySem.W.findIn K (.ref C) "value" = some none) (n2 : PySem.W.findIn K (.ref C) "code" = some none) :
    FnOk P w K mg base CX0 1 f fd PInvalidNumber_init (spInvalidNumber_init C) := by
  refine F0.ok scInvalidNumber_init (fun vs H Q E h => ?_) (fun cdv A outer s H vs Q E hr h => ?_)
  · obtain ⟨x, ws, rfl, hw, _⟩ := h
    show ws.length + 1 = 2
    rw [hw]
  · obtain ⟨x, ws, rfl, hw, ha, k⟩ := h
    obtain ⟨u, rfl⟩ : ∃ u, ws = [u] := by
      match ws, hw with
      | [u], _ => exact ⟨u, rfl⟩
    refine ⟨_, (pss_cons (ps_ost (pv 0) (pv 1))
        (pss_one (ps_ost (pv 0) pe_str))), ?_⟩
    refine ⟨_, rfl, _, rfl, x, C, rfl, ox, n1, .inl ⟨ha, fun d hd da => ?_⟩⟩
    refine ⟨_, rfl, x, C, rfl, ox, n2, .inr ⟨d, _, upd_same, by rw [upd_ne da]; exact upd_same, (by show 1 ≤ 900; decide), ?_⟩⟩
    refine k d _ hd (by rw [upd_ne (Ne.symm da)]; exact upd_same) upd_same (fun b o hb e => ?_)
    have nd := ne_of_none e hd
    rw [upd_ne nd, upd_ne hb, upd_ne nd]
    exact e
end k10
namespace k10
open PySem L2 LC RM
abbrev spInvalidRest_init (C : Addr) : Sp := LX.spErr C 1 (ivF "InvalidRest")
theorem ok_InvalidRest_init {P : Program} {w : World} {K : PySem.W.Frag} {mg : Str → Option Value} {base : Heap} {f : Addr} {fd : FuncData} (F0 : Fun K "__init__" "InvalidRest.__init__" sInvalidRest_init f fd) (T : Txt K mg) {C : Addr} (ox : OexC K C) (n1 : PySem.W.findIn K (.ref C) "value" = some none) (n2 : PySem.W.findIn K (.ref C) "code" = some none) :
    FnOk P w K mg base CX0 1 f fd PInvalidRest_init (spInvalidRest_init C) := by
  refine F0.ok scInvalidRest_init (fun vs H Q E h => ?_) (fun cdv A outer s H vs Q E hr h => ?_)
  · obtain ⟨x, ws, rfl, hw, _⟩ := h
    show ws.length + 1 = 2
    rw [hw]
  · obtain ⟨x, ws, rfl, hw, ha, k⟩ := h
    obtain ⟨u, rfl⟩ : ∃ u, ws = [u] := by
      match ws, hw with
      | [u], _ => exact ⟨u, rfl⟩
    refine ⟨_, (pss_cons (ps_ost (pv 0) (pv 1))
        (pss_one (ps_ost (pv 0) pe_str))), ?_⟩
    refine ⟨_, rfl, _, rfl, x, C, rfl, ox, n1, .inl ⟨ha, fun d hd da => ?_⟩⟩
    refine ⟨_, rfl, x, C, rfl, ox, n2, .inr ⟨d, _, upd_same, by rw [upd_ne da]; exact upd_same, (by show 1 ≤ 900; decide), ?_⟩⟩
    refine k d _ hd (by rw [upd_ne (Ne.symm da)]; exact upd_same) upd_same (fun b o hb e => ?_)
    have nd := ne_of_none e hd
    rw [upd_ne nd, upd_ne hb, upd_ne nd]
    exact e
end k10
namespace k10
open PySem L2 LC RM
def spcheck_count : Sp := fun vs H Q _ => ∃ (z : Str) (c m : Int), vs = [.str z, .int c, .int m] ∧ c ≤ m ∧ Q .non H
theorem ok_check_count {P : Program} {w : World} {K : PySem.W.Frag} {mg : Str → Option Value} {base : Heap} {f : Addr} {fd : FuncData} (D : Def K mg "check_count" scheck_count Pcheck_count f fd) (T : Txt K mg) :
    FnOk P w K mg base CX0 1 f fd Pcheck_count (spcheck_count) := by
  refine D.F.ok sccheck_count (fun vs H Q E h => ?_) (fun cdv A outer s H vs Q E hr h => ?_)
  · obtain ⟨z, c, m, rfl, hc, k⟩ := h
    rfl
  · obtain ⟨z, c, m, rfl, hc, k⟩ := h
    refine ⟨_, (pss_one (ps_if (pt_cmpR op_gt (pv 1) (pv 2) (nomark _)) (pss_one LC.ps_never) pss_nil)), ?_⟩
    exact ⟨_, rfl, _, rfl, _, _, rfl, rfl, _, rfl, ite_d (fun h => absurd h (by omega)) (fun _ => k)⟩
end k10
namespace k10
open PySem L2 LC RM
def isWh : V → Bool
  | .int _ => true
  | _ => false
def spis_whole : Sp := fun vs H Q _ => ∃ (F : Addr → Prop) (n : Nat) (v : V), vs = [v] ∧ Ov F H n v ∧ Q (.bl (isWh v)) H
theorem ok_is_whole {P : Program} {w : World} {K : PySem.W.Frag} {mg : Str → Option Value} {base : Heap} {f : Addr} {fd : FuncData} (D : Def K mg "is_whole" sis_whole Pis_whole f fd) (T : Txt K mg) :
    FnOk P w K mg base CX0 1 f fd Pis_whole (spis_whole) := by
  refine D.F.ok scis_whole (fun vs H Q E h => ?_) (fun cdv A outer s H vs Q E hr h => ?_)
  · obtain ⟨F, n, v, rfl, o, k⟩ := h
    rfl
  · obtain ⟨F, n, v, rfl, o, k⟩ := h
    refine ⟨_, (pss_one (ps_ret (pe_and (pe_callB call_isi (by rfl) T.n_isinstance (by decide +kernel) (pa_cons (pv 0) (pa_cons (pe_ty "int" (by rfl) T.n_int (by decide +kernel)) pa_nil))) (pe_one (pe_not (pe_callB call_isi (by rfl) T.n_isinstance (by decide +kernel) (pa_cons (pv 0) (pa_cons (pe_ty "bool" (by rfl) T.n_bool (by decide +kernel)) pa_nil)))))))), ?_⟩
    obtain ⟨t, ty, ki, kb, _, _⟩ := o.ty (K := K)
    refine ⟨_, rfl, _, _, _, _, _, rfl, .ty _, ty, kit_ty ki, _, rfl, ?_⟩
    cases v with
    | int i => exact iteT ⟨_, rfl, _, _, _, _, _, rfl, .ty _, ty, kit_ty kb, _, rfl, k⟩
    | bl b => exact iteT ⟨_, rfl, _, _, _, _, _, rfl, .ty _, ty, kit_ty kb, _, rfl, k⟩
    | _ => exact iteF k
end k10
namespace k10
open PySem L2 LC RM
def spis_number : Sp := fun vs H Q _ => ∃ (F : Addr → Prop) (n : Nat) (v : V) (lo hi : Int), vs = [v, .int lo, .int hi] ∧ Ov F H n v ∧ Q (.bl (isNum v lo hi)) H
theorem num_in {v lo hi : Int} {H : Hp} {Q : VK} {E : XK} (h1 : lo ≤ v) (h2 : v ≤ hi) (q : Q (.bl true) H) : spis_number [.int v, .int lo, .int hi] H Q E := by
  refine ⟨fun _ => False, 0, _, _, _, rfl, True.intro, ?_⟩
  show Q (.bl (decide (lo ≤ v) && decide (v ≤ hi))) H
  rw [decide_eq_true h1, decide_eq_true h2]
  exact q
theorem ok_is_number {P : Program} {w : World} {K : PySem.W.Frag} {mg : Str → Option Value} {base : Heap} {f : Addr} {fd : FuncData} (D : Def K mg "is_number" sis_number Pis_number f fd) (T : Txt K mg) {fis_whole : Addr} {fdis_whole : FuncData} (Dis_whole : Def K mg "is_whole" sis_whole Pis_whole fis_whole fdis_whole) (Gis_whole : FnOk P w K mg base CX0 1 fis_whole fdis_whole Pis_whole (spis_whole)) :
    FnOk P w K mg base CX0 2 f fd Pis_number (spis_number) := by
  refine D.F.ok scis_number (fun vs H Q E h => ?_) (fun cdv A outer s H vs Q E hr h => ?_)
  · obtain ⟨F, n, v, lo, hi, rfl, o, k⟩ := h
    rfl
  · obtain ⟨F, n, v, lo, hi, rfl, o, k⟩ := h
    have hris_whole : Room 1 _ := hr.mono (by decide)
    refine ⟨_, (pss_one (ps_ret (pe_and (pe_call Gis_whole hris_whole rfl Dis_whole.g Dis_whole.F.kp Dis_whole.b .nil pass0 (pa_cons (pv 0) pa_nil)) (pe_one (pe_chain op_le op_le (pv 1) (pv 0) (pv 2)))))), ?_⟩
    refine ⟨_, rfl, F, n, v, rfl, o, _, rfl, ?_⟩
    cases v with
    | int i =>
      refine iteT ⟨_, rfl, _, rfl, _, _, rfl, rfl, _, rfl, ?_⟩
      have e : isNum (.int i) lo hi = (decide (lo ≤ i) && decide (i ≤ hi)) := rfl
      refine ite_d (fun h1 => ?_) (fun h1 => ?_)
      · refine ⟨_, rfl, _, _, rfl, rfl, ?_⟩
        rw [e, decide_eq_true h1, Bool.true_and] at k
        exact k
      · rw [e, decide_eq_false h1, Bool.false_and] at k
        exact k
    | bl b => exact iteF k
    | _ => exact iteF k
end k10
namespace k10
open PySem L2 LC RM
def spis_name : Sp := fun vs H Q _ => ∃ (F : Addr → Prop) (n : Nat) (v : V), vs = [v] ∧ Ov F H n v ∧ ∀ H', Same H H' → Q (.bl (isNam v)) H'
theorem ok_is_name {P : Program} {w : World} {K : PySem.W.Frag} {mg : Str → Option Value} {base : Heap} {f : Addr} {fd : FuncData} (D : Def K mg "is_name" sis_name Pis_name f fd) (T : Txt K mg) :
    FnOk P w K mg base CX0 1 f fd Pis_name (spis_name) := by
  refine D.F.ok scis_name (fun vs H Q E h => ?_) (fun cdv A outer s H vs Q E hr h => ?_)
  · obtain ⟨F, n, v, rfl, o, k⟩ := h
    rfl
  · obtain ⟨F, n, v, rfl, o, k⟩ := h
    obtain ⟨tc_DIGITS, hc_DIGITS⟩ := T.c_DIGITS
    obtain ⟨tc_LETTERS, hc_LETTERS⟩ := T.c_LETTERS
    refine ⟨_, (pss_cons (ps_if (PW.pt (pw_or (pt_not (pt_val (pe_callB call_isi (by rfl) T.n_isinstance (by decide +kernel) (pa_cons (pv 0) (pa_cons (pe_ty "str" (by rfl) T.n_str (by decide +kernel)) pa_nil))))) (pw_or1 (pt_not (pt_chain op_le op_le pe_int (pe_callB call_len_str (by rfl) T.n_len PySem.boot_len (pa_cons (pv 0) pa_nil)) pe_int))))) (pss_one (ps_ret pe_bl)) pss_nil)
        (pss_one (ps_ret (pe_and (pe_cmpR op_in_sign (pe_ix ix_str (pv 0) pe_int (fun _ _ => rfl)) (pe_gstr rfl hc_LETTERS) (by rfl)) (pe_one (pe_callB (cr_all rfl) (by rfl) T.n_all (by decide +kernel) (pa_cons (pe_lc (own := [("sign", 1)]) (g := gName 1) (tt := tYes) rfl scis_name.nd (pi_str (pv 0)) (blkOk_by (own := [("sign", 1)]) (N := Nmis_name) (sc := defScope sis_name) (by decide +kernel)) (fun _ _ _ _ _ => pg_name (i := 1) scis_name.nd rfl (Or.inl rfl)) (fun _ _ _ _ _ => pts_nil) (fun _ _ _ _ _ => (pe_or (pe_cmpR op_in_sign (pv 1) (pe_gstr rfl hc_LETTERS) (by rfl)) (pe_one (pe_cmpR op_in_sign (pv 1) (pe_gstr rfl hc_DIGITS) (by rfl)))))) pa_nil))))))), ?_⟩
    obtain ⟨t, ty, _, _, ks, _⟩ := o.ty (K := K)
    refine ⟨_, rfl, _, _, _, _, _, rfl, .ty _, ty, kit_ty ks, _, rfl, ?_⟩
    cases v with
    | str z =>
      have hz := o.str
      refine iteF ?_
      refine ⟨_, rfl, _, rfl, sz_str hz, _, _, rfl, rfl, _, rfl, ?_⟩
      refine ite_d (fun h1 => ?_) (fun h1 => ?_)
      · refine ⟨_, _, rfl, rfl, _, rfl, ?_⟩
        refine ite_nd (fun h8 => ?_) (fun h8 => ?_)
        · have q := k H (Same.refl H)
          rw [isNam_str, decide_eq_false (show ¬ z.length ≤ 8 by omega), Bool.and_false, Bool.false_and, Bool.false_and] at q
          exact q
        · have h1' : 1 ≤ z.length := by omega
          obtain ⟨c0, hc0, e0⟩ := len1 h1'
          have e : isNam (.str z) = (chL c0 && z.cps.toList.all (fun c => chL c || chD c)) := by
            rw [isNam_str, decide_eq_true h1', decide_eq_true (show z.length ≤ 8 by omega), e0]
            rfl
          refine ⟨_, rfl, _, _, c0, rfl, rfl, sz_str hz, atI_nat (j := 0) hc0, _, _, rfl, rfl, _, rfl, ?_⟩
          refine ite_is (mem_low c0) (fun eL => ?_) (fun eL => ?_)
          · refine ⟨_, rfl, _, rfl, fun D hD => lc_text (fun c => .bl (chL c || chD c)) hD hz (fun _ => rfl) (fun c H Q hc q => ?_) ?_⟩
            · refine ⟨_, rfl, _, _, rfl, rfl, _, rfl, ?_⟩
              refine ite_is (mem_low c) (fun e1 => ?_) (fun e1 => ?_)
              · rw [e1, Bool.true_or] at q
                exact q
              · refine ⟨_, rfl, _, _, rfl, rfl, ?_⟩
                rw [e1, Bool.false_or] at q
                rw [mem_dig]
                exact q
            · refine ⟨D, z.cps.toList.map fun c => chL c || chD c, rfl, by rw [← bls_map]; exact SqL.of upd_same, ?_⟩
              rw [all_id]
              have q := k _ (same_new (o := .lst (z.cps.toList.map fun c => V.bl (chL c || chD c))) hD)
              rw [e, eL, Bool.true_and] at q
              exact q
          · have q := k H (Same.refl H)
            rw [e, eL, Bool.false_and] at q
            exact q
      · have q := k H (Same.refl H)
        rw [isNam_str, decide_eq_false (show ¬ 1 ≤ z.length by omega), Bool.false_and, Bool.false_and, Bool.false_and] at q
        refine ⟨_, rfl, ite_nb (fun _ => q) fun z => Bool.noConfusion z⟩
    | _ => exact iteT (k H (Same.refl H))
end k10
namespace k10
open PySem L2 LC RM
def spcheck_borders : Sp := fun vs H Q _ => ∃ (p : Addr) (bs : List Int), vs = [.ref p] ∧ H p = some (.lst (bs.map V.int)) ∧ bs.length ≤ 12 ∧ Asc 1 bs ∧ ∀ H', Same H H' → Q .non H'
theorem ok_check_borders {P : Program} {w : World} {K : PySem.W.Frag} {mg : Str → Option Value} {base : Heap} {f : Addr} {fd : FuncData} (D : Def K mg "check_borders" scheck_borders Pcheck_borders f fd) (T : Txt K mg) {fcheck_count : Addr} {fdcheck_count : FuncData} (Dcheck_count : Def K mg "check_count" scheck_count Pcheck_count fcheck_count fdcheck_count) (Gcheck_count : FnOk P w K mg base CX0 1 fcheck_count fdcheck_count Pcheck_count (spcheck_count)) {fis_number : Addr} {fdis_number : FuncData} (Dis_number : Def K mg "is_number" sis_number Pis_number fis_number fdis_number) (Gis_number : FnOk P w K mg base CX0 2 fis_number fdis_number Pis_number (spis_number)) :
    FnOk P w K mg base CX0 3 f fd Pcheck_borders (spcheck_borders) := by
  refine D.F.ok sccheck_borders (fun vs H Q E h => ?_) (fun cdv A outer s H vs Q E hr h => ?_)
  · obtain ⟨p, bs, rfl, hp, hl, ha, k⟩ := h
    rfl
  · obtain ⟨p, bs, rfl, hp, hl, ha, k⟩ := h
    have hrcheck_count : Room 1 _ := hr.mono (by decide)
    have hris_number : Room 2 _ := hr.mono (by decide)
    obtain ⟨tc_MOST_BORDERS, hc_MOST_BORDERS⟩ := T.c_MOST_BORDERS
    obtain ⟨tc_MOST_SIZE, hc_MOST_SIZE⟩ := T.c_MOST_SIZE
    refine ⟨_, (pss_cons (ps_if (pt_not (pt_val (pe_callB call_isiT (by rfl) T.n_isinstance (by decide +kernel) (pa_cons (pv 0) (pa_cons (pe_tup (pa_cons (pe_ty "list" (by rfl) T.n_list (by decide +kernel)) (pa_cons (pe_ty "tuple" (by rfl) T.n_tuple (by decide +kernel)) pa_nil))) pa_nil))))) (pss_one LC.ps_never) pss_nil)
        (pss_cons (ps_expr (pe_call Gcheck_count hrcheck_count rfl Dcheck_count.g Dcheck_count.F.kp Dcheck_count.b .nil pass0 (pa_cons pe_str (pa_cons (pe_callB call_len_seq (by rfl) T.n_len PySem.boot_len (pa_cons (pv 0) pa_nil)) (pa_cons (pe_gint rfl hc_MOST_BORDERS) pa_nil)))))
        (pss_cons (ps_set (i := 1) sccheck_borders.nd rfl (Or.inl rfl) pe_int)
        (pss_one (ps_for PassesOwn.never rfl (pi_enum (by rfl) T.n_enumerate (pa_cons (pv 0) pa_nil)) ((pg_tup rfl (pgs_cons (pg_name (i := 2) sccheck_borders.nd rfl (Or.inl rfl)) (pgs_cons (pg_name (i := 3) sccheck_borders.nd rfl (Or.inl rfl)) pgs_nil))))
          (pss_cons (ps_if (pt_not (pt_val (pe_call Gis_number hris_number rfl Dis_number.g Dis_number.F.kp Dis_number.b .nil pass0 (pa_cons (pv 3) (pa_cons (pv 1) (pa_cons (pe_gint rfl hc_MOST_SIZE) pa_nil)))))) (pss_one LC.ps_never) pss_nil)
        (pss_one (ps_set (i := 1) sccheck_borders.nd rfl (Or.inl rfl) (pe_op op_add (pv 3) pe_int))))))))), ?_⟩
    refine ⟨_, rfl, (by show 2 ≤ sizeLine; decide), fun tp htp => ?_⟩
    have s1 : Same H (upd H tp (.tup [.ty "list", .ty "tuple"])) := same_new htp
    refine ⟨_, tp, _, _, _, true, rfl, upd_same, .cons (.ty _) (.cons (.ty _) .nil), .base (.lst (s1 _ _ hp)), kLT_lst, _, rfl, iteF ?_⟩
    generalize upd H tp (.tup [.ty "list", .ty "tuple"]) = H1 at s1 ⊢
    have hp1 := s1 _ _ hp
    refine ⟨_, rfl, _, _, rfl, .inl (SqL.of hp1), _, _, _, rfl, by rw [List.length_map]; show ((bs.length : Nat) : Int) ≤ 12; omega, ?_⟩
    refine ⟨_, rfl, _, _, rfl, SqL.of hp1, for_it (walk_enum (K := K) (a := p) (xs := bs.map V.int)) (fun i σ H' => ∃ (n : Int) (v1 v2 : Option V), σ = [some (.ref p), some (.int n), v1, v2] ∧ Same H1 H' ∧ 1 ≤ n ∧ Asc n (bs.drop i))
      ⟨1, none, none, rfl, Same.refl _, by decide, ha⟩ (fun i σ H' _ ⟨_, _, _, _, s, _⟩ => s.seq (SqL.of hp1)) ?_ ?_⟩
    · rintro i x σ H2 H3 hi ⟨n, v1, v2, rfl, s2, n1, hA⟩ ⟨T, x1, x2, rfl, hT, rfl, e1, e2⟩
      rw [List.length_map] at hi
      cases e1
      have e2' : (bs.map V.int)[i]? = some x2 := e2
      rw [List.getElem?_map, List.getElem?_eq_getElem hi] at e2'
      cases e2'
      rw [List.drop_eq_getElem_cons hi] at hA
      obtain ⟨a1, a2, a3⟩ := hA
      refine ⟨T, _, rfl, SqT.of upd_same, rfl, _, _, rfl, _, _, rfl, rfl, ?_⟩
      refine ⟨_, rfl, _, rfl, fun _ => False, 0, _, _, _, rfl, True.intro, _, rfl, ite_nb (fun h => absurd (h.symm.trans (num_true a1 a2)) Bool.false_ne_true) (fun _ => ?_)⟩
      exact ⟨_, rfl, _, _, rfl, rfl, _, _, _, rfl, s2.trans (same_new hT), by omega, a3⟩
    · rintro σ H2 ⟨n, v1, v2, rfl, s2, _, _⟩
      exact k _ (s1.trans s2)
end k10
namespace k10
open PySem L2 LC RM
def spRest_init (K : PySem.W.Frag) (a : Ad) : Sp := fun vs H Q _ => ∃ (x C dx : Addr) (fs : List (Str × V)) (t : Str) (f p b : Int), vs = [.ref x, .str t, .int f, .int p, .int b] ∧ H x = some (.ins C dx fs) ∧ RC K a C ∧ fs.length ≤ 10 ∧
  ∀ H', H' x = some (.ins C dx (putF "_bend" (.int b) (putF "_period" (.int p) (putF "_forms" (.int f) (putF "_text" (.str t) fs))))) → (∀ y, y ≠ x → H' y = H y) → Q .non H'
theorem ok_Rest_init {P : Program} {w : World} {K : PySem.W.Frag} {mg : Str → Option Value} {base : Heap} {f : Addr} {fd : FuncData} (F0 : Fun K "__init__" "Rest.__init__" sRest_init f fd) (T : Txt K mg) {a : Ad} (KN : Kn K mg a) :
    FnOk P w K mg base CX0 1 f fd PRest_init (spRest_init K a) := by
  refine F0.ok scRest_init (fun vs H Q E h => ?_) (fun cdv A outer s H vs Q E hr h => ?_)
  · obtain ⟨x, C, dx, fs, t, f, p, b, rfl, hx, rc, hl, k⟩ := h
    rfl
  · obtain ⟨x, C, dx, fs, t, f, p, b, rfl, hx, rc, hl, k⟩ := h
    refine ⟨_, (pss_cons (ps_fld (pv 0) (pv 1) rfl)
        (pss_cons (ps_fld (pv 0) (pv 2) rfl)
        (pss_cons (ps_fld (pv 0) (pv 3) rfl)
        (pss_one (ps_fld (pv 0) (pv 4) rfl))))), ?_⟩
    have l1 := length_putF "_text" (.str t) fs
    have l2 := length_putF "_forms" (.int f) (putF "_text" (.str t) fs)
    have l3 := length_putF "_period" (.int p) (putF "_forms" (.int f) (putF "_text" (.str t) fs))
    refine ⟨_, rfl, _, rfl, x, C, dx, _, rfl, hx, rc.cl, rc.nT, by omega, ?_⟩
    refine ⟨_, rfl, _, rfl, x, C, dx, _, rfl, upd_same, rc.cl, rc.nF, by omega, ?_⟩
    refine ⟨_, rfl, _, rfl, x, C, dx, _, rfl, upd_same, rc.cl, rc.nP, by omega, ?_⟩
    refine ⟨_, rfl, _, rfl, x, C, dx, _, rfl, upd_same, rc.cl, rc.nB, by omega, ?_⟩
    exact k _ upd_same fun y n => by rw [upd_ne n, upd_ne n, upd_ne n, upd_ne n]
end k10
namespace k10
open PySem L2 LC RM
def spRest_bend (K : PySem.W.Frag) (a : Ad) : Sp := fun vs H Q _ => ∃ (x : Addr) (g : Addr → Prop) (p : Pl) (t : Str), vs = [.ref x] ∧ RestX a g H t p x ∧ Q (.int p.bend) H
theorem ok_Rest_bend {P : Program} {w : World} {K : PySem.W.Frag} {mg : Str → Option Value} {base : Heap} {f : Addr} {fd : FuncData} (F0 : Fun K "bend" "Rest.bend" sRest_bend f fd) (T : Txt K mg) {a : Ad} (KN : Kn K mg a) :
    FnOk P w K mg base CX0 1 f fd PRest_bend (spRest_bend K a) := by
  refine F0.ok scRest_bend (fun vs H Q E h => ?_) (fun cdv A outer s H vs Q E hr h => ?_)
  · obtain ⟨x, g, p, t, rfl, R, k⟩ := h
    rfl
  · obtain ⟨x, g, p, t, rfl, R, k⟩ := h
    refine ⟨_, (pss_one (ps_ret (pe_fld (pv 0) rfl))), ?_⟩
    obtain ⟨C, dx, fs, hx, rc, F4, hl, _⟩ := R.view KN
    exact ⟨_, rfl, x, C, dx, fs, _, rfl, hx, rc.cl, rc.nB, F4.vb, k⟩
end k10
namespace k10
open PySem L2 LC RM
def spRest_written (K : PySem.W.Frag) (a : Ad) : Sp := fun vs H Q _ => ∃ (x : Addr) (g : Addr → Prop) (p : Pl) (t : Str), vs = [.ref x] ∧ RestX a g H t p x ∧ Q (.str t) H
theorem ok_Rest_written {P : Program} {w : World} {K : PySem.W.Frag} {mg : Str → Option Value} {base : Heap} {f : Addr} {fd : FuncData} (F0 : Fun K "written" "Rest.written" sRest_written f fd) (T : Txt K mg) {a : Ad} (KN : Kn K mg a) :
    FnOk P w K mg base CX0 1 f fd PRest_written (spRest_written K a) := by
  refine F0.ok scRest_written (fun vs H Q E h => ?_) (fun cdv A outer s H vs Q E hr h => ?_)
  · obtain ⟨x, g, p, t, rfl, R, k⟩ := h
    rfl
  · obtain ⟨x, g, p, t, rfl, R, k⟩ := h
    refine ⟨_, (pss_one (ps_ret (pe_fld (pv 0) rfl))), ?_⟩
    obtain ⟨C, dx, fs, hx, rc, F4, hl, _⟩ := R.view KN
    exact ⟨_, rfl, x, C, dx, fs, _, rfl, hx, rc.cl, rc.nT, F4.vt, k⟩
end k10
namespace k10
open PySem L2 LC RM
def spRest_str (K : PySem.W.Frag) (a : Ad) : Sp := fun vs H Q _ => ∃ (x : Addr) (g : Addr → Prop) (p : Pl) (t : Str), vs = [.ref x] ∧ RestX a g H t p x ∧ Q (.str t) H
theorem ok_Rest_str {P : Program} {w : World} {K : PySem.W.Frag} {mg : Str → Option Value} {base : Heap} {f : Addr} {fd : FuncData} (F0 : Fun K "__str__" "Rest.__str__" sRest_str f fd) (T : Txt K mg) {a : Ad} (KN : Kn K mg a) :
    FnOk P w K mg base CX0 1 f fd PRest_str (spRest_str K a) := by
  refine F0.ok scRest_str (fun vs H Q E h => ?_) (fun cdv A outer s H vs Q E hr h => ?_)
  · obtain ⟨x, g, p, t, rfl, R, k⟩ := h
    rfl
  · obtain ⟨x, g, p, t, rfl, R, k⟩ := h
    refine ⟨_, (pss_one (ps_ret (pe_joined1 (pe_fmt (pe_fld (pv 0) rfl))))), ?_⟩
    obtain ⟨C, dx, fs, hx, rc, F4, hl, _⟩ := R.view KN
    exact ⟨_, rfl, x, C, dx, fs, _, rfl, hx, rc.cl, rc.nT, F4.vt, .inl ⟨_, rfl, Nat.le_trans hl (by decide), k⟩⟩
end k10
namespace k10
open PySem L2 LC RM
def spRest_eq (K : PySem.W.Frag) (a : Ad) : Sp := fun vs H Q _ => ∃ (x y : Addr) (g h : Addr → Prop) (p q : Pl) (t u : Str), vs = [.ref x, .ref y] ∧ RestX a g H t p x ∧ RestX a h H u q y ∧ Q (.bl (decide (t = u))) H
theorem ok_Rest_eq {P : Program} {w : World} {K : PySem.W.Frag} {mg : Str → Option Value} {base : Heap} {f : Addr} {fd : FuncData} (F0 : Fun K "__eq__" "Rest.__eq__" sRest_eq f fd) (T : Txt K mg) {a : Ad} (KN : Kn K mg a) :
    FnOk P w K mg base CX0 1 f fd PRest_eq (spRest_eq K a) := by
  refine F0.ok scRest_eq (fun vs H Q E h => ?_) (fun cdv A outer s H vs Q E hr h => ?_)
  · obtain ⟨x, y, g, h', p, q, t, u, rfl, R, R', k⟩ := h
    rfl
  · obtain ⟨x, y, g, h', p, q, t, u, rfl, R, R', k⟩ := h
    refine ⟨_, (pss_one (ps_ret (pe_and (pe_callB call_isi (by rfl) T.n_isinstance (by decide +kernel) (pa_cons (pv 1) (pa_cons (pe_glob rfl KN.gR (show RelV (.ref a.R) _ from rfl)) pa_nil))) (pe_one (pe_cmpR op_eq (pe_fld (pv 0) rfl) (pe_fld (pv 1) rfl) (nomark _)))))), ?_⟩
    obtain ⟨C, dx, fs, hx, rc, F4, hl, _⟩ := R.view KN
    obtain ⟨C', dy, gs, hy, rc', F4', hl', _⟩ := R'.view KN
    refine ⟨_, rfl, _, _, _, _, _, rfl, .own _, .base (.ins hy rc'.cl rc'.ha rc'.hn rc'.htk rc'.hm), rc'.me, _, rfl, iteT ?_⟩
    refine ⟨_, rfl, x, C, dx, fs, _, rfl, hx, rc.cl, rc.nT, F4.vt, _, rfl, y, C', dy, gs, _, rfl, hy, rc'.cl, rc'.nT, F4'.vt, rfl, ?_⟩
    rw [decide_eq_decide.mpr (show V.str t = V.str u ↔ t = u from ⟨fun z => by cases z; rfl, fun z => by rw [z]⟩)]
    exact k
end k10
namespace k10
open PySem L2 LC RM
def spWindow_init (K : PySem.W.Frag) (a : Ad) : Sp := fun vs H Q _ => ∃ (x dx : Addr) (g : Addr → Prop) (w : Int) (Hb : Hp), vs = [.ref x, .int w] ∧ H x = some (.ins a.W dx []) ∧ Hb x = none ∧ ¬ g x ∧ Same Hb H ∧ 1 ≤ w ∧ w ≤ 1000 ∧ ∀ H', Same Hb H' → RestX a g H' (winT w) (.win w) x → Q .non H'
theorem ok_Window_init {P : Program} {w : World} {K : PySem.W.Frag} {mg : Str → Option Value} {base : Heap} {f cc c : Addr} (T : Txt K mg) {a : Ad} (KN : Kn K mg a) (RI : FnR P w K mg base CX0 1 a.fRi (spRest_init K a)) {fis_number : Addr} {fdis_number : FuncData} (Dis_number : Def K mg "is_number" sis_number Pis_number fis_number fdis_number) (Gis_number : FnOk P w K mg base CX0 2 fis_number fdis_number Pis_number (spis_number)) {doc pm ct oc : Value} {od : Option Addr} {osl : Array (Option Value)} (U : LS.SupF P K (FWindow_init cc c) f a.W a.fRi "__init__") (lf : K.lookup f = some ⟨oc, od, .func ((FWindow_init cc c).fd doc pm ct), osl⟩) :
    FnOk P w K mg base CX0 3 f ((FWindow_init cc c).fd doc pm ct) PWindow_init (spWindow_init K a) := by
  refine LS.fnS_of scWindow_init U lf (fun vs H Q E h => ?_) (fun A outer s H vs Q E hr h => ?_)
  · obtain ⟨x, dx, g, w, Hb, rfl, hx, hb, xg, sb, w0, w1, k⟩ := h
    rfl
  · obtain ⟨x, dx, g, w, Hb, rfl, hx, hb, xg, sb, w0, w1, k⟩ := h
    have hris_number : Room 2 _ := hr.mono (by decide)
    obtain ⟨tc_MOST_SIZE, hc_MOST_SIZE⟩ := T.c_MOST_SIZE
    have hrS : Room 1 _ := hr.mono (by decide)
    refine ⟨_, (LS.pssa_cons (LS.psa (ps_if (pt_not (pt_val (pe_call Gis_number hris_number rfl Dis_number.g Dis_number.F.kp Dis_number.b .nil pass0 (pa_cons (pv 1) (pa_cons pe_int (pa_cons (pe_gint rfl hc_MOST_SIZE) pa_nil)))))) (pss_one LC.ps_never) pss_nil))
        (LS.pssa_cons (LS.ps_sup U ⟨rfl, rfl, rfl, rfl⟩ T.n_super RI hrS (pa_cons (pe_joined (.cons pe_str (.cons (pe_fmt (pv 1)) .nil))) (pa_cons pe_int (pa_cons pe_int (pa_cons pe_int pa_nil)))) ⟨_, rfl, rfl⟩)
        (LS.pssa (pss_one (ps_fld (pv 0) (pv 1) rfl))))), ?_⟩
    have e1 : ("window " : Str).length = 7 := by decide +kernel
    have e0 : Str.empty.length = 0 := rfl
    have sz : sizeLine = 16777216 := rfl
    have il := int_len (i := w) (by omega) (by omega)
    refine ⟨_, rfl, fun _ => False, 0, _, _, _, rfl, True.intro, _, rfl, ite_nb (fun h => absurd (h.symm.trans (num_true w0 w1)) Bool.false_ne_true) (fun _ => ?_)⟩
    refine ⟨x, dx, [], rfl, hx, fun q hq => ?_⟩
    have nx : x ≠ q := ne_of_none hx hq
    refine ⟨_, rfl, by rw [Str.length_append]; omega, _, rfl, .inr ⟨_, rfl, log_small (by omega) (by omega), _, rfl, by rw [Str.length_append, Str.length_append]; omega, ?_⟩⟩
    refine ⟨upd_same, x, _, dx, [], _, 1, 1, 0, rfl, by rw [upd_ne nx]; exact hx, KN.w, Nat.zero_le _, fun H1 h1 h2 => ?_⟩
    have l1 := four_len (Str.empty ++ "window " ++ Str.ofString (toString w)) (.win w) []
    refine ⟨_, rfl, _, rfl, x, a.W, dx, _, rfl, h1, KN.w.cl, KN.nw, Nat.lt_of_le_of_lt l1 (by decide), ?_⟩
    refine k _ (same_upd hb (same_mk hb sb hq h2)) ⟨xg, dx, upd_same, ?_, rfl⟩
    show (Str.empty ++ "window " ++ Str.ofString (toString w)).length ≤ 40000
    rw [Str.length_append, Str.length_append]
    omega
end k10
namespace k10
open PySem L2 LC RM
def spDays_init (K : PySem.W.Frag) (a : Ad) : Sp := fun vs H Q _ => ∃ (x dx : Addr) (g : Addr → Prop) (b : Addr) (bs : List Int) (e : Int) (Hb : Hp), vs = [.ref x, .ref b, .int e] ∧ H x = some (.ins a.D dx []) ∧ Hb x = none ∧ ¬ g x ∧ Same Hb H ∧ (∀ c, g c → ∃ o, Hb c = some o) ∧ Hb b = some (.lst (bs.map V.int)) ∧ bs.length ≤ 12 ∧ Asc 1 bs ∧ 1 ≤ e ∧ e ≤ 2000 ∧ ∀ (t : Str) H', Same Hb H' → RestX a g H' t (.days bs e) x → Q .non H'
theorem ok_Days_init {P : Program} {w : World} {K : PySem.W.Frag} {mg : Str → Option Value} {base : Heap} {f cc c : Addr} (T : Txt K mg) {a : Ad} (KN : Kn K mg a) (RI : FnR P w K mg base CX0 1 a.fRi (spRest_init K a)) {fis_number : Addr} {fdis_number : FuncData} (Dis_number : Def K mg "is_number" sis_number Pis_number fis_number fdis_number) (Gis_number : FnOk P w K mg base CX0 2 fis_number fdis_number Pis_number (spis_number)) {fcheck_borders : Addr} {fdcheck_borders : FuncData} (Dcheck_borders : Def K mg "check_borders" scheck_borders Pcheck_borders fcheck_borders fdcheck_borders) (Gcheck_borders : FnOk P w K mg base CX0 3 fcheck_borders fdcheck_borders Pcheck_borders (spcheck_borders)) {doc pm ct oc : Value} {od : Option Addr} {osl : Array (Option Value)} (U : LS.SupF P K (FDays_init cc c) f a.D a.fRi "__init__") (lf : K.lookup f = some ⟨oc, od, .func ((FDays_init cc c).fd doc pm ct), osl⟩) :
    FnOk P w K mg base CX0 4 f ((FDays_init cc c).fd doc pm ct) PDays_init (spDays_init K a) := by
  refine LS.fnS_of scDays_init U lf (fun vs H Q E h => ?_) (fun A outer s H vs Q E hr h => ?_)
  · obtain ⟨x, dx, g, b, bs, e, Hb, rfl, hx, hb, xg, sb, hg, hbb, hl, hA, e0, e1, k⟩ := h
    rfl
  · obtain ⟨x, dx, g, b, bs, e, Hb, rfl, hx, hb, xg, sb, hg, hbb, hl, hA, e0, e1, k⟩ := h
    have hris_number : Room 2 _ := hr.mono (by decide)
    have hrcheck_borders : Room 3 _ := hr.mono (by decide)
    obtain ⟨tc_MOST_PERIOD, hc_MOST_PERIOD⟩ := T.c_MOST_PERIOD
    have hrS : Room 1 _ := hr.mono (by decide)
    refine ⟨_, (LS.pssa_cons (LS.psa (ps_expr (pe_call Gcheck_borders hrcheck_borders rfl Dcheck_borders.g Dcheck_borders.F.kp Dcheck_borders.b .nil pass0 (pa_cons (pv 1) pa_nil))))
        (LS.pssa_cons (LS.psa (ps_if (pt_not (pt_val (pe_call Gis_number hris_number rfl Dis_number.g Dis_number.F.kp Dis_number.b .nil pass0 (pa_cons (pv 2) (pa_cons pe_int (pa_cons (pe_gint rfl hc_MOST_PERIOD) pa_nil)))))) (pss_one LC.ps_never) pss_nil))
        (LS.pssa_cons (LS.psa (ps_fld (pv 0) (pe_callTy call_list_of (by rfl) T.n_list (by decide +kernel) (pa_cons (pv 1) pa_nil)) rfl))
        (LS.pssa_cons (LS.psa (ps_fld (pv 0) (pv 2) rfl))
        (LS.pssa_cons (LS.psa (ps_set (i := 4) scDays_init.nd rfl (Or.inl rfl) (pe_op op_cat (pe_op op_cat (pe_lst (pa_cons pe_str pa_nil)) (pe_lc (own := [("border", 5)]) (g := gName 5) (tt := tYes) rfl scDays_init.nd (pi_list (pv 1)) (blkOk_by (own := [("border", 5)]) (N := NmDays_init) (sc := defScope sDays_init) (by decide +kernel)) (fun _ _ _ _ _ => pg_name (i := 5) scDays_init.nd rfl (Or.inl rfl)) (fun _ _ _ _ _ => pts_nil) (fun _ _ _ _ _ => (pe_callTy call_str_int (by rfl) T.n_str (by decide +kernel) (pa_cons (pv 5) pa_nil))))) (pe_lst (pa_cons pe_str (pa_cons (pe_callTy call_str_int (by rfl) T.n_str (by decide +kernel) (pa_cons (pv 2) pa_nil)) pa_nil))))))
        (LS.pssa_cons (LS.ps_sup U ⟨rfl, rfl, rfl, rfl⟩ T.n_super RI hrS (pa_cons (pe_join pe_str (pv 4)) (pa_cons pe_int (pa_cons (pv 2) (pa_cons (pe_callB (cr_max rfl) (by rfl) T.n_max (by decide +kernel) (pa_cons (pe_op op_cat (pe_lst (pa_cons pe_int pa_nil)) (pe_fld (pv 0) rfl)) pa_nil)) pa_nil)))) ⟨_, rfl, rfl⟩)
        (LS.pssa pss_nil))))))), ?_⟩
    refine ⟨_, rfl, b, bs, rfl, sb _ _ hbb, hl, hA, fun H1 s1 => ?_⟩
    have hx1 := s1 _ _ hx
    have b1 := s1 _ _ (sb _ _ hbb)
    refine ⟨_, rfl, fun _ => False, 0, _, _, _, rfl, True.intro, _, rfl, ite_nb (fun h => absurd (h.symm.trans (num_true e0 e1)) Bool.false_ne_true) (fun _ => ?_)⟩
    refine ⟨_, rfl, b, _, rfl, .inl (SqL.of b1), fun l hl1 => ?_⟩
    have xl : x ≠ l := ne_of_none hx1 hl1
    refine ⟨_, rfl, x, a.D, dx, [], rfl, by rw [upd_ne xl]; exact hx1, KN.d.cl, KN.nb, (by show 0 < 1000; decide), ?_⟩
    refine ⟨_, rfl, _, rfl, x, a.D, dx, _, rfl, upd_same, KN.d.cl, KN.ne, (by show 1 < 1000; decide), ?_⟩
    have sH1 : Same Hb H1 := sb.trans s1
    have xb : b ≠ x := ne_of_none hbb hb
    have s3 : Same Hb (upd (upd (upd H1 l (.lst (bs.map V.int))) x (.ins a.D dx (putF "_borders" (.ref l) []))) x (.ins a.D dx (putF "every" (.int e) (putF "_borders" (.ref l) [])))) := same_upd hb (same_upd hb (sH1.trans (same_new hl1)))
    have hl3 : (upd (upd (upd H1 l (.lst (bs.map V.int))) x (.ins a.D dx (putF "_borders" (.ref l) []))) x (.ins a.D dx (putF "every" (.int e) (putF "_borders" (.ref l) [])))) l = some (.lst (bs.map V.int)) := by rw [upd_ne (Ne.symm xl), upd_ne (Ne.symm xl), upd_same]
    have hx3 : (upd (upd (upd H1 l (.lst (bs.map V.int))) x (.ins a.D dx (putF "_borders" (.ref l) []))) x (.ins a.D dx (putF "every" (.int e) (putF "_borders" (.ref l) [])))) x = some (.ins a.D dx (putF "every" (.int e) (putF "_borders" (.ref l) []))) := upd_same
    have lg : ¬ g l := fun z => by
      obtain ⟨og, q⟩ := hg l z
      rw [sH1 _ _ q] at hl1
      cases hl1
    generalize upd (upd (upd H1 l (.lst (bs.map V.int))) x (.ins a.D dx (putF "_borders" (.ref l) []))) x (.ins a.D dx (putF "every" (.int e) (putF "_borders" (.ref l) []))) = H3 at s3 hl3 hx3 ⊢
    have b3 := s3 _ _ hbb
    -- words
    refine ⟨(by show 1 ≤ sizeLine; decide), fun p1 hp1 => ?_⟩
    have t1 := same_new (o := .lst [.str "days"]) hp1
    have p1e : upd H3 p1 (.lst [.str "days"]) p1 = some (.lst [.str "days"]) := upd_same
    generalize upd H3 p1 (.lst [.str "days"]) = H4 at t1 p1e ⊢
    have b4 := t1 _ _ b3
    refine ⟨_, rfl, b, rfl, ⟨_, SqL.of b4⟩, fun D hD => lc_it (walk_list (K := K) (a := b) (xs := bs.map V.int)) (fun i H' => Same H4 H' ∧ H' D = some (.lst ((bs.take i).map fun c => V.str (Str.ofString (toString c)))))
      ⟨same_new hD, upd_same⟩ (fun i H' _ ⟨s, _⟩ => s.seq (SqL.of b4)) ?_ ?_⟩
    · rintro i y H5 H5' hi ⟨s5, d5⟩ ⟨rfl, hy⟩
      rw [List.length_map] at hi
      rw [List.getElem?_map, List.getElem?_eq_getElem hi] at hy
      cases hy
      have bd := hA.all _ (List.getElem_mem hi)
      refine ⟨rfl, _, rfl, _, rfl, log_small (by omega) (by omega), _, d5, ?_, ?_, ?_⟩
      · rw [List.length_map, List.length_take]
        exact Nat.lt_of_le_of_lt (Nat.min_le_left _ _) (Nat.lt_of_lt_of_le hi (Nat.le_trans hl (by decide)))
      · intro c u ec
        rw [upd_ne (ne_of_none ec hD)]
        exact s5 c u ec
      · rw [upd_same, List.take_add_one, List.getElem?_eq_getElem hi, List.map_append]
        rfl
    · rintro H5 ⟨s5, d5⟩
      rw [List.length_map, List.take_length] at d5
      have p15 := s5 _ _ p1e
      refine ⟨p1, D, _, _, rfl, rfl, p15, d5, ?_, fun p2 hp2 => ?_⟩
      · rw [List.length_map]
        show 1 + bs.length ≤ 16777216
        omega
      have t2 := same_new (o := .lst ([.str "days"] ++ bs.map fun c => V.str (Str.ofString (toString c)))) hp2
      have p2e : upd H5 p2 (.lst ([.str "days"] ++ bs.map fun c => V.str (Str.ofString (toString c)))) p2 = some (.lst ([.str "days"] ++ bs.map fun c => V.str (Str.ofString (toString c)))) := upd_same
      generalize upd H5 p2 (.lst ([.str "days"] ++ bs.map fun c => V.str (Str.ofString (toString c)))) = H6 at t2 p2e ⊢
      refine ⟨_, rfl, _, rfl, log_small (by omega) (by omega), (by show 2 ≤ sizeLine; decide), fun p3 hp3 => ?_⟩
      have t3 := same_new (o := .lst [.str "then", .str (Str.ofString (toString e))]) hp3
      have p3e : upd H6 p3 (.lst [.str "then", .str (Str.ofString (toString e))]) p3 = some (.lst [.str "then", .str (Str.ofString (toString e))]) := upd_same
      generalize upd H6 p3 (.lst [.str "then", .str (Str.ofString (toString e))]) = H7 at t3 p3e ⊢
      refine ⟨p2, p3, _, _, rfl, rfl, t3 _ _ p2e, p3e, ?_, fun p4 hp4 => ?_⟩
      · rw [List.length_append, List.length_map]
        show 1 + bs.length + 2 ≤ 16777216
        omega
      have ey : ([V.str "days"] ++ bs.map fun c => V.str (Str.ofString (toString c))) ++ [V.str "then", V.str (Str.ofString (toString e))] = (("days" : Str) :: (bs.map fun c => Str.ofString (toString c)) ++ [("then" : Str), Str.ofString (toString e)]).map V.str := by
        rw [List.map_append, List.map_cons, List.map_map]
        rfl
      rw [ey]
      have yb : ∀ y ∈ (("days" : Str) :: (bs.map fun c => Str.ofString (toString c)) ++ [("then" : Str), Str.ofString (toString e)]), y.length ≤ 1921 := by
        intro y hy
        simp only [List.cons_append, List.mem_cons, List.mem_append, List.mem_map, List.not_mem_nil, or_false] at hy
        rcases hy with rfl | ⟨c, hc, rfl⟩ | rfl | rfl
        · decide +kernel
        · have bd := hA.all _ hc
          exact int_len (by omega) (by omega)
        · decide +kernel
        · exact int_len (by omega) (by omega)
      have yl : (("days" : Str) :: (bs.map fun c => Str.ofString (toString c)) ++ [("then" : Str), Str.ofString (toString e)]).length = bs.length + 3 := by
        rw [List.length_append, List.length_cons, List.length_map]
        rfl
      generalize (("days" : Str) :: (bs.map fun c => Str.ofString (toString c)) ++ [("then" : Str), Str.ofString (toString e)]) = ys at yb yl ⊢
      have t4 := same_new (o := .lst (ys.map V.str)) hp4
      have p4e : upd H7 p4 (.lst (ys.map V.str)) p4 = some (.lst (ys.map V.str)) := upd_same
      generalize upd H7 p4 (.lst (ys.map V.str)) = H8 at t4 p4e ⊢
      have t38 : Same H3 H8 := t1.trans (s5.trans (t2.trans (t3.trans t4)))
      have el1 : (" " : Str).length = 1 := by decide +kernel
      refine ⟨x, dx, _, rfl, t38 _ _ hx3, fun q hq => ?_⟩
      have tq := same_new (o := .met a.fRi x) hq
      have nq : upd H8 q (.met a.fRi x) q = some (.met a.fRi x) := upd_same
      refine ⟨⟨_, rfl⟩, _, rfl, _, p4, ys, rfl, rfl, .inl (SqL.of (tq _ _ p4e)), ?_, ?_⟩
      · have := sum_le yb
        rw [el1]
        omega
      refine ⟨_, rfl, (by show 1 ≤ sizeLine; decide), fun p5 hp5 => ?_⟩
      have t5 := same_new (o := .lst [V.int 0]) hp5
      have p5e : upd (upd H8 q (.met a.fRi x)) p5 (.lst [V.int 0]) p5 = some (.lst [V.int 0]) := upd_same
      have tA := tq.trans t5
      have nq5 := t5 _ _ nq
      generalize upd (upd H8 q (.met a.fRi x)) p5 (.lst [V.int 0]) = H10 at tA p5e nq5 ⊢
      have hx10 := tA _ _ (t38 _ _ hx3)
      have hl10 := tA _ _ (t38 _ _ hl3)
      have lkb : (putF "every" (.int e) (putF "_borders" (.ref l) [])).lookup ("_borders" : Str) = some (.ref l) := by rw [lk_ne (by decide +kernel)]; exact lk_eq
      refine ⟨_, rfl, x, a.D, dx, _, _, rfl, hx10, KN.d.cl, KN.nb, lkb, p5, l, _, _, rfl, rfl, p5e, hl10, ?_, fun p6 hp6 => ?_⟩
      · rw [List.length_map]
        show 1 + bs.length ≤ 16777216
        omega
      have t6 := same_new (o := .lst ([V.int 0] ++ bs.map V.int)) hp6
      have p6e : upd H10 p6 (.lst ([V.int 0] ++ bs.map V.int)) p6 = some (.lst ((0 :: bs).map V.int)) := upd_same
      generalize upd H10 p6 (.lst ([V.int 0] ++ bs.map V.int)) = H11 at t6 p6e ⊢
      refine ⟨p6, 0 :: bs, rfl, SqL.of p6e, Nat.succ_pos _, fun m hm hu => ?_⟩
      have em : m = lastOf bs := hA.max hm hu
      refine ⟨t6 _ _ nq5, x, a.D, dx, _, _, 1, e, m, rfl, t6 _ _ hx10, KN.d, (by show 2 ≤ 10; decide), fun H12 h12 h12' => ?_⟩
      have sF : Same Hb H11 := s3.trans (t38.trans (tA.trans t6))
      have sG : Same Hb H12 := fun c u ec => by
        rw [h12' c (ne_of_none ec hb)]
        exact sF c u ec
      have hl12 : H12 l = some (.lst (bs.map V.int)) := by
        rw [h12' l (Ne.symm xl)]
        exact t6 _ _ hl10
      refine k (Txt.join " " ys) H12 sG ⟨xg, dx, l, ?_, ?_, lg, hl12⟩
      · rw [h12, em]
        rfl
      · rw [TL.join_eq]
        have := join_le " " yb
        rw [el1] at this
        show _ ≤ 40000
        have e22 : ys.length * (1921 + 1) ≤ 15 * 1922 := Nat.mul_le_mul_right _ (by omega)
        omega
end k10
namespace k10
open PySem L2 LC RM
def spWindow_call (K : PySem.W.Frag) (a : Ad) : Sp := fun vs H Q _ => ∃ (x : Addr) (g : Addr → Prop) (w t : Int) (z : Str), vs = [.ref x, .int t] ∧ RestX a g H z (.win w) x ∧ Q (.int ((Pl.win w).at t)) H
theorem ok_Window_call {P : Program} {w : World} {K : PySem.W.Frag} {mg : Str → Option Value} {base : Heap} {f : Addr} {fd : FuncData} (F0 : Fun K "__call__" "Window.__call__" sWindow_call f fd) (T : Txt K mg) {a : Ad} (KN : Kn K mg a) :
    FnOk P w K mg base CX0 1 f fd PWindow_call (spWindow_call K a) := by
  refine F0.ok scWindow_call (fun vs H Q E h => ?_) (fun cdv A outer s H vs Q E hr h => ?_)
  · obtain ⟨x, g, w, t, z, rfl, R, k⟩ := h
    rfl
  · obtain ⟨x, g, w, t, z, rfl, R, k⟩ := h
    refine ⟨_, (pss_one (ps_ret (pe_op op_add (pv 1) (pe_fld (pv 0) rfl)))), ?_⟩
    obtain ⟨n, dx, hx, _⟩ := R
    exact ⟨_, rfl, _, rfl, x, a.W, dx, _, _, rfl, hx, KN.w.cl, KN.nw, lk_width, _, _, rfl, rfl, k⟩
end k10
namespace k10
open PySem L2 LC RM
def spDays_call (K : PySem.W.Frag) (a : Ad) : Sp := fun vs H Q _ => ∃ (x : Addr) (g : Addr → Prop) (bs : List Int) (e t : Int) (zt : Str), vs = [.ref x, .int t] ∧ RestX a g H zt (.days bs e) x ∧ 1 ≤ e ∧ e ≤ 2000 ∧ Q (.int ((Pl.days bs e).at t)) H
theorem ok_Days_call {P : Program} {w : World} {K : PySem.W.Frag} {mg : Str → Option Value} {base : Heap} {f : Addr} {fd : FuncData} (F0 : Fun K "__call__" "Days.__call__" sDays_call f fd) (T : Txt K mg) {a : Ad} (KN : Kn K mg a) (RB : FnR P w K mg base CX0 1 a.fB (spRest_bend K a)) :
    FnOk P w K mg base CX0 2 f fd PDays_call (spDays_call K a) := by
  refine F0.ok scDays_call (fun vs H Q E h => ?_) (fun cdv A outer s H vs Q E hr h => ?_)
  · obtain ⟨x, g, bs, e, t, zt, rfl, R, e0, e2, k⟩ := h
    rfl
  · obtain ⟨x, g, bs, e, t, zt, rfl, R, e0, e2, k⟩ := h
    have hrM : Room 1 _ := hr.mono (by decide)
    refine ⟨_, (pss_cons (ps_for PassesOwn.never rfl (pi_list (pe_fld (pv 0) rfl)) (pg_name (i := 2) scDays_call.nd rfl (Or.inl rfl))
          (pss_one (ps_if (pt_cmpR op_gt (pv 2) (pv 1) (nomark _)) (pss_one (ps_ret (pv 2))) pss_nil)))
        (pss_cons (ps_set (i := 3) scDays_call.nd rfl (Or.inl rfl) (LS.pe_methD0 (pv 0) KN.kB RB hrM))
        (pss_one (ps_ret (pe_op op_add (pv 3) (pe_op op_mul (pe_op op_add (pe_op op_fdivN (pe_op op_sub (pv 1) (pv 3)) (pe_fld (pv 0) rfl)) pe_int) (pe_fld (pv 0) rfl))))))), ?_⟩
    obtain ⟨n, dx, b, hx, hz, nb, hb⟩ := id R
    refine ⟨_, rfl, x, a.D, dx, _, _, rfl, hx, KN.d.cl, KN.nb, lk_borders, b, rfl, ⟨_, SqL.of hb⟩, for_list (K := K) (a := b) (xs := bs.map V.int) (fun i σ H' => ∃ v : Option V, σ = [some (.ref x), some (.int t), v, none] ∧ H' = H ∧ bs.find? (fun c => decide (c > t)) = (bs.drop i).find? (fun c => decide (c > t)))
      ⟨none, rfl, rfl, rfl⟩ (fun i σ H' _ ⟨_, _, e, _⟩ => by rw [e]; exact SqL.of hb) ?_ ?_⟩
    · rintro i y σ H' hi ⟨v, rfl, rfl, hf⟩
      rw [List.getElem?_map] at hi
      obtain ⟨c, hc, rfl⟩ : ∃ c, bs[i]? = some c ∧ V.int c = y := by
        cases q : bs[i]? with
        | none => rw [q] at hi; cases hi
        | some c => rw [q] at hi; exact ⟨c, rfl, Option.some.inj hi⟩
      obtain ⟨hlt, rfl⟩ := List.getElem?_eq_some_iff.mp hc
      rw [List.drop_eq_getElem_cons hlt, List.find?_cons] at hf
      refine ⟨_, rfl, _, rfl, _, _, rfl, rfl, _, rfl, ite_d (fun h1 => ?_) (fun h1 => ?_)⟩
      · rw [decide_eq_true (show bs[i] > t from h1)] at hf
        refine ⟨_, rfl, ?_⟩
        have e1 : (Pl.days bs e).at t = bs[i] := dayAt_some hf
        rw [← e1]
        exact k
      · rw [decide_eq_false (show ¬ bs[i] > t from h1)] at hf
        exact ⟨_, rfl, rfl, hf⟩
    · rintro σ H' ⟨v, rfl, rfl, hf⟩
      rw [List.length_map, List.drop_length] at hf
      have e1 : (Pl.days bs e).at t = lastOf bs + ((t - lastOf bs) / e + 1) * e := dayAt_none hf
      have ed : (t - lastOf bs).fdiv e = (t - lastOf bs) / e := Int.fdiv_eq_ediv_of_nonneg _ (by omega)
      refine ⟨_, rfl, x, a.D, dx, _, rfl, hx, KN.d.cl, KN.d.mB, four_day.mb, x, g, .days bs e, zt, rfl, R, ?_⟩
      refine ⟨_, rfl, _, rfl, _, rfl, _, _, rfl, rfl, _, rfl, x, a.D, dx, _, _, rfl, hx, KN.d.cl, KN.ne, lk_every, _, _, rfl, rfl, ⟨by omega, by omega⟩, _, _, rfl, rfl, _, rfl, x, a.D, dx, _, _, rfl, hx, KN.d.cl, KN.ne, lk_every, _, _, rfl, rfl, .inr ⟨by omega, by omega⟩, _, _, rfl, rfl, ?_⟩
      show Q (.int (lastOf bs + ((t - lastOf bs).fdiv e + 1) * e)) _
      rw [ed, ← e1]
      exact k
end k10
namespace k10
open PySem L2 LC RM
def spRule_init (a : Ad) (r : Ar) (CN CU CR : Addr) : Sp := fun vs H Q E => ∃ (x dx : Addr) (F : Addr → Prop) (n : Nat) (v c y : V) (Hb : Hp), vs = [.ref x, v, c, y] ∧ H x = some (.ins r.c dx []) ∧ Hb x = none ∧ Same Hb H ∧ Ov F Hb n v ∧ Ov F Hb n c ∧ (Ov F Hb n y ∨ ∃ (u : Addr) (t : Str) (p : Pl), y = .ref u ∧ RestX a F Hb t p u) ∧
  (isNam v = false → LX.ErrOut Hb E CN (ivF "InvalidName" [v])) ∧ (isNam v = true → isNum c 1 1000 = false → LX.ErrOut Hb E CU (ivF "InvalidNumber" [c])) ∧ (isNam v = true → isNum c 1 1000 = true → Ov F Hb n y → LX.ErrOut Hb E CR (ivF "InvalidRest" [y])) ∧
  ∀ (nm : Str) (ch : Int) (u : Addr) (t : Str) (p : Pl) H', v = .str nm → c = .int ch → y = .ref u → RestX a F Hb t p u → isNam v = true → isNum c 1 1000 = true → Same Hb H' → RuleAt r H' x nm ch u → Q .non H'
theorem ok_Rule_init {P : Program} {w : World} {K : PySem.W.Frag} {mg : Str → Option Value} {base : Heap} {f : Addr} {fd : FuncData} (F0 : Fun K "__init__" "Rule.__init__" sRule_init f fd) (T : Txt K mg) {a : Ad} (KN : Kn K mg a) {r : Ar} (KR : Kr K mg r) {fdInvalidName : FuncData} {fInvalidName CInvalidName : Addr} (RInvalidName : RE P w K mg base "InvalidName" CInvalidName fInvalidName fdInvalidName) {fdInvalidNumber : FuncData} {fInvalidNumber CInvalidNumber : Addr} (RInvalidNumber : RE P w K mg base "InvalidNumber" CInvalidNumber fInvalidNumber fdInvalidNumber) {fdInvalidRest : FuncData} {fInvalidRest CInvalidRest : Addr} (RInvalidRest : RE P w K mg base "InvalidRest" CInvalidRest fInvalidRest fdInvalidRest) {fis_number : Addr} {fdis_number : FuncData} (Dis_number : Def K mg "is_number" sis_number Pis_number fis_number fdis_number) (Gis_number : FnOk P w K mg base CX0 2 fis_number fdis_number Pis_number (spis_number)) {fis_name : Addr} {fdis_name : FuncData} (Dis_name : Def K mg "is_name" sis_name Pis_name fis_name fdis_name) (Gis_name : FnOk P w K mg base CX0 1 fis_name fdis_name Pis_name (spis_name)) :
    FnOk P w K mg base (L2.CX P w) 3 f fd PRule_init (spRule_init a r CInvalidName CInvalidNumber CInvalidRest) := by
  refine F0.okX scRule_init (fun vs H Q E h => ?_) (fun cdv A outer s H vs Q E hr h => ?_)
  · obtain ⟨x, dx, F, n, v, c, y, Hb, rfl, hx, hb, sb, ov, oc, oy, kn, ku, kr, k⟩ := h
    rfl
  · obtain ⟨x, dx, F, n, v, c, y, Hb, rfl, hx, hb, sb, ov, oc, oy, kn, ku, kr, k⟩ := h
    have hris_number : Room 2 _ := hr.mono (by decide)
    have hris_name : Room 1 _ := hr.mono (by decide)
    obtain ⟨tc_MOST_SIZE, hc_MOST_SIZE⟩ := T.c_MOST_SIZE
    have hrE : Room 2 _ := hr.mono (by decide)
    refine ⟨_, (pss_cons (ps_if (pt_not (pt_val (pe_call Gis_name hris_name rfl Dis_name.g Dis_name.F.kp Dis_name.b .nil pass0 (pa_cons (pv 1) pa_nil)))) (pss_one (ps_raise rfl (takes_of rfl rfl rfl rfl) (pmk_oex RInvalidName.er.ox RInvalidName.er.iC RInvalidName.er.tI RInvalidName.G hrE RInvalidName.b .nil pass0 rfl RInvalidName.er.gC (pa_cons (pv 1) pa_nil)))) pss_nil)
        (pss_cons (ps_if (pt_not (pt_val (pe_call Gis_number hris_number rfl Dis_number.g Dis_number.F.kp Dis_number.b .nil pass0 (pa_cons (pv 2) (pa_cons pe_int (pa_cons (pe_gint rfl hc_MOST_SIZE) pa_nil)))))) (pss_one (ps_raise rfl (takes_of rfl rfl rfl rfl) (pmk_oex RInvalidNumber.er.ox RInvalidNumber.er.iC RInvalidNumber.er.tI RInvalidNumber.G hrE RInvalidNumber.b .nil pass0 rfl RInvalidNumber.er.gC (pa_cons (pv 2) pa_nil)))) pss_nil)
        (pss_cons (ps_if (pt_not (pt_val (pe_callB call_isi (by rfl) T.n_isinstance (by decide +kernel) (pa_cons (pv 3) (pa_cons (pe_glob rfl KN.gR (show RelV (.ref a.R) _ from rfl)) pa_nil))))) (pss_one (ps_raise rfl (takes_of rfl rfl rfl rfl) (pmk_oex RInvalidRest.er.ox RInvalidRest.er.iC RInvalidRest.er.tI RInvalidRest.G hrE RInvalidRest.b .nil pass0 rfl RInvalidRest.er.gC (pa_cons (pv 3) pa_nil)))) pss_nil)
        (pss_cons (ps_fld (pv 0) (pv 1) rfl)
        (pss_cons (ps_fld (pv 0) (pv 2) rfl)
        (pss_one (ps_fld (pv 0) (pv 3) rfl))))))), ?_⟩
    refine ⟨_, rfl, F, n, v, rfl, ov.kp (KpF.same sb), fun H1 s1 => ?_⟩
    have sb1 := sb.trans s1
    cases en : isNam v with
    | false => exact ⟨_, rfl, iteT ⟨_, rfl, (by show 1 ≤ 1000; decide), LX.err_out (n := 1) (ws := [_]) rfl (ErrOut.same sb1 (kn en))⟩⟩
    | true =>
      refine ⟨_, rfl, iteF ?_⟩
      refine ⟨_, rfl, F, n, c, _, _, rfl, oc.kp (KpF.same sb1), ?_⟩
      cases eu : isNum c 1 1000 with
      | false => exact ⟨_, rfl, iteT ⟨_, rfl, (by show 1 ≤ 1000; decide), LX.err_out (n := 1) (ws := [_]) rfl (ErrOut.same sb1 (ku en eu))⟩⟩
      | true =>
        refine ⟨_, rfl, iteF ?_⟩
        rcases oy with oy | ⟨u, t, p, rfl, R⟩
        · obtain ⟨ty, tx, _, _, _, hm⟩ := (oy.kp (KpF.same sb1)).ty (K := K)
          exact ⟨_, rfl, _, _, _, _, _, rfl, .own _, tx, KN.kOdd ty hm, _, rfl, iteT ⟨_, rfl, (by show 1 ≤ 1000; decide), LX.err_out (n := 1) (ws := [_]) rfl (ErrOut.same sb1 (kr en eu oy))⟩⟩
        · obtain ⟨C, dy, fs, hy, rc, _, _, _⟩ := (R.same sb1).view KN
          refine ⟨_, rfl, _, _, _, _, _, rfl, .own _, .base (.ins hy rc.cl rc.ha rc.hn rc.htk rc.hm), rc.me, _, rfl, iteF ?_⟩
          obtain ⟨nm, rfl⟩ := nam_str en
          obtain ⟨ch, rfl, _, _⟩ := num_int eu
          have hx1 := s1 _ _ hx
          refine ⟨_, rfl, _, rfl, x, _, dx, _, rfl, hx1, KR.cl, KR.nn, (by show 0 < 1000; decide), ?_⟩
          refine ⟨_, rfl, _, rfl, x, _, dx, _, rfl, upd_same, KR.cl, KR.nc, (by show 1 < 1000; decide), ?_⟩
          refine ⟨_, rfl, _, rfl, x, _, dx, _, rfl, upd_same, KR.cl, KR.nr, (by show 2 < 1000; decide), ?_⟩
          exact k nm ch u t p _ rfl rfl rfl R en eu (same_upd hb (same_upd hb (same_upd hb sb1))) ⟨dx, upd_same⟩
end k10
namespace k10
open PySem L2 LC RM
def ruleT (nm : Str) (ch : Int) (t : Str) : Str := Str.empty ++ nm ++ " " ++ Str.ofString (toString ch) ++ " " ++ t
def spRule_str (K : PySem.W.Frag) (a : Ad) (r : Ar) : Sp := fun vs H Q _ => ∃ (x y : Addr) (nm : Str) (ch : Int) (g : Addr → Prop) (p : Pl) (t : Str), vs = [.ref x] ∧ RuleAt r H x nm ch y ∧ nm.length ≤ 1000000 ∧ 1 ≤ ch ∧ ch ≤ 1000 ∧ RestX a g H t p y ∧ Q (.str (ruleT nm ch t)) H
theorem ok_Rule_str {P : Program} {w : World} {K : PySem.W.Frag} {mg : Str → Option Value} {base : Heap} {f : Addr} {fd : FuncData} (F0 : Fun K "__str__" "Rule.__str__" sRule_str f fd) (T : Txt K mg) {a : Ad} (KN : Kn K mg a) {r : Ar} (KR : Kr K mg r) (OS : FnR P w K mg base CX0 1 a.fS (spRest_str K a)) :
    FnOk P w K mg base CX0 3 f fd PRule_str (spRule_str K a r) := by
  refine F0.ok scRule_str (fun vs H Q E h => ?_) (fun cdv A outer s H vs Q E hr h => ?_)
  · obtain ⟨x, y, nm, ch, g, p, t, rfl, ⟨dx, hx⟩, hl, c0, c1, R, k⟩ := h
    rfl
  · obtain ⟨x, y, nm, ch, g, p, t, rfl, ⟨dx, hx⟩, hl, c0, c1, R, k⟩ := h
    have hrQ : Room (1 + 1) _ := hr.mono (by decide)
    refine ⟨_, (pss_one (ps_ret (pe_joined (.cons (pe_fmt (pe_fld (pv 0) rfl)) (.cons pe_str (.cons (pe_fmt (pe_fld (pv 0) rfl)) (.cons pe_str (.cons (LE.pe_fmtI (n := 1) hrQ (pe_fld (pv 0) rfl)) .nil)))))))), ?_⟩
    obtain ⟨C, dy, fs, hy, rc, F4, ht, _⟩ := R.view KN
    have il := int_len (i := ch) (by omega) (by omega)
    have e1 : (" " : Str).length = 1 := by decide +kernel
    have e0 : Str.empty.length = 0 := rfl
    have sz : sizeLine = 16777216 := rfl
    have ht' : t.length ≤ 40000 := ht
    refine ⟨_, rfl, x, r.c, dx, _, _, rfl, hx, KR.cl, KR.nn, lk_name, .inl ⟨_, rfl, by omega, _, rfl, by rw [Str.length_append]; omega, _, rfl, by rw [Str.length_append, Str.length_append]; omega, ?_⟩⟩
    refine ⟨_, rfl, x, r.c, dx, _, _, rfl, hx, KR.cl, KR.nc, lk_chips, .inr ⟨_, rfl, log_small (by omega) (by omega), _, rfl, by rw [Str.length_append, Str.length_append, Str.length_append]; omega, _, rfl, by rw [Str.length_append, Str.length_append, Str.length_append, Str.length_append]; omega, ?_⟩⟩
    refine ⟨_, rfl, x, r.c, dx, _, _, rfl, hx, KR.cl, KR.nr, lk_rest, y, C, dy, a.fS, fs, _, rfl, hy, ⟨rc.s1, rc.s2, OS⟩, rc.s3, rc.hm, y, g, p, t, rfl, R, _, rfl, ?_⟩
    exact ⟨_, rfl, by rw [Str.length_append, Str.length_append, Str.length_append, Str.length_append, Str.length_append]; omega, k⟩
end k10
namespace k10
open PySem L2 LC RM
/-- x == y: of a rule with an int or a text, with a rule -/
def spRule_eq (K : PySem.W.Frag) (a : Ad) (r : Ar) : Sp := fun vs H Q _ => ∃ (x y : Addr) (o : V) (nm : Str) (ch : Int) (g : Addr → Prop) (p : Pl) (t : Str), vs = [.ref x, o] ∧ RuleAt r H x nm ch y ∧ RestX a g H t p y ∧
  ((∃ i, o = .int i ∧ Q (.bl false) H) ∨ (∃ z, o = .str z ∧ Q (.bl false) H) ∨ ∃ (x2 y2 : Addr) (nm2 : Str) (ch2 : Int) (h : Addr → Prop) (p2 : Pl) (t2 : Str), o = .ref x2 ∧ RuleAt r H x2 nm2 ch2 y2 ∧ RestX a h H t2 p2 y2 ∧ Q (.bl (decide (nm = nm2) && (decide (ch = ch2) && decide (t = t2)))) H)
theorem ok_Rule_eq {P : Program} {w : World} {K : PySem.W.Frag} {mg : Str → Option Value} {base : Heap} {f : Addr} {fd : FuncData} (F0 : Fun K "__eq__" "Rule.__eq__" sRule_eq f fd) (T : Txt K mg) {a : Ad} (KN : Kn K mg a) {r : Ar} (KR : Kr K mg r) (OE : FnR P w K mg base CX0 1 a.fE (spRest_eq K a)) :
    FnOk P w K mg base CX0 2 f fd PRule_eq (spRule_eq K a r) := by
  refine F0.ok scRule_eq (fun vs H Q E h => ?_) (fun cdv A outer s H vs Q E hr h => ?_)
  · obtain ⟨x, y, o, nm, ch, g, p, t, rfl, _⟩ := h
    rfl
  · obtain ⟨x, y, o, nm, ch, g, p, t, rfl, ⟨dx, hx⟩, R, h⟩ := h
    have hrQ : Room 1 _ := hr.mono (by decide)
    refine ⟨_, (pss_one (ps_ret (pe_and (pe_callB call_isi (by rfl) T.n_isinstance (by decide +kernel) (pa_cons (pv 1) (pa_cons (pe_glob rfl KR.g (show RelV (.ref r.c) _ from rfl)) pa_nil))) (pe_and (pe_cmpR op_eq (pe_fld (pv 0) rfl) (pe_fld (pv 1) rfl) (nomark _)) (pe_and (pe_cmpR op_eq (pe_fld (pv 0) rfl) (pe_fld (pv 1) rfl) (nomark _)) (pe_one (pe_cmpR (LE.op_eqI (n := 1) hrQ) (pe_fld (pv 0) rfl) (pe_fld (pv 1) rfl) (nomark _)))))))), ?_⟩
    rcases h with ⟨i, rfl, k⟩ | ⟨z, rfl, k⟩ | ⟨x2, y2, nm2, ch2, h', p2, t2, rfl, ⟨dx2, hx2⟩, R2, k⟩
    · exact ⟨_, rfl, _, _, _, _, _, rfl, .own _, .base (.int i), KR.ki, _, rfl, iteF k⟩
    · exact ⟨_, rfl, _, _, _, _, _, rfl, .own _, .base (.str z), KR.ks, _, rfl, iteF k⟩
    · obtain ⟨C, dy, fs, hy, rc, F4, ht, cs⟩ := R.view KN
      obtain ⟨C2, dy2, fs2, hy2, rc2, F42, ht2, cs2⟩ := R2.view KN
      have nf : PySem.W.notFirst K C (.ref C2) = true := by
        rcases cs with rfl | rfl <;> rcases cs2 with rfl | rfl
        · simp [PySem.W.notFirst]
        · exact KN.nf
        · exact KN.nf2
        · simp [PySem.W.notFirst]
      refine ⟨_, rfl, _, _, _, _, _, rfl, .own _, .base (.ins hx2 KR.cl KR.ha KR.hn KR.htk KR.hm), KR.me, _, rfl, iteT ?_⟩
      refine ⟨_, rfl, x, r.c, dx, _, _, rfl, hx, KR.cl, KR.nn, lk_name, _, rfl, x2, r.c, dx2, _, _, rfl, hx2, KR.cl, KR.nn, lk_name, rfl, _, rfl, ?_⟩
      have d1 : decide ((V.str nm : V) = .str nm2) = decide (nm = nm2) := decide_eq_decide.mpr ⟨fun z => by cases z; rfl, fun z => by rw [z]⟩
      have d2 : decide ((V.int ch : V) = .int ch2) = decide (ch = ch2) := decide_eq_decide.mpr ⟨fun z => by cases z; rfl, fun z => by rw [z]⟩
      rw [d1]
      refine ite_d (fun e1 => ?_) (fun e1 => ?_)
      · rw [decide_eq_true e1, Bool.true_and] at k
        refine ⟨_, rfl, x, r.c, dx, _, _, rfl, hx, KR.cl, KR.nc, lk_chips, _, rfl, x2, r.c, dx2, _, _, rfl, hx2, KR.cl, KR.nc, lk_chips, rfl, _, rfl, ?_⟩
        rw [d2]
        refine ite_d (fun e2 => ?_) (fun e2 => ?_)
        · rw [decide_eq_true e2, Bool.true_and] at k
          exact ⟨_, rfl, x, r.c, dx, _, _, rfl, hx, KR.cl, KR.nr, lk_rest, _, rfl, x2, r.c, dx2, _, _, rfl, hx2, KR.cl, KR.nr, lk_rest, y, C, dy, a.fE, fs, _, _, rfl, hy, ⟨rc.e1, rc.e2, OE⟩, .ins hy2, nf, y, y2, g, h', p, p2, t, t2, rfl, R, R2, k⟩
        · rw [decide_eq_false e2, Bool.false_and] at k
          exact k
      · rw [decide_eq_false e1, Bool.false_and] at k
        exact k
end k10
namespace k10
open PySem L2 LC RM
/-- the calls of all rests -/
structure Calls (P : Program) (W : World) (K : PySem.W.Frag) (mg : Str → Option Value) (base : Heap) (a : Ad) : Prop where
  cw : FnR P W K mg base CX0 2 a.Wc (spWindow_call K a)
  cd : FnR P W K mg base CX0 2 a.Dc (spDays_call K a)
theorem Calls.dyn {P : Program} {w : World} {K : PySem.W.Frag} {mg : Str → Option Value} {base : Heap} {a : Ad} (CC : Calls P w K mg base a) (KN : Kn K mg a) {g : Addr → Prop} {zt : Str} {H : Hp} {L : Nat} : ∀ {p : Pl} {y : Addr}, RestX a g H zt p y → p.ok L →
    ∃ (C f : Addr) (sp : Sp), StX.CallO K C f ∧ FnR P w K mg base CX0 2 f sp ∧ (∃ dx fs, H y = some (.ins C dx fs)) ∧ ∀ (t : Int) (Q : VK) (E : XK), Q (.int (p.at t)) H → sp [.ref y, .int t] H Q E
  | .win w, y, R, _ => ⟨_, _, _, KN.cW, CC.cw, (by obtain ⟨_, dx, h, _⟩ := R; exact ⟨_, _, h⟩), fun t Q E k => ⟨y, g, w, t, zt, rfl, R, k⟩⟩
  | .days bs e, y, R, o => ⟨_, _, _, KN.cD, CC.cd, (by obtain ⟨_, dx, b, h, _⟩ := R; exact ⟨_, _, h⟩), fun t Q E k => ⟨y, g, bs, e, t, zt, rfl, R, o.1, o.2.1, k⟩⟩
  | .lat _ _, _, R, _ => R.elim
  | .soo _ _, _, R, _ => R.elim
  | .nex _ _, _, R, _ => R.elim
def spfullest (K : PySem.W.Frag) (a : Ad) : Sp := fun vs H Q _ => ∃ (y z : Addr) (g : Addr → Prop) (p : Pl) (zt : Str) (L : Nat) (rs : List (Int × Int)) (ts : List Addr), vs = [.ref y, .ref z] ∧ RestX a g H zt p y ∧ p.ok L ∧ (SqL K H z (ts.map V.ref) ∨ SqT K H z (ts.map V.ref)) ∧ Rows H rs ts ∧ (∀ r ∈ rs, 1 ≤ r.2) ∧
  ∀ (c : Int) (o : Option Int) (T : Addr) H', Same H H' → H T = none → H' T = some (.tup [.int c, vOpt o]) → BestOn (wsum p rs) (rs.map (·.1)) c o → Q (.ref T) H'
theorem ok_fullest {P : Program} {w : World} {K : PySem.W.Frag} {mg : Str → Option Value} {base : Heap} {f : Addr} {fd : FuncData} (D : Def K mg "fullest" sfullest Pfullest f fd) (T : Txt K mg) {a : Ad} (KN : Kn K mg a) (CC : Calls P w K mg base a) :
    FnOk P w K mg base CX0 3 f fd Pfullest (spfullest K a) := by
  refine D.F.ok scfullest (fun vs H Q E h => ?_) (fun cdv A outer s H vs Q E hr h => ?_)
  · obtain ⟨y, z, g, p, zt, L, rs, ts, rfl, R, o, hz, hR, hn, k⟩ := h
    rfl
  · obtain ⟨y, z, g, p, zt, L, rs, ts, rfl, R, o, hz, hR, hn, k⟩ := h
    have hrC : Room 2 _ := hr.mono (by decide)
    refine ⟨_, (pss_cons (ps_set (i := 2) scfullest.nd rfl (Or.inl rfl) (pe_callB LSo.cr_sortedQ (by rfl) T.n_sorted (by decide +kernel) (pa_cons (pv 1) pa_nil)))
        (pss_cons (ps_set (i := 3) scfullest.nd rfl (Or.inl rfl) (pe_tup (pa_cons pe_int (pa_cons pe_non pa_nil))))
        (pss_cons (ps_set (i := 4) scfullest.nd rfl (Or.inl rfl) pe_int)
        (pss_cons (ps_set (i := 5) scfullest.nd rfl (Or.inl rfl) pe_int)
        (pss_cons (ps_for PassesOwn.never rfl (pi_list (pv 2)) ((pg_tup rfl (pgs_cons (pg_name (i := 6) scfullest.nd rfl (Or.inl rfl)) (pgs_cons (pg_name (i := 7) scfullest.nd rfl (Or.inl rfl)) pgs_nil))))
          (pss_cons (ps_set (i := 8) scfullest.nd rfl (Or.inl rfl) (LS.pe_callD (pv 0) hrC (pa_cons (pv 6) pa_nil)))
        (pss_cons (ps_while PassesOwn.never (PW.pt (pw_and (pt_cmpR op_lt (pv 5) (pe_callB call_len_seq (by rfl) T.n_len PySem.boot_len (pa_cons (pv 2) pa_nil)) (nomark _)) (pw_and1 (pt_cmpR op_lt (pe_ix ix_tup (pe_ix ix_list (pv 2) (pv 5) (fun _ _ => rfl)) pe_int (fun _ _ => rfl)) (pv 8) (nomark _))))) (pss_cons (ps_aug (i := 4) scfullest.nd rfl (Or.inl rfl) (pe_ix ix_tup (pe_ix ix_list (pv 2) (pv 5) (fun _ _ => rfl)) pe_int (fun _ _ => rfl)) ip_add)
        (pss_one (ps_aug (i := 5) scfullest.nd rfl (Or.inl rfl) pe_int ip_add))))
        (pss_cons (ps_if (pt_cmpR op_gt (pv 4) (pe_ix ix_tup (pv 3) pe_int (fun _ _ => rfl)) (nomark _)) (pss_one (ps_set (i := 3) scfullest.nd rfl (Or.inl rfl) (pe_tup (pa_cons (pv 4) (pa_cons (pv 6) pa_nil))))) pss_nil)
        (pss_one (ps_aug (i := 4) scfullest.nd rfl (Or.inl rfl) (pv 7) ip_sub))))))
        (pss_one (ps_ret (pv 3)))))))), ?_⟩
    refine ⟨_, rfl, z, ts.map V.ref, pairOf H, rfl, hz, fun x hx => hR.mem hx, fun ys rw_ hs hp hrw => ?_⟩
    obtain ⟨rs', ts', rfl, hR', hperm, hsrt⟩ := rows_sorted hR hs hp
    have hn' : ∀ r ∈ rs', 1 ≤ r.2 := fun r hr => hn r (hperm.mem_iff.mp hr)
    have ll := hR'.len
    have s1 := same_new (o := .lst (ts'.map V.ref)) hrw
    have e1 : upd H rw_ (.lst (ts'.map V.ref)) rw_ = some (.lst (ts'.map V.ref)) := upd_same
    have hR1 := hR'.kt (Kt.same s1)
    generalize upd H rw_ (.lst (ts'.map V.ref)) = H1 at s1 e1 hR1 ⊢
    refine ⟨(by show 2 ≤ sizeLine; decide), fun b0 hb0 => ?_⟩
    have s2 := same_new (o := .tup [.int 0, .non]) hb0
    have e2 := s2 _ _ e1
    have hR2 := hR1.kt (Kt.same s2)
    have eb : upd H1 b0 (.tup [.int 0, .non]) b0 = some (.tup [.int 0, vOpt none]) := upd_same
    have s12 := s1.trans s2
    have nb0 := s1.free hb0
    generalize upd H1 b0 (.tup [.int 0, .non]) = H2 at s2 e2 hR2 eb s12 ⊢
    refine ⟨_, rfl, rw_, rfl, ⟨_, SqL.of e2⟩, for_list (K := K) (a := rw_) (xs := ts'.map V.ref) (fun i σ H' => ∃ (bt : Addr) (c : Int) (b : Option Int) (bh : Nat) (v6 v7 v8 : Option V), σ = [some (.ref y), some (.ref z), some (.ref rw_), some (.ref bt), some (.int (win rs' i bh)), some (.int bh), v6, v7, v8] ∧ Same H2 H' ∧ H bt = none ∧ H' bt = some (.tup [.int c, vOpt b]) ∧
        i ≤ bh ∧ bh ≤ rs'.length ∧ (∀ j (hj : j < rs'.length), j < bh → ∀ m (hm : m < rs'.length), i ≤ m → rs'[j].1 < p.at rs'[m].1) ∧ BestOn (wsum p rs') ((rs'.take i).map (·.1)) c b)
      ⟨b0, 0, none, 0, none, none, none, by rw [win_nil]; rfl, Same.refl _, nb0, eb, Nat.le_refl _, Nat.zero_le _, fun j _ hj => absurd hj (Nat.not_lt_zero _), .inl ⟨rfl, rfl, rfl⟩⟩ (fun i σ H' _ ⟨_, _, _, _, _, _, _, _, s, _⟩ => s.seq (SqL.of e2)) ?_ ?_⟩
    · rintro i x σ H3 hi ⟨bt, c, b, bh, v6, v7, v8, rfl, s3, nbt, ebt, ib, bl, hw, B⟩
      rw [List.getElem?_map] at hi
      obtain ⟨t, ht, rfl⟩ : ∃ t, ts'[i]? = some t ∧ V.ref t = x := by
        cases q : ts'[i]? with
        | none => rw [q] at hi; cases hi
        | some t => rw [q] at hi; exact ⟨t, rfl, Option.some.inj hi⟩
      have hR3 := hR2.kt (Kt.same s3)
      have e3 := s3 _ _ e2
      obtain ⟨r, hr', et⟩ := hR3.at_ ht
      obtain ⟨il, rfl⟩ := List.getElem?_eq_some_iff.mp hr'
      have R3 := (R.same s12).same s3
      obtain ⟨C1, f1, sp1, c1, G1, i1, k1⟩ := CC.dyn KN R3 o
      refine ⟨t, _, rfl, SqT.of et, rfl, _, _, rfl, _, _, rfl, rfl, ?_⟩
      refine ⟨_, rfl, y, rfl, _, rfl, C1, f1, sp1, c1, G1, i1, k1 _ _ _ ?_⟩
      have gt := p.at_gt o rs'[i].1
      refine ⟨fun m σ' H' => ∃ q : Nat, m = rs'.length - q ∧ σ' = [some (.ref y), some (.ref z), some (.ref rw_), some (.ref bt), some (.int (win rs' i q)), some (.int q), some (.int rs'[i].1), some (.int rs'[i].2), some (.int (p.at rs'[i].1))] ∧ H' = H3 ∧ i ≤ q ∧ q ≤ rs'.length ∧ ∀ j (hj : j < rs'.length), j < q → rs'[j].1 < p.at rs'[i].1,
        ⟨_, bh, rfl, rfl, rfl, ib, bl, fun j hj h => hw j hj h i il (Nat.le_refl _)⟩, ?_⟩
      rintro m σ' H' ⟨q, rfl, rfl, rfl, iq, ql, hq⟩
      have row : ∀ (hb : q < rs'.length), ∃ u, (ts'.map V.ref)[q]? = some (V.ref u) ∧ H' u = some (.tup [.int rs'[q].1, .int rs'[q].2]) := fun hb => by
        have hb' : q < ts'.length := by omega
        obtain ⟨r, hr, eu⟩ := hR3.at_ (List.getElem?_eq_getElem hb')
        obtain ⟨_, rfl⟩ := List.getElem?_eq_some_iff.mp hr
        exact ⟨_, by rw [List.getElem?_map, List.getElem?_eq_getElem hb']; rfl, eu⟩
      by_cases hm : ∃ hb : q < rs'.length, rs'[q].1 < p.at rs'[i].1
      · obtain ⟨hb, hlt⟩ := hm
        obtain ⟨u, hu, eu⟩ := row hb
        refine ⟨_, rfl, _, rfl, _, _, rfl, .inl (SqL.of e3), _, _, rfl, rfl, _, rfl, ite_d (fun _ => ?_) (fun h => absurd (by rw [List.length_map]; omega) h)⟩
        refine ⟨_, rfl, _, rfl, _, _, _, _, rfl, rfl, SqL.of e3, atI_nat hu, _, _, _, _, rfl, rfl, SqT.of eu, rfl, _, rfl, _, _, rfl, rfl, _, rfl, ite_d (fun _ => ?_) (fun h => absurd hlt h)⟩
        refine ⟨_, fun σ' H' z => z, _, rfl, _, rfl, _, rfl, _, _, _, _, rfl, rfl, SqL.of e3, atI_nat hu, _, _, _, _, rfl, rfl, SqT.of eu, rfl, _, _, rfl, rfl, ?_⟩
        refine ⟨_, rfl, _, _, rfl, rfl, rs'.length - (q + 1), by omega, q + 1, rfl, ?_, rfl, by omega, by omega, fun j hj h => ?_⟩
        · rw [win_more iq hb]
          rfl
        · by_cases ej : j = q
          · subst ej
            exact hlt
          · exact hq j hj (by omega)
      · have qi : i < q := by
          by_cases e : i = q
          · subst e
            exact absurd ⟨il, gt⟩ hm
          · omega
        have h2 : ∀ j (hj : j < rs'.length), q ≤ j → p.at rs'[i].1 ≤ rs'[j].1 := fun j hj h => by
          have hb : q < rs'.length := by omega
          have := pw_le hsrt h hj
          by_cases z : rs'[q].1 < p.at rs'[i].1
          · exact absurd ⟨hb, z⟩ hm
          · omega
        obtain ⟨w1, w2⟩ := win_of o hn' hsrt il qi hq h2 B
        have nx : ∀ j (hj : j < rs'.length), j < q → ∀ m (hm : m < rs'.length), i + 1 ≤ m → rs'[j].1 < p.at rs'[m].1 := fun j hj h m hm' h' => by
          have a1 := hq j hj h
          have a2 := p.at_mono o _ _ (pw_le hsrt (show i ≤ m by omega) hm')
          omega
        have ew := win_next (rs := rs') qi ql
        refine ⟨_, rfl, _, rfl, _, _, rfl, .inl (SqL.of e3), _, _, rfl, rfl, _, rfl, ite_dc ?_ (fun hb C => ?_) (fun _ C => iteF C)⟩
        · refine ⟨_, rfl, _, rfl, _, _, _, _, rfl, rfl, SqT.of ebt, rfl, _, _, rfl, rfl, _, rfl, ite_d (fun hc => ?_) (fun hc => ?_)⟩
          · refine ⟨_, rfl, _, rfl, (by show 2 ≤ sizeLine; decide), fun bt' hbt' => ?_⟩
            refine ⟨_, rfl, _, rfl, _, _, rfl, rfl, bt', _, some rs'[i].1, q, _, _, _, by rw [ew]; rfl, s3.trans (same_new hbt'), s12.free (s3.free hbt'), upd_same, qi, ql, nx, w1 hc⟩
          · exact ⟨_, rfl, _, rfl, _, _, rfl, rfl, bt, c, b, q, _, _, _, by rw [ew]; rfl, s3, nbt, ebt, qi, ql, nx, w2 hc⟩
        · have hb' : q < rs'.length := by rw [List.length_map] at hb; omega
          obtain ⟨u, hu, eu⟩ := row hb'
          exact ⟨_, rfl, _, rfl, _, _, _, _, rfl, rfl, SqL.of e3, atI_nat hu, _, _, _, _, rfl, rfl, SqT.of eu, rfl, _, rfl, _, _, rfl, rfl, _, rfl, ite_d (fun h => absurd ⟨hb', h⟩ hm) (fun _ => C)⟩
    · rintro σ H3 ⟨bt, c, b, bh, v6, v7, v8, rfl, s3, nbt, ebt, ib, bl, hw, B⟩
      rw [List.length_map, ll, List.take_length] at B
      refine ⟨_, rfl, k c b bt H3 (s12.trans s3) nbt ebt (B.congr (fun m => ?_) fun m => wsum_perm hperm m)⟩
      exact (hperm.map _).mem_iff
end k10
namespace k10
open PySem L2 LC RM
def spis_within (K : PySem.W.Frag) (a : Ad) (r : Ar) : Sp := fun vs H Q _ => ∃ (x y z : Addr) (nm : Str) (ch : Int) (g : Addr → Prop) (p : Pl) (zt : Str) (L : Nat) (rs : List (Int × Int)) (ts : List Addr), vs = [.ref x, .ref z] ∧ RuleAt r H x nm ch y ∧ RestX a g H zt p y ∧ p.ok L ∧ (SqL K H z (ts.map V.ref) ∨ SqT K H z (ts.map V.ref)) ∧ Rows H rs ts ∧ (∀ r ∈ rs, 1 ≤ r.2) ∧
  ∀ (c : Int) (o : Option Int) H', Same H H' → BestOn (wsum p rs) (rs.map (·.1)) c o → Q (.bl (decide (c ≤ ch))) H'
theorem ok_is_within {P : Program} {w : World} {K : PySem.W.Frag} {mg : Str → Option Value} {base : Heap} {f : Addr} {fd : FuncData} (D : Def K mg "is_within" sis_within Pis_within f fd) (T : Txt K mg) {a : Ad} (KN : Kn K mg a) {r : Ar} (KR : Kr K mg r) {ffullest : Addr} {fdfullest : FuncData} (Dfullest : Def K mg "fullest" sfullest Pfullest ffullest fdfullest) (Gfullest : FnOk P w K mg base CX0 3 ffullest fdfullest Pfullest (spfullest K a)) :
    FnOk P w K mg base CX0 4 f fd Pis_within (spis_within K a r) := by
  refine D.F.ok scis_within (fun vs H Q E h => ?_) (fun cdv A outer s H vs Q E hr h => ?_)
  · obtain ⟨x, y, z, nm, ch, g, p, zt, L, rs, ts, rfl, ⟨dx, hx⟩, R, o, hz, hR, hn, k⟩ := h
    rfl
  · obtain ⟨x, y, z, nm, ch, g, p, zt, L, rs, ts, rfl, ⟨dx, hx⟩, R, o, hz, hR, hn, k⟩ := h
    have hrfullest : Room 3 _ := hr.mono (by decide)
    refine ⟨_, (pss_cons (ps_asg (pe_call Gfullest hrfullest rfl Dfullest.g Dfullest.F.kp Dfullest.b .nil pass0 (pa_cons (pe_fld (pv 0) rfl) (pa_cons (pv 1) pa_nil))) (pg_tup rfl (pgs_cons (pg_name (i := 2) scis_within.nd rfl (Or.inl rfl)) (pgs_cons (pg_name (i := 3) scis_within.nd rfl (Or.inl rfl)) pgs_nil))))
        (pss_one (ps_ret (pe_cmpR op_le (pv 2) (pe_fld (pv 0) rfl) (nomark _))))), ?_⟩
    refine ⟨_, rfl, x, r.c, dx, _, _, rfl, hx, KR.cl, KR.nr, lk_rest, _, rfl, y, z, g, p, zt, L, rs, ts, rfl, R, o, hz, hR, hn, fun c b T H1 s1 n1 e1 B => ⟨T, _, rfl, SqT.of e1, rfl, _, _, rfl, _, _, rfl, rfl, ?_⟩⟩
    exact ⟨_, rfl, _, rfl, x, r.c, dx, _, _, rfl, s1 _ _ hx, KR.cl, KR.nc, lk_chips, _, _, rfl, rfl, k c b H1 s1 B⟩
def kg_is_within__rule_uses {α : Type} (us ws : List α) : List α := match us, ws with | [], [a0, a1] => [a0, a1] | _, _ => []
theorem KB_is_within__rule_uses {K : PySem.W.Frag} {f : Addr} {fd : FuncData} (F : Fun K "is_within" "is_within" sis_within f fd) : KBinds K fd Pis_within ["rule", "uses"] kg_is_within__rule_uses kg_is_within__rule_uses := by
  obtain ⟨oc, od, kV, doc, pm, an, cdv, ct, osl, rfl, lk, hcd⟩ := F.ex
  refine ⟨fun s us ws _ hl => ?_, fun {vs us zs ws} r1 r2 => ?_⟩
  · match us, ws, hl with
    | [], [a0, a1], _ => exact .of_eq rfl
  · cases r1 with
    | cons _ _ => exact .nil
    | nil =>
      match zs, ws, r2 with
      | _, _, .cons r0 (.cons r1 (.nil)) => exact .cons r0 (.cons r1 (Paired.nil))
      | _, _, .nil => exact .nil
      | _, _, .cons _ (.nil) => exact .nil
      | _, _, .cons _ (.cons _ (.cons _ _)) => exact .nil
end k10
namespace k10
open PySem L2 LC RM
def spladder (a : Ad) (r : Ar) (CN CU CR : Addr) : Sp := fun vs H Q E => ∃ (F : Addr → Prop) (n : Nat) (v s e t : V), vs = [v, s, e, t] ∧ (∀ b, F b → ∃ o, H b = some o) ∧ Ov F H n v ∧ Ov F H n s ∧ Ov F H n e ∧ Ov F H n t ∧
  (∀ w, dueV v s e t = some (("InvalidName" : Str), w) → LX.ErrOut H E CN (ivF "InvalidName" [w])) ∧ (∀ w, dueV v s e t = some (("InvalidNumber" : Str), w) → LX.ErrOut H E CU (ivF "InvalidNumber" [w])) ∧
  ∀ (z : Str) (si ev ti : Int) (st : Nat) (D : Addr) (xs : List Addr) H', dueV v s e t = none → v = .str z → s = .int si → e = .int ev → t = .int ti → ti = st → Same H H' → H D = none → H' D = some (.lst (xs.map V.ref)) → xs.length = st → Rls r a F H' z si ev xs → Q (.ref D) H'
theorem ok_ladder {P : Program} {w : World} {K : PySem.W.Frag} {mg : Str → Option Value} {base : Heap} {f : Addr} {fd : FuncData} (D : Def K mg "ladder" sladder Pladder f fd) (T : Txt K mg) {a : Ad} (KN : Kn K mg a) {r : Ar} (KR : Kr K mg r) {fdInvalidName : FuncData} {fInvalidName CInvalidName : Addr} (RInvalidName : RE P w K mg base "InvalidName" CInvalidName fInvalidName fdInvalidName) {fdInvalidNumber : FuncData} {fInvalidNumber CInvalidNumber : Addr} (RInvalidNumber : RE P w K mg base "InvalidNumber" CInvalidNumber fInvalidNumber fdInvalidNumber) {fdInvalidRest : FuncData} {fInvalidRest CInvalidRest : Addr} (RInvalidRest : RE P w K mg base "InvalidRest" CInvalidRest fInvalidRest fdInvalidRest) (IRule : FnR P w K mg base (L2.CX P w) 3 r.i (spRule_init a r CInvalidName CInvalidNumber CInvalidRest)) (IWindow : FnR P w K mg base CX0 3 a.Wi (spWindow_init K a)) {fis_number : Addr} {fdis_number : FuncData} (Dis_number : Def K mg "is_number" sis_number Pis_number fis_number fdis_number) (Gis_number : FnOk P w K mg base CX0 2 fis_number fdis_number Pis_number (spis_number)) {fis_name : Addr} {fdis_name : FuncData} (Dis_name : Def K mg "is_name" sis_name Pis_name fis_name fdis_name) (Gis_name : FnOk P w K mg base CX0 1 fis_name fdis_name Pis_name (spis_name)) :
    FnOk P w K mg base (L2.CX P w) 5 f fd Pladder (spladder a r CInvalidName CInvalidNumber CInvalidRest) := by
  refine D.F.okX scladder (fun vs H Q E h => ?_) (fun cdv A outer s H vs Q E hr h => ?_)
  · obtain ⟨F, n, v, s, e, t, rfl, hF, ov, os, oe, ot, kn, ku, k⟩ := h
    rfl
  · obtain ⟨F, n, v, s, e, t, rfl, hF, ov, os, oe, ot, kn, ku, k⟩ := h
    have hris_number : Room 2 _ := hr.mono (by decide)
    have hris_name : Room 1 _ := hr.mono (by decide)
    obtain ⟨tc_MOST_SIZE, hc_MOST_SIZE⟩ := T.c_MOST_SIZE
    obtain ⟨tc_MOST_STEPS, hc_MOST_STEPS⟩ := T.c_MOST_STEPS
    have hrI : Room 4 _ := hr.mono (by decide)
    have hrI2 : Room 4 _ := hr.mono (by decide)
    have hrE : Room 2 _ := hr.mono (by decide)
    refine ⟨_, (pss_cons (ps_if (PW.pt (pw_or (pt_not (pt_val (pe_call Gis_name hris_name rfl Dis_name.g Dis_name.F.kp Dis_name.b .nil pass0 (pa_cons (pv 0) pa_nil)))) (pw_or1 (pt_cmpR op_gt (pe_callB call_len_str (by rfl) T.n_len PySem.boot_len (pa_cons (pv 0) pa_nil)) pe_int (nomark _))))) (pss_one (ps_raise rfl (takes_of rfl rfl rfl rfl) (pmk_oex RInvalidName.er.ox RInvalidName.er.iC RInvalidName.er.tI RInvalidName.G hrE RInvalidName.b .nil pass0 rfl RInvalidName.er.gC (pa_cons (pv 0) pa_nil)))) pss_nil)
        (pss_cons (ps_for (passes_of rfl) rfl (pi_tup (pe_tup (pa_cons (pv 1) (pa_cons (pv 2) pa_nil)))) (pg_name (i := 4) scladder.nd rfl (Or.inl rfl))
          (pss_one (ps_if (pt_not (pt_val (pe_call Gis_number hris_number rfl Dis_number.g Dis_number.F.kp Dis_number.b .nil pass0 (pa_cons (pv 4) (pa_cons pe_int (pa_cons (pe_gint rfl hc_MOST_SIZE) pa_nil)))))) (pss_one (ps_raise rfl (takes_of rfl rfl rfl rfl) (pmk_oex RInvalidNumber.er.ox RInvalidNumber.er.iC RInvalidNumber.er.tI RInvalidNumber.G hrE RInvalidNumber.b .nil pass0 rfl RInvalidNumber.er.gC (pa_cons (pv 4) pa_nil)))) pss_nil)))
        (pss_cons (ps_if (PW.pt (pw_or (pt_not (pt_val (pe_call Gis_number hris_number rfl Dis_number.g Dis_number.F.kp Dis_number.b .nil pass0 (pa_cons (pv 3) (pa_cons pe_int (pa_cons (pe_gint rfl hc_MOST_STEPS) pa_nil)))))) (pw_or (pt_cmpR op_gt (pe_op op_sub (pe_op op_add (pv 1) (pv 3)) pe_int) (pe_gint rfl hc_MOST_SIZE) (nomark _)) (pw_or1 (pt_cmpR op_gt (pe_op op_mul (pv 2) (pv 3)) (pe_gint rfl hc_MOST_SIZE) (nomark _)))))) (pss_one (ps_raise rfl (takes_of rfl rfl rfl rfl) (pmk_oex RInvalidNumber.er.ox RInvalidNumber.er.iC RInvalidNumber.er.tI RInvalidNumber.G hrE RInvalidNumber.b .nil pass0 rfl RInvalidNumber.er.gC (pa_cons (pv 3) pa_nil)))) pss_nil)
        (pss_one (ps_ret (pe_lc (own := [("k", 5)]) (g := gName 5) (tt := tYes) rfl scladder.nd (pi_range1 rfl T.n_range (pa_cons (pv 3) pa_nil)) (blkOk_by (own := [("k", 5)]) (N := Nmladder) (sc := defScope sladder) (by decide +kernel)) (fun _ _ _ _ _ => pg_name (i := 5) scladder.nd rfl (Or.inl rfl)) (fun _ _ _ _ _ => pts_nil) (fun _ _ _ _ _ => (StX.pe_makeR KR.m IRule hrI rfl KR.g passL (pa_cons (pe_joined (.cons (pe_fmt (pv 0)) (.cons (pe_fmt (pv 5)) .nil))) (pa_cons (pe_op op_add (pv 1) (pv 5)) (pa_cons (StX.pe_makeR KN.mWindow IWindow hrI2 rfl KN.gWindow pass0 (pa_cons (pe_op op_mul (pe_op op_add (pv 5) pe_int) (pv 2)) pa_nil)) pa_nil))))))))))), ?_⟩
    refine ⟨_, rfl, F, n, v, rfl, ov, fun H1 s1 => ⟨_, rfl, ite_nb (fun e8 => ?_) (fun e8 => ?_)⟩⟩
    · have en : isNamN 7 v = false := by
        cases v with
        | str z => rw [namN7, e8]; rfl
        | _ => rfl
      exact ⟨_, rfl, (by show 1 ≤ 1000; decide), LX.err_out (n := 1) (ws := [_]) rfl (ErrOut.same s1 (kn _ (due0 en)))⟩
    · obtain ⟨z, rfl⟩ := nam_str e8
      refine ⟨_, rfl, _, rfl, sz_str ov.str, _, _, rfl, rfl, _, rfl, ite_d (fun h7 => ?_) (fun h7 => ?_)⟩
      · have en : isNamN 7 (.str z) = false := by
          rw [namN7, decide_eq_false (show ¬ z.length ≤ 7 by omega), Bool.and_false]
        exact ⟨_, rfl, (by show 1 ≤ 1000; decide), LX.err_out (n := 1) (ws := [_]) rfl (ErrOut.same s1 (kn _ (due0 en)))⟩
      have en : isNamN 7 (.str z) = true := by
        rw [namN7, e8, decide_eq_true (show z.length ≤ 7 by omega)]
        rfl
      have h7 : z.length ≤ 7 := by omega
      refine ⟨_, rfl, _, rfl, (by show 2 ≤ sizeLine; decide), fun tp htp => ?_⟩
      have s2 := s1.trans (same_new (o := .tup [s, e]) htp)
      have etp : upd H1 tp (.tup [s, e]) tp = some (.tup [s, e]) := upd_same
      generalize upd H1 tp (.tup [s, e]) = H2 at s2 etp ⊢
      refine ⟨tp, rfl, ⟨_, SqT.of etp⟩, for_tup (K := K) (a := tp) (xs := [s, e]) (fun i σ H' => ∃ v4, σ = [some (.str z), some s, some e, some t, v4, none] ∧ H2 = H' ∧ (0 < i → isNum s 1 1000 = true) ∧ (1 < i → isNum e 1 1000 = true))
        ⟨_, rfl, rfl, fun h => absurd h (by decide), fun h => absurd h (by decide)⟩ (fun i σ H' _ ⟨_, _, e, _⟩ => by rw [← e]; exact SqT.of etp) ?_ ?_⟩
      · rintro i y σ H' hi ⟨v4, rfl, rfl, i0, i1⟩
        match i, hi with
        | 0, hi =>
          cases hi
          cases es : isNum s 1 1000 with
          | false => exact ⟨_, rfl, F, n, s, _, _, rfl, os.kp (KpF.same s2), _, rfl, by rw [es]; exact iteT ⟨_, rfl, (by show 1 ≤ 1000; decide), LX.err_out (n := 1) (ws := [_]) rfl (ErrOut.same s2 (ku _ (due1 en es)))⟩⟩
          | true => exact ⟨_, rfl, F, n, s, _, _, rfl, os.kp (KpF.same s2), _, rfl, by rw [es]; exact iteF ⟨_, rfl, rfl, fun _ => rfl, fun h => absurd h (by decide)⟩⟩
        | 1, hi =>
          cases hi
          have es := i0 (by decide)
          cases ee : isNum e 1 1000 with
          | false => exact ⟨_, rfl, F, n, e, _, _, rfl, oe.kp (KpF.same s2), _, rfl, by rw [ee]; exact iteT ⟨_, rfl, (by show 1 ≤ 1000; decide), LX.err_out (n := 1) (ws := [_]) rfl (ErrOut.same s2 (ku _ (due2 en es ee)))⟩⟩
          | true => exact ⟨_, rfl, F, n, e, _, _, rfl, oe.kp (KpF.same s2), _, rfl, by rw [ee]; exact iteF ⟨_, rfl, rfl, fun _ => es, fun _ => rfl⟩⟩
      · rintro σ H' ⟨v4, rfl, rfl, i0, i1⟩
        have es := i0 (show 0 < 2 by decide)
        have ee := i1 (show 1 < 2 by decide)
        obtain ⟨si, rfl, sa, sb⟩ := num_int es
        obtain ⟨ev, rfl, ea, eb⟩ := num_int ee
        refine ⟨_, rfl, F, n, t, _, _, rfl, ot.kp (KpF.same s2), ?_⟩
        cases et : isNum t 1 9 with
        | false => exact ⟨_, rfl, iteT ⟨_, rfl, (by show 1 ≤ 1000; decide), LX.err_out (n := 1) (ws := [_]) rfl (ErrOut.same s2 (ku _ (due3 en es ee (by rw [et]; rfl))))⟩⟩
        | true =>
          obtain ⟨ti, rfl, ta, tb'⟩ := num_int et
          have sk : stOk (.int si) (.int ev) (.int ti) = (decide (si + ti - 1 ≤ 1000) && decide (ev * ti ≤ 1000)) := rfl
          refine ⟨_, rfl, iteF ⟨_, rfl, _, rfl, _, _, rfl, rfl, _, _, rfl, rfl, _, _, rfl, rfl, _, rfl, ite_d (fun c1 => ?_) (fun c1 => ?_)⟩⟩
          · exact ⟨_, rfl, (by show 1 ≤ 1000; decide), LX.err_out (n := 1) (ws := [_]) rfl (ErrOut.same s2 (ku _ (due3 en es ee (by rw [et, sk, decide_eq_false (by omega)]; rfl))))⟩
          · refine ⟨_, rfl, _, rfl, _, _, rfl, rfl, .inr ⟨by omega, by omega⟩, _, _, rfl, rfl, _, rfl, ite_d (fun c2 => ?_) (fun c2 => ?_)⟩
            · exact ⟨_, rfl, (by show 1 ≤ 1000; decide), LX.err_out (n := 1) (ws := [_]) rfl (ErrOut.same s2 (ku _ (due3 en es ee (by rw [et, sk, decide_eq_false (show ¬ ev * ti ≤ 1000 by omega), Bool.and_false]; rfl))))⟩
            · obtain ⟨st, rfl⟩ : ∃ st : Nat, ti = (st : Int) := ⟨ti.toNat, by omega⟩
              have dn : dueV (.str z) (.int si) (.int ev) (.int st) = none := due4 en es ee (by rw [et, sk, decide_eq_true (show si + (st : Int) - 1 ≤ 1000 by omega), decide_eq_true (show ev * (st : Int) ≤ 1000 by omega)]; rfl)
              refine ⟨_, rfl, _, rfl, by omega, by omega, fun D hD => ?_⟩
              have nD := nF_same hF s2 hD
              refine lc_it walk_range (fun i H' => i ≤ st ∧ Same H2 H' ∧ ∃ xs : List Addr, H' D = some (.lst (xs.map V.ref)) ∧ xs.length = i ∧ Rls r a (fun b => F b ∨ b = D) H' z si ev xs)
                ⟨Nat.zero_le _, same_new hD, [], upd_same, rfl, fun k x e => by simp at e⟩ (fun _ _ _ _ => trivial) ?_ ?_
              · rintro i x H4 H4' hi ⟨_, s4, xs, eD, lx, rl⟩ ⟨rfl, rfl⟩
                refine ⟨rfl, ?_⟩
                simp only [Int.zero_add]
                have hi9 : i < 9 := by omega
                obtain ⟨n1, n2, n3⟩ := nam_dig en (show i < 10 by omega)
                have il := int_len (i := (i : Int)) (by omega) (by omega)
                have sz : sizeLine = 16777216 := rfl
                have e0 : Str.empty.length = 0 := rfl
                have wk : wideK ev i = ((i : Int) + 1) * ev := rfl
                have w0 : 1 ≤ wideK ev i := by
                  have := Int.mul_le_mul (show 1 ≤ (i : Int) + 1 by omega) ea (by decide) (by omega)
                  omega
                have w1 : wideK ev i ≤ 1000 := by
                  have := Int.mul_le_mul_of_nonneg_right (show (i : Int) + 1 ≤ (st : Int) by omega) (show 0 ≤ ev by omega)
                  have q : (st : Int) * ev = ev * st := Int.mul_comm _ _
                  omega
                refine ⟨_, rfl, .inl ⟨_, rfl, by omega, _, rfl, by rw [Str.length_append]; omega, _, rfl, .inr ⟨_, rfl, log_small (by omega) (by omega), _, rfl, by rw [Str.length_append, Str.length_append]; omega, ?_⟩⟩⟩
                refine ⟨_, rfl, _, rfl, _, _, rfl, rfl, _, rfl, _, _, rfl, rfl, _, rfl, _, _, rfl, rfl, .inr ⟨by omega, by omega⟩, fun y dy hy hdy ny => ?_⟩
                have sA : Same H2 H4' := s4
                have yD : ¬ (F y ∨ y = D) := fun q => q.elim (fun q => nF_same hF (s2.trans sA) hy q) fun q => by rw [q, eD] at hy; cases hy
                refine ⟨y, dy, (fun b => F b ∨ b = D), wideK ev i, H4', rfl, upd_same, hy, yD, same_two hy hdy, w0, w1, fun H5 s5 RY => ⟨rfl, fun x dx hx hdx nx => ?_⟩⟩
                have sB := sA.trans s5
                have xD : ¬ (F x ∨ x = D) := fun q => q.elim (fun q => nF_same hF (s2.trans sB) hx q) fun q => by rw [q, s5 _ _ eD] at hx; cases hx
                have en' : Str.empty ++ z ++ Str.ofString (toString (i : Int)) = nameK z i := by rw [empty_app]; rfl
                rw [en']
                have ci : isNum (.int (si + (i : Int))) 1 1000 = true := num_true (by omega) (by omega)
                refine ⟨x, dx, (fun b => F b ∨ b = D), 0, .str (nameK z i), .int (si + (i : Int)), .ref y, H5, rfl, upd_same, hx, same_two hx hdx, n3, True.intro, .inr ⟨y, _, _, rfl, RY⟩, fun q => absurd (q.symm.trans n1) Bool.false_ne_true, fun _ q => absurd (q.symm.trans ci) Bool.false_ne_true, fun _ _ q => q.elim, ?_⟩
                intro nm ch u t' p' H6 q1 q2 q3 R6 _ _ s6 RA
                cases q1
                cases q2
                cases q3
                have eD6 := s6 _ _ (s5 _ _ eD)
                refine ⟨rfl, _, eD6, by rw [List.length_map, lx]; exact Nat.lt_trans hi9 (by decide), hi, fun c w ec => ?_, xs ++ [x], by rw [upd_same, List.map_append]; rfl, by rw [List.length_append, lx]; rfl, ?_⟩
                · rw [upd_ne (ne_of_none ec hD)]
                  exact s6 _ _ (sB _ _ ec)
                · have kd : KpF (fun b => F b ∨ b = D) H6 (upd H6 D (.lst (xs.map V.ref ++ [.ref x]))) := KpF.mut' (.inr rfl)
                  exact ((rl.kp (KpF.same (s5.trans s6))).snoc lx xD RA (RY.same s6)).kp kd
              · rintro H4 ⟨_, s4, xs, eD, lx, rl⟩
                exact k z si ev st st D xs H4 dn rfl rfl rfl rfl rfl (s2.trans s4) (s2.free hD) eD lx (rl.mono fun b q => .inl q)
def kg_ladder__size_name_steps_every {α : Type} (us ws : List α) : List α := match us, ws with | [], [a0, a1, a2, a3] => [a1, a0, a3, a2] | _, _ => []
theorem KB_ladder__size_name_steps_every {K : PySem.W.Frag} {f : Addr} {fd : FuncData} (F : Fun K "ladder" "ladder" sladder f fd) : KBinds K fd Pladder ["size", "name", "steps", "every"] kg_ladder__size_name_steps_every kg_ladder__size_name_steps_every := by
  obtain ⟨oc, od, kV, doc, pm, an, cdv, ct, osl, rfl, lk, hcd⟩ := F.ex
  refine ⟨fun s us ws _ hl => ?_, fun {vs us zs ws} r1 r2 => ?_⟩
  · match us, ws, hl with
    | [], [a0, a1, a2, a3], _ => exact .of_eq rfl
  · cases r1 with
    | cons _ _ => exact .nil
    | nil =>
      match zs, ws, r2 with
      | _, _, .cons r0 (.cons r1 (.cons r2 (.cons r3 (.nil)))) => exact .cons r1 (.cons r0 (.cons r3 (.cons r2 (Paired.nil))))
      | _, _, .nil => exact .nil
      | _, _, .cons _ (.nil) => exact .nil
      | _, _, .cons _ (.cons _ (.nil)) => exact .nil
      | _, _, .cons _ (.cons _ (.cons _ (.nil))) => exact .nil
      | _, _, .cons _ (.cons _ (.cons _ (.cons _ (.cons _ _)))) => exact .nil
end k10
namespace k10
open PySem L2 LC RM
def spbag (K : PySem.W.Frag) : Sp := fun vs H Q _ => ∃ (a : Addr) (ns : List Int), vs = [.ref a] ∧ SqL K H a (ns.map V.int) ∧ ns.length ≤ 63 ∧ ∀ g H', H g = none → Same H H' → (∃ l, Bag l H' g) → Q (.ref g) H'
theorem ok_bag {P : Program} {w : World} {K : PySem.W.Frag} {mg : Str → Option Value} {base : Heap} {f : Addr} {fd : FuncData} (D : Def K mg "_law_bag" sbag Pbag f fd) (T : Txt K mg) :
    FnOk P w K mg base CX0 1 f fd Pbag (spbag K) := by
  refine D.F.ok scbag (fun vs H Q E h => ?_) (fun cdv A outer s H vs Q E hr h => ?_)
  · obtain ⟨a, ns, rfl, hS, hl, k⟩ := h
    rfl
  · obtain ⟨a, ns, rfl, hS, hl, k⟩ := h
    refine ⟨_, (pss_cons (ps_set (i := 1) scbag.nd rfl (Or.inl rfl) pe_int)
        (pss_cons (ps_for PassesOwn.never rfl (pi_list (pe_slice sl_list (pv 0) po_none (po_some pe_int))) (pg_name (i := 2) scbag.nd rfl (Or.inl rfl))
          (pss_one (ps_set (i := 1) scbag.nd rfl (Or.inl rfl) (pe_op op_mod (pe_callTy call_int1 (by rfl) T.n_int (by decide +kernel) (pa_cons (pe_op op_add (pe_op op_add (pe_op op_mul (pv 1) pe_int) (pe_op op_mod (pe_callTy call_int1 (by rfl) T.n_int (by decide +kernel) (pa_cons (pv 2) pa_nil)) pe_int)) pe_int) pa_nil)) pe_int))))
        (pss_one (ps_ret (pe_lst (pa_cons (pe_callTy call_list_of (by rfl) T.n_list (by decide +kernel) (pa_cons (pe_slice sl_list (pv 0) po_none (po_some pe_int)) pa_nil)) (pa_cons pe_int (pa_cons pe_int (pa_cons (pv 1) (pa_cons pe_int pa_nil)))))))))), ?_⟩
    obtain ⟨ms, hms, hml⟩ := cut_ints ns none (some 63)
    refine ⟨_, rfl, _, rfl, a, _, rfl, hS, fun p hp => ?_⟩
    rw [hms]
    have s1 : Same H (upd H p (.lst (ms.map V.int))) := same_new hp
    refine ⟨p, rfl, ⟨_, SqL.of upd_same⟩, for_list (K := K) (a := p) (xs := ms.map V.int) (fun i σ H' => ∃ (s : Int) (v : Option V), σ = [some (.ref a), some (.int s), v] ∧ 0 ≤ s ∧ s < 2147483399 ∧ Same (upd H p (.lst (ms.map V.int))) H')
      ⟨13962, none, rfl, by decide, by decide, Same.refl _⟩ (fun i σ H' _ ⟨_, _, _, _, _, R⟩ => R.seq (SqL.of upd_same)) ?_ ?_⟩
    · rintro i y σ H' hi ⟨s, v, rfl, h1, h2, R⟩
      obtain ⟨u, rfl⟩ := int_of hi
      refine ⟨_, rfl, _, _, rfl, rfl, .inr ⟨by decide, by decide⟩, _, rfl, .inl ⟨_, rfl, _, _, rfl, rfl, (by show (0 : Int) < 2147483563; decide), _, _, rfl, rfl, _, _, rfl, rfl, .inl ⟨_, rfl, _, _, rfl, rfl, (by show (0 : Int) < 2147483399; decide), ?_⟩⟩⟩
      refine ⟨_, _, rfl, Int.emod_nonneg _ (by decide), Int.emod_lt_of_pos _ (by decide), R⟩
    · rintro σ H' ⟨s, v, rfl, h1, h2, R⟩
      refine ⟨_, rfl, _, rfl, a, _, rfl, (s1.trans R).seq hS, fun q hq => ?_⟩
      rw [hms]
      refine ⟨q, _, rfl, .inl (SqL.of upd_same), fun l hl' => ?_⟩
      refine ⟨_, rfl, (by show 5 ≤ sizeLine; decide), fun g hg => ?_⟩
      have r1 : Same H' (upd H' q (.lst (ms.map V.int))) := same_new hq
      have r2 := same_new (o := .lst (ms.map V.int)) hl'
      have r3 := same_new (o := .lst [V.ref l, V.int 0, V.int 0, V.int s, V.int 0]) hg
      refine k g _ (s1.free (R.free (r1.free (r2.free hg)))) (s1.trans (R.trans (r1.trans (r2.trans r3)))) ?_
      have ne : l ≠ g := fun e => by
        rw [← e, upd_same] at hg
        cases hg
      exact ⟨l, ms, 0, 0, s, 0, upd_same, ne, by rw [upd_ne ne]; exact upd_same, Int.le_refl _, Int.natCast_nonneg _, Int.le_refl _, h1, h2⟩
end k10
namespace k10
open PySem L2 LC RM
def spdraw : Sp := fun vs H Q _ => ∃ (g l : Addr) (n : Int), vs = [.ref g, .int n] ∧ Bag l H g ∧ 0 < n ∧ n < 1073741824 ∧ ∀ (d : Int) (H' : Hp), 0 ≤ d → d < n → Ok g l H H' → Q (.int d) H'
theorem ok_draw {P : Program} {w : World} {K : PySem.W.Frag} {mg : Str → Option Value} {base : Heap} {f : Addr} {fd : FuncData} (D : Def K mg "_law_draw" sdraw Pdraw f fd) (T : Txt K mg) :
    FnOk P w K mg base CX0 1 f fd Pdraw (spdraw) := by
  refine D.F.ok scdraw (fun vs H Q E h => ?_) (fun cdv A outer s H vs Q E hr h => ?_)
  · obtain ⟨g, l, n, rfl, B, n0, n1, k⟩ := h
    rfl
  · obtain ⟨g, l, n, rfl, B, n0, n1, k⟩ := h
    refine ⟨_, (pss_cons (ps_asg (pe_op op_add (pe_ix ix_list (pv 0) pe_int (fun _ _ => rfl)) pe_int) (pg_sub (pv 0) pe_int set_list))
        (Evl.pss_cut (ps_if (PW.pt (pw_and (pt_cmpR op_eq (pe_ix ix_list (pv 0) pe_int (fun _ _ => rfl)) pe_int (nomark _)) (pw_and1 (pt_cmpR op_lt (pe_ix ix_list (pv 0) pe_int (fun _ _ => rfl)) (pe_callB call_len (by rfl) T.n_len PySem.boot_len (pa_cons (pe_ix ix_list (pv 0) pe_int (fun _ _ => rfl)) pa_nil)) (nomark _))))) (pss_cons (ps_set (i := 2) scdraw.nd rfl (Or.inl rfl) (pe_ix ix_list (pe_ix ix_list (pv 0) pe_int (fun _ _ => rfl)) (pe_ix ix_list (pv 0) pe_int (fun _ _ => rfl)) (fun _ _ => rfl)))
        (pss_cons (ps_asg (pe_op op_add (pe_ix ix_list (pv 0) pe_int (fun _ _ => rfl)) pe_int) (pg_sub (pv 0) pe_int set_list))
        (pss_one (ps_if (pt_cmpR op_ge (pv 2) (pe_op op_pow pe_int pe_int) (nomark _)) (pss_one (ps_asg (pv 2) (pg_sub (pv 0) pe_int set_list))) (pss_one (ps_asg (pe_op op_mod (pe_callTy call_int1 (by rfl) T.n_int (by decide +kernel) (pa_cons (pe_op op_add (pe_op op_add (pe_op op_mul (pe_ix ix_list (pv 0) pe_int (fun _ _ => rfl)) pe_int) (pe_op op_mul (pe_op op_mod (pe_callTy call_int1 (by rfl) T.n_int (by decide +kernel) (pa_cons (pv 2) pa_nil)) pe_int) pe_int)) pe_int) pa_nil)) pe_int) (pg_sub (pv 0) pe_int set_list))))))) pss_nil)
        (pss_cons (ps_if (pt_cmpR op_gt (pe_ix ix_list (pv 0) pe_int (fun _ _ => rfl)) pe_int (nomark _)) (pss_cons (ps_set (i := 3) scdraw.nd rfl (Or.inl rfl) (pe_op op_modN (pe_callTy call_int1 (by rfl) T.n_int (by decide +kernel) (pa_cons (pe_ix ix_list (pv 0) pe_int (fun _ _ => rfl)) pa_nil)) (pv 1)))
        (pss_cons (ps_asg (pe_op op_fdivN (pe_ix ix_list (pv 0) pe_int (fun _ _ => rfl)) (pv 1)) (pg_sub (pv 0) pe_int set_list))
        (pss_one (ps_ret (pv 3))))) pss_nil)
        (pss_cons (ps_asg (pe_op op_mod (pe_callTy call_int1 (by rfl) T.n_int (by decide +kernel) (pa_cons (pe_op op_add (pe_op op_add (pe_op op_pow (pe_ix ix_list (pv 0) pe_int (fun _ _ => rfl)) pe_int) (pe_op op_mul (pe_ix ix_list (pv 0) pe_int (fun _ _ => rfl)) pe_int)) pe_int) pa_nil)) pe_int) (pg_sub (pv 0) pe_int set_list))
        (pss_one (ps_ret (pe_op op_modN (pe_callTy call_int1 (by rfl) T.n_int (by decide +kernel) (pa_cons (pe_op op_add (pe_op op_fdiv (pe_ix ix_list (pv 0) pe_int (fun _ _ => rfl)) pe_int) (pe_op op_mul (pe_op op_mod (pe_callTy call_int1 (by rfl) T.n_int (by decide +kernel) (pa_cons (pe_ix ix_list (pv 0) pe_int (fun _ _ => rfl)) pa_nil)) pe_int) pe_int)) pa_nil)) (pv 1)))))))), ?_⟩
    obtain ⟨ns, i, d, s, c, hg, lg, hl, i0, i1, d0, s0, s1⟩ := id B
    have up : ∀ (i' d' s' c' : Int) (H1 : Hp), Kp g H H1 → H1 l = some (.lst (ns.map V.int)) → Kp g H (upd H1 g (.lst [.ref l, .int i', .int d', .int s', .int c'])) ∧ upd H1 g (.lst [.ref l, .int i', .int d', .int s', .int c']) l = some (.lst (ns.map V.int)) :=
      fun i' d' s' c' H1 r q => ⟨r.bag, by rw [upd_ne lg]; exact q⟩
    -- b[4] = b[4] + 1
    refine ⟨_, rfl, _, _, _, _, rfl, rfl, SqL.of hg, rfl, _, _, rfl, rfl, _, rfl, g, _, _, 4, rfl, rfl, hg, rfl, ?_⟩
    obtain ⟨K1, L1⟩ := up i d s (c + 1) H (Kp.refl g H) hl
    -- the joined ways
    refine ⟨fun σ H' => ∃ (i' d' s' : Int) (v w : Option V), σ = [some (.ref g), some (.int n), v, w] ∧ H' g = some (.lst [.ref l, .int i', .int d', .int s', .int (c + 1)]) ∧ Kp g H H' ∧ H' l = some (.lst (ns.map V.int)) ∧ 0 ≤ i' ∧ i' ≤ ns.length ∧ 0 ≤ d' ∧ 0 ≤ s' ∧ s' < 2147483399, ?_, ?_⟩
    · refine ⟨_, rfl, _, _, _, _, rfl, rfl, SqL.of upd_same, rfl, rfl, _, rfl, ?_⟩
      refine ite_eq (fun e1 => ?_) (fun e1 => ?_)
      · refine ⟨_, rfl, _, _, _, _, rfl, rfl, SqL.of upd_same, rfl, _, rfl, _, _, _, _, rfl, rfl, SqL.of upd_same, rfl, _, _, rfl, .inl ⟨_, SqL.of L1, rfl⟩, _, _, rfl, rfl, _, rfl, ?_⟩
        refine ite_d (fun e2 => ?_) (fun e2 => ?_)
        · rw [List.length_map] at e2
          obtain ⟨j, rfl⟩ : ∃ j : Nat, i = (j : Int) := ⟨i.toNat, by omega⟩
          have hj : j < ns.length := by omega
          have hx : (ns.map V.int)[j]? = some (V.int ns[j]) := by rw [List.getElem?_map, List.getElem?_eq_getElem hj]; rfl
          -- item = b[0][b[1]]; b[1] = b[1] + 1
          refine ⟨_, rfl, _, _, _, _, rfl, rfl, SqL.of upd_same, rfl, _, rfl, _, _, _, _, rfl, rfl, SqL.of upd_same, rfl, _, _, _, _, rfl, rfl, SqL.of L1, atI_nat hx, ?_⟩
          refine ⟨_, rfl, _, _, _, _, rfl, rfl, SqL.of upd_same, rfl, _, _, rfl, rfl, _, rfl, g, _, _, 1, rfl, rfl, upd_same, rfl, ?_⟩
          obtain ⟨K2, L2⟩ := up ((j : Int) + 1) d s (c + 1) _ K1 L1
          refine ⟨_, rfl, _, _, rfl, rfl, ⟨by decide, by decide, by decide⟩, _, _, rfl, rfl, _, rfl, ?_⟩
          refine ite_d (fun e3 => ?_) (fun e3 => ?_)
          · refine ⟨_, rfl, _, rfl, g, _, _, 2, rfl, rfl, upd_same, rfl, ?_⟩
            obtain ⟨K3, L3⟩ := up ((j : Int) + 1) ns[j] s (c + 1) _ K2 L2
            exact ⟨_, _, _, _, _, rfl, upd_same, K3, L3, by omega, by omega, Int.le_trans (by decide) e3, s0, s1⟩
          · refine ⟨_, rfl, _, _, _, _, rfl, rfl, SqL.of upd_same, rfl, _, _, rfl, rfl, .inr ⟨by decide, by decide⟩, _, rfl, .inl ⟨_, rfl, _, _, rfl, rfl, (by show (0 : Int) < 2147483549; decide), _, _, rfl, rfl, .inr ⟨by decide, by decide⟩, _, _, rfl, rfl, _, _, rfl, rfl, .inl ⟨_, rfl, _, _, rfl, rfl, (by show (0 : Int) < 2147483399; decide), ?_⟩⟩⟩
            refine ⟨_, rfl, g, _, _, 3, rfl, rfl, upd_same, rfl, ?_⟩
            obtain ⟨K3, L3⟩ := up ((j : Int) + 1) d ((s * 69621 + ns[j] % 2147483549 * 30103 + 89) % 2147483399) (c + 1) _ K2 L2
            exact ⟨_, _, _, _, _, rfl, upd_same, K3, L3, by omega, by omega, d0, Int.emod_nonneg _ (by decide), Int.emod_lt_of_pos _ (by decide)⟩
        · exact ⟨_, _, _, _, _, rfl, upd_same, K1, L1, i0, i1, d0, s0, s1⟩
      · refine iteF ?_
        exact ⟨_, _, _, _, _, rfl, upd_same, K1, L1, i0, i1, d0, s0, s1⟩
    · rintro σ H' ⟨i', d', s', v, w, rfl, hg', K1, L1, i0, i1, d0, s0, s1⟩
      have bag : ∀ (d'' s'' : Int), 0 ≤ d'' → 0 ≤ s'' → s'' < 2147483399 → Bag l (upd H' g (.lst [.ref l, .int i', .int d'', .int s'', .int (c + 1)])) g := fun d'' s'' h1 h2 h3 =>
        ⟨ns, i', d'', s'', c + 1, upd_same, lg, by rw [upd_ne lg]; exact L1, i0, i1, h1, h2, h3⟩
      refine ⟨_, rfl, _, _, _, _, rfl, rfl, SqL.of hg', rfl, _, _, rfl, rfl, _, rfl, ?_⟩
      refine ite_d (fun e1 => ?_) (fun e1 => ?_)
      · refine ⟨_, rfl, _, _, _, _, rfl, rfl, SqL.of hg', rfl, .inl ⟨_, rfl, _, rfl, _, _, rfl, rfl, (by omega), ?_⟩⟩
        refine ⟨_, rfl, _, _, _, _, rfl, rfl, SqL.of hg', rfl, _, rfl, _, _, rfl, rfl, ⟨by omega, by omega⟩, _, rfl, g, _, _, 2, rfl, rfl, hg', rfl, _, rfl, ?_⟩
        refine k _ _ (fmod_nn _ n0) (fmod_lt _ n0) ⟨B, K1.bag, bag _ s' ?_ s0 s1⟩
        rw [Int.fdiv_eq_ediv_of_nonneg _ (Int.le_of_lt n0)]
        exact Int.ediv_nonneg d0 (Int.le_of_lt n0)
      · refine ⟨_, rfl, _, _, _, _, rfl, rfl, SqL.of hg', rfl, _, _, rfl, rfl, ⟨by decide, by decide, by omega⟩, _, rfl, _, _, _, _, rfl, rfl, SqL.of hg', rfl, _, _, rfl, rfl, .inr ⟨by decide, by decide⟩, _, _, rfl, rfl, _, _, rfl, rfl, .inl ⟨_, rfl, _, _, rfl, rfl, (by show (0 : Int) < 2147483399; decide), ?_⟩⟩
        refine ⟨_, rfl, g, _, _, 3, rfl, rfl, hg', rfl, ?_⟩
        refine ⟨_, rfl, _, _, _, _, rfl, rfl, SqL.of upd_same, rfl, _, _, rfl, rfl, ⟨by decide, by decide⟩, _, rfl, _, _, _, _, rfl, rfl, SqL.of upd_same, rfl, .inl ⟨_, rfl, _, _, rfl, rfl, (by show (0 : Int) < 7901; decide), _, _, rfl, rfl, .inr ⟨by decide, by decide⟩, _, _, rfl, rfl, .inl ⟨_, rfl, _, rfl, _, _, rfl, rfl, (by omega), ?_⟩⟩⟩
        exact k _ _ (fmod_nn _ n0) (fmod_lt _ n0) ⟨B, K1.bag, bag d' _ d0 (Int.emod_nonneg _ (by decide)) (Int.emod_lt_of_pos _ (by decide))⟩
end k10
namespace k10
open PySem L2 LC RM
inductive Src (K : PySem.W.Frag) (g : Addr) (H : Hp) : V → (V → Prop) → Prop where
  | lst {a : Addr} {xs : List V} (h : SqL K H a xs) (n : a ≠ g) (h0 : 0 < xs.length) (h1 : xs.length ≤ 1000000) : Src K g H (.ref a) fun x => x ∈ xs
  | tup {a : Addr} {xs : List V} (h : SqT K H a xs) (n : a ≠ g) (h0 : 0 < xs.length) (h1 : xs.length ≤ 1000000) : Src K g H (.ref a) fun x => x ∈ xs
  | str {z : Str} (h0 : 0 < z.length) (h1 : z.length ≤ 1000000) : Src K g H (.str z) fun x => ∃ c ∈ z.cps.toList, x = .str ⟨#[c]⟩
def spof (K : PySem.W.Frag) : Sp := fun vs H Q _ => ∃ (g l : Addr) (t : V) (F : V → Prop), vs = [.ref g, t] ∧ Bag l H g ∧ Src K g H t F ∧ ∀ x H', F x → Ok g l H H' → Q x H'
theorem ok_of {P : Program} {w : World} {K : PySem.W.Frag} {mg : Str → Option Value} {base : Heap} {f : Addr} {fd : FuncData} (D : Def K mg "_law_of" sof Pof f fd) (T : Txt K mg) {fdraw : Addr} {fddraw : FuncData} (Ddraw : Def K mg "_law_draw" sdraw Pdraw fdraw fddraw) (Gdraw : FnOk P w K mg base CX0 1 fdraw fddraw Pdraw (spdraw)) :
    FnOk P w K mg base CX0 2 f fd Pof (spof K) := by
  refine D.F.ok scof (fun vs H Q E h => ?_) (fun cdv A outer s H vs Q E hr h => ?_)
  · obtain ⟨g, l, t, F, rfl, B, S, k⟩ := h
    rfl
  · obtain ⟨g, l, t, F, rfl, B, S, k⟩ := h
    have hrdraw : Room 1 _ := hr.mono (by decide)
    refine ⟨_, (pss_one (ps_ret (pe_ix ix_seq (pv 1) (pe_call Gdraw hrdraw rfl Ddraw.g Ddraw.F.kp Ddraw.b .nil pass0 (pa_cons (pv 0) (pa_cons (pe_callB call_len (by rfl) T.n_len PySem.boot_len (pa_cons (pv 1) pa_nil)) pa_nil))) (fun _ _ => rfl)))), ?_⟩
    cases S with
    | @lst a xs h n h0 h1 =>
      refine ⟨_, rfl, _, rfl, _, rfl, _, _, rfl, .inl ⟨xs, h, rfl⟩, g, l, _, rfl, B, by omega, by omega, fun d H' d0 d1 r => ?_⟩
      obtain ⟨j, rfl⟩ : ∃ j : Nat, d = (j : Int) := ⟨d.toNat, by omega⟩
      have hj : j < xs.length := by omega
      exact .inl ⟨_, _, _, _, rfl, rfl, SqL.kp r.kp n h, atI_nat (List.getElem?_eq_getElem hj), k _ _ (List.getElem_mem hj) r⟩
    | @tup a xs h n h0 h1 =>
      refine ⟨_, rfl, _, rfl, _, rfl, _, _, rfl, .inr ⟨xs, h, rfl⟩, g, l, _, rfl, B, by omega, by omega, fun d H' d0 d1 r => ?_⟩
      obtain ⟨j, rfl⟩ : ∃ j : Nat, d = (j : Int) := ⟨d.toNat, by omega⟩
      have hj : j < xs.length := by omega
      exact .inr (.inl ⟨_, _, _, _, rfl, rfl, SqT.kp r.kp n h, atI_nat (List.getElem?_eq_getElem hj), k _ _ (List.getElem_mem hj) r⟩)
    | @str z h0 h1 =>
      have hz : z.length ≤ sizeLine := Nat.le_trans h1 (by decide)
      refine ⟨_, rfl, _, rfl, _, rfl, _, _, rfl, ⟨hz, rfl⟩, g, l, _, rfl, B, by omega, by omega, fun d H' d0 d1 r => ?_⟩
      obtain ⟨j, rfl⟩ : ∃ j : Nat, d = (j : Int) := ⟨d.toNat, by omega⟩
      have hj : j < z.cps.toList.length := by
        have e : z.cps.toList.length = z.length := rfl
        omega
      exact .inr (.inr ⟨_, _, _, rfl, rfl, hz, atI_nat (List.getElem?_eq_getElem hj), k _ _ ⟨_, List.getElem_mem hj, rfl⟩ r⟩)
/-- one of the things of a new list -/
theorem of_disp {K : PySem.W.Frag} {g l p : Addr} {H0 H : Hp} {xs : List V} {Q : VK} {E : XK} (R : Ok g l H0 H) (hp : H p = none) (h0 : 0 < xs.length) (h1 : xs.length ≤ 1000000) (k : ∀ x H', x ∈ xs → Kp g H H' → Ok g l H0 H' → Q x H') :
    spof K [.ref g, .ref p] (upd H p (.lst xs)) Q E := by
  refine ⟨g, l, .ref p, _, rfl, (R.new hp).bag, .lst (SqL.of upd_same) (R.bag.ne hp).1 h0 h1, fun x H' hx r => ?_⟩
  exact k x H' hx ((Ok.new (Ok.refl R.bag) hp).kp.trans r.kp) ((R.new hp).trans r)
end k10
namespace k10
open PySem L2 LC RM
def splike (n : Nat) : Sp := fun vs H Q _ => ∃ (u v : V) (m : Nat), vs = [u, v] ∧ m < n ∧ Lq H m u v ∧ ∀ H', Same H H' → Q (.bl true) H'
theorem no_like {vs : List V} {H : Hp} {Q : VK} {E : XK} (h : splike 0 vs H Q E) : False := by
  obtain ⟨_, _, _, _, h, _⟩ := h
  exact Nat.not_lt_zero _ h

theorem step_like {P : Program} {w : World} {K : PySem.W.Frag} {mg : Str → Option Value} {base : Heap} {f : Addr} {fd : FuncData} (D : Def K mg "_law_like" slike Plike f fd) (T : Txt K mg) {n : Nat} (Glike : FnOk P w K mg base CX0 (n + 0) f fd Plike (splike n)) :
    FnOk P w K mg base CX0 (n + 1) f fd Plike (splike (n + 1)) := by
  refine D.F.ok sclike (fun vs H Q E h => ?_) (fun cdv A outer s H vs Q E hr h => ?_)
  · obtain ⟨u, v, m, rfl, hm, hl, k⟩ := h
    rfl
  · obtain ⟨u, v, m, rfl, hm, hl, k⟩ := h
    have Dlike := D
    have hrlike : Room (n + 0) _ := hr
    refine ⟨_, (pss_cons (ps_if (pt_val (pe_callB call_isiT (by rfl) T.n_isinstance (by decide +kernel) (pa_cons (pv 1) (pa_cons (pe_tup (pa_cons (pe_ty "list" (by rfl) T.n_list (by decide +kernel)) (pa_cons (pe_ty "tuple" (by rfl) T.n_tuple (by decide +kernel)) pa_nil))) pa_nil)))) (pss_cons (ps_if (PW.pt (pw_or (pt_cmpR op_ne (pe_callB call_isi (by rfl) T.n_isinstance (by decide +kernel) (pa_cons (pv 0) (pa_cons (pe_ty "list" (by rfl) T.n_list (by decide +kernel)) pa_nil))) (pe_callB call_isi (by rfl) T.n_isinstance (by decide +kernel) (pa_cons (pv 1) (pa_cons (pe_ty "list" (by rfl) T.n_list (by decide +kernel)) pa_nil))) (nomark _)) (pw_or1 (pt_cmpR op_ne (pe_callB call_isi (by rfl) T.n_isinstance (by decide +kernel) (pa_cons (pv 0) (pa_cons (pe_ty "tuple" (by rfl) T.n_tuple (by decide +kernel)) pa_nil))) (pe_callB call_isi (by rfl) T.n_isinstance (by decide +kernel) (pa_cons (pv 1) (pa_cons (pe_ty "tuple" (by rfl) T.n_tuple (by decide +kernel)) pa_nil))) (nomark _))))) (pss_one (ps_ret pe_bl)) pss_nil)
        (pss_one (ps_ret (pe_and (pe_cmpR op_eq (pe_callB call_len (by rfl) T.n_len PySem.boot_len (pa_cons (pv 0) pa_nil)) (pe_callB call_len (by rfl) T.n_len PySem.boot_len (pa_cons (pv 1) pa_nil)) (nomark _)) (pe_one (pe_callB (cr_all rfl) (by rfl) T.n_all (by decide +kernel) (pa_cons (pe_lc (own := [("_law_a", 2), ("_law_b", 3)]) (g := gTup _ 2 (gCons (gName 2) (gCons (gName 3) gNil))) (tt := tYes) rfl sclike.nd (RZ.pi_zipA (by rfl) T.n_zip (pa_cons (pv 0) (pa_cons (pv 1) pa_nil))) (blkOk_by (own := [("_law_a", 2), ("_law_b", 3)]) (N := Nmlike) (sc := defScope slike) (by decide +kernel)) (fun _ _ _ _ _ => by exact (pg_tup rfl (pgs_cons (pg_name (i := 2) sclike.nd rfl (Or.inl rfl)) (pgs_cons (pg_name (i := 3) sclike.nd rfl (Or.inl rfl)) pgs_nil)))) (fun _ _ _ _ _ => pts_nil) (fun _ _ _ _ _ => (pe_call Glike hrlike rfl Dlike.g Dlike.F.kp Dlike.b .nil pass0 (pa_cons (pv 2) (pa_cons (pv 3) pa_nil))))) pa_nil))))))) pss_nil)
        (pss_cons (ps_if (PW.pt (pw_or (pt_cmpR op_isN (pv 1) pe_non (nomark _)) (pw_or1 (pt_cmpR op_isN (pv 0) pe_non (nomark _))))) (pss_one (ps_ret (pe_and (pe_cmpR op_isN (pv 1) pe_non (nomark _)) (pe_one (pe_cmpR op_isN (pv 0) pe_non (nomark _)))))) pss_nil)
        (pss_cons (ps_if (PW.pt (pw_or (pt_val (pe_callB call_isiT (by rfl) T.n_isinstance (by decide +kernel) (pa_cons (pv 0) (pa_cons (pe_tup (pa_cons (pe_ty "list" (by rfl) T.n_list (by decide +kernel)) (pa_cons (pe_ty "tuple" (by rfl) T.n_tuple (by decide +kernel)) pa_nil))) pa_nil)))) (pw_or1 (pt_cmpR op_ne (pe_callB call_isi (by rfl) T.n_isinstance (by decide +kernel) (pa_cons (pv 0) (pa_cons (pe_ty "bool" (by rfl) T.n_bool (by decide +kernel)) pa_nil))) (pe_callB call_isi (by rfl) T.n_isinstance (by decide +kernel) (pa_cons (pv 1) (pa_cons (pe_ty "bool" (by rfl) T.n_bool (by decide +kernel)) pa_nil))) (nomark _))))) (pss_one (ps_ret pe_bl)) pss_nil)
        (pss_cons (ps_if (PW.pt (pw_or (pt_cmpR op_ne (pe_callB call_isi (by rfl) T.n_isinstance (by decide +kernel) (pa_cons (pv 0) (pa_cons (pe_ty "str" (by rfl) T.n_str (by decide +kernel)) pa_nil))) (pe_callB call_isi (by rfl) T.n_isinstance (by decide +kernel) (pa_cons (pv 1) (pa_cons (pe_ty "str" (by rfl) T.n_str (by decide +kernel)) pa_nil))) (nomark _)) (pw_or1 (pt_cmpR op_ne (pe_callB call_isi (by rfl) T.n_isinstance (by decide +kernel) (pa_cons (pv 0) (pa_cons (pe_ty "int" (by rfl) T.n_int (by decide +kernel)) pa_nil))) (pe_callB call_isi (by rfl) T.n_isinstance (by decide +kernel) (pa_cons (pv 1) (pa_cons (pe_ty "int" (by rfl) T.n_int (by decide +kernel)) pa_nil))) (nomark _))))) (pss_one (ps_ret pe_bl)) pss_nil)
        (pss_cons (ps_if (pt_cmpR op_ne (pe_callB call_isi (by rfl) T.n_isinstance (by decide +kernel) (pa_cons (pv 0) (pa_cons (pe_ty "dict" (by rfl) T.n_dict (by decide +kernel)) pa_nil))) (pe_callB call_isi (by rfl) T.n_isinstance (by decide +kernel) (pa_cons (pv 1) (pa_cons (pe_ty "dict" (by rfl) T.n_dict (by decide +kernel)) pa_nil))) (nomark _)) (pss_one (ps_ret pe_bl)) pss_nil)
        (pss_one (ps_ret (pe_callTy call_bool1 (by rfl) T.n_bool (by decide +kernel) (pa_cons (pe_cmpR (op_eqS hr.units) (pv 0) (pv 1) (nomark _)) pa_nil))))))))), ?_⟩
    rcases hl.cases with ⟨rfl, hs⟩ | ⟨p, ks, rfl, rfl, hp, hok⟩ | ⟨j, rfl, bb, p, q, xs, ys, rfl, rfl, hp, hq, hn, hz, hi⟩
    · cases u with
      | int c =>
        refine ⟨_, rfl, (by show 2 ≤ sizeLine; decide), fun t1 ht1 => ?_⟩
        have s1 := same_new (o := .tup [.ty "list", .ty "tuple"]) ht1
        refine ⟨_, t1, _, _, _, false, rfl, upd_same, .cons (.ty _) (.cons (.ty _) .nil), .base (.int c), kLT_int, _, rfl, iteF ?_⟩
        generalize upd H t1 (.tup [.ty "list", .ty "tuple"]) = H1 at s1 ⊢
        refine ⟨_, rfl, rfl, _, rfl, ite_d (fun h => by cases h) (fun _ => ⟨_, rfl, rfl, _, rfl, ite_d (fun h => by cases h) (fun _ => ?_)⟩)⟩
        refine ⟨_, rfl, (by show 2 ≤ sizeLine; decide), fun t2 ht2 => ?_⟩
        have s2 := s1.trans (same_new (o := .tup [.ty "list", .ty "tuple"]) ht2)
        refine ⟨_, t2, _, _, _, false, rfl, upd_same, .cons (.ty _) (.cons (.ty _) .nil), .base (.int c), kLT_int, _, rfl, iteF ?_⟩
        generalize upd H1 t2 (.tup [.ty "list", .ty "tuple"]) = H2 at s2 ⊢
        refine ⟨_, rfl, _, _, _, _, _, rfl, .ty _, .base (.int c), kit_ty (show kitB "int" "bool" = some false by decide +kernel), _, rfl, _, _, _, _, _, rfl, .ty _, .base (.int c), kit_ty (show kitB "int" "bool" = some false by decide +kernel), rfl, _, rfl, iteF ?_⟩
        refine ⟨_, rfl, _, _, _, _, _, rfl, .ty _, .base (.int c), kit_ty (show kitB "int" "str" = some false by decide +kernel), _, rfl, _, _, _, _, _, rfl, .ty _, .base (.int c), kit_ty (show kitB "int" "str" = some false by decide +kernel), rfl, _, rfl, iteF ?_⟩
        refine ⟨_, rfl, _, _, _, _, _, rfl, .ty _, .base (.int c), kit_ty (show kitB "int" "int" = some true by decide +kernel), _, rfl, _, _, _, _, _, rfl, .ty _, .base (.int c), kit_ty (show kitB "int" "int" = some true by decide +kernel), rfl, _, rfl, iteF ?_⟩
        refine ⟨_, rfl, _, _, _, _, _, rfl, .ty _, .base (.int c), kit_ty (show kitB "int" "dict" = some false by decide +kernel), _, rfl, _, _, _, _, _, rfl, .ty _, .base (.int c), kit_ty (show kitB "int" "dict" = some false by decide +kernel), rfl, _, rfl, iteF ?_⟩
        refine ⟨_, rfl, _, rfl, .inl ⟨rfl, .inr ⟨_, rfl, ?_⟩⟩⟩
        rw [decide_eq_true rfl]
        exact k H2 s2
      | bl c =>
        refine ⟨_, rfl, (by show 2 ≤ sizeLine; decide), fun t1 ht1 => ?_⟩
        have s1 := same_new (o := .tup [.ty "list", .ty "tuple"]) ht1
        refine ⟨_, t1, _, _, _, false, rfl, upd_same, .cons (.ty _) (.cons (.ty _) .nil), .base (.bl c), kLT_bool, _, rfl, iteF ?_⟩
        generalize upd H t1 (.tup [.ty "list", .ty "tuple"]) = H1 at s1 ⊢
        refine ⟨_, rfl, rfl, _, rfl, ite_d (fun h => by cases h) (fun _ => ⟨_, rfl, rfl, _, rfl, ite_d (fun h => by cases h) (fun _ => ?_)⟩)⟩
        refine ⟨_, rfl, (by show 2 ≤ sizeLine; decide), fun t2 ht2 => ?_⟩
        have s2 := s1.trans (same_new (o := .tup [.ty "list", .ty "tuple"]) ht2)
        refine ⟨_, t2, _, _, _, false, rfl, upd_same, .cons (.ty _) (.cons (.ty _) .nil), .base (.bl c), kLT_bool, _, rfl, iteF ?_⟩
        generalize upd H1 t2 (.tup [.ty "list", .ty "tuple"]) = H2 at s2 ⊢
        refine ⟨_, rfl, _, _, _, _, _, rfl, .ty _, .base (.bl c), kit_ty (show kitB "bool" "bool" = some true by decide +kernel), _, rfl, _, _, _, _, _, rfl, .ty _, .base (.bl c), kit_ty (show kitB "bool" "bool" = some true by decide +kernel), rfl, _, rfl, iteF ?_⟩
        refine ⟨_, rfl, _, _, _, _, _, rfl, .ty _, .base (.bl c), kit_ty (show kitB "bool" "str" = some false by decide +kernel), _, rfl, _, _, _, _, _, rfl, .ty _, .base (.bl c), kit_ty (show kitB "bool" "str" = some false by decide +kernel), rfl, _, rfl, iteF ?_⟩
        refine ⟨_, rfl, _, _, _, _, _, rfl, .ty _, .base (.bl c), kit_ty (show kitB "bool" "int" = some true by decide +kernel), _, rfl, _, _, _, _, _, rfl, .ty _, .base (.bl c), kit_ty (show kitB "bool" "int" = some true by decide +kernel), rfl, _, rfl, iteF ?_⟩
        refine ⟨_, rfl, _, _, _, _, _, rfl, .ty _, .base (.bl c), kit_ty (show kitB "bool" "dict" = some false by decide +kernel), _, rfl, _, _, _, _, _, rfl, .ty _, .base (.bl c), kit_ty (show kitB "bool" "dict" = some false by decide +kernel), rfl, _, rfl, iteF ?_⟩
        refine ⟨_, rfl, _, rfl, .inl ⟨rfl, .inr ⟨_, rfl, ?_⟩⟩⟩
        rw [decide_eq_true rfl]
        exact k H2 s2
      | str c =>
        refine ⟨_, rfl, (by show 2 ≤ sizeLine; decide), fun t1 ht1 => ?_⟩
        have s1 := same_new (o := .tup [.ty "list", .ty "tuple"]) ht1
        refine ⟨_, t1, _, _, _, false, rfl, upd_same, .cons (.ty _) (.cons (.ty _) .nil), .base (.str c), kLT_str, _, rfl, iteF ?_⟩
        generalize upd H t1 (.tup [.ty "list", .ty "tuple"]) = H1 at s1 ⊢
        refine ⟨_, rfl, rfl, _, rfl, ite_d (fun h => by cases h) (fun _ => ⟨_, rfl, rfl, _, rfl, ite_d (fun h => by cases h) (fun _ => ?_)⟩)⟩
        refine ⟨_, rfl, (by show 2 ≤ sizeLine; decide), fun t2 ht2 => ?_⟩
        have s2 := s1.trans (same_new (o := .tup [.ty "list", .ty "tuple"]) ht2)
        refine ⟨_, t2, _, _, _, false, rfl, upd_same, .cons (.ty _) (.cons (.ty _) .nil), .base (.str c), kLT_str, _, rfl, iteF ?_⟩
        generalize upd H1 t2 (.tup [.ty "list", .ty "tuple"]) = H2 at s2 ⊢
        refine ⟨_, rfl, _, _, _, _, _, rfl, .ty _, .base (.str c), kit_ty (show kitB "str" "bool" = some false by decide +kernel), _, rfl, _, _, _, _, _, rfl, .ty _, .base (.str c), kit_ty (show kitB "str" "bool" = some false by decide +kernel), rfl, _, rfl, iteF ?_⟩
        refine ⟨_, rfl, _, _, _, _, _, rfl, .ty _, .base (.str c), kit_ty (show kitB "str" "str" = some true by decide +kernel), _, rfl, _, _, _, _, _, rfl, .ty _, .base (.str c), kit_ty (show kitB "str" "str" = some true by decide +kernel), rfl, _, rfl, iteF ?_⟩
        refine ⟨_, rfl, _, _, _, _, _, rfl, .ty _, .base (.str c), kit_ty (show kitB "str" "int" = some false by decide +kernel), _, rfl, _, _, _, _, _, rfl, .ty _, .base (.str c), kit_ty (show kitB "str" "int" = some false by decide +kernel), rfl, _, rfl, iteF ?_⟩
        refine ⟨_, rfl, _, _, _, _, _, rfl, .ty _, .base (.str c), kit_ty (show kitB "str" "dict" = some false by decide +kernel), _, rfl, _, _, _, _, _, rfl, .ty _, .base (.str c), kit_ty (show kitB "str" "dict" = some false by decide +kernel), rfl, _, rfl, iteF ?_⟩
        refine ⟨_, rfl, _, rfl, .inl ⟨rfl, .inr ⟨_, rfl, ?_⟩⟩⟩
        rw [decide_eq_true rfl]
        exact k H2 s2
      | non =>
        refine ⟨_, rfl, (by show 2 ≤ sizeLine; decide), fun t1 ht1 => ?_⟩
        have s1 := same_new (o := .tup [.ty "list", .ty "tuple"]) ht1
        refine ⟨_, t1, _, _, _, false, rfl, upd_same, .cons (.ty _) (.cons (.ty _) .nil), .base .non, kLT_non, _, rfl, iteF ?_⟩
        generalize upd H t1 (.tup [.ty "list", .ty "tuple"]) = H1 at s1 ⊢
        refine ⟨_, rfl, rfl, _, rfl, ite_d (fun _ => ⟨_, rfl, rfl, _, rfl, ite_d (fun _ => ⟨_, rfl, rfl, ?_⟩) (fun h => absurd rfl h)⟩) (fun h => absurd rfl h)⟩
        rw [decide_eq_true rfl]
        exact k H1 s1
      | _ => exact hs.elim
    · refine ⟨_, rfl, (by show 2 ≤ sizeLine; decide), fun t1 ht1 => ?_⟩
      have s1 := same_new (o := .tup [.ty "list", .ty "tuple"]) ht1
      refine ⟨_, t1, _, _, _, false, rfl, upd_same, .cons (.ty _) (.cons (.ty _) .nil), .base (.dK (s1 _ _ hp)), kLT_dK, _, rfl, iteF ?_⟩
      have hp1 := s1 _ _ hp
      generalize upd H t1 (.tup [.ty "list", .ty "tuple"]) = H1 at s1 hp1 ⊢
      refine ⟨_, rfl, rfl, _, rfl, ite_d (fun h => by cases h) (fun _ => ⟨_, rfl, rfl, _, rfl, ite_d (fun h => by cases h) (fun _ => ?_)⟩)⟩
      refine ⟨_, rfl, (by show 2 ≤ sizeLine; decide), fun t2 ht2 => ?_⟩
      have s2 := s1.trans (same_new (o := .tup [.ty "list", .ty "tuple"]) ht2)
      refine ⟨_, t2, _, _, _, false, rfl, upd_same, .cons (.ty _) (.cons (.ty _) .nil), .base (.dK (s2 _ _ hp)), kLT_dK, _, rfl, iteF ?_⟩
      have hp2 := s2 _ _ hp
      generalize upd H1 t2 (.tup [.ty "list", .ty "tuple"]) = H2 at s2 hp2 ⊢
      refine ⟨_, rfl, _, _, _, _, _, rfl, .ty _, .base (.dK hp2), kit_ty (show kitB "dict" "bool" = some false by decide +kernel), _, rfl, _, _, _, _, _, rfl, .ty _, .base (.dK hp2), kit_ty (show kitB "dict" "bool" = some false by decide +kernel), rfl, _, rfl, iteF ?_⟩
      refine ⟨_, rfl, _, _, _, _, _, rfl, .ty _, .base (.dK hp2), kit_ty (show kitB "dict" "str" = some false by decide +kernel), _, rfl, _, _, _, _, _, rfl, .ty _, .base (.dK hp2), kit_ty (show kitB "dict" "str" = some false by decide +kernel), rfl, _, rfl, iteF ?_⟩
      refine ⟨_, rfl, _, _, _, _, _, rfl, .ty _, .base (.dK hp2), kit_ty (show kitB "dict" "int" = some false by decide +kernel), _, rfl, _, _, _, _, _, rfl, .ty _, .base (.dK hp2), kit_ty (show kitB "dict" "int" = some false by decide +kernel), rfl, _, rfl, iteF ?_⟩
      refine ⟨_, rfl, _, _, _, _, _, rfl, .ty _, .base (.dK hp2), kit_ty (show kitB "dict" "dict" = some true by decide +kernel), _, rfl, _, _, _, _, _, rfl, .ty _, .base (.dK hp2), kit_ty (show kitB "dict" "dict" = some true by decide +kernel), rfl, _, rfl, iteF ?_⟩
      exact ⟨_, rfl, _, rfl, .inr ⟨p, ks, rfl, rfl, hp2, hok, .inr ⟨_, rfl, k H2 s2⟩⟩⟩
    · cases bb with
      | true =>
        have hp : H p = some (.lst xs) := hp
        have hq : H q = some (.lst ys) := hq
        refine ⟨_, rfl, (by show 2 ≤ sizeLine; decide), fun t1 ht1 => ?_⟩
        have s1 := same_new (o := .tup [.ty "list", .ty "tuple"]) ht1
        have hp1 := s1 _ _ hp
        have hq1 := s1 _ _ hq
        refine ⟨_, t1, _, _, _, true, rfl, upd_same, .cons (.ty _) (.cons (.ty _) .nil), .base (.lst hq1), kLT_lst, _, rfl, iteT ?_⟩
        generalize upd H t1 (.tup [.ty "list", .ty "tuple"]) = H1 at s1 hp1 hq1 ⊢
        refine ⟨_, rfl, _, _, _, _, _, rfl, .ty _, .base (.lst hp1), kit_ty (show kitB "list" "list" = some true by decide +kernel), _, rfl, _, _, _, _, _, rfl, .ty _, .base (.lst hq1), kit_ty (show kitB "list" "list" = some true by decide +kernel), rfl, _, rfl, iteF ?_⟩
        refine ⟨_, rfl, _, _, _, _, _, rfl, .ty _, .base (.lst hp1), kit_ty (show kitB "list" "tuple" = some false by decide +kernel), _, rfl, _, _, _, _, _, rfl, .ty _, .base (.lst hq1), kit_ty (show kitB "list" "tuple" = some false by decide +kernel), rfl, _, rfl, iteF ?_⟩
        refine ⟨_, rfl, _, _, rfl, .inl ⟨_, SqL.of hp1, rfl⟩, _, rfl, _, _, rfl, .inl ⟨_, SqL.of hq1, rfl⟩, rfl, _, rfl, ite_d (fun _ => ?_) (fun h => absurd (by rw [hn]) h)⟩
        refine ⟨_, rfl, _, rfl, p, q, _, _, rfl, .inl ⟨SqL.of hp1, SqL.of hq1, fun D hD => ?_⟩⟩
        refine lc_it (walk_zip (K := K) (a := p) (b := q) (xs := xs) (ys := ys) (n := xs.length) (by rw [← hn, Nat.min_self])) (fun i H' => i ≤ xs.length ∧ Same H1 H' ∧ H' D = some (.lst ((List.replicate i true).map V.bl)))
          ⟨Nat.zero_le _, same_new hD, upd_same⟩ (fun i H' _ ⟨_, s, _⟩ => ⟨s.seq (SqL.of hp1), s.seq (SqL.of hq1)⟩) ?_ ?_
        · rintro i x H2 H3 hlt ⟨_, s2, h2⟩ ⟨T, x1, x2, rfl, hT, rfl, e1, e2⟩
          have nT : D ≠ T := ne_of_none h2 hT
          refine ⟨T, _, rfl, SqT.of upd_same, rfl, _, _, rfl, _, _, rfl, rfl, rfl, ?_⟩
          have s3 := same_new (o := .tup [x1, x2]) hT
          refine ⟨_, rfl, _, rfl, x1, x2, j, rfl, by omega, ((hi i x1 x2 e1 e2).same s1).same (s2.trans s3), fun H4 s4 => ⟨_, s4 _ _ (s3 _ _ h2), ?_, hlt, fun b o e => ?_, ?_⟩⟩
          · rw [List.length_map, List.length_replicate]
            exact Nat.lt_of_le_of_lt (Nat.le_trans (Nat.le_of_lt hlt) hz) (by decide)
          · rw [upd_ne (ne_of_none e hD)]
            exact s4 _ _ (s3 _ _ (s2 _ _ e))
          · rw [upd_same, List.replicate_succ', List.map_append]
            rfl
        · rintro H2 ⟨_, s2, h2⟩
          refine ⟨D, List.replicate xs.length true, rfl, SqL.of h2, ?_⟩
          have e : (List.replicate xs.length true).all id = true := by simp
          rw [e]
          exact k H2 (s1.trans s2)
      | false =>
        have hp : H p = some (.tup xs) := hp
        have hq : H q = some (.tup ys) := hq
        refine ⟨_, rfl, (by show 2 ≤ sizeLine; decide), fun t1 ht1 => ?_⟩
        have s1 := same_new (o := .tup [.ty "list", .ty "tuple"]) ht1
        have hp1 := s1 _ _ hp
        have hq1 := s1 _ _ hq
        refine ⟨_, t1, _, _, _, true, rfl, upd_same, .cons (.ty _) (.cons (.ty _) .nil), .base (.tup hq1), kLT_tup, _, rfl, iteT ?_⟩
        generalize upd H t1 (.tup [.ty "list", .ty "tuple"]) = H1 at s1 hp1 hq1 ⊢
        refine ⟨_, rfl, _, _, _, _, _, rfl, .ty _, .base (.tup hp1), kit_ty (show kitB "tuple" "list" = some false by decide +kernel), _, rfl, _, _, _, _, _, rfl, .ty _, .base (.tup hq1), kit_ty (show kitB "tuple" "list" = some false by decide +kernel), rfl, _, rfl, iteF ?_⟩
        refine ⟨_, rfl, _, _, _, _, _, rfl, .ty _, .base (.tup hp1), kit_ty (show kitB "tuple" "tuple" = some true by decide +kernel), _, rfl, _, _, _, _, _, rfl, .ty _, .base (.tup hq1), kit_ty (show kitB "tuple" "tuple" = some true by decide +kernel), rfl, _, rfl, iteF ?_⟩
        refine ⟨_, rfl, _, _, rfl, .inr ⟨_, SqT.of hp1, rfl⟩, _, rfl, _, _, rfl, .inr ⟨_, SqT.of hq1, rfl⟩, rfl, _, rfl, ite_d (fun _ => ?_) (fun h => absurd (by rw [hn]) h)⟩
        refine ⟨_, rfl, _, rfl, p, q, _, _, rfl, .inr ⟨SqT.of hp1, SqT.of hq1, fun D hD => ?_⟩⟩
        refine lc_it (walk_zipT (K := K) (a := p) (b := q) (xs := xs) (ys := ys) (n := xs.length) (by rw [← hn, Nat.min_self])) (fun i H' => i ≤ xs.length ∧ Same H1 H' ∧ H' D = some (.lst ((List.replicate i true).map V.bl)))
          ⟨Nat.zero_le _, same_new hD, upd_same⟩ (fun i H' _ ⟨_, s, _⟩ => ⟨sameT s (SqT.of hp1), sameT s (SqT.of hq1)⟩) ?_ ?_
        · rintro i x H2 H3 hlt ⟨_, s2, h2⟩ ⟨T, x1, x2, rfl, hT, rfl, e1, e2⟩
          have nT : D ≠ T := ne_of_none h2 hT
          refine ⟨T, _, rfl, SqT.of upd_same, rfl, _, _, rfl, _, _, rfl, rfl, rfl, ?_⟩
          have s3 := same_new (o := .tup [x1, x2]) hT
          refine ⟨_, rfl, _, rfl, x1, x2, j, rfl, by omega, ((hi i x1 x2 e1 e2).same s1).same (s2.trans s3), fun H4 s4 => ⟨_, s4 _ _ (s3 _ _ h2), ?_, hlt, fun b o e => ?_, ?_⟩⟩
          · rw [List.length_map, List.length_replicate]
            exact Nat.lt_of_le_of_lt (Nat.le_trans (Nat.le_of_lt hlt) hz) (by decide)
          · rw [upd_ne (ne_of_none e hD)]
            exact s4 _ _ (s3 _ _ (s2 _ _ e))
          · rw [upd_same, List.replicate_succ', List.map_append]
            rfl
        · rintro H2 ⟨_, s2, h2⟩
          refine ⟨D, List.replicate xs.length true, rfl, SqL.of h2, ?_⟩
          have e : (List.replicate xs.length true).all id = true := by simp
          rw [e]
          exact k H2 (s1.trans s2)
theorem ok_like {P : Program} {w : World} {K : PySem.W.Frag} {mg : Str → Option Value} {base : Heap} {f : Addr} {fd : FuncData} (D : Def K mg "_law_like" slike Plike f fd) (T : Txt K mg) :
    FnOk P w K mg base CX0 5 f fd Plike (splike 5) := by
  have go : ∀ n : Nat, FnOk P w K mg base CX0 (n + 0) f fd Plike (splike n) := fun n => by
    induction n with
    | zero => exact LC.fn_none fun vs H Q E h => no_like h
    | succ n ih => exact step_like D T ih
  exact go 5
end k10
namespace k10
open PySem L2 LC RM
def spodd : Sp := fun vs H Q _ => ∃ (g l : Addr) (F : Addr → Prop), vs = [.ref g] ∧ Bag l H g ∧ F g ∧ (∀ b, F b → ∃ o, H b = some o) ∧ ∀ v H', Ov F H' 2 v → v ≠ .int 8 → Ok g l H H' → Q v H'
theorem ok_odd {P : Program} {w : World} {K : PySem.W.Frag} {mg : Str → Option Value} {base : Heap} {f : Addr} {fd : FuncData} (D : Def K mg "_law_odd" sodd Podd f fd) (T : Txt K mg) {fdraw : Addr} {fddraw : FuncData} (Ddraw : Def K mg "_law_draw" sdraw Pdraw fdraw fddraw) (Gdraw : FnOk P w K mg base CX0 1 fdraw fddraw Pdraw (spdraw)) {fof : Addr} {fdof : FuncData} (Dof : Def K mg "_law_of" sof Pof fof fdof) (Gof : FnOk P w K mg base CX0 2 fof fdof Pof (spof K)) :
    FnOk P w K mg base CX0 3 f fd Podd (spodd) := by
  refine D.F.ok scodd (fun vs H Q E h => ?_) (fun cdv A outer s H vs Q E hr h => ?_)
  · obtain ⟨g, l, F, rfl, B, Fg, hF, k⟩ := h
    rfl
  · obtain ⟨g, l, F, rfl, B, Fg, hF, k⟩ := h
    have hrdraw : Room 1 _ := hr.mono (by decide)
    have hrof : Room 2 _ := hr.mono (by decide)
    refine ⟨_, (pss_cons (ps_set (i := 1) scodd.nd rfl (Or.inl rfl) (pe_call Gdraw hrdraw rfl Ddraw.g Ddraw.F.kp Ddraw.b .nil pass0 (pa_cons (pv 0) (pa_cons pe_int pa_nil))))
        (pss_cons (ps_if (pt_cmpR op_eq (pv 1) pe_int (nomark _)) (pss_one (ps_ret (pe_call Gof hrof rfl Dof.g Dof.F.kp Dof.b .nil pass0 (pa_cons (pv 0) (pa_cons (pe_lst (pa_cons pe_non (pa_cons pe_bl (pa_cons pe_bl pa_nil)))) pa_nil))))) pss_nil)
        (pss_cons (ps_if (pt_cmpR op_eq (pv 1) pe_int (nomark _)) (pss_one (ps_ret (pe_call Gof hrof rfl Dof.g Dof.F.kp Dof.b .nil pass0 (pa_cons (pv 0) (pa_cons (pe_lst (pa_cons pe_int (pa_cons pe_int (pa_cons (pe_un un_neg pe_int) (pa_cons pe_int (pa_cons pe_int (pa_cons pe_int (pa_cons pe_int (pa_cons (pe_un un_neg pe_int) pa_nil))))))))) pa_nil))))) pss_nil)
        (pss_cons (ps_if (pt_cmpR op_eq (pv 1) pe_int (nomark _)) (pss_one (ps_ret (pe_call Gof hrof rfl Dof.g Dof.F.kp Dof.b .nil pass0 (pa_cons (pv 0) (pa_cons (pe_lst (pa_cons pe_str (pa_cons pe_str (pa_cons pe_str (pa_cons pe_str (pa_cons pe_str (pa_cons pe_str (pa_cons pe_str (pa_cons pe_str pa_nil))))))))) pa_nil))))) pss_nil)
        (pss_cons (ps_if (pt_cmpR op_eq (pv 1) pe_int (nomark _)) (pss_one (ps_ret (pe_callTy call_tuple_of (by rfl) T.n_tuple (by decide +kernel) (pa_cons (pe_lc (own := [("_law_k", 2)]) (g := gName 2) (tt := tYes) rfl scodd.nd (pi_range1 rfl T.n_range (pa_cons (pe_call Gdraw hrdraw rfl Ddraw.g Ddraw.F.kp Ddraw.b .nil pass0 (pa_cons (pv 0) (pa_cons pe_int pa_nil))) pa_nil)) (blkOk_by (own := [("_law_k", 2)]) (N := Nmodd) (sc := defScope sodd) (by decide +kernel)) (fun _ _ _ _ _ => pg_name (i := 2) scodd.nd rfl (Or.inl rfl)) (fun _ _ _ _ _ => pts_nil) (fun _ _ _ _ _ => (pe_call Gof hrof rfl Dof.g Dof.F.kp Dof.b .nil pass0 (pa_cons (pv 0) (pa_cons (pe_lst (pa_cons pe_int (pa_cons pe_str (pa_cons pe_non (pa_cons pe_bl (pa_cons pe_int pa_nil)))))) pa_nil))))) pa_nil)))) pss_nil)
        (pss_cons (ps_if (pt_cmpR op_eq (pv 1) pe_int (nomark _)) (pss_one (ps_ret (pe_lc (own := [("_law_k", 2)]) (g := gName 2) (tt := tYes) rfl scodd.nd (pi_range1 rfl T.n_range (pa_cons (pe_call Gdraw hrdraw rfl Ddraw.g Ddraw.F.kp Ddraw.b .nil pass0 (pa_cons (pv 0) (pa_cons pe_int pa_nil))) pa_nil)) (blkOk_by (own := [("_law_k", 2)]) (N := Nmodd) (sc := defScope sodd) (by decide +kernel)) (fun _ _ _ _ _ => pg_name (i := 2) scodd.nd rfl (Or.inl rfl)) (fun _ _ _ _ _ => pts_nil) (fun _ _ _ _ _ => (pe_call Gof hrof rfl Dof.g Dof.F.kp Dof.b .nil pass0 (pa_cons (pv 0) (pa_cons (pe_lst (pa_cons pe_int (pa_cons pe_str (pa_cons pe_non (pa_cons pe_bl (pa_cons (pe_tup (pa_cons pe_int (pa_cons pe_int pa_nil))) pa_nil)))))) pa_nil))))))) pss_nil)
        (pss_one (ps_ret (pe_call Gof hrof rfl Dof.g Dof.F.kp Dof.b .nil pass0 (pa_cons (pv 0) (pa_cons (pe_lst (pa_cons pe_dnewK (pa_cons (pe_disp (pps_cons pe_str pe_int pps_nil) (by rfl) (by rfl) (fun z => by cases z) (by decide)) (pa_cons (pe_disp (pps_cons pe_int (pe_lst (pa_cons pe_int pa_nil)) pps_nil) (by rfl) (by rfl) (fun z => by cases z) (by decide)) (pa_cons (pe_disp (pps_cons pe_str (pe_disp (pps_cons pe_str (pe_tup (pa_cons pe_int (pa_cons pe_non pa_nil))) pps_nil) (by rfl) (by rfl) (fun z => by cases z) (by decide)) pps_nil) (by rfl) (by rfl) (fun z => by cases z) (by decide)) pa_nil))))) pa_nil))))))))))), ?_⟩
    refine ⟨_, rfl, g, l, 6, rfl, B, by decide, by decide, fun d H1 d0 d1 r1 => ?_⟩
    refine ⟨_, rfl, rfl, _, rfl, ite_eq (fun _ => ?_) (fun _ => ?_)⟩
    · refine ⟨_, rfl, (by show 3 ≤ sizeLine; decide), fun p hp => of_disp (E := E0) r1 hp (by decide) (by decide) fun x H' hx _ r => k x H' (Ov.sz ?_ 2) ?_ r⟩
      all_goals simp only [List.mem_cons, List.not_mem_nil, or_false] at hx
      · rcases hx with rfl | rfl | rfl
        all_goals exact True.intro
      · rcases hx with rfl | rfl | rfl
        all_goals exact fun z => by cases z
    refine ⟨_, rfl, rfl, _, rfl, ite_eq (fun _ => ?_) (fun _ => ?_)⟩
    · refine ⟨_, rfl, _, rfl, _, rfl, (by show 8 ≤ sizeLine; decide), fun p hp => of_disp (E := E0) r1 hp (by show 0 < 8; decide) (by show 8 ≤ 1000000; decide) fun x H' hx _ r => k x H' (Ov.sz ?_ 2) ?_ r⟩
      all_goals simp only [List.mem_cons, List.not_mem_nil, or_false] at hx
      · rcases hx with rfl | rfl | rfl | rfl | rfl | rfl | rfl | rfl
        all_goals exact True.intro
      · rcases hx with rfl | rfl | rfl | rfl | rfl | rfl | rfl | rfl
        all_goals exact fun z => absurd (V.int.inj z) (by decide)
    refine ⟨_, rfl, rfl, _, rfl, ite_eq (fun _ => ?_) (fun _ => ?_)⟩
    · refine ⟨_, rfl, (by show 8 ≤ sizeLine; decide), fun p hp => of_disp (E := E0) r1 hp (by show 0 < 8; decide) (by show 8 ≤ 1000000; decide) fun x H' hx _ r => k x H' (Ov.sz ?_ 2) ?_ r⟩
      all_goals simp only [List.mem_cons, List.not_mem_nil, or_false] at hx
      · rcases hx with rfl | rfl | rfl | rfl | rfl | rfl | rfl | rfl
        all_goals (show Str.length _ ≤ 1000000; decide +kernel)
      · rcases hx with rfl | rfl | rfl | rfl | rfl | rfl | rfl | rfl
        all_goals exact fun z => by cases z
    refine ⟨_, rfl, rfl, _, rfl, ite_eq (fun _ => ?_) (fun _ => ?_)⟩
    · refine ⟨_, rfl, g, l, 4, rfl, r1.bag, by decide, by decide, fun d2 H2 d20 d21 r2 => ⟨_, rfl, by omega, by omega, fun D hD => ?_⟩⟩
      refine lc_draws (fun H x => Sz x) (r1.trans r2) hD (by omega) (fun _ => rfl) (fun x H H' t r => t) (fun x H xs ys h t => t) (fun i H3 Q3 _ r q => ?_) ?_
      · refine ⟨_, rfl, (by show 5 ≤ sizeLine; decide), fun p hp => of_disp (E := E0) (Ok.refl r.bag) hp (by show 0 < 5; decide) (by show 5 ≤ 1000000; decide) fun x H' hx _ r' => q x H' ?_ r'⟩
        simp only [List.mem_cons, List.not_mem_nil, or_false] at hx
        rcases hx with rfl | rfl | rfl | rfl | rfl
        · exact True.intro
        · show Str.length _ ≤ 1000000
          decide +kernel
        · exact True.intro
        · exact True.intro
        · exact True.intro
      · intro H3 xs r _ h3 hl hx
        exact ⟨D, xs, rfl, .inl ⟨SqL.of h3, fun t ht => k _ _ (.inr (.inr ⟨false, t, xs, rfl, nF_of hF r ht, upd_same, by omega, fun u hu => Ov.sz (hx u hu) 1⟩)) (fun z => by cases z) (r.new ht)⟩⟩
    refine ⟨_, rfl, rfl, _, rfl, ite_eq (fun _ => ?_) (fun _ => ?_)⟩
    · refine ⟨_, rfl, g, l, 4, rfl, r1.bag, by decide, by decide, fun d2 H2 d20 d21 r2 => ⟨_, rfl, by omega, by omega, fun D hD => ?_⟩⟩
      refine lc_draws (fun H x => Sz x ∨ ∃ t, x = .ref t ∧ ¬ F t ∧ H t = some (.tup [.int 1, .int 2])) (r1.trans r2) hD (by omega) (fun _ => rfl) (fun x H H' t r => ?_) (fun x H xs ys h t => ?_) (fun i H3 Q3 _ r q => ?_) ?_
      · rcases t with t | ⟨u, e, nu, eu⟩
        · exact .inl t
        · exact .inr ⟨u, e, nu, r _ _ (fun z => nu (by rw [z]; exact Fg)) eu⟩
      · rcases t with t | ⟨u, e, nu, eu⟩
        · exact .inl t
        · exact .inr ⟨u, e, nu, by rw [upd_ne (ne_of eu h (by intro z; cases z))]; exact eu⟩
      · refine ⟨_, rfl, (by show 2 ≤ sizeLine; decide), fun t ht => ⟨(by show 5 ≤ sizeLine; decide), fun p hp => ?_⟩⟩
        have nt := nF_of hF r ht
        have r3 := (Ok.refl r.bag).new (o := .tup [.int 1, .int 2]) ht
        refine of_disp (E := E0) r3 hp (by show 0 < 5; decide) (by show 5 ≤ 1000000; decide) fun x H' hx kk r' => q x H' ?_ r'
        simp only [List.mem_cons, List.not_mem_nil, or_false] at hx
        rcases hx with rfl | rfl | rfl | rfl | rfl
        · exact .inl True.intro
        · refine .inl ?_
          show Str.length _ ≤ 1000000
          decide +kernel
        · exact .inl True.intro
        · exact .inl True.intro
        · exact .inr ⟨t, rfl, nt, kk _ _ (fun z => nt (by rw [z]; exact Fg)) upd_same⟩
      · intro H3 xs r _ h3 hl hx
        refine k _ _ (.inr (.inr ⟨true, D, xs, rfl, nF_of hF (r1.trans r2) hD, h3, by omega, fun u hu => ?_⟩)) (fun z => by cases z) r
        rcases hx u hu with t | ⟨u, e, nu, eu⟩
        · exact .inl t
        · refine .inr (.inr ⟨false, u, _, e, nu, eu, (by show 2 ≤ 1000000; decide), fun z hz => ?_⟩)
          simp only [List.mem_cons, List.not_mem_nil, or_false] at hz
          rcases hz with rfl | rfl
          · exact True.intro
          · exact True.intro
    -- the dicts
    refine ⟨_, rfl, fun d1 hd1 => ?_⟩
    have f1 := nF_of hF r1 hd1
    have q1 := r1.new (o := .dK []) hd1
    intro p2 hp2
    have f2 := nF_of hF q1 hp2
    have q2 := q1.new (o := .dK []) hp2
    refine ⟨upd_same, [(.inr "a", .int 1)], rfl, by show 1 ≤ 15; decide, ?_⟩
    have q2' := q2.mut (o := .dK (mergeK [] [(.inr "a", .int 1)])) (q1.free hp2)
    intro p3 hp3
    have f3 := nF_of hF q2' hp3
    have q3 := q2'.new (o := .dK []) hp3
    refine ⟨(by show 1 ≤ sizeLine; decide), fun l3 hl3 => ?_⟩
    have n3 : p3 ≠ l3 := ne_of_none upd_same hl3
    have q3' := q3.new (o := .lst [.int 2]) hl3
    refine ⟨by rw [upd_ne n3]; exact upd_same, [(.inl 1, .ref l3)], rfl, by show 1 ≤ 15; decide, ?_⟩
    have q3'' := q3'.mut (o := .dK (mergeK [] [(.inl 1, .ref l3)])) (q2'.free hp3)
    intro p4 hp4
    have f4 := nF_of hF q3'' hp4
    have q4 := q3''.new (o := .dK []) hp4
    intro p5 hp5
    have q5 := q4.new (o := .dK []) hp5
    have n45 : p4 ≠ p5 := ne_of_none upd_same hp5
    refine ⟨(by show 2 ≤ sizeLine; decide), fun t5 ht5 => ?_⟩
    have q5' := q5.new (o := .tup [.int 1, .non]) ht5
    have n5 : p5 ≠ t5 := ne_of_none upd_same ht5
    have n4 : p4 ≠ t5 := ne_of_none (o := .dK []) (by rw [upd_ne n45]; exact upd_same) ht5
    refine ⟨by rw [upd_ne n5]; exact upd_same, [(.inr "b", .ref t5)], rfl, by show 1 ≤ 15; decide, ?_⟩
    have q5'' := q5'.mut (o := .dK (mergeK [] [(.inr "b", .ref t5)])) (q4.free hp5)
    refine ⟨by rw [upd_ne n45, upd_ne n4, upd_ne n45]; exact upd_same, [(.inr "a", .ref p5)], rfl, by show 1 ≤ 15; decide, ?_⟩
    have q6 := q5''.mut (o := .dK (mergeK [] [(.inr "a", .ref p5)])) (q3''.free hp4)
    have k2 : DkOk (mergeK [] [(.inr "a", .int 1)]) := dk1 (.inl rfl)
    have k3 : DkOk (mergeK [] [(.inl 1, .ref l3)]) := dk1 (.inr ⟨_, rfl⟩)
    have k5 : DkOk (mergeK [] [(.inr "b", .ref t5)]) := dk1 (.inr ⟨_, rfl⟩)
    have k4 : DkOk (mergeK [] [(.inr "a", .ref p5)]) := dk1 (.inr ⟨_, rfl⟩)
    have t1 : Dq F _ d1 := (((((((((Dq.new (F := F) ⟨f1, [], upd_same, dk0⟩ (o := .dK []) hp2).dict (q := p2) k2).new (o := .dK []) hp3).new (o := .lst [.int 2]) hl3).dict (q := p3) k3).new (o := .dK []) hp4).new (o := .dK []) hp5).new (o := .tup [.int 1, .non]) ht5).dict (q := p5) k5).dict (q := p4) k4
    have t2 : Dq F _ p2 := ((((((((Dq.dict (F := F) k2 (q := p2) ⟨f2, [], upd_same, dk0⟩).new (o := .dK []) hp3).new (o := .lst [.int 2]) hl3).dict (q := p3) k3).new (o := .dK []) hp4).new (o := .dK []) hp5).new (o := .tup [.int 1, .non]) ht5).dict (q := p5) k5).dict (q := p4) k4
    have t3 : Dq F _ p3 := ((((((Dq.new (F := F) ⟨f3, [], upd_same, dk0⟩ (o := .lst [.int 2]) hl3).dict (q := p3) k3).new (o := .dK []) hp4).new (o := .dK []) hp5).new (o := .tup [.int 1, .non]) ht5).dict (q := p5) k5).dict (q := p4) k4
    have t4 : Dq F _ p4 := (((Dq.new (F := F) ⟨f4, [], upd_same, dk0⟩ (o := .dK []) hp5).new (o := .tup [.int 1, .non]) ht5).dict (q := p5) k5).dict (q := p4) k4
    refine ⟨(by show 4 ≤ sizeLine; decide), fun p hp => of_disp (E := E0) q6 hp (by show 0 < 4; decide) (by show 4 ≤ 1000000; decide) fun x H' hx kk r' => k x H' ?_ (by simp only [List.mem_cons, List.not_mem_nil, or_false] at hx; rcases hx with rfl | rfl | rfl | rfl <;> exact fun z => by cases z) r'⟩
    have kf := KpF.kp Fg kk
    simp only [List.mem_cons, List.not_mem_nil, or_false] at hx
    rcases hx with rfl | rfl | rfl | rfl
    · exact (t1.ov 1).kp kf
    · exact (t2.ov 1).kp kf
    · exact (t3.ov 1).kp kf
    · exact (t4.ov 1).kp kf
end k10
namespace k10
open PySem L2 LC RM
def spin : Sp := fun vs H Q _ => ∃ (F : Addr → Prop) (n : Nat) (v : V) (hi : Int), vs = [v, .int hi] ∧ Ov F H n v ∧ Q (.bl (isNum v 1 hi)) H
theorem ok_in {P : Program} {w : World} {K : PySem.W.Frag} {mg : Str → Option Value} {base : Heap} {f : Addr} {fd : FuncData} (D : Def K mg "_law_in" sin Pin f fd) (T : Txt K mg) :
    FnOk P w K mg base CX0 1 f fd Pin (spin) := by
  refine D.F.ok scin (fun vs H Q E h => ?_) (fun cdv A outer s H vs Q E hr h => ?_)
  · obtain ⟨F, n, v, hi, rfl, o, k⟩ := h
    rfl
  · obtain ⟨F, n, v, hi, rfl, o, k⟩ := h
    refine ⟨_, (pss_one (ps_ret (pe_and (pe_callB call_isi (by rfl) T.n_isinstance (by decide +kernel) (pa_cons (pv 0) (pa_cons (pe_ty "int" (by rfl) T.n_int (by decide +kernel)) pa_nil))) (pe_and (pe_not (pe_callB call_isi (by rfl) T.n_isinstance (by decide +kernel) (pa_cons (pv 0) (pa_cons (pe_ty "bool" (by rfl) T.n_bool (by decide +kernel)) pa_nil)))) (pe_and (pe_cmpR op_le pe_int (pv 0) (nomark _)) (pe_one (pe_cmpR op_le (pv 0) (pv 1) (nomark _)))))))), ?_⟩
    obtain ⟨t, ty, ki, kb, _, _⟩ := o.ty (K := K)
    refine ⟨_, rfl, _, _, _, _, _, rfl, .ty _, ty, kit_ty ki, _, rfl, ?_⟩
    cases v with
    | int i =>
      refine iteT ⟨_, rfl, _, _, _, _, _, rfl, .ty _, ty, kit_ty kb, _, rfl, _, rfl, ?_⟩
      refine iteT ⟨_, rfl, _, _, rfl, rfl, _, rfl, ?_⟩
      have e : isNum (.int i) 1 hi = (decide (1 ≤ i) && decide (i ≤ hi)) := rfl
      refine ite_d (fun h1 => ?_) (fun h1 => ?_)
      · refine ⟨_, rfl, _, rfl, _, _, rfl, rfl, ?_⟩
        rw [e, decide_eq_true h1, Bool.true_and] at k
        exact k
      · rw [e, decide_eq_false h1, Bool.false_and] at k
        exact k
    | bl b => exact iteT ⟨_, rfl, _, _, _, _, _, rfl, .ty _, ty, kit_ty kb, _, rfl, _, rfl, iteF k⟩
    | _ => exact iteF k
end k10
namespace k10
open PySem L2 LC RM
def spnamed : Sp := fun vs H Q _ => ∃ (F : Addr → Prop) (n : Nat) (v : V) (hi : Int), vs = [v, .int hi] ∧ Ov F H n v ∧ ∀ H', Same H H' → Q (.bl (isNamN hi v)) H'
theorem ok_named {P : Program} {w : World} {K : PySem.W.Frag} {mg : Str → Option Value} {base : Heap} {f : Addr} {fd : FuncData} (D : Def K mg "_law_named" snamed Pnamed f fd) (T : Txt K mg) :
    FnOk P w K mg base CX0 1 f fd Pnamed (spnamed) := by
  refine D.F.ok scnamed (fun vs H Q E h => ?_) (fun cdv A outer s H vs Q E hr h => ?_)
  · obtain ⟨F, n, v, hi, rfl, o, k⟩ := h
    rfl
  · obtain ⟨F, n, v, hi, rfl, o, k⟩ := h
    refine ⟨_, (pss_cons (ps_if (PW.pt (pw_or (pt_not (pt_val (pe_callB call_isi (by rfl) T.n_isinstance (by decide +kernel) (pa_cons (pv 0) (pa_cons (pe_ty "str" (by rfl) T.n_str (by decide +kernel)) pa_nil))))) (pw_or (pt_not (pt_chain op_le op_le pe_int (pe_callB call_len_str (by rfl) T.n_len PySem.boot_len (pa_cons (pv 0) pa_nil)) (pv 1))) (pw_or1 (pt_cmpR op_in_sign (pe_ix ix_str (pv 0) pe_int (fun _ _ => rfl)) pe_str (by rfl)))))) (pss_one (ps_ret pe_bl)) pss_nil)
        (pss_one (ps_ret (pe_callB (cr_all rfl) (by rfl) T.n_all (by decide +kernel) (pa_cons (pe_lc (own := [("_law_sign", 2)]) (g := gName 2) (tt := tYes) rfl scnamed.nd (pi_str (pv 0)) (blkOk_by (own := [("_law_sign", 2)]) (N := Nmnamed) (sc := defScope snamed) (by decide +kernel)) (fun _ _ _ _ _ => pg_name (i := 2) scnamed.nd rfl (Or.inl rfl)) (fun _ _ _ _ _ => pts_nil) (fun _ _ _ _ _ => (pe_cmpR op_in_sign (pv 2) pe_str (by rfl)))) pa_nil))))), ?_⟩
    obtain ⟨t, ty, _, _, ks, _⟩ := o.ty (K := K)
    refine ⟨_, rfl, _, _, _, _, _, rfl, .ty _, ty, kit_ty ks, _, rfl, ?_⟩
    cases v with
    | str z =>
      have hz := o.str
      have eN : isNamN hi (.str z) = (decide (1 ≤ z.length) && decide ((z.length : Int) ≤ hi) && chL (z.cps.toList.getD 0 0) && z.cps.toList.all (fun c => chL c || chD c)) := rfl
      refine iteF ?_
      refine ⟨_, rfl, _, rfl, sz_str hz, _, _, rfl, rfl, _, rfl, ?_⟩
      refine ite_d (fun h1 => ?_) (fun h1 => ?_)
      · refine ⟨_, rfl, _, _, rfl, rfl, _, rfl, ?_⟩
        refine ite_nd (fun h8 => ?_) (fun h8 => ?_)
        · have q := k H (Same.refl H)
          rw [eN, decide_eq_false h8, Bool.and_false, Bool.false_and, Bool.false_and] at q
          exact q
        · have h1' : 1 ≤ z.length := by omega
          obtain ⟨c0, hc0, e0⟩ := len1 h1'
          have e : isNamN hi (.str z) = (chL c0 && z.cps.toList.all (fun c => chL c || chD c)) := by
            rw [eN, decide_eq_true h1', decide_eq_true h8, e0]
            rfl
          refine ⟨_, rfl, _, _, c0, rfl, rfl, sz_str hz, atI_nat (j := 0) hc0, _, _, rfl, rfl, ?_⟩
          refine ⟨_, rfl, ite_is (mem_dig c0) (fun eD => ?_) (fun eD => ?_)⟩
          · have q := k H (Same.refl H)
            rw [e, chDL eD, Bool.false_and] at q
            exact q
          · refine ⟨_, rfl, _, rfl, fun D hD => lc_text (fun c => .bl (chL c || chD c)) hD hz (fun _ => rfl) (fun c H Q hc q => ?_) ?_⟩
            · refine ⟨_, rfl, _, _, rfl, rfl, ?_⟩
              rw [mem_ld]
              exact q
            · refine ⟨D, z.cps.toList.map fun c => chL c || chD c, rfl, by rw [← bls_map]; exact SqL.of upd_same, ?_⟩
              rw [all_id]
              have q := k _ (same_new (o := .lst (z.cps.toList.map fun c => V.bl (chL c || chD c))) hD)
              have e2 : (chL c0 && z.cps.toList.all (fun c => chL c || chD c)) = z.cps.toList.all (fun c => chL c || chD c) := by
                cases qa : z.cps.toList.all (fun c => chL c || chD c) with
                | false => rw [Bool.and_false]
                | true =>
                  have h0 := List.all_eq_true.mp qa c0 (List.mem_of_getElem? hc0)
                  rw [eD, Bool.or_false] at h0
                  rw [h0]
                  rfl
              rw [e, e2] at q
              exact q
      · have q := k H (Same.refl H)
        rw [eN, decide_eq_false (show ¬ 1 ≤ z.length by omega), Bool.false_and, Bool.false_and, Bool.false_and] at q
        refine ⟨_, rfl, ite_nb (fun _ => q) fun z => Bool.noConfusion z⟩
    | _ => exact iteT (k H (Same.refl H))
end k10
namespace k10
open PySem L2 LC RM
def spwrong : Sp := fun vs H Q _ => ∃ (g l : Addr) (F : Addr → Prop), vs = [.ref g] ∧ Bag l H g ∧ F g ∧ (∀ b, F b → ∃ o, H b = some o) ∧ ∀ v H', Ov F H' 2 v → v ≠ .int 8 → Ok g l H H' → Q v H'
theorem ok_wrong {P : Program} {w : World} {K : PySem.W.Frag} {mg : Str → Option Value} {base : Heap} {f : Addr} {fd : FuncData} (D : Def K mg "_law_wrong" swrong Pwrong f fd) (T : Txt K mg) {fof : Addr} {fdof : FuncData} (Dof : Def K mg "_law_of" sof Pof fof fdof) (Gof : FnOk P w K mg base CX0 2 fof fdof Pof (spof K)) {fodd : Addr} {fdodd : FuncData} (Dodd : Def K mg "_law_odd" sodd Podd fodd fdodd) (Godd : FnOk P w K mg base CX0 3 fodd fdodd Podd (spodd)) :
    FnOk P w K mg base CX0 4 f fd Pwrong (spwrong) := by
  refine D.F.ok scwrong (fun vs H Q E h => ?_) (fun cdv A outer s H vs Q E hr h => ?_)
  · obtain ⟨g, l, F, rfl, B, Fg, hF, k⟩ := h
    rfl
  · obtain ⟨g, l, F, rfl, B, Fg, hF, k⟩ := h
    have hrof : Room 2 _ := hr.mono (by decide)
    have hrodd : Room 3 _ := hr.mono (by decide)
    refine ⟨_, (pss_one (ps_ret (pe_call Gof hrof rfl Dof.g Dof.F.kp Dof.b .nil pass0 (pa_cons (pv 0) (pa_cons (pe_lst (pa_cons pe_int (pa_cons (pe_un un_neg pe_int) (pa_cons pe_int (pa_cons pe_bl (pa_cons pe_non (pa_cons pe_str (pa_cons (pe_tup (pa_cons pe_int pa_nil)) (pa_cons pe_str (pa_cons pe_str (pa_cons pe_str (pa_cons pe_str (pa_cons pe_str (pa_cons (pe_call Godd hrodd rfl Dodd.g Dodd.F.kp Dodd.b .nil pass0 (pa_cons (pv 0) pa_nil)) pa_nil)))))))))))))) pa_nil))))), ?_⟩
    refine ⟨_, rfl, _, rfl, (by show 1 ≤ sizeLine; decide), fun t ht => ?_⟩
    have nt := nF_of hF (Ok.refl B) ht
    have r1 := (Ok.refl B).new (o := .tup [.int 3]) ht
    have et : upd H t (.tup [.int 3]) t = some (.tup [.int 3]) := upd_same
    generalize upd H t (.tup [.int 3]) = H1 at r1 et ⊢
    refine ⟨_, rfl, g, l, F, rfl, r1.bag, Fg, hF_ok hF r1, fun v H2 ov v8 r2 => ⟨(by show 13 ≤ sizeLine; decide), fun p hp => of_disp (E := E0) (r1.trans r2) hp (by show 0 < 13; decide) (by show 13 ≤ 1000000; decide) fun x H' hx kk r' => k x H' ?_ (by simp only [List.mem_cons, List.not_mem_nil, or_false] at hx; rcases hx with rfl | rfl | rfl | rfl | rfl | rfl | rfl | rfl | rfl | rfl | rfl | rfl | rfl <;> first | exact v8 | exact (fun z => absurd (V.int.inj z) (by decide)) | exact (fun z => by cases z)) r'⟩⟩
    have kf := KpF.kp Fg kk
    have s0 : ∀ z : Str, z.length ≤ 1000000 → Ov F H' 2 (.str z) := fun z h => Ov.sz (x := .str z) h 2
    simp only [List.mem_cons, List.not_mem_nil, or_false] at hx
    rcases hx with rfl | rfl | rfl | rfl | rfl | rfl | rfl | rfl | rfl | rfl | rfl | rfl | rfl
    · exact Ov.sz (by exact True.intro) 2
    · exact Ov.sz (by exact True.intro) 2
    · exact Ov.sz (by exact True.intro) 2
    · exact Ov.sz (by exact True.intro) 2
    · exact Ov.sz (by exact True.intro) 2
    · exact s0 _ (by decide +kernel)
    · refine .inr (.inr ⟨false, t, _, rfl, nt, kf _ _ nt (fun _ z => by cases z) ((KpF.kp Fg r2.kp) _ _ nt (fun _ z => by cases z) et), (by show 1 ≤ 1000000; decide), fun z hz => ?_⟩)
      rw [List.mem_singleton] at hz
      rw [hz]
      exact Ov.sz (by exact True.intro) 1
    · exact s0 _ (by decide +kernel)
    · exact s0 _ (by decide +kernel)
    · exact s0 _ (by decide +kernel)
    · exact s0 _ (by decide +kernel)
    · exact s0 _ (by decide +kernel)
    · exact ov.kp kf
end k10
namespace k10
open PySem L2 LC RM
def spgiven : Sp := fun vs H Q _ => ∃ (g l : Addr), vs = [.ref g] ∧ Bag l H g ∧ ∀ (P : Addr) (xs : List V) H', H P = none → H' P = some (.lst xs) → xs.length = 4 → (∀ x ∈ xs, Ov (fun b => b = g ∨ b = P) H' 2 x) → Ok g l H H' → Q (.ref P) H'
theorem set_mem {α : Type} {xs : List α} {i : Nat} {v x : α} (h : x ∈ xs.set i v) : x = v ∨ x ∈ xs := by
  rcases List.mem_or_eq_of_mem_set h with h | h
  · exact .inr h
  · exact .inl h
theorem ok_given {P : Program} {w : World} {K : PySem.W.Frag} {mg : Str → Option Value} {base : Heap} {f : Addr} {fd : FuncData} (D : Def K mg "_law_given" sgiven Pgiven f fd) (T : Txt K mg) {fdraw : Addr} {fddraw : FuncData} (Ddraw : Def K mg "_law_draw" sdraw Pdraw fdraw fddraw) (Gdraw : FnOk P w K mg base CX0 1 fdraw fddraw Pdraw (spdraw)) {fof : Addr} {fdof : FuncData} (Dof : Def K mg "_law_of" sof Pof fof fdof) (Gof : FnOk P w K mg base CX0 2 fof fdof Pof (spof K)) {fwrong : Addr} {fdwrong : FuncData} (Dwrong : Def K mg "_law_wrong" swrong Pwrong fwrong fdwrong) (Gwrong : FnOk P w K mg base CX0 4 fwrong fdwrong Pwrong (spwrong)) :
    FnOk P w K mg base CX0 5 f fd Pgiven (spgiven) := by
  refine D.F.ok scgiven (fun vs H Q E h => ?_) (fun cdv A outer s H vs Q E hr h => ?_)
  · obtain ⟨g, l, rfl, B, k⟩ := h
    rfl
  · obtain ⟨g, l, rfl, B, k⟩ := h
    have hrdraw : Room 1 _ := hr.mono (by decide)
    have hrof : Room 2 _ := hr.mono (by decide)
    have hrwrong : Room 4 _ := hr.mono (by decide)
    refine ⟨_, (pss_cons (ps_set (i := 1) scgiven.nd rfl (Or.inl rfl) (pe_cmpR op_gt (pe_call Gdraw hrdraw rfl Ddraw.g Ddraw.F.kp Ddraw.b .nil pass0 (pa_cons (pv 0) (pa_cons pe_int pa_nil))) pe_int (nomark _)))
        (pss_cons (ps_set (i := 2) scgiven.nd rfl (Or.inl rfl) (pe_lst (pa_cons (pe_call Gof hrof rfl Dof.g Dof.F.kp Dof.b .nil pass0 (pa_cons (pv 0) (pa_cons (pe_lst (pa_cons pe_str (pa_cons pe_str (pa_cons pe_str (pa_cons pe_str (pa_cons pe_str pa_nil)))))) pa_nil))) (pa_cons (pe_op op_add pe_int (pe_call Gdraw hrdraw rfl Ddraw.g Ddraw.F.kp Ddraw.b .nil pass0 (pa_cons (pv 0) (pa_cons pe_int pa_nil)))) (pa_cons (pe_op op_add pe_int (pe_call Gdraw hrdraw rfl Ddraw.g Ddraw.F.kp Ddraw.b .nil pass0 (pa_cons (pv 0) (pa_cons pe_int pa_nil)))) (pa_cons (pe_op op_add pe_int (pe_call Gdraw hrdraw rfl Ddraw.g Ddraw.F.kp Ddraw.b .nil pass0 (pa_cons (pv 0) (pa_cons pe_int pa_nil)))) pa_nil))))))
        (Evl.pss_cut (ps_if (pt_not (pt_val (pv 1))) (pss_cons (ps_asg (pe_op op_add pe_int (pe_call Gdraw hrdraw rfl Ddraw.g Ddraw.F.kp Ddraw.b .nil pass0 (pa_cons (pv 0) (pa_cons pe_int pa_nil)))) (pg_sub (pv 2) pe_int set_list))
        (pss_cons (ps_asg (pe_call Gof hrof rfl Dof.g Dof.F.kp Dof.b .nil pass0 (pa_cons (pv 0) (pa_cons (pe_lst (pa_cons pe_int (pa_cons pe_int (pa_cons (pe_op op_sub pe_int (pe_ix ix_list (pv 2) pe_int (fun _ _ => rfl))) (pa_cons pe_int (pa_cons (pe_op op_sub pe_int (pe_ix ix_list (pv 2) pe_int (fun _ _ => rfl))) (pa_cons pe_int pa_nil))))))) pa_nil))) (pg_sub (pv 2) pe_int set_list))
        (pss_one (ps_asg (pe_call Gof hrof rfl Dof.g Dof.F.kp Dof.b .nil pass0 (pa_cons (pv 0) (pa_cons (pe_lst (pa_cons (pe_op op_fdivN pe_int (pe_ix ix_list (pv 2) pe_int (fun _ _ => rfl))) (pa_cons (pe_op op_add (pe_op op_fdivN pe_int (pe_ix ix_list (pv 2) pe_int (fun _ _ => rfl))) pe_int) (pa_cons pe_int (pa_cons pe_int (pa_cons pe_int pa_nil)))))) pa_nil))) (pg_sub (pv 2) pe_int set_list))))) pss_nil)
        (pss_cons (ps_for PassesOwn.never rfl (pi_range1 rfl T.n_range (pa_cons (pe_call Gof hrof rfl Dof.g Dof.F.kp Dof.b .nil pass0 (pa_cons (pv 0) (pa_cons (pe_lst (pa_cons pe_int (pa_cons pe_int (pa_cons pe_int (pa_cons pe_int (pa_cons pe_int pa_nil)))))) pa_nil))) pa_nil)) (pg_name (i := 3) scgiven.nd rfl (Or.inl rfl))
          (pss_one (ps_asg (pe_call Gwrong hrwrong rfl Dwrong.g Dwrong.F.kp Dwrong.b .nil pass0 (pa_cons (pv 0) pa_nil)) (pg_sub (pv 2) (pe_call Gdraw hrdraw rfl Ddraw.g Ddraw.F.kp Ddraw.b .nil pass0 (pa_cons (pv 0) (pa_cons pe_int pa_nil))) set_list))))
        (pss_one (ps_ret (pv 2))))))), ?_⟩
    refine ⟨_, rfl, g, l, 3, rfl, B, by decide, by decide, fun d H1 d0 d1 r1 => ⟨_, _, rfl, rfl, ?_⟩⟩
    refine ⟨_, rfl, (by show 5 ≤ sizeLine; decide), fun p hp => of_disp (E := E0) r1 hp (by show 0 < 5; decide) (by show 5 ≤ 1000000; decide) fun x H2 hx _ r2 => ?_⟩
    obtain ⟨z, rfl, hz⟩ : ∃ z : Str, x = .str z ∧ z.length ≤ 1000000 := by
      simp only [List.mem_cons, List.not_mem_nil, or_false] at hx
      rcases hx with rfl | rfl | rfl | rfl | rfl
      all_goals exact ⟨_, rfl, by decide +kernel⟩
    refine ⟨_, rfl, g, l, 5, rfl, r2.bag, by decide, by decide, fun da H3 da0 da1 r3 => ⟨_, _, rfl, rfl, ?_⟩⟩
    refine ⟨_, rfl, g, l, 8, rfl, r3.bag, by decide, by decide, fun db H4 db0 db1 r4 => ⟨_, _, rfl, rfl, ?_⟩⟩
    refine ⟨_, rfl, g, l, 5, rfl, r4.bag, by decide, by decide, fun dc H5 dc0 dc1 r5 => ⟨_, _, rfl, rfl, (by show 4 ≤ sizeLine; decide), fun P hP => ?_⟩⟩
    have R5 := ((r2.trans r3).trans r4).trans r5
    have hPn := R5.free hP
    have Pg := (R5.bag.ne hP).1
    have R6 := R5.new (o := .lst [.str z, .int (1 + da), .int (1 + db), .int (1 + dc)]) hP
    have eP : upd H5 P (.lst [.str z, .int (1 + da), .int (1 + db), .int (1 + dc)]) P = some (.lst [.str z, .int (1 + da), .int (1 + db), .int (1 + dc)]) := upd_same
    generalize upd H5 P (.lst [.str z, .int (1 + da), .int (1 + db), .int (1 + dc)]) = H6 at R6 eP ⊢
    refine ⟨fun σ H' => ∃ (i j m : Int), σ = [some (.ref g), some (.bl (decide (d > 0))), some (.ref P), none] ∧ H' P = some (.lst [.str z, .int i, .int j, .int m]) ∧ Ok g l H H', ?_, ?_⟩
    · refine ⟨_, rfl, _, rfl, ite_nd (fun _ => ?_) (fun _ => ⟨_, _, _, rfl, eP, R6⟩)⟩
      refine ⟨_, rfl, g, l, 10, rfl, R6.bag, by decide, by decide, fun dd H7 dd0 dd1 r7 => ⟨_, _, rfl, rfl, _, rfl, P, _, _, 3, rfl, rfl, r7.at_ eP Pg, rfl, ?_⟩⟩
      have R7 := (R6.trans r7).mut (o := .lst [.str z, .int (1 + da), .int (1 + db), .int (1 + dd)]) hPn
      have e7 : upd H7 P (.lst [.str z, .int (1 + da), .int (1 + db), .int (1 + dd)]) P = some (.lst [.str z, .int (1 + da), .int (1 + db), .int (1 + dd)]) := upd_same
      show tSeq _ _ _ _ (upd H7 P (.lst [.str z, .int (1 + da), .int (1 + db), .int (1 + dd)]))
      generalize upd H7 P (.lst [.str z, .int (1 + da), .int (1 + db), .int (1 + dd)]) = H8 at R7 e7 ⊢
      refine ⟨_, rfl, _, rfl, _, _, _, _, rfl, rfl, SqL.of e7, rfl, _, _, rfl, rfl, _, rfl, _, _, _, _, rfl, rfl, SqL.of e7, rfl, _, _, rfl, rfl, (by show 6 ≤ sizeLine; decide), fun q hq => of_disp (E := E0) (Ok.refl R7.bag) hq (by show 0 < 6; decide) (by show 6 ≤ 1000000; decide) fun x H9 hx _ r9 => ?_⟩
      obtain ⟨x1, rfl⟩ : ∃ i : Int, x = .int i := by
        simp only [List.mem_cons, List.not_mem_nil, or_false] at hx
        rcases hx with rfl | rfl | rfl | rfl | rfl | rfl
        all_goals exact ⟨_, rfl⟩
      refine ⟨_, rfl, P, _, _, 1, rfl, rfl, r9.at_ e7 Pg, rfl, ?_⟩
      have R9 := (R7.trans r9).mut (o := .lst [.str z, .int x1, .int (1 + db), .int (1 + dd)]) hPn
      have e9 : upd H9 P (.lst [.str z, .int x1, .int (1 + db), .int (1 + dd)]) P = some (.lst [.str z, .int x1, .int (1 + db), .int (1 + dd)]) := upd_same
      show tSeq _ _ _ _ (upd H9 P (.lst [.str z, .int x1, .int (1 + db), .int (1 + dd)]))
      generalize upd H9 P (.lst [.str z, .int x1, .int (1 + db), .int (1 + dd)]) = H10 at R9 e9 ⊢
      refine ⟨_, rfl, _, rfl, _, _, _, _, rfl, rfl, SqL.of e9, rfl, _, _, rfl, rfl, ⟨by omega, by omega⟩, _, rfl, _, _, _, _, rfl, rfl, SqL.of e9, rfl, _, _, rfl, rfl, ⟨by omega, by omega⟩, _, _, rfl, rfl, (by show 5 ≤ sizeLine; decide), fun q hq => of_disp (E := E0) (Ok.refl R9.bag) hq (by show 0 < 5; decide) (by show 5 ≤ 1000000; decide) fun x H11 hx _ r11 => ?_⟩
      obtain ⟨x2, rfl⟩ : ∃ i : Int, x = .int i := by
        simp only [List.mem_cons, List.not_mem_nil, or_false] at hx
        rcases hx with rfl | rfl | rfl | rfl | rfl
        all_goals exact ⟨_, rfl⟩
      refine ⟨_, rfl, P, _, _, 2, rfl, rfl, r11.at_ e9 Pg, rfl, ?_⟩
      exact ⟨_, _, _, rfl, upd_same, (R9.trans r11).mut hPn⟩
    · rintro σ H7 ⟨i, j, m, rfl, eP7, R7⟩
      refine ⟨_, rfl, (by show 5 ≤ sizeLine; decide), fun p hp => of_disp (E := E0) (Ok.refl R7.bag) hp (by show 0 < 5; decide) (by show 5 ≤ 1000000; decide) fun x H8 hx _ r8 => ?_⟩
      obtain ⟨n, rfl, n2⟩ : ∃ n : Nat, x = .int n ∧ n ≤ 2 := by
        simp only [List.mem_cons, List.not_mem_nil, or_false] at hx
        rcases hx with rfl | rfl | rfl | rfl | rfl
        · exact ⟨0, rfl, by decide⟩
        · exact ⟨0, rfl, by decide⟩
        · exact ⟨0, rfl, by decide⟩
        · exact ⟨1, rfl, by decide⟩
        · exact ⟨2, rfl, by decide⟩
      have eP8 := r8.at_ eP7 Pg
      have R8 := R7.trans r8
      refine ⟨_, rfl, by omega, by omega, for_range (lo := 0) (n := n) (fun i σ H' => ∃ (xs : List V) (v : Option V), σ = [some (.ref g), some (.bl (decide (d > 0))), some (.ref P), v] ∧ H' P = some (.lst xs) ∧ xs.length = 4 ∧ (∀ x ∈ xs, Ov (fun b => b = g ∨ b = P) H' 2 x) ∧ Ok g l H H')
        ⟨_, _, rfl, eP8, rfl, fun x hx => ?_, R8⟩ ?_ ?_⟩
      · simp only [List.mem_cons, List.not_mem_nil, or_false] at hx
        rcases hx with rfl | rfl | rfl | rfl
        · exact Ov.sz (x := .str z) hz 2
        · exact Ov.sz (by exact True.intro) 2
        · exact Ov.sz (by exact True.intro) 2
        · exact Ov.sz (by exact True.intro) 2
      · rintro c σ H9 hc ⟨xs, v, rfl, eP9, l4, ov, R9⟩
        have hF : ∀ b, (b = g ∨ b = P) → ∃ o, H9 b = some o := fun b q => by
          rcases q with rfl | rfl
          · obtain ⟨⟨us, e⟩, _⟩ := R9.bag.there
            exact ⟨_, e⟩
          · exact ⟨_, eP9⟩
        refine ⟨_, rfl, g, l, (fun b => b = g ∨ b = P), rfl, R9.bag, .inl rfl, hF, fun v H10 ovv _ r10 => ?_⟩
        refine ⟨_, rfl, _, rfl, g, l, 4, rfl, r10.bag, by decide, by decide, fun dx H11 dx0 dx1 r11 => ?_⟩
        have r := r10.trans r11
        obtain ⟨jn, rfl⟩ : ∃ jn : Nat, dx = (jn : Int) := ⟨dx.toNat, by omega⟩
        refine ⟨P, _, _, jn, rfl, rfl, r.at_ eP9 Pg, ixN_nat (by omega), ?_⟩
        have km : KpF (fun b => b = g ∨ b = P) H11 (upd H11 P (.lst (xs.set jn v))) := KpF.mut' (.inr rfl)
        refine ⟨_, _, rfl, upd_same, by rw [List.length_set]; exact l4, fun x hx => ?_, (R9.trans r).mut hPn⟩
        rcases set_mem hx with rfl | hx
        · exact (ovv.kp (KpF.kp (.inl rfl) r11.kp)).kp km
        · exact ((ov x hx).kp (KpF.kp (.inl rfl) r.kp)).kp km
      · rintro σ H9 ⟨xs, v, rfl, eP9, l4, ov, R9⟩
        exact ⟨_, rfl, k P xs H9 hPn eP9 l4 ov R9⟩
end k10
namespace k10
open PySem L2 LC RM
def spladder_due : Sp := fun vs H Q _ => ∃ (F : Addr → Prop) (n : Nat) (P : Addr) (v0 v1 v2 v3 : V), vs = [.ref P] ∧ H P = some (.lst [v0, v1, v2, v3]) ∧ Ov F H n v0 ∧ Ov F H n v1 ∧ Ov F H n v2 ∧ Ov F H n v3 ∧
  (∀ nm w D H', dueV v0 v1 v2 v3 = some (nm, w) → Same H H' → H D = none → H' D = some (.lst [.str nm, w]) → Q (.ref D) H') ∧ (dueV v0 v1 v2 v3 = none → ∀ H', Same H H' → Q .non H')
theorem ok_ladder_due {P : Program} {w : World} {K : PySem.W.Frag} {mg : Str → Option Value} {base : Heap} {f : Addr} {fd : FuncData} (D : Def K mg "_law_ladder_due" sladder_due Pladder_due f fd) (T : Txt K mg) {fin : Addr} {fdin : FuncData} (Din : Def K mg "_law_in" sin Pin fin fdin) (Gin : FnOk P w K mg base CX0 1 fin fdin Pin (spin)) {fnamed : Addr} {fdnamed : FuncData} (Dnamed : Def K mg "_law_named" snamed Pnamed fnamed fdnamed) (Gnamed : FnOk P w K mg base CX0 1 fnamed fdnamed Pnamed (spnamed)) :
    FnOk P w K mg base CX0 2 f fd Pladder_due (spladder_due) := by
  refine D.F.ok scladder_due (fun vs H Q E h => ?_) (fun cdv A outer s H vs Q E hr h => ?_)
  · obtain ⟨F, n, P, v0, v1, v2, v3, rfl, hP, o0, o1, o2, o3, ks, kn⟩ := h
    rfl
  · obtain ⟨F, n, P, v0, v1, v2, v3, rfl, hP, o0, o1, o2, o3, ks, kn⟩ := h
    have hrin : Room 1 _ := hr.mono (by decide)
    have hrnamed : Room 1 _ := hr.mono (by decide)
    refine ⟨_, (pss_cons (ps_if (pt_not (pt_val (pe_call Gnamed hrnamed rfl Dnamed.g Dnamed.F.kp Dnamed.b .nil pass0 (pa_cons (pe_ix ix_list (pv 0) pe_int (fun _ _ => rfl)) (pa_cons pe_int pa_nil))))) (pss_one (ps_ret (pe_lst (pa_cons pe_str (pa_cons (pe_ix ix_list (pv 0) pe_int (fun _ _ => rfl)) pa_nil))))) pss_nil)
        (pss_cons (ps_if (pt_not (pt_val (pe_call Gin hrin rfl Din.g Din.F.kp Din.b .nil pass0 (pa_cons (pe_ix ix_list (pv 0) pe_int (fun _ _ => rfl)) (pa_cons pe_int pa_nil))))) (pss_one (ps_ret (pe_lst (pa_cons pe_str (pa_cons (pe_ix ix_list (pv 0) pe_int (fun _ _ => rfl)) pa_nil))))) pss_nil)
        (pss_cons (ps_if (pt_not (pt_val (pe_call Gin hrin rfl Din.g Din.F.kp Din.b .nil pass0 (pa_cons (pe_ix ix_list (pv 0) pe_int (fun _ _ => rfl)) (pa_cons pe_int pa_nil))))) (pss_one (ps_ret (pe_lst (pa_cons pe_str (pa_cons (pe_ix ix_list (pv 0) pe_int (fun _ _ => rfl)) pa_nil))))) pss_nil)
        (pss_cons (ps_if (PW.pt (pw_or (pt_not (pt_val (pe_call Gin hrin rfl Din.g Din.F.kp Din.b .nil pass0 (pa_cons (pe_ix ix_list (pv 0) pe_int (fun _ _ => rfl)) (pa_cons pe_int pa_nil))))) (pw_or (pt_cmpR op_gt (pe_op op_sub (pe_op op_add (pe_ix ix_list (pv 0) pe_int (fun _ _ => rfl)) (pe_ix ix_list (pv 0) pe_int (fun _ _ => rfl))) pe_int) pe_int (nomark _)) (pw_or1 (pt_cmpR op_gt (pe_op op_mul (pe_ix ix_list (pv 0) pe_int (fun _ _ => rfl)) (pe_ix ix_list (pv 0) pe_int (fun _ _ => rfl))) pe_int (nomark _)))))) (pss_one (ps_ret (pe_lst (pa_cons pe_str (pa_cons (pe_ix ix_list (pv 0) pe_int (fun _ _ => rfl)) pa_nil))))) pss_nil)
        (pss_one (ps_ret pe_non)))))), ?_⟩
    refine ⟨_, rfl, _, _, _, _, rfl, rfl, SqL.of hP, rfl, F, n, v0, _, rfl, o0, fun H1 s1 => ⟨_, rfl, ?_⟩⟩
    have P1 := s1 _ _ hP
    cases e0 : isNamN 7 v0 with
    | false => exact iteT ⟨_, rfl, _, _, _, _, rfl, rfl, SqL.of P1, rfl, (by show 2 ≤ sizeLine; decide), fun D hD => ks _ _ D _ (due0 e0) (s1.trans (same_new hD)) (s1.free hD) upd_same⟩
    | true =>
      refine iteF ⟨_, rfl, _, _, _, _, rfl, rfl, SqL.of P1, rfl, F, n, v1, _, rfl, o1.kp (KpF.same s1), _, rfl, ?_⟩
      cases e1 : isNum v1 1 1000 with
      | false => exact iteT ⟨_, rfl, _, _, _, _, rfl, rfl, SqL.of P1, rfl, (by show 2 ≤ sizeLine; decide), fun D hD => ks _ _ D _ (due1 e0 e1) (s1.trans (same_new hD)) (s1.free hD) upd_same⟩
      | true =>
        refine iteF ⟨_, rfl, _, _, _, _, rfl, rfl, SqL.of P1, rfl, F, n, v2, _, rfl, o2.kp (KpF.same s1), _, rfl, ?_⟩
        cases e2 : isNum v2 1 1000 with
        | false => exact iteT ⟨_, rfl, _, _, _, _, rfl, rfl, SqL.of P1, rfl, (by show 2 ≤ sizeLine; decide), fun D hD => ks _ _ D _ (due2 e0 e1 e2) (s1.trans (same_new hD)) (s1.free hD) upd_same⟩
        | true =>
          refine iteF ⟨_, rfl, _, _, _, _, rfl, rfl, SqL.of P1, rfl, F, n, v3, _, rfl, o3.kp (KpF.same s1), _, rfl, ?_⟩
          cases e3 : isNum v3 1 9 with
          | false => exact iteT ⟨_, rfl, _, _, _, _, rfl, rfl, SqL.of P1, rfl, (by show 2 ≤ sizeLine; decide), fun D hD => ks _ _ D _ (due3 e0 e1 e2 (by rw [e3]; rfl)) (s1.trans (same_new hD)) (s1.free hD) upd_same⟩
          | true =>
            obtain ⟨si, rfl, sa, sb⟩ := num_int e1
            obtain ⟨ev, rfl, ea, eb⟩ := num_int e2
            obtain ⟨ti, rfl, ta, tb'⟩ := num_int e3
            have sk : stOk (.int si) (.int ev) (.int ti) = (decide (si + ti - 1 ≤ 1000) && decide (ev * ti ≤ 1000)) := rfl
            refine iteF ⟨_, rfl, _, _, _, _, rfl, rfl, SqL.of P1, rfl, _, rfl, _, _, _, _, rfl, rfl, SqL.of P1, rfl, _, _, rfl, rfl, _, _, rfl, rfl, _, _, rfl, rfl, _, rfl, ite_d (fun c1 => ?_) (fun c1 => ?_)⟩
            · exact ⟨_, rfl, _, _, _, _, rfl, rfl, SqL.of P1, rfl, (by show 2 ≤ sizeLine; decide), fun D hD => ks _ _ D _ (due3 e0 e1 e2 (by rw [e3, sk, decide_eq_false (by omega)]; rfl)) (s1.trans (same_new hD)) (s1.free hD) upd_same⟩
            · refine ⟨_, rfl, _, _, _, _, rfl, rfl, SqL.of P1, rfl, _, rfl, _, _, _, _, rfl, rfl, SqL.of P1, rfl, _, _, rfl, rfl, .inr ⟨by omega, by omega⟩, _, _, rfl, rfl, _, rfl, ite_d (fun c2 => ?_) (fun c2 => ?_)⟩
              · exact ⟨_, rfl, _, _, _, _, rfl, rfl, SqL.of P1, rfl, (by show 2 ≤ sizeLine; decide), fun D hD => ks _ _ D _ (due3 e0 e1 e2 (by rw [e3, sk, decide_eq_false (show ¬ ev * ti ≤ 1000 by omega), Bool.and_false]; rfl)) (s1.trans (same_new hD)) (s1.free hD) upd_same⟩
              · exact kn (due4 e0 e1 e2 (by rw [e3, sk, decide_eq_true (show si + ti - 1 ≤ 1000 by omega), decide_eq_true (show ev * ti ≤ 1000 by omega)]; rfl)) H1 s1
end k10
namespace k10
open PySem L2 LC RM
def sprules_so (a : Ad) (r : Ar) : Sp := fun vs H Q _ => ∃ (F : Addr → Prop) (P D : Addr) (z : Str) (si ev : Int) (st : Nat) (xs : List Addr), vs = [.ref P, .ref D] ∧ H P = some (.lst [.str z, .int si, .int ev, .int st]) ∧ H D = some (.lst (xs.map V.ref)) ∧ xs.length = st ∧ Rls r a F H z si ev xs ∧
  isNamN 7 (.str z) = true ∧ 1 ≤ si ∧ si + st - 1 ≤ 1000 ∧ 1 ≤ ev ∧ ev * st ≤ 1000 ∧ st ≤ 9 ∧ ∀ H', Same H H' → Q (.bl true) H'
theorem ok_rules_so {P : Program} {w : World} {K : PySem.W.Frag} {mg : Str → Option Value} {base : Heap} {f : Addr} {fd : FuncData} (D : Def K mg "_law_rules_so" srules_so Prules_so f fd) (T : Txt K mg) {a : Ad} (KN : Kn K mg a) {r : Ar} (KR : Kr K mg r) {CInvalidName CInvalidNumber CInvalidRest : Addr} (IRule : FnR P w K mg base (L2.CX P w) 3 r.i (spRule_init a r CInvalidName CInvalidNumber CInvalidRest)) (IWindow : FnR P w K mg base CX0 3 a.Wi (spWindow_init K a)) (RW : FnR P w K mg base CX0 1 a.fW (spRest_written K a)) (OSr : FnR P w K mg base CX0 3 r.fS (spRule_str K a r)) (OEr : FnR P w K mg base CX0 2 r.fE (spRule_eq K a r)) {flike : Addr} {fdlike : FuncData} (Dlike : Def K mg "_law_like" slike Plike flike fdlike) (Glike : FnOk P w K mg base CX0 5 flike fdlike Plike (splike 5)) :
    FnOk P w K mg base CX0 6 f fd Prules_so (sprules_so a r) := by
  refine D.F.ok scrules_so (fun vs H Q E h => ?_) (fun cdv A outer s H vs Q E hr h => ?_)
  · obtain ⟨F, P, D, z, si, ev, st, xs, rfl, hP, hD, lx, rl, hz, s0, s1, e0, e1, t9, k⟩ := h
    rfl
  · obtain ⟨F, P, D, z, si, ev, st, xs, rfl, hP, hD, lx, rl, hz, s0, s1, e0, e1, t9, k⟩ := h
    have hrlike : Room 5 _ := hr.mono (by decide)
    have hrI : Room 4 _ := hr.mono (by decide)
    have hrI2 : Room 4 _ := hr.mono (by decide)
    have hrM : Room 1 _ := hr.mono (by decide)
    have hrS : Room (3 + 2) _ := hr.mono (by decide)
    have hrQ : Room 2 _ := hr.mono (by decide)
    refine ⟨_, (pss_cons (ps_if (PW.pt (pw_or (pt_not (pt_val (pe_callB call_isi (by rfl) T.n_isinstance (by decide +kernel) (pa_cons (pv 1) (pa_cons (pe_ty "list" (by rfl) T.n_list (by decide +kernel)) pa_nil))))) (pw_or1 (pt_cmpR op_ne (pe_callB call_len_seq (by rfl) T.n_len PySem.boot_len (pa_cons (pv 1) pa_nil)) (pe_ix ix_list (pv 0) pe_int (fun _ _ => rfl)) (nomark _))))) (pss_one (ps_ret pe_bl)) pss_nil)
        (pss_cons (ps_for PassesOwn.never rfl (pi_range1 rfl T.n_range (pa_cons (pe_ix ix_list (pv 0) pe_int (fun _ _ => rfl)) pa_nil)) (pg_name (i := 2) scrules_so.nd rfl (Or.inl rfl))
          (pss_cons (ps_set (i := 3) scrules_so.nd rfl (Or.inl rfl) (pe_ix ix_list (pv 1) (pv 2) (fun _ _ => rfl)))
        (pss_cons (ps_if (pt_not (pt_val (pe_callB call_isi (by rfl) T.n_isinstance (by decide +kernel) (pa_cons (pv 3) (pa_cons (pe_glob rfl KR.g (show RelV (.ref r.c) _ from rfl)) pa_nil))))) (pss_one (ps_ret pe_bl)) pss_nil)
        (pss_cons (ps_set (i := 4) scrules_so.nd rfl (Or.inl rfl) (pe_op op_mul (pe_op op_add (pv 2) pe_int) (pe_ix ix_list (pv 0) pe_int (fun _ _ => rfl))))
        (pss_cons (ps_set (i := 5) scrules_so.nd rfl (Or.inl rfl) (pe_lst (pa_cons (pe_op op_add_str (pe_ix ix_list (pv 0) pe_int (fun _ _ => rfl)) (pe_callTy call_str_int (by rfl) T.n_str (by decide +kernel) (pa_cons (pv 2) pa_nil))) (pa_cons (pe_op op_add (pe_ix ix_list (pv 0) pe_int (fun _ _ => rfl)) (pv 2)) (pa_cons (pe_joined (.cons pe_str (.cons (pe_fmt (pv 4)) .nil))) (pa_cons (pe_joined (.cons (pe_fmt (pe_ix ix_list (pv 0) pe_int (fun _ _ => rfl))) (.cons (pe_fmt (pv 2)) (.cons pe_str (.cons (pe_fmt (pe_op op_add (pe_ix ix_list (pv 0) pe_int (fun _ _ => rfl)) (pv 2))) (.cons pe_str (.cons (pe_fmt (pv 4)) .nil))))))) pa_nil))))))
        (pss_cons (ps_if (pt_not (pt_val (pe_call Glike hrlike rfl Dlike.g Dlike.F.kp Dlike.b .nil pass0 (pa_cons (pe_lst (pa_cons (pe_fld (pv 3) rfl) (pa_cons (pe_fld (pv 3) rfl) (pa_cons (LS.pe_methD0 (pe_fld (pv 3) rfl) KN.kW RW hrM) (pa_cons (pe_callTy (LE.call_strI (n := 3) hrS) (by rfl) T.n_str (by decide +kernel) (pa_cons (pv 3) pa_nil)) pa_nil))))) (pa_cons (pv 5) pa_nil))))) (pss_one (ps_ret pe_bl)) pss_nil)
        (pss_one (ps_if (PW.pt (pw_or (pt_not (pt_cmpR (LE.op_eqI (n := 2) hrQ) (pv 3) (StX.pe_makeR KR.m IRule hrI rfl KR.g passL (pa_cons (pe_ix ix_list (pv 5) pe_int (fun _ _ => rfl)) (pa_cons (pe_ix ix_list (pv 5) pe_int (fun _ _ => rfl)) (pa_cons (StX.pe_makeR KN.mWindow IWindow hrI2 rfl KN.gWindow pass0 (pa_cons (pv 4) pa_nil)) pa_nil)))) (nomark _))) (pw_or1 (pt_cmpR (LE.op_eqI (n := 2) hrQ) (pv 3) (StX.pe_makeR KR.m IRule hrI rfl KR.g passL (pa_cons (pe_ix ix_list (pv 5) pe_int (fun _ _ => rfl)) (pa_cons (pe_ix ix_list (pv 5) pe_int (fun _ _ => rfl)) (pa_cons (StX.pe_makeR KN.mWindow IWindow hrI2 rfl KN.gWindow pass0 (pa_cons (pe_op op_add pe_int (pe_op op_mod (pe_callTy call_int1 (by rfl) T.n_int (by decide +kernel) (pa_cons (pv 4) pa_nil)) pe_int)) pa_nil)) pa_nil)))) (nomark _))))) (pss_one (ps_ret pe_bl)) pss_nil))))))))
        (pss_one (ps_ret pe_bl)))), ?_⟩
    refine ⟨_, rfl, _, _, _, _, _, rfl, .ty _, .base (.lst hD), kit_ty (show kitB "list" "list" = some true by decide +kernel), _, rfl, iteF ?_⟩
    refine ⟨_, rfl, _, _, rfl, .inl (SqL.of hD), _, rfl, _, _, _, _, rfl, rfl, SqL.of hP, rfl, rfl, _, rfl, ite_nd (fun h => absurd (by rw [List.length_map, lx]) h) (fun _ => ?_)⟩
    refine ⟨_, rfl, _, _, _, _, rfl, rfl, SqL.of hP, rfl, _, rfl, by omega, by omega, for_range (lo := 0) (n := st) (fun i σ H' => ∃ (v2 v3 v4 v5 : Option V), σ = [some (.ref P), some (.ref D), v2, v3, v4, v5] ∧ Same H H') ⟨_, _, _, _, rfl, Same.refl H⟩ ?_ ?_⟩
    · rintro i σ H1 hi ⟨v2, v3, v4, v5, rfl, sm⟩
      simp only [Int.zero_add]
      obtain ⟨x, hx⟩ : ∃ x, xs[i]? = some x := ⟨_, List.getElem?_eq_getElem (by omega)⟩
      obtain ⟨y, nx, ⟨dx, hxx⟩, R⟩ := rl i x hx
      have hxr : (xs.map V.ref)[i]? = some (V.ref x) := by rw [List.getElem?_map, hx]; rfl
      obtain ⟨n1, n2, n3⟩ := nam_dig hz (show i < 10 by omega)
      have zl : z.length ≤ 7 := by
        rw [namN7, Bool.and_eq_true] at hz
        exact of_decide_eq_true hz.2
      have w0 : 1 ≤ wideK ev i := by
        have := Int.mul_le_mul (show 1 ≤ (i : Int) + 1 by omega) e0 (by decide) (by omega)
        have wk : wideK ev i = ((i : Int) + 1) * ev := rfl
        omega
      have w1 : wideK ev i ≤ 1000 := by
        have := Int.mul_le_mul_of_nonneg_right (show (i : Int) + 1 ≤ (st : Int) by omega) (show 0 ≤ ev by omega)
        have q : (st : Int) * ev = ev * st := Int.mul_comm _ _
        have wk : wideK ev i = ((i : Int) + 1) * ev := rfl
        omega
      have e2 : ev ≤ 1000 := by
        have := Int.mul_le_mul_of_nonneg_left (show (1 : Int) ≤ (st : Int) by omega) (show 0 ≤ ev by omega)
        rw [Int.mul_one] at this
        omega
      have hP1 := sm _ _ hP
      have hx1 := sm _ _ hxx
      have il := int_len (i := (i : Int)) (by omega) (by omega)
      have cl := int_len (i := si + (i : Int)) (by omega) (by omega)
      have wl := int_len (i := wideK ev i) (by omega) (by omega)
      have sz : sizeLine = 16777216 := rfl
      have z0 : Str.empty.length = 0 := rfl
      have z1 : ("window " : Str).length = 7 := by decide +kernel
      have z2 : (" " : Str).length = 1 := by decide +kernel
      have z3 : (" window " : Str).length = 8 := by decide +kernel
      refine ⟨_, rfl, _, rfl, _, _, _, _, rfl, rfl, SqL.of (sm _ _ hD), atI_nat hxr, ?_⟩
      refine ⟨_, rfl, _, _, _, _, _, rfl, .own _, .base (.ins hx1 KR.cl KR.ha KR.hn KR.htk KR.hm), KR.me, _, rfl, iteF ?_⟩
      -- wide
      refine ⟨_, rfl, _, _, rfl, rfl, _, rfl, _, _, _, _, rfl, rfl, SqL.of hP1, rfl, _, _, rfl, rfl, .inr ⟨by omega, by omega⟩, ?_⟩
      show tSeq _ _ _ [some (V.ref P), some (V.ref D), some (V.int i), some (V.ref x), some (V.int (wideK ev i)), v5] H1
      -- due
      refine ⟨_, rfl, _, _, _, _, rfl, rfl, SqL.of hP1, rfl, _, rfl, _, rfl, log_small (by omega) (by omega), _, _, rfl, rfl, by omega, ?_⟩
      refine ⟨_, rfl, _, _, _, _, rfl, rfl, SqL.of hP1, rfl, _, rfl, _, _, rfl, rfl, ?_⟩
      refine ⟨_, rfl, by rw [Str.length_append]; omega, _, rfl, .inr ⟨_, rfl, log_small (by omega) (by omega), _, rfl, by rw [Str.length_append, Str.length_append]; omega, ?_⟩⟩
      refine ⟨_, rfl, _, _, _, _, rfl, rfl, SqL.of hP1, rfl, .inl ⟨_, rfl, by omega, _, rfl, by rw [Str.length_append]; omega, _, rfl, .inr ⟨_, rfl, log_small (by omega) (by omega), _, rfl, by rw [Str.length_append, Str.length_append]; omega, ?_⟩⟩⟩
      refine ⟨_, rfl, by rw [Str.length_append, Str.length_append, Str.length_append]; omega, _, rfl, _, _, _, _, rfl, rfl, SqL.of hP1, rfl, _, rfl, _, _, rfl, rfl, .inr ⟨_, rfl, log_small (by omega) (by omega), _, rfl, by rw [Str.length_append, Str.length_append, Str.length_append, Str.length_append]; omega, ?_⟩⟩
      refine ⟨_, rfl, by rw [Str.length_append, Str.length_append, Str.length_append, Str.length_append, Str.length_append]; omega, _, rfl, .inr ⟨_, rfl, log_small (by omega) (by omega), _, rfl, by rw [Str.length_append, Str.length_append, Str.length_append, Str.length_append, Str.length_append, Str.length_append]; omega, ?_⟩⟩
      refine ⟨(by show 4 ≤ sizeLine; decide), fun U hU => ?_⟩
      have et : Str.empty ++ z ++ Str.ofString (toString (i : Int)) ++ " " ++ Str.ofString (toString (si + (i : Int))) ++ " window " ++ Str.ofString (toString (wideK ev i)) = ruleT (nameK z i) (si + i) (winT (wideK ev i)) := by
        unfold ruleT nameK winT
        rw [empty_app, empty_app, empty_app]
        have ew : (" window " : Str) = " " ++ "window " := by decide +kernel
        rw [ew]
        simp only [app_assoc]
      have nm : z ++ Str.ofString (toString (i : Int)) = nameK z i := rfl
      have wm : Str.empty ++ "window " ++ Str.ofString (toString (wideK ev i)) = winT (wideK ev i) := rfl
      rw [et, nm, wm]
      have s2 := sm.trans (same_new (o := .lst [.str (nameK z i), .int (si + i), .str (winT (wideK ev i)), .str (ruleT (nameK z i) (si + i) (winT (wideK ev i)))]) hU)
      have eU : upd H1 U (.lst [.str (nameK z i), .int (si + i), .str (winT (wideK ev i)), .str (ruleT (nameK z i) (si + i) (winT (wideK ev i)))]) U = some (.lst [.str (nameK z i), .int (si + i), .str (winT (wideK ev i)), .str (ruleT (nameK z i) (si + i) (winT (wideK ev i)))]) := upd_same
      generalize upd H1 U (.lst [.str (nameK z i), .int (si + i), .str (winT (wideK ev i)), .str (ruleT (nameK z i) (si + i) (winT (wideK ev i)))]) = H2 at s2 eU ⊢
      have hx2 := s2 _ _ hxx
      have R2 := R.same s2
      obtain ⟨C, dy, fs, hy, rc, F4, ht, _⟩ := R2.view KN
      -- told
      refine ⟨_, rfl, x, r.c, dx, _, _, rfl, hx2, KR.cl, KR.nn, lk_name, _, rfl, x, r.c, dx, _, _, rfl, hx2, KR.cl, KR.nc, lk_chips, _, rfl, x, r.c, dx, _, _, rfl, hx2, KR.cl, KR.nr, lk_rest, y, C, dy, fs, rfl, hy, rc.cl, rc.mW, F4.mw, y, F, _, _, rfl, R2, ?_⟩
      refine ⟨_, rfl, x, r.c, dx, r.fS, _, _, rfl, hx2, ⟨KR.s1, KR.s2, OSr⟩, x, y, _, _, F, _, _, rfl, ⟨dx, hx2⟩, n3, by omega, by omega, R2, _, rfl, (by show 4 ≤ sizeLine; decide), fun W hW => ?_⟩
      have s3 := s2.trans (same_new (o := .lst [.str (nameK z i), .int (si + i), .str (winT (wideK ev i)), .str (ruleT (nameK z i) (si + i) (winT (wideK ev i)))]) hW)
      refine ⟨_, rfl, V.ref W, V.ref U, 1, rfl, by decide, .inr (.inr ⟨true, W, U, _, _, rfl, rfl, upd_same, by show upd H2 W _ U = _; rw [upd_ne (ne_of_none eU hW)]; exact eU, rfl, (by show 4 ≤ 1000000; decide), fun j u v a1 a2 => ?_⟩), fun H3 s4 => ⟨_, rfl, ite_nb (fun h => Bool.noConfusion h) (fun _ => ?_)⟩⟩
      · rw [a1] at a2
        cases a2
        match j, a1 with
        | 0, a1 => cases a1; exact Lq.sc (by exact True.intro) 0
        | 1, a1 => cases a1; exact Lq.sc (by exact True.intro) 0
        | 2, a1 => cases a1; exact Lq.sc (by exact True.intro) 0
        | 3, a1 => cases a1; exact Lq.sc (by exact True.intro) 0
      have s5 := s3.trans s4
      have eU3 := s4 _ _ (same_new (o := .lst [.str (nameK z i), .int (si + i), .str (winT (wideK ev i)), .str (ruleT (nameK z i) (si + i) (winT (wideK ev i)))]) hW _ _ eU)
      have ci : isNum (.int (si + (i : Int))) 1 1000 = true := num_true (by omega) (by omega)
      have eb : ∀ w : Int, (decide (nameK z i = nameK z i) && (decide (si + (i : Int) = si + i) && decide (winT (wideK ev i) = winT w))) = decide (winT (wideK ev i) = winT w) := fun w => by
        rw [decide_eq_true (rfl : nameK z i = nameK z i), decide_eq_true (rfl : si + (i : Int) = si + i), Bool.true_and, Bool.true_and]
      refine ⟨_, rfl, _, rfl, _, _, _, _, rfl, rfl, SqL.of eU3, rfl, _, rfl, _, _, _, _, rfl, rfl, SqL.of eU3, rfl, _, rfl, fun ya dya hya hdya nya => ⟨ya, dya, (fun _ => False), wideK ev i, H3, rfl, upd_same, hya, id, same_two hya hdya, w0, w1, fun Ja ja RYa => ⟨rfl, fun xa dxa hxa hdxa nxa => ⟨xa, dxa, (fun _ => False), 0, .str (nameK z i), .int (si + (i : Int)), .ref ya, Ja, rfl, upd_same, hxa, same_two hxa hdxa, n3, True.intro, .inr ⟨ya, _, _, rfl, RYa⟩, (fun q => absurd (q.symm.trans n1) Bool.false_ne_true), (fun _ q => absurd (q.symm.trans ci) Bool.false_ne_true), (fun _ _ q => q.elim), fun nma cha ua ta pa HHa q1 q2 q3 _ _ _ la RAa => ?_⟩⟩⟩⟩
      cases q1
      cases q2
      cases q3
      refine ⟨rfl, ?_⟩
      have t5 := ja.trans la
      have RZa := RYa.same la
      have s6 := s5.trans t5
      obtain ⟨dz2, RA'⟩ := id RAa
      refine ⟨x, r.c, dx, r.fE, _, _, _, rfl, s6 _ _ hxx, ⟨KR.e1, KR.e2, OEr⟩, .ins RA', (by simp [PySem.W.notFirst]), x, y, _, _, _, F, _, _, rfl, ⟨dx, s6 _ _ hxx⟩, R.same s6, .inr (.inr ⟨xa, ya, _, _, _, _, _, rfl, RAa, RZa, ?_⟩)⟩
      rw [eb, decide_eq_true rfl]
      refine ⟨_, rfl, iteF ?_⟩
      have eU5 := t5 _ _ eU3
      refine ⟨_, rfl, _, rfl, _, _, _, _, rfl, rfl, SqL.of eU5, rfl, _, rfl, _, _, _, _, rfl, rfl, SqL.of eU5, rfl, _, rfl, .inl ⟨_, rfl, _, _, rfl, rfl, (by show (0 : Int) < 1000; decide), _, _, rfl, rfl, fun yb dyb hyb hdyb nyb => ⟨yb, dyb, (fun _ => False), 1 + wideK ev i % 1000, HHa, rfl, upd_same, hyb, id, same_two hyb hdyb, (by omega), (by omega), fun Jb jb RYb => ⟨rfl, fun xb dxb hxb hdxb nxb => ⟨xb, dxb, (fun _ => False), 0, .str (nameK z i), .int (si + (i : Int)), .ref yb, Jb, rfl, upd_same, hxb, same_two hxb hdxb, n3, True.intro, .inr ⟨yb, _, _, rfl, RYb⟩, (fun q => absurd (q.symm.trans n1) Bool.false_ne_true), (fun _ q => absurd (q.symm.trans ci) Bool.false_ne_true), (fun _ _ q => q.elim), fun nmb chb ub tb pb HHb q1 q2 q3 _ _ _ lb RAb => ?_⟩⟩⟩⟩⟩
      cases q1
      cases q2
      cases q3
      refine ⟨rfl, ?_⟩
      have t6 := jb.trans lb
      have RZb := RYb.same lb
      have s7 := s6.trans t6
      obtain ⟨dz3, RA3'⟩ := id RAb
      refine ⟨x, r.c, dx, r.fE, _, _, _, rfl, s7 _ _ hxx, ⟨KR.e1, KR.e2, OEr⟩, .ins RA3', (by simp [PySem.W.notFirst]), x, y, _, _, _, F, _, _, rfl, ⟨dx, s7 _ _ hxx⟩, R.same s7, .inr (.inr ⟨xb, yb, _, _, _, _, _, rfl, RAb, RZb, ?_⟩)⟩
      rw [eb, win_ne w0 w1]
      exact ⟨_, rfl, iteF ⟨_, _, _, _, rfl, s7⟩⟩
    · rintro σ H1 ⟨v2, v3, v4, v5, rfl, sm⟩
      exact k H1 sm
end k10
namespace k10
open PySem L2 LC RM
/-- no stretch of the rule k has too many -/
abbrev holdsK (si ev s : Int) (ts : List Int) (k : Nat) : Prop := ∀ m ∈ ts ++ [s], wsum (.win (wideK ev k)) (ones (ts ++ [s])) m ≤ si + k
def splet (a : Ad) (r : Ar) : Sp := fun vs H Q _ => ∃ (F : Addr → Prop) (D G : Addr) (z : Str) (si ev s : Int) (xs : List Addr) (ts : List Int) (us : List Addr), vs = [.ref D, .ref G, .int s] ∧ H D = some (.lst (xs.map V.ref)) ∧ xs.length ≤ 9 ∧ Rls r a F H z si ev xs ∧ 1 ≤ ev ∧ ev * xs.length ≤ 1000 ∧
  H G = some (.lst (us.map V.ref)) ∧ Rows H (ones ts) us ∧ ts.length ≤ 100 ∧ ∀ (b : Bool) H', Same H H' → (b = true ↔ ∀ k : Nat, k < xs.length → holdsK si ev s ts k) → Q (.bl b) H'
theorem inV_bls : ∀ bs : List Bool, inV (.bl false) (bs.map V.bl) = !(bs.all id)
  | [] => rfl
  | b :: r => by
    have ih := inV_bls r
    cases b with
    | false => rfl
    | true => exact ih
theorem flat_bls (bs : List Bool) : (bs.map V.bl).all flatV = true := by
  rw [List.all_map]
  exact List.all_eq_true.mpr fun _ _ => rfl
theorem best_le {f : Int → Int} {P : List Int} {c ch : Int} {o : Option Int} (B : BestOn f P c o) (hP : P ≠ []) : c ≤ ch ↔ ∀ m ∈ P, f m ≤ ch := by
  rcases B with ⟨h, _⟩ | ⟨m, hm, _, rfl, hx⟩
  · exact absurd h hP
  · exact ⟨fun h m' hm' => Int.le_trans (hx m' hm').1 h, fun h => h m hm⟩
theorem ok_let {P : Program} {w : World} {K : PySem.W.Frag} {mg : Str → Option Value} {base : Heap} {f : Addr} {fd : FuncData} (D : Def K mg "_law_let" slet Plet f fd) (T : Txt K mg) {a : Ad} (KN : Kn K mg a) {r : Ar} (KR : Kr K mg r) {fis_within : Addr} {fdis_within : FuncData} (Dis_within : Def K mg "is_within" sis_within Pis_within fis_within fdis_within) (Gis_within : FnOk P w K mg base CX0 4 fis_within fdis_within Pis_within (spis_within K a r)) :
    FnOk P w K mg base CX0 5 f fd Plet (splet a r) := by
  refine D.F.ok sclet (fun vs H Q E h => ?_) (fun cdv A outer s H vs Q E hr h => ?_)
  · obtain ⟨F, D, G, z, si, ev, s, xs, ts, us, rfl, hD, lx, rl, e0, e1, hG, hR, lt, k⟩ := h
    rfl
  · obtain ⟨F, D, G, z, si, ev, s, xs, ts, us, rfl, hD, lx, rl, e0, e1, hG, hR, lt, k⟩ := h
    have hris_within : Room 4 _ := hr.mono (by decide)
    refine ⟨_, (pss_cons (ps_setLc (i := 3) (own := [("_law_one", 4)]) (g := gName 4) (tt := tYes) rfl sclet.nd rfl rfl (sw_true rfl rfl rfl (by decide +kernel)) (pi_list (pv 0)) (blkOk_by (own := [("_law_one", 4)]) (N := Nmlet) (sc := defScope slet) (by decide +kernel)) (fun _ _ _ _ _ => pg_name (i := 4) sclet.nd rfl (Or.inl rfl)) (fun _ _ _ _ _ => pts_nil) (fun _ _ _ _ _ => (pe_call Gis_within hris_within rfl Dis_within.g Dis_within.F.kp Dis_within.b .nil pass0 (pa_cons (pv 4) (pa_cons (pe_op op_cat (pv 1) (pe_lst (pa_cons (pe_tup (pa_cons (pv 2) (pa_cons pe_int pa_nil))) pa_nil))) pa_nil)))))
        (pss_one (ps_ret (pe_ifExp (pt_cmpR op_in_seq pe_bl (pe_lc (own := [("_law_part", 5)]) (g := gName 5) (tt := tYes) rfl sclet.nd (pi_list (pv 3)) (blkOk_by (own := [("_law_part", 5)]) (N := Nmlet) (sc := defScope slet) (by decide +kernel)) (fun _ _ _ _ _ => pg_name (i := 5) sclet.nd rfl (Or.inl rfl)) (fun _ _ _ _ _ => pts_nil) (fun _ _ _ _ _ => (pe_callB (show CallR _ (.builtin "isinstance") (rIsi K) from call_isi) (by rfl) T.n_isinstance (by decide +kernel) (pa_cons (pv 5) (pa_cons (pe_ty "bool" (by rfl) T.n_bool (by decide +kernel)) pa_nil))))) (by rfl)) pe_non (pe_cmpR op_notIn_seq pe_bl (pv 3) (by rfl)))))), ?_⟩
    have lu := hR.len
    have lo : (ones ts).length = ts.length := by unfold ones; rw [List.length_map]
    refine ⟨_, rfl, D, rfl, ⟨_, SqL.of hD⟩, fun T hT => lc_it (walk_list (K := K) (a := D) (xs := xs.map V.ref)) (fun i H' => Same H H' ∧ ∃ bs : List Bool, H' T = some (.lst (bs.map V.bl)) ∧ bs.length = i ∧ ∀ j, j < i → (bs[j]? = some true ↔ holdsK si ev s ts j))
      ⟨same_new hT, [], upd_same, rfl, fun j h => absurd h (Nat.not_lt_zero _)⟩ (fun i H' _ ⟨s, _⟩ => s.seq (SqL.of hD)) ?_ ?_⟩
    · rintro i y H1 H1' hi ⟨s1, bs, eT, lb, hb⟩ ⟨rfl, hy⟩
      rw [List.length_map] at hi
      obtain ⟨x, hx⟩ : ∃ x, xs[i]? = some x := ⟨_, List.getElem?_eq_getElem hi⟩
      have hy2 : (xs.map V.ref)[i]? = some y := hy
      rw [List.getElem?_map, hx] at hy2
      cases hy2
      obtain ⟨y, nx, RA, R⟩ := rl i x hx
      have w0 : 1 ≤ wideK ev i := by
        have := Int.mul_le_mul (show 1 ≤ (i : Int) + 1 by omega) e0 (by decide) (by omega)
        have wk : wideK ev i = ((i : Int) + 1) * ev := rfl
        omega
      have w1 : wideK ev i ≤ 1000 := by
        have := Int.mul_le_mul_of_nonneg_right (show (i : Int) + 1 ≤ (xs.length : Int) by omega) (show 0 ≤ ev by omega)
        have q : (xs.length : Int) * ev = ev * xs.length := Int.mul_comm _ _
        have wk : wideK ev i = ((i : Int) + 1) * ev := rfl
        omega
      refine ⟨rfl, _, rfl, _, rfl, _, rfl, (by show 2 ≤ sizeLine; decide), fun t ht => ⟨(by show 1 ≤ sizeLine; decide), fun q hq => ?_⟩⟩
      have st := same_new (o := .tup [.int s, .int 1]) ht
      have sq := same_new (o := .lst [.ref t]) hq
      have s2 := s1.trans (st.trans sq)
      have et := sq _ _ (upd_same (H := H1') (a := t) (o := .tup [.int s, .int 1]))
      have eq_ : upd (upd H1' t (.tup [.int s, .int 1])) q (.lst [.ref t]) q = some (.lst [.ref t]) := upd_same
      have eT2 := sq _ _ (st _ _ eT)
      generalize upd (upd H1' t (.tup [.int s, .int 1])) q (.lst [.ref t]) = H2 at s2 et eq_ eT2 ⊢
      refine ⟨G, q, _, _, rfl, rfl, s2 _ _ hG, eq_, by rw [List.length_map, lu, lo]; exact Nat.le_trans (show ts.length + 1 ≤ 101 by omega) (by decide), fun c hc => ?_⟩
      have sc := same_new (o := .lst (us.map V.ref ++ [V.ref t])) hc
      have s3 := s2.trans sc
      have eo : ones (ts ++ [s]) = ones ts ++ [(s, 1)] := by unfold ones; rw [List.map_append]; rfl
      refine ⟨x, y, c, _, _, F, _, _, 0, ones (ts ++ [s]), us ++ [t], rfl, (by obtain ⟨dx, h⟩ := RA; exact ⟨dx, s3 _ _ h⟩), R.same s3, ⟨w0, w1⟩, .inl (by rw [List.map_append]; exact SqL.of upd_same), by rw [eo]; exact Rows.snoc (r := (s, 1)) (sc _ _ et) (hR.kt (Kt.same s3)), fun rr hr => ?_, fun cc oo H4 s4 B => ?_⟩
      · unfold ones at hr
        obtain ⟨m, _, rfl⟩ := List.mem_map.mp hr
        exact Int.le_refl 1
      · have eT4 := s4 _ _ (sc _ _ eT2)
        refine ⟨_, eT4, by rw [List.length_map, lb]; exact Nat.lt_of_lt_of_le hi (Nat.le_trans lx (by decide)), fun c' u ec => ?_, bs ++ [decide (cc ≤ si + i)], by rw [upd_same, List.map_append]; rfl, by rw [List.length_append, lb]; rfl, fun j hj => ?_⟩
        · rw [upd_ne (ne_of_none ec hT)]
          exact s4 _ _ (s3 _ _ ec)
        · by_cases c : j < i
          · rw [List.getElem?_append_left (by omega)]
            exact hb j c
          · obtain rfl : j = i := by omega
            rw [List.getElem?_append_right (by omega), lb, Nat.sub_self]
            have bl := best_le (ch := si + (j : Int)) B (by rw [ones_fst]; simp)
            rw [ones_fst] at bl
            constructor
            · intro h
              have h' : decide (cc ≤ si + (j : Int)) = true := Option.some.inj h
              exact bl.mp (of_decide_eq_true h')
            · intro h
              show some (decide (cc ≤ si + (j : Int))) = some true
              rw [decide_eq_true (bl.mpr h)]
    · rintro H1 ⟨s1, bs, eT, lb, hb⟩
      rw [List.length_map] at lb hb
      have hall : bs.all id = true ↔ ∀ k : Nat, k < xs.length → holdsK si ev s ts k := by
        rw [List.all_eq_true]
        constructor
        · intro h k hk
          have e := List.getElem?_eq_getElem (l := bs) (i := k) (by omega)
          have q := h _ (List.mem_of_getElem? e)
          exact (hb k hk).mp (by rw [e]; exact congrArg some q)
        · intro h b hbm
          obtain ⟨j, hj⟩ := List.mem_iff_getElem?.mp hbm
          have jl : j < bs.length := (List.getElem?_eq_some_iff.mp hj).1
          have q := (hb j (by omega)).mpr (h j (by omega))
          rw [hj] at q
          exact Option.some.inj q
      refine ⟨_, rfl, T, rfl, ⟨_, SqL.of eT⟩, fun U hU => lc_it (walk_list (K := K) (a := T) (xs := bs.map V.bl)) (fun i H' => Same H1 H' ∧ H' U = some (.lst ((List.replicate i true).map V.bl)))
        ⟨same_new hU, upd_same⟩ (fun i H' _ ⟨s, _⟩ => s.seq (SqL.of eT)) ?_ ?_⟩
      · rintro i y H2 H2' hi ⟨s2, eU⟩ ⟨rfl, hy⟩
        have hy2 : (bs.map V.bl)[i]? = some y := hy
        rw [List.getElem?_map] at hy2
        rw [List.length_map] at hi
        rw [List.getElem?_eq_getElem hi] at hy2
        cases hy2
        refine ⟨rfl, _, rfl, _, _, _, _, _, rfl, .ty _, .base (.bl _), kit_ty (show kitB "bool" "bool" = some true by decide +kernel), _, eU, ?_, fun c u ec => ?_, ?_⟩
        · rw [List.length_map, List.length_replicate]
          exact Nat.lt_of_lt_of_le hi (Nat.le_trans (show bs.length ≤ 9 by omega) (by decide))
        · rw [upd_ne (ne_of_none ec hU)]
          exact s2 c u ec
        · rw [upd_same, List.replicate_succ', List.map_append]
          rfl
      · rintro H2 ⟨s2, eU⟩
        refine ⟨U, _, rfl, .inl (SqL.of eU), rfl, flat_bls _, _, rfl, ?_⟩
        have er : (List.replicate (bs.map V.bl).length true).all id = true := by simp
        rw [inV_bls, er]
        refine iteF ⟨_, rfl, T, _, rfl, .inl (SqL.of (s2 _ _ eT)), rfl, flat_bls _, ?_⟩
        rw [inV_bls]
        refine k _ H2 (s1.trans s2) ?_
        rw [← hall]
        simp
end k10
namespace k10
open PySem L2 LC RM
def rTupOf (K : PySem.W.Frag) : List V → Hp → VK → Prop := fun xs H Q => ∃ p ys, xs = [V.ref p] ∧ ((SqL K H p ys ∧ ∀ l, H l = none → Q (.ref l) (upd H l (.tup ys))) ∨ SqT K H p ys ∧ Q (.ref p) H)
theorem call_tupK {X : Cx} : CallR X (.type "tuple") (rTupOf X.K) := call_tuple_of
def spasked_so (a : Ad) (r : Ar) : Sp := fun vs H Q _ => ∃ (F : Addr → Prop) (g l P D : Addr) (z : Str) (si ev : Int) (st : Nat) (xs : List Addr), vs = [.ref g, .ref P, .ref D] ∧ Bag l H g ∧ F g ∧ P ≠ g ∧ D ≠ g ∧ H P = some (.lst [.str z, .int si, .int ev, .int st]) ∧ H D = some (.lst (xs.map V.ref)) ∧ xs.length = st ∧ Rls r a F H z si ev xs ∧
  1 ≤ si ∧ si ≤ 1000 ∧ 1 ≤ ev ∧ ev * st ≤ 1000 ∧ 1 ≤ st ∧ st ≤ 9 ∧ ∀ H', Ok g l H H' → Q (.bl true) H'
theorem ok_asked_so {P : Program} {w : World} {K : PySem.W.Frag} {mg : Str → Option Value} {base : Heap} {f : Addr} {fd : FuncData} (D : Def K mg "_law_asked_so" sasked_so Pasked_so f fd) (T : Txt K mg) {a : Ad} (KN : Kn K mg a) {r : Ar} (KR : Kr K mg r) {fis_within : Addr} {fdis_within : FuncData} (Dis_within : Def K mg "is_within" sis_within Pis_within fis_within fdis_within) (Gis_within : FnOk P w K mg base CX0 4 fis_within fdis_within Pis_within (spis_within K a r)) {fdraw : Addr} {fddraw : FuncData} (Ddraw : Def K mg "_law_draw" sdraw Pdraw fdraw fddraw) (Gdraw : FnOk P w K mg base CX0 1 fdraw fddraw Pdraw (spdraw)) {fof : Addr} {fdof : FuncData} (Dof : Def K mg "_law_of" sof Pof fof fdof) (Gof : FnOk P w K mg base CX0 2 fof fdof Pof (spof K)) {flike : Addr} {fdlike : FuncData} (Dlike : Def K mg "_law_like" slike Plike flike fdlike) (Glike : FnOk P w K mg base CX0 5 flike fdlike Plike (splike 5)) {flet : Addr} {fdlet : FuncData} (Dlet : Def K mg "_law_let" slet Plet flet fdlet) (Glet : FnOk P w K mg base CX0 5 flet fdlet Plet (splet a r)) :
    FnOk P w K mg base CX0 6 f fd Pasked_so (spasked_so a r) := by
  refine D.F.ok scasked_so (fun vs H Q E h => ?_) (fun cdv A outer s H vs Q E hr h => ?_)
  · obtain ⟨F, g, l, P, D, z, si, ev, st, xs, rfl, B, Fg, nP, nD, hP, hD, lx, rl, s0, s1, e0, e1, t1, t9, k⟩ := h
    rfl
  · obtain ⟨F, g, l, P, D, z, si, ev, st, xs, rfl, B, Fg, nP, nD, hP, hD, lx, rl, s0, s1, e0, e1, t1, t9, k⟩ := h
    have hris_within : Room 4 _ := hr.mono (by decide)
    have hrdraw : Room 1 _ := hr.mono (by decide)
    have hrof : Room 2 _ := hr.mono (by decide)
    have hrlike : Room 5 _ := hr.mono (by decide)
    have hrlet : Room 5 _ := hr.mono (by decide)
    refine ⟨_, (pss_cons (ps_set (i := 3) scasked_so.nd rfl (Or.inl rfl) (pe_call Gof hrof rfl Dof.g Dof.F.kp Dof.b .nil pass0 (pa_cons (pv 0) (pa_cons (pe_lst (pa_cons pe_int (pa_cons pe_int (pa_cons (pe_call Gdraw hrdraw rfl Ddraw.g Ddraw.F.kp Ddraw.b .nil pass0 (pa_cons (pv 0) (pa_cons pe_int pa_nil))) (pa_cons pe_int pa_nil))))) pa_nil))))
        (pss_cons (ps_set (i := 4) scasked_so.nd rfl (Or.inl rfl) (pe_op op_add (pv 3) (pe_op op_mul (pe_ix ix_list (pv 1) pe_int (fun _ _ => rfl)) (pe_ix ix_list (pv 1) pe_int (fun _ _ => rfl)))))
        (pss_cons (ps_set (i := 5) scasked_so.nd rfl (Or.inl rfl) (pe_op op_mul (pe_op op_sub (pe_ix ix_list (pv 1) pe_int (fun _ _ => rfl)) pe_int) (pe_ix ix_list (pv 1) pe_int (fun _ _ => rfl))))
        (pss_cons (ps_asg (pe_tup (pa_cons (pe_lst pa_nil) (pa_cons pe_int (pa_cons (pv 3) pa_nil)))) (pg_tup rfl (pgs_cons (pg_name (i := 6) scasked_so.nd rfl (Or.inr rfl)) (pgs_cons (pg_name (i := 7) scasked_so.nd rfl (Or.inl rfl)) (pgs_cons (pg_name (i := 8) scasked_so.nd rfl (Or.inl rfl)) pgs_nil)))))
        (pss_cons (ps_for PassesOwn.never rfl (pi_range1 rfl T.n_range (pa_cons pe_int pa_nil)) (pg_name (i := 9) scasked_so.nd rfl (Or.inl rfl))
          (pss_cons (ps_set (i := 10) scasked_so.nd rfl (Or.inl rfl) (pe_cmpR op_le (pv 7) (pe_op op_add (pv 8) (pv 5)) (nomark _)))
        (pss_cons (ps_if (pt_not (pt_val (pe_call Glike hrlike rfl Dlike.g Dlike.F.kp Dlike.b .nil pass0 (pa_cons (pe_call Glet hrlet rfl Dlet.g Dlet.F.kp Dlet.b .nil pass0 (pa_cons (pv 2) (pa_cons (pv 6) (pa_cons (pv 8) pa_nil)))) (pa_cons (pv 10) pa_nil))))) (pss_one (ps_ret pe_bl)) pss_nil)
        (Evl.pss_cut (ps_if (pt_val (pv 10)) (pss_cons (ps_expr (pe_bm PySem.F.plainAttrs_list PySem.F.slot_list_append PySem.F.type_list_append mt_append (pv 6) (pa_cons (pe_tup (pa_cons (pv 8) (pa_cons pe_int pa_nil))) pa_nil)))
        (pss_one (ps_set (i := 7) scasked_so.nd rfl (Or.inl rfl) (pe_op op_add (pe_callB (call_max2 rfl) (by rfl) T.n_max (by decide +kernel) (pa_cons (pv 7) (pa_cons (pv 8) pa_nil))) (pe_ix ix_list (pv 1) pe_int (fun _ _ => rfl)))))) pss_nil)
        (pss_cons (ps_set (i := 11) scasked_so.nd rfl (Or.inl rfl) (pe_op op_add (pv 8) (pe_call Gdraw hrdraw rfl Ddraw.g Ddraw.F.kp Ddraw.b .nil pass0 (pa_cons (pv 0) (pa_cons (pe_op op_add pe_int (pe_op op_mul (pe_ix ix_list (pv 1) pe_int (fun _ _ => rfl)) (pe_call Gof hrof rfl Dof.g Dof.F.kp Dof.b .nil pass0 (pa_cons (pv 0) (pa_cons (pe_lst (pa_cons pe_int (pa_cons pe_int (pa_cons pe_int (pa_cons pe_int pa_nil))))) pa_nil))))) pa_nil)))))
        (Evl.pss_cut (ps_if (pt_cmpR op_eq (pe_call Gdraw hrdraw rfl Ddraw.g Ddraw.F.kp Ddraw.b .nil pass0 (pa_cons (pv 0) (pa_cons pe_int pa_nil))) pe_int (nomark _)) (pss_one (ps_set (i := 11) scasked_so.nd rfl (Or.inl rfl) (pe_op op_sub (pe_op op_add (pe_op op_sub (pv 7) (pv 5)) (pe_call Gdraw hrdraw rfl Ddraw.g Ddraw.F.kp Ddraw.b .nil pass0 (pa_cons (pv 0) (pa_cons pe_int pa_nil)))) pe_int))) pss_nil)
        (pss_one (ps_if (PW.pt (pw_and (pt_cmpR op_le (pv 8) (pv 11) (nomark _)) (pw_and1 (pt_cmpR op_lt (pv 11) (pv 4) (nomark _))))) (pss_one (ps_set (i := 8) scasked_so.nd rfl (Or.inl rfl) (pv 11))) pss_nil))))))))
        (pss_one (ps_ret (pe_callB (cr_all rfl) (by rfl) T.n_all (by decide +kernel) (pa_cons (pe_lc (own := [("_law_one", 12)]) (g := gName 12) (tt := tYes) rfl scasked_so.nd (pi_list (pv 2)) (blkOk_by (own := [("_law_one", 12)]) (N := Nmasked_so) (sc := defScope sasked_so) (by decide +kernel)) (fun _ _ _ _ _ => pg_name (i := 12) scasked_so.nd rfl (Or.inl rfl)) (fun _ _ _ _ _ => pts_nil) (fun _ _ _ _ _ => (pe_callK0 Gis_within hris_within rfl Dis_within.g Dis_within.F.kp (KB_is_within__rule_uses Dis_within.F) pass0 (pk_cons (pv 12) (pk_cons (pe_callTy (show CallR _ (.type "tuple") (rTupOf K) from call_tupK) (by rfl) T.n_tuple (by decide +kernel) (pa_cons (pv 6) pa_nil)) pk_nil))))) pa_nil))))))))), ?_⟩
    have ev2 : ev ≤ 1000 := by
      have := Int.mul_le_mul_of_nonneg_left (show (1 : Int) ≤ (st : Int) by omega) (show 0 ≤ ev by omega)
      rw [Int.mul_one] at this
      omega
    refine ⟨_, rfl, _, rfl, g, l, 60, rfl, B, by decide, by decide, fun d H1 d0 d1 r1 => ⟨(by show 4 ≤ sizeLine; decide), fun p hp => of_disp (E := E0) r1 hp (by show 0 < 4; decide) (by show 4 ≤ 1000000; decide) fun x H2 hx _ r2 => ?_⟩⟩
    obtain ⟨bs, rfl, b0, b1⟩ : ∃ bs : Int, x = .int bs ∧ 0 ≤ bs ∧ bs ≤ 9000 := by
      simp only [List.mem_cons, List.not_mem_nil, or_false] at hx
      rcases hx with rfl | rfl | rfl | rfl
      · exact ⟨_, rfl, by decide, by decide⟩
      · exact ⟨_, rfl, by decide, by decide⟩
      · exact ⟨_, rfl, by omega, by omega⟩
      · exact ⟨_, rfl, by decide, by decide⟩
    have hP2 := r2.at_ hP nP
    have hD2 := r2.at_ hD nD
    refine ⟨_, rfl, _, rfl, _, _, _, _, rfl, rfl, SqL.of hP2, rfl, _, rfl, _, _, _, _, rfl, rfl, SqL.of hP2, rfl, _, _, rfl, rfl, .inr ⟨by omega, by omega⟩, _, _, rfl, rfl, ?_⟩
    refine ⟨_, rfl, _, _, _, _, rfl, rfl, SqL.of hP2, rfl, _, _, rfl, rfl, _, rfl, _, _, _, _, rfl, rfl, SqL.of hP2, rfl, _, _, rfl, rfl, .inr ⟨by omega, by omega⟩, ?_⟩
    refine ⟨Nat.zero_le _, fun G hG => ⟨_, rfl, (by show 3 ≤ sizeLine; decide), fun T hT => ?_⟩⟩
    have r3 := r2.new (o := .lst []) hG
    have hGn := r2.free hG
    have nG := (r2.bag.ne hG).1
    have r4 := r3.new (o := .tup [.ref G, .int 0, .int bs]) hT
    have eG : upd (upd H2 G (.lst [])) T (.tup [.ref G, .int 0, .int bs]) G = some (.lst []) := by rw [upd_ne (ne_of_none upd_same hT)]; exact upd_same
    have eT : upd (upd H2 G (.lst [])) T (.tup [.ref G, .int 0, .int bs]) T = some (.tup [.ref G, .int 0, .int bs]) := upd_same
    generalize upd (upd H2 G (.lst [])) T (.tup [.ref G, .int 0, .int bs]) = H4 at r4 eG eT ⊢
    refine ⟨T, _, rfl, SqT.of eT, rfl, _, _, rfl, _, _, rfl, _, _, rfl, rfl, ?_⟩
    have R4 := r4
    have rl4 := rl.kp (KpF.kp Fg R4.kp)
    have hP4 := R4.at_ hP nP
    have hD4 := R4.at_ hD nD
    have hG4n : H G = none := hGn
    have bag4 := R4.bag
    clear eT hP2 hD2
    refine ⟨_, rfl, by decide, by decide, for_range (lo := 0) (n := 16) (fun i σ H' => ∃ (due s : Int) (ts : List Int) (us : List Addr) (v9 v10 v11 : Option V), σ = [some (.ref g), some (.ref P), some (.ref D), some (.int bs), some (.int (bs + ev * st)), some (.int ((si - 1) * ev)), some (.ref G), some (.int due), some (.int s), v9, v10, v11, none] ∧ Ok g l H H' ∧ H' G = some (.lst (us.map V.ref)) ∧ Rows H' (ones ts) us ∧ ts.length ≤ i ∧ Bk si ev ts due ∧ (∀ x ∈ ts, bs ≤ x ∧ x ≤ s) ∧ bs ≤ s ∧ s < bs + ev * st)
      ⟨0, bs, [], [], _, _, _, rfl, R4, eG, True.intro, Nat.le_refl _, Bk.nil _ _, (fun x hx => by cases hx), Int.le_refl _, ?_⟩ ?_ ?_⟩
    · have := Int.mul_le_mul e0 (show (1 : Int) ≤ (st : Int) by omega) (by decide) (show 0 ≤ ev by omega)
      omega
    · rintro i σ H5 hi ⟨due, s, ts, us, v9, v10, v11, rfl, R5, eG5, hR, lt, bk, bt, bs0, bs1⟩
      have hP5 := R5.at_ hP nP
      have hD5 := R5.at_ hD nD
      have rl5 := rl.kp (KpF.kp Fg R5.kp)
      refine ⟨_, rfl, _, rfl, _, rfl, _, _, rfl, rfl, _, _, rfl, rfl, ?_⟩
      refine ⟨_, rfl, _, rfl, _, rfl, F, D, G, z, si, ev, s, xs, ts, us, rfl, hD5, by omega, rl5, e0, by rw [lx]; exact e1, eG5, hR, by omega, fun b H6 s6 hb => ?_⟩
      have bi := bk.iff (steps := st) s0 (show 0 < ev by omega) (fun x hx => (bt x hx).2) (show 0 ≤ s by omega) (fun x hx => (bt x hx).1) bs1
      have eb : b = decide (due ≤ s + (si - 1) * ev) := by
        cases b with
        | true => exact (decide_eq_true (bi.mpr (by rw [← lx]; exact hb.mp rfl))).symm
        | false =>
          refine (decide_eq_false fun q => ?_).symm
          have := hb.mpr (by rw [lx]; exact bi.mp q)
          cases this
      subst eb
      have R6 := R5.same s6
      refine ⟨_, rfl, _, _, 0, rfl, by decide, Lq.sc (by exact True.intro) 0, fun H7 s7 => ⟨_, rfl, ite_nb (fun h => Bool.noConfusion h) (fun _ => ?_)⟩⟩
      have R7 := R6.same s7
      have s57 := s6.trans s7
      have eG7 := s57 _ _ eG5
      have hR7 := hR.kt (Kt.same s57)
      -- let by
      refine ⟨fun σ H' => ∃ (due' : Int) (ts' : List Int) (us' : List Addr), σ = [some (.ref g), some (.ref P), some (.ref D), some (.int bs), some (.int (bs + ev * st)), some (.int ((si - 1) * ev)), some (.ref G), some (.int due'), some (.int s), some (.int (0 + (i : Int))), some (.bl (decide (due ≤ s + (si - 1) * ev))), v11, none] ∧ Ok g l H H' ∧ H' G = some (.lst (us'.map V.ref)) ∧ Rows H' (ones ts') us' ∧ ts'.length ≤ i + 1 ∧ Bk si ev ts' due' ∧ (∀ x ∈ ts', bs ≤ x ∧ x ≤ s), ?_, ?_⟩
      · refine ⟨_, rfl, _, rfl, ite_d (fun c => ?_) (fun c => ⟨due, ts, us, rfl, R7, eG7, hR7, by omega, bk, bt⟩)⟩
        refine ⟨_, rfl, .inl ⟨rfl, _, SqL.of eG7⟩, _, rfl, (by show 2 ≤ sizeLine; decide), fun t ht => ?_⟩
        have kt := Kt.new (o := .tup [.int s, .int 1]) ht
        have eG8 : upd H7 t (.tup [.int s, .int 1]) G = some (.lst (us.map V.ref)) := by rw [upd_ne (ne_of_none eG7 ht)]; exact eG7
        have et : upd H7 t (.tup [.int s, .int 1]) t = some (.tup [.int s, .int 1]) := upd_same
        have lu := hR.len
        have lo : (ones ts).length = ts.length := by unfold ones; rw [List.length_map]
        refine ⟨G, _, _, rfl, rfl, eG8, by rw [List.length_map, lu, lo]; exact Nat.lt_of_le_of_lt (show ts.length ≤ 16 by omega) (by decide), ?_⟩
        have kl := Kt.lst (o := .lst (us.map V.ref ++ [.ref t])) eG8
        have R8 := (R7.new (o := .tup [.int s, .int 1]) ht).mut (o := .lst (us.map V.ref ++ [.ref t])) hG4n
        have eG9 : upd (upd H7 t (.tup [.int s, .int 1])) G (.lst (us.map V.ref ++ [.ref t])) G = some (.lst ((us ++ [t]).map V.ref)) := by rw [upd_same, List.map_append]; rfl
        have hR9 : Rows (upd (upd H7 t (.tup [.int s, .int 1])) G (.lst (us.map V.ref ++ [.ref t]))) (ones (ts ++ [s])) (us ++ [t]) := by
          have eo : ones (ts ++ [s]) = ones ts ++ [(s, 1)] := by unfold ones; rw [List.map_append]; rfl
          rw [eo]
          exact Rows.snoc (r := (s, 1)) (kl _ _ et) ((hR7.kt kt).kt kl)
        generalize upd (upd H7 t (.tup [.int s, .int 1])) G (.lst (us.map V.ref ++ [.ref t])) = H9 at R8 eG9 hR9 ⊢
        refine ⟨_, rfl, _, rfl, _, _, rfl, _, rfl, _, _, _, _, rfl, rfl, SqL.of (R8.at_ hP nP), rfl, _, _, rfl, rfl, ?_⟩
        have mx : (if s > due then s else due) = max due s := by
          by_cases q : s > due
          · rw [if_pos q, Int.max_eq_right (by omega)]
          · rw [if_neg q, Int.max_eq_left (by omega)]
        refine ⟨_, ts ++ [s], us ++ [t], rfl, R8, eG9, hR9, by rw [List.length_append]; show ts.length + 1 ≤ i + 1; omega, by rw [mx]; exact bk.more s0 (by omega) (fun x hx => (bt x hx).2) (by omega) c, fun x hx => ?_⟩
        rcases List.mem_append.mp hx with hx | hx
        · exact bt x hx
        · rw [List.mem_singleton] at hx
          rw [hx]
          exact ⟨bs0, Int.le_refl _⟩
      · rintro σ H8 ⟨due', ts', us', rfl, R8, eG8, hR8, lt', bk', bt'⟩
        refine ⟨_, rfl, _, rfl, _, rfl, _, _, _, _, rfl, rfl, SqL.of (R8.at_ hP nP), rfl, _, rfl, (by show 4 ≤ sizeLine; decide), fun p hp => of_disp (E := E0) R8 hp (by show 0 < 4; decide) (by show 4 ≤ 1000000; decide) fun x H9 hx kk R9 => ?_⟩
        obtain ⟨w, rfl, w0, w1⟩ : ∃ w : Int, x = .int w ∧ 0 ≤ w ∧ w ≤ 2 := by
          simp only [List.mem_cons, List.not_mem_nil, or_false] at hx
          rcases hx with rfl | rfl | rfl | rfl
          all_goals exact ⟨_, rfl, by decide, by decide⟩
        have eG9 := kk _ _ nG eG8
        have hR9 := hR8.kt (fun b xs e => kk b _ (fun z => by obtain ⟨⟨us, q⟩, _⟩ := R8.bag.there; rw [z, q] at e; cases e) e)
        have m0 : 0 ≤ ev * w := Int.mul_nonneg (by omega) w0
        have m1 : ev * w ≤ 2000 := by
          have := Int.mul_le_mul (show ev ≤ 1000 from ev2) w1 w0 (by decide)
          omega
        refine ⟨_, _, rfl, rfl, .inr ⟨by omega, by omega⟩, _, _, rfl, rfl, g, l, _, rfl, R9.bag, by omega, by omega, fun d9 H10 d90 d91 r10 => ⟨_, _, rfl, rfl, ?_⟩⟩
        have R10 := R9.trans r10
        have eG10 := r10.at_ eG9 nG
        have hR10 := hR9.kt (Kt.ok r10)
        refine ⟨fun σ H' => ∃ (q : Int), σ = [some (.ref g), some (.ref P), some (.ref D), some (.int bs), some (.int (bs + ev * st)), some (.int ((si - 1) * ev)), some (.ref G), some (.int due'), some (.int s), some (.int (0 + (i : Int))), some (.bl (decide (due ≤ s + (si - 1) * ev))), some (.int q), none] ∧ Ok g l H10 H', ?_, ?_⟩
        · refine ⟨_, rfl, g, l, 3, rfl, R10.bag, by decide, by decide, fun d3 H11 d30 d31 r11 => ⟨rfl, _, rfl, ite_eq (fun _ => ?_) (fun _ => ⟨_, rfl, r11⟩)⟩⟩
          refine ⟨_, rfl, _, rfl, _, _, rfl, rfl, _, rfl, g, l, 3, rfl, r11.bag, by decide, by decide, fun d4 H12 d40 d41 r12 => ⟨_, _, rfl, rfl, _, _, rfl, rfl, ?_⟩⟩
          exact ⟨_, rfl, r11.trans r12⟩
        · rintro σ H11 ⟨q, rfl, r11⟩
          have R11 := R10.trans r11
          have eG11 := r11.at_ eG10 nG
          have hR11 := hR10.kt (Kt.ok r11)
          refine ⟨_, rfl, _, rfl, _, _, rfl, rfl, _, rfl, ite_d (fun c1 => ?_) (fun _ => iteF ⟨due', s, ts', us', _, _, _, rfl, R11, eG11, hR11, lt', bk', bt', bs0, bs1⟩)⟩
          refine ⟨_, rfl, _, rfl, _, _, rfl, rfl, _, rfl, ite_d (fun c2 => ?_) (fun _ => ⟨due', s, ts', us', _, _, _, rfl, R11, eG11, hR11, lt', bk', bt', bs0, bs1⟩)⟩
          exact ⟨_, rfl, due', q, ts', us', _, _, _, rfl, R11, eG11, hR11, lt', bk', fun x hx => ⟨(bt' x hx).1, Int.le_trans (bt' x hx).2 c1⟩, Int.le_trans bs0 c1, c2⟩
    · rintro σ H5 ⟨due, s, ts, us, v9, v10, v11, rfl, R5, eG5, hR, lt, bk, bt, bs0, bs1⟩
      have hD5 := R5.at_ hD nD
      have rl5 := rl.kp (KpF.kp Fg R5.kp)
      refine ⟨_, rfl, D, rfl, ⟨_, SqL.of hD5⟩, fun U hU => lc_it (walk_list (K := K) (a := D) (xs := xs.map V.ref)) (fun i H' => Same H5 H' ∧ H' U = some (.lst ((List.replicate i true).map V.bl)))
        ⟨same_new hU, upd_same⟩ (fun i H' _ ⟨s, _⟩ => s.seq (SqL.of hD5)) ?_ ?_⟩
      · rintro i y H6 H6' hi ⟨s6, eU⟩ ⟨rfl, hy⟩
        rw [List.length_map] at hi
        obtain ⟨x, hx⟩ : ∃ x, xs[i]? = some x := ⟨_, List.getElem?_eq_getElem hi⟩
        have hy2 : (xs.map V.ref)[i]? = some y := hy
        rw [List.getElem?_map, hx] at hy2
        cases hy2
        obtain ⟨y, nx, RA, R⟩ := rl5 i x hx
        have w0 : 1 ≤ wideK ev i := by
          have := Int.mul_le_mul (show 1 ≤ (i : Int) + 1 by omega) e0 (by decide) (by omega)
          have wk : wideK ev i = ((i : Int) + 1) * ev := rfl
          omega
        have w1 : wideK ev i ≤ 1000 := by
          have := Int.mul_le_mul_of_nonneg_right (show (i : Int) + 1 ≤ (st : Int) by omega) (show 0 ≤ ev by omega)
          have q : (st : Int) * ev = ev * st := Int.mul_comm _ _
          have wk : wideK ev i = ((i : Int) + 1) * ev := rfl
          omega
        refine ⟨rfl, _, rfl, _, rfl, G, _, rfl, .inl ⟨SqL.of (s6 _ _ eG5), fun t ht => ?_⟩⟩
        have st' := same_new (o := .tup (us.map V.ref)) ht
        have s7 := s6.trans st'
        refine ⟨x, y, t, _, _, F, _, _, 0, ones ts, us, rfl, (by obtain ⟨dx, h⟩ := RA; exact ⟨dx, s7 _ _ h⟩), R.same s7, ⟨w0, w1⟩, .inr (SqT.of upd_same), hR.kt (Kt.same s7), fun rr hr => ?_, fun cc oo H8 s8 BB => ?_⟩
        · unfold ones at hr
          obtain ⟨m, _, rfl⟩ := List.mem_map.mp hr
          exact Int.le_refl 1
        · have le : cc ≤ si + (i : Int) := by
            rcases BB with ⟨_, rfl, _⟩ | ⟨m, hm, _, rfl, _⟩
            · omega
            · exact bk.within s0 (show 0 < ev by omega) i m
          rw [decide_eq_true le]
          have eU8 := s8 _ _ (st' _ _ eU)
          refine ⟨_, eU8, by rw [List.length_map, List.length_replicate]; exact Nat.lt_of_lt_of_le (show i < 9 by omega) (by decide), fun c u ec => ?_, ?_⟩
          · rw [upd_ne (ne_of_none ec hU)]
            exact s8 _ _ (s7 _ _ ec)
          · rw [upd_same, List.replicate_succ', List.map_append]
            rfl
      · rintro H6 ⟨s6, eU⟩
        refine ⟨U, _, rfl, SqL.of eU, ?_⟩
        have er : (List.replicate (xs.map V.ref).length true).all id = true := by simp
        rw [er]
        exact k H6 (R5.same s6)
end k10
namespace k10
open PySem L2 LC RM
/-- told: what the deed gives, or its error with its value -/
def TAsk (CN CU CR : Addr) : (XK → Hp → VK → Prop) → Hp → VK → Prop := fun tl H Q => ∀ H1, Same H H1 → ∃ G : XK,
  (∀ cls d H', G cls d H' → ∃ (nm : Str) (C dd : Addr) (w : V), ((nm = "InvalidName" ∧ C = CN) ∨ (nm = "InvalidNumber" ∧ C = CU) ∨ (nm = "InvalidRest" ∧ C = CR)) ∧ cls = .ref C ∧ d = some dd ∧ H' dd = some (.xd (ivF nm [w])) ∧ ∀ (D T : Addr) H2, Same H' H2 → H' D = none → H' T = none → H2 D = some (.lst [.str nm, w]) → H2 T = some (.tup [.non, .ref D]) → Q (.ref T) H2) ∧
  ∀ (E : XK) (Qv : VK), (∀ cls d H', G cls d H' → E cls d H') → (∀ v H', (∀ T, H' T = none → Q (.ref T) (upd H' T (.tup [v, .non]))) → Qv v H') → tl E H1 Qv
theorem ask_gives {X : Cx} {P : Program} {w : World} {base : Heap} {CInvalidName CInvalidNumber CInvalidRest fInvalidName fInvalidNumber fInvalidRest S g : Addr} {fdInvalidName fdInvalidNumber fdInvalidRest : FuncData} {cdg : Value} {q : Str}
    (RInvalidName : RE P w X.K X.mg base "InvalidName" CInvalidName fInvalidName fdInvalidName) (RInvalidNumber : RE P w X.K X.mg base "InvalidNumber" CInvalidNumber fInvalidNumber fdInvalidNumber) (RInvalidRest : RE P w X.K X.mg base "InvalidRest" CInvalidRest fInvalidRest fdInvalidRest)
    (eUN : PySem.W.exmOne X.K (.ref CInvalidNumber) (.ref CInvalidName) = some false) (eRN : PySem.W.exmOne X.K (.ref CInvalidRest) (.ref CInvalidName) = some false) (eRU : PySem.W.exmOne X.K (.ref CInvalidRest) (.ref CInvalidNumber) = some false) (gSE : X.mg "SureletError" = some (.ref S)) :
    LL.GivesS X Nmask "_law_ask" (defScope sask) g cdg (defBody sask) "_law_deed" q (TAsk CInvalidName CInvalidNumber CInvalidRest) := by
  intro f c' s H Q tl act hc h
  refine ⟨_, (pss_cons (ps_asg (pe_tup (pa_cons pe_non (pa_cons pe_non pa_nil))) (pg_tup rfl (pgs_cons (pg_name (i := 1) scask.nd rfl (Or.inl rfl)) (pgs_cons (pg_name (i := 2) scask.nd rfl (Or.inl rfl)) pgs_nil))))
        (pss_cons (LX.ps_try_asM rfl rfl scask.nd takes0 (fun W pn xe tk po => (pss_one (ps_set (i := 1) scask.nd rfl (Or.inl rfl) (act W pn xe _ _ tk))))
          (.cons (i := 3) rfl rfl ⟨rfl, by decide, .inl RInvalidName.er.gC⟩ (fun a oe cls d pn hz hf => (pss_one (ps_set (i := 2) scask.nd rfl (Or.inl rfl) (pe_lst (pa_cons pe_str (pa_cons (pe_xf RInvalidName.er.xf (RInvalidName.er.no _ (by decide +kernel)) hz hf (pv 3)) pa_nil)))))) (.cons (i := 3) rfl rfl ⟨rfl, by decide, .inl RInvalidNumber.er.gC⟩ (fun a oe cls d pn hz hf => (pss_one (ps_set (i := 2) scask.nd rfl (Or.inl rfl) (pe_lst (pa_cons pe_str (pa_cons (pe_xf RInvalidNumber.er.xf (RInvalidNumber.er.no _ (by decide +kernel)) hz hf (pv 3)) pa_nil)))))) (.cons (i := 3) rfl rfl ⟨rfl, by decide, .inl RInvalidRest.er.gC⟩ (fun a oe cls d pn hz hf => (pss_one (ps_set (i := 2) scask.nd rfl (Or.inl rfl) (pe_lst (pa_cons pe_str (pa_cons (pe_xf RInvalidRest.er.xf (RInvalidRest.er.no _ (by decide +kernel)) hz hf (pv 3)) pa_nil)))))) (.cons (i := 3) rfl rfl ⟨rfl, by decide, .inl gSE⟩ (fun a oe cls d pn hz hf => LC.pss_never) .nil)))))
        (pss_one (ps_ret (pe_tup (pa_cons (pv 1) (pa_cons (pv 2) pa_nil))))))), ?_⟩
  refine ⟨(by show 2 ≤ sizeLine; decide), fun T0 hT0 => ⟨T0, _, rfl, SqT.of upd_same, rfl, _, _, rfl, _, _, rfl, rfl, ?_⟩⟩
  have s0 := same_new (o := .tup [.non, .non]) hT0
  have hc1 := s0 _ _ hc
  generalize upd H T0 (.tup [.non, .non]) = H1 at s0 hc1 ⊢
  obtain ⟨G, hG, ht⟩ := h H1 s0
  refine ⟨rfl, hc1, ?_⟩
  refine ht _ _ (fun cls d H' hg => ?_) (fun v H' hv => ⟨_, rfl, _, rfl, (by show 2 ≤ sizeLine; decide), fun T hT => hv T hT⟩)
  obtain ⟨nm, C, dd, wv, cs, rfl, rfl, hx, k⟩ := hG _ _ _ hg
  have fin : ∀ D, H' D = none → ∀ T, upd H' D (.lst [.str nm, wv]) T = none → Q (.ref T) (upd (upd H' D (.lst [.str nm, wv])) T (.tup [.non, .ref D])) := fun D hD T hT => by
    have nT : T ≠ D := fun z => by
      rw [z, upd_same] at hT
      cases hT
    have sD := same_new (o := .lst [.str nm, wv]) hD
    exact k D T _ (sD.trans (same_new hT)) hD (sD.free hT) (by rw [upd_ne (Ne.symm nT)]; exact upd_same) upd_same
  rcases cs with ⟨rfl, rfl⟩ | ⟨rfl, rfl⟩ | ⟨rfl, rfl⟩
  · refine ⟨true, RInvalidName.er.te, fun _ e ne => ?_, fun q => Bool.noConfusion q⟩
    exact ⟨_, rfl, rfl, rfl, dd, _, wv, rfl, hx, rfl, (by show 2 ≤ sizeLine; decide), fun D hD => ⟨_, rfl, _, rfl, (by show 2 ≤ sizeLine; decide), fun T hT => fin D hD T hT⟩⟩
  · refine ⟨false, eUN, fun q => Bool.noConfusion q, fun _ => ⟨true, RInvalidNumber.er.te, fun _ e ne => ?_, fun q => Bool.noConfusion q⟩⟩
    exact ⟨_, rfl, rfl, rfl, dd, _, wv, rfl, hx, rfl, (by show 2 ≤ sizeLine; decide), fun D hD => ⟨_, rfl, _, rfl, (by show 2 ≤ sizeLine; decide), fun T hT => fin D hD T hT⟩⟩
  · refine ⟨false, eRN, fun q => Bool.noConfusion q, fun _ => ⟨false, eRU, fun q => Bool.noConfusion q, fun _ => ⟨true, RInvalidRest.er.te, fun _ e ne => ?_, fun q => Bool.noConfusion q⟩⟩⟩
    exact ⟨_, rfl, rfl, rfl, dd, _, wv, rfl, hx, rfl, (by show 2 ≤ sizeLine; decide), fun D hD => ⟨_, rfl, _, rfl, (by show 2 ≤ sizeLine; decide), fun T hT => fin D hD T hT⟩⟩
end k10
namespace k10
open PySem L2 LC RM
theorem KpF.trans {F : Addr → Prop} {H H1 H2 : Hp} (a : KpF F H H1) (b : KpF F H1 H2) : KpF F H H2 := fun c o n t e => b c o n t (a c o n t e)
theorem KpF.ext {F : Addr → Prop} {H H1 : Hp} (e : LamX.ExtN H H1) : KpF F H H1 := fun b o _ t h => e b o h t
theorem bag_ext {l g : Addr} {H H1 : Hp} (e : LamX.ExtN H H1) (B : Bag l H g) : Bag l H1 g := by
  obtain ⟨ns, i, d, s, c, h1, h2, h3, r⟩ := B
  exact ⟨ns, i, d, s, c, e _ _ h1 (fun ps z => by cases z), h2, e _ _ h3 (fun ps z => by cases z), r⟩
theorem bag_same {l g : Addr} {H H1 : Hp} (e : Same H H1) (B : Bag l H g) : Bag l H1 g := ((Ok.refl B).same e).bag
theorem tabs_ok {T : List (Addr × Str)} {g l : Addr} {H H' : Hp} (r : Ok g l H H') (t : LamX.Tabs T H) : LamX.Tabs T H' := fun p hp => by
  obtain ⟨ps, h1, h2, h3⟩ := t p hp
  obtain ⟨⟨xs, hg⟩, _⟩ := r.b0.there
  refine ⟨ps, r.kp _ _ (fun z => ?_) h1, h2, fun pos cv hc => ?_⟩
  · rw [z, hg] at h1
    cases h1
  · obtain ⟨c, e1, e2⟩ := h3 pos cv hc
    refine ⟨c, e1, r.kp _ _ (fun z => ?_) e2⟩
    rw [z, hg] at e2
    have q := Option.some.inj e2
    unfold LamX.CodeO at q
    cases q
theorem lam_use {Tb : List (Addr × Str)} {CN CU CR : Addr} {t : XK → TE} {σ : St} {H : Hp} {Q : VK} (hT : LamX.Tabs Tb H) (OUT : Addr → Hp → Prop)
    (h1 : ∀ H1, LamX.ExtN H H1 → LamX.Tabs Tb H1 → ∀ H2, Same H1 H2 → ∃ G : XK,
      (∀ cls d H', G cls d H' → ∃ (nm : Str) (C dd : Addr) (w : V), ((nm = "InvalidName" ∧ C = CN) ∨ (nm = "InvalidNumber" ∧ C = CU) ∨ (nm = "InvalidRest" ∧ C = CR)) ∧ cls = .ref C ∧ d = some dd ∧ H' dd = some (.xd (ivF nm [w])) ∧ ∀ (D T : Addr) H2, Same H' H2 → H' D = none → H' T = none → H2 D = some (.lst [.str nm, w]) → H2 T = some (.tup [.non, .ref D]) → OUT T H2) ∧
      ∀ (E : XK) (Qv : VK), (∀ cls d H', G cls d H' → E cls d H') → (∀ v H', (∀ T, H' T = none → OUT T (upd H' T (.tup [v, .non]))) → Qv v H') → t E σ H2 Qv)
    (h : ∀ T H3, OUT T H3 → Q (.ref T) H3) : LamX.tLam Tb (TAsk CN CU CR) t σ H Q := by
  refine ⟨hT, fun H1 e1 t1 H2 s2 => ?_⟩
  obtain ⟨G, a, b⟩ := h1 H1 e1 t1 H2 s2
  refine ⟨G, fun cls d H' hg => ?_, fun E Qv hE hv => b E Qv hE fun v H' o => hv v H' fun T hT => h T _ (o T hT)⟩
  obtain ⟨nm, C, dd, w, c, e1, e2, e3, k⟩ := a cls d H' hg
  exact ⟨nm, C, dd, w, c, e1, e2, e3, fun D T H2 s d1 d2 d3 d4 => h T H2 (k D T H2 s d1 d2 d3 d4)⟩
theorem RestX.plus {a : Ad} {G : Addr → Prop} {t : Str} {H : Hp} {S : Addr} (hS : H S = none) : ∀ {p : Pl} {x : Addr}, RestX a G H t p x → RestX a (fun b => G b ∨ b = S) H t p x
  | .win w, x, ⟨n, dx, h, l, e⟩ => ⟨(fun z => z.elim n (fun z => by rw [z, hS] at h; cases h)), dx, h, l, e⟩
  | .days bs e, x, ⟨n, dx, b, h, l, nb, hb⟩ => ⟨(fun z => z.elim n (fun z => by rw [z, hS] at h; cases h)), dx, b, h, l, (fun z => z.elim nb (fun z => by rw [z, hS] at hb; cases hb)), hb⟩
  | .lat _ _, _, h => h.elim
  | .soo _ _, _, h => h.elim
  | .nex _ _, _, h => h.elim
/-- what is due of a rule's arguments; b: the third one is a rest -/
def dueR (b : Bool) (x0 x1 x2 : V) : Option (Str × V) := if isNam x0 = false then some (("InvalidName" : Str), x0) else if isNum x1 1 1000 = false then some (("InvalidNumber" : Str), x1) else if b = false then some (("InvalidRest" : Str), x2) else none
theorem dr0 {b : Bool} {x0 x1 x2 : V} (h : isNam x0 = false) : dueR b x0 x1 x2 = some (("InvalidName" : Str), x0) := by unfold dueR; rw [if_pos h]
theorem dr1 {b : Bool} {x0 x1 x2 : V} (h : isNam x0 = true) (h1 : isNum x1 1 1000 = false) : dueR b x0 x1 x2 = some (("InvalidNumber" : Str), x1) := by unfold dueR; rw [if_neg (by rw [h]; decide), if_pos h1]
theorem dr2 {b : Bool} {x0 x1 x2 : V} (h : isNam x0 = true) (h1 : isNum x1 1 1000 = true) (h2 : b = false) : dueR b x0 x1 x2 = some (("InvalidRest" : Str), x2) := by unfold dueR; rw [if_neg (by rw [h]; decide), if_neg (by rw [h1]; decide), if_pos h2]
theorem dr3 {b : Bool} {x0 x1 x2 : V} (h : isNam x0 = true) (h1 : isNum x1 1 1000 = true) (h2 : b = true) : dueR b x0 x1 x2 = none := by unfold dueR; rw [if_neg (by rw [h]; decide), if_neg (by rw [h1]; decide), if_neg (by rw [h2]; decide)]
theorem pick_q {nm : Str} {σ : St} {H : Hp} {Q : VK} (h : ∀ zq : Str, isNam (.str zq) = true → zq ≠ nm → zq.length ≤ 1000000 → Q (.str zq) H) : if (!decide (V.str nm = V.str "q1")) = true then tC (V.str "q1") σ H Q else tC (V.str "q2") σ H Q := by
  refine ite_nd (fun n => h _ (by decide +kernel) (fun z => n (by rw [z])) (by decide +kernel)) (fun e => h _ (by decide +kernel) (fun z => ?_) (by decide +kernel))
  cases e
  exact absurd z (by decide +kernel)
def kgR {α : Type} (us ws : List α) : List α := match us, ws with | [s], [r, n, c] => [s, n, c, r] | _, _ => []
theorem KBR {K : PySem.W.Frag} {f : Addr} {fd : FuncData} (F : Fun K "__init__" "Rule.__init__" sRule_init f fd) : KBn K fd PRule_init 1 ["rest", "name", "chips"] kgR kgR := by
  obtain ⟨oc, od, kV, doc, pm, an, cdv, ct, osl, rfl, lk, hcd⟩ := F.ex
  refine ⟨fun s us ws _ hu hl => ?_, fun {vs us zs ws} r1 r2 => ?_⟩
  · match us, ws, hu, hl with
    | [a], [b, c, d], _, _ => exact .of_eq rfl
  · cases r1 with
    | nil => exact .nil
    | cons q1 r1 =>
      cases r1 with
      | cons _ _ => exact .nil
      | nil =>
        match zs, ws, r2 with
        | _, _, .cons r0 (.cons r1 (.cons r2 .nil)) => exact .cons q1 (.cons r1 (.cons r2 (.cons r0 .nil)))
        | _, _, .nil => exact .nil
        | _, _, .cons _ .nil => exact .nil
        | _, _, .cons _ (.cons _ .nil) => exact .nil
        | _, _, .cons _ (.cons _ (.cons _ (.cons _ _))) => exact .nil
def spone_rule_so (Tb : List (Addr × Str)) : Sp := fun vs H Q _ => ∃ (g l : Addr), vs = [.ref g] ∧ Bag l H g ∧ LamX.Tabs Tb H ∧ ∀ H', Bag l H' g → LamX.Tabs Tb H' → Q (.bl true) H'
theorem ok_one_rule_so {P : Program} {w : World} {K : PySem.W.Frag} {mg : Str → Option Value} {base : Heap} {f c Pt : Addr} {oc kV doc pm ct : Value} {od an : Option Addr} {osl : Array (Option Value)} (lk : K.lookup f = some ⟨oc, od, .func (PySem.W.fnOf "_law_one_rule_so" "_law_one_rule_so" (defArgs sone_rule_so) (defBody sone_rule_so) (defScope sone_rule_so) .none kV doc pm an (.ref c) ct), osl⟩) (hcd : PySem.W.codeIn K (.ref c) "_law_one_rule_so" = true) (TB : LamX.TabB base mg c Pt) (T : Txt K mg) {a : Ad} (KN : Kn K mg a) {r : Ar} (KR : Kr K mg r) {fdInvalidName : FuncData} {fInvalidName CInvalidName : Addr} (RInvalidName : RE P w K mg base "InvalidName" CInvalidName fInvalidName fdInvalidName) {fdInvalidNumber : FuncData} {fInvalidNumber CInvalidNumber : Addr} (RInvalidNumber : RE P w K mg base "InvalidNumber" CInvalidNumber fInvalidNumber fdInvalidNumber) {fdInvalidRest : FuncData} {fInvalidRest CInvalidRest : Addr} (RInvalidRest : RE P w K mg base "InvalidRest" CInvalidRest fInvalidRest fdInvalidRest) {S fask : Addr} {fdask : FuncData} (Dask : Def K mg "_law_ask" sask Pask fask fdask) (eUN : PySem.W.exmOne K (.ref CInvalidNumber) (.ref CInvalidName) = some false) (eRN : PySem.W.exmOne K (.ref CInvalidRest) (.ref CInvalidName) = some false) (eRU : PySem.W.exmOne K (.ref CInvalidRest) (.ref CInvalidNumber) = some false) (gSE : mg "SureletError" = some (.ref S)) {fdRule : FuncData} (IRule : FnR P w K mg base (L2.CX P w) 3 r.i (spRule_init a r CInvalidName CInvalidNumber CInvalidRest)) (GRule : FnOk P w K mg base (L2.CX P w) 3 r.i fdRule PRule_init (spRule_init a r CInvalidName CInvalidNumber CInvalidRest)) (KR4 : KBn K fdRule PRule_init 1 ["rest", "name", "chips"] kgR kgR) (IWindow : FnR P w K mg base CX0 3 a.Wi (spWindow_init K a)) (IDays : FnR P w K mg base CX0 4 a.Di (spDays_init K a)) (RW : FnR P w K mg base CX0 1 a.fW (spRest_written K a)) (OSr : FnR P w K mg base CX0 3 r.fS (spRule_str K a r)) (OEr : FnR P w K mg base CX0 2 r.fE (spRule_eq K a r)) {Tb : List (Addr × Str)} (hmT : (Pt, (("_law_one_rule_so" : Str) ++ ".<locals>." ++ "<lambda>")) ∈ Tb) (hu : ∀ p ∈ Tb, p.1 = Pt → p.2 = (("_law_one_rule_so" : Str) ++ ".<locals>." ++ "<lambda>")) {fdraw : Addr} {fddraw : FuncData} (Ddraw : Def K mg "_law_draw" sdraw Pdraw fdraw fddraw) (Gdraw : FnOk P w K mg base CX0 1 fdraw fddraw Pdraw (spdraw)) {fof : Addr} {fdof : FuncData} (Dof : Def K mg "_law_of" sof Pof fof fdof) (Gof : FnOk P w K mg base CX0 2 fof fdof Pof (spof K)) {flike : Addr} {fdlike : FuncData} (Dlike : Def K mg "_law_like" slike Plike flike fdlike) (Glike : FnOk P w K mg base CX0 5 flike fdlike Plike (splike 5)) {fin : Addr} {fdin : FuncData} (Din : Def K mg "_law_in" sin Pin fin fdin) (Gin : FnOk P w K mg base CX0 1 fin fdin Pin (spin)) {fnamed : Addr} {fdnamed : FuncData} (Dnamed : Def K mg "_law_named" snamed Pnamed fnamed fdnamed) (Gnamed : FnOk P w K mg base CX0 1 fnamed fdnamed Pnamed (spnamed)) {fwrong : Addr} {fdwrong : FuncData} (Dwrong : Def K mg "_law_wrong" swrong Pwrong fwrong fdwrong) (Gwrong : FnOk P w K mg base CX0 4 fwrong fdwrong Pwrong (spwrong)) :
    FnOk P w K mg base CX0 7 f (PySem.W.fnOf "_law_one_rule_so" "_law_one_rule_so" (defArgs sone_rule_so) (defBody sone_rule_so) (defScope sone_rule_so) .none kV doc pm an (.ref c) ct) Pone_rule_so (spone_rule_so Tb) := by
  refine LL.okC lk hcd scone_rule_so (fun vs H Q E h => ?_) (fun A outer s H vs Q E hr h => ?_)
  · obtain ⟨g, l, rfl, B, tb0, k⟩ := h
    rfl
  · obtain ⟨g, l, rfl, B, tb0, k⟩ := h
    have hrdraw : Room 1 _ := hr.mono (by decide)
    have hrof : Room 2 _ := hr.mono (by decide)
    have hrlike : Room 5 _ := hr.mono (by decide)
    have hrin : Room 1 _ := hr.mono (by decide)
    have hrnamed : Room 1 _ := hr.mono (by decide)
    have hrwrong : Room 4 _ := hr.mono (by decide)
    have hrL : Room (4 + 2) _ := hr.mono (by decide)
    have hrI : Room 4 _ := hr.mono (by decide)
    have hrI2 : Room 4 _ := hr.mono (by decide)
    have hrI3 : Room 5 _ := hr.mono (by decide)
    have hrM : Room 1 _ := hr.mono (by decide)
    have hrS : Room (3 + 2) _ := hr.mono (by decide)
    have hrQ : Room 2 _ := hr.mono (by decide)
    refine ⟨_, (pss_cons (ps_par (i := 1) (j := 2) (by rfl) scone_rule_so.nd rfl rfl (by decide) rfl rfl (pa_cons (pe_call Gof hrof rfl Dof.g Dof.F.kp Dof.b .nil pass0 (pa_cons (pv 0) (pa_cons (pe_lst (pa_cons pe_str (pa_cons pe_str (pa_cons pe_str pa_nil)))) pa_nil))) (pa_cons (pe_call Gof hrof rfl Dof.g Dof.F.kp Dof.b .nil pass0 (pa_cons (pv 0) (pa_cons (pe_lst (pa_cons pe_int (pa_cons pe_int (pa_cons pe_int pa_nil)))) pa_nil))) pa_nil)) (by rfl))
        (pss_cons (ps_set (i := 3) scone_rule_so.nd rfl (Or.inl rfl) (pe_call Gof hrof rfl Dof.g Dof.F.kp Dof.b .nil pass0 (pa_cons (pv 0) (pa_cons (pe_lst (pa_cons (StX.pe_makeR KN.mWindow IWindow hrI2 rfl KN.gWindow pass0 (pa_cons pe_int pa_nil)) (pa_cons (StX.pe_makeR KN.mDays IDays hrI3 rfl KN.gDays pass0 (pa_cons (pe_lst (pa_cons pe_int pa_nil)) (pa_cons pe_int pa_nil))) pa_nil))) pa_nil))))
        (pss_cons (ps_set (i := 4) scone_rule_so.nd rfl (Or.inr rfl) (pe_lst (pa_cons (pv 1) (pa_cons (pv 2) (pa_cons (pv 3) pa_nil)))))
        (pss_cons (ps_for PassesOwn.never rfl (pi_range1 rfl T.n_range (pa_cons (pe_call Gof hrof rfl Dof.g Dof.F.kp Dof.b .nil pass0 (pa_cons (pv 0) (pa_cons (pe_lst (pa_cons pe_int (pa_cons pe_int (pa_cons pe_int (pa_cons pe_int pa_nil))))) pa_nil))) pa_nil)) (pg_name (i := 5) scone_rule_so.nd rfl (Or.inl rfl))
          (pss_one (ps_asg (pe_call Gwrong hrwrong rfl Dwrong.g Dwrong.F.kp Dwrong.b .nil pass0 (pa_cons (pv 0) pa_nil)) (pg_sub (pv 4) (pe_call Gdraw hrdraw rfl Ddraw.g Ddraw.F.kp Ddraw.b .nil pass0 (pa_cons (pv 0) (pa_cons pe_int pa_nil))) set_list))))
        (pss_cons (ps_asg (LL.pe_lamcallS (T := Tb) (ql := ("_law_one_rule_so" : Str) ++ ".<locals>.") Dask rfl scask rfl (Or.inl rfl) (fun _ => ask_gives RInvalidName RInvalidNumber RInvalidRest eUN eRN eRU gSE) rfl TB rfl hmT hu hrL (show LamX.LamS (defScope sone_rule_so) _ from LamX.lamS_by (by decide +kernel)) rfl (fun _ _ _ _ _ => rfl) (fun A outer s H E f c' hrB => (pe_ifExp (pt_cmpR op_eq (pe_call Gdraw (hrB.mono (by decide)) rfl Ddraw.g Ddraw.F.kp Ddraw.b .nil pass0 (pa_cons (pv 0) (pa_cons pe_int pa_nil))) pe_int (nomark _)) (StX.pe_makeR KR.m IRule hrB rfl KR.g (passes_call (takes_of rfl rfl rfl rfl) fun _ _ _ _ h => h) (pa_cons (pe_ix (show IxR _ (rIxL K) from ix_list) (pv 4) pe_int (fun _ _ => rfl)) (pa_cons (pe_ix (show IxR _ (rIxL K) from ix_list) (pv 4) pe_int (fun _ _ => rfl)) (pa_cons (pe_ix (show IxR _ (rIxL K) from ix_list) (pv 4) pe_int (fun _ _ => rfl)) pa_nil)))) (pe_makeK0 KR.m GRule hrB rfl KR.g KR4 (passes_call (takes_of rfl rfl rfl rfl) fun _ _ _ _ h => h) (pk_cons (pe_ix (show IxR _ (rIxL K) from ix_list) (pv 4) pe_int (fun _ _ => rfl)) (pk_cons (pe_ix (show IxR _ (rIxL K) from ix_list) (pv 4) pe_int (fun _ _ => rfl)) (pk_cons (pe_ix (show IxR _ (rIxL K) from ix_list) (pv 4) pe_int (fun _ _ => rfl)) pk_nil))))))) (pg_tup rfl (pgs_cons (pg_name (i := 6) scone_rule_so.nd rfl (Or.inl rfl)) (pgs_cons (pg_name (i := 7) scone_rule_so.nd rfl (Or.inl rfl)) pgs_nil))))
        (pss_cons (ps_if (pt_not (pt_val (pe_call Gnamed hrnamed rfl Dnamed.g Dnamed.F.kp Dnamed.b .nil pass0 (pa_cons (pe_ix ix_list (pv 4) pe_int (fun _ _ => rfl)) (pa_cons pe_int pa_nil))))) (pss_one (ps_ret (pe_and (pe_cmpR op_isN (pv 6) pe_non (nomark _)) (pe_one (pe_call Glike hrlike rfl Dlike.g Dlike.F.kp Dlike.b .nil pass0 (pa_cons (pv 7) (pa_cons (pe_lst (pa_cons pe_str (pa_cons (pe_ix ix_list (pv 4) pe_int (fun _ _ => rfl)) pa_nil))) pa_nil))))))) pss_nil)
        (pss_cons (ps_if (pt_not (pt_val (pe_call Gin hrin rfl Din.g Din.F.kp Din.b .nil pass0 (pa_cons (pe_ix ix_list (pv 4) pe_int (fun _ _ => rfl)) (pa_cons pe_int pa_nil))))) (pss_one (ps_ret (pe_and (pe_cmpR op_isN (pv 6) pe_non (nomark _)) (pe_one (pe_call Glike hrlike rfl Dlike.g Dlike.F.kp Dlike.b .nil pass0 (pa_cons (pv 7) (pa_cons (pe_lst (pa_cons pe_str (pa_cons (pe_ix ix_list (pv 4) pe_int (fun _ _ => rfl)) pa_nil))) pa_nil))))))) pss_nil)
        (pss_cons (ps_if (pt_not (pt_val (pe_callB call_isiT (by rfl) T.n_isinstance (by decide +kernel) (pa_cons (pe_ix ix_list (pv 4) pe_int (fun _ _ => rfl)) (pa_cons (pe_tup (pa_cons (pe_glob rfl KN.gWindow (show RelV (.ref a.W) _ from rfl)) (pa_cons (pe_glob rfl KN.gDays (show RelV (.ref a.D) _ from rfl)) pa_nil))) pa_nil))))) (pss_one (ps_ret (pe_and (pe_cmpR op_isN (pv 6) pe_non (nomark _)) (pe_one (pe_call Glike hrlike rfl Dlike.g Dlike.F.kp Dlike.b .nil pass0 (pa_cons (pv 7) (pa_cons (pe_lst (pa_cons pe_str (pa_cons (pe_ix ix_list (pv 4) pe_int (fun _ _ => rfl)) pa_nil))) pa_nil))))))) pss_nil)
        (pss_cons (ps_if (PW.pt (pw_or (pt_cmpR op_notN (pv 7) pe_non (nomark _)) (pw_or1 (pt_not (pt_val (pe_call Glike hrlike rfl Dlike.g Dlike.F.kp Dlike.b .nil pass0 (pa_cons (pe_lst (pa_cons (pe_fld (pv 6) rfl) (pa_cons (pe_fld (pv 6) rfl) (pa_cons (LS.pe_methD0 (pe_fld (pv 6) rfl) KN.kW RW hrM) pa_nil)))) (pa_cons (pe_lst (pa_cons (pe_ix ix_list (pv 4) pe_int (fun _ _ => rfl)) (pa_cons (pe_ix ix_list (pv 4) pe_int (fun _ _ => rfl)) (pa_cons (LS.pe_methD0 (pv 3) KN.kW RW hrM) pa_nil)))) pa_nil)))))))) (pss_one (ps_ret pe_bl)) pss_nil)
        (pss_cons (ps_set (i := 1) scone_rule_so.nd rfl (Or.inl rfl) (pe_ifExp (pt_cmpR op_ne (pe_ix ix_list (pv 4) pe_int (fun _ _ => rfl)) pe_str (nomark _)) pe_str pe_str))
        (pss_cons (ps_set (i := 8) scone_rule_so.nd rfl (Or.inl rfl) (StX.pe_makeR KR.m IRule hrI rfl KR.g passL (pa_cons (pv 1) (pa_cons (pe_ix ix_list (pv 4) pe_int (fun _ _ => rfl)) (pa_cons (pv 3) pa_nil)))))
        (pss_cons (ps_if (pt_not (pt_val (pe_call Glike hrlike rfl Dlike.g Dlike.F.kp Dlike.b .nil pass0 (pa_cons (pe_lst (pa_cons (pe_cmpR (LE.op_eqI (n := 2) hrQ) (pv 6) (pv 8) (nomark _)) (pa_cons (pe_cmpR (LE.op_eqI (n := 2) hrQ) (pv 8) (pv 6) (nomark _)) pa_nil))) (pa_cons (pe_lst (pa_cons pe_bl (pa_cons pe_bl pa_nil))) pa_nil))))) (pss_one (ps_ret pe_bl)) pss_nil)
        (pss_one (ps_ret (pe_call Glike hrlike rfl Dlike.g Dlike.F.kp Dlike.b .nil pass0 (pa_cons (pe_lst (pa_cons (pe_cmpR (LE.op_eqI (n := 2) hrQ) (pv 6) (StX.pe_makeR KR.m IRule hrI rfl KR.g passL (pa_cons (pe_ix ix_list (pv 4) pe_int (fun _ _ => rfl)) (pa_cons (pe_ix ix_list (pv 4) pe_int (fun _ _ => rfl)) (pa_cons (pv 3) pa_nil)))) (nomark _)) (pa_cons (pe_cmpR (LE.op_eqI (n := 2) hrQ) (pv 6) (pe_callTy (LE.call_strI (n := 3) hrS) (by rfl) T.n_str (by decide +kernel) (pa_cons (pv 6) pa_nil)) (nomark _)) (pa_cons (pe_cmpR (LE.op_eqI (n := 2) hrQ) (pv 6) (StX.pe_makeR KR.m IRule hrI rfl KR.g passL (pa_cons (pe_ix ix_list (pv 4) pe_int (fun _ _ => rfl)) (pa_cons pe_int (pa_cons (pv 3) pa_nil)))) (nomark _)) (pa_cons (pe_cmpR (LE.op_eqI (n := 2) hrQ) (pv 6) pe_int (nomark _)) pa_nil))))) (pa_cons (pe_lst (pa_cons pe_bl (pa_cons pe_bl (pa_cons pe_bl (pa_cons pe_bl pa_nil))))) pa_nil))))))))))))))))), ?_⟩
    have hF0 : ∀ b, (fun b => b = g) b → ∃ o, H b = some o := fun b z => by
      obtain ⟨⟨us, e⟩, _⟩ := B.there
      exact ⟨_, by rw [show b = g from z]; exact e⟩
    refine ⟨_, rfl, (by show 3 ≤ sizeLine; decide), fun p hp => of_disp (E := E0) (Ok.refl B) hp (by show 0 < 3; decide) (by show 3 ≤ 1000000; decide) fun x H1 hx _ r1 => ?_⟩
    obtain ⟨zl, rfl, hzl⟩ : ∃ z : Str, x = .str z ∧ z.length ≤ 1000000 := by
      simp only [List.mem_cons, List.not_mem_nil, or_false] at hx
      rcases hx with rfl | rfl | rfl
      all_goals exact ⟨_, rfl, by decide +kernel⟩
    refine ⟨_, rfl, (by show 3 ≤ sizeLine; decide), fun p2 hp2 => of_disp (E := E0) r1 hp2 (by show 0 < 3; decide) (by show 3 ≤ 1000000; decide) fun x H2 hx2 _ r2 => ?_⟩
    obtain ⟨many, rfl, m8⟩ : ∃ i : Int, x = .int i ∧ i ≠ 8 := by
      simp only [List.mem_cons, List.not_mem_nil, or_false] at hx2
      rcases hx2 with rfl | rfl | rfl
      all_goals exact ⟨_, rfl, by decide⟩
    have gH : ∀ {Hx : Hp}, Bag l Hx g → ∀ b, (fun b => b = g) b → ∃ o, Hx b = some o := fun {Hx} Bx b z => by
      obtain ⟨⟨us, e⟩, _⟩ := Bx.there
      exact ⟨_, by rw [show b = g from z]; exact e⟩
    refine ⟨_, _, rfl, ?_⟩
    refine ⟨_, rfl, fun ya dya hya hdya nya => ⟨ya, dya, (fun b => b = g), 5, H2, rfl, upd_same, hya, (r2.bag.ne hya).1, same_two hya hdya, by decide, by decide, fun Ja ja RYa => ⟨rfl, ?_⟩⟩⟩
    refine ⟨(by show 1 ≤ sizeLine; decide), fun q hq => ?_⟩
    have ra := (r2.same ja).new (o := .lst [.int 3]) hq
    have eq1 : upd Ja q (.lst [.int 3]) q = some (.lst ([3].map V.int)) := upd_same
    have RYq := RYa.same (same_new (o := .lst [.int 3]) hq)
    show _
    generalize upd Ja q (.lst [.int 3]) = Jq at ra eq1 RYq ⊢
    refine fun yb dyb hyb hdyb nyb => ⟨yb, dyb, (fun b => b = g), q, [3], 4, Jq, rfl, upd_same, hyb, (ra.bag.ne hyb).1, same_two hyb hdyb, gH ra.bag, eq1, by decide, ⟨by decide, by decide, True.intro⟩, by decide, by decide, fun tday Jb jb RYb => ⟨rfl, ?_⟩⟩
    have rb := ra.same jb
    have RYc := RYq.same jb
    refine ⟨(by show 2 ≤ sizeLine; decide), fun p3 hp3 => of_disp (E := E0) rb hp3 (by show 0 < 2; decide) (by show 2 ≤ 1000000; decide) fun x H4 hx3 k4 r4 => ?_⟩
    obtain ⟨pl, tp, pp, rfl, RP⟩ : ∃ (pl : Addr) (t : Str) (p : Pl), x = .ref pl ∧ RestX a (fun b => b = g) H4 t p pl := by
      simp only [List.mem_cons, List.not_mem_nil, or_false] at hx3
      rcases hx3 with rfl | rfl
      · exact ⟨_, _, _, rfl, RYc.kp (KpF.kp (F := fun b => b = g) rfl k4)⟩
      · exact ⟨_, _, _, rfl, RYb.kp (KpF.kp (F := fun b => b = g) rfl k4)⟩
    -- some
    refine ⟨_, rfl, _, rfl, _, rfl, (by show 3 ≤ sizeLine; decide), fun S hS => ?_⟩
    have hSn := r4.free hS
    have Sg := (r4.bag.ne hS).1
    have R4 := r4.new (o := .lst [.str zl, .int many, .ref pl]) hS
    have eS : upd H4 S (.lst [.str zl, .int many, .ref pl]) S = some (.lst [.str zl, .int many, .ref pl]) := upd_same
    have RP4 := (RP.plus hS).same (same_new (o := .lst [.str zl, .int many, .ref pl]) hS)
    generalize upd H4 S (.lst [.str zl, .int many, .ref pl]) = H5 at R4 eS RP4 ⊢
    refine ⟨_, rfl, (by show 4 ≤ sizeLine; decide), fun p5 hp5 => of_disp (E := E0) (Ok.refl R4.bag) hp5 (by show 0 < 4; decide) (by show 4 ≤ 1000000; decide) fun x H8 hx4 _ r8 => ?_⟩
    obtain ⟨n, rfl, n2⟩ : ∃ n : Nat, x = .int n ∧ n ≤ 2 := by
      simp only [List.mem_cons, List.not_mem_nil, or_false] at hx4
      rcases hx4 with rfl | rfl | rfl | rfl
      · exact ⟨0, rfl, by decide⟩
      · exact ⟨1, rfl, by decide⟩
      · exact ⟨1, rfl, by decide⟩
      · exact ⟨2, rfl, by decide⟩
    have eS8 := r8.at_ eS Sg
    have R8 := R4.trans r8
    have RP8 := RP4.kp (KpF.kp (.inl rfl) r8.kp)
    refine ⟨_, rfl, by omega, by omega, for_range (lo := 0) (n := n) (fun i σ H' => ∃ (x0 x1 x2 : V) (v : Option V), σ = [some (.ref g), some (.str zl), some (.int many), some (.ref pl), some (.ref S), v, none, none, none] ∧ H' S = some (.lst [x0, x1, x2]) ∧ Ov (fun b => b = g ∨ b = S) H' 2 x0 ∧ Ov (fun b => b = g ∨ b = S) H' 2 x1 ∧ x1 ≠ .int 8 ∧ (x2 = .ref pl ∨ Ov (fun b => b = g ∨ b = S) H' 2 x2) ∧ RestX a (fun b => b = g ∨ b = S) H' tp pp pl ∧ Ok g l H H')
      ⟨_, _, _, _, rfl, eS8, Ov.sz (x := .str zl) hzl 2, Ov.sz (by exact True.intro) 2, (fun z => m8 (V.int.inj z)), .inl rfl, RP8, R8⟩ ?_ ?_⟩
    · rintro c σ H9 hc ⟨x0, x1, x2, v, rfl, eP9, o0, o1, n8, o2, RP9, R9⟩
      have hF : ∀ b, (b = g ∨ b = S) → ∃ o, H9 b = some o := fun b q => by
        rcases q with rfl | rfl
        · obtain ⟨⟨us, e⟩, _⟩ := R9.bag.there
          exact ⟨_, e⟩
        · exact ⟨_, eP9⟩
      refine ⟨_, rfl, g, l, (fun b => b = g ∨ b = S), rfl, R9.bag, .inl rfl, hF, fun v H10 ovv v8 r10 => ?_⟩
      refine ⟨_, rfl, _, rfl, g, l, 3, rfl, r10.bag, by decide, by decide, fun dx H11 dx0 dx1 r11 => ?_⟩
      have r := r10.trans r11
      obtain ⟨jn, rfl⟩ : ∃ jn : Nat, dx = (jn : Int) := ⟨dx.toNat, by omega⟩
      refine ⟨S, _, _, jn, rfl, rfl, r.at_ eP9 Sg, ixN_nat (by show jn < 3; omega), ?_⟩
      have km : ∀ xs : List V, KpF (fun b => b = g ∨ b = S) H11 (upd H11 S (.lst xs)) := fun xs => KpF.mut' (.inr rfl)
      have kk : ∀ xs : List V, KpF (fun b => b = g ∨ b = S) H9 (upd H11 S (.lst xs)) := fun xs => (KpF.kp (.inl rfl) r.kp).trans (km xs)
      have ov' : ∀ xs : List V, Ov (fun b => b = g ∨ b = S) (upd H11 S (.lst xs)) 2 v := fun xs => (ovv.kp (KpF.kp (.inl rfl) r11.kp)).kp (km xs)
      have o2' : ∀ xs : List V, (x2 = .ref pl ∨ Ov (fun b => b = g ∨ b = S) (upd H11 S (.lst xs)) 2 x2) := fun xs => o2.imp id fun o => o.kp (kk xs)
      match jn, dx1 with
      | 0, _ => exact ⟨_, _, _, _, rfl, upd_same, ov' _, o1.kp (kk _), n8, o2' _, RP9.kp (kk _), (R9.trans r).mut hSn⟩
      | 1, _ => exact ⟨_, _, _, _, rfl, upd_same, o0.kp (kk _), ov' _, v8, o2' _, RP9.kp (kk _), (R9.trans r).mut hSn⟩
      | 2, _ => exact ⟨_, _, _, _, rfl, upd_same, o0.kp (kk _), o1.kp (kk _), n8, .inr (ov' _), RP9.kp (kk _), (R9.trans r).mut hSn⟩
    rintro σ H9 ⟨x0, x1, x2, v5, rfl, eS9, o0, o1, n8, o2, RP9, R9⟩
    have mo : ∀ b, (fun b => b = g) b → (fun b => b = g ∨ b = S) b := fun b z => .inl z
    have o0 := o0.mono mo
    have o1 := o1.mono mo
    have RP9 := RP9.mono mo
    obtain ⟨b2, hb2⟩ : ∃ b2 : Bool, (b2 = true → x2 = .ref pl) ∧ (b2 = false → Ov (fun b => b = g) H9 2 x2) := by
      rcases o2 with o2 | o2
      · exact ⟨true, fun _ => o2, fun z => Bool.noConfusion z⟩
      · exact ⟨false, fun z => Bool.noConfusion z, fun _ => o2.mono mo⟩
    have tb9 := tabs_ok R9 tb0
    refine lam_use tb9 (fun T H3 => KpF (fun b => b = g) H9 H3 ∧ Bag l H3 g ∧ LamX.Tabs Tb H3 ∧ ∃ tv fv : V, H3 T = some (.tup [tv, fv]) ∧ ((∃ (nm : Str) (w : V) (D : Addr), dueR b2 x0 x1 x2 = some (nm, w) ∧ tv = .non ∧ fv = .ref D ∧ H3 D = some (.lst [.str nm, w])) ∨ (dueR b2 x0 x1 x2 = none ∧ fv = .non ∧ ∃ (x : Addr) (nm : Str) (ch : Int), x0 = .str nm ∧ x1 = .int ch ∧ x2 = .ref pl ∧ tv = .ref x ∧ RuleAt r H3 x nm ch pl))) ?_ ?_
    · intro H10 e10 t10 H11 s11
      have B11 : Bag l H11 g := bag_same s11 (bag_ext e10 R9.bag)
      have t11 : LamX.Tabs Tb H11 := t10.ext s11
      have k11 : KpF (fun b => b = g) H9 H11 := (KpF.ext e10).trans (KpF.same s11)
      refine ⟨fun cls d H' => ∃ (nm : Str) (C dd : Addr) (w : V), ((nm = "InvalidName" ∧ C = CInvalidName) ∨ (nm = "InvalidNumber" ∧ C = CInvalidNumber) ∨ (nm = "InvalidRest" ∧ C = CInvalidRest)) ∧ cls = .ref C ∧ d = some dd ∧ H' dd = some (.xd (ivF nm [w])) ∧ dueR b2 x0 x1 x2 = some (nm, w) ∧ KpF (fun b => b = g) H9 H' ∧ Bag l H' g ∧ LamX.Tabs Tb H', ?_, ?_⟩
      · rintro cls d H' ⟨nm, C, dd, w, c1, c2, c3, c4, c5, c6, c7, c8⟩
        exact ⟨nm, C, dd, w, c1, c2, c3, c4, fun D T H2 s d1 d2 d3 d4 => ⟨c6.trans (KpF.same s), bag_same s c7, c8.ext s, _, _, d4, .inl ⟨nm, w, D, c5, rfl, rfl, d3⟩⟩⟩
      · intro E Qv hE hv
        have core : ∀ (Hd : Hp), Ok g l H11 Hd → ∀ (x dx : Addr), Hd x = none → Hd dx = none → spRule_init a r CInvalidName CInvalidNumber CInvalidRest [.ref x, x0, x1, x2] (upd (upd Hd dx (.own x)) x (.ins r.c dx [])) (fun v H2 => v = .non ∧ Qv (.ref x) H2) E := fun Hd rd x dx hx hdx => by
          have kd : KpF (fun b => b = g) H9 Hd := k11.trans (KpF.kp rfl rd.kp)
          have td := tabs_ok rd t11
          have er : ∀ (C : Addr) (nm : Str) (w : V), ((nm = "InvalidName" ∧ C = CInvalidName) ∨ (nm = "InvalidNumber" ∧ C = CInvalidNumber) ∨ (nm = "InvalidRest" ∧ C = CInvalidRest)) → dueR b2 x0 x1 x2 = some (nm, w) → LX.ErrOut Hd E C (ivF nm [w]) := fun C nm w cs du d H' s' hd he =>
            hE _ _ _ ⟨nm, C, d, w, cs, rfl, rfl, he, du, kd.trans (KpF.same s'), bag_same s' rd.bag, td.ext s'⟩
          refine ⟨x, dx, (fun b => b = g), 2, x0, x1, x2, Hd, rfl, upd_same, hx, same_two hx hdx, o0.kp kd, o1.kp kd, ?_, (fun q => er _ _ _ (.inl ⟨rfl, rfl⟩) (dr0 q)), (fun q1 q2 => er _ _ _ (.inr (.inl ⟨rfl, rfl⟩)) (dr1 q1 q2)), (fun q1 q2 q3 => er _ _ _ (.inr (.inr ⟨rfl, rfl⟩)) (dr2 q1 q2 ?_)), fun nm ch u t p H' q1 q2 q3 RX n1 n2 sH RA => ⟨rfl, hv _ _ fun T hT => ?_⟩⟩
          · cases b2 with
            | true => exact .inr ⟨pl, tp, pp, hb2.1 rfl, RP9.kp kd⟩
            | false => exact .inl ((hb2.2 rfl).kp kd)
          · cases b2 with
            | true =>
              exfalso
              have e := hb2.1 rfl
              obtain ⟨C, dy, fs, hy, _⟩ := (RP9.kp kd).view KN
              rw [e] at q3
              rcases q3 with q3 | ⟨p, ks, z, _, hp, _⟩ | ⟨bb, p, xs, z, _, hp, _⟩
              · exact q3.elim
              · cases z
                rw [hy] at hp
                cases hp
              · cases z
                rw [hy] at hp
                cases bb <;> cases hp
            | false => rfl
          · have b2t : b2 = true := by
              cases b2 with
              | true => rfl
              | false =>
                exfalso
                have o := hb2.2 rfl
                rw [q3] at o
                obtain ⟨C, dy, fs, hy, _⟩ := RX.view KN
                have o := o.kp kd
                rcases o with o | ⟨p, ks, z, _, hp, _⟩ | ⟨bb, p, xs, z, _, hp, _⟩
                · exact o.elim
                · cases z
                  rw [hy] at hp
                  cases hp
                · cases z
                  rw [hy] at hp
                  cases bb <;> cases hp
            have ep := hb2.1 b2t
            have eu : u = pl := by
              rw [q3] at ep
              cases ep
              rfl
            subst eu
            have sT := same_new (o := .tup [.ref x, .non]) hT
            obtain ⟨dz, RA'⟩ := id RA
            exact ⟨kd.trans (KpF.same (sH.trans sT)), bag_same (sH.trans sT) rd.bag, td.ext (sH.trans sT), _, _, upd_same, .inr ⟨dr3 n1 n2 b2t, rfl, x, nm, ch, q1, q2, ep, rfl, ⟨dz, sT _ _ RA'⟩⟩⟩
        have eS11 : H11 S = some (.lst [x0, x1, x2]) := k11 _ _ Sg (fun ps z => by cases z) eS9
        refine ⟨_, rfl, g, l, 2, rfl, B11, by decide, by decide, fun d H12 d0 d1 r12 => ?_⟩
        have eS12 := r12.at_ eS11 Sg
        refine ⟨rfl, _, rfl, ?_⟩
        show if _ then _ else _
        split
        · exact ⟨_, rfl, _, _, _, _, rfl, rfl, SqL.of eS12, rfl, _, rfl, _, _, _, _, rfl, rfl, SqL.of eS12, rfl, _, rfl, _, _, _, _, rfl, rfl, SqL.of eS12, rfl, fun x dx hx hdx nx => core H12 r12 x dx hx hdx⟩
        · exact ⟨_, rfl, _, _, _, _, rfl, rfl, SqL.of eS12, rfl, _, rfl, _, _, _, _, rfl, rfl, SqL.of eS12, rfl, _, rfl, _, _, _, _, rfl, rfl, SqL.of eS12, rfl, rfl, rfl, fun x dx hx hdx nx => core H12 r12 x dx hx hdx⟩
    · rintro T H3 ⟨k3, B3, t3, tv, fv, eT, cs⟩
      have eS3 : H3 S = some (.lst [x0, x1, x2]) := k3 _ _ Sg (fun ps z => by cases z) eS9
      have fin : ∀ H', Same H3 H' → Q (.bl true) H' := fun H' s' => k H' (bag_same s' B3) (t3.ext s')
      refine ⟨T, _, rfl, SqT.of eT, rfl, _, _, rfl, _, _, rfl, rfl, ?_⟩
      refine ⟨_, rfl, _, _, _, _, rfl, rfl, SqL.of eS3, rfl, (fun b => b = g), 2, x0, _, rfl, o0.kp k3, fun H4 s4 => ⟨_, rfl, ite_nb (fun en => ?_) (fun en => ?_)⟩⟩
      · rw [namN8] at en
        rcases cs with ⟨nm, w, D, du, rfl, rfl, eD⟩ | ⟨du, _⟩
        · rw [dr0 en] at du
          cases du
          refine ⟨_, rfl, rfl, _, rfl, iteT ⟨_, rfl, _, rfl, _, _, _, _, rfl, rfl, SqL.of (s4 _ _ eS3), rfl, (by show 2 ≤ sizeLine; decide), fun U hU => ?_⟩⟩
          have sU := s4.trans (same_new (o := .lst [.str "InvalidName", x0]) hU)
          refine ⟨V.ref D, V.ref U, 3, rfl, by decide, .inr (.inr ⟨true, D, U, _, _, rfl, rfl, sU _ _ eD, upd_same, rfl, (by show 2 ≤ 1000000; decide), fun j u v a1 a2 => ?_⟩), fun H5 s5 => fin _ (sU.trans s5)⟩
          rw [a1] at a2
          cases a2
          match j, a1 with
          | 0, a1 => cases a1; exact Lq.sc (by exact True.intro) 2
          | 1, a1 => cases a1; exact ((o0.kp k3).kp (KpF.same sU)).lq
        · rw [dr0 en] at du
          cases du
      rw [namN8] at en
      refine ⟨_, rfl, _, _, _, _, rfl, rfl, SqL.of (s4 _ _ eS3), rfl, (fun b => b = g), 2, x1, _, rfl, (o1.kp k3).kp (KpF.same s4), _, rfl, ite_nb (fun eu => ?_) (fun eu => ?_)⟩
      · rcases cs with ⟨nm, w, D, du, rfl, rfl, eD⟩ | ⟨du, _⟩
        · rw [dr1 en eu] at du
          cases du
          refine ⟨_, rfl, rfl, _, rfl, iteT ⟨_, rfl, _, rfl, _, _, _, _, rfl, rfl, SqL.of (s4 _ _ eS3), rfl, (by show 2 ≤ sizeLine; decide), fun U hU => ?_⟩⟩
          have sU := s4.trans (same_new (o := .lst [.str "InvalidNumber", x1]) hU)
          refine ⟨V.ref D, V.ref U, 3, rfl, by decide, .inr (.inr ⟨true, D, U, _, _, rfl, rfl, sU _ _ eD, upd_same, rfl, (by show 2 ≤ 1000000; decide), fun j u v a1 a2 => ?_⟩), fun H5 s5 => fin _ (sU.trans s5)⟩
          rw [a1] at a2
          cases a2
          match j, a1 with
          | 0, a1 => cases a1; exact Lq.sc (by exact True.intro) 2
          | 1, a1 => cases a1; exact ((o1.kp k3).kp (KpF.same sU)).lq
        · rw [dr1 en eu] at du
          cases du
      have hS4 := s4 _ _ eS3
      refine ⟨_, rfl, _, _, _, _, rfl, rfl, SqL.of hS4, rfl, (by show 2 ≤ sizeLine; decide), fun tq htq => ?_⟩
      have sP := s4.trans (same_new (o := .tup [.ref a.W, .ref a.D]) htq)
      cases b2 with
      | false =>
        have ox := hb2.2 rfl
        rcases cs with ⟨nmE, w, D, du, rfl, rfl, eD⟩ | ⟨du, _⟩
        · rw [dr2 en eu rfl] at du
          cases du
          obtain ⟨ty, tx, _, _, _, hm⟩ := ((ox.kp k3).kp (KpF.same sP)).ty (K := K)
          refine ⟨_, tq, _, _, _, false, rfl, upd_same, .cons (.own _) (.cons (.own _) .nil), tx, KN.kWDo ty hm, _, rfl, iteT ?_⟩
          have eP := sP _ _ eS3
          refine ⟨_, rfl, rfl, _, rfl, iteT ⟨_, rfl, _, rfl, _, _, _, _, rfl, rfl, SqL.of eP, rfl, (by show 2 ≤ sizeLine; decide), fun U hU => ?_⟩⟩
          have sU := sP.trans (same_new (o := .lst [.str "InvalidRest", x2]) hU)
          refine ⟨V.ref D, V.ref U, 3, rfl, by decide, .inr (.inr ⟨true, D, U, _, _, rfl, rfl, sU _ _ eD, upd_same, rfl, (by show 2 ≤ 1000000; decide), fun j u v a1 a2 => ?_⟩), fun H5 s5 => fin _ (sU.trans s5)⟩
          rw [a1] at a2
          cases a2
          match j, a1 with
          | 0, a1 => cases a1; exact Lq.sc (by exact True.intro) 2
          | 1, a1 => cases a1; exact ((ox.kp k3).kp (KpF.same sU)).lq
        · rw [dr2 en eu rfl] at du
          cases du
      | true =>
        rcases cs with ⟨nmE, w, D, du, rfl, rfl, eD⟩ | ⟨du, rfl, x, nm, ch, rfl, rfl, e2, rfl, RA⟩
        · rw [dr3 en eu rfl] at du
          cases du
        subst e2
        have R3 := RP9.kp k3
        obtain ⟨C, dy, fs, hy, rc, F4, ht, _⟩ := R3.view KN
        obtain ⟨dx, hx⟩ := id RA
        have nl : nm.length ≤ 1000000 := (o0.kp k3).str
        obtain ⟨_, e3, c0, c1⟩ := num_int eu
        cases e3
        have c8 : ch ≠ 8 := fun z => n8 (by rw [z])
        refine ⟨_, tq, _, _, _, true, rfl, upd_same, .cons (.own _) (.cons (.own _) .nil), .base (.ins (sP _ _ hy) rc.cl rc.ha rc.hn rc.htk rc.hm), rc.kWD, _, rfl, iteF ?_⟩
        generalize upd H4 tq (.tup [.ref a.W, .ref a.D]) = H5 at sP ⊢
        have hx5 := sP _ _ hx
        have hy5 := sP _ _ hy
        have eS5 := sP _ _ eS3
        have R5 := R3.same sP
        refine ⟨_, rfl, rfl, _, rfl, iteF ?_⟩
        refine ⟨_, rfl, x, r.c, dx, _, _, rfl, hx5, KR.cl, KR.nn, lk_name, _, rfl, x, r.c, dx, _, _, rfl, hx5, KR.cl, KR.nc, lk_chips, _, rfl, x, r.c, dx, _, _, rfl, hx5, KR.cl, KR.nr, lk_rest, pl, C, dy, fs, rfl, hy5, rc.cl, rc.mW, F4.mw, pl, _, _, _, rfl, R5, (by show 3 ≤ sizeLine; decide), fun U1 hU1 => ?_⟩
        have s6 := sP.trans (same_new (o := .lst [.str nm, .int ch, .str tp]) hU1)
        have eU1 : upd H5 U1 (.lst [.str nm, .int ch, .str tp]) U1 = some (.lst [.str nm, .int ch, .str tp]) := upd_same
        show _
        generalize upd H5 U1 (.lst [.str nm, .int ch, .str tp]) = H6 at s6 eU1 ⊢
        have eS6 := s6 _ _ eS3
        have hy6 := s6 _ _ hy
        have R6 := R3.same s6
        refine ⟨_, rfl, _, _, _, _, rfl, rfl, SqL.of eS6, rfl, _, rfl, _, _, _, _, rfl, rfl, SqL.of eS6, rfl, _, rfl, pl, C, dy, fs, rfl, hy6, rc.cl, rc.mW, F4.mw, pl, _, _, _, rfl, R6, (by show 3 ≤ sizeLine; decide), fun U2 hU2 => ?_⟩
        have s7 := s6.trans (same_new (o := .lst [.str nm, .int ch, .str tp]) hU2)
        have eU1' := same_new (o := .lst [.str nm, .int ch, .str tp]) hU2 _ _ eU1
        refine ⟨V.ref U1, V.ref U2, 1, rfl, by decide, .inr (.inr ⟨true, U1, U2, _, _, rfl, rfl, eU1', upd_same, rfl, (by show 3 ≤ 1000000; decide), fun j u v a1 a2 => ?_⟩), fun H7 s8 => ⟨_, rfl, ite_nb (fun h => Bool.noConfusion h) (fun _ => ?_)⟩⟩
        · rw [a1] at a2
          cases a2
          match j, a1 with
          | 0, a1 => cases a1; exact Lq.sc (by exact True.intro) 0
          | 1, a1 => cases a1; exact Lq.sc (by exact True.intro) 0
          | 2, a1 => cases a1; exact Lq.sc (by exact True.intro) 0
        have s9 := s7.trans s8
        have eS7 := s9 _ _ eS3
        refine ⟨_, rfl, _, _, _, _, rfl, rfl, SqL.of eS7, rfl, rfl, _, rfl, pick_q fun zq nz zn zl => ?_⟩
        -- the twin
        have eS8 : H7 S = some (.lst [.str nm, .int ch, .ref pl]) := eS7
        refine ⟨_, rfl, _, rfl, _, _, _, _, rfl, rfl, SqL.of eS8, rfl, _, rfl, fun xa dxa hxa hdxa nxa => ⟨xa, dxa, (fun b => b = g), 0, .str zq, .int ch, .ref pl, H7, rfl, upd_same, hxa, same_two hxa hdxa, zl, True.intro, .inr ⟨pl, _, _, rfl, R3.same s9⟩, (fun q => absurd (q.symm.trans nz) Bool.false_ne_true), (fun _ q => absurd (q.symm.trans eu) Bool.false_ne_true), (fun _ _ q => q.elim), fun nma cha ua ta pa HHa q1 q2 q3 _ _ _ la RAa => ⟨rfl, ?_⟩⟩⟩
        cases q1
        cases q2
        cases q3
        have sa := s9.trans la
        have hxA := sa _ _ hx
        have RxA := R3.same sa
        obtain ⟨dxa', RAa'⟩ := id RAa
        refine ⟨_, rfl, _, rfl, x, r.c, dx, r.fE, _, _, _, rfl, hxA, ⟨KR.e1, KR.e2, OEr⟩, .ins RAa', (by simp [PySem.W.notFirst]), x, pl, _, _, _, _, _, _, rfl, ⟨dx, hxA⟩, RxA, .inr (.inr ⟨xa, pl, _, _, _, _, _, rfl, RAa, RxA, ?_⟩)⟩
        rw [decide_eq_false (fun z => zn z.symm : ¬ nm = zq), Bool.false_and]
        refine ⟨_, rfl, _, rfl, xa, r.c, dxa', r.fE, _, _, _, rfl, RAa', ⟨KR.e1, KR.e2, OEr⟩, .ins hxA, (by simp [PySem.W.notFirst]), xa, pl, _, _, _, _, _, _, rfl, RAa, RxA, .inr (.inr ⟨x, pl, _, _, _, _, _, rfl, ⟨dx, hxA⟩, RxA, ?_⟩)⟩
        rw [decide_eq_false (zn : ¬ zq = nm), Bool.false_and]
        refine ⟨(by show 2 ≤ sizeLine; decide), fun V1 hV1 => ⟨(by show 2 ≤ sizeLine; decide), fun V2 hV2 => ?_⟩⟩
        have t1 := same_new (o := .lst [.bl false, .bl false]) hV1
        have t2 := same_new (o := .lst [.bl false, .bl false]) hV2
        refine ⟨V.ref V1, V.ref V2, 1, rfl, by decide, .inr (.inr ⟨true, V1, V2, _, _, rfl, rfl, t2 _ _ upd_same, upd_same, rfl, (by show 2 ≤ 1000000; decide), fun j u v a1 a2 => ?_⟩), fun H8 t3 => ⟨_, rfl, ite_nb (fun h => Bool.noConfusion h) (fun _ => ?_)⟩⟩
        · rw [a1] at a2
          cases a2
          match j, a1 with
          | 0, a1 => cases a1; exact Lq.sc (by exact True.intro) 0
          | 1, a1 => cases a1; exact Lq.sc (by exact True.intro) 0
        have sb := sa.trans ((t1.trans t2).trans t3)
        have eSb := sb _ _ eS3
        -- equal
        refine ⟨_, rfl, _, rfl, _, _, _, _, rfl, rfl, SqL.of eSb, rfl, _, rfl, _, _, _, _, rfl, rfl, SqL.of eSb, rfl, _, rfl, fun xb dxb hxb hdxb nxb => ⟨xb, dxb, (fun b => b = g), 0, .str nm, .int ch, .ref pl, H8, rfl, upd_same, hxb, same_two hxb hdxb, nl, True.intro, .inr ⟨pl, _, _, rfl, R3.same sb⟩, (fun q => absurd (q.symm.trans en) Bool.false_ne_true), (fun _ q => absurd (q.symm.trans eu) Bool.false_ne_true), (fun _ _ q => q.elim), fun nmb chb ub tb' pb HHb q1 q2 q3 _ _ _ lb RAb => ⟨rfl, ?_⟩⟩⟩
        cases q1
        cases q2
        cases q3
        have sc := sb.trans lb
        have hxB := sc _ _ hx
        have RxB := R3.same sc
        obtain ⟨dxb', RAb'⟩ := id RAb
        refine ⟨x, r.c, dx, r.fE, _, _, _, rfl, hxB, ⟨KR.e1, KR.e2, OEr⟩, .ins RAb', (by simp [PySem.W.notFirst]), x, pl, _, _, _, _, _, _, rfl, ⟨dx, hxB⟩, RxB, .inr (.inr ⟨xb, pl, _, _, _, _, _, rfl, RAb, RxB, ?_⟩)⟩
        rw [decide_eq_true (rfl : nm = nm), decide_eq_true (rfl : ch = ch), decide_eq_true (rfl : tp = tp), Bool.true_and, Bool.true_and]
        refine ⟨_, rfl, _, rfl, x, r.c, dx, r.fS, _, _, rfl, hxB, ⟨KR.s1, KR.s2, OSr⟩, x, pl, _, _, _, _, _, rfl, ⟨dx, hxB⟩, nl, c0, c1, RxB, _, rfl, x, r.c, dx, r.fE, _, _, _, rfl, hxB, ⟨KR.e1, KR.e2, OEr⟩, .str _, KR.nfs, x, pl, _, _, _, _, _, _, rfl, ⟨dx, hxB⟩, RxB, .inr (.inl ⟨_, rfl, ?_⟩)⟩
        have eSc := sc _ _ eS3
        refine ⟨_, rfl, _, rfl, _, _, _, _, rfl, rfl, SqL.of eSc, rfl, _, rfl, fun xc dxc hxc hdxc nxc => ⟨xc, dxc, (fun b => b = g), 0, .str nm, .int 8, .ref pl, HHb, rfl, upd_same, hxc, same_two hxc hdxc, nl, True.intro, .inr ⟨pl, _, _, rfl, RxB⟩, (fun q => absurd (q.symm.trans en) Bool.false_ne_true), (fun _ q => absurd (q.symm.trans (num_true (by decide) (by decide))) Bool.false_ne_true), (fun _ _ q => q.elim), fun nmc chc uc tc pc HHc q1 q2 q3 _ _ _ lc RAc => ⟨rfl, ?_⟩⟩⟩
        cases q1
        cases q2
        cases q3
        have sd := sc.trans lc
        have hxC := sd _ _ hx
        have RxC := R3.same sd
        obtain ⟨dxc', RAc'⟩ := id RAc
        refine ⟨x, r.c, dx, r.fE, _, _, _, rfl, hxC, ⟨KR.e1, KR.e2, OEr⟩, .ins RAc', (by simp [PySem.W.notFirst]), x, pl, _, _, _, _, _, _, rfl, ⟨dx, hxC⟩, RxC, .inr (.inr ⟨xc, pl, _, _, _, _, _, rfl, RAc, RxC, ?_⟩)⟩
        rw [decide_eq_false (c8 : ¬ ch = 8), Bool.false_and, Bool.and_false]
        refine ⟨_, rfl, x, r.c, dx, r.fE, _, _, _, rfl, hxC, ⟨KR.e1, KR.e2, OEr⟩, .int _, KR.nfi, x, pl, _, _, _, _, _, _, rfl, ⟨dx, hxC⟩, RxC, .inl ⟨5, rfl, ?_⟩⟩
        refine ⟨(by show 4 ≤ sizeLine; decide), fun W1 hW1 => ⟨(by show 4 ≤ sizeLine; decide), fun W2 hW2 => ?_⟩⟩
        have w1 := same_new (o := .lst [.bl true, .bl false, .bl false, .bl false]) hW1
        have w2 := same_new (o := .lst [.bl true, .bl false, .bl false, .bl false]) hW2
        refine ⟨V.ref W1, V.ref W2, 1, rfl, by decide, .inr (.inr ⟨true, W1, W2, _, _, rfl, rfl, w2 _ _ upd_same, upd_same, rfl, (by show 4 ≤ 1000000; decide), fun j u v a1 a2 => ?_⟩), fun H9 w3 => fin _ (sd.trans ((w1.trans w2).trans w3))⟩
        rw [a1] at a2
        cases a2
        match j, a1 with
        | 0, a1 => cases a1; exact Lq.sc (by exact True.intro) 0
        | 1, a1 => cases a1; exact Lq.sc (by exact True.intro) 0
        | 2, a1 => cases a1; exact Lq.sc (by exact True.intro) 0
        | 3, a1 => cases a1; exact Lq.sc (by exact True.intro) 0
end k10
namespace k10
open PySem L2 LC RM
theorem due_use {H : Hp} {Q : VK} {E : XK} {F : Addr → Prop} {n : Nat} {P : Addr} {v0 v1 v2 v3 : V} (hP : H P = some (.lst [v0, v1, v2, v3])) (o0 : Ov F H n v0) (o1 : Ov F H n v1) (o2 : Ov F H n v2) (o3 : Ov F H n v3)
    (h : ∀ dv H', Same H H' → ((∃ (nm : Str) (w : V) (D : Addr), dueV v0 v1 v2 v3 = some (nm, w) ∧ dv = .ref D ∧ H D = none ∧ H' D = some (.lst [.str nm, w])) ∨ (dueV v0 v1 v2 v3 = none ∧ dv = .non)) → Q dv H') : spladder_due [.ref P] H Q E :=
  ⟨F, n, P, v0, v1, v2, v3, rfl, hP, o0, o1, o2, o3, fun nm w D H' du s n e => h _ H' s (.inl ⟨nm, w, D, du, rfl, n, e⟩), fun du H' s => h _ H' s (.inr ⟨du, rfl⟩)⟩
theorem due_mem {v0 v1 v2 v3 w : V} {nm : Str} (h : dueV v0 v1 v2 v3 = some (nm, w)) : (nm = "InvalidName" ∨ nm = "InvalidNumber") ∧ (w = v0 ∨ w = v1 ∨ w = v2 ∨ w = v3) := by
  unfold dueV at h
  split at h
  · cases h
    exact ⟨.inl rfl, .inl rfl⟩
  · split at h
    · cases h
      exact ⟨.inr rfl, .inr (.inl rfl)⟩
    · split at h
      · cases h
        exact ⟨.inr rfl, .inr (.inr (.inl rfl))⟩
      · split at h
        · cases h
          exact ⟨.inr rfl, .inr (.inr (.inr rfl))⟩
        · cases h
theorem bt_of {b : Bool} (h : ¬ b = false) : b = true := by
  cases b
  · exact absurd rfl h
  · rfl
theorem due_ok {v0 v1 v2 v3 : V} (h : dueV v0 v1 v2 v3 = none) : isNamN 7 v0 = true ∧ isNum v1 1 1000 = true ∧ isNum v2 1 1000 = true ∧ isNum v3 1 9 = true ∧ stOk v1 v2 v3 = true := by
  unfold dueV at h
  split at h
  · cases h
  · rename_i a
    split at h
    · cases h
    · rename_i b
      split at h
      · cases h
      · rename_i c
        split at h
        · cases h
        · rename_i d
          have d := bt_of d
          rw [Bool.and_eq_true] at d
          exact ⟨bt_of a, bt_of b, bt_of c, d.1, d.2⟩
def splaw (K : PySem.W.Frag) (Tb : List (Addr × Str)) : Sp := fun vs H Q _ => ∃ (a : Addr) (ns : List Int), vs = [.ref a] ∧ SqL K H a (ns.map V.int) ∧ ns.length ≤ 63 ∧ LamX.Tabs Tb H ∧ ∀ H', Q (.bl true) H'
theorem ok_law {P : Program} {w : World} {K : PySem.W.Frag} {mg : Str → Option Value} {base : Heap} {f c Pt : Addr} {oc kV doc pm ct : Value} {od an : Option Addr} {osl : Array (Option Value)} (lk : K.lookup f = some ⟨oc, od, .func (PySem.W.fnOf "law" "law" (defArgs slaw) (defBody slaw) (defScope slaw) .none kV doc pm an (.ref c) ct), osl⟩) (hcd : PySem.W.codeIn K (.ref c) "law" = true) (TB : LamX.TabB base mg c Pt) (T : Txt K mg) {a : Ad} (KN : Kn K mg a) {r : Ar} (KR : Kr K mg r) {fdInvalidName : FuncData} {fInvalidName CInvalidName : Addr} (RInvalidName : RE P w K mg base "InvalidName" CInvalidName fInvalidName fdInvalidName) {fdInvalidNumber : FuncData} {fInvalidNumber CInvalidNumber : Addr} (RInvalidNumber : RE P w K mg base "InvalidNumber" CInvalidNumber fInvalidNumber fdInvalidNumber) {fdInvalidRest : FuncData} {fInvalidRest CInvalidRest : Addr} (RInvalidRest : RE P w K mg base "InvalidRest" CInvalidRest fInvalidRest fdInvalidRest) {S fask : Addr} {fdask : FuncData} (Dask : Def K mg "_law_ask" sask Pask fask fdask) (eUN : PySem.W.exmOne K (.ref CInvalidNumber) (.ref CInvalidName) = some false) (eRN : PySem.W.exmOne K (.ref CInvalidRest) (.ref CInvalidName) = some false) (eRU : PySem.W.exmOne K (.ref CInvalidRest) (.ref CInvalidNumber) = some false) (gSE : mg "SureletError" = some (.ref S)) {fladder : Addr} {fdladder : FuncData} (Dladder : Def K mg "ladder" sladder Pladder fladder fdladder) (Gladder : FnOk P w K mg base (L2.CX P w) 5 fladder fdladder Pladder (spladder a r CInvalidName CInvalidNumber CInvalidRest)) {Tb : List (Addr × Str)} (hmT : (Pt, (("law" : Str) ++ ".<locals>." ++ "<lambda>")) ∈ Tb) (hu : ∀ p ∈ Tb, p.1 = Pt → p.2 = (("law" : Str) ++ ".<locals>." ++ "<lambda>")) {fbag : Addr} {fdbag : FuncData} (Dbag : Def K mg "_law_bag" sbag Pbag fbag fdbag) (Gbag : FnOk P w K mg base CX0 1 fbag fdbag Pbag (spbag K)) {fdraw : Addr} {fddraw : FuncData} (Ddraw : Def K mg "_law_draw" sdraw Pdraw fdraw fddraw) (Gdraw : FnOk P w K mg base CX0 1 fdraw fddraw Pdraw (spdraw)) {flike : Addr} {fdlike : FuncData} (Dlike : Def K mg "_law_like" slike Plike flike fdlike) (Glike : FnOk P w K mg base CX0 5 flike fdlike Plike (splike 5)) {fgiven : Addr} {fdgiven : FuncData} (Dgiven : Def K mg "_law_given" sgiven Pgiven fgiven fdgiven) (Ggiven : FnOk P w K mg base CX0 5 fgiven fdgiven Pgiven (spgiven)) {fladder_due : Addr} {fdladder_due : FuncData} (Dladder_due : Def K mg "_law_ladder_due" sladder_due Pladder_due fladder_due fdladder_due) (Gladder_due : FnOk P w K mg base CX0 2 fladder_due fdladder_due Pladder_due (spladder_due)) {frules_so : Addr} {fdrules_so : FuncData} (Drules_so : Def K mg "_law_rules_so" srules_so Prules_so frules_so fdrules_so) (Grules_so : FnOk P w K mg base CX0 6 frules_so fdrules_so Prules_so (sprules_so a r)) {fasked_so : Addr} {fdasked_so : FuncData} (Dasked_so : Def K mg "_law_asked_so" sasked_so Pasked_so fasked_so fdasked_so) (Gasked_so : FnOk P w K mg base CX0 6 fasked_so fdasked_so Pasked_so (spasked_so a r)) {fone_rule_so : Addr} {fdone_rule_so : FuncData} (Done_rule_so : Def K mg "_law_one_rule_so" sone_rule_so Pone_rule_so fone_rule_so fdone_rule_so) (Gone_rule_so : FnOk P w K mg base CX0 7 fone_rule_so fdone_rule_so Pone_rule_so (spone_rule_so Tb)) :
    FnOk P w K mg base CX0 11 f (PySem.W.fnOf "law" "law" (defArgs slaw) (defBody slaw) (defScope slaw) .none kV doc pm an (.ref c) ct) Plaw (splaw K Tb) := by
  refine LL.okC lk hcd sclaw (fun vs H Q E h => ?_) (fun A outer s H vs Q E hr h => ?_)
  · obtain ⟨sc, ns, rfl, hS, hl, tb0, k⟩ := h
    rfl
  · obtain ⟨sc, ns, rfl, hS, hl, tb0, k⟩ := h
    have hrbag : Room 1 _ := hr.mono (by decide)
    have hrdraw : Room 1 _ := hr.mono (by decide)
    have hrlike : Room 5 _ := hr.mono (by decide)
    have hrgiven : Room 5 _ := hr.mono (by decide)
    have hrladder_due : Room 2 _ := hr.mono (by decide)
    have hrrules_so : Room 6 _ := hr.mono (by decide)
    have hrasked_so : Room 6 _ := hr.mono (by decide)
    have hrone_rule_so : Room 7 _ := hr.mono (by decide)
    have hrL : Room (5 + 2) _ := hr.mono (by decide)
    refine ⟨_, (pss_cons (ps_set (i := 1) sclaw.nd rfl (Or.inl rfl) (pe_call Gbag hrbag rfl Dbag.g Dbag.F.kp Dbag.b .nil pass0 (pa_cons (pv 0) pa_nil)))
        (pss_cons (ps_for PassesOwn.never rfl (pi_range1 rfl T.n_range (pa_cons pe_int pa_nil)) (pg_name (i := 2) sclaw.nd rfl (Or.inl rfl))
          (pss_cons (ps_set (i := 3) sclaw.nd rfl (Or.inr rfl) (pe_call Ggiven hrgiven rfl Dgiven.g Dgiven.F.kp Dgiven.b .nil pass0 (pa_cons (pv 1) pa_nil)))
        (pss_cons (ps_set (i := 4) sclaw.nd rfl (Or.inl rfl) (pe_call Gladder_due hrladder_due rfl Dladder_due.g Dladder_due.F.kp Dladder_due.b .nil pass0 (pa_cons (pv 3) pa_nil)))
        (pss_cons (ps_set (i := 5) sclaw.nd rfl (Or.inr rfl) (pe_call Gdraw hrdraw rfl Ddraw.g Ddraw.F.kp Ddraw.b .nil pass0 (pa_cons (pv 1) (pa_cons pe_int pa_nil))))
        (pss_cons (ps_asg (LL.pe_lamcallS (T := Tb) (ql := ("law" : Str) ++ ".<locals>.") Dask rfl scask rfl (Or.inl rfl) (fun _ => ask_gives RInvalidName RInvalidNumber RInvalidRest eUN eRN eRU gSE) rfl TB rfl hmT hu hrL (show LamX.LamS (defScope slaw) _ from LamX.lamS_by (by decide +kernel)) rfl (fun _ _ _ _ _ => rfl) (fun A outer s H E f c' hrB => (pe_ifExp (pt_cmpR op_eq (pv 5) pe_int (nomark _)) (pe_call Gladder hrB rfl Dladder.g Dladder.F.kp Dladder.b .nil (passes_call (takes_of rfl rfl rfl rfl) fun _ _ _ _ h => h) (pa_cons (pe_ix (show IxR _ (rIxL K) from ix_list) (pv 3) pe_int (fun _ _ => rfl)) (pa_cons (pe_ix (show IxR _ (rIxL K) from ix_list) (pv 3) pe_int (fun _ _ => rfl)) (pa_cons (pe_ix (show IxR _ (rIxL K) from ix_list) (pv 3) pe_int (fun _ _ => rfl)) (pa_cons (pe_ix (show IxR _ (rIxL K) from ix_list) (pv 3) pe_int (fun _ _ => rfl)) pa_nil))))) (pe_callK0 Gladder hrB rfl Dladder.g Dladder.F.kp (KB_ladder__size_name_steps_every Dladder.F) (passes_call (takes_of rfl rfl rfl rfl) fun _ _ _ _ h => h) (pk_cons (pe_ix (show IxR _ (rIxL K) from ix_list) (pv 3) pe_int (fun _ _ => rfl)) (pk_cons (pe_ix (show IxR _ (rIxL K) from ix_list) (pv 3) pe_int (fun _ _ => rfl)) (pk_cons (pe_ix (show IxR _ (rIxL K) from ix_list) (pv 3) pe_int (fun _ _ => rfl)) (pk_cons (pe_ix (show IxR _ (rIxL K) from ix_list) (pv 3) pe_int (fun _ _ => rfl)) pk_nil)))))))) (pg_tup rfl (pgs_cons (pg_name (i := 6) sclaw.nd rfl (Or.inl rfl)) (pgs_cons (pg_name (i := 7) sclaw.nd rfl (Or.inl rfl)) pgs_nil))))
        (Evl.pss_cut (ps_if (pt_cmpR op_notN (pv 4) pe_non (nomark _)) (pss_one (ps_if (PW.pt (pw_or (pt_cmpR op_notN (pv 6) pe_non (nomark _)) (pw_or1 (pt_not (pt_val (pe_call Glike hrlike rfl Dlike.g Dlike.F.kp Dlike.b .nil pass0 (pa_cons (pv 7) (pa_cons (pv 4) pa_nil)))))))) (pss_one (ps_ret pe_bl)) pss_nil)) (pss_one (ps_if (PW.pt (pw_or (pt_cmpR op_notN (pv 7) pe_non (nomark _)) (pw_or1 (pt_not (pt_val (pe_call Grules_so hrrules_so rfl Drules_so.g Drules_so.F.kp Drules_so.b .nil pass0 (pa_cons (pv 3) (pa_cons (pv 6) pa_nil)))))))) (pss_one (ps_ret pe_bl)) (pss_one (ps_if (PW.pt (pw_and (pt_cmpR op_lt (pe_ix ix_list (pv 3) pe_int (fun _ _ => rfl)) pe_int (nomark _)) (pw_and1 (pt_not (pt_val (pe_call Gasked_so hrasked_so rfl Dasked_so.g Dasked_so.F.kp Dasked_so.b .nil pass0 (pa_cons (pv 1) (pa_cons (pv 3) (pa_cons (pv 6) pa_nil))))))))) (pss_one (ps_ret pe_bl)) pss_nil)))))
        (pss_one (ps_if (pt_not (pt_val (pe_call Gone_rule_so hrone_rule_so rfl Done_rule_so.g Done_rule_so.F.kp Done_rule_so.b .nil pass0 (pa_cons (pv 1) pa_nil)))) (pss_one (ps_ret pe_bl)) pss_nil))))))))
        (pss_one (ps_ret pe_bl)))), ?_⟩
    refine ⟨_, rfl, sc, ns, rfl, hS, hl, fun g H1 ng s1 ⟨l, B⟩ => ?_⟩
    refine ⟨_, rfl, by decide, by decide, for_range (lo := 0) (n := 3) (fun i σ H' => ∃ (v2 v3 v4 v5 v6 v7 : Option V), σ = [some (.ref sc), some (.ref g), v2, v3, v4, v5, v6, v7] ∧ Bag l H' g ∧ LamX.Tabs Tb H') ⟨_, _, _, _, _, _, rfl, B, tb0.ext s1⟩ ?_ ?_⟩
    · rintro i σ H2 hi ⟨v2, v3, v4, v5, v6, v7, rfl, B2, t2⟩
      refine ⟨_, rfl, g, l, rfl, B2, fun P xs H3 hPn hP l4 ovs r3 => ?_⟩
      obtain ⟨x0, x1, x2, x3, rfl⟩ : ∃ x0 x1 x2 x3, xs = [x0, x1, x2, x3] := by
        match xs, l4 with
        | [a, b, c, d], _ => exact ⟨a, b, c, d, rfl⟩
      have mo : ∀ b, (fun b => b = g) b → (fun b => b = g ∨ b = P) b := fun b z => .inl z
      have o0 := (ovs x0 (by simp)).mono mo
      have o1 := (ovs x1 (by simp)).mono mo
      have o2 := (ovs x2 (by simp)).mono mo
      have o3 := (ovs x3 (by simp)).mono mo
      have Pg := (B2.ne hPn).1
      refine ⟨_, rfl, ?_⟩
      show tNil _ _ _
      unfold tNil
      show spladder_due ([V.ref P] ++ []) H3 _ _
      refine due_use (E := E0) hP o0 o1 o2 o3 fun dv H4 s4 hdv => ?_
      have r4 := r3.same s4
      refine ⟨_, rfl, g, l, 2, rfl, r4.bag, by decide, by decide, fun d H5 d0 d1 r5 => ?_⟩
      have k35 : KpF (fun b => b = g) H3 H5 := (KpF.same s4).trans (KpF.kp rfl r5.kp)
      have t5 := tabs_ok (r4.trans r5) t2
      have hP5 : H5 P = some (.lst [x0, x1, x2, x3]) := k35 _ _ Pg (fun ps z => by cases z) hP
      refine lam_use t5 (fun T H6 => KpF (fun b => b = g) H5 H6 ∧ Bag l H6 g ∧ LamX.Tabs Tb H6 ∧ ∃ tv fv : V, H6 T = some (.tup [tv, fv]) ∧ ((∃ (nm : Str) (w : V) (D : Addr), dueV x0 x1 x2 x3 = some (nm, w) ∧ tv = .non ∧ fv = .ref D ∧ H6 D = some (.lst [.str nm, w])) ∨
          (dueV x0 x1 x2 x3 = none ∧ fv = .non ∧ ∃ (z : Str) (si ev : Int) (st : Nat) (D : Addr) (ys : List Addr), x0 = .str z ∧ x1 = .int si ∧ x2 = .int ev ∧ x3 = .int (st : Int) ∧ tv = .ref D ∧ D ≠ g ∧ H6 D = some (.lst (ys.map V.ref)) ∧ ys.length = st ∧ Rls r a (fun b => b = g) H6 z si ev ys))) ?_ ?_
      · intro H6 e6 t6 H7 s7
        have B7 : Bag l H7 g := bag_same s7 (bag_ext e6 r5.bag)
        have t7 : LamX.Tabs Tb H7 := t6.ext s7
        have k7 : KpF (fun b => b = g) H5 H7 := (KpF.ext e6).trans (KpF.same s7)
        have gH : ∀ b, (fun b => b = g) b → ∃ o, H7 b = some o := fun b z => by
          obtain ⟨⟨us, e⟩, _⟩ := B7.there
          exact ⟨_, by rw [show b = g from z]; exact e⟩
        refine ⟨fun cls d H' => ∃ (nm : Str) (C dd : Addr) (w : V), ((nm = "InvalidName" ∧ C = CInvalidName) ∨ (nm = "InvalidNumber" ∧ C = CInvalidNumber) ∨ (nm = "InvalidRest" ∧ C = CInvalidRest)) ∧ cls = .ref C ∧ d = some dd ∧ H' dd = some (.xd (ivF nm [w])) ∧ dueV x0 x1 x2 x3 = some (nm, w) ∧ Same H7 H', ?_, ?_⟩
        · rintro cls d H' ⟨nm, C, dd, w, c1, c2, c3, c4, c5, c6⟩
          exact ⟨nm, C, dd, w, c1, c2, c3, c4, fun D T H2 s d1 d2 d3 d4 => ⟨k7.trans (KpF.same (c6.trans s)), bag_same (c6.trans s) B7, t7.ext (c6.trans s), _, _, d4, .inl ⟨nm, w, D, c5, rfl, rfl, d3⟩⟩⟩
        · intro E Qv hE hv
          have core : spladder a r CInvalidName CInvalidNumber CInvalidRest [x0, x1, x2, x3] H7 Qv E := by
            have kk := k35.trans k7
            refine ⟨(fun b => b = g), 2, x0, x1, x2, x3, rfl, gH, o0.kp kk, o1.kp kk, o2.kp kk, o3.kp kk, (fun w du d H' s' hd he => hE _ _ _ ⟨_, _, d, w, .inl ⟨rfl, rfl⟩, rfl, rfl, he, du, s'⟩), (fun w du d H' s' hd he => hE _ _ _ ⟨_, _, d, w, .inr (.inl ⟨rfl, rfl⟩), rfl, rfl, he, du, s'⟩), fun z si ev ti st D ys H8 du q0 q1 q2 q3 q4 s8 hDn hD ly rl => hv _ _ fun T hT => ?_⟩
            have sT := same_new (o := .tup [.ref D, .non]) hT
            subst q4
            exact ⟨k7.trans (KpF.same (s8.trans sT)), bag_same (s8.trans sT) B7, t7.ext (s8.trans sT), _, _, upd_same, .inr ⟨du, rfl, z, si, ev, st, D, ys, q0, q1, q2, q3, rfl, (B7.ne hDn).1, sT _ _ hD, ly, rl.kp (KpF.same sT)⟩⟩
          have eP7 : H7 P = some (.lst [x0, x1, x2, x3]) := k7 _ _ Pg (fun ps z => by cases z) hP5
          refine ⟨_, rfl, rfl, _, rfl, ?_⟩
          show if _ then _ else _
          split
          · exact ⟨_, rfl, _, _, _, _, rfl, rfl, SqL.of eP7, rfl, _, rfl, _, _, _, _, rfl, rfl, SqL.of eP7, rfl, _, rfl, _, _, _, _, rfl, rfl, SqL.of eP7, rfl, _, rfl, _, _, _, _, rfl, rfl, SqL.of eP7, rfl, core⟩
          · exact ⟨_, rfl, _, _, _, _, rfl, rfl, SqL.of eP7, rfl, _, rfl, _, _, _, _, rfl, rfl, SqL.of eP7, rfl, _, rfl, _, _, _, _, rfl, rfl, SqL.of eP7, rfl, _, rfl, _, _, _, _, rfl, rfl, SqL.of eP7, rfl, core⟩
      · rintro T H6 ⟨k6, B6, t6, tv, fv, eT, cs⟩
        have eP6 : H6 P = some (.lst [x0, x1, x2, x3]) := k6 _ _ Pg (fun ps z => by cases z) hP5
        have k36 := k35.trans k6
        refine ⟨T, _, rfl, SqT.of eT, rfl, _, _, rfl, _, _, rfl, rfl, ?_⟩
        refine ⟨fun σ H' => ∃ (v2 v3 v4 v5 v6 v7 : Option V), σ = [some (.ref sc), some (.ref g), v2, v3, v4, v5, v6, v7] ∧ Bag l H' g ∧ LamX.Tabs Tb H', ?_, ?_⟩
        · refine ⟨_, rfl, rfl, _, rfl, ?_⟩
          rcases hdv with ⟨nm, w, D, du, rfl, Dn, eD⟩ | ⟨du, rfl⟩
          · rcases cs with ⟨nm2, w2, D2, du2, rfl, rfl, eD2⟩ | ⟨du2, _⟩
            · rw [du] at du2
              cases du2
              refine iteT ⟨_, rfl, rfl, _, rfl, iteF ?_⟩
              have Dg : D ≠ g := (r3.bag.ne Dn).1
              have eD6 : H6 D = some (.lst [.str nm, w]) := k6 _ _ Dg (fun ps z => by cases z) (r5.at_ eD Dg)
              have ow : Ov (fun b => b = g) H6 2 w := by
                rcases (due_mem du).2 with rfl | rfl | rfl | rfl
                · exact o0.kp k36
                · exact o1.kp k36
                · exact o2.kp k36
                · exact o3.kp k36
              refine ⟨_, rfl, _, rfl, V.ref D2, V.ref D, 3, rfl, by decide, .inr (.inr ⟨true, D2, D, _, _, rfl, rfl, eD2, eD6, rfl, (by show 2 ≤ 1000000; decide), fun j u v a1 a2 => ?_⟩), fun H8 s8 => ⟨_, rfl, ite_nb (fun h => Bool.noConfusion h) (fun _ => ⟨_, _, _, _, _, _, rfl, bag_same s8 B6, t6.ext s8⟩)⟩⟩
              rw [a1] at a2
              cases a2
              match j, a1 with
              | 0, a1 => cases a1; exact Lq.sc (by exact True.intro) 2
              | 1, a1 => cases a1; exact ow.lq
            · rw [du] at du2
              cases du2
          · rcases cs with ⟨nm2, w2, D2, du2, _⟩ | ⟨_, rfl, z, si, ev, st, D, ys, rfl, rfl, rfl, rfl, rfl, Dg, eD, ly, rl⟩
            · rw [du] at du2
              cases du2
            obtain ⟨hz, hs, he, ht, hk⟩ := due_ok du
            obtain ⟨_, q, s0, s1⟩ := num_int hs
            cases q
            obtain ⟨_, q, e0, e1⟩ := num_int he
            cases q
            obtain ⟨_, q, t0, t9⟩ := num_int ht
            cases q
            have hk' : (decide (si + (st : Int) - 1 ≤ 1000) && decide (ev * (st : Int) ≤ 1000)) = true := hk
            rw [Bool.and_eq_true] at hk'
            have k1 := of_decide_eq_true hk'.1
            have k2 := of_decide_eq_true hk'.2
            refine iteF ⟨_, rfl, rfl, _, rfl, iteF ?_⟩
            refine ⟨_, rfl, _, rfl, (fun b => b = g), P, D, z, si, ev, st, ys, rfl, eP6, eD, ly, rl, hz, s0, k1, e0, k2, by omega, fun H8 s8 => ⟨_, rfl, ite_nb (fun h => Bool.noConfusion h) (fun _ => ?_)⟩⟩
            refine ⟨_, rfl, _, _, _, _, rfl, rfl, SqL.of (s8 _ _ eP6), rfl, _, _, rfl, rfl, _, rfl, ite_d (fun c => ?_) (fun c => ⟨_, _, _, _, _, _, rfl, bag_same s8 B6, t6.ext s8⟩)⟩
            refine ⟨_, rfl, _, rfl, _, rfl, (fun b => b = g), g, l, P, D, z, si, ev, st, ys, rfl, bag_same s8 B6, rfl, Pg, Dg, s8 _ _ eP6, s8 _ _ eD, ly, rl.kp (KpF.same s8), s0, s1, e0, k2, by omega, by omega, fun H9 r9 => ⟨_, rfl, ite_nb (fun h => Bool.noConfusion h) (fun _ => ⟨_, _, _, _, _, _, rfl, r9.bag, tabs_ok r9 (t6.ext s8)⟩)⟩⟩
        · rintro σ H7 ⟨w2, w3, w4, w5, w6, w7, rfl, B7, t7⟩
          exact ⟨_, rfl, g, l, rfl, B7, t7, fun H8 B8 t8 => ⟨_, rfl, ite_nb (fun h => Bool.noConfusion h) (fun _ => ⟨_, _, _, _, _, _, rfl, B8, t8⟩)⟩⟩
    · rintro σ H2 ⟨v2, v3, v4, v5, v6, v7, rfl, B2, t2⟩
      exact k H2
end k10
namespace k10
open PySem L2 LC RM

theorem all_mk {l : PySem.W.OpenLaw} {w : World} {K : PySem.W.Frag} {h : Heap} {mg : Str → Option Value} {fa : Addr} (X : K.In h) (G : h.Ns mainGlobals mg) (hfa : mg "law" = some (.ref fa))
    {fcheck_count : Addr} {odcheck_count ancheck_count : Option Addr} {slcheck_count : Array (Option Value)} {occheck_count kVcheck_count dccheck_count pmcheck_count cdcheck_count ctcheck_count : Value}
    (acheck_count : PySem.W.nsIn K mainGlobals "check_count" = some (some (.ref fcheck_count)))
    (lcheck_count : K.lookup fcheck_count = some ⟨occheck_count, odcheck_count, .func (PySem.W.fnOf "check_count" "check_count" (defArgs scheck_count) (defBody scheck_count) (defScope scheck_count) .none kVcheck_count dccheck_count pmcheck_count ancheck_count cdcheck_count ctcheck_count), slcheck_count⟩)
    (ccheck_count : PySem.W.codeIn K cdcheck_count "check_count" = true)
    (kcheck_count : PySem.W.keepIn K (.ref fcheck_count) = true)
    {fis_whole : Addr} {odis_whole anis_whole : Option Addr} {slis_whole : Array (Option Value)} {ocis_whole kVis_whole dcis_whole pmis_whole cdis_whole ctis_whole : Value}
    (ais_whole : PySem.W.nsIn K mainGlobals "is_whole" = some (some (.ref fis_whole)))
    (lis_whole : K.lookup fis_whole = some ⟨ocis_whole, odis_whole, .func (PySem.W.fnOf "is_whole" "is_whole" (defArgs sis_whole) (defBody sis_whole) (defScope sis_whole) .none kVis_whole dcis_whole pmis_whole anis_whole cdis_whole ctis_whole), slis_whole⟩)
    (cis_whole : PySem.W.codeIn K cdis_whole "is_whole" = true)
    (kis_whole : PySem.W.keepIn K (.ref fis_whole) = true)
    {fis_number : Addr} {odis_number anis_number : Option Addr} {slis_number : Array (Option Value)} {ocis_number kVis_number dcis_number pmis_number cdis_number ctis_number : Value}
    (ais_number : PySem.W.nsIn K mainGlobals "is_number" = some (some (.ref fis_number)))
    (lis_number : K.lookup fis_number = some ⟨ocis_number, odis_number, .func (PySem.W.fnOf "is_number" "is_number" (defArgs sis_number) (defBody sis_number) (defScope sis_number) .none kVis_number dcis_number pmis_number anis_number cdis_number ctis_number), slis_number⟩)
    (cis_number : PySem.W.codeIn K cdis_number "is_number" = true)
    (kis_number : PySem.W.keepIn K (.ref fis_number) = true)
    {fis_name : Addr} {odis_name anis_name : Option Addr} {slis_name : Array (Option Value)} {ocis_name kVis_name dcis_name pmis_name cdis_name ctis_name : Value}
    (ais_name : PySem.W.nsIn K mainGlobals "is_name" = some (some (.ref fis_name)))
    (lis_name : K.lookup fis_name = some ⟨ocis_name, odis_name, .func (PySem.W.fnOf "is_name" "is_name" (defArgs sis_name) (defBody sis_name) (defScope sis_name) .none kVis_name dcis_name pmis_name anis_name cdis_name ctis_name), slis_name⟩)
    (cis_name : PySem.W.codeIn K cdis_name "is_name" = true)
    (kis_name : PySem.W.keepIn K (.ref fis_name) = true)
    {fcheck_borders : Addr} {odcheck_borders ancheck_borders : Option Addr} {slcheck_borders : Array (Option Value)} {occheck_borders kVcheck_borders dccheck_borders pmcheck_borders cdcheck_borders ctcheck_borders : Value}
    (acheck_borders : PySem.W.nsIn K mainGlobals "check_borders" = some (some (.ref fcheck_borders)))
    (lcheck_borders : K.lookup fcheck_borders = some ⟨occheck_borders, odcheck_borders, .func (PySem.W.fnOf "check_borders" "check_borders" (defArgs scheck_borders) (defBody scheck_borders) (defScope scheck_borders) .none kVcheck_borders dccheck_borders pmcheck_borders ancheck_borders cdcheck_borders ctcheck_borders), slcheck_borders⟩)
    (ccheck_borders : PySem.W.codeIn K cdcheck_borders "check_borders" = true)
    (kcheck_borders : PySem.W.keepIn K (.ref fcheck_borders) = true)
    {ffullest : Addr} {odfullest anfullest : Option Addr} {slfullest : Array (Option Value)} {ocfullest kVfullest dcfullest pmfullest cdfullest ctfullest : Value}
    (afullest : PySem.W.nsIn K mainGlobals "fullest" = some (some (.ref ffullest)))
    (lfullest : K.lookup ffullest = some ⟨ocfullest, odfullest, .func (PySem.W.fnOf "fullest" "fullest" (defArgs sfullest) (defBody sfullest) (defScope sfullest) .none kVfullest dcfullest pmfullest anfullest cdfullest ctfullest), slfullest⟩)
    (cfullest : PySem.W.codeIn K cdfullest "fullest" = true)
    (kfullest : PySem.W.keepIn K (.ref ffullest) = true)
    {fis_within : Addr} {odis_within anis_within : Option Addr} {slis_within : Array (Option Value)} {ocis_within kVis_within dcis_within pmis_within cdis_within ctis_within : Value}
    (ais_within : PySem.W.nsIn K mainGlobals "is_within" = some (some (.ref fis_within)))
    (lis_within : K.lookup fis_within = some ⟨ocis_within, odis_within, .func (PySem.W.fnOf "is_within" "is_within" (defArgs sis_within) (defBody sis_within) (defScope sis_within) .none kVis_within dcis_within pmis_within anis_within cdis_within ctis_within), slis_within⟩)
    (cis_within : PySem.W.codeIn K cdis_within "is_within" = true)
    (kis_within : PySem.W.keepIn K (.ref fis_within) = true)
    {fladder : Addr} {odladder anladder : Option Addr} {slladder : Array (Option Value)} {ocladder kVladder dcladder pmladder cdladder ctladder : Value}
    (aladder : PySem.W.nsIn K mainGlobals "ladder" = some (some (.ref fladder)))
    (lladder : K.lookup fladder = some ⟨ocladder, odladder, .func (PySem.W.fnOf "ladder" "ladder" (defArgs sladder) (defBody sladder) (defScope sladder) .none kVladder dcladder pmladder anladder cdladder ctladder), slladder⟩)
    (cladder : PySem.W.codeIn K cdladder "ladder" = true)
    (kladder : PySem.W.keepIn K (.ref fladder) = true)
    {fbag : Addr} {odbag anbag : Option Addr} {slbag : Array (Option Value)} {ocbag kVbag dcbag pmbag cdbag ctbag : Value}
    (abag : PySem.W.nsIn K mainGlobals "_law_bag" = some (some (.ref fbag)))
    (lbag : K.lookup fbag = some ⟨ocbag, odbag, .func (PySem.W.fnOf "_law_bag" "_law_bag" (defArgs sbag) (defBody sbag) (defScope sbag) .none kVbag dcbag pmbag anbag cdbag ctbag), slbag⟩)
    (cbag : PySem.W.codeIn K cdbag "_law_bag" = true)
    (kbag : PySem.W.keepIn K (.ref fbag) = true)
    {fdraw : Addr} {oddraw andraw : Option Addr} {sldraw : Array (Option Value)} {ocdraw kVdraw dcdraw pmdraw cddraw ctdraw : Value}
    (adraw : PySem.W.nsIn K mainGlobals "_law_draw" = some (some (.ref fdraw)))
    (ldraw : K.lookup fdraw = some ⟨ocdraw, oddraw, .func (PySem.W.fnOf "_law_draw" "_law_draw" (defArgs sdraw) (defBody sdraw) (defScope sdraw) .none kVdraw dcdraw pmdraw andraw cddraw ctdraw), sldraw⟩)
    (cdraw : PySem.W.codeIn K cddraw "_law_draw" = true)
    (kdraw : PySem.W.keepIn K (.ref fdraw) = true)
    {fof : Addr} {odof anof : Option Addr} {slof : Array (Option Value)} {ocof kVof dcof pmof cdof ctof : Value}
    (aof : PySem.W.nsIn K mainGlobals "_law_of" = some (some (.ref fof)))
    (lof : K.lookup fof = some ⟨ocof, odof, .func (PySem.W.fnOf "_law_of" "_law_of" (defArgs sof) (defBody sof) (defScope sof) .none kVof dcof pmof anof cdof ctof), slof⟩)
    (cof : PySem.W.codeIn K cdof "_law_of" = true)
    (kof : PySem.W.keepIn K (.ref fof) = true)
    {flike : Addr} {odlike anlike : Option Addr} {sllike : Array (Option Value)} {oclike kVlike dclike pmlike cdlike ctlike : Value}
    (alike : PySem.W.nsIn K mainGlobals "_law_like" = some (some (.ref flike)))
    (llike : K.lookup flike = some ⟨oclike, odlike, .func (PySem.W.fnOf "_law_like" "_law_like" (defArgs slike) (defBody slike) (defScope slike) .none kVlike dclike pmlike anlike cdlike ctlike), sllike⟩)
    (clike : PySem.W.codeIn K cdlike "_law_like" = true)
    (klike : PySem.W.keepIn K (.ref flike) = true)
    {fodd : Addr} {ododd anodd : Option Addr} {slodd : Array (Option Value)} {ocodd kVodd dcodd pmodd cdodd ctodd : Value}
    (aodd : PySem.W.nsIn K mainGlobals "_law_odd" = some (some (.ref fodd)))
    (lodd : K.lookup fodd = some ⟨ocodd, ododd, .func (PySem.W.fnOf "_law_odd" "_law_odd" (defArgs sodd) (defBody sodd) (defScope sodd) .none kVodd dcodd pmodd anodd cdodd ctodd), slodd⟩)
    (codd : PySem.W.codeIn K cdodd "_law_odd" = true)
    (kodd : PySem.W.keepIn K (.ref fodd) = true)
    {fin : Addr} {odin anin : Option Addr} {slin : Array (Option Value)} {ocin kVin dcin pmin cdin ctin : Value}
    (ain : PySem.W.nsIn K mainGlobals "_law_in" = some (some (.ref fin)))
    (lin : K.lookup fin = some ⟨ocin, odin, .func (PySem.W.fnOf "_law_in" "_law_in" (defArgs sin) (defBody sin) (defScope sin) .none kVin dcin pmin anin cdin ctin), slin⟩)
    (cin : PySem.W.codeIn K cdin "_law_in" = true)
    (kin : PySem.W.keepIn K (.ref fin) = true)
    {fnamed : Addr} {odnamed annamed : Option Addr} {slnamed : Array (Option Value)} {ocnamed kVnamed dcnamed pmnamed cdnamed ctnamed : Value}
    (anamed : PySem.W.nsIn K mainGlobals "_law_named" = some (some (.ref fnamed)))
    (lnamed : K.lookup fnamed = some ⟨ocnamed, odnamed, .func (PySem.W.fnOf "_law_named" "_law_named" (defArgs snamed) (defBody snamed) (defScope snamed) .none kVnamed dcnamed pmnamed annamed cdnamed ctnamed), slnamed⟩)
    (cnamed : PySem.W.codeIn K cdnamed "_law_named" = true)
    (knamed : PySem.W.keepIn K (.ref fnamed) = true)
    {fwrong : Addr} {odwrong anwrong : Option Addr} {slwrong : Array (Option Value)} {ocwrong kVwrong dcwrong pmwrong cdwrong ctwrong : Value}
    (awrong : PySem.W.nsIn K mainGlobals "_law_wrong" = some (some (.ref fwrong)))
    (lwrong : K.lookup fwrong = some ⟨ocwrong, odwrong, .func (PySem.W.fnOf "_law_wrong" "_law_wrong" (defArgs swrong) (defBody swrong) (defScope swrong) .none kVwrong dcwrong pmwrong anwrong cdwrong ctwrong), slwrong⟩)
    (cwrong : PySem.W.codeIn K cdwrong "_law_wrong" = true)
    (kwrong : PySem.W.keepIn K (.ref fwrong) = true)
    {fgiven : Addr} {odgiven angiven : Option Addr} {slgiven : Array (Option Value)} {ocgiven kVgiven dcgiven pmgiven cdgiven ctgiven : Value}
    (agiven : PySem.W.nsIn K mainGlobals "_law_given" = some (some (.ref fgiven)))
    (lgiven : K.lookup fgiven = some ⟨ocgiven, odgiven, .func (PySem.W.fnOf "_law_given" "_law_given" (defArgs sgiven) (defBody sgiven) (defScope sgiven) .none kVgiven dcgiven pmgiven angiven cdgiven ctgiven), slgiven⟩)
    (cgiven : PySem.W.codeIn K cdgiven "_law_given" = true)
    (kgiven : PySem.W.keepIn K (.ref fgiven) = true)
    {fladder_due : Addr} {odladder_due anladder_due : Option Addr} {slladder_due : Array (Option Value)} {ocladder_due kVladder_due dcladder_due pmladder_due cdladder_due ctladder_due : Value}
    (aladder_due : PySem.W.nsIn K mainGlobals "_law_ladder_due" = some (some (.ref fladder_due)))
    (lladder_due : K.lookup fladder_due = some ⟨ocladder_due, odladder_due, .func (PySem.W.fnOf "_law_ladder_due" "_law_ladder_due" (defArgs sladder_due) (defBody sladder_due) (defScope sladder_due) .none kVladder_due dcladder_due pmladder_due anladder_due cdladder_due ctladder_due), slladder_due⟩)
    (cladder_due : PySem.W.codeIn K cdladder_due "_law_ladder_due" = true)
    (kladder_due : PySem.W.keepIn K (.ref fladder_due) = true)
    {frules_so : Addr} {odrules_so anrules_so : Option Addr} {slrules_so : Array (Option Value)} {ocrules_so kVrules_so dcrules_so pmrules_so cdrules_so ctrules_so : Value}
    (arules_so : PySem.W.nsIn K mainGlobals "_law_rules_so" = some (some (.ref frules_so)))
    (lrules_so : K.lookup frules_so = some ⟨ocrules_so, odrules_so, .func (PySem.W.fnOf "_law_rules_so" "_law_rules_so" (defArgs srules_so) (defBody srules_so) (defScope srules_so) .none kVrules_so dcrules_so pmrules_so anrules_so cdrules_so ctrules_so), slrules_so⟩)
    (crules_so : PySem.W.codeIn K cdrules_so "_law_rules_so" = true)
    (krules_so : PySem.W.keepIn K (.ref frules_so) = true)
    {flet : Addr} {odlet anlet : Option Addr} {sllet : Array (Option Value)} {oclet kVlet dclet pmlet cdlet ctlet : Value}
    (alet : PySem.W.nsIn K mainGlobals "_law_let" = some (some (.ref flet)))
    (llet : K.lookup flet = some ⟨oclet, odlet, .func (PySem.W.fnOf "_law_let" "_law_let" (defArgs slet) (defBody slet) (defScope slet) .none kVlet dclet pmlet anlet cdlet ctlet), sllet⟩)
    (clet : PySem.W.codeIn K cdlet "_law_let" = true)
    (klet : PySem.W.keepIn K (.ref flet) = true)
    {fasked_so : Addr} {odasked_so anasked_so : Option Addr} {slasked_so : Array (Option Value)} {ocasked_so kVasked_so dcasked_so pmasked_so cdasked_so ctasked_so : Value}
    (aasked_so : PySem.W.nsIn K mainGlobals "_law_asked_so" = some (some (.ref fasked_so)))
    (lasked_so : K.lookup fasked_so = some ⟨ocasked_so, odasked_so, .func (PySem.W.fnOf "_law_asked_so" "_law_asked_so" (defArgs sasked_so) (defBody sasked_so) (defScope sasked_so) .none kVasked_so dcasked_so pmasked_so anasked_so cdasked_so ctasked_so), slasked_so⟩)
    (casked_so : PySem.W.codeIn K cdasked_so "_law_asked_so" = true)
    (kasked_so : PySem.W.keepIn K (.ref fasked_so) = true)
    {fask : Addr} {odask anask : Option Addr} {slask : Array (Option Value)} {ocask kVask dcask pmask cdask ctask : Value}
    (aask : PySem.W.nsIn K mainGlobals "_law_ask" = some (some (.ref fask)))
    (lask : K.lookup fask = some ⟨ocask, odask, .func (PySem.W.fnOf "_law_ask" "_law_ask" (defArgs sask) (defBody sask) (defScope sask) .none kVask dcask pmask anask cdask ctask), slask⟩)
    (cask : PySem.W.codeIn K cdask "_law_ask" = true)
    (kask : PySem.W.keepIn K (.ref fask) = true)
    {fone_rule_so coone_rule_so ptone_rule_so : Addr} {odone_rule_so anone_rule_so odcone_rule_so : Option Addr} {slone_rule_so slcone_rule_so : Array (Option Value)} {ocone_rule_so kVone_rule_so dcone_rule_so pmone_rule_so ctone_rule_so : Value} {vsone_rule_so : Array Value}
    (aone_rule_so : PySem.W.nsIn K mainGlobals "_law_one_rule_so" = some (some (.ref fone_rule_so)))
    (lone_rule_so : K.lookup fone_rule_so = some ⟨ocone_rule_so, odone_rule_so, .func (PySem.W.fnOf "_law_one_rule_so" "_law_one_rule_so" (defArgs sone_rule_so) (defBody sone_rule_so) (defScope sone_rule_so) .none kVone_rule_so dcone_rule_so pmone_rule_so anone_rule_so (.ref coone_rule_so) ctone_rule_so), slone_rule_so⟩)
    (cone_rule_so : PySem.W.codeIn K (.ref coone_rule_so) "_law_one_rule_so" = true)
    (kone_rule_so : PySem.W.keepIn K (.ref fone_rule_so) = true)
    (lcone_rule_so : K.lookup coone_rule_so = some ⟨.type "code", odcone_rule_so, .fields vsone_rule_so, slcone_rule_so⟩)
    (vpone_rule_so : vsone_rule_so[11]? = some (.ref ptone_rule_so))
    (hdone_rule_so : LE2.hdB vsone_rule_so coone_rule_so ptone_rule_so = true)
    (npone_rule_so : K.lookup ptone_rule_so = none)
    {flaw colaw ptlaw : Addr} {odlaw anlaw odclaw : Option Addr} {sllaw slclaw : Array (Option Value)} {oclaw kVlaw dclaw pmlaw ctlaw : Value} {vslaw : Array Value}
    (alaw : PySem.W.nsIn K mainGlobals "law" = some (some (.ref flaw)))
    (llaw : K.lookup flaw = some ⟨oclaw, odlaw, .func (PySem.W.fnOf "law" "law" (defArgs slaw) (defBody slaw) (defScope slaw) .none kVlaw dclaw pmlaw anlaw (.ref colaw) ctlaw), sllaw⟩)
    (claw : PySem.W.codeIn K (.ref colaw) "law" = true)
    (klaw : PySem.W.keepIn K (.ref flaw) = true)
    (lclaw : K.lookup colaw = some ⟨.type "code", odclaw, .fields vslaw, slclaw⟩)
    (vplaw : vslaw[11]? = some (.ref ptlaw))
    (hdlaw : LE2.hdB vslaw colaw ptlaw = true)
    (nplaw : K.lookup ptlaw = none)
    (zall : PySem.W.nsIn K mainGlobals "all" = some none)
    (zbool : PySem.W.nsIn K mainGlobals "bool" = some none)
    (zdict : PySem.W.nsIn K mainGlobals "dict" = some none)
    (zenumerate : PySem.W.nsIn K mainGlobals "enumerate" = some none)
    (zint : PySem.W.nsIn K mainGlobals "int" = some none)
    (zisinstance : PySem.W.nsIn K mainGlobals "isinstance" = some none)
    (zlen : PySem.W.nsIn K mainGlobals "len" = some none)
    (zlist : PySem.W.nsIn K mainGlobals "list" = some none)
    (zmax : PySem.W.nsIn K mainGlobals "max" = some none)
    (zmin : PySem.W.nsIn K mainGlobals "min" = some none)
    (zrange : PySem.W.nsIn K mainGlobals "range" = some none)
    (zsorted : PySem.W.nsIn K mainGlobals "sorted" = some none)
    (zstr : PySem.W.nsIn K mainGlobals "str" = some none)
    (zsum : PySem.W.nsIn K mainGlobals "sum" = some none)
    (zsuper : PySem.W.nsIn K mainGlobals "super" = some none)
    (ztuple : PySem.W.nsIn K mainGlobals "tuple" = some none)
    (zzip : PySem.W.nsIn K mainGlobals "zip" = some none)
    {tkDIGITS : Tok} (yDIGITS : PySem.W.nsIn K mainGlobals "DIGITS" = some (some (.str "0123456789" tkDIGITS)))
    {tkLETTERS : Tok} (yLETTERS : PySem.W.nsIn K mainGlobals "LETTERS" = some (some (.str "abcdefghijklmnopqrstuvwxyz" tkLETTERS)))
    {tkMOST_BORDERS : Tok} (yMOST_BORDERS : PySem.W.nsIn K mainGlobals "MOST_BORDERS" = some (some (.int 12 tkMOST_BORDERS)))
    {tkMOST_PERIOD : Tok} (yMOST_PERIOD : PySem.W.nsIn K mainGlobals "MOST_PERIOD" = some (some (.int 2000 tkMOST_PERIOD)))
    {tkMOST_SIZE : Tok} (yMOST_SIZE : PySem.W.nsIn K mainGlobals "MOST_SIZE" = some (some (.int 1000 tkMOST_SIZE)))
    {tkMOST_STEPS : Tok} (yMOST_STEPS : PySem.W.nsIn K mainGlobals "MOST_STEPS" = some (some (.int 9 tkMOST_STEPS)))
        {aR fRi fB fW fS fE : Addr}
    (aRest : PySem.W.nsIn K mainGlobals "Rest" = some (some (.ref aR)))
    {ocxR : Value} {odxR : Option Addr} {cdxR : ClassData} {slxR : Array (Option Value)}
    (xRest : K.lookup aR = some ⟨ocxR, odxR, .cls cdxR, slxR⟩)
    (tyR : PySem.W.typeIn K (.ref aR) = some (.type "type"))
    (clR : PySem.W.isClsIn K aR = true)
    (ffRi : PySem.W.findIn K (.ref aR) "__init__" = some (some (.ref fRi)))
    {odRest_init anRest_init : Option Addr} {slRest_init : Array (Option Value)} {ocRest_init kVRest_init dcRest_init pmRest_init cdRest_init ctRest_init : Value}
    (lRest_init : K.lookup fRi = some ⟨ocRest_init, odRest_init, .func (PySem.W.fnOf "__init__" "Rest.__init__" (defArgs sRest_init) (defBody sRest_init) (defScope sRest_init) .none kVRest_init dcRest_init pmRest_init anRest_init cdRest_init ctRest_init), slRest_init⟩)
    (cRest_init : PySem.W.codeIn K cdRest_init "Rest.__init__" = true)
    (kRest_init : PySem.W.keepIn K (.ref fRi) = true)
    (iRest_init : PySem.W.isFn K (.ref fRi) = true)
    (ffB : PySem.W.findIn K (.ref aR) "bend" = some (some (.ref fB)))
    {odRest_bend anRest_bend : Option Addr} {slRest_bend : Array (Option Value)} {ocRest_bend kVRest_bend dcRest_bend pmRest_bend cdRest_bend ctRest_bend : Value}
    (lRest_bend : K.lookup fB = some ⟨ocRest_bend, odRest_bend, .func (PySem.W.fnOf "bend" "Rest.bend" (defArgs sRest_bend) (defBody sRest_bend) (defScope sRest_bend) .none kVRest_bend dcRest_bend pmRest_bend anRest_bend cdRest_bend ctRest_bend), slRest_bend⟩)
    (cRest_bend : PySem.W.codeIn K cdRest_bend "Rest.bend" = true)
    (kRest_bend : PySem.W.keepIn K (.ref fB) = true)
    (iRest_bend : PySem.W.isFn K (.ref fB) = true)
    (ffW : PySem.W.findIn K (.ref aR) "written" = some (some (.ref fW)))
    {odRest_written anRest_written : Option Addr} {slRest_written : Array (Option Value)} {ocRest_written kVRest_written dcRest_written pmRest_written cdRest_written ctRest_written : Value}
    (lRest_written : K.lookup fW = some ⟨ocRest_written, odRest_written, .func (PySem.W.fnOf "written" "Rest.written" (defArgs sRest_written) (defBody sRest_written) (defScope sRest_written) .none kVRest_written dcRest_written pmRest_written anRest_written cdRest_written ctRest_written), slRest_written⟩)
    (cRest_written : PySem.W.codeIn K cdRest_written "Rest.written" = true)
    (kRest_written : PySem.W.keepIn K (.ref fW) = true)
    (iRest_written : PySem.W.isFn K (.ref fW) = true)
    (ffS : PySem.W.findIn K (.ref aR) "__str__" = some (some (.ref fS)))
    {odRest_str anRest_str : Option Addr} {slRest_str : Array (Option Value)} {ocRest_str kVRest_str dcRest_str pmRest_str cdRest_str ctRest_str : Value}
    (lRest_str : K.lookup fS = some ⟨ocRest_str, odRest_str, .func (PySem.W.fnOf "__str__" "Rest.__str__" (defArgs sRest_str) (defBody sRest_str) (defScope sRest_str) .none kVRest_str dcRest_str pmRest_str anRest_str cdRest_str ctRest_str), slRest_str⟩)
    (cRest_str : PySem.W.codeIn K cdRest_str "Rest.__str__" = true)
    (kRest_str : PySem.W.keepIn K (.ref fS) = true)
    (iRest_str : PySem.W.isFn K (.ref fS) = true)
    (ffE : PySem.W.findIn K (.ref aR) "__eq__" = some (some (.ref fE)))
    {odRest_eq anRest_eq : Option Addr} {slRest_eq : Array (Option Value)} {ocRest_eq kVRest_eq dcRest_eq pmRest_eq cdRest_eq ctRest_eq : Value}
    (lRest_eq : K.lookup fE = some ⟨ocRest_eq, odRest_eq, .func (PySem.W.fnOf "__eq__" "Rest.__eq__" (defArgs sRest_eq) (defBody sRest_eq) (defScope sRest_eq) .none kVRest_eq dcRest_eq pmRest_eq anRest_eq cdRest_eq ctRest_eq), slRest_eq⟩)
    (cRest_eq : PySem.W.codeIn K cdRest_eq "Rest.__eq__" = true)
    (kRest_eq : PySem.W.keepIn K (.ref fE) = true)
    (iRest_eq : PySem.W.isFn K (.ref fE) = true)
    (tyfR : PySem.W.typeIn K (.ref fRi) = some (.type "function"))
    (fiR : PySem.W.fnIn K fRi = true)
    (opq : PySem.W.nsIn K cStatics "thirdparty.any" = some none)
    (tp : (l.prog.main.scope.names.lookup ("super" : Str)).isSome = false)
    {aWindow fWindow_init fWindow_call : Addr}
    (a_Window : PySem.W.nsIn K mainGlobals "Window" = some (some (.ref aWindow)))
    (tyWindow : PySem.W.typeIn K (.ref aWindow) = some (.type "type"))
    (clWindow : PySem.W.isClsIn K aWindow = true)
    (pgWindow : PySem.W.plainGet K aWindow Str.empty = true)
    (hdWindow : PySem.W.hasDictIn K aWindow = true)
    (poWindow : PySem.W.plainOver K aWindow = true)
    (saWindow : PySem.W.findIn K (.ref aWindow) "__setattr__" = some (some (.builtin "object.__setattr__")))
    (mkWindow : PySem.W.makesIn K aWindow = true)
    (kpWindow : PySem.W.keepIn K (.ref aWindow) = true)
    (fiWindow : PySem.W.findIn K (.ref aWindow) "__init__" = some (some (.ref fWindow_init)))
    {cWindow_init ccWindow_init : Addr} {odfWindow_init odcWindow_init odlWindow_init : Option Addr} {slfWindow_init slcWindow_init sllWindow_init : Array (Option Value)} {ocfWindow_init occWindow_init oclWindow_init dcWindow_init pmWindow_init ctWindow_init : Value} {vsWindow_init : Array Value} {flWindow_init : Str} {tkWindow_init : Tok}
    (lWindow_init : K.lookup fWindow_init = some ⟨ocfWindow_init, odfWindow_init, .func ((FWindow_init ccWindow_init cWindow_init).fd dcWindow_init pmWindow_init ctWindow_init), slfWindow_init⟩)
    (lcWindow_init : K.lookup cWindow_init = some ⟨occWindow_init, odcWindow_init, .fields vsWindow_init, slcWindow_init⟩)
    (vfWindow_init : vsWindow_init[2]? = some (.str flWindow_init tkWindow_init))
    (ffWindow_init : ((l.prog.main.file : Str) == flWindow_init) = true)
    (llWindow_init : K.lookup ccWindow_init = some ⟨oclWindow_init, odlWindow_init, .cell (some (.ref aWindow)), sllWindow_init⟩)
    (cdWindow_init : PySem.W.codeIn K (.ref cWindow_init) "Window.__init__" = true)
    (isfWindow_init : PySem.W.isFn K (.ref fWindow_init) = true)
    {ocxWindow : Value} {odxWindow : Option Addr} {cdxWindow : ClassData} {slxWindow : Array (Option Value)}
    (xWindow : K.lookup aWindow = some ⟨ocxWindow, odxWindow, .cls cdxWindow, slxWindow⟩)
    (mrWindow : PySem.W.mroIn K aWindow (.ref aWindow) = some true)
    (moWindow : (cdxWindow.mro.dropWhile (· != .ref aWindow)).drop 1 = cdxR.mro)
    (nWindow_text : PySem.W.findIn K (.ref aWindow) "_text" = some none)
    (nWindow_forms : PySem.W.findIn K (.ref aWindow) "_forms" = some none)
    (nWindow_period : PySem.W.findIn K (.ref aWindow) "_period" = some none)
    (nWindow_bend : PySem.W.findIn K (.ref aWindow) "_bend" = some none)
    (nWindowwidth : PySem.W.findIn K (.ref aWindow) "width" = some none)
    (mWindowbend : PySem.W.findIn K (.ref aWindow) "bend" = some (some (.ref fB)))
    (mWindowwritten : PySem.W.findIn K (.ref aWindow) "written" = some (some (.ref fW)))
    (mWindowstr : PySem.W.findIn K (.ref aWindow) "__str__" = some (some (.ref fS)))
    (mWindoweq : PySem.W.findIn K (.ref aWindow) "__eq__" = some (some (.ref fE)))
    (mfWindow : PySem.W.findIn K (.ref aWindow) "__format__" = some (some (.builtin "object.__format__")))
    (fcWindow : PySem.W.findIn K (.ref aWindow) "__call__" = some (some (.ref fWindow_call)))
    {odWindow_call anWindow_call : Option Addr} {slWindow_call : Array (Option Value)} {ocWindow_call kVWindow_call dcWindow_call pmWindow_call cdWindow_call ctWindow_call : Value}
    (lWindow_call : K.lookup fWindow_call = some ⟨ocWindow_call, odWindow_call, .func (PySem.W.fnOf "__call__" "Window.__call__" (defArgs sWindow_call) (defBody sWindow_call) (defScope sWindow_call) .none kVWindow_call dcWindow_call pmWindow_call anWindow_call cdWindow_call ctWindow_call), slWindow_call⟩)
    (cWindow_call : PySem.W.codeIn K cdWindow_call "Window.__call__" = true)
    (kWindow_call : PySem.W.keepIn K (.ref fWindow_call) = true)
    (iWindow_call : PySem.W.isFn K (.ref fWindow_call) = true)
    (fnWindow : PySem.W.fnIn K fWindow_call = true)
    (isWindow : PySem.W.subIn K (.ref aWindow) (.ref aR) = some true)
    (ssWindow : PySem.W.subIn K (.ref aWindow) (.ref aWindow) = some true)
    (haWindow : PySem.W.findIn K (.ref aWindow) "__class__" = some (some (.builtin "object.__class__")))
    (hmWindow : PySem.W.mroIn K aWindow (.type "object") = some true)
    {aDays fDays_init fDays_call : Addr}
    (a_Days : PySem.W.nsIn K mainGlobals "Days" = some (some (.ref aDays)))
    (tyDays : PySem.W.typeIn K (.ref aDays) = some (.type "type"))
    (clDays : PySem.W.isClsIn K aDays = true)
    (pgDays : PySem.W.plainGet K aDays Str.empty = true)
    (hdDays : PySem.W.hasDictIn K aDays = true)
    (poDays : PySem.W.plainOver K aDays = true)
    (saDays : PySem.W.findIn K (.ref aDays) "__setattr__" = some (some (.builtin "object.__setattr__")))
    (mkDays : PySem.W.makesIn K aDays = true)
    (kpDays : PySem.W.keepIn K (.ref aDays) = true)
    (fiDays : PySem.W.findIn K (.ref aDays) "__init__" = some (some (.ref fDays_init)))
    {cDays_init ccDays_init : Addr} {odfDays_init odcDays_init odlDays_init : Option Addr} {slfDays_init slcDays_init sllDays_init : Array (Option Value)} {ocfDays_init occDays_init oclDays_init dcDays_init pmDays_init ctDays_init : Value} {vsDays_init : Array Value} {flDays_init : Str} {tkDays_init : Tok}
    (lDays_init : K.lookup fDays_init = some ⟨ocfDays_init, odfDays_init, .func ((FDays_init ccDays_init cDays_init).fd dcDays_init pmDays_init ctDays_init), slfDays_init⟩)
    (lcDays_init : K.lookup cDays_init = some ⟨occDays_init, odcDays_init, .fields vsDays_init, slcDays_init⟩)
    (vfDays_init : vsDays_init[2]? = some (.str flDays_init tkDays_init))
    (ffDays_init : ((l.prog.main.file : Str) == flDays_init) = true)
    (llDays_init : K.lookup ccDays_init = some ⟨oclDays_init, odlDays_init, .cell (some (.ref aDays)), sllDays_init⟩)
    (cdDays_init : PySem.W.codeIn K (.ref cDays_init) "Days.__init__" = true)
    (isfDays_init : PySem.W.isFn K (.ref fDays_init) = true)
    {ocxDays : Value} {odxDays : Option Addr} {cdxDays : ClassData} {slxDays : Array (Option Value)}
    (xDays : K.lookup aDays = some ⟨ocxDays, odxDays, .cls cdxDays, slxDays⟩)
    (mrDays : PySem.W.mroIn K aDays (.ref aDays) = some true)
    (moDays : (cdxDays.mro.dropWhile (· != .ref aDays)).drop 1 = cdxR.mro)
    (nDays_text : PySem.W.findIn K (.ref aDays) "_text" = some none)
    (nDays_forms : PySem.W.findIn K (.ref aDays) "_forms" = some none)
    (nDays_period : PySem.W.findIn K (.ref aDays) "_period" = some none)
    (nDays_bend : PySem.W.findIn K (.ref aDays) "_bend" = some none)
    (nDays_borders : PySem.W.findIn K (.ref aDays) "_borders" = some none)
    (nDaysevery : PySem.W.findIn K (.ref aDays) "every" = some none)
    (mDaysbend : PySem.W.findIn K (.ref aDays) "bend" = some (some (.ref fB)))
    (mDayswritten : PySem.W.findIn K (.ref aDays) "written" = some (some (.ref fW)))
    (mDaysstr : PySem.W.findIn K (.ref aDays) "__str__" = some (some (.ref fS)))
    (mDayseq : PySem.W.findIn K (.ref aDays) "__eq__" = some (some (.ref fE)))
    (mfDays : PySem.W.findIn K (.ref aDays) "__format__" = some (some (.builtin "object.__format__")))
    (fcDays : PySem.W.findIn K (.ref aDays) "__call__" = some (some (.ref fDays_call)))
    {odDays_call anDays_call : Option Addr} {slDays_call : Array (Option Value)} {ocDays_call kVDays_call dcDays_call pmDays_call cdDays_call ctDays_call : Value}
    (lDays_call : K.lookup fDays_call = some ⟨ocDays_call, odDays_call, .func (PySem.W.fnOf "__call__" "Days.__call__" (defArgs sDays_call) (defBody sDays_call) (defScope sDays_call) .none kVDays_call dcDays_call pmDays_call anDays_call cdDays_call ctDays_call), slDays_call⟩)
    (cDays_call : PySem.W.codeIn K cdDays_call "Days.__call__" = true)
    (kDays_call : PySem.W.keepIn K (.ref fDays_call) = true)
    (iDays_call : PySem.W.isFn K (.ref fDays_call) = true)
    (fnDays : PySem.W.fnIn K fDays_call = true)
    (isDays : PySem.W.subIn K (.ref aDays) (.ref aR) = some true)
    (ssDays : PySem.W.subIn K (.ref aDays) (.ref aDays) = some true)
    (haDays : PySem.W.findIn K (.ref aDays) "__class__" = some (some (.builtin "object.__class__")))
    (hmDays : PySem.W.mroIn K aDays (.type "object") = some true)
    (sWD : PySem.W.subIn K (.ref aWindow) (.ref aDays) = some false)
    (sDW : PySem.W.subIn K (.ref aDays) (.ref aWindow) = some false)
    (sintR : PySem.W.subIn K (.type "int") (.ref aR) = some false)
    (sintW : PySem.W.subIn K (.type "int") (.ref aWindow) = some false)
    (sintD : PySem.W.subIn K (.type "int") (.ref aDays) = some false)
    (sboolR : PySem.W.subIn K (.type "bool") (.ref aR) = some false)
    (sboolW : PySem.W.subIn K (.type "bool") (.ref aWindow) = some false)
    (sboolD : PySem.W.subIn K (.type "bool") (.ref aDays) = some false)
    (sstrR : PySem.W.subIn K (.type "str") (.ref aR) = some false)
    (sstrW : PySem.W.subIn K (.type "str") (.ref aWindow) = some false)
    (sstrD : PySem.W.subIn K (.type "str") (.ref aDays) = some false)
    (sNoneTypeR : PySem.W.subIn K (.type "NoneType") (.ref aR) = some false)
    (sNoneTypeW : PySem.W.subIn K (.type "NoneType") (.ref aWindow) = some false)
    (sNoneTypeD : PySem.W.subIn K (.type "NoneType") (.ref aDays) = some false)
    (slistR : PySem.W.subIn K (.type "list") (.ref aR) = some false)
    (slistW : PySem.W.subIn K (.type "list") (.ref aWindow) = some false)
    (slistD : PySem.W.subIn K (.type "list") (.ref aDays) = some false)
    (stupleR : PySem.W.subIn K (.type "tuple") (.ref aR) = some false)
    (stupleW : PySem.W.subIn K (.type "tuple") (.ref aWindow) = some false)
    (stupleD : PySem.W.subIn K (.type "tuple") (.ref aDays) = some false)
    (sdictR : PySem.W.subIn K (.type "dict") (.ref aR) = some false)
    (sdictW : PySem.W.subIn K (.type "dict") (.ref aWindow) = some false)
    (sdictD : PySem.W.subIn K (.type "dict") (.ref aDays) = some false)
    (hn : PySem.W.specialIn K (.builtin "object.__class__") "__get__" = some (some (.builtin "getset_descriptor.__get__")))
    (ht : PySem.W.takesIn K (.builtin "object.__class__") = some true)
    {aRule fRule_init fRule_str fRule_eq : Addr}
    (aRuleG : PySem.W.nsIn K mainGlobals "Rule" = some (some (.ref aRule)))
    (tyRule : PySem.W.typeIn K (.ref aRule) = some (.type "type"))
    (clRule : PySem.W.isClsIn K aRule = true)
    (pgRule : PySem.W.plainGet K aRule Str.empty = true)
    (hdRule : PySem.W.hasDictIn K aRule = true)
    (poRule : PySem.W.plainOver K aRule = true)
    (saRule : PySem.W.findIn K (.ref aRule) "__setattr__" = some (some (.builtin "object.__setattr__")))
    (mkRule : PySem.W.makesIn K aRule = true)
    (kpRule : PySem.W.keepIn K (.ref aRule) = true)
    (fiRule : PySem.W.findIn K (.ref aRule) "__init__" = some (some (.ref fRule_init)))
    (nRulename : PySem.W.findIn K (.ref aRule) "name" = some none)
    (nRulechips : PySem.W.findIn K (.ref aRule) "chips" = some none)
    (nRulerest : PySem.W.findIn K (.ref aRule) "rest" = some none)
    {odRule_init anRule_init : Option Addr} {slRule_init : Array (Option Value)} {ocRule_init kVRule_init dcRule_init pmRule_init cdRule_init ctRule_init : Value}
    (lRule_init : K.lookup fRule_init = some ⟨ocRule_init, odRule_init, .func (PySem.W.fnOf "__init__" "Rule.__init__" (defArgs sRule_init) (defBody sRule_init) (defScope sRule_init) .none kVRule_init dcRule_init pmRule_init anRule_init cdRule_init ctRule_init), slRule_init⟩)
    (cRule_init : PySem.W.codeIn K cdRule_init "Rule.__init__" = true)
    (kRule_init : PySem.W.keepIn K (.ref fRule_init) = true)
    (iRule_init : PySem.W.isFn K (.ref fRule_init) = true)
    (mRulestr : PySem.W.findIn K (.ref aRule) "__str__" = some (some (.ref fRule_str)))
    {odRule_str anRule_str : Option Addr} {slRule_str : Array (Option Value)} {ocRule_str kVRule_str dcRule_str pmRule_str cdRule_str ctRule_str : Value}
    (lRule_str : K.lookup fRule_str = some ⟨ocRule_str, odRule_str, .func (PySem.W.fnOf "__str__" "Rule.__str__" (defArgs sRule_str) (defBody sRule_str) (defScope sRule_str) .none kVRule_str dcRule_str pmRule_str anRule_str cdRule_str ctRule_str), slRule_str⟩)
    (cRule_str : PySem.W.codeIn K cdRule_str "Rule.__str__" = true)
    (kRule_str : PySem.W.keepIn K (.ref fRule_str) = true)
    (iRule_str : PySem.W.isFn K (.ref fRule_str) = true)
    (mRuleeq : PySem.W.findIn K (.ref aRule) "__eq__" = some (some (.ref fRule_eq)))
    {odRule_eq anRule_eq : Option Addr} {slRule_eq : Array (Option Value)} {ocRule_eq kVRule_eq dcRule_eq pmRule_eq cdRule_eq ctRule_eq : Value}
    (lRule_eq : K.lookup fRule_eq = some ⟨ocRule_eq, odRule_eq, .func (PySem.W.fnOf "__eq__" "Rule.__eq__" (defArgs sRule_eq) (defBody sRule_eq) (defScope sRule_eq) .none kVRule_eq dcRule_eq pmRule_eq anRule_eq cdRule_eq ctRule_eq), slRule_eq⟩)
    (cRule_eq : PySem.W.codeIn K cdRule_eq "Rule.__eq__" = true)
    (kRule_eq : PySem.W.keepIn K (.ref fRule_eq) = true)
    (iRule_eq : PySem.W.isFn K (.ref fRule_eq) = true)
    (haRule : PySem.W.findIn K (.ref aRule) "__class__" = some (some (.builtin "object.__class__")))
    (hmRule : PySem.W.mroIn K aRule (.type "object") = some true)
    (ssRule : PySem.W.subIn K (.ref aRule) (.ref aRule) = some true)
    (sintRule : PySem.W.subIn K (.type "int") (.ref aRule) = some false)
    (sstrRule : PySem.W.subIn K (.type "str") (.ref aRule) = some false)
    {aInvalidName : Addr}
    (a_InvalidName : PySem.W.nsIn K mainGlobals "InvalidName" = some (some (.ref aInvalidName)))
    {nmInvalidName qInvalidName : Str} {NEInvalidName SEInvalidName : Addr} {bsInvalidName : List Value} {snInvalidName : List Str} {subInvalidName : List Value} {abInvalidName : Bool} {colInvalidName : Option Bool} {ddInvalidName : Option Addr} {m0InvalidName m1InvalidName m2InvalidName m3InvalidName m5InvalidName : Option Value} {fInvalidName_init : Addr}
    (xInvalidName : K.lookup aInvalidName = some (excClassObj nmInvalidName qInvalidName aInvalidName NEInvalidName bsInvalidName [.ref SEInvalidName, .type "ValueError", .type "Exception", .type "BaseException", .type "object"] true snInvalidName subInvalidName abInvalidName colInvalidName ddInvalidName m0InvalidName m1InvalidName m2InvalidName m3InvalidName m5InvalidName "ValueError.__new__"))
    (saInvalidName : PySem.W.findIn K (.ref aInvalidName) "__setattr__" = some (some (.builtin "object.__setattr__")))
    (exInvalidName : PySem.W.subIn K (.ref aInvalidName) (.type "BaseException") = some true)
    (tyInvalidName : PySem.W.typeIn K (.ref aInvalidName) = some (.type "type"))
    (kpInvalidName : PySem.W.keepIn K (.ref aInvalidName) = true)
    (inInvalidName : PySem.W.findIn K (.ref aInvalidName) "__init__" = some (some (.ref fInvalidName_init)))
    (tiInvalidName : PySem.W.typeIn K (.ref fInvalidName_init) = some (.type "function"))
    (gaInvalidName : PySem.W.findIn K (.ref aInvalidName) "__getattribute__" = some (some (.builtin "BaseException.__getattribute__")))
    (ggInvalidName : PySem.W.findIn K (.ref aInvalidName) "__getattr__" = some none)
    (hdInvalidName : PySem.W.hasDictIn K aInvalidName = true)
    (clInvalidName : PySem.W.isClsIn K aInvalidName = true)
    (ssInvalidName : PySem.W.subIn K (.ref aInvalidName) (.ref aInvalidName) = some true)
    (nvalueInvalidName : PySem.W.findIn K (.ref aInvalidName) "value" = some none)
    (ncodeInvalidName : PySem.W.findIn K (.ref aInvalidName) "code" = some none)
    {odInvalidName_init anInvalidName_init : Option Addr} {slInvalidName_init : Array (Option Value)} {ocInvalidName_init kVInvalidName_init dcInvalidName_init pmInvalidName_init cdInvalidName_init ctInvalidName_init : Value}
    (lInvalidName_init : K.lookup fInvalidName_init = some ⟨ocInvalidName_init, odInvalidName_init, .func (PySem.W.fnOf "__init__" "InvalidName.__init__" (defArgs sInvalidName_init) (defBody sInvalidName_init) (defScope sInvalidName_init) .none kVInvalidName_init dcInvalidName_init pmInvalidName_init anInvalidName_init cdInvalidName_init ctInvalidName_init), slInvalidName_init⟩)
    (cInvalidName_init : PySem.W.codeIn K cdInvalidName_init "InvalidName.__init__" = true)
    (kInvalidName_init : PySem.W.keepIn K (.ref fInvalidName_init) = true)
    (iInvalidName_init : PySem.W.isFn K (.ref fInvalidName_init) = true)
    {aInvalidNumber : Addr}
    (a_InvalidNumber : PySem.W.nsIn K mainGlobals "InvalidNumber" = some (some (.ref aInvalidNumber)))
    {nmInvalidNumber qInvalidNumber : Str} {NEInvalidNumber SEInvalidNumber : Addr} {bsInvalidNumber : List Value} {snInvalidNumber : List Str} {subInvalidNumber : List Value} {abInvalidNumber : Bool} {colInvalidNumber : Option Bool} {ddInvalidNumber : Option Addr} {m0InvalidNumber m1InvalidNumber m2InvalidNumber m3InvalidNumber m5InvalidNumber : Option Value} {fInvalidNumber_init : Addr}
    (xInvalidNumber : K.lookup aInvalidNumber = some (excClassObj nmInvalidNumber qInvalidNumber aInvalidNumber NEInvalidNumber bsInvalidNumber [.ref SEInvalidNumber, .type "ValueError", .type "Exception", .type "BaseException", .type "object"] true snInvalidNumber subInvalidNumber abInvalidNumber colInvalidNumber ddInvalidNumber m0InvalidNumber m1InvalidNumber m2InvalidNumber m3InvalidNumber m5InvalidNumber "ValueError.__new__"))
    (saInvalidNumber : PySem.W.findIn K (.ref aInvalidNumber) "__setattr__" = some (some (.builtin "object.__setattr__")))
    (exInvalidNumber : PySem.W.subIn K (.ref aInvalidNumber) (.type "BaseException") = some true)
    (tyInvalidNumber : PySem.W.typeIn K (.ref aInvalidNumber) = some (.type "type"))
    (kpInvalidNumber : PySem.W.keepIn K (.ref aInvalidNumber) = true)
    (inInvalidNumber : PySem.W.findIn K (.ref aInvalidNumber) "__init__" = some (some (.ref fInvalidNumber_init)))
    (tiInvalidNumber : PySem.W.typeIn K (.ref fInvalidNumber_init) = some (.type "function"))
    (gaInvalidNumber : PySem.W.findIn K (.ref aInvalidNumber) "__getattribute__" = some (some (.builtin "BaseException.__getattribute__")))
    (ggInvalidNumber : PySem.W.findIn K (.ref aInvalidNumber) "__getattr__" = some none)
    (hdInvalidNumber : PySem.W.hasDictIn K aInvalidNumber = true)
    (clInvalidNumber : PySem.W.isClsIn K aInvalidNumber = true)
    (ssInvalidNumber : PySem.W.subIn K (.ref aInvalidNumber) (.ref aInvalidNumber) = some true)
    (nvalueInvalidNumber : PySem.W.findIn K (.ref aInvalidNumber) "value" = some none)
    (ncodeInvalidNumber : PySem.W.findIn K (.ref aInvalidNumber) "code" = some none)
    {odInvalidNumber_init anInvalidNumber_init : Option Addr} {slInvalidNumber_init : Array (Option Value)} {ocInvalidNumber_init kVInvalidNumber_init dcInvalidNumber_init pmInvalidNumber_init cdInvalidNumber_init ctInvalidNumber_init : Value}
    (lInvalidNumber_init : K.lookup fInvalidNumber_init = some ⟨ocInvalidNumber_init, odInvalidNumber_init, .func (PySem.W.fnOf "__init__" "InvalidNumber.__init__" (defArgs sInvalidNumber_init) (defBody sInvalidNumber_init) (defScope sInvalidNumber_init) .none kVInvalidNumber_init dcInvalidNumber_init pmInvalidNumber_init anInvalidNumber_init cdInvalidNumber_init ctInvalidNumber_init), slInvalidNumber_init⟩)
    (cInvalidNumber_init : PySem.W.codeIn K cdInvalidNumber_init "InvalidNumber.__init__" = true)
    (kInvalidNumber_init : PySem.W.keepIn K (.ref fInvalidNumber_init) = true)
    (iInvalidNumber_init : PySem.W.isFn K (.ref fInvalidNumber_init) = true)
    {aInvalidRest : Addr}
    (a_InvalidRest : PySem.W.nsIn K mainGlobals "InvalidRest" = some (some (.ref aInvalidRest)))
    {nmInvalidRest qInvalidRest : Str} {NEInvalidRest SEInvalidRest : Addr} {bsInvalidRest : List Value} {snInvalidRest : List Str} {subInvalidRest : List Value} {abInvalidRest : Bool} {colInvalidRest : Option Bool} {ddInvalidRest : Option Addr} {m0InvalidRest m1InvalidRest m2InvalidRest m3InvalidRest m5InvalidRest : Option Value} {fInvalidRest_init : Addr}
    (xInvalidRest : K.lookup aInvalidRest = some (excClassObj nmInvalidRest qInvalidRest aInvalidRest NEInvalidRest bsInvalidRest [.ref SEInvalidRest, .type "ValueError", .type "Exception", .type "BaseException", .type "object"] true snInvalidRest subInvalidRest abInvalidRest colInvalidRest ddInvalidRest m0InvalidRest m1InvalidRest m2InvalidRest m3InvalidRest m5InvalidRest "ValueError.__new__"))
    (saInvalidRest : PySem.W.findIn K (.ref aInvalidRest) "__setattr__" = some (some (.builtin "object.__setattr__")))
    (exInvalidRest : PySem.W.subIn K (.ref aInvalidRest) (.type "BaseException") = some true)
    (tyInvalidRest : PySem.W.typeIn K (.ref aInvalidRest) = some (.type "type"))
    (kpInvalidRest : PySem.W.keepIn K (.ref aInvalidRest) = true)
    (inInvalidRest : PySem.W.findIn K (.ref aInvalidRest) "__init__" = some (some (.ref fInvalidRest_init)))
    (tiInvalidRest : PySem.W.typeIn K (.ref fInvalidRest_init) = some (.type "function"))
    (gaInvalidRest : PySem.W.findIn K (.ref aInvalidRest) "__getattribute__" = some (some (.builtin "BaseException.__getattribute__")))
    (ggInvalidRest : PySem.W.findIn K (.ref aInvalidRest) "__getattr__" = some none)
    (hdInvalidRest : PySem.W.hasDictIn K aInvalidRest = true)
    (clInvalidRest : PySem.W.isClsIn K aInvalidRest = true)
    (ssInvalidRest : PySem.W.subIn K (.ref aInvalidRest) (.ref aInvalidRest) = some true)
    (nvalueInvalidRest : PySem.W.findIn K (.ref aInvalidRest) "value" = some none)
    (ncodeInvalidRest : PySem.W.findIn K (.ref aInvalidRest) "code" = some none)
    {odInvalidRest_init anInvalidRest_init : Option Addr} {slInvalidRest_init : Array (Option Value)} {ocInvalidRest_init kVInvalidRest_init dcInvalidRest_init pmInvalidRest_init cdInvalidRest_init ctInvalidRest_init : Value}
    (lInvalidRest_init : K.lookup fInvalidRest_init = some ⟨ocInvalidRest_init, odInvalidRest_init, .func (PySem.W.fnOf "__init__" "InvalidRest.__init__" (defArgs sInvalidRest_init) (defBody sInvalidRest_init) (defScope sInvalidRest_init) .none kVInvalidRest_init dcInvalidRest_init pmInvalidRest_init anInvalidRest_init cdInvalidRest_init ctInvalidRest_init), slInvalidRest_init⟩)
    (cInvalidRest_init : PySem.W.codeIn K cdInvalidRest_init "InvalidRest.__init__" = true)
    (kInvalidRest_init : PySem.W.keepIn K (.ref fInvalidRest_init) = true)
    (iInvalidRest_init : PySem.W.isFn K (.ref fInvalidRest_init) = true)
    (eUN : PySem.W.subIn K (.ref aInvalidNumber) (.ref aInvalidName) = some false)
    (eRN : PySem.W.subIn K (.ref aInvalidRest) (.ref aInvalidName) = some false)
    (eRU : PySem.W.subIn K (.ref aInvalidRest) (.ref aInvalidNumber) = some false)
    {aSE : Addr}
    (aSure : PySem.W.nsIn K mainGlobals "SureletError" = some (some (.ref aSE)))
    (npt : (ptone_rule_so == ptlaw) = false)
    (own : ∀ nm : Str, (nm = "_law_one_rule_so" ∨ nm = "law") → ∀ fb, mg nm = some (.ref fb) → LamX.OwnTab K fb h) :
    LamX.LawAtS l w K CX0 11 63 "_law_script" mg fa h := by
  have e := hfa.symm.trans (PySem.W.mg_of X G alaw)
  cases e
  have T : Txt K mg := ⟨PySem.W.mg_none_of X G zall, PySem.W.mg_none_of X G zbool, PySem.W.mg_none_of X G zdict, PySem.W.mg_none_of X G zenumerate, PySem.W.mg_none_of X G zint, PySem.W.mg_none_of X G zisinstance, PySem.W.mg_none_of X G zlen, PySem.W.mg_none_of X G zlist, PySem.W.mg_none_of X G zmax, PySem.W.mg_none_of X G zmin, PySem.W.mg_none_of X G zrange, PySem.W.mg_none_of X G zsorted, PySem.W.mg_none_of X G zstr, PySem.W.mg_none_of X G zsum, PySem.W.mg_none_of X G zsuper, PySem.W.mg_none_of X G ztuple, PySem.W.mg_none_of X G zzip, ⟨_, PySem.W.mg_of X G yDIGITS⟩, ⟨_, PySem.W.mg_of X G yLETTERS⟩, ⟨_, PySem.W.mg_of X G yMOST_BORDERS⟩, ⟨_, PySem.W.mg_of X G yMOST_PERIOD⟩, ⟨_, PySem.W.mg_of X G yMOST_SIZE⟩, ⟨_, PySem.W.mg_of X G yMOST_STEPS⟩⟩
  have Fcheck_count := fun_mk (st := scheck_count) lcheck_count ccheck_count kcheck_count
  have Dcheck_count : Def K mg "check_count" scheck_count Pcheck_count _ _ := ⟨Fcheck_count, PySem.W.mg_of X G acheck_count, Fcheck_count.binds (ps := Pcheck_count) fun _ _ _ _ _ _ us hl => match us, hl with | [_, _, _], _ => rfl⟩
  have Fis_whole := fun_mk (st := sis_whole) lis_whole cis_whole kis_whole
  have Dis_whole : Def K mg "is_whole" sis_whole Pis_whole _ _ := ⟨Fis_whole, PySem.W.mg_of X G ais_whole, Fis_whole.binds (ps := Pis_whole) fun _ _ _ _ _ _ us hl => match us, hl with | [_], _ => rfl⟩
  have Fis_number := fun_mk (st := sis_number) lis_number cis_number kis_number
  have Dis_number : Def K mg "is_number" sis_number Pis_number _ _ := ⟨Fis_number, PySem.W.mg_of X G ais_number, Fis_number.binds (ps := Pis_number) fun _ _ _ _ _ _ us hl => match us, hl with | [_, _, _], _ => rfl⟩
  have Fis_name := fun_mk (st := sis_name) lis_name cis_name kis_name
  have Dis_name : Def K mg "is_name" sis_name Pis_name _ _ := ⟨Fis_name, PySem.W.mg_of X G ais_name, Fis_name.binds (ps := Pis_name) fun _ _ _ _ _ _ us hl => match us, hl with | [_], _ => rfl⟩
  have Fcheck_borders := fun_mk (st := scheck_borders) lcheck_borders ccheck_borders kcheck_borders
  have Dcheck_borders : Def K mg "check_borders" scheck_borders Pcheck_borders _ _ := ⟨Fcheck_borders, PySem.W.mg_of X G acheck_borders, Fcheck_borders.binds (ps := Pcheck_borders) fun _ _ _ _ _ _ us hl => match us, hl with | [_], _ => rfl⟩
  have Ffullest := fun_mk (st := sfullest) lfullest cfullest kfullest
  have Dfullest : Def K mg "fullest" sfullest Pfullest _ _ := ⟨Ffullest, PySem.W.mg_of X G afullest, Ffullest.binds (ps := Pfullest) fun _ _ _ _ _ _ us hl => match us, hl with | [_, _], _ => rfl⟩
  have Fis_within := fun_mk (st := sis_within) lis_within cis_within kis_within
  have Dis_within : Def K mg "is_within" sis_within Pis_within _ _ := ⟨Fis_within, PySem.W.mg_of X G ais_within, Fis_within.binds (ps := Pis_within) fun _ _ _ _ _ _ us hl => match us, hl with | [_, _], _ => rfl⟩
  have Fladder := fun_mk (st := sladder) lladder cladder kladder
  have Dladder : Def K mg "ladder" sladder Pladder _ _ := ⟨Fladder, PySem.W.mg_of X G aladder, Fladder.binds (ps := Pladder) fun _ _ _ _ _ _ us hl => match us, hl with | [_, _, _, _], _ => rfl⟩
  have Fbag := fun_mk (st := sbag) lbag cbag kbag
  have Dbag : Def K mg "_law_bag" sbag Pbag _ _ := ⟨Fbag, PySem.W.mg_of X G abag, Fbag.binds (ps := Pbag) fun _ _ _ _ _ _ us hl => match us, hl with | [_], _ => rfl⟩
  have Fdraw := fun_mk (st := sdraw) ldraw cdraw kdraw
  have Ddraw : Def K mg "_law_draw" sdraw Pdraw _ _ := ⟨Fdraw, PySem.W.mg_of X G adraw, Fdraw.binds (ps := Pdraw) fun _ _ _ _ _ _ us hl => match us, hl with | [_, _], _ => rfl⟩
  have Fof := fun_mk (st := sof) lof cof kof
  have Dof : Def K mg "_law_of" sof Pof _ _ := ⟨Fof, PySem.W.mg_of X G aof, Fof.binds (ps := Pof) fun _ _ _ _ _ _ us hl => match us, hl with | [_, _], _ => rfl⟩
  have Flike := fun_mk (st := slike) llike clike klike
  have Dlike : Def K mg "_law_like" slike Plike _ _ := ⟨Flike, PySem.W.mg_of X G alike, Flike.binds (ps := Plike) fun _ _ _ _ _ _ us hl => match us, hl with | [_, _], _ => rfl⟩
  have Fodd := fun_mk (st := sodd) lodd codd kodd
  have Dodd : Def K mg "_law_odd" sodd Podd _ _ := ⟨Fodd, PySem.W.mg_of X G aodd, Fodd.binds (ps := Podd) fun _ _ _ _ _ _ us hl => match us, hl with | [_], _ => rfl⟩
  have Fin := fun_mk (st := sin) lin cin kin
  have Din : Def K mg "_law_in" sin Pin _ _ := ⟨Fin, PySem.W.mg_of X G ain, Fin.binds (ps := Pin) fun _ _ _ _ _ _ us hl => match us, hl with | [_, _], _ => rfl⟩
  have Fnamed := fun_mk (st := snamed) lnamed cnamed knamed
  have Dnamed : Def K mg "_law_named" snamed Pnamed _ _ := ⟨Fnamed, PySem.W.mg_of X G anamed, Fnamed.binds (ps := Pnamed) fun _ _ _ _ _ _ us hl => match us, hl with | [_, _], _ => rfl⟩
  have Fwrong := fun_mk (st := swrong) lwrong cwrong kwrong
  have Dwrong : Def K mg "_law_wrong" swrong Pwrong _ _ := ⟨Fwrong, PySem.W.mg_of X G awrong, Fwrong.binds (ps := Pwrong) fun _ _ _ _ _ _ us hl => match us, hl with | [_], _ => rfl⟩
  have Fgiven := fun_mk (st := sgiven) lgiven cgiven kgiven
  have Dgiven : Def K mg "_law_given" sgiven Pgiven _ _ := ⟨Fgiven, PySem.W.mg_of X G agiven, Fgiven.binds (ps := Pgiven) fun _ _ _ _ _ _ us hl => match us, hl with | [_], _ => rfl⟩
  have Fladder_due := fun_mk (st := sladder_due) lladder_due cladder_due kladder_due
  have Dladder_due : Def K mg "_law_ladder_due" sladder_due Pladder_due _ _ := ⟨Fladder_due, PySem.W.mg_of X G aladder_due, Fladder_due.binds (ps := Pladder_due) fun _ _ _ _ _ _ us hl => match us, hl with | [_], _ => rfl⟩
  have Frules_so := fun_mk (st := srules_so) lrules_so crules_so krules_so
  have Drules_so : Def K mg "_law_rules_so" srules_so Prules_so _ _ := ⟨Frules_so, PySem.W.mg_of X G arules_so, Frules_so.binds (ps := Prules_so) fun _ _ _ _ _ _ us hl => match us, hl with | [_, _], _ => rfl⟩
  have Flet := fun_mk (st := slet) llet clet klet
  have Dlet : Def K mg "_law_let" slet Plet _ _ := ⟨Flet, PySem.W.mg_of X G alet, Flet.binds (ps := Plet) fun _ _ _ _ _ _ us hl => match us, hl with | [_, _, _], _ => rfl⟩
  have Fasked_so := fun_mk (st := sasked_so) lasked_so casked_so kasked_so
  have Dasked_so : Def K mg "_law_asked_so" sasked_so Pasked_so _ _ := ⟨Fasked_so, PySem.W.mg_of X G aasked_so, Fasked_so.binds (ps := Pasked_so) fun _ _ _ _ _ _ us hl => match us, hl with | [_, _, _], _ => rfl⟩
  have Fask := fun_mk (st := sask) lask cask kask
  have Dask : Def K mg "_law_ask" sask Pask _ _ := ⟨Fask, PySem.W.mg_of X G aask, Fask.binds (ps := Pask) fun _ _ _ _ _ _ us hl => match us, hl with | [_], _ => rfl⟩
  have Fone_rule_so := fun_mk (st := sone_rule_so) lone_rule_so cone_rule_so kone_rule_so
  have Done_rule_so : Def K mg "_law_one_rule_so" sone_rule_so Pone_rule_so _ _ := ⟨Fone_rule_so, PySem.W.mg_of X G aone_rule_so, Fone_rule_so.binds (ps := Pone_rule_so) fun _ _ _ _ _ _ us hl => match us, hl with | [_], _ => rfl⟩
  have Flaw := fun_mk (st := slaw) llaw claw klaw
  have Dlaw : Def K mg "law" slaw Plaw _ _ := ⟨Flaw, PySem.W.mg_of X G alaw, Flaw.binds (ps := Plaw) fun _ _ _ _ _ _ us hl => match us, hl with | [_], _ => rfl⟩
  let a : Ad := ⟨aR, aWindow, aDays, fRi, fB, fW, fS, fE, fWindow_init, fDays_init, fWindow_call, fDays_call⟩
  have rcWindow : RC K a aWindow := ⟨⟨pgWindow, hdWindow, poWindow, saWindow⟩, nWindow_text, nWindow_forms, nWindow_period, nWindow_bend, ⟨mWindowbend, iRest_bend, kRest_bend⟩, ⟨mWindowwritten, iRest_written, kRest_written⟩, LS.kit_own xRest tyR isWindow, haWindow, hn, ht, hmWindow, mWindowstr, iRest_str, mfWindow, mWindoweq, iRest_eq, LE2.any2T1 (LE2.kit_ref clWindow tyWindow ssWindow ssWindow)⟩
  have rcDays : RC K a aDays := ⟨⟨pgDays, hdDays, poDays, saDays⟩, nDays_text, nDays_forms, nDays_period, nDays_bend, ⟨mDaysbend, iRest_bend, kRest_bend⟩, ⟨mDayswritten, iRest_written, kRest_written⟩, LS.kit_own xRest tyR isDays, haDays, hn, ht, hmDays, mDaysstr, iRest_str, mfDays, mDayseq, iRest_eq, LE2.any2T2 (LE2.kit_ref clWindow tyWindow ssDays sDW) (LE2.kit_ref clDays tyDays ssDays ssDays)⟩
  have kOdd : ∀ t : String, t ∈ ["int", "bool", "str", "NoneType", "list", "tuple", "dict"] → PySem.W.kitOne K (.type t) (.ref aR) = some false := fun t ht => by
    simp only [List.mem_cons, List.not_mem_nil, or_false] at ht
    rcases ht with rfl | rfl | rfl | rfl | rfl | rfl | rfl
    · exact LE2.kit_tyF clR tyR sintR
    · exact LE2.kit_tyF clR tyR sboolR
    · exact LE2.kit_tyF clR tyR sstrR
    · exact LE2.kit_tyF clR tyR sNoneTypeR
    · exact LE2.kit_tyF clR tyR slistR
    · exact LE2.kit_tyF clR tyR stupleR
    · exact LE2.kit_tyF clR tyR sdictR
  have kWDo : ∀ t : String, t ∈ ["int", "bool", "str", "NoneType", "list", "tuple", "dict"] → PySem.W.kitAny K (.type t) [.ref aWindow, .ref aDays] = some false := fun t ht => by
    simp only [List.mem_cons, List.not_mem_nil, or_false] at ht
    rcases ht with rfl | rfl | rfl | rfl | rfl | rfl | rfl
    · exact LE2.any2F (LE2.kit_tyF clWindow tyWindow sintW) (LE2.kit_tyF clDays tyDays sintD)
    · exact LE2.any2F (LE2.kit_tyF clWindow tyWindow sboolW) (LE2.kit_tyF clDays tyDays sboolD)
    · exact LE2.any2F (LE2.kit_tyF clWindow tyWindow sstrW) (LE2.kit_tyF clDays tyDays sstrD)
    · exact LE2.any2F (LE2.kit_tyF clWindow tyWindow sNoneTypeW) (LE2.kit_tyF clDays tyDays sNoneTypeD)
    · exact LE2.any2F (LE2.kit_tyF clWindow tyWindow slistW) (LE2.kit_tyF clDays tyDays slistD)
    · exact LE2.any2F (LE2.kit_tyF clWindow tyWindow stupleW) (LE2.kit_tyF clDays tyDays stupleD)
    · exact LE2.any2F (LE2.kit_tyF clWindow tyWindow sdictW) (LE2.kit_tyF clDays tyDays sdictD)
  have KN : Kn K mg a := ⟨rcWindow, rcDays, nWindowwidth, nDays_borders, nDaysevery, LE2.nf_of sDW, LE2.nf_of sWD, kRest_written, kRest_bend, kOdd, kWDo, PySem.W.mg_of X G aRest, PySem.W.mg_of X G a_Window, PySem.W.mg_of X G a_Days, ⟨mkWindow, fiWindow, isfWindow_init, kpWindow⟩, ⟨mkDays, fiDays, isfDays_init, kpDays⟩, ⟨fcWindow, iWindow_call, fnWindow⟩, ⟨fcDays, iDays_call, fnDays⟩⟩
  have UWindow_init : LS.SupF l.prog K (FWindow_init ccWindow_init cWindow_init) fWindow_init aWindow fRi "__init__" := ⟨⟨_, _, _, _, _, _, lWindow_init⟩, cdWindow_init, ⟨_, _, _, _, _, _, lcWindow_init, vfWindow_init, ffWindow_init⟩, ⟨_, _, _, _, rfl, llWindow_init⟩, ⟨_, LS.cls_of xWindow⟩, mrWindow, LS.sup_of xWindow moWindow xRest ffRi, tyfR, opq, fiR, tp⟩
  have UDays_init : LS.SupF l.prog K (FDays_init ccDays_init cDays_init) fDays_init aDays fRi "__init__" := ⟨⟨_, _, _, _, _, _, lDays_init⟩, cdDays_init, ⟨_, _, _, _, _, _, lcDays_init, vfDays_init, ffDays_init⟩, ⟨_, _, _, _, rfl, llDays_init⟩, ⟨_, LS.cls_of xDays⟩, mrDays, LS.sup_of xDays moDays xRest ffRi, tyfR, opq, fiR, tp⟩
  let r : Ar := ⟨aRule, fRule_init, fRule_str, fRule_eq⟩
  have KR : Kr K mg r := ⟨⟨pgRule, hdRule, poRule, saRule⟩, nRulename, nRulechips, nRulerest, ⟨mkRule, fiRule, iRule_init, kpRule⟩, PySem.W.mg_of X G aRuleG, LE2.kit_ref clRule tyRule ssRule ssRule, haRule, hn, ht, hmRule, mRulestr, iRule_str, mRuleeq, iRule_eq, LE2.kit_tyF clRule tyRule sintRule, LE2.kit_tyF clRule tyRule sstrRule, LE2.nf_of sintRule, LE2.nf_of sstrRule⟩
  have eUN := LX.exm_self exInvalidName clInvalidName tyInvalidName eUN
  have eRN := LX.exm_self exInvalidName clInvalidName tyInvalidName eRN
  have eRU := LX.exm_self exInvalidNumber clInvalidNumber tyInvalidNumber eRU
  have gSE : mg "SureletError" = some (.ref aSE) := PySem.W.mg_of X G aSure
  let cs : List (Addr × Addr) := [(coone_rule_so, ptone_rule_so), (colaw, ptlaw)]
  let Tb : List (Addr × Str) := [(ptone_rule_so, (("_law_one_rule_so" : Str) ++ ".<locals>." ++ "<lambda>")), (ptlaw, (("law" : Str) ++ ".<locals>." ++ "<lambda>"))]
  have none_rule_solaw : ptone_rule_so ≠ ptlaw := fun z => by rw [z] at npt; simp at npt
  have hmone_rule_so : (ptone_rule_so, (("_law_one_rule_so" : Str) ++ ".<locals>." ++ "<lambda>")) ∈ Tb := by simp [Tb]
  have huone_rule_so : ∀ p ∈ Tb, p.1 = ptone_rule_so → p.2 = (("_law_one_rule_so" : Str) ++ ".<locals>." ++ "<lambda>") := fun p hp e => by
    simp only [Tb, List.mem_cons, List.not_mem_nil, or_false] at hp
    rcases hp with rfl | rfl
    · rfl
    · exact absurd e (Ne.symm none_rule_solaw)
  have hmlaw : (ptlaw, (("law" : Str) ++ ".<locals>." ++ "<lambda>")) ∈ Tb := by simp [Tb]
  have hulaw : ∀ p ∈ Tb, p.1 = ptlaw → p.2 = (("law" : Str) ++ ".<locals>." ++ "<lambda>") := fun p hp e => by
    simp only [Tb, List.mem_cons, List.not_mem_nil, or_false] at hp
    rcases hp with rfl | rfl
    · exact absurd e none_rule_solaw
    · rfl
  refine ⟨PySem.W.fnOf "law" "law" (defArgs slaw) (defBody slaw) (defScope slaw) .none kVlaw dclaw pmlaw anlaw (.ref colaw) ctlaw, cs, splaw K Tb, fun p hp => ?_, fun p hp => ?_, fun p hp => ?_, fun s v => .of_eq rfl, fun H a ns hl _ hH hS => ⟨a, ns, rfl, hS, hl, fun p hp => ?_, fun _ => rfl⟩, fun base _ _ TBs => ?_⟩
  · simp only [cs, List.mem_cons, List.not_mem_nil, or_false] at hp
    rcases hp with rfl | rfl
    · exact own "_law_one_rule_so" (by simp) _ (PySem.W.mg_of X G aone_rule_so) _ _ _ _ _ _ _ _ lone_rule_so rfl rfl lcone_rule_so vpone_rule_so
    · exact own "law" (by simp) _ (PySem.W.mg_of X G alaw) _ _ _ _ _ _ _ _ llaw rfl rfl lclaw vplaw
  · simp only [cs, List.mem_cons, List.not_mem_nil, or_false] at hp
    rcases hp with rfl | rfl
    · exact npone_rule_so
    · exact nplaw
  · simp only [cs, List.mem_cons, List.not_mem_nil, or_false] at hp
    rcases hp with rfl | rfl
    · exact PySem.W.codeHd_of_K X (LE2.hd_of lcone_rule_so hdone_rule_so)
    · exact PySem.W.codeHd_of_K X (LE2.hd_of lclaw hdlaw)
  · simp only [Tb, List.mem_cons, List.not_mem_nil, or_false] at hp
    rcases hp with rfl | rfl
    · exact LamX.TabS.nil (hH (coone_rule_so, ptone_rule_so) (by simp [cs]))
    · exact LamX.TabS.nil (hH (colaw, ptlaw) (by simp [cs]))
  have FInvalidName := fun_mk (st := sInvalidName_init) lInvalidName_init cInvalidName_init kInvalidName_init
  have oxInvalidName : OexC K aInvalidName := ⟨⟨_, _, _, _, _, _, _, _, _, _, _, _, _, _, _, xInvalidName, refs_ve _⟩, saInvalidName, exInvalidName, tyInvalidName, kpInvalidName⟩
  have RInvalidName : RE l.prog w K mg base "InvalidName" aInvalidName fInvalidName_init _ := ⟨⟨oxInvalidName, inInvalidName, tiInvalidName, PySem.W.mg_of X G a_InvalidName, ⟨gaInvalidName, ggInvalidName, exInvalidName, hdInvalidName⟩, LX.exm_self exInvalidName clInvalidName tyInvalidName ssInvalidName, LX.no_cons nvalueInvalidName (LX.no_cons ncodeInvalidName LX.no_nil)⟩, ok_InvalidName_init FInvalidName T oxInvalidName nvalueInvalidName ncodeInvalidName, FInvalidName.binds (ps := PInvalidName_init) fun _ _ _ _ _ _ us hl => match us, hl with | [_, _], _ => rfl⟩
  have FInvalidNumber := fun_mk (st := sInvalidNumber_init) lInvalidNumber_init cInvalidNumber_init kInvalidNumber_init
  have oxInvalidNumber : OexC K aInvalidNumber := ⟨⟨_, _, _, _, _, _, _, _, _, _, _, _, _, _, _, xInvalidNumber, refs_ve _⟩, saInvalidNumber, exInvalidNumber, tyInvalidNumber, kpInvalidNumber⟩
  have RInvalidNumber : RE l.prog w K mg base "InvalidNumber" aInvalidNumber fInvalidNumber_init _ := ⟨⟨oxInvalidNumber, inInvalidNumber, tiInvalidNumber, PySem.W.mg_of X G a_InvalidNumber, ⟨gaInvalidNumber, ggInvalidNumber, exInvalidNumber, hdInvalidNumber⟩, LX.exm_self exInvalidNumber clInvalidNumber tyInvalidNumber ssInvalidNumber, LX.no_cons nvalueInvalidNumber (LX.no_cons ncodeInvalidNumber LX.no_nil)⟩, ok_InvalidNumber_init FInvalidNumber T oxInvalidNumber nvalueInvalidNumber ncodeInvalidNumber, FInvalidNumber.binds (ps := PInvalidNumber_init) fun _ _ _ _ _ _ us hl => match us, hl with | [_, _], _ => rfl⟩
  have FInvalidRest := fun_mk (st := sInvalidRest_init) lInvalidRest_init cInvalidRest_init kInvalidRest_init
  have oxInvalidRest : OexC K aInvalidRest := ⟨⟨_, _, _, _, _, _, _, _, _, _, _, _, _, _, _, xInvalidRest, refs_ve _⟩, saInvalidRest, exInvalidRest, tyInvalidRest, kpInvalidRest⟩
  have RInvalidRest : RE l.prog w K mg base "InvalidRest" aInvalidRest fInvalidRest_init _ := ⟨⟨oxInvalidRest, inInvalidRest, tiInvalidRest, PySem.W.mg_of X G a_InvalidRest, ⟨gaInvalidRest, ggInvalidRest, exInvalidRest, hdInvalidRest⟩, LX.exm_self exInvalidRest clInvalidRest tyInvalidRest ssInvalidRest, LX.no_cons nvalueInvalidRest (LX.no_cons ncodeInvalidRest LX.no_nil)⟩, ok_InvalidRest_init FInvalidRest T oxInvalidRest nvalueInvalidRest ncodeInvalidRest, FInvalidRest.binds (ps := PInvalidRest_init) fun _ _ _ _ _ _ us hl => match us, hl with | [_, _], _ => rfl⟩
  have Gcheck_count := ok_check_count (P := l.prog) (w := w) (base := base) Dcheck_count T
  have Gis_whole := ok_is_whole (P := l.prog) (w := w) (base := base) Dis_whole T
  have Gis_number := ok_is_number (P := l.prog) (w := w) (base := base) Dis_number T Dis_whole Gis_whole
  have Gis_name := ok_is_name (P := l.prog) (w := w) (base := base) Dis_name T
  have Gcheck_borders := ok_check_borders (P := l.prog) (w := w) (base := base) Dcheck_borders T Dcheck_count Gcheck_count Dis_number Gis_number
  have FRest_init := fun_mk (st := sRest_init) lRest_init cRest_init kRest_init
  have BRest_init := FRest_init.binds (ps := PRest_init) fun _ _ _ _ _ _ us hl => match us, hl with | [_, _, _, _, _], _ => rfl
  have GRest_init := ok_Rest_init (P := l.prog) (w := w) (base := base) FRest_init T KN
  have RI : FnR l.prog w K mg base CX0 1 fRi (spRest_init K a) := LC.raw0 GRest_init BRest_init
  have FRest_bend := fun_mk (st := sRest_bend) lRest_bend cRest_bend kRest_bend
  have BRest_bend := FRest_bend.binds (ps := PRest_bend) fun _ _ _ _ _ _ us hl => match us, hl with | [_], _ => rfl
  have GRest_bend := ok_Rest_bend (P := l.prog) (w := w) (base := base) FRest_bend T KN
  have RB : FnR l.prog w K mg base CX0 1 fB (spRest_bend K a) := LC.raw0 GRest_bend BRest_bend
  have FRest_written := fun_mk (st := sRest_written) lRest_written cRest_written kRest_written
  have BRest_written := FRest_written.binds (ps := PRest_written) fun _ _ _ _ _ _ us hl => match us, hl with | [_], _ => rfl
  have GRest_written := ok_Rest_written (P := l.prog) (w := w) (base := base) FRest_written T KN
  have RW : FnR l.prog w K mg base CX0 1 fW (spRest_written K a) := LC.raw0 GRest_written BRest_written
  have FRest_str := fun_mk (st := sRest_str) lRest_str cRest_str kRest_str
  have BRest_str := FRest_str.binds (ps := PRest_str) fun _ _ _ _ _ _ us hl => match us, hl with | [_], _ => rfl
  have GRest_str := ok_Rest_str (P := l.prog) (w := w) (base := base) FRest_str T KN
  have OS : FnR l.prog w K mg base CX0 1 fS (spRest_str K a) := LC.raw0 GRest_str BRest_str
  have FRest_eq := fun_mk (st := sRest_eq) lRest_eq cRest_eq kRest_eq
  have BRest_eq := FRest_eq.binds (ps := PRest_eq) fun _ _ _ _ _ _ us hl => match us, hl with | [_, _], _ => rfl
  have GRest_eq := ok_Rest_eq (P := l.prog) (w := w) (base := base) FRest_eq T KN
  have OE : FnR l.prog w K mg base CX0 1 fE (spRest_eq K a) := LC.raw0 GRest_eq BRest_eq
  have GWindow_init := ok_Window_init (P := l.prog) (w := w) (base := base) T KN RI Dis_number Gis_number UWindow_init lWindow_init
  have BWindow_init : Binds K ((FWindow_init ccWindow_init cWindow_init).fd dcWindow_init pmWindow_init ctWindow_init) PWindow_init [] := Binds.all fun us hl => match us, hl with | [_, _], _ => rfl
  have IWindow : FnR l.prog w K mg base CX0 3 fWindow_init (spWindow_init K a) := LC.raw0 GWindow_init BWindow_init
  have GDays_init := ok_Days_init (P := l.prog) (w := w) (base := base) T KN RI Dis_number Gis_number Dcheck_borders Gcheck_borders UDays_init lDays_init
  have BDays_init : Binds K ((FDays_init ccDays_init cDays_init).fd dcDays_init pmDays_init ctDays_init) PDays_init [] := Binds.all fun us hl => match us, hl with | [_, _, _], _ => rfl
  have IDays : FnR l.prog w K mg base CX0 4 fDays_init (spDays_init K a) := LC.raw0 GDays_init BDays_init
  have FWindow_call := fun_mk (st := sWindow_call) lWindow_call cWindow_call kWindow_call
  have BWindow_call := FWindow_call.binds (ps := PWindow_call) fun _ _ _ _ _ _ us hl => match us, hl with | [_, _], _ => rfl
  have GWindow_call := ok_Window_call (P := l.prog) (w := w) (base := base) FWindow_call T KN
  have RWindow_call : FnR l.prog w K mg base CX0 1 fWindow_call (spWindow_call K a) := LC.raw0 GWindow_call BWindow_call
  have FDays_call := fun_mk (st := sDays_call) lDays_call cDays_call kDays_call
  have BDays_call := FDays_call.binds (ps := PDays_call) fun _ _ _ _ _ _ us hl => match us, hl with | [_, _], _ => rfl
  have GDays_call := ok_Days_call (P := l.prog) (w := w) (base := base) FDays_call T KN RB
  have RDays_call : FnR l.prog w K mg base CX0 2 fDays_call (spDays_call K a) := LC.raw0 GDays_call BDays_call
  have CC : Calls l.prog w K mg base a := ⟨RWindow_call.mono (by decide), RDays_call⟩
  have FRule_init := fun_mk (st := sRule_init) lRule_init cRule_init kRule_init
  have BRule_init := FRule_init.binds (ps := PRule_init) fun _ _ _ _ _ _ us hl => match us, hl with | [_, _, _, _], _ => rfl
  have GRule_init := ok_Rule_init (P := l.prog) (w := w) (base := base) FRule_init T KN KR RInvalidName RInvalidNumber RInvalidRest Dis_number Gis_number Dis_name Gis_name
  have IRule : FnR l.prog w K mg base (L2.CX l.prog w) 3 fRule_init (spRule_init a r aInvalidName aInvalidNumber aInvalidRest) := LC.raw0 GRule_init BRule_init
  have KR4 := KBR FRule_init
  have FRule_str := fun_mk (st := sRule_str) lRule_str cRule_str kRule_str
  have BRule_str := FRule_str.binds (ps := PRule_str) fun _ _ _ _ _ _ us hl => match us, hl with | [_], _ => rfl
  have GRule_str := ok_Rule_str (P := l.prog) (w := w) (base := base) FRule_str T KN KR OS
  have OSr : FnR l.prog w K mg base CX0 3 fRule_str (spRule_str K a r) := LC.raw0 GRule_str BRule_str
  have FRule_eq := fun_mk (st := sRule_eq) lRule_eq cRule_eq kRule_eq
  have BRule_eq := FRule_eq.binds (ps := PRule_eq) fun _ _ _ _ _ _ us hl => match us, hl with | [_, _], _ => rfl
  have GRule_eq := ok_Rule_eq (P := l.prog) (w := w) (base := base) FRule_eq T KN KR OE
  have OEr : FnR l.prog w K mg base CX0 2 fRule_eq (spRule_eq K a r) := LC.raw0 GRule_eq BRule_eq
  have Gfullest := ok_fullest (P := l.prog) (w := w) (base := base) Dfullest T KN CC
  have Gis_within := ok_is_within (P := l.prog) (w := w) (base := base) Dis_within T KN KR Dfullest Gfullest
  have Gladder := ok_ladder (P := l.prog) (w := w) (base := base) Dladder T KN KR RInvalidName RInvalidNumber RInvalidRest IRule IWindow Dis_number Gis_number Dis_name Gis_name
  have Gbag := ok_bag (P := l.prog) (w := w) (base := base) Dbag T
  have Gdraw := ok_draw (P := l.prog) (w := w) (base := base) Ddraw T
  have Gof := ok_of (P := l.prog) (w := w) (base := base) Dof T Ddraw Gdraw
  have Glike := ok_like (P := l.prog) (w := w) (base := base) Dlike T
  have Godd := ok_odd (P := l.prog) (w := w) (base := base) Dodd T Ddraw Gdraw Dof Gof
  have Gin := ok_in (P := l.prog) (w := w) (base := base) Din T
  have Gnamed := ok_named (P := l.prog) (w := w) (base := base) Dnamed T
  have Gwrong := ok_wrong (P := l.prog) (w := w) (base := base) Dwrong T Dof Gof Dodd Godd
  have Ggiven := ok_given (P := l.prog) (w := w) (base := base) Dgiven T Ddraw Gdraw Dof Gof Dwrong Gwrong
  have Gladder_due := ok_ladder_due (P := l.prog) (w := w) (base := base) Dladder_due T Din Gin Dnamed Gnamed
  have Grules_so := ok_rules_so (P := l.prog) (w := w) (base := base) Drules_so T KN KR IRule IWindow RW OSr OEr Dlike Glike
  have Glet := ok_let (P := l.prog) (w := w) (base := base) Dlet T KN KR Dis_within Gis_within
  have Gasked_so := ok_asked_so (P := l.prog) (w := w) (base := base) Dasked_so T KN KR Dis_within Gis_within Ddraw Gdraw Dof Gof Dlike Glike Dlet Glet
  have TBone_rule_so : LamX.TabB base mg coone_rule_so ptone_rule_so := TBs (coone_rule_so, ptone_rule_so) (by simp [cs])
  have Gone_rule_so := ok_one_rule_so (P := l.prog) (w := w) (base := base) lone_rule_so cone_rule_so TBone_rule_so T KN KR RInvalidName RInvalidNumber RInvalidRest Dask eUN eRN eRU gSE IRule GRule_init KR4 IWindow IDays RW OSr OEr hmone_rule_so huone_rule_so Ddraw Gdraw Dof Gof Dlike Glike Din Gin Dnamed Gnamed Dwrong Gwrong
  have TBlaw : LamX.TabB base mg colaw ptlaw := TBs (colaw, ptlaw) (by simp [cs])
  have Glaw := ok_law (P := l.prog) (w := w) (base := base) llaw claw TBlaw T KN KR RInvalidName RInvalidNumber RInvalidRest Dask eUN eRN eRU gSE Dladder Gladder hmlaw hulaw Dbag Gbag Ddraw Gdraw Dlike Glike Dgiven Ggiven Dladder_due Gladder_due Drules_so Grules_so Dasked_so Gasked_so Done_rule_so Gone_rule_so
  exact Glaw
open PySem.Spec PyProof.Rows in
theorem walk {l : PySem.W.OpenLaw} {q : Program} {loose : List Str} {XP : (Str → Option Value) → Heap → Prop} {YP : World → Heap → Prop} {d : DefRec} {K : Params → PySem.W.Frag} (hn : l.most = some 63) (hdf : d.params.defaults = [])
    (hrec : ∀ nm : Str, (nm = "_law_one_rule_so" ∨ nm = "law") → ((recsOf q).any fun e => e.name == nm) = true) (hY : ∀ (w : World) (h : Heap), YP w h → (K w.params).In h)
    (F : ∀ (w : World) (mg : Str → Option Value) (fa : Addr) (h : Heap), (K w.params).In h → h.Ns mainGlobals mg → mg d.name = some (.ref fa) → (∀ nm : Str, (nm = "_law_one_rule_so" ∨ nm = "law") → ∀ fb, mg nm = some (.ref fb) → LamX.OwnTab (K w.params) fb h) → LamX.LawAtS l w (K w.params) CX0 11 63 "_law_script" mg fa h) :
    PySem.W.WalkO q loose XP YP l.row.toRowW d [] (fun f vs => PySem.call f vs) :=
  LE2.walk_own2 (CX := fun _ => CX0) hn (by decide) hdf ⟨rfl, by decide, by decide⟩ hrec hY (fun w mg fa h Y KX G e own => F w mg fa h KX G e own) fun _ _ _ _ _ z => z
end k10
open PySem PySem.W PyProof.Rows
set_option maxRecDepth 100000 in
set_option maxHeartbeats 0 in
theorem PySem.Challenge.cw_surelet_k10_whole_ladder_beside_a_bucket_holds : PySem.Challenge.rw_surelet_k10_whole_ladder_beside_a_bucket.Holds := by
  w_on; o_law; k_head; (case hw => w_witness2)
  k_fill
  refine k10.walk (l := PySem.Challenge.rw_surelet_k10_whole_ladder_beside_a_bucket) rfl rfl ?hrec (fun w h Y => PySem.W.km_in_of Y) ?F
  case hrec =>
    intro nm hnm
    rcases hnm with rfl | rfl
    all_goals decide +kernel
  case F =>
    intro w mg fa h KX G hmg own
    refine' k10.all_mk KX G hmg ?acheck_count ?lcheck_count ?ccheck_count ?kcheck_count ?ais_whole ?lis_whole ?cis_whole ?kis_whole ?ais_number ?lis_number ?cis_number ?kis_number ?ais_name ?lis_name ?cis_name ?kis_name ?acheck_borders ?lcheck_borders ?ccheck_borders ?kcheck_borders ?afullest ?lfullest ?cfullest ?kfullest ?ais_within ?lis_within ?cis_within ?kis_within ?aladder ?lladder ?cladder ?kladder ?abag ?lbag ?cbag ?kbag ?adraw ?ldraw ?cdraw ?kdraw ?aof ?lof ?cof ?kof ?alike ?llike ?clike ?klike ?aodd ?lodd ?codd ?kodd ?ain ?lin ?cin ?kin ?anamed ?lnamed ?cnamed ?knamed ?awrong ?lwrong ?cwrong ?kwrong ?agiven ?lgiven ?cgiven ?kgiven ?aladder_due ?lladder_due ?cladder_due ?kladder_due ?arules_so ?lrules_so ?crules_so ?krules_so ?alet ?llet ?clet ?klet ?aasked_so ?lasked_so ?casked_so ?kasked_so ?aask ?lask ?cask ?kask ?aone_rule_so ?lone_rule_so ?cone_rule_so ?kone_rule_so ?lcone_rule_so ?vpone_rule_so ?hdone_rule_so ?npone_rule_so ?alaw ?llaw ?claw ?klaw ?lclaw ?vplaw ?hdlaw ?nplaw ?zall ?zbool ?zdict ?zenumerate ?zint ?zisinstance ?zlen ?zlist ?zmax ?zmin ?zrange ?zsorted ?zstr ?zsum ?zsuper ?ztuple ?zzip ?yDIGITS ?yLETTERS ?yMOST_BORDERS ?yMOST_PERIOD ?yMOST_SIZE ?yMOST_STEPS ?aRest ?xRest ?tyR ?clR ?ffRi ?lRest_init ?cRest_init ?kRest_init ?iRest_init ?ffB ?lRest_bend ?cRest_bend ?kRest_bend ?iRest_bend ?ffW ?lRest_written ?cRest_written ?kRest_written ?iRest_written ?ffS ?lRest_str ?cRest_str ?kRest_str ?iRest_str ?ffE ?lRest_eq ?cRest_eq ?kRest_eq ?iRest_eq ?tyfR ?fiR ?opq ?tp ?a_Window ?tyWindow ?clWindow ?pgWindow ?hdWindow ?poWindow ?saWindow ?mkWindow ?kpWindow ?fiWindow ?lWindow_init ?lcWindow_init ?vfWindow_init ?ffWindow_init ?llWindow_init ?cdWindow_init ?isfWindow_init ?xWindow ?mrWindow ?moWindow ?nWindow_text ?nWindow_forms ?nWindow_period ?nWindow_bend ?nWindowwidth ?mWindowbend ?mWindowwritten ?mWindowstr ?mWindoweq ?mfWindow ?fcWindow ?lWindow_call ?cWindow_call ?kWindow_call ?iWindow_call ?fnWindow ?isWindow ?ssWindow ?haWindow ?hmWindow ?a_Days ?tyDays ?clDays ?pgDays ?hdDays ?poDays ?saDays ?mkDays ?kpDays ?fiDays ?lDays_init ?lcDays_init ?vfDays_init ?ffDays_init ?llDays_init ?cdDays_init ?isfDays_init ?xDays ?mrDays ?moDays ?nDays_text ?nDays_forms ?nDays_period ?nDays_bend ?nDays_borders ?nDaysevery ?mDaysbend ?mDayswritten ?mDaysstr ?mDayseq ?mfDays ?fcDays ?lDays_call ?cDays_call ?kDays_call ?iDays_call ?fnDays ?isDays ?ssDays ?haDays ?hmDays ?sWD ?sDW ?sintR ?sintW ?sintD ?sboolR ?sboolW ?sboolD ?sstrR ?sstrW ?sstrD ?sNoneTypeR ?sNoneTypeW ?sNoneTypeD ?slistR ?slistW ?slistD ?stupleR ?stupleW ?stupleD ?sdictR ?sdictW ?sdictD ?hn ?ht ?aRuleG ?tyRule ?clRule ?pgRule ?hdRule ?poRule ?saRule ?mkRule ?kpRule ?fiRule ?nRulename ?nRulechips ?nRulerest ?lRule_init ?cRule_init ?kRule_init ?iRule_init ?mRulestr ?lRule_str ?cRule_str ?kRule_str ?iRule_str ?mRuleeq ?lRule_eq ?cRule_eq ?kRule_eq ?iRule_eq ?haRule ?hmRule ?ssRule ?sintRule ?sstrRule ?a_InvalidName ?xInvalidName ?saInvalidName ?exInvalidName ?tyInvalidName ?kpInvalidName ?inInvalidName ?tiInvalidName ?gaInvalidName ?ggInvalidName ?hdInvalidName ?clInvalidName ?ssInvalidName ?nvalueInvalidName ?ncodeInvalidName ?lInvalidName_init ?cInvalidName_init ?kInvalidName_init ?iInvalidName_init ?a_InvalidNumber ?xInvalidNumber ?saInvalidNumber ?exInvalidNumber ?tyInvalidNumber ?kpInvalidNumber ?inInvalidNumber ?tiInvalidNumber ?gaInvalidNumber ?ggInvalidNumber ?hdInvalidNumber ?clInvalidNumber ?ssInvalidNumber ?nvalueInvalidNumber ?ncodeInvalidNumber ?lInvalidNumber_init ?cInvalidNumber_init ?kInvalidNumber_init ?iInvalidNumber_init ?a_InvalidRest ?xInvalidRest ?saInvalidRest ?exInvalidRest ?tyInvalidRest ?kpInvalidRest ?inInvalidRest ?tiInvalidRest ?gaInvalidRest ?ggInvalidRest ?hdInvalidRest ?clInvalidRest ?ssInvalidRest ?nvalueInvalidRest ?ncodeInvalidRest ?lInvalidRest_init ?cInvalidRest_init ?kInvalidRest_init ?iInvalidRest_init ?eUN ?eRN ?eRU ?aSure ?npt own
    (case acheck_count => k_is)
    (case lcheck_count => k_is)
    (case ccheck_count => k_is)
    (case kcheck_count => k_is)
    (case ais_whole => k_is)
    (case lis_whole => k_is)
    (case cis_whole => k_is)
    (case kis_whole => k_is)
    (case ais_number => k_is)
    (case lis_number => k_is)
    (case cis_number => k_is)
    (case kis_number => k_is)
    (case ais_name => k_is)
    (case lis_name => k_is)
    (case cis_name => k_is)
    (case kis_name => k_is)
    (case acheck_borders => k_is)
    (case lcheck_borders => k_is)
    (case ccheck_borders => k_is)
    (case kcheck_borders => k_is)
    (case afullest => k_is)
    (case lfullest => k_is)
    (case cfullest => k_is)
    (case kfullest => k_is)
    (case ais_within => k_is)
    (case lis_within => k_is)
    (case cis_within => k_is)
    (case kis_within => k_is)
    (case aladder => k_is)
    (case lladder => k_is)
    (case cladder => k_is)
    (case kladder => k_is)
    (case abag => k_is)
    (case lbag => k_is)
    (case cbag => k_is)
    (case kbag => k_is)
    (case adraw => k_is)
    (case ldraw => k_is)
    (case cdraw => k_is)
    (case kdraw => k_is)
    (case aof => k_is)
    (case lof => k_is)
    (case cof => k_is)
    (case kof => k_is)
    (case alike => k_is)
    (case llike => k_is)
    (case clike => k_is)
    (case klike => k_is)
    (case aodd => k_is)
    (case lodd => k_is)
    (case codd => k_is)
    (case kodd => k_is)
    (case ain => k_is)
    (case lin => k_is)
    (case cin => k_is)
    (case kin => k_is)
    (case anamed => k_is)
    (case lnamed => k_is)
    (case cnamed => k_is)
    (case knamed => k_is)
    (case awrong => k_is)
    (case lwrong => k_is)
    (case cwrong => k_is)
    (case kwrong => k_is)
    (case agiven => k_is)
    (case lgiven => k_is)
    (case cgiven => k_is)
    (case kgiven => k_is)
    (case aladder_due => k_is)
    (case lladder_due => k_is)
    (case cladder_due => k_is)
    (case kladder_due => k_is)
    (case arules_so => k_is)
    (case lrules_so => k_is)
    (case crules_so => k_is)
    (case krules_so => k_is)
    (case alet => k_is)
    (case llet => k_is)
    (case clet => k_is)
    (case klet => k_is)
    (case aasked_so => k_is)
    (case lasked_so => k_is)
    (case casked_so => k_is)
    (case kasked_so => k_is)
    (case aask => k_is)
    (case lask => k_is)
    (case cask => k_is)
    (case kask => k_is)
    (case aone_rule_so => k_is)
    (case lone_rule_so => k_is)
    (case cone_rule_so => k_is)
    (case kone_rule_so => k_is)
    (case lcone_rule_so => k_is)
    (case vpone_rule_so => rfl)
    (case hdone_rule_so => rfl)
    (case npone_rule_so => (first | kernel_rfl | rfl | decide +kernel))
    (case alaw => k_is)
    (case llaw => k_is)
    (case claw => k_is)
    (case klaw => k_is)
    (case lclaw => k_is)
    (case vplaw => rfl)
    (case hdlaw => rfl)
    (case nplaw => (first | kernel_rfl | rfl | decide +kernel))
    (case zall => k_is)
    (case zbool => k_is)
    (case zdict => k_is)
    (case zenumerate => k_is)
    (case zint => k_is)
    (case zisinstance => k_is)
    (case zlen => k_is)
    (case zlist => k_is)
    (case zmax => k_is)
    (case zmin => k_is)
    (case zrange => k_is)
    (case zsorted => k_is)
    (case zstr => k_is)
    (case zsum => k_is)
    (case zsuper => k_is)
    (case ztuple => k_is)
    (case zzip => k_is)
    (case yDIGITS => k_is)
    (case yLETTERS => k_is)
    (case yMOST_BORDERS => k_is)
    (case yMOST_PERIOD => k_is)
    (case yMOST_SIZE => k_is)
    (case yMOST_STEPS => k_is)
    (case aRest => k_is)
    (case xRest => k_is)
    (case tyR => k_is)
    (case clR => k_is)
    (case ffRi => k_is)
    (case lRest_init => k_is)
    (case cRest_init => k_is)
    (case kRest_init => k_is)
    (case iRest_init => k_is)
    (case ffB => k_is)
    (case lRest_bend => k_is)
    (case cRest_bend => k_is)
    (case kRest_bend => k_is)
    (case iRest_bend => k_is)
    (case ffW => k_is)
    (case lRest_written => k_is)
    (case cRest_written => k_is)
    (case kRest_written => k_is)
    (case iRest_written => k_is)
    (case ffS => k_is)
    (case lRest_str => k_is)
    (case cRest_str => k_is)
    (case kRest_str => k_is)
    (case iRest_str => k_is)
    (case ffE => k_is)
    (case lRest_eq => k_is)
    (case cRest_eq => k_is)
    (case kRest_eq => k_is)
    (case iRest_eq => k_is)
    (case tyfR => k_is)
    (case fiR => k_is)
    (case opq => k_is)
    (case tp => rfl)
    (case a_Window => k_is)
    (case tyWindow => k_is)
    (case clWindow => k_is)
    (case pgWindow => k_is)
    (case hdWindow => k_is)
    (case poWindow => k_is)
    (case saWindow => k_is)
    (case mkWindow => k_is)
    (case kpWindow => k_is)
    (case fiWindow => k_is)
    (case lWindow_init => k_is)
    (case lcWindow_init => k_is)
    (case vfWindow_init => rfl)
    (case ffWindow_init => rfl)
    (case llWindow_init => k_is)
    (case cdWindow_init => k_is)
    (case isfWindow_init => k_is)
    (case xWindow => k_is)
    (case mrWindow => k_is)
    (case moWindow => rfl)
    (case nWindow_text => k_is)
    (case nWindow_forms => k_is)
    (case nWindow_period => k_is)
    (case nWindow_bend => k_is)
    (case nWindowwidth => k_is)
    (case mWindowbend => k_is)
    (case mWindowwritten => k_is)
    (case mWindowstr => k_is)
    (case mWindoweq => k_is)
    (case mfWindow => k_is)
    (case fcWindow => k_is)
    (case lWindow_call => k_is)
    (case cWindow_call => k_is)
    (case kWindow_call => k_is)
    (case iWindow_call => k_is)
    (case fnWindow => k_is)
    (case isWindow => k_is)
    (case ssWindow => k_is)
    (case haWindow => k_is)
    (case hmWindow => k_is)
    (case a_Days => k_is)
    (case tyDays => k_is)
    (case clDays => k_is)
    (case pgDays => k_is)
    (case hdDays => k_is)
    (case poDays => k_is)
    (case saDays => k_is)
    (case mkDays => k_is)
    (case kpDays => k_is)
    (case fiDays => k_is)
    (case lDays_init => k_is)
    (case lcDays_init => k_is)
    (case vfDays_init => rfl)
    (case ffDays_init => rfl)
    (case llDays_init => k_is)
    (case cdDays_init => k_is)
    (case isfDays_init => k_is)
    (case xDays => k_is)
    (case mrDays => k_is)
    (case moDays => rfl)
    (case nDays_text => k_is)
    (case nDays_forms => k_is)
    (case nDays_period => k_is)
    (case nDays_bend => k_is)
    (case nDays_borders => k_is)
    (case nDaysevery => k_is)
    (case mDaysbend => k_is)
    (case mDayswritten => k_is)
    (case mDaysstr => k_is)
    (case mDayseq => k_is)
    (case mfDays => k_is)
    (case fcDays => k_is)
    (case lDays_call => k_is)
    (case cDays_call => k_is)
    (case kDays_call => k_is)
    (case iDays_call => k_is)
    (case fnDays => k_is)
    (case isDays => k_is)
    (case ssDays => k_is)
    (case haDays => k_is)
    (case hmDays => k_is)
    (case sWD => k_is)
    (case sDW => k_is)
    (case sintR => k_is)
    (case sintW => k_is)
    (case sintD => k_is)
    (case sboolR => k_is)
    (case sboolW => k_is)
    (case sboolD => k_is)
    (case sstrR => k_is)
    (case sstrW => k_is)
    (case sstrD => k_is)
    (case sNoneTypeR => k_is)
    (case sNoneTypeW => k_is)
    (case sNoneTypeD => k_is)
    (case slistR => k_is)
    (case slistW => k_is)
    (case slistD => k_is)
    (case stupleR => k_is)
    (case stupleW => k_is)
    (case stupleD => k_is)
    (case sdictR => k_is)
    (case sdictW => k_is)
    (case sdictD => k_is)
    (case hn => k_is)
    (case ht => k_is)
    (case aRuleG => k_is)
    (case tyRule => k_is)
    (case clRule => k_is)
    (case pgRule => k_is)
    (case hdRule => k_is)
    (case poRule => k_is)
    (case saRule => k_is)
    (case mkRule => k_is)
    (case kpRule => k_is)
    (case fiRule => k_is)
    (case nRulename => k_is)
    (case nRulechips => k_is)
    (case nRulerest => k_is)
    (case lRule_init => k_is)
    (case cRule_init => k_is)
    (case kRule_init => k_is)
    (case iRule_init => k_is)
    (case mRulestr => k_is)
    (case lRule_str => k_is)
    (case cRule_str => k_is)
    (case kRule_str => k_is)
    (case iRule_str => k_is)
    (case mRuleeq => k_is)
    (case lRule_eq => k_is)
    (case cRule_eq => k_is)
    (case kRule_eq => k_is)
    (case iRule_eq => k_is)
    (case haRule => k_is)
    (case hmRule => k_is)
    (case ssRule => k_is)
    (case sintRule => k_is)
    (case sstrRule => k_is)
    (case a_InvalidName => k_is)
    (case xInvalidName => k_is)
    (case saInvalidName => k_is)
    (case exInvalidName => k_is)
    (case tyInvalidName => k_is)
    (case kpInvalidName => k_is)
    (case inInvalidName => k_is)
    (case tiInvalidName => k_is)
    (case gaInvalidName => k_is)
    (case ggInvalidName => k_is)
    (case hdInvalidName => k_is)
    (case clInvalidName => k_is)
    (case ssInvalidName => k_is)
    (case nvalueInvalidName => k_is)
    (case ncodeInvalidName => k_is)
    (case lInvalidName_init => k_is)
    (case cInvalidName_init => k_is)
    (case kInvalidName_init => k_is)
    (case iInvalidName_init => k_is)
    (case a_InvalidNumber => k_is)
    (case xInvalidNumber => k_is)
    (case saInvalidNumber => k_is)
    (case exInvalidNumber => k_is)
    (case tyInvalidNumber => k_is)
    (case kpInvalidNumber => k_is)
    (case inInvalidNumber => k_is)
    (case tiInvalidNumber => k_is)
    (case gaInvalidNumber => k_is)
    (case ggInvalidNumber => k_is)
    (case hdInvalidNumber => k_is)
    (case clInvalidNumber => k_is)
    (case ssInvalidNumber => k_is)
    (case nvalueInvalidNumber => k_is)
    (case ncodeInvalidNumber => k_is)
    (case lInvalidNumber_init => k_is)
    (case cInvalidNumber_init => k_is)
    (case kInvalidNumber_init => k_is)
    (case iInvalidNumber_init => k_is)
    (case a_InvalidRest => k_is)
    (case xInvalidRest => k_is)
    (case saInvalidRest => k_is)
    (case exInvalidRest => k_is)
    (case tyInvalidRest => k_is)
    (case kpInvalidRest => k_is)
    (case inInvalidRest => k_is)
    (case tiInvalidRest => k_is)
    (case gaInvalidRest => k_is)
    (case ggInvalidRest => k_is)
    (case hdInvalidRest => k_is)
    (case clInvalidRest => k_is)
    (case ssInvalidRest => k_is)
    (case nvalueInvalidRest => k_is)
    (case ncodeInvalidRest => k_is)
    (case lInvalidRest_init => k_is)
    (case cInvalidRest_init => k_is)
    (case kInvalidRest_init => k_is)
    (case iInvalidRest_init => k_is)
    (case eUN => k_is)
    (case eRN => k_is)
    (case eRU => k_is)
    (case aSure => k_is)
    (case npt => decide)