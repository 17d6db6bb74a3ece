import PyProof.Rows.All
import Wide.All
import OpenK.AllK
import Wide.FinOn
import HandS.ForMost
import HandS.IsInst
import HandS.Evl
import HandS.Zip
import HandS.ExcInit
import HandS.ExcIs
import HandS.Walk
import KE.KExcIs
import KE.KxText
import HandS.Nested
import HandS.Star
import HandS.More
import HandS.MethStar
import KE.KSuper
import HandS.FStr
import HandS.Gcd
import KE.KMathGC
import HandS.TupSets
import HandS.RaiseMore
import HandS.TupAny
import HandS.ForExc
import HandS.TryMany
import HandS.ExcField
import HandS.SlotsOwn
import KE.KFmtOwn
import KE.KCallOwn
import HandS.DeepEq
import HandS.Lambda
import HandS.EndTab
import HandS.HeadWalk
import HandS.Defaults
import HandS.MakeKwOnly
import HandS.EndOwn
import PyProof.InstNe
import KE.GoesMore
import HandS.Ends
import HandS.Rev
import HandS.Deep
import HandS.Dict
import HandS.DictComp
import KE.DataFind
import KE.DatumMoreOrd
import KE.KDictCopyH
import HandS.WordsDict
import HandS.NoneIn
import HandS.SetKeys
import HandS.Iter
import PySem.Challenge.RW_surelet_k12_whole_trees_refused
set_option Elab.async false
set_option linter.all false
set_option maxRecDepth 100000
set_option maxHeartbeats 4000000
namespace LC
open PySem L2
/-- a def as it stands behind the top: its text, its name, how its arguments bind -/
structure Def (K : PySem.W.Frag) (mg : Str → Option Value) (x : Str) (st : Stmt) (ps : List Str) (f : Addr) (fd : FuncData) : Prop where
  F : Fun K x x st f fd
  g : mg x = some (.ref f)
  b : Binds K fd ps []
/-- all but the bag at g is as it was -/
def Kp (g : Addr) (H H' : Hp) : Prop := ∀ b o, b ≠ g → H b = some o → H' b = some o
theorem Kp.refl (g : Addr) (H : Hp) : Kp g H H := fun _ _ _ h => h
theorem Kp.trans {g : Addr} {H H1 H2 : Hp} (a : Kp g H H1) (b : Kp g H1 H2) : Kp g H H2 := fun c o n h => b c o n (a c o n h)
theorem Kp.upd {g : Addr} {H H1 : Hp} {p : Addr} {o : HO} (a : Kp g H H1) (h : H1 p = none) : Kp g H (upd H1 p o) := fun c u n e => by
  have q := a c u n e
  rw [upd_ne (ne_of_none q h)]
  exact q
theorem Kp.bag {g : Addr} {H H1 : Hp} {o : HO} (a : Kp g H H1) : Kp g H (L2.upd H1 g o) := fun c u n e => by
  rw [upd_ne n]
  exact a c u n e
theorem Kp.free {g : Addr} {H H' : Hp} (e : Kp g H H') {l : Addr} (hl : l ≠ g) (h : H' l = Option.none) : H l = Option.none := by
  cases q : H l with
  | none => rfl
  | some o =>
    rw [e l o hl q] at h
    cases h
/-- the bag of draws at g, the script's copy at l -/
def Bag (l : Addr) (H : Hp) (g : Addr) : Prop := ∃ (ns : List Int) (i d s c : Int), H g = some (.lst [.ref l, .int i, .int d, .int s, .int c]) ∧ l ≠ g ∧ H l = some (.lst (ns.map V.int)) ∧
  0 ≤ i ∧ i ≤ ns.length ∧ 0 ≤ d ∧ 0 ≤ s ∧ s < 2147483399
theorem Bag.there {l : Addr} {H : Hp} {g : Addr} (B : Bag l H g) : (∃ xs, H g = some (.lst xs)) ∧ ∃ xs, H l = some (.lst xs) := by
  obtain ⟨ns, i, d, s, c, h, _, h2, _⟩ := B
  exact ⟨⟨_, h⟩, ⟨_, h2⟩⟩
theorem Bag.ne {l : Addr} {H : Hp} {g p : Addr} (B : Bag l H g) (h : H p = none) : p ≠ g ∧ p ≠ l := by
  obtain ⟨⟨xs, q⟩, ⟨ys, r⟩⟩ := B.there
  refine ⟨fun e => ?_, fun e => ?_⟩
  · rw [e, q] at h
    cases h
  · rw [e, r] at h
    cases h
theorem Bag.mut {l : Addr} {H : Hp} {g p : Addr} {o : HO} (B : Bag l H g) (h : p ≠ g) (h' : p ≠ l) : Bag l (L2.upd H p o) g := by
  obtain ⟨ns, i, d, s, c, h1, h2, h3, r⟩ := B
  exact ⟨ns, i, d, s, c, by rw [upd_ne (Ne.symm h)]; exact h1, h2, by rw [upd_ne (Ne.symm h')]; exact h3, r⟩
/-- from H0 to H: all but the bag stands, things came beside it, the bag is one -/
structure Ok (g l : Addr) (H0 H : Hp) : Prop where
  b0 : Bag l H0 g
  kp : Kp g H0 H
  bag : Bag l H g
theorem Ok.refl {g l : Addr} {H : Hp} (B : Bag l H g) : Ok g l H H := ⟨B, Kp.refl g H, B⟩
theorem Ok.trans {g l : Addr} {H H1 H2 : Hp} (a : Ok g l H H1) (b : Ok g l H1 H2) : Ok g l H H2 := ⟨a.b0, a.kp.trans b.kp, b.bag⟩
theorem Ok.new {g l p : Addr} {H H1 : Hp} {o : HO} (a : Ok g l H H1) (h : H1 p = none) : Ok g l H (L2.upd H1 p o) := ⟨a.b0, a.kp.upd h, a.bag.mut (a.bag.ne h).1 (a.bag.ne h).2⟩
theorem Ok.free {g l p : Addr} {H H1 : Hp} (a : Ok g l H H1) (h : H1 p = none) : H p = none := a.kp.free (a.bag.ne h).1 h
theorem Ok.mut {g l p : Addr} {H H1 : Hp} {o : HO} (a : Ok g l H H1) (h : H p = none) : Ok g l H (L2.upd H1 p o) :=
  ⟨a.b0, fun b u n e => by rw [upd_ne (ne_of_none e h)]; exact a.kp b u n e, a.bag.mut (a.b0.ne h).1 (a.b0.ne h).2⟩
theorem Ok.at_ {g l p : Addr} {H H1 : Hp} {o : HO} (a : Ok g l H H1) (h : H p = some o) (n : p ≠ g) : H1 p = some o := a.kp p o n h
theorem SqL.kp {K : PySem.W.Frag} {g : Addr} {H H' : Hp} {a : Addr} {xs : List V} (e : Kp g H H') (n : a ≠ g) (h : SqL K H a xs) : SqL K H' a xs := by
  rcases h with (h | ⟨o, h⟩) | h
  · exact .inl (.inl (e _ _ n h))
  · exact .inl (.inr ⟨o, e _ _ n h⟩)
  · exact .inr h
theorem SqT.kp {K : PySem.W.Frag} {g : Addr} {H H' : Hp} {a : Addr} {xs : List V} (e : Kp g H H') (n : a ≠ g) (h : SqT K H a xs) : SqT K H' a xs := by
  rcases h with (h | ⟨o, h⟩) | h
  · exact .inl (.inl (e _ _ n h))
  · exact .inl (.inr ⟨o, e _ _ n h⟩)
  · exact .inr h
theorem ite_b {c : Bool} {A B : Prop} (h1 : c = true → A) (h2 : c = false → B) : if c = true then A else B := by
  cases c with
  | true => exact iteT (h1 rfl)
  | false => exact iteF (h2 rfl)
/-- a test of two ints -/
theorem ite_d {p : Prop} [Decidable p] {A B : Prop} (h1 : p → A) (h2 : ¬ p → B) : if decide p = true then A else B := by
  by_cases h : p
  · rw [decide_eq_true h]
    exact iteT (h1 h)
  · rw [decide_eq_false h]
    exact iteF (h2 h)
theorem ite_eq {i j : Int} {A B : Prop} (h1 : i = j → A) (h2 : i ≠ j → B) : if decide (V.int i = V.int j) = true then A else B :=
  ite_d (fun h => h1 (V.int.inj h)) fun h => h2 fun e => h (by rw [e])
section
variable {X : Cx} {CX : CXT} {k : Nat} {f : Addr} {fd : FuncData} {ps ks : List Str} {sp : Sp} {E : XK} {x : Str} {p pos : Pos} {kws : List Keyword} {tk : TA} {g : List Value → List Value → List Value} {gV : List V → List V → List V}
theorem pe_callK0 (F : FnOk X.prog X.w X.K X.mg X.base CX k f fd ps sp) (hr : Room k X.A) (hg : Gl X x) (hm : X.mg x = some (.ref f)) (hk : PySem.W.keepIn X.K (.ref f) = true) (hb : KBinds X.K fd ps ks g gV) (hx : Passes CX X E)
    (hkw : PK X kws tk) (hall : (backToKw pos (keywordEach kws X.env)).all (·.1.isSome) = true := by rfl) (hks : (backToKw pos (keywordEach kws X.env)).filterMap (·.1) = ks := by rfl)
    (hdb : (x == ("__debug__" : Str)) = false := by decide) (hpl : ((backTo pos (starEach [] X.env)).any (·.1) || (backToKw pos (keywordEach kws X.env)).any (·.1.isNone)) = false := by rfl) :
    PE X (.Call (.Name x p) [] kws pos) (tCallK sp gV E tNil tk) := by
  refine ⟨fun pins s σ H Q I h => ?_⟩
  refine wpAny_Call_Name_kw (ld_glob I hg hm ?_ hdb)
  refine PySem.W.callWith_KW0 (h₀ := X.base) I.ok.mod.kin hk hall ?_ hpl
  refine thn (hkw.run pos pins s σ H _ I h) fun ws s2 ⟨zs, H2, I2, rz, q2⟩ => ⟨I2.kIn, ?_⟩
  rw [hks]
  exact run_fnk (us := []) F hr hb hx I2 .nil rz q2
end
end LC
namespace LC
open PySem L2
theorem cut_ints (ns : List Int) (lo hi : Option Int) : ∃ ms : List Int, cutV (ns.map V.int) lo hi = ms.map V.int ∧ ms.length ≤ ns.length := by
  refine ⟨(ns.drop (HT.sIx ns.length 0 lo)).take (HT.sIx ns.length ns.length hi - HT.sIx ns.length 0 lo), ?_, ?_⟩
  · unfold cutV
    rw [List.length_map, ← List.map_drop, ← List.map_take]
  · rw [List.length_take, List.length_drop]
    omega
theorem same_new {H : Hp} {p : Addr} {o : HO} (h : H p = none) : Same H (upd H p o) := fun b u e => by
  rw [upd_ne (ne_of_none e h)]
  exact e
theorem int_of {ns : List Int} {i : Nat} {y : V} (h : (ns.map V.int)[i]? = some y) : ∃ u, y = V.int u := by
  rw [List.getElem?_map] at h
  cases e : ns[i]? with
  | none =>
    rw [e] at h
    cases h
  | some u =>
    rw [e] at h
    exact ⟨u, (Option.some.inj h).symm⟩
end LC

namespace LC
theorem fmod_nn (a : Int) {n : Int} (h : 0 < n) : 0 ≤ a.fmod n := by
  rw [Int.fmod_eq_emod_of_nonneg _ (Int.le_of_lt h)]
  exact Int.emod_nonneg _ (by omega)
theorem fmod_lt (a : Int) {n : Int} (h : 0 < n) : a.fmod n < n := by
  rw [Int.fmod_eq_emod_of_nonneg _ (Int.le_of_lt h)]
  exact Int.emod_lt_of_pos _ h
end LC

namespace LC
open PySem L2
/-- a value of any of the drawn kinds; C: the error's class -/
inductive Th (C g : Addr) (H : Hp) : V → Prop where
  | non : Th C g H .non
  | bl (b : Bool) : Th C g H (.bl b)
  | int (i : Int) : Th C g H (.int i)
  | str (z : Str) (h : z.length ≤ 1000000) : Th C g H (.str z)
  | lst {a : Addr} {xs : List V} (h : H a = some (.lst xs)) (n : a ≠ g) : Th C g H (.ref a)
  | tup {a : Addr} {xs : List V} (h : H a = some (.tup xs)) (n : a ≠ g) : Th C g H (.ref a)
  | dK {a : Addr} {kvs : List (Key × V)} (h : H a = some (.dK kvs)) (n : a ≠ g) : Th C g H (.ref a)
  | exo {a d : Addr} {fs : List (Str × V)} (h : H a = some (exo a C (some d))) (n : a ≠ g) (hd : H d = some (exd d fs)) (nd : d ≠ g) : Th C g H (.ref a)
theorem Th.kp {C g : Addr} {H H' : Hp} {v : V} (r : Kp g H H') (t : Th C g H v) : Th C g H' v := by
  cases t with
  | non => exact .non
  | bl b => exact .bl b
  | int i => exact .int i
  | str z h => exact .str z h
  | lst h n => exact .lst (r _ _ n h) n
  | tup h n => exact .tup (r _ _ n h) n
  | dK h n => exact .dK (r _ _ n h) n
  | exo h n hd nd => exact .exo (r _ _ n h) n (r _ _ nd hd) nd
theorem Th.list {C g l : Addr} {H0 H : Hp} {p : Addr} {xs : List V} (a : Ok g l H0 H) (h : H p = none) : Th C g (upd H p (.lst xs)) (.ref p) := .lst upd_same (a.bag.ne h).1
theorem Th.tupl {C g l : Addr} {H0 H : Hp} {p : Addr} {xs : List V} (a : Ok g l H0 H) (h : H p = none) : Th C g (upd H p (.tup xs)) (.ref p) := .tup upd_same (a.bag.ne h).1
theorem upd_kp {g l : Addr} {H0 H : Hp} {p : Addr} {o : HO} (a : Ok g l H0 H) (h : H p = none) : Kp g H (upd H p o) := (Ok.new (Ok.refl a.bag) h).kp
/-- a comprehension over a text whose element leaves the heap -/
theorem lc_text {z : Str} {j : Nat} {te : TE} {vs : List Nat} {σ : L2.St} {H1 : Hp} {D : Addr} {Qd : Hp → Prop} (f : Nat → V) (hD : H1 D = none) (hz : z.length ≤ 1000000) (hw : ∀ x, wipe ((wipe σ vs).set j (some x)) vs = wipe σ vs)
    (he : ∀ (c : Nat) (H : Hp) (Q : VK), c ∈ z.cps.toList → Q (f c) H → te ((wipe σ vs).set j (some (.str ⟨#[c]⟩))) H Q) (hd : Qd (upd H1 D (.lst (z.cps.toList.map f)))) :
    ∃ W : Nat → Nat → Hp → Prop, (∃ m, W 0 m (upd H1 D (.lst []))) ∧ ∀ i m H, W i m H →
      ((Its z).stop i H ∧ Qd H) ∨ ((Its z).go i H ∧ ∃ Nx : Hp → Prop, (∀ H', Nx H' → ∃ m', m' < m ∧ W (i + 1) m' H') ∧ ∀ x H', (Its z).yld i H x H' → gName j x (wipe σ vs) H' fun σ2 H2 => wipe σ2 vs = wipe σ vs ∧ tYes σ2 H2 fun b H3 =>
        if b = true then te σ2 H3 fun y H4 => ∃ acc, H4 D = some (.lst acc) ∧ acc.length < sizeLine ∧ Nx (upd H4 D (.lst (acc ++ [y]))) else Nx H3) := by
  have hn : z.cps.toList.length = z.cps.size := Array.length_toList
  refine lc_it (walk_str (z := z)) (fun i H => i ≤ z.cps.size ∧ H = upd H1 D (.lst ((z.cps.toList.take i).map f))) ⟨Nat.zero_le _, rfl⟩ (fun _ _ _ _ => trivial) ?_ ?_
  · rintro i x H H' hi ⟨_, rfl⟩ ⟨rfl, c, hc, rfl⟩
    refine ⟨hw _, ?_⟩
    have hc' : z.cps.toList[i]? = some c := by rw [Array.getElem?_toList]; exact hc
    refine he c _ _ (List.mem_of_getElem? hc') ?_
    refine ⟨_, upd_same, ?_, hi, ?_⟩
    · rw [List.length_map, List.length_take]
      have e1 : z.cps.size = z.length := rfl
      exact Nat.lt_of_le_of_lt (Nat.min_le_right _ _) (Nat.lt_of_le_of_lt (by rw [hn, e1]; exact hz) (by decide : 1000000 < sizeLine))
    · rw [upd_upd, List.take_add_one, hc', List.map_append]
      rfl
  · rintro H ⟨_, rfl⟩
    rw [← hn, List.take_length]
    exact hd
end LC
namespace LC
open PySem L2 PySem.Spec PyProof.Rows
/-- C(e, ..) as a value, C an own error class over ValueError with its own __init__, which keeps sp -/
def tMkV (C : Addr) (sp : Sp) (ta : TA) : TE := fun σ H Q => ta σ H fun vs H1 => vs.length ≤ 1000 ∧ ∀ a, H1 a = none → sp (.ref a :: vs) (upd H1 a (exo a C none)) (fun v H2 => v = .non ∧ Q (.ref a) H2) (fun _ _ _ => False)
section
variable {X : Cx} {e : Expr} {es : List Expr} {ta : TA} {p pos : Pos}
theorem pe_oexV {CX : CXT} {x : Str} {C fI : Addr} {k : Nat} {fd : FuncData} {ps : List Str} {sp : Sp} (T : OexC X.K C) (iC : PySem.W.findIn X.K (.ref C) "__init__" = some (some (.ref fI))) (tI : PySem.W.typeIn X.K (.ref fI) = some (.type "function"))
    (F1 : FnOk X.prog X.w X.K X.mg X.base CX k fI fd ps sp) (hr : Room (k + 1) X.A) (hb : Binds X.K fd ps []) (hx : Passes CX X (fun _ _ _ => False)) (hg : Gl X x) (hm : X.mg x = some (.ref C)) (ha : PA X (e :: es) ta)
    (hdb : (x == ("__debug__" : Str)) = false := by decide) (he : starEach (e :: es) X.env = (false, eval e X.env) :: starEach es X.env := by rfl) (hpl : (backTo pos (starEach es X.env)).any (·.1) = false := by rfl) :
    PE X (.Call (.Name x p) (e :: es) [] pos) (tMkV C sp ta) := by
  refine ⟨fun pins s σ H Q I h => ?_⟩
  obtain ⟨nm, q, N, bs, bm, sn, sub, ab, col, dd, k0, k1, k2, k3, k5, hC, hbm⟩ := T.cls
  refine wpAny_Call_Name_kw (ld_glob I hg hm ?_ hdb)
  refine PySem.W.callWith_K (h₀ := X.base) I.ok.mod.kin T.kC (thn (ha.run pos pins s σ H _ I h) fun us s1 ⟨vs, H1, I1, r1, hz, q1⟩ => ⟨I1.kIn, ?_⟩) he hpl
  show wpAny _ _ (call (.ref C) us) _ _ _
  obtain ⟨hp, g, dr, tk, os⟩ := s1
  have hsz : hp.objs.size ≤ hp.objs.size + 1 := Nat.le_succ _
  have hn : H1 (hp.objs.size + 1) = none := I1.hok.fresh hsz
  have hq := q1 (hp.objs.size + 1) hn
  have kk : ∀ b o, hp.get? b = some o → ((hp.push (PySem.W.kdv_tup us)).push (PySem.HandSPX.excO C hp.objs.size)).get? b = some o := fun b o e => Heap.get?_push_of_some _ (Heap.get?_push_of_some _ e)
  have hget : ((hp.push (PySem.W.kdv_tup us)).push (PySem.HandSPX.excO C hp.objs.size)).get? (hp.objs.size + 1) = some (PySem.HandSPX.excO C hp.objs.size) := by heap_get
  have I2 : L2.Inv X pins σ (upd H1 (hp.objs.size + 1) (exo (hp.objs.size + 1) C none)) ⟨(hp.push (PySem.W.kdv_tup us)).push (PySem.HandSPX.excO C hp.objs.size), g, dr, tk, os⟩ :=
    I1.laid (t' := tk) (a := hp.objs.size + 1) (o := exo (hp.objs.size + 1) C none) (h' := (hp.push (PySem.W.kdv_tup us)).push (PySem.HandSPX.excO C hp.objs.size)) kk hsz (exo_ok hget)
  have r2 : Vals (V.ref (hp.objs.size + 1) :: vs) (Value.ref (hp.objs.size + 1) :: us) := .cons rfl r1
  have hl : (Value.ref (hp.objs.size + 1) :: us ++ []).length = ps.length := by
    have e := r2.length
    rw [F1.len _ _ _ _ hq] at e
    rw [List.append_nil]
    exact e.symm
  have hus : us.length ≤ sizeLine := by
    rw [← Paired.length r1, sizeLine_eq]
    omega
  have hbb := hb _ (Value.ref (hp.objs.size + 1) :: us) I2.kIn hl
  rw [List.append_nil] at hbb
  refine wpAny_call (PySem.HandSPX.call_own F.excBase_ValueError (fun Y => PySem.HandSPX.refsVE_contains Y bm hbm) (I1.kIn _ _ hC) (PySem.W.looks_findIn I1.kIn iC) (fun self => PySem.W.bind_fn I1.kIn self tI) hus
    (codeAny_mono (F1.run _ X.stack _ _ ⟨Value.ref (hp.objs.size + 1) :: us, []⟩ (Value.ref (hp.objs.size + 1) :: us) _ _ (fun _ _ _ => False) (hr.make C us []) (I2.env0.make C us []) hbb r2 hq) fun r s' hq' => ?_))
  cases r with
  | error er => exact hx pins σ _ _ er s' I2 hq'
  | ok fl =>
    cases fl with
    | ret u =>
      obtain ⟨v, H2, os2, bare2, un2, hok2, rv, ev, q2⟩ := hq'
      subst ev
      exact ⟨rv, .ref (hp.objs.size + 1), H2, I2.call' (ch := []) os2 un2 hok2 bare2 (fun b hb => by cases hb), rfl, q2⟩
    | next => exact False.elim hq'
    | brk => exact False.elim hq'
    | cont => exact False.elim hq'
end
/-- what the written part says of an own error class, for isinstance -/
structure IsC (K : PySem.W.Frag) (C : Addr) : Prop where
  hcl : (PySem.W.clsIn K C).isSome = true
  hga : PySem.W.findIn K (.ref C) "__getattribute__" = some (some (.builtin "BaseException.__getattribute__"))
  hgt : PySem.W.findIn K (.ref C) "__getattr__" = some none
  hsub : PySem.W.subIn K (.ref C) (.type "BaseException") = some true
  ha : PySem.W.findIn K (.ref C) "__class__" = some (some (.builtin "object.__class__"))
  hn : PySem.W.specialIn K (.builtin "object.__class__") "__get__" = some (some (.builtin "getset_descriptor.__get__"))
  htk : PySem.W.takesIn K (.builtin "object.__class__") = some true
  hm : PySem.W.mroIn K C (.type "object") = some true
/-- isinstance(x, c), x an own error too -/
def rIsX (K : PySem.W.Frag) : List V → Hp → VK → Prop := fun xs H Q => rIsi K xs H Q ∨
  ∃ (a C d : Addr) (c : V) (cv : Value) (b : Bool) (fs : List (Str × V)), xs = [.ref a, c] ∧ IsC K C ∧ H a = some (exo a C (some d)) ∧ H d = some (exd d fs) ∧ ClsV c cv ∧ PySem.W.kitOne K (.ref C) cv = some b ∧ Q (.bl b) H
theorem call_isX {X : Cx} : CallR X (.builtin "isinstance") (rIsX X.K) := by
  intro pins s σ H xs us Q I r h
  rcases h with h | ⟨a, C, d, c, cv, b, fs, rfl, T, ha, hd, k, e, q⟩
  · exact call_isi pins s σ H xs us Q I r h
  · obtain ⟨u1, u2, rfl, r1, r2⟩ := vals2 r
    have e2 := k.eq r2
    subst e2
    obtain rfl : u1 = Value.ref a := r1
    obtain ⟨t1, ho⟩ := exo_at I.hok ha
    obtain ⟨od, hod⟩ : ∃ od, s.heap.get? d = some od := by
      obtain ⟨_, z, _⟩ := I.hok d _ hd
      exact z
    have J : PySem.W.InstAt s.heap a { cls := .ref C, dict := some d, data := .fields #[.ref t1, .none, .none, .none, .bool false, .none] } C (some od) := ⟨ho, rfl, rfl, hod⟩
    exact PySem.W.kia_one (PySem.W.kitx_exc T.hcl T.hga T.hgt T.hsub T.ha T.hn T.htk T.hm) I.kIn J e (fun z => nomatch z) fun tk => ⟨.bl b, H, I.tok tk, rfl, q⟩
end LC

namespace LC
open PySem L2
/-! the values of isinstance(x, int | bool | str) -/
def isI : V → Bool | .int _ => true | .bl _ => true | _ => false
def isB : V → Bool | .bl _ => true | _ => false
def isS : V → Bool | .str _ => true | _ => false
/-- what the error's class answers -/
structure NoB (K : PySem.W.Frag) (C : Addr) : Prop where
  is : IsC K C
  i : PySem.W.kitOne K (.ref C) (.type "int") = some false
  b : PySem.W.kitOne K (.ref C) (.type "bool") = some false
  s : PySem.W.kitOne K (.ref C) (.type "str") = some false
theorem isi_th {K : PySem.W.Frag} {C g : Addr} {H : Hp} {v : V} {Q : VK} (N : NoB K C) (t : Th C g H v) : (Q (.bl (isI v)) H → rIsX K [v, .ty "int"] H Q) ∧ (Q (.bl (isB v)) H → rIsX K [v, .ty "bool"] H Q) ∧ (Q (.bl (isS v)) H → rIsX K [v, .ty "str"] H Q) := by
  have go : ∀ {x : V} {T S : String} {b : Bool}, TyOf K H x (.type T) → kitB T S = some b → Q (.bl b) H → rIsX K [x, .ty S] H Q := fun ty e q => .inl ⟨_, _, _, _, _, rfl, .ty _, .base ty, kit_ty e, q⟩
  cases t with
  | non => exact ⟨go .non (show kitB "NoneType" "int" = some false by decide +kernel), go .non (show kitB "NoneType" "bool" = some false by decide +kernel), go .non (show kitB "NoneType" "str" = some false by decide +kernel)⟩
  | bl b => exact ⟨go (.bl b) (show kitB "bool" "int" = some true by decide +kernel), go (.bl b) (show kitB "bool" "bool" = some true by decide +kernel), go (.bl b) (show kitB "bool" "str" = some false by decide +kernel)⟩
  | int i => exact ⟨go (.int i) (show kitB "int" "int" = some true by decide +kernel), go (.int i) (show kitB "int" "bool" = some false by decide +kernel), go (.int i) (show kitB "int" "str" = some false by decide +kernel)⟩
  | str z h => exact ⟨go (.str z) (show kitB "str" "int" = some false by decide +kernel), go (.str z) (show kitB "str" "bool" = some false by decide +kernel), go (.str z) (show kitB "str" "str" = some true by decide +kernel)⟩
  | lst h n => exact ⟨go (.lst h) (show kitB "list" "int" = some false by decide +kernel), go (.lst h) (show kitB "list" "bool" = some false by decide +kernel), go (.lst h) (show kitB "list" "str" = some false by decide +kernel)⟩
  | tup h n => exact ⟨go (.tup h) (show kitB "tuple" "int" = some false by decide +kernel), go (.tup h) (show kitB "tuple" "bool" = some false by decide +kernel), go (.tup h) (show kitB "tuple" "str" = some false by decide +kernel)⟩
  | dK h n => exact ⟨go (.dK h) (show kitB "dict" "int" = some false by decide +kernel), go (.dK h) (show kitB "dict" "bool" = some false by decide +kernel), go (.dK h) (show kitB "dict" "str" = some false by decide +kernel)⟩
  | exo h n hd nd => exact ⟨fun q => .inr ⟨_, C, _, _, _, _, _, rfl, N.is, h, hd, .ty _, N.i, q⟩, fun q => .inr ⟨_, C, _, _, _, _, _, rfl, N.is, h, hd, .ty _, N.b, q⟩, fun q => .inr ⟨_, C, _, _, _, _, _, rfl, N.is, h, hd, .ty _, N.s, q⟩⟩
def isNum (v : V) (lo hi : Int) : Bool := match v with | .int i => decide (lo ≤ i) && decide (i ≤ hi) | _ => false
def chL (c : Nat) : Bool := decide (97 ≤ c) && decide (c ≤ 122)
def chD (c : Nat) : Bool := decide (48 ≤ c) && decide (c ≤ 57)
def isNam (v : V) : Bool := match v with | .str z => decide (1 ≤ z.length) && decide (z.length ≤ 8) && chL (z.cps.toList.getD 0 0) && z.cps.toList.all (fun c => chL c || chD c) | _ => false
theorem mem_low (c : Nat) : decide (c ∈ ("abcdefghijklmnopqrstuvwxyz" : Str).cps.toList) = chL c := by
  have e : ("abcdefghijklmnopqrstuvwxyz" : Str).cps.toList = List.range' 97 26 := by decide +kernel
  rw [e]
  unfold chL
  rw [← Bool.decide_and]
  refine decide_eq_decide.mpr ?_
  rw [List.mem_range'_1]
  omega
theorem mem_dig (c : Nat) : decide (c ∈ ("0123456789" : Str).cps.toList) = chD c := by
  have e : ("0123456789" : Str).cps.toList = List.range' 48 10 := by decide +kernel
  rw [e]
  unfold chD
  rw [← Bool.decide_and]
  refine decide_eq_decide.mpr ?_
  rw [List.mem_range'_1]
  omega
end LC
namespace LC
open PySem L2
theorem pe_ty {X : Cx} {x : Str} {pos : Pos} (n : String) (hg : Gl X x) (hm : X.mg x = none) (hv : bootBuiltins x = some (.type n)) (hn : x ≠ "__name__" := by decide) (hd : (x == ("__debug__" : Str)) = false := by decide) : PE X (.Name x pos) (tC (.ty n)) :=
  pe_bltn hg hm hv rfl hn hd
end LC
namespace LC
open PySem L2
theorem ite_nd {p : Prop} [Decidable p] {A B : Prop} (h1 : ¬ p → A) (h2 : p → B) : if (!decide p) = true then A else B := by
  by_cases h : p
  · rw [decide_eq_true h]
    exact iteF (h2 h)
  · rw [decide_eq_false h]
    exact iteT (h1 h)
theorem ite_nb {c : Bool} {A B : Prop} (h1 : c = false → A) (h2 : c = true → B) : if (!c) = true then A else B := by
  cases c with
  | true => exact iteF (h2 rfl)
  | false => exact iteT (h1 rfl)
theorem ite_is {a b : Bool} {A B : Prop} (e : a = b) (h1 : b = true → A) (h2 : b = false → B) : if a = true then A else B := by
  subst e
  exact ite_b h1 h2
theorem Ok.same {g l : Addr} {H0 H H' : Hp} (a : Ok g l H0 H) (s : Same H H') : Ok g l H0 H' := by
  refine ⟨a.b0, fun b o n e => s _ _ (a.kp b o n e), ?_⟩
  obtain ⟨ns, i, d, t, c, h1, h2, h3, r⟩ := a.bag
  exact ⟨ns, i, d, t, c, s _ _ h1, h2, s _ _ h3, r⟩
theorem Th.same {C g : Addr} {H H' : Hp} {v : V} (t : Th C g H v) (s : Same H H') : Th C g H' v := t.kp fun b o _ e => s b o e
theorem len1 {z : Str} (h : 1 ≤ z.length) : ∃ c, z.cps.toList[0]? = some c ∧ z.cps.toList.getD 0 0 = c := by
  have e : z.cps.toList.length = z.length := rfl
  have h0 : 0 < z.cps.toList.length := by omega
  refine ⟨z.cps.toList[0], List.getElem?_eq_getElem h0, ?_⟩
  rw [List.getD_eq_getElem?_getD, List.getElem?_eq_getElem h0]
  rfl
theorem sz_str {z : Str} (h : z.length ≤ 1000000) : z.length ≤ sizeLine := Nat.le_trans h (by decide)
theorem bls_map {α : Type} (l : List α) (f : α → Bool) : (l.map fun c => V.bl (f c)) = (l.map f).map V.bl := by
  rw [List.map_map]
  rfl
theorem all_id {α : Type} (l : List α) (f : α → Bool) : (l.map f).all id = l.all f := by
  rw [List.all_map]
  rfl
theorem isNam_str (z : Str) : isNam (.str z) = (decide (1 ≤ z.length) && decide (z.length ≤ 8) && chL (z.cps.toList.getD 0 0) && z.cps.toList.all (fun c => chL c || chD c)) := rfl
end LC
namespace LC
open PySem L2
theorem pe_gstr {X : Cx} {x z : Str} {t : Tok} {pos : Pos} (hg : Gl X x) (hm : X.mg x = some (.str z t)) (hd : (x == ("__debug__" : Str)) = false := by decide) : PE X (.Name x pos) (tC (.str z)) := pe_glob hg hm ⟨_, rfl⟩ hd
theorem pe_gint {X : Cx} {x : Str} {z : Int} {t : Tok} {pos : Pos} (hg : Gl X x) (hm : X.mg x = some (.int z t)) (hd : (x == ("__debug__" : Str)) = false := by decide) : PE X (.Name x pos) (tC (.int z)) := pe_glob hg hm ⟨_, rfl⟩ hd
end LC

namespace LC
open PySem L2
/-- ord('a') <= ord(sign) <= ord('z') as an element -/
theorem ord_in {a b : Str} {c i lo hi : Nat} {σ : L2.St} {H : Hp} {Q : VK} {f : Nat → Bool} (h1 : a.length = 1 ∧ a.cps.getD 0 0 = lo) (h2 : b.length = 1 ∧ b.cps.getD 0 0 = hi) (hf : f c = (decide (lo ≤ c) && decide (c ≤ hi))) (hs : σ[i]? = some (some (.str ⟨#[c]⟩))) (q : Q (.bl (f c)) H) :
    tChain (rI0 fun i j => .bl (decide (i ≤ j))) (rI0 fun i j => .bl (decide (i ≤ j))) (tCB (fun xs H Q => ∃ x, xs = [.str x] ∧ x.length = 1 ∧ Q (.int (x.cps.getD 0 0 : Nat)) H) (tCons (tC (.str a)) tNil))
      (tCB (fun xs H Q => ∃ x, xs = [.str x] ∧ x.length = 1 ∧ Q (.int (x.cps.getD 0 0 : Nat)) H) (tCons (tVar i) tNil)) (tCB (fun xs H Q => ∃ x, xs = [.str x] ∧ x.length = 1 ∧ Q (.int (x.cps.getD 0 0 : Nat)) H) (tCons (tC (.str b)) tNil)) σ H Q := by
  refine ⟨a, rfl, h1.1, _, hs, _, rfl, rfl, _, _, rfl, rfl, _, rfl, ?_⟩
  rw [h1.2]
  refine ite_d (fun e1 => ?_) (fun e1 => ?_)
  · refine ⟨b, rfl, h2.1, _, _, rfl, rfl, ?_⟩
    rw [h2.2]
    have e : f c = decide ((c : Int) ≤ (hi : Int)) := by
      rw [hf, decide_eq_true (show lo ≤ c by exact Int.ofNat_le.mp e1), Bool.true_and]
      exact decide_eq_decide.mpr Int.ofNat_le.symm
    rw [e] at q
    exact q
  · have e : f c = false := by
      rw [hf, decide_eq_false (show ¬ lo ≤ c from fun z => e1 (Int.ofNat_le.mpr z)), Bool.false_and]
    rw [e] at q
    exact q
end LC
namespace LC
open PySem L2
/-- a comprehension over range(n) whose element draws: the list's items all in F -/
theorem lc_draws {n : Nat} {j : Nat} {te : TE} {vs : List Nat} {σ : L2.St} {g l : Addr} {H0 H1 : Hp} {D : Addr} {Qd : Hp → Prop} (F : Hp → V → Prop) (R : Ok g l H0 H1) (hD : H1 D = none) (hn : n ≤ 1000000)
    (hw : ∀ x, wipe ((wipe σ vs).set j (some x)) vs = wipe σ vs) (hF : ∀ x H H', F H x → Kp g H H' → F H' x) (hG : ∀ x H xs ys, H D = some (.lst xs) → F H x → F (upd H D (.lst ys)) x)
    (he : ∀ (i : Nat) (H : Hp) (Q : VK), i < n → Ok g l H0 H → (∀ x H', F H' x → Ok g l H H' → Q x H') → te ((wipe σ vs).set j (some (.int (0 + (i : Int))))) H Q)
    (hd : ∀ H xs, Ok g l H0 H → Kp g H1 H → H D = some (.lst xs) → xs.length = n → (∀ x ∈ xs, F H x) → Qd H) :
    ∃ W : Nat → Nat → Hp → Prop, (∃ m, W 0 m (upd H1 D (.lst []))) ∧ ∀ i m H, W i m H →
      ((Itr 0 n).stop i H ∧ Qd H) ∨ ((Itr 0 n).go i H ∧ ∃ Nx : Hp → Prop, (∀ H', Nx H' → ∃ m', m' < m ∧ W (i + 1) m' H') ∧ ∀ x H', (Itr 0 n).yld i H x H' → gName j x (wipe σ vs) H' fun σ2 H2 => wipe σ2 vs = wipe σ vs ∧ tYes σ2 H2 fun b H3 =>
        if b = true then te σ2 H3 fun y H4 => ∃ acc, H4 D = some (.lst acc) ∧ acc.length < sizeLine ∧ Nx (upd H4 D (.lst (acc ++ [y]))) else Nx H3) := by
  have nD := R.bag.ne hD
  refine lc_it walk_range (fun i H => i ≤ n ∧ Ok g l H1 H ∧ ∃ xs, H D = some (.lst xs) ∧ xs.length = i ∧ ∀ x ∈ xs, F H x) ⟨Nat.zero_le _, Ok.new (Ok.refl R.bag) hD, [], upd_same, rfl, fun x hx => by cases hx⟩ (fun _ _ _ _ => trivial) ?_ ?_
  · rintro i x H H' hi ⟨_, r, xs, h1, h2, h3⟩ ⟨rfl, rfl⟩
    refine ⟨hw _, ?_⟩
    refine he i _ _ hi (R.trans r) fun x H2 fx r2 => ?_
    have h4 := r2.kp D _ nD.1 h1
    refine ⟨xs, h4, Nat.lt_of_lt_of_le (by omega : xs.length < 1000000 + 1) (by decide), hi, (r.trans r2).mut hD, xs ++ [x], upd_same, by rw [List.length_append, h2]; rfl, fun y hy => ?_⟩
    refine hG y H2 xs _ h4 ?_
    rcases List.mem_append.mp hy with hy | hy
    · exact hF y _ _ (h3 y hy) r2.kp
    · rw [List.mem_singleton] at hy
      rw [hy]
      exact fx
  · rintro H ⟨_, r, xs, h1, h2, h3⟩
    exact hd H xs (R.trans r) r.kp h1 h2 h3
end LC

namespace LC
open PySem L2
theorem Th.lstmut {C g : Addr} {H : Hp} {D : Addr} {v : V} {xs ys : List V} (h : H D = some (.lst xs)) (t : Th C g H v) : Th C g (upd H D (.lst ys)) v := by
  cases t with
  | non => exact .non
  | bl b => exact .bl b
  | int i => exact .int i
  | str z h => exact .str z h
  | @lst a xs' h' n =>
    by_cases e : a = D
    · subst e
      exact .lst upd_same n
    · exact .lst (by rw [upd_ne e]; exact h') n
  | tup h' n => exact .tup (by rw [upd_ne (ne_of h' h (by intro z; cases z))]; exact h') n
  | dK h' n => exact .dK (by rw [upd_ne (ne_of h' h (by intro z; cases z))]; exact h') n
  | exo h' n hd nd => exact .exo (by rw [upd_ne (ne_of h' h (by intro z; cases z))]; exact h') n (by rw [upd_ne (ne_of hd h (by intro z; cases z))]; exact hd) nd
end LC

namespace LC
open PySem L2
theorem Th.dKmut {C g : Addr} {H : Hp} {D : Addr} {v : V} {xs ys : List (Key × V)} (h : H D = some (.dK xs)) (t : Th C g H v) : Th C g (upd H D (.dK ys)) v := by
  cases t with
  | non => exact .non
  | bl b => exact .bl b
  | int i => exact .int i
  | str z h => exact .str z h
  | @dK a xs' h' n =>
    by_cases e : a = D
    · subst e
      exact .dK upd_same n
    · exact .dK (by rw [upd_ne e]; exact h') n
  | tup h' n => exact .tup (by rw [upd_ne (ne_of h' h (by intro z; cases z))]; exact h') n
  | lst h' n => exact .lst (by rw [upd_ne (ne_of h' h (by intro z; cases z))]; exact h') n
  | exo h' n hd nd => exact .exo (by rw [upd_ne (ne_of h' h (by intro z; cases z))]; exact h') n (by rw [upd_ne (ne_of hd h (by intro z; cases z))]; exact hd) nd
theorem Th.upd {C g l : Addr} {H0 H : Hp} {p : Addr} {o : HO} {v : V} (a : Ok g l H0 H) (h : H p = none) (t : Th C g H v) : Th C g (L2.upd H p o) v := t.kp (upd_kp a h)
theorem Th.dict {C g l : Addr} {H0 H : Hp} {p : Addr} {xs : List (Key × V)} (a : Ok g l H0 H) (h : H p = none) : Th C g (L2.upd H p (.dK xs)) (.ref p) := .dK upd_same (a.bag.ne h).1
end LC

namespace LC
open PySem L2
/-- a dict stands at p -/
def Dd (g : Addr) (H : Hp) (p : Addr) : Prop := p ≠ g ∧ ∃ kvs, H p = some (.dK kvs)
theorem Dd.new {g : Addr} {H : Hp} {p q : Addr} {o : HO} (d : Dd g H p) (h : H q = none) : Dd g (L2.upd H q o) p := by
  obtain ⟨n, kvs, e⟩ := d
  exact ⟨n, kvs, by rw [upd_ne (ne_of_none e h)]; exact e⟩
theorem Dd.dict {g : Addr} {H : Hp} {p q : Addr} {kvs : List (Key × V)} (d : Dd g H p) : Dd g (L2.upd H q (.dK kvs)) p := by
  obtain ⟨n, ks, e⟩ := d
  by_cases h : p = q
  · subst h
    exact ⟨n, kvs, upd_same⟩
  · exact ⟨n, ks, by rw [upd_ne h]; exact e⟩
theorem Dd.mk' {g l : Addr} {H0 H : Hp} {p : Addr} {kvs : List (Key × V)} (a : Ok g l H0 H) (h : H p = none) : Dd g (L2.upd H p (.dK kvs)) p := ⟨(a.bag.ne h).1, kvs, upd_same⟩
theorem Dd.th {C g : Addr} {H : Hp} {p : Addr} (d : Dd g H p) : Th C g H (.ref p) := by
  obtain ⟨n, kvs, e⟩ := d
  exact .dK e n
end LC
namespace LC
open PySem L2
theorem strs_of (z : Str) : ∀ xs : List V, (∀ x ∈ xs, ∃ c ∈ z.cps.toList, x = V.str ⟨#[c]⟩) → ∃ ys : List Str, xs = ys.map V.str ∧ (∀ y ∈ ys, y.length = 1) ∧ ys.length = xs.length
  | [], _ => ⟨[], rfl, (fun y hy => by cases hy), rfl⟩
  | x :: r, h => by
    obtain ⟨ys, e, h1, h2⟩ := strs_of z r fun y hy => h y (List.mem_cons_of_mem _ hy)
    obtain ⟨c, _, rfl⟩ := h x (List.mem_cons_self ..)
    refine ⟨⟨#[c]⟩ :: ys, by rw [e]; rfl, fun y hy => ?_, by rw [List.length_cons, h2]; rfl⟩
    rcases List.mem_cons.mp hy with rfl | hy
    · rfl
    · exact h1 y hy
theorem sum_ones : ∀ ys : List Str, (∀ y ∈ ys, y.length = 1) → (ys.map (·.length)).sum = ys.length
  | [], _ => rfl
  | y :: r, h => by
    have e := sum_ones r fun z hz => h z (List.mem_cons_of_mem _ hz)
    show (y.length :: r.map (·.length)).sum = r.length + 1
    rw [List.sum_cons, e, h y (List.mem_cons_self ..)]
    omega
theorem cutS_le (z : Str) (lo hi : Option Int) : (cutS z lo hi).length ≤ z.length := by
  show (cutS z lo hi).cps.size ≤ z.cps.size
  unfold cutS
  rw [List.size_toArray, List.length_take, List.length_drop, Array.length_toList]
  omega
end LC

namespace LC
open PySem L2
theorem kp_of {g : Addr} {H1 H2 : Hp} {a : Addr} {o : HO} (ha : H1 a = none) (k : ∀ b u, b ≠ a → L2.upd H1 a o b = some u → H2 b = some u) : Kp g H1 H2 := fun b u _ e => k b u (ne_of_none e ha) (by rw [upd_ne (ne_of_none e ha)]; exact e)
theorem log_small {i : Int} (h0 : -1000000 ≤ i) (h1 : i ≤ 1000000) : i.natAbs.log2 < 1920 := Nat.lt_trans (PySem.Flt.log2_lt_of (k := 20) (by decide) (Nat.lt_of_le_of_lt (show i.natAbs ≤ 1000000 by omega) (by decide))) (by decide)
end LC

namespace LC
theorem ite_same {c : Prop} [Decidable c] {A B C : Prop} (h : C) (h1 : C → A) (h2 : C → B) : if c then A else B := by
  by_cases q : c
  · rw [if_pos q]
    exact h1 h
  · rw [if_neg q]
    exact h2 h
theorem ite_nbeq {b : Bool} {A B : Prop} (h : B) : if (!(b == b)) = true then A else B := by
  rw [beq_self_eq_true]
  exact L2.iteF h
end LC

namespace LC
open PySem L2
theorem kit_sub {K : PySem.W.Frag} {C : Addr} {T : String} {b : Bool} (m : PySem.W.kitMeta T = true) (h : PySem.W.subIn K (.ref C) (.type T) = some b) : PySem.W.kitOne K (.ref C) (.type T) = some b := by
  have e : ((Value.ref C : Value) == Value.type T) = false := rfl
  unfold PySem.W.kitOne
  rw [e, if_neg Bool.false_ne_true]
  show (if PySem.W.kitMeta T = true then PySem.W.subIn K (.ref C) (.type T) else none) = some b
  rw [m, if_pos rfl]
  exact h
theorem cls_some {K : PySem.W.Frag} {C : Addr} {nm q : Str} {N : Addr} {bs bm : List Value} {sn : List Str} {sub : List Value} {ab : Bool} {col : Option Bool} {dd : Option Addr} {k0 k1 k2 k3 k5 : Option Value} {nw : String} (h : K.lookup C = some (excClassObj nm q C N bs bm true sn sub ab col dd k0 k1 k2 k3 k5 nw)) : (PySem.W.clsIn K C).isSome = true := by
  unfold PySem.W.clsIn
  rw [h] <;> rfl
theorem refs_ve (S : Addr) : PySem.HandSPX.refsVE [.ref S, .type "ValueError", .type "Exception", .type "BaseException", .type "object"] = true := by
  show PySem.HandSPX.refsVE [.type "ValueError", .type "Exception", .type "BaseException", .type "object"] = true
  decide +kernel
end LC

namespace LS
open PySem L2 NdefX
/-! ### bodies that say super(): run at their own code -/
structure PSAt (X : Cx) (c : Code) (st : Stmt) (t : TS) : Prop where
  run : ∀ (pins : List (Addr × Obj)) (s : Shared) (σ : L2.St) (H : Hp) (D : Ends), Inv X pins σ H s → t D σ H → PySem.wpAt (model X.prog X.w) X.A c (exec st X.env) (SP X pins D) X.xe s
structure PSsAt (X : Cx) (c : Code) (ss : List Stmt) (t : TS) : Prop where
  run : ∀ (pins : List (Addr × Obj)) (s : Shared) (σ : L2.St) (H : Hp) (D : Ends), Inv X pins σ H s → t D σ H → PySem.wpAt (model X.prog X.w) X.A c (execs ss X.env) (SP X pins D) X.xe s
section
variable {X : Cx} {c : Code} {st : Stmt} {rest : List Stmt} {t u : TS}
theorem psa (h : PS X st t) : PSAt X c st t := ⟨fun pins s σ H D I q => PySem.wpAt_of_wpAny (h.run pins s σ H D I q)⟩
theorem pssa (h : PSs X rest t) : PSsAt X c rest t := ⟨fun pins s σ H D I q => PySem.wpAt_of_wpAny (h.run pins s σ H D I q)⟩
theorem pssa_cons (h1 : PSAt X c st t) (h2 : PSsAt X c rest u) : PSsAt X c (st :: rest) (tSeq t u) := by
  refine ⟨fun pins s σ H D I h => ?_⟩
  refine ks_wpAt_execs_cons (PySem.wpAt_mono (h1.run pins s σ H { D with nx := u D } I h) (fun f s1 q => ?_) fun _ _ x => x)
  cases f with
  | next =>
    obtain ⟨σ', H', I', q⟩ := q
    exact h2.run pins s1 σ' H' D I' q
  | ret v => exact q
  | brk => exact q
  | cont => exact q
end
/-- what the written part says of the method f of the class D, which says super(): its def, its code, the cell of its class; the base's method f2 -/
structure SupF (P : Program) (K : PySem.W.Frag) (F : NF) (f D f2 : Addr) (m : Str) : Prop where
  fn : ∃ (oc : Value) (od : Option Addr) (doc pm ct : Value) (osl : Array (Option Value)), K.lookup f = some ⟨oc, od, .func (F.fd doc pm ct), osl⟩
  cd : PySem.W.codeIn K (.ref F.c) F.qual = true
  code : ∃ (oc : Value) (od : Option Addr) (vs : Array Value) (sl : Array (Option Value)) (file : Str) (tf : Tok), K.lookup F.c = some ⟨oc, od, .fields vs, sl⟩ ∧ vs[2]? = some (.str file tf) ∧ ((P.main.file : Str) == file) = true
  cell : ∃ (cc : Addr) (oc : Value) (od : Option Addr) (sl : Array (Option Value)), F.cl = [(("__class__" : Str), cc)] ∧ K.lookup cc = some ⟨oc, od, .cell (some (.ref D)), sl⟩
  cls : ∃ cd, PySem.W.clsIn K D = some cd
  sub : PySem.W.mroIn K D (.ref D) = some true
  sup : PySem.W.ks_superIn K D D m = some (some (.ref f2))
  ty : PySem.W.typeIn K (.ref f2) = some (.type "function")
  op : PySem.W.nsIn K cStatics "thirdparty.any" = some none
  fi : PySem.W.fnIn K f2 = true
  top : (P.main.scope.names.lookup ("super" : Str)).isSome = false
/-- super().m(e, ..): the base's method, its promise sp; self in slot 0 -/
def tSup (D f2 : Addr) (sp : Sp) (ta : TA) : TE := fun σ H Q => ∃ (x dx : Addr) (fs : List (Str × V)), σ[0]? = some (some (.ref x)) ∧ H x = some (.ins D dx fs) ∧
  ∀ q, H q = none → ta σ (upd H q (.met f2 x)) fun vs H1 => H1 q = some (.met f2 x) ∧ sp (.ref x :: vs) H1 Q E0
section
variable {X : Cx} {F : NF} {f D f2 : Addr} {m : Str} {sp : Sp} {k : Nat} {e : Expr} {es : List Expr} {ta : TA} {p0 p1 p2 pos pos' : Pos}
theorem sup_core (S : SupF X.prog X.K F f D f2 m) (hF : X.env.scope = F.scope ∧ X.env.func = some f ∧ X.env.code = .ref F.c ∧ X.env.cells = F.cl) (hmg : X.mg "super" = none) (hat : (m == ("__class__" : Str)) = false)
    (hks : F.scope.names.lookup ("super" : Str) = some .globalImplicit) (hkc : F.scope.names.lookup ("__class__" : Str) = some .free) (hka : F.scope.names.lookup ("self" : Str) = some .local) (hN : X.N[0]? = some ("self" : Str))
    (hp : ∃ ar, (F.params.posonlyargs ++ F.params.args).head? = some ar ∧ ar.arg = "self") {body : List Stmt} {whole : Sem Value} {Q : Value → Shared → Prop}
    {pins : List (Addr × Obj)} {s : Shared} {σ : L2.St} {H : Hp} {x dx : Addr} {fs : List (Str × V)} (I : Inv X pins σ H s) (hs : σ[0]? = some (some (.ref x))) (hx : H x = some (.ins D dx fs))
    (h : ∀ (so : Addr) (s' : Shared), Inv X pins σ H s' → s'.heap.get? so = some { cls := .type "super", dict := none, data := .fields #[.ref D, .ref x, .ref D], slots := #[] } → Q (.ref so) s') :
    PySem.wpAt (model X.prog X.w) X.A (.func body X.env) (attributeBase (.Call (.Name "super" p0) [] [] p1) m X.env whole) Q X.xe s := by
  obtain ⟨hsc, hfu, hco, hce⟩ := hF
  obtain ⟨oc, od, doc, pm, ct, osl, lf⟩ := S.fn
  obtain ⟨occ, occd, vs, ccs, file, tf, lc, hvs, hfile⟩ := S.code
  obtain ⟨cc, cl, cld, csl, ecl, lcell⟩ := S.cell
  obtain ⟨cdD, hD⟩ := S.cls
  obtain ⟨ar, ha1, ha2⟩ := hp
  have KX := I.kIn
  obtain ⟨oD, hD1, hD2⟩ : ∃ oD, s.heap.get? D = some oD ∧ oD.data = .cls cdD := by
    unfold PySem.W.clsIn at hD
    split at hD
    · rename_i c d cd' sl ho
      cases hD
      exact ⟨_, KX _ _ ho, rfl⟩
    · cases hD
  have kks : X.env.kindOf "super" = some .globalImplicit := by
    show X.env.scope.names.lookup ("super" : Str) = _
    rw [hsc]; exact hks
  have kkc : X.env.kindOf "__class__" = some .free := by
    show X.env.scope.names.lookup ("__class__" : Str) = _
    rw [hsc]; exact hkc
  have kka : X.env.kindOf "self" = some .local := by
    show X.env.scope.names.lookup ("self" : Str) = _
    rw [hsc]; exact hka
  obtain ⟨mb, b1, b2⟩ := I.mod.blt
  obtain ⟨mA, O, _, _, _, _⟩ := ins_get I.hok hx
  obtain ⟨odx, J, _⟩ := O.look
  obtain ⟨ml, hns, hl⟩ := I.loc
  have vself : ml "self" = some (.ref x) := by
    obtain ⟨u, ru, lk⟩ := hl 0 "self" (.ref x) hN hs (.inl (by rw [hsc]; exact hka))
    cases ru
    rcases lk with ⟨_, e1⟩ | ⟨z, _⟩
    · exact e1
    · rw [kka] at z
      rcases z with z | z <;> cases z
  refine ks_wpAt_super_base (env := X.env) kks kkc hat hfu (KX _ _ lf) rfl ha1 hco (KX _ _ lc) rfl hvs hfile S.top ?_
  refine PySem.W.ks_loadName_global I.ok.kind kks (Calls.loadGlobal_builtin (by rw [I.ok.glob]; exact I.mod.glob.keeps I.bk) hmg (by rw [I.ok.blt]; exact b1.keeps I.bk) ((b2 "super" (by decide +kernel)).trans (by decide +kernel : bootBuiltins "super" = some (.type "super"))) ⟨rfl, ?_⟩)
  refine wpAny_loadName_free I.ok.kind kkc (by rw [hce, ecl]; rfl) ⟨_, KX _ _ lcell, rfl⟩ ?_
  rw [ha2]
  refine wpAny_loadName_local I.ok.kind kka hns vself ?_
  refine ks_wpAny_isType_cls hD1 hD2 ⟨rfl, ?_⟩
  obtain ⟨hh, g, dr, t, os⟩ := s
  refine ks_wpAny_call_super hD1 hD2 J.at_ J.cls (fun c e => ?_) (PySem.W.looks_mroIn KX S.sub) (fun h' eso kk => ?_)
  · have z := J.no
    unfold PySem.W.notCls at z
    rw [e] at z
    exact Bool.noConfusion z
  exact h _ _ (I.kept (t' := t) kk) eso
theorem sup_facts (S : SupF X.prog X.K F f D f2 m) {pins : List (Addr × Obj)} {s : Shared} {σ : L2.St} {H : Hp} {x dx : Addr} {fs : List (Str × V)} (I : Inv X pins σ H s) (hx : H x = some (.ins D dx fs)) :
    PySem.W.Looks (model X.prog X.w) s.heap (opaqueClassAbove (.ref D)) none ∧ ∃ (l0 : List Value) (of : Obj), PySem.W.Looks (model X.prog X.w) s.heap (mroOf (.ref D)) l0 ∧ PySem.W.alongIn X.K m ((l0.dropWhile (· != .ref D)).drop 1) = some (some (.ref f2)) ∧ s.heap.get? f2 = some of ∧ of.cls = .type "function" ∧ x ≠ D := by
  obtain ⟨cdD, hD⟩ := S.cls
  have KX2 := I.kIn
  have hm := S.sup
  unfold PySem.W.ks_superIn at hm
  rw [hD] at hm
  obtain ⟨of, hof, hofc⟩ : ∃ of, s.heap.get? f2 = some of ∧ of.cls = .type "function" := by
    have ht' : (X.K.lookup f2).map (·.cls) = some (.type "function") := S.ty
    cases z : X.K.lookup f2 with
    | none => rw [z] at ht'; cases ht'
    | some of => rw [z] at ht'; exact ⟨of, KX2 _ _ z, Option.some.inj ht'⟩
  obtain ⟨mA, O, _, _, _, _⟩ := ins_get I.hok hx
  obtain ⟨odx, J, _⟩ := O.look
  exact ⟨PySem.W.looks_opaque KX2 S.op, cdD.mro, of, fun A Q E s k q => wpAny_bind ((PySem.W.looks_clsIn KX2 hD) A _ E s k (wpAny_pure q)), hm, hof, hofc, PySem.W.ks_ne KX2 J hD⟩
theorem sup_meth (S : SupF X.prog X.K F f D f2 m) (hat : (m == ("__class__" : Str)) = false) {pl : Sem Bool} {Q : Value × List Value → Shared → Prop}
    {pins : List (Addr × Obj)} {s : Shared} {σ : L2.St} {H : Hp} {x dx so : Addr} {fs : List (Str × V)} (I : Inv X pins σ H s) (hx : H x = some (.ins D dx fs))
    (eso : s.heap.get? so = some { cls := .type "super", dict := none, data := .fields #[.ref D, .ref x, .ref D], slots := #[] })
    (h : ∀ (q : Addr) (s' : Shared), H q = none → Inv X pins σ (upd H q (.met f2 x)) s' → Q (.ref q, []) s') : wpAny (model X.prog X.w) X.A (getMethod (.ref so) m pl) Q X.xe s := by
  obtain ⟨h1, l0, of, h2, hm, hof, hofc, hne⟩ := sup_facts S I hx
  have KX := I.kIn
  obtain ⟨h', g, dr, t, os⟩ := s
  refine ks_wpAny_getMethod_super eso h1 h2 rfl KX hm hof hofc hne hat ?_
  refine h h'.objs.size _ (I.hok.fresh (Nat.le_refl _)) ?_
  exact I.laid (t' := t + 1) (a := h'.objs.size) (o := .met f2 x) (fun b u z => Heap.get?_push_of_some _ z) (Nat.le_refl _)
    (show (h'.push (PySem.W.methodObj (.ref f2) (.ref x))).get? h'.objs.size = some (PySem.W.methodObj (.ref f2) (.ref x)) from Heap.get?_push_size h' rfl)
theorem getAttr_super {prog : Program} {w : World} {A : Around} {E : Value → Shared → Prop} {h : Heap} {g : Array GenState} {d : Drawn} {t : Nat} {os : OsState} {so D x C f : Addr} {of : Obj} {l₀ l : List Value} {K : PySem.W.Frag} {name : Str} {b : Bool} {Q : Value → Shared → Prop}
    (hso : h.get? so = some { cls := .type "super", dict := none, data := .fields #[.ref D, .ref x, .ref C], slots := #[] }) (hno : PySem.W.Looks (model prog w) h (opaqueClassAbove (.ref C)) none)
    (hC : PySem.W.Looks (model prog w) h (mroOf (.ref C)) l₀) (hl : (l₀.dropWhile (· != .ref D)).drop 1 = l) (X : K.In h)
    (hf : PySem.W.alongIn K name l = some (some (.ref f))) (hfo : h.get? f = some of) (hfc : of.cls = .type "function") (hxC : x ≠ C) (hn : (name == ("__class__" : Str)) = false)
    (hq : Q (.ref h.objs.size) ⟨h.push { cls := .type "method", data := .fields #[.ref f, .ref x] }, g, d, t + 1, os⟩) :
    wpAny (model prog w) A (getAttr (.ref so) name b) Q E ⟨h, g, d, t, os⟩ := by
  have hlk := F.ks_slot_super_ga.lookup
  have hT : ∀ t', (⟨h, g, d, t', os⟩ : Shared).TypeIs (.ref so) "super" := fun _ => ⟨_, hso, rfl⟩
  unfold getAttr getAttrBy
  refine wpAny_bind (wpAny_mkText (wpAny_holding (wpAny_bind (wpAny_typeOf (hT _) (wpAny_bind (wpAny_of_eq hlk ?_))))))
  show wpAny _ _ (getAttrByItsOwn (.ref so) (.str name t) (.type "super") (.builtin "super.__getattribute__") true b) _ _ _
  unfold getAttrByItsOwn hookBefore callGetattribute boundAndCalled
  refine wpAny_bind (wpAny_of_eq (show (if onTheHeap (.type "super") then typeLookup (.type "super") "__getattr__" else pure none) = pure none from rfl) ?_)
  refine wpAny_bind (wpAny_attempt (wpAny_holding ?_))
  have e0 : (b && onTheHeap (Value.builtin "super.__getattribute__")) = false := by cases b <;> rfl
  rw [e0, if_neg Bool.false_ne_true]
  refine wpAny_bind (wpAny_of_eq (F.ks_slot_super_ga.bind _) ?_)
  refine wpAny_mono (Q := fun v s' => v = .ref h.objs.size ∧ s' = ⟨h.push { cls := .type "method", data := .fields #[.ref f, .ref x] }, g, d, t + 1, os⟩) (E := fun _ _ => False)
    (wpAny_call_entry F.ks_slot_super_ga (hT _) F.ks_entry_super_ga (ks_wpAny_super_ga hso hno hC hl X hf hfo hfc hxC hn ⟨_, rfl, rfl, rfl⟩) (F.ks_gaArgs_super _ _)) (fun v s' hv => ?_) fun _ _ z => z.elim
  obtain ⟨rfl, rfl⟩ := hv
  exact wpAny_pure hq
/-- super().m(e, ..) as a statement -/
theorem ps_sup (S : SupF X.prog X.K F f D f2 m) (hF : X.env.scope = F.scope ∧ X.env.func = some f ∧ X.env.code = .ref F.c ∧ X.env.cells = F.cl) (hmg : X.mg "super" = none) (F2 : FnR X.prog X.w X.K X.mg X.base CX0 k f2 sp) (hr : Room k X.A) (ha : PA X (e :: es) ta)
    (hp : ∃ ar, (F.params.posonlyargs ++ F.params.args).head? = some ar ∧ ar.arg = "self") (hat : (m == ("__class__" : Str)) = false := by decide)
    (hks : F.scope.names.lookup ("super" : Str) = some .globalImplicit := by rfl) (hkc : F.scope.names.lookup ("__class__" : Str) = some .free := by rfl) (hka : F.scope.names.lookup ("self" : Str) = some .local := by rfl) (hN : X.N[0]? = some ("self" : Str) := by rfl)
    {pl : Sem Bool} (he : eval (.Call (.Attribute (.Call (.Name "super" p0) [] [] p1) m p2) (e :: es) [] pos) X.env = (do
      let ov ← attributeBase (.Call (.Name "super" p0) [] [] p1) m X.env (eval (.Call (.Name "super" p0) [] [] p1) X.env)
      standAt p2.atName
      let (f, first) ← holding [ov] (getMethod ov m pl)
      callWith pos f first (backTo pos (starEach (e :: es) X.env)) []) := by rfl)
    (hst : starEach (e :: es) X.env = (false, eval e X.env) :: starEach es X.env := by rfl) (hpl : (backTo pos (starEach es X.env)).any (·.1) = false := by rfl)
    (hsw : swapsWith (.Call (.Attribute (.Call (.Name "super" p0) [] [] p1) m p2) (e :: es) [] pos) none pos'.line X.env = pure false := by rfl) :
    PSAt X (.func F.body X.env) (.Expr (.Call (.Attribute (.Call (.Name "super" p0) [] [] p1) m p2) (e :: es) [] pos) pos') (tDrop (tSup D f2 sp ta)) := by
  refine ⟨fun pins s σ H Dn I h => ?_⟩
  obtain ⟨x, dx, fs, hs, hx, q⟩ := h
  refine ks_wpAt_Expr_any (ks_wpAt_MethodCall (pl := pl) (sup_core S hF hmg hat hks hkc hka hN hp I hs hx fun so s0 I0 eso => sup_meth S hat I0 hx eso fun q1 s1 hq1 I1 => ?_) he) I.quiet hsw
  refine callwith_met (a := x) (by rw [hst]; show ((false || (backTo pos (starEach es X.env)).any (·.1)) || false) = false; rw [hpl]; rfl) S.fi ?_
  have hrun := ha.run pos pins s1 σ _ _ I1 (q q1 hq1)
  rw [hst] at hrun ⊢
  refine Calls.evalArgs_plain (thn hrun fun us s2 ⟨vs, H2, I2, rv, hm2, q2⟩ => ?_)
  refine ⟨met_P I2 hm2, ?_⟩
  refine wpAny_call (PySem.W.method_call (met_P I2 hm2).1 (codeAny_mono (run_fnR (us := .ref x :: us) (vs := .ref x :: vs) F2 hr pass0 I2 (.cons rfl rv) q2) fun r s' hr' => ?_))
  cases r with
  | error e => exact hr'
  | ok fl =>
    cases fl with
    | ret u =>
      obtain ⟨v, H', I', _, q'⟩ := hr'
      exact ⟨σ, H', I', q'⟩
    | next => exact hr'
    | brk => exact hr'
    | cont => exact hr'
end
/-- super().m(*e), e a tuple or a list -/
def tSupS (K : PySem.W.Frag) (D f2 : Addr) (sp : Sp) (te : TE) : TE := fun σ H Q => ∃ (x dx : Addr) (fs : List (Str × V)), σ[0]? = some (some (.ref x)) ∧ H x = some (.ins D dx fs) ∧
  ∀ q, H q = none → te σ (upd H q (.met f2 x)) fun y H1 => ∃ b vs, y = .ref b ∧ (SqT K H1 b vs ∨ SqL K H1 b vs) ∧ H1 q = some (.met f2 x) ∧ sp (.ref x :: vs) H1 Q E0
section
variable {X : Cx} {F : NF} {f D f2 : Addr} {m : Str} {sp : Sp} {k : Nat} {e : Expr} {te : TE} {p p0 p1 p2 pos pos' : Pos}
theorem ps_supS (S : SupF X.prog X.K F f D f2 m) (hF : X.env.scope = F.scope ∧ X.env.func = some f ∧ X.env.code = .ref F.c ∧ X.env.cells = F.cl) (hmg : X.mg "super" = none) (F2 : FnR X.prog X.w X.K X.mg X.base CX0 k f2 sp) (hr : Room k X.A) (ha : PE X e te)
    (hp : ∃ ar, (F.params.posonlyargs ++ F.params.args).head? = some ar ∧ ar.arg = "self") (hat : (m == ("__class__" : Str)) = false := by decide)
    (hks : F.scope.names.lookup ("super" : Str) = some .globalImplicit := by rfl) (hkc : F.scope.names.lookup ("__class__" : Str) = some .free := by rfl) (hka : F.scope.names.lookup ("self" : Str) = some .local := by rfl) (hN : X.N[0]? = some ("self" : Str) := by rfl)
    (hsw : swapsWith (.Call (.Attribute (.Call (.Name "super" p0) [] [] p1) m p2) [.Starred e p] [] pos) none pos'.line X.env = pure false := by rfl) :
    PSAt X (.func F.body X.env) (.Expr (.Call (.Attribute (.Call (.Name "super" p0) [] [] p1) m p2) [.Starred e p] [] pos) pos') (tDrop (tSupS X.K D f2 sp te)) := by
  refine ⟨fun pins s σ H Dn I h => ?_⟩
  obtain ⟨x, dx, fs, hs, hx, q⟩ := h
  have hse : starEach [.Starred e p] X.env = [(true, eval e X.env)] := rfl
  have hke : backToKw pos (keywordEach [] X.env) = [] := rfl
  have hform : methodCallForm ([Expr.Starred e p].length + ([] : List Keyword).length) (backTo pos [(true, eval e X.env)]) [] = false := rfl
  have hpos : methodCallPos false (.Call (.Name "super" p0) [] [] p1) X.env p2 pos = pure pos := rfl
  have hcal : ∀ ov, calleeOf false (.Call (.Name "super" p0) [] [] p1) X.env ov m = (getAttr ov m true >>= fun v => pure (v, [])) := fun _ => rfl
  refine ks_wpAt_Expr_any ?_ I.quiet hsw
  rw [arm_eval_Call, hse, hke]
  refine PySem.wpAt_bind (sup_core S hF hmg hat hks hkc hka hN hp I hs hx fun so s0 I0 eso => ?_)
  refine PySem.wpAt_of_wpAny ?_
  refine wpAny_bind (wpAny_standAt ?_)
  unfold methodCall
  rw [hform, hpos, hcal]
  obtain ⟨h1, l0, of, h2, hm, hof, hofc, hne⟩ := sup_facts S I0 hx
  have KX := I0.kIn
  obtain ⟨h', g, dr, t, os⟩ := s0
  refine wpAny_bind (wpAny_holding (wpAny_bind (getAttr_super eso h1 h2 rfl KX hm hof hofc hne hat (wpAny_pure ?_))))
  have hq1 := I0.hok.fresh (Nat.le_refl _)
  have I1 : Inv X pins σ (upd H h'.objs.size (.met f2 x)) ⟨h'.push (PySem.W.methodObj (.ref f2) (.ref x)), g, dr, t + 1, os⟩ :=
    I0.laid (t' := t + 1) (a := h'.objs.size) (o := .met f2 x) (fun b u z => Heap.get?_push_of_some _ z) (Nat.le_refl _)
      (show (h'.push (PySem.W.methodObj (.ref f2) (.ref x))).get? h'.objs.size = some (PySem.W.methodObj (.ref f2) (.ref x)) from Heap.get?_push_size h' rfl)
  refine wpAny_bind (wpAny_pure ?_)
  refine PySem.W.ks_call (P := PySem.W.MethP X.K h'.objs.size f2 (.ref x)) rfl (PySem.W.keeps_M S.fi) (PySem.W.ks_lone ?_)
  refine thn (ha.run pins _ σ _ _ I1 (q _ hq1)) fun v s3 ⟨y, H2, I3, ry, b, vs, ey, ht, hm2, hsp⟩ => ?_
  subst ey
  obtain rfl : v = Value.ref b := ry
  refine StX.star_any I3 ht fun us s4 I4 rv => ⟨met_P I4 hm2, ?_⟩
  refine wpAny_call (PySem.W.method_call (met_P I4 hm2).1 (codeAny_mono (run_fnR (us := .ref x :: us) (vs := .ref x :: vs) F2 hr pass0 I4 (.cons rfl rv) hsp) fun r s' hr' => ?_))
  cases r with
  | error e => exact hr'
  | ok fl =>
    cases fl with
    | ret u =>
      obtain ⟨v, H', I', _, q'⟩ := hr'
      exact ⟨σ, H', I', q'⟩
    | next => exact hr'
    | brk => exact hr'
    | cont => exact hr'
end
section
variable {P : Program} {w : World} {K : PySem.W.Frag} {mg : Str → Option Value} {base : Heap} {F : NF} {f D f2 : Addr} {m : Str} {N ps : List Str} {sp : Sp} {k : Nat}
theorem cell_at (U : SupF P K F f D f2 m) {A : Around} {outer : List Env} {s : Shared} {H : Hp} (e0 : Env0 P w K mg base A outer s H) : CellsAt F.cl [("__class__" : Str)] [some (.ref D)] s.heap H := by
  obtain ⟨cc, oc, od, sl, ecl, lc⟩ := U.cell
  obtain ⟨h1, h2⟩ := e0.bs cc _ (e0.mod.kin _ _ lc)
  have one : ∀ y c, F.cl.lookup y = some c → y = ("__class__" : Str) ∧ c = cc := fun y c e => by
    rw [ecl] at e
    by_cases q : y = ("__class__" : Str)
    · subst q
      have z : ([(("__class__" : Str), cc)] : List (Str × Addr)).lookup ("__class__" : Str) = some cc := by simp [List.lookup]
      rw [z] at e
      exact ⟨rfl, (Option.some.inj e).symm⟩
    · have z : (y == ("__class__" : Str)) = false := by simpa using q
      simp [List.lookup, z] at e
  refine ⟨rfl, fun y c e => ?_, fun x y c e1 e2 => (one x c e1).1.trans (one y c e2).1.symm, fun i y hi => ?_⟩
  · obtain ⟨rfl, rfl⟩ := one y c e
    exact ⟨h2, _, _, h1, rfl⟩
  · match i, hi with
    | 0, hi =>
      cases hi
      refine ⟨cc, by rw [ecl]; simp [List.lookup], fun v hv => ?_⟩
      cases hv
      exact ⟨_, rfl, _, h1, rfl⟩
    | i + 1, hi => simp at hi
/-- THE RULE for a method that says super() -/
theorem fnS_of (S : NScope N ps ["__class__"] F.scope) (U : SupF P K F f D f2 m) {doc pm ct oc : Value} {od : Option Addr} {osl : Array (Option Value)} (lf : K.lookup f = some ⟨oc, od, .func (F.fd doc pm ct), osl⟩) (len : ∀ vs H Q E, sp vs H Q E → vs.length = ps.length)
    (hbody : ∀ (A : Around) (outer : List Env) (s : Shared) (H : Hp) (vs : List V) (Q : VK) (E : XK), Room k (A.deeper (envF F f s.heap.objs.size)) → sp vs H Q E →
      ∃ t, PSsAt (ncx CX0 P w K mg base N F f A outer s H E) (.func F.body (ncx CX0 P w K mg base N F f A outer s H E).env) F.body t ∧ t { nx := fun _ H' => Q .non H', rt := Q } (startF N vs [some (.ref D)]) H) :
    FnOk P w K mg base CX0 (k + 1) f (F.fd doc pm ct) ps sp := by
  refine ⟨len, fun A outer s H args us vs Q E hr e0 hb r hsp => ?_⟩
  have hl := len _ _ _ _ hsp
  have KX : K.In s.heap := e0.mod.kin.keeps fun b o e => (e0.bs b o e).1
  have lim : s.heap.NoLimit := e0.mod.nolimit.keeps fun b o e => (e0.bs b o e).1
  have hloc : ∀ x ∈ ps.zip us, F.scope.names.lookup x.1 = some .local := fun ⟨n, v⟩ hy => S.par n (List.of_mem_zip hy).1
  refine ks_codeAny_call_defAt (fd := F.fd doc pm ct) (body := F.body) (binds := ps.zip us) hr.depth (KX _ _ lf) rfl lim (PySem.W.codeRec_of KX U.cd) rfl hb S.nocell hloc (fun h₁ hns kp => ?_) S.co S.gen S.kind
  obtain ⟨t, ht, hq⟩ := hbody A outer s H vs Q E (hr.deeper _) hsp
  have I : Inv (ncx CX0 P w K mg base N F f A outer s H E) [] (startF N vs [some (.ref D)]) H { s with heap := h₁, toks := s.toks + (ps.zip us).length } := inv_startN S hr.hd e0 hl r (cell_at U e0) hns kp
  refine PySem.wpAt_mono (ht.run [] _ (startF N vs [some (.ref D)]) H _ I hq) (fun fl s' hs => ?_) fun e s' hs => hs
  have fin : ∀ {σ' : L2.St} {H' : Hp} {v : V} {u : Value}, Inv (ncx CX0 P w K mg base N F f A outer s H E) [] σ' H' s' → L2.RelV v u → Q v H' → CE outer P w H s Q u s' :=
    fun {σ' H' v u} J rv q => ⟨v, H', J.os, J.bare, J.base, J.hok, rv, q⟩
  cases fl with
  | ret u =>
    obtain ⟨v, σ', H', J, rv, q⟩ := hs
    exact fin J rv q
  | next =>
    obtain ⟨σ', H', J, q⟩ := hs
    exact fin (v := V.non) (u := Value.none) J rfl q
  | brk =>
    obtain ⟨_, _, _, q⟩ := hs
    exact False.elim q
  | cont =>
    obtain ⟨_, _, _, q⟩ := hs
    exact False.elim q
end
/-! ### calls whose class is known at the run alone -/
section
variable {X : Cx} {k : Nat} {fe e o : Expr} {es : List Expr} {tf ta : TE} {t : TA} {pos apos : Pos} {m : Str} {f : Addr} {sp : Sp}
def tCallD (X : Cx) (k : Nat) (tf : TE) (t : TA) : TE := fun σ H Q => tf σ H fun y H1 => ∃ a, y = V.ref a ∧ t σ H1 fun vs H2 => ∃ (C g : Addr) (sp : Sp), StX.CallO X.K C g ∧ FnR X.prog X.w X.K X.mg X.base CX0 k g sp ∧ (∃ dx fs, H2 a = some (.ins C dx fs)) ∧ sp (V.ref a :: vs) H2 Q E0
theorem pe_callD (hf : PE X fe tf) (hr : Room k X.A) (ha : PA X (e :: es) t)
    (ht : eval (.Call fe (e :: es) [] pos) X.env = (do callWith pos (← eval fe X.env) [] (backTo pos (starEach (e :: es) X.env)) (backToKw pos (keywordEach [] X.env))) := by rfl)
    (he : starEach (e :: es) X.env = (false, eval e X.env) :: starEach es X.env := by rfl) (hpl : (backTo pos (starEach es X.env)).any (·.1) = false := by rfl) : PE X (.Call fe (e :: es) [] pos) (tCallD X k tf t) := by
  refine ⟨fun pins s σ H Q I h => ?_⟩
  refine PyProof.Rows.Call_ (thn (hf.run pins s σ H _ I h) fun u s1 ⟨y, H1, I1, ry, a, ey, q⟩ => ?_) ht
  subst ey
  obtain rfl : u = Value.ref a := ry
  refine StX.callO_with (thn (ha.run pos pins s1 σ H1 _ I1 q) fun us s2 ⟨vs, H2, I2, r, C, g, sp, c, F, hi, q2⟩ => ?_) he hpl
  obtain ⟨ox, od, J, hd⟩ := StX.insC_at (X := X) I2 (.inr hi)
  exact ⟨⟨C, ox, od, J, hd⟩, StX.run_callO c F hr pass0 I2 (.inr hi) r q2⟩
def tMethD (K : PySem.W.Frag) (m : Str) (f : Addr) (sp : Sp) (ta : TE) (t : TA) : TE := fun σ H Q => ta σ H fun x H1 => ∃ a C dx fs, x = .ref a ∧ H1 a = some (.ins C dx fs) ∧ Cls K C ∧ Meth K C m f ∧ fs.lookup m = none ∧ t σ H1 fun vs H2 => sp (x :: vs) H2 Q E0
theorem pe_methD {pl : Sem Bool} (he : PE X o ta) (hk : PySem.W.keepIn X.K (.ref f) = true) (F : FnR X.prog X.w X.K X.mg X.base CX0 k f sp) (hr : Room k X.A) (ha : PA X (e :: es) t)
    (hst : starEach (e :: es) X.env = (false, eval e X.env) :: starEach es X.env := by rfl) (hpl : (backTo pos (starEach es X.env)).any (·.1) = false := by rfl)
    (ht : eval (.Call (.Attribute o m apos) (e :: es) [] pos) X.env = (do
      let ov ← eval o X.env
      standAt apos.atName
      let (f, first) ← holding [ov] (getMethod ov m pl)
      callWith pos f first (backTo pos (starEach (e :: es) X.env)) (backToKw pos (keywordEach [] X.env))) := by rfl) :
    PE X (.Call (.Attribute o m apos) (e :: es) [] pos) (tMethD X.K m f sp ta t) := by
  refine ⟨fun pins s σ H Q I h => ?_⟩
  refine PySem.W.methodCall_KW (pl := pl) (thn (he.run pins s σ H _ I h) fun u s1 ⟨x, H1, I1, rx, a, C, dx, fs, ex, ea, c, hm, l, q⟩ => ?_) ht
  subst ex
  obtain rfl : u = Value.ref a := rx
  refine getmeth_ok I1 ea c hm l ?_
  refine PySem.W.callWith_K (first := [.ref a]) (h₀ := X.base) I.ok.mod.kin hk (thn (ha.run pos pins s1 σ H1 _ I1 q) fun us s2 ⟨vs, H2, I2, r, q2⟩ => ⟨I2.kIn, ?_⟩) hst hpl
  exact wpAny_call (codeAny_mono (run_fnR (us := .ref a :: us) (vs := .ref a :: vs) F hr pass0 I2 (.cons rfl r) q2) fun r s' h => h)
theorem pe_methD0 {pl : Sem Bool} (he : PE X o ta) (hk : PySem.W.keepIn X.K (.ref f) = true) (F : FnR X.prog X.w X.K X.mg X.base CX0 k f sp) (hr : Room k X.A)
    (ht : eval (.Call (.Attribute o m apos) [] [] pos) X.env = (do
      let ov ← eval o X.env
      standAt apos.atName
      let (f, first) ← holding [ov] (getMethod ov m pl)
      callWith pos f first (backTo pos (starEach [] X.env)) (backToKw pos (keywordEach [] X.env))) := by rfl) :
    PE X (.Call (.Attribute o m apos) [] [] pos) (tMethD X.K m f sp ta tNil) := by
  refine ⟨fun pins s σ H Q I h => ?_⟩
  refine PySem.W.methodCall_KW (pl := pl) (thn (he.run pins s σ H _ I h) fun u s1 ⟨x, H1, I1, rx, a, C, dx, fs, ex, ea, c, hm, l, q⟩ => ?_) ht
  subst ex
  obtain rfl : u = Value.ref a := rx
  refine getmeth_ok I1 ea c hm l ?_
  refine PySem.W.callWith_K0 (first := [.ref a]) I1.kIn hk ?_
  exact wpAny_call (codeAny_mono (run_fnR (us := [.ref a]) (vs := [.ref a]) F hr pass0 I1 (.cons rfl .nil) q) fun r s' h => h)
/-- o.m(e, ..), m a field of the instance that holds an instance of a class that may be called -/
def tCallFD (X : Cx) (k : Nat) (m : Str) (to : TE) (t : TA) : TE := fun σ H Q => to σ H fun x H1 => ∃ (b D dx : Addr) (fs : List (Str × V)) (a : Addr), x = V.ref b ∧ H1 b = some (.ins D dx fs) ∧ Cls X.K D ∧ NoAttr X.K D m ∧ fs.lookup m = some (.ref a) ∧
  t σ H1 fun vs H2 => ∃ (C g : Addr) (sp : Sp), StX.CallO X.K C g ∧ FnR X.prog X.w X.K X.mg X.base CX0 k g sp ∧ (∃ dx fs, H2 a = some (.ins C dx fs)) ∧ sp (V.ref a :: vs) H2 Q E0
theorem pe_callFD {pl : Sem Bool} (ho : PE X o ta) (hr : Room k X.A) (ha : PA X (e :: es) t)
    (ht : eval (.Call (.Attribute o m apos) (e :: es) [] pos) X.env = (do
      let ov ← eval o X.env
      standAt apos.atName
      let (f, first) ← holding [ov] (getMethod ov m pl)
      callWith pos f first (backTo pos (starEach (e :: es) X.env)) (backToKw pos (keywordEach [] X.env))) := by rfl)
    (he : starEach (e :: es) X.env = (false, eval e X.env) :: starEach es X.env := by rfl) (hpl : (backTo pos (starEach es X.env)).any (·.1) = false := by rfl) : PE X (.Call (.Attribute o m apos) (e :: es) [] pos) (tCallFD X k m ta t) := by
  refine ⟨fun pins s σ H Q I h => ?_⟩
  refine PySem.W.methodCall_KW (pl := pl) (thn (ho.run pins s σ H _ I h) fun u s1 ⟨x, H1, I1, rx, b, D, dx, fs, a, ex, eb, c, n, l, q⟩ => ?_) ht
  subst ex
  obtain rfl : u = Value.ref b := rx
  refine getmeth_fld I1 eb c n l fun v s2 I2 rv => ?_
  obtain rfl : v = Value.ref a := rv
  refine StX.callO_with (thn (ha.run pos pins s2 σ H1 _ I2 q) fun us s3 ⟨vs, H2, I3, r, C, g, sp, c, F, hi, q2⟩ => ?_) he hpl
  obtain ⟨ox, od, J, hd⟩ := StX.insC_at (X := X) I3 (.inr hi)
  exact ⟨⟨C, ox, od, J, hd⟩, StX.run_callO c F hr pass0 I3 (.inr hi) r q2⟩
end
theorem cls_of {K : PySem.W.Frag} {C : Addr} {oc : Value} {od : Option Addr} {cd : ClassData} {sl : Array (Option Value)} (h : K.lookup C = some ⟨oc, od, .cls cd, sl⟩) : PySem.W.clsIn K C = some cd := by
  unfold PySem.W.clsIn
  rw [h]
theorem kit_own {K : PySem.W.Frag} {C R : Addr} {oc : Value} {od : Option Addr} {cd : ClassData} {sl : Array (Option Value)} (x : K.lookup R = some ⟨oc, od, .cls cd, sl⟩) (t : PySem.W.typeIn K (.ref R) = some (.type "type")) (h : PySem.W.subIn K (.ref C) (.ref R) = some true) : PySem.W.kitOne K (.ref C) (.ref R) = some true := by
  unfold PySem.W.kitOne
  by_cases q : ((Value.ref C : Value) == Value.ref R) = true
  · rw [if_pos q]
  · rw [if_neg q]
    show (if ((PySem.W.clsIn K R).isSome && PySem.W.typeIn K (.ref R) == some (.type "type")) = true then PySem.W.subIn K (.ref C) (.ref R) else none) = some true
    rw [cls_of x, t, if_pos (by simp)]
    exact h
theorem sup_of {K : PySem.W.Frag} {C R f : Addr} {oc oc2 : Value} {od od2 : Option Addr} {cd cd2 : ClassData} {sl sl2 : Array (Option Value)} {m : Str} (h : K.lookup C = some ⟨oc, od, .cls cd, sl⟩) (e : (cd.mro.dropWhile (· != .ref C)).drop 1 = cd2.mro) (h2 : K.lookup R = some ⟨oc2, od2, .cls cd2, sl2⟩)
    (hf : PySem.W.findIn K (.ref R) m = some (some (.ref f))) : PySem.W.ks_superIn K C C m = some (some (.ref f)) := by
  unfold PySem.W.ks_superIn
  rw [cls_of h]
  show PySem.W.alongIn K m ((cd.mro.dropWhile (· != .ref C)).drop 1) = _
  rw [e]
  have hf' : (match K.lookup R with | some ⟨_, _, .cls cd, _⟩ => PySem.W.alongIn K m cd.mro | _ => none) = some (some (.ref f)) := hf
  rw [h2] at hf'
  exact hf'
end LS

namespace RM
/-- the plan of a rest -/
inductive Pl where
  | win (w : Int)
  | days (bs : List Int) (e : Int)
  | lat (p q : Pl)
  | soo (p q : Pl)
  | nex (p q : Pl)
def lastOf (bs : List Int) : Int := bs.getLastD 0
def dayAt (bs : List Int) (e t : Int) : Int := match bs.find? (fun b => decide (b > t)) with
  | some b => b
  | none => lastOf bs + ((t - lastOf bs) / e + 1) * e
def Pl.at : Pl → Int → Int
  | .win w, t => t + w
  | .days bs e, t => dayAt bs e t
  | .lat p q, t => if q.at t > p.at t then q.at t else p.at t
  | .soo p q, t => if q.at t < p.at t then q.at t else p.at t
  | .nex p q, t => q.at (p.at t)
def Pl.leaves : Pl → Nat
  | .win _ => 1
  | .days _ _ => 1
  | .lat p q => p.leaves + q.leaves
  | .soo p q => p.leaves + q.leaves
  | .nex p q => p.leaves + q.leaves
def Pl.forms : Pl → Int
  | .win _ => 1
  | .days _ _ => 1
  | .lat p q => 1 + p.forms + q.forms
  | .soo p q => 1 + p.forms + q.forms
  | .nex p q => 1 + p.forms + q.forms
def lcmI (a b : Int) : Int := ((a.natAbs.lcm b.natAbs : Nat) : Int)
def Pl.per : Pl → Int
  | .win _ => 1
  | .days _ e => e
  | .lat p q => lcmI p.per q.per
  | .soo p q => lcmI p.per q.per
  | .nex p q => lcmI p.per q.per
def maxI (a b : Int) : Int := if b > a then b else a
def Pl.bend : Pl → Int
  | .win _ => 0
  | .days bs _ => lastOf bs
  | .lat p q => maxI p.bend q.bend
  | .soo p q => maxI p.bend q.bend
  | .nex p q => maxI p.bend q.bend
def Pl.h : Pl → Nat
  | .win _ => 0
  | .days _ _ => 0
  | .lat p q => 1 + max p.h q.h
  | .soo p q => 1 + max p.h q.h
  | .nex p q => 1 + max p.h q.h
/-- borders that rise from n on -/
def Asc : Int → List Int → Prop
  | _, [] => True
  | n, b :: r => n ≤ b ∧ b ≤ 1000 ∧ Asc (b + 1) r
def Pl.ok (L : Nat) : Pl → Prop
  | .win w => 1 ≤ w ∧ w ≤ 1000
  | .days bs e => 1 ≤ e ∧ e ≤ 2000 ∧ e.natAbs ∣ L ∧ bs.length ≤ 12 ∧ Asc 1 bs
  | .lat p q => p.ok L ∧ q.ok L
  | .soo p q => p.ok L ∧ q.ok L
  | .nex p q => p.ok L ∧ q.ok L
theorem Pl.leaves_pos : ∀ p : Pl, 1 ≤ p.leaves
  | .win _ => Nat.le_refl _
  | .days _ _ => Nat.le_refl _
  | .lat p q => Nat.le_trans p.leaves_pos (Nat.le_add_right _ _)
  | .soo p q => Nat.le_trans p.leaves_pos (Nat.le_add_right _ _)
  | .nex p q => Nat.le_trans p.leaves_pos (Nat.le_add_right _ _)
theorem Pl.h_lt : ∀ p : Pl, p.h + 1 ≤ p.leaves
  | .win _ => Nat.le_refl _
  | .days _ _ => Nat.le_refl _
  | .lat p q => by have := p.h_lt; have := q.h_lt; simp only [Pl.h, Pl.leaves]; omega
  | .soo p q => by have := p.h_lt; have := q.h_lt; simp only [Pl.h, Pl.leaves]; omega
  | .nex p q => by have := p.h_lt; have := q.h_lt; simp only [Pl.h, Pl.leaves]; omega
theorem Pl.forms_eq : ∀ p : Pl, p.forms = 2 * p.leaves - 1
  | .win _ => rfl
  | .days _ _ => rfl
  | .lat p q => by have := p.forms_eq; have := q.forms_eq; simp only [Pl.forms, Pl.leaves]; omega
  | .soo p q => by have := p.forms_eq; have := q.forms_eq; simp only [Pl.forms, Pl.leaves]; omega
  | .nex p q => by have := p.forms_eq; have := q.forms_eq; simp only [Pl.forms, Pl.leaves]; omega
theorem Pl.ok_mono {L M : Nat} (d : L ∣ M) : ∀ p : Pl, p.ok L → p.ok M
  | .win _, h => h
  | .days _ _, h => ⟨h.1, h.2.1, Nat.dvd_trans h.2.2.1 d, h.2.2.2⟩
  | .lat p q, h => ⟨p.ok_mono d h.1, q.ok_mono d h.2⟩
  | .soo p q, h => ⟨p.ok_mono d h.1, q.ok_mono d h.2⟩
  | .nex p q, h => ⟨p.ok_mono d h.1, q.ok_mono d h.2⟩
theorem lcmI_dvd {a b : Int} {L : Nat} (h1 : a.natAbs ∣ L) (h2 : b.natAbs ∣ L) : (lcmI a b).natAbs ∣ L := by
  unfold lcmI
  rw [Int.natAbs_natCast]
  exact Nat.lcm_dvd h1 h2
theorem lcmI_pos {a b : Int} (h1 : 0 < a) (h2 : 0 < b) : 0 < lcmI a b := by
  unfold lcmI
  have := Nat.lcm_pos (m := a.natAbs) (n := b.natAbs) (by omega) (by omega)
  omega
theorem Pl.per_ok {L : Nat} : ∀ p : Pl, p.ok L → p.per.natAbs ∣ L ∧ 0 < p.per
  | .win _, _ => ⟨Nat.one_dvd _, (show (0 : Int) < 1 by decide)⟩
  | .days _ e, h => ⟨h.2.2.1, by have := h.1; simp only [Pl.per]; omega⟩
  | .lat p q, h => ⟨lcmI_dvd (p.per_ok h.1).1 (q.per_ok h.2).1, lcmI_pos (p.per_ok h.1).2 (q.per_ok h.2).2⟩
  | .soo p q, h => ⟨lcmI_dvd (p.per_ok h.1).1 (q.per_ok h.2).1, lcmI_pos (p.per_ok h.1).2 (q.per_ok h.2).2⟩
  | .nex p q, h => ⟨lcmI_dvd (p.per_ok h.1).1 (q.per_ok h.2).1, lcmI_pos (p.per_ok h.1).2 (q.per_ok h.2).2⟩
theorem Pl.per_le {L : Nat} (p : Pl) (h : p.ok L) (h0 : 0 < L) (h1 : L ≤ 2000) : 1 ≤ p.per ∧ p.per ≤ 2000 := by
  obtain ⟨d, q⟩ := p.per_ok h
  have := Nat.le_of_dvd h0 d
  omega
theorem Asc.all : ∀ {n : Int} {bs : List Int}, Asc n bs → ∀ b ∈ bs, n ≤ b ∧ b ≤ 1000
  | _, [], _, b, hb => by cases hb
  | n, c :: r, h, b, hb => by
    rcases List.mem_cons.mp hb with rfl | hb
    · exact ⟨h.1, h.2.1⟩
    · have := Asc.all h.2.2 b hb
      have := h.1
      omega
theorem lastOf_nil : lastOf [] = 0 := rfl
theorem lastOf_mem : ∀ {bs : List Int}, bs ≠ [] → lastOf bs ∈ bs
  | [], h => absurd rfl h
  | [b], _ => List.mem_singleton.mpr rfl
  | b :: c :: r, _ => by
    have := lastOf_mem (bs := c :: r) (by simp)
    exact List.mem_cons_of_mem _ this
theorem Asc.last {n : Int} : ∀ {bs : List Int}, Asc n bs → ∀ b ∈ bs, b ≤ lastOf bs
  | [], _, b, hb => by cases hb
  | [c], _, b, hb => by
    rw [List.mem_singleton] at hb
    rw [hb]
    exact Int.le_refl _
  | c :: d :: r, h, b, hb => by
    have ih := Asc.last (bs := d :: r) h.2.2
    show b ≤ lastOf (d :: r)
    rcases List.mem_cons.mp hb with rfl | hb
    · have := ih d (by simp)
      have := h.2.2.1
      omega
    · exact ih b hb
theorem Asc.last_bd {bs : List Int} (h : Asc 1 bs) : 0 ≤ lastOf bs ∧ lastOf bs ≤ 1000 := by
  by_cases e : bs = []
  · subst e
    exact ⟨Int.le_refl _, by decide⟩
  · have := h.all _ (lastOf_mem e)
    omega
/-- the greatest of 0 and the borders -/
theorem Asc.max {bs : List Int} (h : Asc 1 bs) {m : Int} (hm : m ∈ 0 :: bs) (hu : ∀ y ∈ 0 :: bs, y ≤ m) : m = lastOf bs := by
  have l0 := h.last_bd
  rcases List.mem_cons.mp hm with rfl | hm
  · by_cases e : bs = []
    · subst e; rfl
    · have := h.all _ (lastOf_mem e)
      have := hu _ (List.mem_cons_of_mem _ (lastOf_mem e))
      omega
  · have e : bs ≠ [] := fun z => by rw [z] at hm; cases hm
    have := h.last m hm
    have := hu _ (List.mem_cons_of_mem _ (lastOf_mem e))
    omega
theorem dayAt_some {bs : List Int} {e t b : Int} (h : bs.find? (fun b => decide (b > t)) = some b) : dayAt bs e t = b := by unfold dayAt; rw [h]
theorem dayAt_none {bs : List Int} {e t : Int} (h : bs.find? (fun b => decide (b > t)) = none) : dayAt bs e t = lastOf bs + ((t - lastOf bs) / e + 1) * e := by unfold dayAt; rw [h]
theorem find_none {bs : List Int} {t : Int} (h : bs.find? (fun b => decide (b > t)) = none) : ∀ b ∈ bs, b ≤ t := by
  intro b hb
  have := List.find?_eq_none.mp h b hb
  simp at this
  exact this
theorem last_le {bs : List Int} {t : Int} (h0 : 0 ≤ t) (h : ∀ b ∈ bs, b ≤ t) : lastOf bs ≤ t := by
  by_cases e : bs = []
  · subst e; exact h0
  · exact h _ (lastOf_mem e)
theorem div_step (x e : Int) (he : 0 < e) : x < (x / e + 1) * e ∧ (x / e) * e ≤ x := by
  have h1 := Int.emod_nonneg x (by omega : e ≠ 0)
  have h2 := Int.emod_lt_of_pos x he
  have h3 := Int.mul_ediv_add_emod x e
  have h4 : (x / e + 1) * e = e * (x / e) + e := by rw [Int.add_mul, Int.one_mul, Int.mul_comm]
  have h5 : (x / e) * e = e * (x / e) := Int.mul_comm _ _
  omega
theorem dayAt_gt {bs : List Int} {e t : Int} (he : 0 < e) : t < dayAt bs e t := by
  cases q : bs.find? (fun b => decide (b > t)) with
  | some b =>
    rw [dayAt_some q]
    have := List.find?_some q
    simpa using this
  | none =>
    rw [dayAt_none q]
    have := (div_step (t - lastOf bs) e he).1
    omega
theorem dayAt_le {bs : List Int} {e t : Int} (he : 0 < e) (h1 : e ≤ 2000) (ha : Asc 1 bs) (h0 : 0 ≤ t) : dayAt bs e t ≤ t + 2000 := by
  cases q : bs.find? (fun b => decide (b > t)) with
  | some b =>
    rw [dayAt_some q]
    have := ha.all _ (List.mem_of_find?_eq_some q)
    omega
  | none =>
    rw [dayAt_none q]
    have := (div_step (t - lastOf bs) e he).2
    have h4 : ((t - lastOf bs) / e + 1) * e = (t - lastOf bs) / e * e + e := by rw [Int.add_mul, Int.one_mul]
    omega
theorem find_first {t t' : Int} (htt : t ≤ t') : ∀ {n : Int} {bs : List Int} {b b' : Int}, Asc n bs → bs.find? (fun b => decide (b > t)) = some b → bs.find? (fun b => decide (b > t')) = some b' → b ≤ b'
  | _, [], _, _, _, h, _ => by cases h
  | n, c :: r, b, b', ha, h, h' => by
    rw [List.find?_cons] at h h'
    by_cases q : c > t
    · rw [decide_eq_true q] at h
      cases h
      by_cases q' : c > t'
      · rw [decide_eq_true q'] at h'
        cases h'
        exact Int.le_refl _
      · rw [decide_eq_false q'] at h'
        have := ha.2.2.all _ (List.mem_of_find?_eq_some h')
        omega
    · rw [decide_eq_false q] at h
      rw [decide_eq_false (show ¬ c > t' by omega)] at h'
      exact find_first htt ha.2.2 h h'
theorem dayAt_mono {bs : List Int} {e t t' : Int} (he : 0 < e) (ha : Asc 1 bs) (htt : t ≤ t') : dayAt bs e t ≤ dayAt bs e t' := by
  cases q : bs.find? (fun b => decide (b > t)) with
  | some b =>
    rw [dayAt_some q]
    cases q' : bs.find? (fun b => decide (b > t')) with
    | some b' =>
      rw [dayAt_some q']
      exact find_first htt ha q q'
    | none =>
      have h1 := ha.last _ (List.mem_of_find?_eq_some q)
      have h2 := find_none q' _ (List.mem_of_find?_eq_some q)
      have := dayAt_gt (bs := bs) (t := t') he
      omega
  | none =>
    rw [dayAt_none q]
    have q2 : bs.find? (fun b => decide (b > t')) = none := by
      rw [List.find?_eq_none]
      intro b hb
      have := find_none q b hb
      simp
      omega
    rw [dayAt_none q2]
    have hd : (t - lastOf bs) / e ≤ (t' - lastOf bs) / e := Int.ediv_le_ediv he (by omega)
    have := Int.mul_le_mul_of_nonneg_right (show (t - lastOf bs) / e + 1 ≤ (t' - lastOf bs) / e + 1 by omega) (Int.le_of_lt he)
    omega
theorem dayAt_per {bs : List Int} {e t m : Int} (he : 0 < e) (ha : Asc 1 bs) (hb : lastOf bs ≤ t) (hm : 0 ≤ m) (hd : e ∣ m) : dayAt bs e (t + m) = dayAt bs e t + m := by
  have no : ∀ {u : Int}, lastOf bs ≤ u → bs.find? (fun b => decide (b > u)) = none := fun {u} hu => by
    rw [List.find?_eq_none]
    intro b hb
    have := ha.last b hb
    simp
    omega
  rw [dayAt_none (no hb), dayAt_none (no (show lastOf bs ≤ t + m by omega))]
  obtain ⟨c, rfl⟩ := hd
  have e1 : t + e * c - lastOf bs = (t - lastOf bs) + e * c := by omega
  rw [e1, Int.add_mul_ediv_left _ _ (by omega : e ≠ 0)]
  have e2 : ((t - lastOf bs) / e + c + 1) * e = ((t - lastOf bs) / e + 1) * e + e * c := by
    rw [Int.add_mul, Int.add_mul, Int.add_mul, Int.mul_comm c e]
    omega
  rw [e2]
  omega
theorem Pl.at_gt {L : Nat} : ∀ (p : Pl), p.ok L → ∀ t, t < p.at t
  | .win w, h, t => by have := h.1; simp only [Pl.at]; omega
  | .days bs e, h, t => dayAt_gt (by have := h.1; omega)
  | .lat p q, h, t => by
    have := p.at_gt h.1 t
    have := q.at_gt h.2 t
    simp only [Pl.at]
    split <;> omega
  | .soo p q, h, t => by
    have := p.at_gt h.1 t
    have := q.at_gt h.2 t
    simp only [Pl.at]
    split <;> omega
  | .nex p q, h, t => Int.lt_trans (p.at_gt h.1 t) (q.at_gt h.2 _)
theorem Pl.at_le {L : Nat} : ∀ (p : Pl), p.ok L → ∀ t, 0 ≤ t → p.at t ≤ t + 2000 * p.leaves
  | .win w, h, t, _ => by have := h.2; simp only [Pl.at, Pl.leaves]; omega
  | .days bs e, h, t, h0 => by
    have := dayAt_le (bs := bs) (by have := h.1; omega) h.2.1 h.2.2.2.2 h0
    simp only [Pl.at, Pl.leaves]
    omega
  | .lat p q, h, t, h0 => by
    have := p.at_le h.1 t h0
    have := q.at_le h.2 t h0
    simp only [Pl.at, Pl.leaves]
    split <;> omega
  | .soo p q, h, t, h0 => by
    have := p.at_le h.1 t h0
    have := q.at_le h.2 t h0
    simp only [Pl.at, Pl.leaves]
    split <;> omega
  | .nex p q, h, t, h0 => by
    have h1 := p.at_gt h.1 t
    have := p.at_le h.1 t h0
    have := q.at_le h.2 (p.at t) (by omega)
    simp only [Pl.at, Pl.leaves]
    omega
theorem Pl.at_mono {L : Nat} : ∀ (p : Pl), p.ok L → ∀ t t', t ≤ t' → p.at t ≤ p.at t'
  | .win w, h, t, t', ht => by simp only [Pl.at]; omega
  | .days bs e, h, t, t', ht => dayAt_mono (by have := h.1; omega) h.2.2.2.2 ht
  | .lat p q, h, t, t', ht => by
    have := p.at_mono h.1 t t' ht
    have := q.at_mono h.2 t t' ht
    simp only [Pl.at]
    split <;> split <;> omega
  | .soo p q, h, t, t', ht => by
    have := p.at_mono h.1 t t' ht
    have := q.at_mono h.2 t t' ht
    simp only [Pl.at]
    split <;> split <;> omega
  | .nex p q, h, t, t', ht => q.at_mono h.2 _ _ (p.at_mono h.1 t t' ht)
theorem maxI_le {a b t : Int} (h : maxI a b ≤ t) : a ≤ t ∧ b ≤ t := by
  unfold maxI at h
  split at h <;> omega
theorem dvd_l {a b m : Int} (h : lcmI a b ∣ m) : a ∣ m ∧ b ∣ m := by
  have h1 : a ∣ lcmI a b := Int.natAbs_dvd_natAbs.mp (by unfold lcmI; rw [Int.natAbs_natCast]; exact Nat.dvd_lcm_left _ _)
  have h2 : b ∣ lcmI a b := Int.natAbs_dvd_natAbs.mp (by unfold lcmI; rw [Int.natAbs_natCast]; exact Nat.dvd_lcm_right _ _)
  exact ⟨Int.dvd_trans h1 h, Int.dvd_trans h2 h⟩
theorem Pl.at_per {L : Nat} : ∀ (p : Pl), p.ok L → ∀ t m, p.bend ≤ t → 0 ≤ m → p.per ∣ m → p.at (t + m) = p.at t + m
  | .win w, h, t, m, _, _, _ => by simp only [Pl.at]; omega
  | .days bs e, h, t, m, hb, hm, hd => dayAt_per (by have := h.1; omega) h.2.2.2.2 hb hm hd
  | .lat p q, h, t, m, hb, hm, hd => by
    obtain ⟨d1, d2⟩ := dvd_l hd
    obtain ⟨b1, b2⟩ := maxI_le hb
    have h1 := p.at_per h.1 t m b1 hm d1
    have h2 := q.at_per h.2 t m b2 hm d2
    simp only [Pl.at, h1, h2]
    split <;> split <;> omega
  | .soo p q, h, t, m, hb, hm, hd => by
    obtain ⟨d1, d2⟩ := dvd_l hd
    obtain ⟨b1, b2⟩ := maxI_le hb
    have h1 := p.at_per h.1 t m b1 hm d1
    have h2 := q.at_per h.2 t m b2 hm d2
    simp only [Pl.at, h1, h2]
    split <;> split <;> omega
  | .nex p q, h, t, m, hb, hm, hd => by
    obtain ⟨d1, d2⟩ := dvd_l hd
    obtain ⟨b1, b2⟩ := maxI_le hb
    have h1 := p.at_per h.1 t m b1 hm d1
    have := p.at_gt h.1 t
    have h2 := q.at_per h.2 (p.at t) m (by omega) hm d2
    simp only [Pl.at, h1, h2]
theorem Pl.bend_bd {L : Nat} : ∀ p : Pl, p.ok L → 0 ≤ p.bend ∧ p.bend ≤ 1000
  | .win _, _ => ⟨Int.le_refl _, (show (0 : Int) ≤ 1000 by decide)⟩
  | .days _ _, h => h.2.2.2.2.last_bd
  | .lat p q, h => by have := p.bend_bd h.1; have := q.bend_bd h.2; simp only [Pl.bend, maxI]; split <;> omega
  | .soo p q, h => by have := p.bend_bd h.1; have := q.bend_bd h.2; simp only [Pl.bend, maxI]; split <;> omega
  | .nex p q, h => by have := p.bend_bd h.1; have := q.bend_bd h.2; simp only [Pl.bend, maxI]; split <;> omega
end RM
namespace RM
theorem fmod_nat (X Y : Nat) : (X : Int).fmod (Y : Int) = ((X % Y : Nat) : Int) := by
  rw [Int.fmod_eq_emod_of_nonneg _ (Int.natCast_nonneg _)]
  rfl
theorem fdiv_nat (X Y : Nat) : (X : Int).fdiv (Y : Int) = ((X / Y : Nat) : Int) := by
  rw [Int.fdiv_eq_ediv_of_nonneg _ (Int.natCast_nonneg _)]
  rfl
theorem lcm_by (A B : Nat) : ((A : Int).fdiv ((Nat.gcd A B : Nat) : Int)) * (B : Int) = lcmI A B := by
  rw [fdiv_nat]
  unfold lcmI
  rw [Int.natAbs_natCast, Int.natAbs_natCast, ← Int.natCast_mul]
  congr 1
  rw [Nat.div_mul_right_comm (Nat.gcd_dvd_left A B)]
  rfl
theorem gcd_step (X Y : Nat) : Nat.gcd Y (X % Y) = Nat.gcd X Y := by
  rw [Nat.gcd_comm X Y, Nat.gcd_rec Y X, Nat.gcd_comm]
end RM
namespace RM
theorem Asc.snoc {e c : Int} : ∀ {n : Int} {bs : List Int}, Asc n bs → (∀ b ∈ bs, b ≤ e) → n ≤ c → e < c → c ≤ 1000 → Asc n (bs ++ [c])
  | n, [], _, _, h1, _, h3 => ⟨h1, h3, True.intro⟩
  | n, b :: r, h, hb, h1, h2, h3 => ⟨h.1, h.2.1, Asc.snoc h.2.2 (fun x hx => hb x (List.mem_cons_of_mem _ hx)) (by have := hb b (by simp); omega) h2 h3⟩
theorem lcmI_one (B : Nat) : lcmI B 1 = B := by
  unfold lcmI
  rw [Int.natAbs_natCast]
  show ((B.lcm 1 : Nat) : Int) = B
  rw [Nat.lcm_one_right]
theorem lcmI_self (B : Nat) : lcmI B B = B := by
  unfold lcmI
  rw [Int.natAbs_natCast, Nat.lcm_self]
end RM
namespace RM
/-- a plan is as good with its own period -/
theorem Pl.ok_per {L : Nat} : ∀ p : Pl, p.ok L → p.ok p.per.natAbs
  | .win _, h => h
  | .days _ e, h => ⟨h.1, h.2.1, Nat.dvd_refl _, h.2.2.2⟩
  | .lat p q, h => ⟨Pl.ok_mono (by simp only [Pl.per, lcmI, Int.natAbs_natCast]; exact Nat.dvd_lcm_left _ _) p (p.ok_per h.1), Pl.ok_mono (by simp only [Pl.per, lcmI, Int.natAbs_natCast]; exact Nat.dvd_lcm_right _ _) q (q.ok_per h.2)⟩
  | .soo p q, h => ⟨Pl.ok_mono (by simp only [Pl.per, lcmI, Int.natAbs_natCast]; exact Nat.dvd_lcm_left _ _) p (p.ok_per h.1), Pl.ok_mono (by simp only [Pl.per, lcmI, Int.natAbs_natCast]; exact Nat.dvd_lcm_right _ _) q (q.ok_per h.2)⟩
  | .nex p q, h => ⟨Pl.ok_mono (by simp only [Pl.per, lcmI, Int.natAbs_natCast]; exact Nat.dvd_lcm_left _ _) p (p.ok_per h.1), Pl.ok_mono (by simp only [Pl.per, lcmI, Int.natAbs_natCast]; exact Nat.dvd_lcm_right _ _) q (q.ok_per h.2)⟩
theorem lcmI_comm (a b : Int) : lcmI a b = lcmI b a := by
  unfold lcmI
  rw [Nat.lcm_comm]
end RM

namespace LC
open PySem L2
section
variable {X : Cx} {st : Stmt} {ss : List Stmt}
/-- a statement that is never come to -/
theorem ps_never : PS X st (fun _ _ _ => False) := ⟨fun _ _ _ _ _ _ h => h.elim⟩
theorem pss_never : PSs X ss (fun _ _ _ => False) := ⟨fun _ _ _ _ _ _ h => h.elim⟩
def rLcm : List V → Hp → VK → Prop := fun vs H Q => ∃ a b : Int, vs = [.int a, .int b] ∧ a.natAbs < 2 ^ 64 ∧ b.natAbs < 2 ^ 64 ∧ Q (.int (RM.lcmI a b)) H
theorem cr_lcm : CallR X (.builtin "math.lcm") rLcm := by
  intro pins s σ H vs us Q I r h
  obtain ⟨a, b, rfl, h1, h2, q⟩ := h
  obtain ⟨t, u, rfl⟩ := Vals.int2 r
  exact PySem.W.mc_lcm h1 h2 fun _ => ⟨.int _, H, I.tok _, ⟨_, rfl⟩, q⟩
end
theorem fn_none {P : Program} {w : World} {K : PySem.W.Frag} {mg : Str → Option Value} {base : Heap} {CX : CXT} {k : Nat} {f : Addr} {fd : FuncData} {ps : List Str} {sp : Sp} (h : ∀ vs H Q E, ¬ sp vs H Q E) : FnOk P w K mg base CX k f fd ps sp :=
  ⟨fun vs H Q E q => (h _ _ _ _ q).elim, fun A outer s H args us vs Q E hr e0 hb r q => (h _ _ _ _ q).elim⟩
theorem raw0 {P : Program} {w : World} {K : PySem.W.Frag} {mg : Str → Option Value} {base : Heap} {CX : CXT} {k : Nat} {f : Addr} {fd : FuncData} {ps : List Str} {sp : Sp} (F : FnOk P w K mg base CX k f fd ps sp) (hb : Binds K fd ps []) : FnR P w K mg base CX k f sp :=
  (F.raw hb .nil).imp fun vs H Q E h => by
    rw [List.append_nil]
    exact h
theorem kLT_int {K : PySem.W.Frag} : PySem.W.kitAny K (.type "int") [.type "list", .type "tuple"] = some false := kitAny_cons (kit_ty (show kitB "int" "list" = some false by decide +kernel)) (fun _ => kitAny_cons (kit_ty (show kitB "int" "tuple" = some false by decide +kernel)) (fun _ => kitAny_nil) fun z => by cases z) (fun z => by cases z)
theorem kLT_lst {K : PySem.W.Frag} : PySem.W.kitAny K (.type "list") [.type "list", .type "tuple"] = some true := kitAny_cons (kit_ty (show kitB "list" "list" = some true by decide +kernel)) (fun z => by cases z) (fun _ => rfl)
end LC

namespace LX
open PySem L2 PySem.Spec PyProof.Rows
/-- what the written part says of an own error class with its own __init__ -/
structure ErrC (K : PySem.W.Frag) (mg : Str → Option Value) (nm : Str) (fs : List Str) (C fI : Addr) : Prop where
  ox : OexC K C
  iC : PySem.W.findIn K (.ref C) "__init__" = some (some (.ref fI))
  tI : PySem.W.typeIn K (.ref fI) = some (.type "function")
  gC : mg nm = some (.ref C)
  xf : XfC K C
  te : PySem.W.exmOne K (.ref C) (.ref C) = some true
  no : ∀ f ∈ fs, PySem.W.findIn K (.ref C) f = some none
theorem no_cons {K : PySem.W.Frag} {C : Addr} {f : Str} {fs : List Str} (h : PySem.W.findIn K (.ref C) f = some none) (r : ∀ f ∈ fs, PySem.W.findIn K (.ref C) f = some none) : ∀ g ∈ f :: fs, PySem.W.findIn K (.ref C) g = some none := fun g hg => by
  rcases List.mem_cons.mp hg with rfl | hg
  · exact h
  · exact r g hg
theorem no_nil {K : PySem.W.Frag} {C : Addr} : ∀ g ∈ ([] : List Str), PySem.W.findIn K (.ref C) g = some none := fun g hg => by cases hg
/-- an error of its class is what a clause of the class takes -/
theorem exm_self {K : PySem.W.Frag} {S T : Addr} {b : Bool} (h1 : PySem.W.subIn K (.ref T) (.type "BaseException") = some true) (h2 : PySem.W.isClsIn K T = true) (h3 : PySem.W.typeIn K (.ref T) = some (.type "type")) (h4 : PySem.W.subIn K (.ref S) (.ref T) = some b) :
    PySem.W.exmOne K (.ref S) (.ref T) = some b := by
  have h2' : (PySem.W.clsIn K T).isSome = true := h2
  unfold PySem.W.exmOne
  rw [h1, if_pos (by rfl)]
  show (if ((PySem.W.clsIn K T).isSome && PySem.W.typeIn K (.ref T) == some (.type "type")) = true then PySem.W.subIn K (.ref S) (.ref T) else none) = some b
  rw [h2', h3, if_pos (by rfl)]
  exact h4
/-- the way out of an error with the fields fs, made in H -/
def ErrOut (H : Hp) (E : XK) (C : Addr) (fs : List (Str × V)) : Prop := ∀ (d : Addr) (H' : Hp), L2.Same H H' → H d = none → H' d = some (.xd fs) → E (.ref C) (some d) H'
/-- the promise of an __init__ that stores fs of the arguments -/
def spErr (C : Addr) (n : Nat) (fs : List V → List (Str × V)) : Sp := fun vs H Q _ => ∃ (a : Addr) (ws : List V), vs = .ref a :: ws ∧ ws.length = n ∧ H a = some (exo a C none) ∧ ∀ (d : Addr) (H' : Hp), H d = none → H' a = some (exo a C (some d)) → H' d = some (exd d (fs ws)) → (∀ b o, b ≠ a → H b = some o → H' b = some o) → Q .non H'
/-- raise C(..): the way out follows from the class's promise -/
theorem err_out {H : Hp} {E : XK} {C : Addr} {n : Nat} {fs : List V → List (Str × V)} {ws : List V} (hn : ws.length = n) (h : ErrOut H E C (fs ws)) : ∀ a, H a = none → spErr C n fs (.ref a :: (ws ++ [])) (upd H a (exo a C none))
    (fun v H2 => v = .non ∧ ∃ (d : Addr) (gs : List (Str × V)), H2 a = some (exo a C (some d)) ∧ H2 d = some (exd d gs) ∧ H d = none ∧ E (.ref C) (some d) (upd (del H2 a) d (.xd gs))) (fun _ _ _ => False) := fun a ha => by
  rw [List.append_nil]
  refine ⟨a, ws, rfl, hn, upd_same, fun d H' hd h1 h2 k => ?_⟩
  have da : d ≠ a := fun z => by
    rw [z, upd_same] at hd
    cases hd
  rw [upd_ne da] at hd
  refine ⟨rfl, d, _, h1, h2, hd, h d _ (fun b o e => ?_) hd upd_same⟩
  have nb : b ≠ a := ne_of_none e ha
  rw [upd_ne (ne_of_none e hd), del_ne nb]
  exact k b o nb (by rw [upd_ne nb]; exact e)
/-- several clauses, each with a name -/
def wAsM (K : PySem.W.Frag) (Wout : WX) (D : Ends) : List (Value × Nat × (Addr → Value → Option Addr → TS)) → WX
  | [] => Wout
  | (c, i, ts) :: r => fun cls d σ H => ∃ b, PySem.W.exmOne K cls c = some b ∧
      (b = true → ∀ a, H a = none → ts a cls d { nx := fun σ' H' => D.nx (σ'.set i none) H', rt := D.rt, bk := fun σ' H' => D.bk (σ'.set i none) H', ct := fun σ' H' => D.ct (σ'.set i none) H' } (σ.set i (some (.ref a))) H) ∧
      (b = false → wAsM K Wout D r cls d σ H)
inductive AsOk (X : Cx) : List ExceptHandler → List (Value × Nat × (Addr → Value → Option Addr → TS)) → Prop
  | nil : AsOk X [] []
  | cons {x n : Str} {c : Value} {i : Nat} {ts : Addr → Value → Option Addr → TS} {b₀ : Stmt} {suite : List Stmt} {np pos' : Pos} {hds : List ExceptHandler} {l : List (Value × Nat × (Addr → Value → Option Addr → TS))}
      (hi : X.N[i]? = some n) (hln : X.env.kindOf n = some .local) (hc : Names X x c)
      (hsu : ∀ (a : Addr) (oe : Obj) (cls : Value) (d : Option Addr) (pn : List (Addr × Obj)), Zc cls d oe → (∃ vs, oe.data = .fields vs) → PSs (X.suite a ((a, oe) :: pn)) (b₀ :: suite) (ts a cls d)) (r : AsOk X hds l) :
      AsOk X (.ExceptHandler (some (.Name x np)) (some n) (b₀ :: suite) pos' :: hds) ((c, i, ts) :: l)
section
variable {X : Cx} {body : List Stmt} {h₀ : ExceptHandler} {hds : List ExceptHandler} {l : List (Value × Nat × (Addr → Value → Option Addr → TS))} {pos : Pos} {tb : WX → TS} {Wout : WX}
/-- what every clause finds: the error at a stands on the ground -/
structure Caught (X : Cx) (a : Addr) (B : Heap) (pins : List (Addr × Obj)) (σ : L2.St) (H : Hp) (cls : Value) (d : Option Addr) (sI s : Shared) : Prop where
  J : L2.Inv X pins σ H sI
  nb : ∀ b o, sI.heap.get? b = some o → b ∉ frs X.stack → B.get? b = some o
  up : sI.heap.UpToSlots s.heap
  fl : HandSPX.FlyingZ B (X.env :: X.outer) a (Zc cls d) s.heap
  na : H a = none
  os : s.os = sI.os
  ag : AllBare s.gens
  nL : a ≠ X.env.locals
  nF : a ∉ X.fs
theorem clauses {a : Addr} {B : Heap} {pins : List (Addr × Obj)} {σ : L2.St} {H : Hp} {cls : Value} {d : Option Addr} {sI s : Shared} {D : Ends} (hs : X.stack = X.env :: X.outer) (hf : X.env.frame = some X.env.locals) (hN : X.N.Nodup) (tk : Takes X Wout) (ok : X.Ok)
    (T : Caught X a B pins σ H cls d sI s) : ∀ {hds : List ExceptHandler} {l : List (Value × Nat × (Addr → Value → Option Addr → TS))}, AsOk X hds l → wAsM X.K Wout D l cls d σ H →
    wpAny (model X.prog X.w) X.A (handleBy (.ref a) X.env hds) (SP X pins D) X.xe s := by
  obtain ⟨J, nb, up, fl, na, os, ag, nL, nF⟩ := T
  obtain ⟨hp, g, dr, tok, oss⟩ := s
  intro hds l hk
  induction hk with
  | nil =>
    intro w
    refine wpAny_handleBy_nil ?_
    obtain ⟨k1, k2, k3, oe, vs, T, oT, ts', he, hz, hd, h1, hr⟩ := id fl
    unfold PySem.passOn
    refine wpAny_bind (wpAny_field he hd h1 ?_)
    rw [if_neg (show ¬ ((Value.ref T == Value.none) = true) from by simp)]
    have fin : wpAny (model X.prog X.w) X.A (setFlight (.ref a) X.env.frame) (fun _ s4 => wpAny (model X.prog X.w) X.A (throw (.ref a) : Sem Flow) (SP X pins D) X.xe s4) X.xe ⟨hp, g, dr, tok, oss⟩ := by
      rw [hf]
      refine HandSPX.setFlight_upZ fl fun h4 hh4 up4 => wpAny_throw (tk _ _ ?_)
      exact ⟨a, B, sI, pins, σ, H, cls, d, rfl, J, nb, up.trans up4, .inr (.inr (by rw [hs]; exact hh4)), na, os, ag, w⟩
    first
      | exact wpAny_bind (wpAny_pure (wpAny_bind fin))
      | exact wpAny_bind fin
  | @cons x n c i ts b₀ suite np pos' hds2 l2 hi hln hc hsu r ih =>
    intro w
    obtain ⟨b, hb1, hyes, hno⟩ := w
    have J3 : L2.Inv X pins σ H ⟨hp, g, dr, tok, oss⟩ := J.landed nb fl.1 up os ag
    obtain ⟨oe3, vs3, he3, hz3, hd3⟩ := fl.there
    have S3 := J3.suite he3 hd3 na nL nF
    refine wpAny_handleBy_cons (codeAny_handlers_test ?_) (by intro q; cases q)
    have LT : PySem.W.Looks (model X.prog X.w) hp (typeOf (.ref a)) cls := fun A Q E s k q => wpAny_typeOf_ref (k _ _ he3) (by rw [hz3.1]; exact q)
    have LM := PySem.W.exm_one (M := model X.prog X.w) (J3.kIn) LT hb1
    have test : ∀ {Q : Value → Shared → Prop} {E : Value → Shared → Prop}, Q c ⟨hp, g, dr, tok, oss⟩ → wpAny (model X.prog X.w) (X.A.mark (some (.ref a))) (eval (.Name x np) X.env) Q E ⟨hp, g, dr, tok, oss⟩ := fun {Q E} q => by
      obtain ⟨hg, hdbg, hm | ⟨hm, hv, hnn⟩⟩ := hc
      · exact ld_glob (X := X.suite a ((a, oe3) :: (X.pn ++ pins))) S3 hg hm q hdbg
      · exact ld_blt (X := X.suite a ((a, oe3) :: (X.pn ++ pins))) S3 hg hm hv q hnn hdbg
    refine test (LM.here ?_)
    cases b with
    | true =>
      refine codeAny_handlers_suite_as ?_
      refine HandSPX.lands_againZ fl fun h4 fl4 up4 => ?_
      have J4 : L2.Inv X pins σ H ⟨h4, g, dr, tok, oss⟩ := J.landed nb fl4.1 (up.trans up4) os ag
      obtain ⟨oe4, vs4, he4, hz4, hd4⟩ := fl4.there
      have S4 := J4.suite he4 hd4 na nL nF
      refine store_ok (X := X.suite a ((a, oe4) :: (X.pn ++ pins))) (v := .ref a) S4 hN hi (.inl hln) rfl (fun s5 S5 => ?_) (.inr hln)
      refine wpAny_mono ((hsu a oe4 cls d (X.pn ++ pins) hz4 ⟨_, hd4⟩).run [] s5 _ H _ S5 (hyes rfl a na)) (fun f s6 hsp => ?_) (fun _ _ z => False.elim z)
      have out : ∀ {σ6 : L2.St} {H6 : Hp} {Q : Shared → Prop}, L2.Inv (X.suite a ((a, oe4) :: (X.pn ++ pins))) [] σ6 H6 s6 → (∀ s7, L2.Inv X pins (σ6.set i none) H6 s7 → Q s7) →
          wpAny (model X.prog X.w) X.A (do bindName X.env n .none; unbindBehindTheSuite X.env n pos') (fun _ s7 => Q s7) X.xe s6 := fun {σ6 H6 Q} S6 hq => gone_ok (S6.unsuite ok) hN hi hln hq
      cases f with
      | next =>
        obtain ⟨σ6, H6, S6, q6⟩ := hsp
        exact out S6 fun s7 J7 => ⟨_, _, J7, q6⟩
      | brk =>
        obtain ⟨σ6, H6, S6, q6⟩ := hsp
        exact out S6 fun s7 J7 => ⟨_, _, J7, q6⟩
      | cont =>
        obtain ⟨σ6, H6, S6, q6⟩ := hsp
        exact out S6 fun s7 J7 => ⟨_, _, J7, q6⟩
      | ret u =>
        obtain ⟨v6, σ6, H6, S6, r6, q6⟩ := hsp
        exact out S6 fun s7 J7 => ⟨_, _, _, J7, r6, q6⟩
    | false =>
      show wpAny _ X.A (handleBy (.ref a) X.env hds2) _ _ _
      exact ih (hno rfl)
/-- try: .. except x1 as n1: .. except x2 as n2: .. -/
theorem ps_try_asM (hs : X.stack = X.env :: X.outer) (hf : X.env.frame = some X.env.locals) (hN : X.N.Nodup) (tk : Takes X Wout)
    (hb : ∀ (W : WX) (pn : List (Addr × Obj)) (xe : Value → Shared → Prop), Takes (X.tr pn xe) W → PassesOwn (model X.prog X.w) X.A X.env xe → PSs (X.tr pn xe) body (tb W))
    (hh : AsOk X (h₀ :: hds) l) : PS X (.Try body (h₀ :: hds) [] [] pos) (fun D σ H => tb (wAsM X.K Wout D l) D σ H) := by
  refine ⟨fun pins s σ H D I h => ?_⟩
  have ok := I.ok
  have hfr : X.A.frames = some (X.env :: X.outer) := by rw [ok.frames, hs]
  refine wpAny_Try_except ?_
  refine wpAny_mono ((hb (wAsM X.K Wout D l) (X.pn ++ pins) (fun e s₁ => wpAny (model X.prog X.w) X.A (noteFrame e X.env) (fun _ s₂ => wpAny (model X.prog X.w) X.A (setFlight e none) (fun _ s₃ =>
    wpAny (model X.prog X.w) X.A (handleBy e X.env (h₀ :: hds)) (SP X pins D) X.xe s₃) X.xe s₂) X.xe s₁) (fun u s' xx => ?_) PassesOwn.looking).run [] s σ H D (I.toTry _) h) (fun f s1 hsp => ?_) (fun e s1 he => he)
  · obtain ⟨a, B, sI, pins', σ', H', cls, d, rfl, J', nb, up, sky, na, os, ag, w⟩ := xx
    have J : L2.Inv X pins σ' H' sI := J'.ofTry ok
    have sky' : Sky B (X.env :: X.outer) a (Zc cls d) X.env.locals s'.heap := by rw [← hs]; exact sky
    show wpAny (model X.prog X.w) X.A (noteFrame (.ref a) X.env) _ _ _
    refine Sky.land Zc.steady hfr hf sky' fun h3 fl3 up3 => ?_
    have nfr : a ∉ frs (X.env :: X.outer) := fun hm => by
      obtain ⟨oe3, vs3, he3, hz3, hd3⟩ := fl3.there
      obtain ⟨_, o', e', hnf⟩ := fl3.2.2.1.mem hm
      rw [he3] at e'
      cases e'
      exact hnf _ hd3
    have nL : a ≠ X.env.locals := fun z => nfr (List.mem_filterMap.mpr ⟨X.env, List.mem_cons_self, by rw [hf, z]⟩)
    have nF : a ∉ X.fs := fun hm => by
      obtain ⟨e, he, q⟩ := List.mem_filterMap.mp hm
      exact nfr (List.mem_filterMap.mpr ⟨e, List.mem_cons_of_mem _ he, q⟩)
    exact clauses (s := { s' with heap := h3 }) hs hf hN tk ok ⟨J, nb, up.trans up3, fl3, na, os, ag, nL, nF⟩ hh w
  · cases f with
    | next =>
      obtain ⟨σ', H', J', q⟩ := hsp
      exact wpAny_execs_nil ⟨σ', H', J'.ofTry ok, q⟩
    | brk =>
      obtain ⟨σ', H', J', q⟩ := hsp
      exact ⟨σ', H', J'.ofTry ok, q⟩
    | cont =>
      obtain ⟨σ', H', J', q⟩ := hsp
      exact ⟨σ', H', J'.ofTry ok, q⟩
    | ret u =>
      obtain ⟨v, σ', H', J', r, q⟩ := hsp
      exact ⟨v, σ', H', J'.ofTry ok, r, q⟩
end
/-! ### calls by keyword alone, within a try -/
section
variable {X : Cx} {CX : CXT} {k : Nat} {f : Addr} {fd : FuncData} {ps ks : List Str} {sp : Sp} {E : L2.St → XK} {x : Str} {p pos : Pos} {kws : List Keyword} {tk : TA} {g : List Value → List Value → List Value} {gV : List V → List V → List V}
def tCallKS (sp : Sp) (gV : List V → List V → List V) (E : L2.St → XK) (t tk : TA) : TE := fun σ H Q => t σ H fun vs H1 => tk σ H1 fun zs H2 => sp (gV vs zs) H2 Q (E σ)
theorem run_kS {pins : List (Addr × Obj)} {σ : L2.St} {H : Hp} {s : Shared} {Q : VK} {us ws : List Value} {vs zs : List V} (F : FnOk X.prog X.w X.K X.mg X.base CX k f fd ps sp) (hr : Room k X.A) (hb : KBinds X.K fd ps ks g gV) (hx : PassesAt CX X σ (E σ))
    (I : L2.Inv X pins σ H s) (r : Vals vs us) (rz : Vals zs ws) (h : sp (gV vs zs) H Q (E σ)) : wpAny (model X.prog X.w) X.A (call (.ref f) us (ks.zip ws)) (EP X pins σ Q) X.xe s := by
  have r2 := hb.rel r rz
  have hl : (g us ws).length = ps.length := by
    have e := F.len _ _ _ _ h
    rw [r2.length] at e
    exact e
  refine wpAny_call (codeAny_mono (F.run X.A X.stack s H _ (g us ws) (gV vs zs) Q (E σ) hr I.env0 (hb.to s us ws I.kIn hl) r2 h) fun r s' hq => ?_)
  match r, hq with
  | .error e, hq => exact hx pins H s e s' I hq
  | .ok (.ret u), hq => exact I.after hq
theorem pe_callK0S (F : FnOk X.prog X.w X.K X.mg X.base CX k f fd ps sp) (hr : Room k X.A) (hg : Gl X x) (hm : X.mg x = some (.ref f)) (hk : PySem.W.keepIn X.K (.ref f) = true) (hb : KBinds X.K fd ps ks g gV) (hx : ∀ σ, PassesAt CX X σ (E σ))
    (hkw : PK X kws tk) (hall : (backToKw pos (keywordEach kws X.env)).all (·.1.isSome) = true := by rfl) (hks : (backToKw pos (keywordEach kws X.env)).filterMap (·.1) = ks := by rfl)
    (hdb : (x == ("__debug__" : Str)) = false := by decide) (hpl : ((backTo pos (starEach [] X.env)).any (·.1) || (backToKw pos (keywordEach kws X.env)).any (·.1.isNone)) = false := by rfl) :
    PE X (.Call (.Name x p) [] kws pos) (tCallKS sp gV E tNil tk) := by
  refine ⟨fun pins s σ H Q I h => ?_⟩
  refine wpAny_Call_Name_kw (ld_glob I hg hm ?_ hdb)
  refine PySem.W.callWith_KW0 (h₀ := X.base) I.ok.mod.kin hk hall ?_ hpl
  refine thn (hkw.run pos pins s σ H _ I h) fun ws s2 ⟨zs, H2, I2, rz, q2⟩ => ⟨I2.kIn, ?_⟩
  rw [hks]
  exact run_kS (us := []) F hr hb (hx σ) I2 .nil rz q2
end
end LX

namespace LC
open PySem L2
section
variable {K : PySem.W.Frag} {a b : Addr} {xs ys : List V}
theorem walk_zipT {n : Nat} (hn : n = min xs.length ys.length) : Walk (RZ.ItzT K a b) n (fun H => SqT K H a xs ∧ SqT K H b ys) (YPair (fun i => xs[i]?) (fun i => ys[i]?)) := by
  have la : ∀ {i}, i < n → i < xs.length ∧ i < ys.length := fun h => by omega
  refine ⟨fun i _ hi q => ⟨xs, ys, xs[i]'(la hi).1, ys[i]'(la hi).2, q.1, q.2, List.getElem?_eq_getElem _, List.getElem?_eq_getElem _⟩, fun _ q => ⟨xs, ys, q.1, q.2, by omega⟩, fun i H v H' _ q y => ?_⟩
  obtain ⟨T, x, z, rest⟩ := y
  exact ⟨T, x, z, rest.1, rest.2.1, rest.2.2.1, rest.2.2.2.1 xs q.1, rest.2.2.2.2 ys q.2⟩
end
theorem kLT_non {K : PySem.W.Frag} : PySem.W.kitAny K (.type "NoneType") [.type "list", .type "tuple"] = some false := kitAny_cons (kit_ty (show kitB "NoneType" "list" = some false by decide +kernel)) (fun _ => kitAny_cons (kit_ty (show kitB "NoneType" "tuple" = some false by decide +kernel)) (fun _ => kitAny_nil) fun z => by cases z) (fun z => by cases z)
theorem kLT_str {K : PySem.W.Frag} : PySem.W.kitAny K (.type "str") [.type "list", .type "tuple"] = some false := kitAny_cons (kit_ty (show kitB "str" "list" = some false by decide +kernel)) (fun _ => kitAny_cons (kit_ty (show kitB "str" "tuple" = some false by decide +kernel)) (fun _ => kitAny_nil) fun z => by cases z) (fun z => by cases z)
theorem kLT_bool {K : PySem.W.Frag} : PySem.W.kitAny K (.type "bool") [.type "list", .type "tuple"] = some false := kitAny_cons (kit_ty (show kitB "bool" "list" = some false by decide +kernel)) (fun _ => kitAny_cons (kit_ty (show kitB "bool" "tuple" = some false by decide +kernel)) (fun _ => kitAny_nil) fun z => by cases z) (fun z => by cases z)
theorem kLT_tup {K : PySem.W.Frag} : PySem.W.kitAny K (.type "tuple") [.type "list", .type "tuple"] = some true := kitAny_cons (kit_ty (show kitB "tuple" "list" = some false by decide +kernel)) (fun _ => kitAny_cons (kit_ty (show kitB "tuple" "tuple" = some true by decide +kernel)) (fun z => by cases z) fun _ => rfl) (fun z => by cases z)
theorem sameT {K : PySem.W.Frag} {H H' : Hp} {a : Addr} {xs : List V} (e : L2.Same H H') (h : SqT K H a xs) : SqT K H' a xs := by
  rcases h with (h | ⟨o, h⟩) | h
  · exact .inl (.inl (e _ _ h))
  · exact .inl (.inr ⟨o, e _ _ h⟩)
  · exact .inr h
/-- both ways of a test go on alike -/
theorem ite_dc {p : Prop} [Decidable p] {A B C : Prop} (h : C) (h1 : p → C → A) (h2 : ¬ p → C → B) : if decide p = true then A else B := by
  by_cases q : p
  · rw [decide_eq_true q]
    exact L2.iteT (h1 q h)
  · rw [decide_eq_false q]
    exact L2.iteF (h2 q h)
theorem cut_lastV (xs : List V) (x : V) : cutV (xs ++ [x]) none (some (-1)) = xs := by
  have e : HT.sIx (xs ++ [x]).length (xs ++ [x]).length (some (-1)) = xs.length := by
    show (if (-1 : Int) < 0 then ((-1 : Int) + (((xs ++ [x]).length : Nat) : Int)).toNat else min (-1 : Int).toNat (xs ++ [x]).length) = xs.length
    rw [if_pos (by decide), List.length_append]
    show ((-1 : Int) + ((xs.length + 1 : Nat) : Int)).toNat = _
    omega
  unfold cutV
  rw [e, HT.sIx_none, Nat.sub_zero, List.drop_zero]
  exact List.take_left' rfl
/-- equal data, told and due -/
def Sc : V → Prop
  | .int _ => True
  | .non => True
  | .bl _ => True
  | .str _ => True
  | _ => False
def mkO (b : Bool) (xs : List V) : HO := if b = true then .lst xs else .tup xs
def Lk (H : Hp) : Nat → V → V → Prop
  | 0, x, y => x = y ∧ Sc x
  | n + 1, x, y => (x = y ∧ Sc x) ∨ ∃ (b : Bool) (p q : Addr) (xs ys : List V), x = .ref p ∧ y = .ref q ∧ H p = some (mkO b xs) ∧ H q = some (mkO b ys) ∧ xs.length = ys.length ∧ xs.length ≤ 1000000 ∧ ∀ (i : Nat) (u v : V), xs[i]? = some u → ys[i]? = some v → Lk H n u v
theorem Lk.same {H H' : Hp} (s : L2.Same H H') : ∀ {n : Nat} {x y : V}, Lk H n x y → Lk H' n x y
  | 0, _, _, h => h
  | n + 1, _, _, .inl h => .inl h
  | n + 1, _, _, .inr ⟨b, p, q, xs, ys, e1, e2, h1, h2, h3, h4, h5⟩ => .inr ⟨b, p, q, xs, ys, e1, e2, s _ _ h1, s _ _ h2, h3, h4, fun i u v a c => (h5 i u v a c).same s⟩
theorem Lk.sc {H : Hp} {x : V} (h : Sc x) : ∀ n, Lk H n x x
  | 0 => ⟨rfl, h⟩
  | _ + 1 => .inl ⟨rfl, h⟩
theorem Lk.cases {H : Hp} {m : Nat} {u v : V} (h : Lk H m u v) : (u = v ∧ Sc u) ∨ ∃ j, m = j + 1 ∧ ∃ (b : Bool) (p q : Addr) (xs ys : List V), u = .ref p ∧ v = .ref q ∧ H p = some (mkO b xs) ∧ H q = some (mkO b ys) ∧ xs.length = ys.length ∧ xs.length ≤ 1000000 ∧ ∀ (i : Nat) (s t : V), xs[i]? = some s → ys[i]? = some t → Lk H j s t := by
  cases m with
  | zero => exact .inl h
  | succ j =>
    rcases h with h | h
    · exact .inl h
    · exact .inr ⟨j, rfl, h⟩
end LC

namespace LE
open PySem L2 PySem.Spec PyProof.Rows
/-- the type of what stands on the right: an int, a text, an instance -/
inductive TyR (H : Hp) : V → Value → Prop where
  | int (i : Int) : TyR H (.int i) (.type "int")
  | str (z : Str) : TyR H (.str z) (.type "str")
  | ins {b C dx : Addr} {fs : List (Str × V)} (e : H b = some (.ins C dx fs)) : TyR H (.ref b) (.ref C)
/-- the class at C has the def at g, of the promise sp, under the name m -/
structure Own (X : Cx) (n : Nat) (m : Str) (C g : Addr) (sp : Sp) : Prop where
  at_ : PySem.W.findIn X.K (.ref C) m = some (some (.ref g))
  fn : PySem.W.isFn X.K (.ref g) = true
  F : FnR X.prog X.w X.K X.mg X.base CX0 n g sp
/-- x == y, x an instance of a class with an own == -/
def rEqI (X : Cx) (n : Nat) : R2 := fun x y H Q => ∃ (a C dx g : Addr) (fs : List (Str × V)) (sp : Sp) (tb : Value), x = .ref a ∧ H a = some (.ins C dx fs) ∧ Own X n "__eq__" C g sp ∧ TyR H y tb ∧ PySem.W.notFirst X.K C tb = true ∧ sp [x, y] H Q E0
section
variable {X : Cx} {n : Nat}
theorem op_eqI (hr : Room n X.A) : OpR X (compareOp .Eq) (rEqI X n) := by
  intro pins s σ H x y v u Q I rx ry h
  obtain ⟨a, C, dx, g, fs, sp, tb, rfl, ha, O, ty, hn, q⟩ := h
  cases (show v = Value.ref a from rx)
  obtain ⟨mA, J, _⟩ := ins_get I.hok ha
  obtain ⟨od, J, _⟩ := J.look
  obtain ⟨m, hF⟩ := I.fr
  have lk : PySem.W.Looks (model X.prog X.w) s.heap (typeOf u) tb := by
    cases ty with
    | int i => obtain ⟨t, e⟩ := (show ∃ t, u = Value.int i t from ry); cases e; exact PySem.W.Looks.of_pure rfl
    | str i => obtain ⟨t, e⟩ := (show ∃ t, u = Value.str i t from ry); cases e; exact PySem.W.Looks.of_pure rfl
    | ins e =>
      cases ry
      obtain ⟨mB, J', _⟩ := ins_get I.hok e
      obtain ⟨od', J', _⟩ := J'.look
      exact J'.type
  show wpAny (model X.prog X.w) X.A (richCompare .Eq (.ref a) u) (EP X pins σ Q) X.xe s
  refine PySem.W.cmp_K (op := .Eq) hr.units0 hF I.ok.mod.kin J lk hn O.at_ O.fn ?_
  refine wpAny_mono (wpAny_call (run_fnR (us := [.ref a, u]) (vs := [.ref a, y]) O.F hr (E := E0) pass0 I (.cons rfl (.cons ry .nil)) q)) (fun w s' z => ?_) fun _ _ x => x
  obtain ⟨z', H', I', rz, qz⟩ := z
  exact SlX.cmpback rz ⟨z', H', I', rz, qz⟩
/-- str(x) of an instance of a class with an own __str__ -/
def rStrI (X : Cx) (n : Nat) : List V → Hp → VK → Prop := fun xs H Q => ∃ (a C dx g : Addr) (fs : List (Str × V)) (sp : Sp), xs = [V.ref a] ∧ H a = some (.ins C dx fs) ∧ Own X n "__str__" C g sp ∧ sp [.ref a] H (fun z H' => ∃ t, z = .str t ∧ Q z H') E0
theorem run_in {A : Around} {pins : List (Addr × Obj)} {s : Shared} {σ : L2.St} {H : Hp} {g : Addr} {sp : Sp} {Q : VK} {us : List Value} {ws : List V} (F : FnR X.prog X.w X.K X.mg X.base CX0 n g sp) (hr : Room n A) (e0 : Env0 X.prog X.w X.K X.mg X.base A X.stack s H) (I : Inv X pins σ H s) (r : Vals ws us) (h : sp ws H Q E0) :
    codeAny (model X.prog X.w) A (.call (.ref g) ⟨us, []⟩) (fun r s' => match r with | .ok (.ret v) => EP X pins σ Q v s' | .ok _ => False | .error e => X.xe e s') s := by
  refine codeAny_mono (F A X.stack s H us ws Q E0 hr e0 r h) fun r s' hq => ?_
  cases r with
  | error e => exact pass0 pins σ H s e s' I hq
  | ok fl =>
    cases fl with
    | ret u => exact I.after hq
    | next => exact False.elim hq
    | brk => exact False.elim hq
    | cont => exact False.elim hq
theorem call_strI (hr : Room (n + 2) X.A) : CallR X (.type "str") (rStrI X n) := by
  intro pins s σ H xs us Q I r h
  obtain ⟨a, C, dx, g, fs, sp, rfl, ha, O, q⟩ := h
  obtain ⟨u, rfl, ru⟩ := r.one
  cases (show u = Value.ref a from ru)
  obtain ⟨mA, J, _⟩ := ins_get I.hok ha
  obtain ⟨od, J, _⟩ := J.look
  have hr2 : Room n X.A.in1.in1 := (show Room (n + 1) X.A.in1 from Room.in1 hr).in1
  refine PySem.W.kso_call hr2.units0 I.kIn J O.at_ O.fn (wpAny_mono (wpAny_call (run_in (us := [.ref a]) (ws := [.ref a]) O.F hr2 I.env0.in1.in1 I (.cons rfl .nil) q)) (fun w s' z => ?_) fun _ _ x => x)
  obtain ⟨z', H', I', rz, t, ez, qz⟩ := z
  subst ez
  obtain ⟨k, e⟩ := (show ∃ k, w = Value.str t k from rz)
  cases e
  exact ⟨.str t, H', I', ⟨k, rfl⟩, qz⟩
/-- f'{x}' of such an instance -/
def tFmtI (X : Cx) (n : Nat) (te : TE) : TE := fun σ H Q => te σ H fun x H1 => ∃ (a C dx g : Addr) (fs : List (Str × V)) (sp : Sp), x = V.ref a ∧ H1 a = some (.ins C dx fs) ∧ Own X n "__str__" C g sp ∧ PySem.W.findIn X.K (.ref C) "__format__" = some (some (.builtin "object.__format__")) ∧ PySem.W.mroIn X.K C (.type "object") = some true ∧
  sp [.ref a] H1 (fun z H' => ∃ t, z = .str t ∧ Q z H') E0
theorem pe_fmtI {e : Expr} {te : TE} {pos : Pos} (hr : Room (n + 1) X.A) (he : PE X e te) : PE X (.FormattedValue e (-1) none pos) (tFmtI X n te) := by
  refine ⟨fun pins s σ H Q I h => ?_⟩
  refine wpAny_FormattedValue_plain (thn (he.run pins s σ H _ I h) fun v s1 hv => ?_)
  obtain ⟨x, H1, I1, r1, a, C, dx, g, fs, sp, rfl, ha, O, hf, hm, q⟩ := hv
  cases (show v = Value.ref a from r1)
  obtain ⟨mA, J, _⟩ := ins_get I1.hok ha
  obtain ⟨od, J, _⟩ := J.look
  have hr1 : Room n X.A.in1 := Room.in1 hr
  have I2 := I1.tok (s1.toks + 1)
  refine PySem.W.kfo_fieldS hr1.units0 I1.kIn J hf hm O.at_ O.fn (wpAny_mono (wpAny_call (run_in (us := [.ref a]) (ws := [.ref a]) O.F hr1 I2.env0.in1 I2 (.cons rfl .nil) q)) (fun w s' z => ?_) fun _ _ x => x)
  obtain ⟨z', H', I', rz, t, ez, qz⟩ := z
  subst ez
  obtain ⟨k, e⟩ := (show ∃ k, w = Value.str t k from rz)
  cases e
  exact ⟨.str t, H', I', ⟨k, rfl⟩, qz⟩
end
end LE

namespace LL
open PySem PySem.Spec PyProof.Rows L2 LamX
/-! ### a lambda handed to a def that calls it within a try: the clauses see the names as they stood at the call -/
section
variable {X : Cx} {pins : List (Addr × Obj)} {σ : L2.St} {H : Hp} {s : Shared}
/-- x() in the def that got the lambda, the way out told at the very names -/
theorem pe_actS {CXg : CXT} {Eg : XK} {Ng : List Str} {qg : Str} {sg : Scope} {g f c' : Addr} {cdg pm ctv : Value} {params : Arguments} {body : Expr} {scope : Scope} {k i : Nat} {a : Str} {pn : List (Addr × Obj)} {xe : Value → Shared → Prop} {W : WX} {tb : XK → TE} {p1 p2 : Pos}
    (I : Inv X pins σ H s) (L : LamS X.env.scope scope) (hf : s.heap.get? f = some (PySem.W.kla_obj "<lambda>" (X.env.qual ++ "<lambda>") params body scope (cloFrom X.env.cells scope.names []) pm c' ctv)) (hfn : H f = none) (hfr : f ∉ frs X.stack)
    (hbind : bindArgs (PySem.W.kla_fn "<lambda>" (X.env.qual ++ "<lambda>") params body scope (cloFrom X.env.cells scope.names []) pm (.ref c') ctv) ⟨[], []⟩ = pure [])
    (tk : Takes ((cxOf CXg X.prog X.w X.K X.mg X.base Ng qg sg g cdg X.A X.stack s H Eg).tr pn xe) W) (hr : Room (k + 1) (X.A.deeper (envOfC qg sg s.heap.objs.size g cdg)))
    (hbody : ∀ (A : Around) (outer : List Env) (s : Shared) (H : Hp) (E : XK), Room k (A.deeper (lamEnv X scope s.heap.objs.size f c')) → PE (lamCx X A outer s H E scope f c') body (tb E))
    (hN : Ng[i]? = some a) (hv : Vis sg a) (hd : (a == ("__debug__" : Str)) = false := by decide) (hcd : (a == ("__classdict__" : Str)) = false := by decide) :
    PE ((cxOf CXg X.prog X.w X.K X.mg X.base Ng qg sg g cdg X.A X.stack s H Eg).tr pn xe) (.Call (.Name a p1) [] [] p2)
      (fun σZ HZ Q => σZ[i]? = some (some (.ref f)) ∧ HZ c' = some (CodeO c' (X.env.qual ++ "<lambda>")) ∧ tb (fun cls d H' => W cls d σZ H') σ HZ Q) := by
  refine ⟨fun pz sz σz Hz Q J0 h => ?_⟩
  obtain ⟨hs, hc, ht⟩ := h
  refine wpAny_Call_Name_kw (thn ((pe_var (pos := p1) (i := i) hN hv hd hcd).run pz sz σz Hz (fun v H1 => v = .ref f ∧ H1 = Hz) J0 ⟨.ref f, hs, rfl, rfl⟩) fun u s1 ⟨v, H1, J1, rv, ev, eH⟩ => ?_)
  subst ev
  subst eH
  obtain rfl : u = Value.ref f := rv
  have at1 := J1.base.keep f _ hf hfn hfr (fun z => nomatch (show f ∈ ([] : List Addr) from z))
  have un : Un (frs X.stack) [] H H1 s.heap s1.heap := J1.base
  refine PySem.W.callWith_F0 ⟨_, _, _, _, at1⟩ ?_
  obtain ⟨⟨oc, vs, t, ho, hdc, hvc⟩, _, _⟩ := J1.hok c' _ hc
  let E : XK := fun cls d H' => W cls d σz H'
  have run : codeAny (model X.prog X.w) (X.A.deeper (envOfC qg sg s.heap.objs.size g cdg)) (.call (.ref f) ⟨[], []⟩) (CR (L2.CX X.prog X.w) (envOfC qg sg s.heap.objs.size g cdg :: X.stack) X.prog X.w H1 s1 Q E) s1 := by
    refine PySem.W.kla_callFunE hr.depth at1 rfl L.co L.gen rfl ⟨c', oc, vs, t, rfl, ho, hdc, hvc⟩ ?_
    rw [hbind]
    refine wpAny_pure (wpAny_newFunctionEnv (fun y hy => (L.own y hy).2) (fun y hy => absurd hy (by simp)) (fun hh hns hsb => ⟨J1.nolimit.fresh _ hsb, ?_⟩) L.kind)
    show codeAny _ _ (.expr body (lamEnv X scope s1.heap.objs.size f c')) _ _
    have kp : ∀ b o, s1.heap.get? b = some o → hh.get? b = some o := fun b o e => hsb.extBut b o (Nat.ne_of_lt (Heap.lt_size e)) (Heap.get?_push_of_some _ e)
    refine PySem.W.kla_codeExpr (wpAny_mono ((hbody _ _ s1 H1 E (hr.deeper _)).run [] _ _ H1 Q (lam_start2 I L J1.env0 hr.hd un hns kp) ht) (fun v s' hq => ?_) fun e s' hq => hq)
    obtain ⟨w', H', J', rv, q⟩ := hq
    exact ⟨w', H', J'.os, J'.bare, J'.base, J'.hok, rv, q⟩
  refine wpAny_call (codeAny_mono run fun r s' hq => ?_)
  match r, hq with
  | .error e, hq => exact (passAt tk σz) pz H1 s1 e s' J1 hq
  | .ok (.ret u), hq => exact J1.after hq
end
/-- what the body of such a def gives, if its call of x runs as tl -/
def GivesS (X : Cx) (Ng : List Str) (x : Str) (sg : Scope) (g : Addr) (cdg : Value) (bg : List Stmt) (a : Str) (q : Str) (TT : (XK → Hp → VK → Prop) → Hp → VK → Prop) : Prop :=
  ∀ (f c' : Addr) (s : Shared) (H : Hp) (Q : VK) (tl : XK → Hp → VK → Prop),
    (∀ (W : WX) (pn : List (Addr × Obj)) (xe : Value → Shared → Prop) (p1 p2 : Pos), Takes ((cxOf CX0 X.prog X.w X.K X.mg X.base Ng x sg g cdg X.A X.stack s H E0).nox.tr pn xe) W →
      PE ((cxOf CX0 X.prog X.w X.K X.mg X.base Ng x sg g cdg X.A X.stack s H E0).nox.tr pn xe) (.Call (.Name a p1) [] [] p2) (fun σZ HZ Q => σZ[0]? = some (some (.ref f)) ∧ HZ c' = some (CodeO c' q) ∧ tl (fun cls d H' => W cls d σZ H') HZ Q)) →
    H c' = some (CodeO c' q) → TT tl H Q →
    ∃ t, PSs (cxOf CX0 X.prog X.w X.K X.mg X.base Ng x sg g cdg X.A X.stack s H E0).nox bg t ∧ t { nx := fun _ H' => Q .non H', rt := Q } (L2.start Ng [.ref f]) H
/-- x(lambda: body) -/
theorem pe_lamcallS {X : Cx} {T : List (Addr × Str)} {TT : (XK → Hp → VK → Prop) → Hp → VK → Prop} {x a : Str} {g c P : Addr} {k : Nat} {st : Stmt} {fd : FuncData} {Ng : List Str} {params : Arguments} {body : Expr} {scope : Scope} {t : XK → TE} {p lpos pos : Pos} {ql : Str}
    (D : LC.Def X.K X.mg x st [a] g fd) (hg : Gl X x) (Sg : FnScope Ng [a] (defScope st)) (hNg : Ng[0]? = some a) (hva : Vis (defScope st) a) (hG : ∀ cdg, GivesS X Ng x (defScope st) g cdg (defBody st) a (X.env.qual ++ "<lambda>") TT)
    (hql : X.env.qual = ql) (TB : TabB X.base X.mg c P) (hcode : X.env.code = .ref c) (hmT : (P, ql ++ "<lambda>") ∈ T) (hu : ∀ p ∈ T, p.1 = P → p.2 = ql ++ "<lambda>") (hr : Room (k + 2) X.A) (L : LamS X.env.scope scope) (hdef : defaultsOf params X.env = ([], []))
    (hbind : ∀ (q : Str) (cl : List (Str × Addr)) (pm cv ctv : Value), bindArgs (PySem.W.kla_fn "<lambda>" q params body scope cl pm cv ctv) ⟨[], []⟩ = pure [])
    (hbody : ∀ (A : Around) (outer : List Env) (s : Shared) (H : Hp) (E : XK) (f c' : Addr), Room k (A.deeper (lamEnv X scope s.heap.objs.size f c')) → PE (lamCx X A outer s H E scope f c') body (t E))
    (hdb : (x == ("__debug__" : Str)) = false := by decide) (hd : (a == ("__debug__" : Str)) = false := by decide) (hcd : (a == ("__classdict__" : Str)) = false := by decide) :
    PE X (.Call (.Name x p) [.Lambda params body scope lpos] [] pos) (tLam T TT t) := by
  subst hql
  refine ⟨fun pins s σ H Q I h => ?_⟩
  obtain ⟨hT, h⟩ := h
  obtain ⟨oc, od, kV, doc, pm, an, cdv, ct, osl, rfl, lk, hcg⟩ := D.F.ex
  refine wpAny_Call_Name_kw (ld_glob I hg D.g ?_ hdb)
  refine PySem.W.callWith_K (h₀ := X.base) I.ok.mod.kin D.F.kp ?_ (by rfl) (by rfl)
  show wpAny _ _ (spliced ((false, eval (.Lambda params body scope lpos) X.env) :: backTo pos (starEach [] X.env))) _ _ s
  refine Calls.spliced_cons (lam_make2 I TB hcode hmT hu hT hdef (L.has I.ok) fun f c' pm' ctv H1 s' I1 eN T1 hf hfn hfr hco => ?_)
  refine Calls.spliced_nil ⟨I1.kIn, ?_⟩
  have rc : codeAny (model X.prog X.w) X.A (.call (.ref g) ⟨[.ref f], []⟩) (CR CX0 X.stack X.prog X.w H1 s' Q E0) s' := by
    refine run_ofS (N := Ng) (ps := [a]) (us := [.ref f]) (vs := [.ref f]) lk hcg Sg hr I1.env0 (D.b s' [.ref f] I1.kIn rfl) (.cons rfl .nil) rfl fun hr' => ?_
    obtain ⟨t', ht', hq'⟩ := hG cdv f c' s' H1 Q (fun E H' Q' => t E σ H' Q') (fun W pn xe p1 p2 tk => pe_actS (CXg := CX0) (Eg := E0) (i := 0) I1 L hf hfn hfr (hbind _ _ _ _ _) tk hr' (fun A outer s H E hr2 => hbody A outer s H E f c' hr2) hNg hva hd hcd) hco (h H1 eN T1)
    exact ⟨t', ht'.nox, hq'⟩
  refine wpAny_call (codeAny_mono rc fun r s2 hq => ?_)
  match r, hq with
  | .error e, hq => exact (show False from hq).elim
  | .ok (.ret u), hq => exact I1.after hq
/-- a def's body where its code object is known -/
theorem okC {P : Program} {w : World} {K : PySem.W.Frag} {mg : Str → Option Value} {base : Heap} {x qual : Str} {st : Stmt} {f c : Addr} {N ps : List Str} {k : Nat} {sp : Sp} {oc kV doc pm ct : Value} {od an : Option Addr} {osl : Array (Option Value)}
    (lk : K.lookup f = some ⟨oc, od, .func (PySem.W.fnOf x qual (defArgs st) (defBody st) (defScope st) .none kV doc pm an (.ref c) ct), osl⟩) (hcd : PySem.W.codeIn K (.ref c) qual = true) (S : FnScope N ps (defScope st)) (len : ∀ vs H Q E, sp vs H Q E → vs.length = ps.length)
    (hbody : ∀ (A : Around) (outer : List Env) (s : Shared) (H : Hp) (vs : List V) (Q : VK) (E : XK), Room k (A.deeper (envOfC qual (defScope st) s.heap.objs.size f (.ref c))) → sp vs H Q E →
      ∃ t, PSs (cxOf CX0 P w K mg base N qual (defScope st) f (.ref c) A outer s H E).nox (defBody st) t ∧ t { nx := fun _ H' => Q .non H', rt := Q } (start N vs) H) :
    FnOk P w K mg base CX0 (k + 1) f (PySem.W.fnOf x qual (defArgs st) (defBody st) (defScope st) .none kV doc pm an (.ref c) ct) ps sp :=
  fn_of lk hcd S len fun A outer s H vs Q E hr hsp => by
    obtain ⟨t, h, q⟩ := hbody A outer s H vs Q E hr hsp
    exact ⟨t, h.nox, q⟩
end LL

namespace LE2
open PySem PySem.Spec PyProof.Rows L2 LamX
/-- the end by tables of the law's defs -/
theorem walk_own2 {l : PySem.W.OpenLaw} {n k : Nat} {q : Program} {loose : List Str} {XP : (Str → Option Value) → Heap → Prop} {YP : World → Heap → Prop} {d : DefRec} {K : Params → PySem.W.Frag} {CX : World → CXT} {x : Str} {NM : Str → Prop}
    (hn : l.most = some n) (hn2 : n ≤ sizeLine) (hdf : d.params.defaults = []) (hr : Room k callerA) (hrec : ∀ nm : Str, NM nm → ((recsOf q).any fun e => e.name == nm) = true) (hY : ∀ (w : World) (h : Heap), YP w h → (K w.params).In h)
    (F : ∀ (w : World) (mg : Str → Option Value) (fa : Addr) (h : Heap), YP w h → (K w.params).In h → h.Ns mainGlobals mg → mg d.name = some (.ref fa) → (∀ nm : Str, NM nm → ∀ fb, mg nm = some (.ref fb) → OwnTab (K w.params) fb h) → LawAtS l w (K w.params) (CX w) k n x mg fa h)
    (hCX : ∀ (w : World) (H : Hp) (s : Shared) (e : Value) (s' : Shared), CX w [] H s (fun _ _ _ => False) e s' → False) :
    PySem.W.WalkO q loose XP YP l.row.toRowW d [] (fun f vs => PySem.call f vs) := by
  refine Att.attach_callB hn hdf fun w s₀ s₁ mg mb fa o pm cd doc a vs ns G Y ho hd hcd hmg hobj hints hlen hbits hg => ?_
  have KX := hY w _ Y
  have own : ∀ nm : Str, NM nm → ∀ fb, mg nm = some (.ref fb) → OwnTab (K w.params) fb s₁.heap := fun nm hnm fb hfb c P o1 fd1 e dd vs1 sl k1 k2 k3 k4 k5 => by
    obtain ⟨dL, hm, hn1⟩ := List.any_eq_true.mp (hrec nm hnm)
    have e0 : dL.name = nm := beq_iff_eq.mp hn1
    obtain ⟨a', o', fd', c', P', h1, h2, h3, h4, h5, h6⟩ := G.T.tab dL hm
    rw [e0, hfb] at h1
    cases h1
    have g1 := KX _ _ k1
    rw [g1] at h2
    cases h2
    rw [k2] at h3
    cases h3
    rw [k3] at h4
    cases h4
    obtain ⟨⟨oc, vc, e1, _, e3, e4⟩, hP⟩ := h6
    have g2 := KX _ _ k4
    rw [g2] at e1
    cases e1
    cases e3
    rw [k5] at e4
    cases e4
    exact hP
  obtain ⟨fd, cs, sp, hT, nT, C, hb, hsp, hF⟩ := F w mg fa _ Y KX G.T.g hmg own
  exact law_callTs KX G.T.g G.T.b G.T.builtins G.T.nolimit hg hT nT C G.T.bmain hobj hints (Nat.le_trans hlen hn2) hr hF hb (fun H hH hS => hsp H a ns hlen hbits hH hS) fun H e s' => hCX w H s₁ e s'
end LE2
namespace LE2
open PySem L2
/-- the fields of a code object at c that has its table at P -/
def hdB (vs : Array Value) (c P : Addr) : Bool := (match (vs[11]? : Option Value) with | some (.ref P') => P' == P | _ => false) &&
      (match vs.getD 18 .none with | .str _ _ => true | _ => false) && (match vs.getD 7 .none with | .int _ _ => true | _ => false) &&
      (match vs.getD 9 .none with | .bool _ => true | _ => false) && (match vs.getD 10 .none with | .int _ _ => true | _ => false) && c != P
theorem hd_of {K : PySem.W.Frag} {c P : Addr} {od : Option Addr} {vs : Array Value} {sl : Array (Option Value)} (h : K.lookup c = some ⟨.type "code", od, .fields vs, sl⟩) (r : hdB vs c P = true) : PySem.W.codeHdIn K c P = true := by
  unfold PySem.W.codeHdIn
  rw [h]
  exact r
/-- facts of classes, from the plain look-ups -/
theorem kit_tyF {K : PySem.W.Frag} {R : Addr} {t : String} (c : PySem.W.isClsIn K R = true) (y : PySem.W.typeIn K (.ref R) = some (.type "type")) (h : PySem.W.subIn K (.type t) (.ref R) = some false) : PySem.W.kitOne K (.type t) (.ref R) = some false := by
  have c' : (PySem.W.clsIn K R).isSome = true := c
  have e : ((Value.type t : Value) == Value.ref R) = false := rfl
  unfold PySem.W.kitOne
  rw [e, if_neg Bool.false_ne_true]
  show (if ((PySem.W.clsIn K R).isSome && PySem.W.typeIn K (.ref R) == some (.type "type")) = true then PySem.W.subIn K (.type t) (.ref R) else none) = some false
  rw [c', y, if_pos (by rfl)]
  exact h
theorem kit_ref {K : PySem.W.Frag} {C R : Addr} {b : Bool} (c : PySem.W.isClsIn K R = true) (y : PySem.W.typeIn K (.ref R) = some (.type "type")) (s : PySem.W.subIn K (.ref C) (.ref C) = some true) (h : PySem.W.subIn K (.ref C) (.ref R) = some b) : PySem.W.kitOne K (.ref C) (.ref R) = some b := by
  have c' : (PySem.W.clsIn K R).isSome = true := c
  unfold PySem.W.kitOne
  by_cases q : ((Value.ref C : Value) == Value.ref R) = true
  · rw [if_pos q]
    have e : C = R := by simpa using q
    subst e
    rw [s] at h
    exact h
  · rw [if_neg q]
    show (if ((PySem.W.clsIn K R).isSome && PySem.W.typeIn K (.ref R) == some (.type "type")) = true then PySem.W.subIn K (.ref C) (.ref R) else none) = some b
    rw [c', y, if_pos (by rfl)]
    exact h
theorem any2F {K : PySem.W.Frag} {v c1 c2 : Value} (h1 : PySem.W.kitOne K v c1 = some false) (h2 : PySem.W.kitOne K v c2 = some false) : PySem.W.kitAny K v [c1, c2] = some false := by
  unfold PySem.W.kitAny
  rw [h1]
  show PySem.W.kitAny K v [c2] = some false
  unfold PySem.W.kitAny
  rw [h2] <;> rfl
theorem any2T1 {K : PySem.W.Frag} {v c1 c2 : Value} (h1 : PySem.W.kitOne K v c1 = some true) : PySem.W.kitAny K v [c1, c2] = some true := by
  unfold PySem.W.kitAny
  rw [h1]
theorem any2T2 {K : PySem.W.Frag} {v c1 c2 : Value} (h1 : PySem.W.kitOne K v c1 = some false) (h2 : PySem.W.kitOne K v c2 = some true) : PySem.W.kitAny K v [c1, c2] = some true := by
  unfold PySem.W.kitAny
  rw [h1]
  show PySem.W.kitAny K v [c2] = some true
  unfold PySem.W.kitAny
  rw [h2]
theorem nf_of {K : PySem.W.Frag} {C : Addr} {tb : Value} (h : PySem.W.subIn K tb (.ref C) = some false) : PySem.W.notFirst K C tb = true := by
  unfold PySem.W.notFirst
  rw [h]
  simp
end LE2

namespace LD
open PySem PySem.Spec PyProof.Rows L2
theorem u65 {k : Nat} {A : Around} (r : Room k A) : A.units + 65 < cLine := by have := r.un; omega
section
variable {X : Cx}
/-- xs.remove(y), y is there: the first equal one goes -/
def rRemD (K : PySem.W.Frag) : V → List V → Hp → VK → Prop := fun x xs H Q => ∃ (a : Addr) (y : V) (d : PyData) (ys : List V) (ds : List PyData) (j : Nat) (z : PyData), x = V.ref a ∧ xs = [y] ∧ H a = some (.lst ys) ∧ DpAll K H ys ds ∧ Dp K H y d ∧
  SeqAt.shaped (.list ds) = true ∧ SeqAt.shaped d = true ∧ ds[j]? = some z ∧ PyData.eqv z d = true ∧ (∀ (m : Nat) (z' : PyData), m < j → ds[m]? = some z' → PyData.eqv z' d = false) ∧ Q .non (upd H a (.lst (ys.eraseIdx j)))
theorem mt_removeD (hu : X.A.units + 65 < cLine) : MtR X "list.remove" (rRemD X.K) := by
  intro pins s σ H x xs v us Q I rx rxs h
  obtain ⟨a, y, d, ys, ds, j, z, rfl, rfl, hH, hl, hy, sl, sd, hz, hzj, hno, q⟩ := h
  cases rx
  cases rxs with
  | cons ry rt =>
    rename_i uy ut
    cases rt
    obtain ⟨bs, r1⟩ := Dp.reads I d y uy hy ry
    have hxs : PyData.canLayAll0 ds = true := SeqAt.canLay_of_shaped sl
    have hroom : X.A.units + 1 + min (PyData.depthAll ds) d.depth < cLine := room_in_shaped sd hu
    obtain ⟨zl, its, n, rv, hlen, ho⟩ := I.lstM hH
    obtain ⟨as, h4⟩ := Dp.readsAll I ds _ its hl rv
    have hn : its.length = ds.length := SeqAt.ReadsAll.length ds its as h4
    have hmap : its.map (SeqAt.readOf s.heap) = ds := SeqAt.readsAll_map ds its as hxs h4
    have hvl := rv.length
    have hsl := sizeLine_eq
    obtain ⟨hjd, _⟩ := List.getElem?_eq_some_iff.mp hz
    have hjl : j < its.length := by omega
    have hj : j < its.toArray.size := by simpa using hjl
    have at_ : ∀ (m : Nat) (hm : m < its.toArray.size) (z' : PyData), ds[m]? = some z' → SeqAt.readOf s.heap its.toArray[m] = z' := by
      intro m hm z' hz'
      have hml : m < its.length := by simpa using hm
      rw [← hmap, List.getElem?_map, List.getElem?_eq_getElem hml] at hz'
      have e1 : SeqAt.readOf s.heap its[m] = z' := Option.some.inj (show some (SeqAt.readOf s.heap its[m]) = some z' from hz')
      simpa using e1
    refine call_meets PySem.F.slot_list_remove ⟨_, ho, rfl⟩ PySem.F.entry_list_remove (PySem.F.args_list_remove_2 _ _)
      (SeqAt.list_removeAt a its.toArray n none #[] uy (fun u => PyData.eqv (SeqAt.readOf s.heap u) d) j hj ?_ ?_ (by rw [List.size_toArray]; omega)) ⟨ho, SeqAt.items_eqAt (vs := its.toArray) (show ReadsAll s.heap its.toArray.toList ds as from h4) r1 hxs (SeqAt.canLay_of_shaped sd) hroom, ?_⟩
    · show PyData.eqv (SeqAt.readOf s.heap its.toArray[j]) d = true
      rw [at_ j hj z hz]
      exact hzj
    · intro m hm hmj
      have hmd : m < ds.length := by omega
      have hz' : ds[m]? = some ds[m] := List.getElem?_eq_getElem hmd
      show PyData.eqv (SeqAt.readOf s.heap its.toArray[m]) d = false
      rw [at_ m hm _ hz']
      exact hno m _ hmj hz'
    · have rr := rv.eraseIdx j
      refine ⟨.non, _, I.lset (its' := its.eraseIdx j) (t' := s.toks) hH ho ?_ rr ?_, rfl, q⟩
      · show its.toArray.eraseIdxIfInBounds j = (its.eraseIdx j).toArray
        rw [List.eraseIdxIfInBounds_toArray]
      · have := List.length_eraseIdx_le ys j
        omega
/-- the row of three at t -/
def Row3 (H : Hp) (t : Addr) (r : PySem.W.T3 Int Str Int) : Prop := H t = some (.tup [.int r.a, .str r.b, .int r.c])
/-- min(xs) of a list of tuples: the first least one itself -/
def rMinT (K : PySem.W.Frag) : List V → Hp → VK → Prop := fun vs H Q => ∃ (a : Addr) (ts : List Addr) (r0 : PySem.W.T3 Int Str Int) (rs : List (PySem.W.T3 Int Str Int)), vs = [V.ref a] ∧ SqL K H a (ts.map V.ref) ∧ Paired (Row3 H) ts (r0 :: rs) ∧
  ∀ (i : Nat) (t : Addr), ts[i]? = some t → (r0 :: rs)[i]? = some (PySem.W.minOf r0 rs) → Q (.ref t) H
theorem t3_inj {h : Heap} {v : Value} {p q : PySem.W.T3 Int Str Int} (H : PySem.W.Holds h v p) (H' : PySem.W.Holds h v q) : p = q := by
  obtain ⟨l, va, vb, vc, e, ⟨o, ho, hc, n, hd⟩, Ha, Hb, Hc⟩ := PySem.W.t3_of_holds H
  obtain ⟨l', va', vb', vc', e', ⟨o', ho', hc', n', hd'⟩, Ha', Hb', Hc'⟩ := PySem.W.t3_of_holds H'
  rw [e] at e'
  cases e'
  rw [ho] at ho'
  cases ho'
  rw [hd] at hd'
  cases hd'
  obtain ⟨t1, e1⟩ := PySem.W.int_of_holds Ha
  obtain ⟨t1', e1'⟩ := PySem.W.int_of_holds Ha'
  obtain ⟨t2, e2⟩ := PySem.W.str_of_holds Hb
  obtain ⟨t2', e2'⟩ := PySem.W.str_of_holds Hb'
  obtain ⟨t3, e3⟩ := PySem.W.int_of_holds Hc
  obtain ⟨t3', e3'⟩ := PySem.W.int_of_holds Hc'
  refine PySem.W.T3.same ?_ ?_ ?_
  · have := e1.symm.trans e1'
    injection this
  · have := e2.symm.trans e2'
    injection this
  · have := e3.symm.trans e3'
    injection this
theorem row_holds {pins : List (Addr × Obj)} {σ : L2.St} {H : Hp} {s : Shared} {t : Addr} {r : PySem.W.T3 Int Str Int} (I : Inv X pins σ H s) (h : Row3 H t r) : PySem.W.Holds s.heap (.ref t) r := by
  obtain ⟨_, its, r2, o, ho, hc, n, hd⟩ := I.hok _ _ h
  cases r2 with
  | cons q1 r2 =>
    cases r2 with
    | cons q2 r2 =>
      cases r2 with
      | cons q3 r2 =>
        cases r2
        obtain ⟨t1, rfl⟩ := q1
        obtain ⟨t2, rfl⟩ := q2
        obtain ⟨t3, rfl⟩ := q3
        exact PySem.W.holds_t3 ⟨o, ho, hc, n, hd⟩ (PySem.W.holds_int _ _) (PySem.W.holds_str _ _) (PySem.W.holds_int _ _)
theorem rows_hold {pins : List (Addr × Obj)} {σ : L2.St} {H : Hp} {s : Shared} (I : Inv X pins σ H s) : ∀ {ts : List Addr} {rs : List (PySem.W.T3 Int Str Int)} {us : List Value}, Paired (Row3 H) ts rs → Vals (ts.map V.ref) us → PySem.W.HoldAll s.heap us rs ∧ us = ts.map Value.ref
  | [], _, _, .nil, .nil => ⟨.nil, rfl⟩
  | t :: ts, _, _, .cons h p, .cons rv rvs => by
    obtain ⟨h1, h2⟩ := rows_hold I p rvs
    obtain rfl := rv
    exact ⟨.cons (row_holds I h) h1, by rw [h2]; rfl⟩
theorem cr_minT (hc : X.calm = true) (hu : X.A.units + 64 < cLine) : CallR X (.builtin "min") (rMinT X.K) := by
  intro pins s σ H vs us Q I r h
  obtain ⟨a, ts, r0, rs, rfl, hs, hp, q⟩ := h
  obtain ⟨its, rv, hl, _⟩ := I.list hs
  rw [Vals.ref1 r]
  obtain ⟨ha, rfl⟩ := rows_hold I hp rv
  refine PySem.W.min_list_datum (α := PySem.W.T3 Int Str Int) (I.ok.hd hc) hl.isList ha (by show X.A.units + 1 + 1 < cLine; omega) fun i v h' tk hi hv hk => ?_
  have hi' : (ts.map Value.ref)[i]? = some v := by simpa using hi
  rw [List.getElem?_map] at hi'
  cases e : ts[i]? with
  | none => rw [e] at hi'; cases hi'
  | some t =>
    rw [e] at hi'
    cases hi'
    obtain ⟨x, hx, hxv⟩ := ha.at (i := i) (v := .ref t) (by rw [List.getElem?_map, e]; rfl)
    have := t3_inj (hxv.keeps hk) hv
    subst this
    exact ⟨.ref t, H, I.kept hk, rfl, q i t e hx⟩
end
section
variable {X : Cx}
theorem vals_of_kv {κ : Type} {kvs : List (κ × V)} {vs : List (κ × Value)} (r : KV kvs vs) : Vals (kvs.map (·.2)) (vs.map (·.2)) := by
  induction r with
  | nil => exact .nil
  | cons h _ ih => exact .cons h.2 ih
/-- list(o.values()) -/
def tListVals (td : TE) : TE := fun σ H Q => td σ H fun x H1 => ∃ a kvs, x = V.ref a ∧ H1 a = some (.dK kvs) ∧ ∀ p, H1 p = none → Q (.ref p) (upd H1 p (.lst (kvs.map (·.2))))
variable {o : Expr} {p pos apos mpos : Pos} {td : TE}
theorem pe_listVals (hc : X.calm = true) (hg : Gl X "list") (hm : X.mg "list" = none) (hd : PE X o td) (hbase : attributeBase o "values" X.env (eval o X.env) = eval o X.env := by rfl) (hline : (apos.endLine == mpos.line) = true := by rfl)
    (hse : starEach [Expr.Call (.Attribute o "values" apos) [] [] mpos] X.env = [(false, eval (Expr.Call (.Attribute o "values" apos) [] [] mpos) X.env)] := by rfl) :
    PE X (.Call (.Name "list" p) [.Call (.Attribute o "values" apos) [] [] mpos] [] pos) (tListVals td) := by
  refine ⟨fun pins s σ H Q I h => ?_⟩
  refine wpAny_Call_Name_kw (ld_blt I hg hm (u := .type "list") (by first | rfl | decide +kernel) ?_ (by first | decide +kernel | decide) (by first | decide +kernel | decide))
  rw [hse]
  refine PySem.callWith_type1 (wpAny_Call_method0_late hbase hline (thn (hd.run pins s σ H _ I h) fun v s1 ⟨x, H1, I1, r1, a, kvs, ex, ha, q⟩ => ?_))
  subst ex
  obtain rfl : v = Value.ref a := r1
  obtain ⟨hz, hsys, vs, rel, dof⟩ := dk_of I1.hok ha
  obtain ⟨ep, dat⟩ := dof.dictAt
  have dat' := dat
  obtain ⟨ob, es, ho, ex, hdat, hko, hpr, hnd⟩ := dat'
  refine ⟨"dict", "dict.values", F.plainAttrs_dict, F.slot_dict_values, F.type_dict_values, ⟨ob, ho, ex.1⟩, fun b e => ?_, Calls.callWith_builtin rfl (PySem.evalArgs_none ?_)⟩
  · cases e
    exact ⟨ob, ho, ex.2.1⟩
  refine call_meetsIn F.slot_dict_values ⟨ob, ho, ex.1⟩ F.entry_dict_values (F.args_dict_values_1 _) (meets_dict_values (mixKind X.prog X.w) a hsys) ⟨⟨vs, dof⟩, ?_⟩
  have k1 : ∀ b u, s1.heap.get? b = some u → (s1.heap.push { cls := .type "dict_values", data := .fields #[.ref a] }).get? b = some u := fun b u e => Heap.get?_push_of_some _ e
  have dat1 : (s1.heap.push { cls := .type "dict_values", data := .fields #[.ref a] }).DictAt (mixKind X.prog X.w) a vs ep := dat.keep k1
  refine PySem.W.kdl_call (PySem.W.kdl_values (knd := mixKind X.prog X.w) (ep := ep)) (I.ok.hd hc) ⟨⟨_, Heap.get?_push_size _ rfl, rfl, rfl⟩, dat1⟩ (by rw [← KV.length rel]; exact hz) fun h' tk acc' c' hk hS' hacc => ?_
  have e1 : acc'.toList = vs.map (·.2) := PySem.W.kdl_vals_eq acc'.toList (by rw [Array.length_toList]; exact hacc.1) fun j v e => hacc.2 j v (by rw [← Array.getElem?_toList]; exact e)
  have kk : ∀ b u, s1.heap.get? b = some u → h'.get? b = some u := fun b u e => hk b u (k1 b u e)
  refine ⟨.ref _, _, I1.laid (t' := tk) (a := (s1.heap.push { cls := .type "dict_values", data := .fields #[.ref a] }).objs.size) (o := .lst (kvs.map (·.2))) kk (by rw [Heap.size_push]; exact Nat.le_succ _) ⟨?_, vs.map (·.2), c', vals_of_kv rel, ?_⟩, rfl, q _ (I1.hok.fresh (by rw [Heap.size_push]; exact Nat.le_succ _))⟩
  · rw [List.length_map]
    exact hz
  · rw [← e1]
    simpa using hS'
end
/-! ### len(x) and bool(x) of an instance -/
theorem kbo_call {prog : Program} {w : World} {A : Around} {E : Value → Shared → Prop} {s : Shared} {K : PySem.W.Frag} {h₀ : Heap} {L : Addr} {m : Str → Option Value} {x C f : Addr} {ox : Obj} {od : Option Obj} {Q : Value → Shared → Prop} (F : Fr h₀ L s.heap m) (X₀ : K.In h₀) (I : PySem.W.InstAt s.heap x ox C od)
    (hs : PySem.W.findIn K (.ref C) "__bool__" = some (some (.ref f))) (hf : PySem.W.isFn K (.ref f) = true) (h : wpAny (model prog w) A.in1.in1 (call (.ref f) [.ref x]) (PySem.W.BoolBack fun b s' => Q (.bool b) s') E s) : wpAny (model prog w) A (call (.type "bool") [.ref x]) Q E s := by
  refine callType_codes (T := "bool") (Bi := Builtin.«object.__init__») (Q₁ := fun r s₁ => ∃ y, r = .bool y ∧ Q r s₁) PySem.F.called_bool (PySem.F.typeCall_bool_1 _) PySem.F.entry_object_init ?_ ?_
  · refine codeAny_of_tree ?_
    show wpAny _ A.in1.in1 (do checkBuiltinCall "bool.__new__" ⟨[.type "bool", .ref x], []⟩; again (.builtin "bool.__new__" ⟨[.type "bool", .ref x], []⟩)) _ _ s
    refine wpAny_bind (wpAny_of_eq (PySem.F.newCall_bool_1 _) (wpAny_pure ⟨plainId_quiet (by decide +kernel) _, codeAny_builtin PySem.F.entry_bool_new ?_⟩))
    rw [Around.under_plainId (by decide +kernel) _]
    unfold Builtin.«bool.__new__»
    refine wpAny_bind (wpAny_pure ?_)
    refine wpAny_bind (wpAny_of_eq PySem.F.conv_sub_bool ?_)
    refine wpAny_bind (wpAny_pure ?_)
    refine wpAny_bind (PySem.W.truthy_K F X₀ I hs hf (wpAny_mono h (fun r s₁ hr => ?_) fun _ _ y => y))
    cases r <;> first | exact hr.elim | exact wpAny_pure ⟨_, rfl, hr⟩
  · rintro obj s₁ ⟨y, rfl, hq⟩
    exact ⟨rfl, PySem.F.args_object_init_2 _ _, object_init_meets PySem.F.called_bool.init.lookup PySem.F.called_bool.made (by decide) prog w A.in1 _ s₁ ⟨rfl, rfl, hq⟩⟩
section
variable {X : Cx} {n : Nat}
/-- len(x), x an instance of a class with an own __len__ -/
def rLenI (X : Cx) (n : Nat) : List V → Hp → VK → Prop := fun xs H Q => ∃ (a C dx g : Addr) (fs : List (Str × V)) (sp : Sp), xs = [V.ref a] ∧ H a = some (.ins C dx fs) ∧ LE.Own X n "__len__" C g sp ∧ sp [.ref a] H (fun z H' => ∃ k : Int, z = .int k ∧ 0 ≤ k ∧ k < 2 ^ 63 ∧ Q z H') E0
theorem call_lenI (hr : Room (n + 1) X.A) : CallR X (.builtin "len") (rLenI X n) := by
  intro pins s σ H xs us Q I r h
  obtain ⟨a, C, dx, g, fs, sp, rfl, ha, O, q⟩ := h
  obtain ⟨u, rfl, ru⟩ := r.one
  cases (show u = Value.ref a from ru)
  obtain ⟨mA, J, _⟩ := ins_get I.hok ha
  obtain ⟨od, J, _⟩ := J.look
  obtain ⟨m, hF⟩ := I.fr
  have hr1 : Room n X.A.in1 := Room.in1 hr
  refine PySem.W.len_K hF I.ok.mod.kin J O.at_ O.fn (wpAny_mono (wpAny_call (LE.run_in (us := [.ref a]) (ws := [.ref a]) O.F hr1 I.env0.in1 I (.cons rfl .nil) q)) (fun w s' z => ?_) fun _ _ x => x)
  obtain ⟨z', H', I', rz, k, ez, k0, k1, qz⟩ := z
  subst ez
  obtain ⟨t, e⟩ := (show ∃ t, w = Value.int k t from rz)
  cases e
  exact ⟨⟨k0, k1⟩, .int k, H', I'.tok _, ⟨_, rfl⟩, qz⟩
/-- bool(x), x an instance of a class with an own __bool__ -/
def rBoolI (X : Cx) (n : Nat) : List V → Hp → VK → Prop := fun xs H Q => ∃ (a C dx g : Addr) (fs : List (Str × V)) (sp : Sp), xs = [V.ref a] ∧ H a = some (.ins C dx fs) ∧ LE.Own X n "__bool__" C g sp ∧ sp [.ref a] H (fun z H' => ∃ k : Bool, z = .bl k ∧ Q z H') E0
theorem call_boolI (hr : Room (n + 2) X.A) : CallR X (.type "bool") (rBoolI X n) := by
  intro pins s σ H xs us Q I r h
  obtain ⟨a, C, dx, g, fs, sp, rfl, ha, O, q⟩ := h
  obtain ⟨u, rfl, ru⟩ := r.one
  cases (show u = Value.ref a from ru)
  obtain ⟨mA, J, _⟩ := ins_get I.hok ha
  obtain ⟨od, J, _⟩ := J.look
  obtain ⟨m, hF⟩ := I.fr
  have hr2 : Room n X.A.in1.in1 := (show Room (n + 1) X.A.in1 from Room.in1 hr).in1
  refine kbo_call hF I.ok.mod.kin J O.at_ O.fn (wpAny_mono (wpAny_call (LE.run_in (us := [.ref a]) (ws := [.ref a]) O.F hr2 I.env0.in1.in1 I (.cons rfl .nil) q)) (fun w s' z => ?_) fun _ _ x => x)
  obtain ⟨z', H', I', rz, k, ez, qz⟩ := z
  subst ez
  obtain rfl := (show w = Value.bool k from rz)
  exact ⟨.bl k, H', I', rfl, qz⟩
end
end LD

namespace LN
open PySem PySem.Spec PyProof.Rows L2
/-! ### enumerate over a tuple -/
/-- enumerate(v): what its making leaves -/
theorem newT {v : Value} {o : Obj} {H : Heap → Prop} (B : Begins v o H) :
    Meets (Builtin.«enumerate.__new__» ⟨[.type "enumerate", v], []⟩) (fun _ R s' => H s'.heap ∧
      R (.ok (.ret (.ref (s'.heap.push o).objs.size)))
        { s' with heap := (s'.heap.push o).push ({ cls := .type "enumerate", data := .fields #[.none, .bool false, .ref s'.heap.objs.size, rawInt 0, .none, .none] } : Obj) }) :=
  .of_wp fun prog w A R st h0 => by
    obtain ⟨hp, gg, dd, tk, os⟩ := st
    obtain ⟨h1, h⟩ := h0
    have su := sub_enumerate
    have go : ∀ {A' : Around} {E : Value → Shared → Prop} {Q : Value → Shared → Prop}, Q (.ref hp.objs.size) ⟨hp.push o, gg, dd, tk, os⟩ →
        wpAny (model prog w) A' (pyIter v) Q E ⟨hp, gg, dd, tk, os⟩ := fun q => B.iter prog w _ _ ⟨hp, gg, dd, tk, os⟩ _ h1 q
    wp_walk using go
    refine wpAny_stack_any fun _ => wpAny_pure ?_
    split
    · rename_i c _ _ _ _ _
      cases (c == Value.type "enumerate") <;> (wp_walk using go; exact ⟨_, rfl, h⟩)
    · (wp_walk using go; exact ⟨_, rfl, h⟩)
section
variable {prog : Program} {w : World} {A : Around} {E : Value → Shared → Prop} {s : Shared}
theorem call_enumT {t : Addr} {items : Array Value} {Q : Value → Shared → Prop} (ht : s.heap.IsTuple t items)
    (h : ∀ h', IsEnum h' (s.heap.objs.size + 1) s.heap.objs.size 0 .none → h'.IsTupleIter s.heap.objs.size t 0 →
      (∀ b o, s.heap.get? b = some o → h'.get? b = some o) → Q (.ref (s.heap.objs.size + 1)) { s with heap := h' }) :
    wpAny (model prog w) A (call (.type "enumerate") [.ref t]) Q E s := by
  let ob : Obj := { cls := .type "tuple_iterator", data := .fields #[.ref t, .int 0 0] }
  let oe : Obj := { cls := .type "enumerate", data := .fields #[.none, .bool false, .ref s.heap.objs.size, rawInt 0, .none, .none] }
  refine callType_new F.called_enumerate (by decide) (F.typeCall_enumerate_1 _)
    (F.newCall_enumerate_1 _) (fun obj => F.args_object_init_2 obj _) F.entry_enumerate_new (newT (begins_tuple t items)) ⟨ht, ?_⟩
  have hz : (s.heap.push ob).objs.size = s.heap.objs.size + 1 := Heap.size_push ..
  have q := Heap.get?_push_size (s.heap.push ob) (o := oe) rfl
  show _ ∧ _
  rw [hz] at q ⊢
  have he : IsEnum ((s.heap.push ob).push oe) (s.heap.objs.size + 1) s.heap.objs.size 0 .none := q
  refine ⟨⟨_, he, rfl⟩, h _ he ⟨ob, Heap.get?_push_of_some _ (Heap.get?_push_size _ (o := ob) rfl), rfl, rfl⟩ fun b o x => ?_⟩
  exact Heap.get?_push_of_some _ (Heap.get?_push_of_some _ x)
end
def IteT (K : PySem.W.Frag) (a : Addr) : It :=
  ⟨fun i H => ∃ (xs : List V) (x : V), SqT K H a xs ∧ xs[i]? = some x,
    fun i H v H' => ∃ T x, v = .ref T ∧ H T = none ∧ H' = upd H T (.tup [.int (i : Nat), x]) ∧ ∀ xs, SqT K H a xs → xs[i]? = some x,
    fun i H => ∃ xs : List V, SqT K H a xs ∧ xs.length = i⟩
theorem turn_enumT {P : Program} {w : World} {K : PySem.W.Frag} {elts : List Expr} {kk : Nat} {tpos : Pos} (a e it : Addr) :
    Turn P w K (.Tuple elts kk tpos) (IteT K a) [e, it] e
      (fun i h => (∃ old, IsEnum h e it ((i : Nat) : Int) old) ∧ h.IsTupleIter it a i ∧ e ≠ it ∧ e ≠ a ∧ a ≠ it) where
  mem := by simp
  obj := fun i h st b hb => by
    obtain ⟨⟨old, he⟩, ⟨o, ho, hc, hd⟩, _⟩ := st
    rcases (show b = e ∨ b = it by simpa using hb) with z | z
    · rw [z]
      exact ⟨_, he, fun v q => nomatch q⟩
    · rw [z]
      exact ⟨o, ho, fun v q => by rw [hd] at q; cases q⟩
  keep := fun i h h' st k => by
    obtain ⟨⟨old, he⟩, hi, r⟩ := st
    exact ⟨⟨old, k e (by simp) _ he⟩, hi.at fun o q => k it (by simp) o q, r⟩
  item := by
    intro X hP hw hK hc i pins s σ H E I hf st hg
    subst hP hw hK
    obtain ⟨⟨old, he⟩, hit, hne, hea, hai⟩ := st
    obtain ⟨xs, x, hq, hx⟩ := hg
    obtain ⟨its, rv, p, hz⟩ := I.tuple hq
    obtain ⟨u, hu, ru⟩ := rv.get hx
    have hel : e < s.heap.objs.size := Heap.lt_size he
    have hil : it < s.heap.objs.size := by
      obtain ⟨_, q, _⟩ := hit
      exact Heap.lt_size q
    have hlt : i < its.toArray.size := by
      have := (List.getElem?_eq_some_iff.mp hu).1
      simpa using this
    refine wpAny_pyNext_enum_itemD (Draws.tuple (A := X.A.in1) (I.ok.hd hc) it a hai its.toArray) he ⟨hit, p⟩ hlt hne (by simp [hne, hea]) fun x' h' tk hx' ho st' hT hsz hk => ?_
    obtain rfl : x' = u := by
      rw [show its.toArray[i]? = its[i]? by simp, hu] at hx'
      exact (Option.some.inj hx').symm
    refine ⟨_, rfl, wpAny_letOwnedTupleGo_enum (s := { s with heap := h', toks := tk + 1 }) ho fun h'' he' sb => ?_⟩
    have hT2 := (sb.2 _ (Nat.ne_of_gt hel)).trans hT
    have new : ObjOk X.prog X.w (upd H s.heap.objs.size (.tup [.int (i : Nat), x])) h'' s.heap.objs.size (.tup [.int (i : Nat), x]) :=
      ⟨by show 2 ≤ sizeLine; decide, [.int i tk, x'], .cons ⟨_, rfl⟩ (.cons ru .nil), ⟨_, hT2, rfl, _, rfl⟩⟩
    have I1 : Inv X pins σ (upd H s.heap.objs.size (.tup [.int (i : Nat), x])) { s with heap := h'', toks := tk + 1 } :=
      I.turnedNew (t' := tk + 1) (ch := [e, it]) (fun b ob hb q => (sb.2 b (fun z => hb (by simp [z]))).trans (hk b ob (fun z => hb (by simp [z])) (fun z => hb (by simp [z])) q)) hf (Nat.le_refl _) new
    refine ⟨.ref s.heap.objs.size, _, I1, rfl, ⟨_, x, rfl, I.hok.fresh (Nat.le_refl _), rfl, fun ys hy => ?_⟩, ⟨⟨x', ?_⟩, st'.1.at fun o q => (sb.2 it (Ne.symm hne)).trans q, hne, hea, hai⟩, fun b hb => ?_⟩
    · rw [I.tuple_inj hy hq]
      exact hx
    · rw [show ((i + 1 : Nat) : Int) = (i : Int) + 1 by omega]
      exact he'
    · have hb' : b < s.heap.objs.size := by
        rcases (show b = e ∨ b = it by simpa using hb) with z | z
        · exact z ▸ hel
        · exact z ▸ hil
      rw [upd_ne (Nat.ne_of_lt hb')]
      exact (hf b hb).1
  done := by
    intro X hP hw hK hc i pins s σ H E I hf st hg
    subst hP hw hK
    obtain ⟨⟨old, he⟩, hit, hne, hea, hai⟩ := st
    obtain ⟨xs, hq, hx⟩ := hg
    obtain ⟨its, rv, p, hz⟩ := I.tuple hq
    obtain ⟨f0, f1, f2, f3, f4, f5⟩ := hf it (by simp)
    have hl := rv.length
    have hi : i = its.toArray.size := by rw [List.size_toArray, ← hl, hx]
    subst hi
    refine wpAny_pyNext_enum_endD (Draws.tuple (A := X.A.in1) (I.ok.hd hc) it a hai its.toArray) he ⟨hit, p⟩ fun h' eb => ?_
    exact ⟨rfl, I.turned (t' := s.toks) (fun b o hb q => eb b o hb q) f0 f1 f3 f4 f5⟩
  self := fun A i s Q E st h => by
    obtain ⟨⟨_, he⟩, _⟩ := st
    exact wpAny_pyIter_enum he h
def iEnumT (K : PySem.W.Frag) (ta : TA) : TI := fun σ H R => ta σ H fun vs H1 => ∃ (a : Addr) (xs : List V), vs = [.ref a] ∧ SqT K H1 a xs ∧ R (IteT K a) H1
theorem pi_enumT {X : Cx} {e : Expr} {ta : TA} {p pos tpos : Pos} {elts : List Expr} {kk : Nat} (hg : Gl X "enumerate") (hm : X.mg "enumerate" = none) (ha : PA X [e] ta) (hs : starEach [e] X.env = [(false, eval e X.env)] := by rfl) :
    PI X (.Tuple elts kk tpos) (.Call (.Name "enumerate" p) [e] [] pos) (iEnumT X.K ta) := by
  refine ⟨fun pins s σ H R I h => Call_ (ld_blt I hg hm boot_enumerate (PyProof.Rows.callWith_type1 (thn (ha.run pos pins s σ H _ I h) fun us s1 ⟨vs, H1, I1, r1, a, xs, ex, hq, q⟩ => ?_) hs rfl))⟩
  subst ex
  rw [Vals.ref1 r1]
  obtain ⟨its, rv, pt, hz⟩ := I1.tuple hq
  have hal : a < s1.heap.objs.size := by
    obtain ⟨_, z, _⟩ := pt
    exact Heap.lt_size z
  refine call_enumT pt fun h' he hit hk => wpAny_pyIter_enum he ?_
  have I2 : Inv X pins σ H1 { s1 with heap := h' } := I1.kept (t' := s1.toks) hk
  refine ⟨s1.heap.objs.size + 1, [s1.heap.objs.size + 1, s1.heap.objs.size], _, _, H1, rfl, I2, turn_enumT a (s1.heap.objs.size + 1) s1.heap.objs.size, ⟨⟨.none, he⟩, hit, Nat.succ_ne_self _, Ne.symm (Nat.ne_of_lt (Nat.lt_succ_of_lt hal)), Nat.ne_of_lt hal⟩, fun b hb => ?_, q⟩
  have hle : s1.heap.objs.size ≤ b := by
    rcases (show b = s1.heap.objs.size + 1 ∨ b = s1.heap.objs.size by simpa using hb) with z | z
    · rw [z]; exact Nat.le_succ _
    · rw [z]; exact Nat.le_refl _
  exact I1.fpOk hle (I1.hok.fresh hle)
theorem walk_enumT {K : PySem.W.Frag} {a : Addr} {xs : List V} : Walk (IteT K a) xs.length (fun H => SqT K H a xs) (YPair (fun i => some (.int (i : Nat))) (fun i => xs[i]?)) := by
  refine ⟨fun i _ hi q => ⟨xs, xs[i], q, by simp [hi]⟩, fun _ q => ⟨xs, q, rfl⟩, fun i H v H' _ q y => ?_⟩
  obtain ⟨T, x, h1, h2, h3, h4⟩ := y
  exact ⟨T, .int (i : Nat), x, h1, h2, h3, rfl, h4 xs q⟩
/-! ### repr of six booleans -/
end LN

namespace LO
open PySem L2 PySem.Spec PyProof.Rows
/-- either of two readings -/
theorem pi_or {X : Cx} {tg e : Expr} {w1 w2 : TI} (p : PI X tg e w1) (q : PI X tg e w2) : PI X tg e (fun σ H R => w1 σ H R ∨ w2 σ H R) :=
  ⟨fun pins s σ H R I h => h.elim (p.run pins s σ H R I) (q.run pins s σ H R I)⟩
theorem pe_or {X : Cx} {e : Expr} {t1 t2 : TE} (p : PE X e t1) (q : PE X e t2) : PE X e (fun σ H Q => t1 σ H Q ∨ t2 σ H Q) :=
  ⟨fun pins s σ H Q I h => h.elim (p.run pins s σ H Q I) (q.run pins s σ H Q I)⟩
/-- x == y, x an instance of a class with an own ==, y of any type -/
def rEqO (X : Cx) (n : Nat) : R2 := fun x y H Q => ∃ (a C dx g : Addr) (fs : List (Str × V)) (sp : Sp) (tb : Value), x = .ref a ∧ H a = some (.ins C dx fs) ∧ LE.Own X n "__eq__" C g sp ∧ TyX X.K H y tb ∧ PySem.W.notFirst X.K C tb = true ∧ sp [x, y] H Q E0
/-- x != y by the own == -/
def rNeO (X : Cx) (n : Nat) : R2 := fun x y H Q => ∃ (a C dx g : Addr) (fs : List (Str × V)) (sp : Sp) (tb : Value), x = .ref a ∧ H a = some (.ins C dx fs) ∧ LE.Own X n "__eq__" C g sp ∧ PySem.W.findIn X.K (.ref C) "__ne__" = some (some (.builtin "object.__ne__")) ∧ PySem.W.mroIn X.K C (.type "object") = some true ∧ TyX X.K H y tb ∧ PySem.W.notFirst X.K C tb = true ∧ sp [x, y] H (fun v H' => ∃ b, v = .bl b ∧ Q (.bl (!b)) H') E0
section
variable {X : Cx} {n : Nat}
theorem op_eqO (hr : Room n X.A) : OpR X (compareOp .Eq) (rEqO X n) := by
  intro pins s σ H x y v u Q I rx ry h
  obtain ⟨a, C, dx, g, fs, sp, tb, rfl, ha, O, ty, hn, q⟩ := h
  cases (show v = Value.ref a from rx)
  obtain ⟨mA, J, _⟩ := ins_get I.hok ha
  obtain ⟨od, J, _⟩ := J.look
  obtain ⟨m, hF⟩ := I.fr
  obtain ⟨P, Z, p, _⟩ := kit_of I ry ty
  show wpAny (model X.prog X.w) X.A (richCompare .Eq (.ref a) u) (EP X pins σ Q) X.xe s
  refine PySem.W.cmp_K (op := .Eq) hr.units0 hF I.ok.mod.kin J (Z.ty _ _ I.kIn p) hn O.at_ O.fn ?_
  refine wpAny_mono (wpAny_call (run_fnR (us := [.ref a, u]) (vs := [.ref a, y]) O.F hr (E := E0) pass0 I (.cons rfl (.cons ry .nil)) q)) (fun w s' z => ?_) fun _ _ x => x
  obtain ⟨z', H', I', rz, qz⟩ := z
  exact SlX.cmpback rz ⟨z', H', I', rz, qz⟩
theorem ne_entry {prog : Program} {w : World} {A : Around} {E : Value → Shared → Prop} {s : Shared} {K : PySem.W.Frag} {x C f : Addr} {ox : Obj} {od : Option Obj} {b : Value} (Xk : K.In s.heap) (I : PySem.W.InstAt s.heap x ox C od) (hs : PySem.W.findIn K (.ref C) "__eq__" = some (some (.ref f))) (hf : PySem.W.isFn K (.ref f) = true)
    (hu : A.units < cLine) {Q : Fin → Shared → Prop} (hcall : wpAny (model prog w) A (call (.ref f) [.ref x, b]) (fun v s' => ∃ c, v = .bool c ∧ Q (.done (.ret (.bool (!c)))) s') E s) :
    wpAny (model prog w) A (Builtin.«object.__ne__» ⟨[.ref x, b], []⟩) Q E s := by
  obtain ⟨h, g, d, t, os⟩ := s
  unfold Builtin.«object.__ne__»
  repeat (first
    | with_reducible refine wpAny_cRoomFor hu ?_
    | (refine wpAny_bind (m := callSpecialIfBound? (.ref x) (Str.ofString "__eq__") [b])
        (PySem.W.ifBound_K Xk I hs hf (wpAny_mono hcall (fun r s' hr => by
          obtain ⟨c, rfl, hq⟩ := hr
          repeat (first | exact hq | exact wpAny_pure hq | exact wpAny_truthy_bool hq | (refine wpAny_bind (m := truthy (.bool _)) (wpAny_truthy_bool ?_)) | wp_step)) fun _ _ e => e)))
    | wp_step)
theorem op_neO (hr : Room (n + 1) X.A) : OpR X (compareOp .NotEq) (rNeO X n) := by
  intro pins s σ H x y v u Q I rx ry h
  obtain ⟨a, C, dx, g, fs, sp, tb, rfl, ha, O, hne, hm, ty, hn, q⟩ := h
  cases (show v = Value.ref a from rx)
  obtain ⟨mA, J, _⟩ := ins_get I.hok ha
  obtain ⟨od, J, _⟩ := J.look
  obtain ⟨P, Z, p, _⟩ := kit_of I ry ty
  have hr1 : Room n X.A.in1 := Room.in1 hr
  have hb := Z.ty (model X.prog X.w) _ I.kIn p
  have Xk := I.kIn
  have one : wpAny (model X.prog X.w) X.A (tryCompare (.ref a) "__ne__" u) (fun r s' => ∃ v, r = some v ∧ EP X pins σ Q v s') X.xe s := by
    unfold tryCompare
    refine wpAny_bind ?_
    simp only [callSpecialIfBound?, bindSpecialIfBound?]
    refine wpAny_holding (wpAny_bind (wpAny_bind (wpAny_bind (J.type.here ((PySem.W.looks_findIn Xk hne).here ?_)))))
    refine wpAny_bind (wpAny_askSetting (wpAny_ite ?_))
    have body : wpAny (model X.prog X.w) X.A (call (.builtin "object.__ne__") [.ref a, u]) (fun v s' => ∃ b, v = .bool b ∧ EP X pins σ Q v s') X.xe s := by
      refine wpAny_call (codeAny_call_builtin F.cmp_object.ne.plain F.cmpEntry_ne (PySem.W.check_slot (i := "object.__ne__") (owner := "object") (n := "__ne__") F.cmpKind_ne F.cmpSplit_ne (J.type.andThen (PySem.W.looks_mroIn Xk hm)) (F.cmpArgs_ne _ _) ?_))
      refine ne_entry (A := X.A.in1) Xk J O.at_ O.fn hr1.units0 ?_
      refine wpAny_mono (wpAny_call (LE.run_in (us := [.ref a, u]) (ws := [.ref a, y]) O.F hr1 I.env0.in1 I (.cons rfl (.cons ry .nil)) q)) (fun w s' z => ?_) fun _ _ x => x
      obtain ⟨z', H', I', rz, b, rfl, qz⟩ := z
      cases (show w = Value.bool b from rz)
      exact ⟨b, rfl, !b, rfl, .bl (!b), H', I', rfl, qz⟩
    have fin : wpAny (model X.prog X.w) X.A (call (.builtin "object.__ne__") ([.ref a] ++ [u]) >>= fun v => pure (some v)) (fun r s' => wpAny (model X.prog X.w) X.A (match r with | some .notImplemented | none => pure none | some v => pure (some v)) (fun r s' => ∃ v, r = some v ∧ EP X pins σ Q v s') X.xe s') X.xe s :=
      wpAny_bind (wpAny_mono body (fun v s' hv => wpAny_pure (by obtain ⟨b, rfl, hq⟩ := hv; exact wpAny_pure ⟨_, rfl, hq⟩)) fun _ _ e => e)
    simp only [F.cmp_object.ne.bind]
    split
    · exact wpAny_bind (wpAny_pure (wpAny_pure fin))
    · exact wpAny_tryCatch (wpAny_bind (wpAny_pure (wpAny_pure fin)))
  show wpAny (model X.prog X.w) X.A (richCompare .NotEq (.ref a) u) (EP X pins σ Q) X.xe s
  unfold richCompare
  simp only [oneThing_ref]
  refine wpAny_holding (wpAny_bind (wpAny_cRoomFor hr.units0 ?_))
  refine wpAny_bind (J.type.here (wpAny_bind (hb.here ?_)))
  split
  · rename_i q'
    have e : PySem.W.subIn X.K tb (.ref C) = some false := by
      rcases Bool.or_eq_true_iff.mp hn with e | e
      · rw [beq_iff_eq.mp e] at q'; simp at q'
      · exact beq_iff_eq.mp e
    refine wpAny_bind ((PySem.W.looks_subIn Xk e).here ?_)
    simp only [Bool.false_eq_true, if_false]
    refine wpAny_bind (wpAny_mono one (fun r s' z => ?_) fun _ _ e => e)
    obtain ⟨v, rfl, hq⟩ := z
    exact wpAny_pure hq
  · refine wpAny_bind (wpAny_pure ?_)
    simp only [Bool.false_eq_true, if_false]
    refine wpAny_bind (wpAny_mono one (fun r s' z => ?_) fun _ _ e => e)
    obtain ⟨v, rfl, hq⟩ := z
    exact wpAny_pure hq
/-- repr(x) of an instance of a class with an own __repr__ -/
def rReprI (X : Cx) (n : Nat) : List V → Hp → VK → Prop := fun xs H Q => ∃ (a C dx g : Addr) (fs : List (Str × V)) (sp : Sp), xs = [V.ref a] ∧ H a = some (.ins C dx fs) ∧ LE.Own X n "__repr__" C g sp ∧ sp [.ref a] H (fun z H' => ∃ t, z = .str t ∧ Q z H') E0
theorem call_reprI (hr : Room (n + 1) X.A) : CallR X (.builtin "repr") (rReprI X n) := by
  intro pins s σ H xs us Q I r h
  obtain ⟨a, C, dx, g, fs, sp, rfl, ha, O, q⟩ := h
  obtain ⟨u, rfl, ru⟩ := r.one
  cases (show u = Value.ref a from ru)
  obtain ⟨mA, J, _⟩ := ins_get I.hok ha
  obtain ⟨od, J, _⟩ := J.look
  obtain ⟨m, hF⟩ := I.fr
  have hr1 : Room n X.A.in1 := Room.in1 hr
  refine PySem.W.repr_K hr1.units0 hF I.ok.mod.kin J O.at_ O.fn (wpAny_mono (wpAny_call (LE.run_in (us := [.ref a]) (ws := [.ref a]) O.F hr1 I.env0.in1 I (.cons rfl .nil) q)) (fun w s' z => ?_) fun _ _ x => x)
  obtain ⟨z', H', I', rz, t, ez, qz⟩ := z
  subst ez
  obtain ⟨k, e⟩ := (show ∃ k, w = Value.str t k from rz)
  cases e
  exact ⟨.str t, H', I', ⟨k, rfl⟩, qz⟩
end
open NdefX in
/-- a def that says super(), in a world of errors -/
theorem fnS_ofX {P : Program} {w : World} {K : PySem.W.Frag} {mg : Str → Option Value} {base : Heap} {N ps : List Str} {F : NF} {f D f2 : Addr} {m : Str} {k : Nat} {sp : Sp} (S : NScope N ps ["__class__"] F.scope) (U : LS.SupF P K F f D f2 m) {doc pm ct oc : Value} {od : Option Addr} {osl : Array (Option Value)} (lf : K.lookup f = some ⟨oc, od, .func (F.fd doc pm ct), osl⟩) (len : ∀ vs H Q E, sp vs H Q E → vs.length = ps.length)
    (hbody : ∀ (A : Around) (outer : List Env) (s : Shared) (H : Hp) (vs : List V) (Q : VK) (E : XK), Room k (A.deeper (envF F f s.heap.objs.size)) → sp vs H Q E →
      ∃ t, LS.PSsAt (ncx (L2.CX P w) P w K mg base N F f A outer s H E) (.func F.body (ncx (L2.CX P w) P w K mg base N F f A outer s H E).env) F.body t ∧ t { nx := fun _ H' => Q .non H', rt := Q } (startF N vs [some (.ref D)]) H) :
    FnOk P w K mg base (L2.CX P w) (k + 1) f (F.fd doc pm ct) ps sp := by
  refine ⟨len, fun A outer s H args us vs Q E hr e0 hb r hsp => ?_⟩
  have hl := len _ _ _ _ hsp
  have KX : K.In s.heap := e0.mod.kin.keeps fun b o e => (e0.bs b o e).1
  have lim : s.heap.NoLimit := e0.mod.nolimit.keeps fun b o e => (e0.bs b o e).1
  have hloc : ∀ x ∈ ps.zip us, F.scope.names.lookup x.1 = some .local := fun ⟨n, v⟩ hy => S.par n (List.of_mem_zip hy).1
  refine ks_codeAny_call_defAt (fd := F.fd doc pm ct) (body := F.body) (binds := ps.zip us) hr.depth (KX _ _ lf) rfl lim (PySem.W.codeRec_of KX U.cd) rfl hb S.nocell hloc (fun h₁ hns kp => ?_) S.co S.gen S.kind
  obtain ⟨t, ht, hq⟩ := hbody A outer s H vs Q E (hr.deeper _) hsp
  have I : L2.Inv (ncx (L2.CX P w) P w K mg base N F f A outer s H E) [] (startF N vs [some (.ref D)]) H { s with heap := h₁, toks := s.toks + (ps.zip us).length } := inv_startN S hr.hd e0 hl r (LS.cell_at U e0) hns kp
  refine PySem.wpAt_mono (ht.run [] _ (startF N vs [some (.ref D)]) H _ I hq) (fun fl s' hs => ?_) fun e s' hs => hs
  have fin : ∀ {σ' : L2.St} {H' : Hp} {v : V} {u : Value}, L2.Inv (ncx (L2.CX P w) P w K mg base N F f A outer s H E) [] σ' H' s' → L2.RelV v u → Q v H' → CE outer P w H s Q u s' :=
    fun {σ' H' v u} J rv q => ⟨v, H', J.os, J.bare, J.base, J.hok, rv, q⟩
  cases fl with
  | ret u =>
    obtain ⟨v, σ', H', J, rv, q⟩ := hs
    exact fin J rv q
  | next =>
    obtain ⟨σ', H', J, q⟩ := hs
    exact fin (v := V.non) (u := Value.none) J rfl q
  | brk =>
    obtain ⟨_, _, _, q⟩ := hs
    exact False.elim q
  | cont =>
    obtain ⟨_, _, _, q⟩ := hs
    exact False.elim q
theorem nf_self {K : PySem.W.Frag} {C : Addr} : PySem.W.notFirst K C (.ref C) = true := by
  unfold PySem.W.notFirst
  simp
end LO


namespace k12
open PySem L2 LC
def top (i : Nat) : Stmt := PySem.Challenge.pw_surelet_k12_whole_trees_refused.main.body.getD i (.Pass ⟨0, 0, 0, 0⟩)
abbrev sInvalidName_init : Stmt := inClass (top 4) 0
abbrev NmInvalidName_init : List Str := ["self", "value"]
abbrev PInvalidName_init : List Str := ["self", "value"]
theorem scInvalidName_init : FnScope NmInvalidName_init PInvalidName_init (defScope sInvalidName_init) := ⟨rfl, rfl, rfl, by decide +kernel, rfl, by decide +kernel, by decide +kernel⟩
abbrev sInvalidRule_init : Stmt := inClass (top 6) 0
abbrev NmInvalidRule_init : List Str := ["self", "value"]
abbrev PInvalidRule_init : List Str := ["self", "value"]
theorem scInvalidRule_init : FnScope NmInvalidRule_init PInvalidRule_init (defScope sInvalidRule_init) := ⟨rfl, rfl, rfl, by decide +kernel, rfl, by decide +kernel, by decide +kernel⟩
abbrev sInvalidPlace_init : Stmt := inClass (top 7) 0
abbrev NmInvalidPlace_init : List Str := ["self", "at"]
abbrev PInvalidPlace_init : List Str := ["self", "at"]
theorem scInvalidPlace_init : FnScope NmInvalidPlace_init PInvalidPlace_init (defScope sInvalidPlace_init) := ⟨rfl, rfl, rfl, by decide +kernel, rfl, by decide +kernel, by decide +kernel⟩
abbrev sBadTree_init : Stmt := inClass (top 8) 0
abbrev NmBadTree_init : List Str := ["self", "place"]
abbrev PBadTree_init : List Str := ["self", "place"]
theorem scBadTree_init : FnScope NmBadTree_init PBadTree_init (defScope sBadTree_init) := ⟨rfl, rfl, rfl, by decide +kernel, rfl, by decide +kernel, by decide +kernel⟩
abbrev sTooMany_init : Stmt := inClass (top 9) 0
abbrev NmTooMany_init : List Str := ["self", "what", "count"]
abbrev PTooMany_init : List Str := ["self", "what", "count"]
theorem scTooMany_init : FnScope NmTooMany_init PTooMany_init (defScope sTooMany_init) := ⟨rfl, rfl, rfl, by decide +kernel, rfl, by decide +kernel, by decide +kernel⟩
abbrev scheck_count : Stmt := top 13
abbrev Nmcheck_count : List Str := ["what", "count", "most"]
abbrev Pcheck_count : List Str := ["what", "count", "most"]
theorem sccheck_count : FnScope Nmcheck_count Pcheck_count (defScope scheck_count) := ⟨rfl, rfl, rfl, by decide +kernel, rfl, by decide +kernel, by decide +kernel⟩
abbrev sis_whole : Stmt := top 17
abbrev Nmis_whole : List Str := ["value"]
abbrev Pis_whole : List Str := ["value"]
theorem scis_whole : FnScope Nmis_whole Pis_whole (defScope sis_whole) := ⟨rfl, rfl, rfl, by decide +kernel, rfl, by decide +kernel, by decide +kernel⟩
abbrev sis_number : Stmt := top 18
abbrev Nmis_number : List Str := ["value", "least", "most"]
abbrev Pis_number : List Str := ["value", "least", "most"]
theorem scis_number : FnScope Nmis_number Pis_number (defScope sis_number) := ⟨rfl, rfl, rfl, by decide +kernel, rfl, by decide +kernel, by decide +kernel⟩
abbrev sis_name : Stmt := top 19
abbrev Nmis_name : List Str := ["value", "sign"]
abbrev Pis_name : List Str := ["value"]
theorem scis_name : FnScope Nmis_name Pis_name (defScope sis_name) := ⟨rfl, rfl, rfl, by decide +kernel, rfl, by decide +kernel, by decide +kernel⟩
abbrev sRest_init : Stmt := inClass (top 22) 0
abbrev NmRest_init : List Str := ["self", "text", "forms", "period", "bend"]
abbrev PRest_init : List Str := ["self", "text", "forms", "period", "bend"]
theorem scRest_init : FnScope NmRest_init PRest_init (defScope sRest_init) := ⟨rfl, rfl, rfl, by decide +kernel, rfl, by decide +kernel, by decide +kernel⟩
abbrev sRest_eq : Stmt := inClass (top 22) 10
abbrev NmRest_eq : List Str := ["self", "other"]
abbrev PRest_eq : List Str := ["self", "other"]
theorem scRest_eq : FnScope NmRest_eq PRest_eq (defScope sRest_eq) := ⟨rfl, rfl, rfl, by decide +kernel, rfl, by decide +kernel, by decide +kernel⟩
abbrev sWindow_init : Stmt := inClass (top 23) 0
abbrev NmWindow_init : List Str := ["self", "width", "__class__"]
abbrev PWindow_init : List Str := ["self", "width"]
theorem scWindow_init : NdefX.NScope NmWindow_init PWindow_init ["__class__"] (defScope sWindow_init) := NdefX.nscope_by (by decide +kernel)
abbrev FWindow_init (cc c : Addr) : NdefX.NF := ⟨"__init__", "Window.__init__", defArgs sWindow_init, defBody sWindow_init, defScope sWindow_init, [("__class__", cc)], c⟩
abbrev sRule_init : Stmt := inClass (top 25) 0
abbrev NmRule_init : List Str := ["self", "name", "chips", "rest"]
abbrev PRule_init : List Str := ["self", "name", "chips", "rest"]
theorem scRule_init : FnScope NmRule_init PRule_init (defScope sRule_init) := ⟨rfl, rfl, rfl, by decide +kernel, rfl, by decide +kernel, by decide +kernel⟩
abbrev sPlace_init : Stmt := inClass (top 27) 0
abbrev NmPlace_init : List Str := ["self", "name", "server", "elder", "memory", "customer", "value"]
abbrev PPlace_init : List Str := ["self", "name", "server", "elder", "memory", "customer"]
theorem scPlace_init : FnScope NmPlace_init PPlace_init (defScope sPlace_init) := ⟨rfl, rfl, rfl, by decide +kernel, rfl, by decide +kernel, by decide +kernel⟩
abbrev sPlace_eq : Stmt := inClass (top 27) 1
abbrev NmPlace_eq : List Str := ["self", "other"]
abbrev PPlace_eq : List Str := ["self", "other"]
theorem scPlace_eq : FnScope NmPlace_eq PPlace_eq (defScope sPlace_eq) := ⟨rfl, rfl, rfl, by decide +kernel, rfl, by decide +kernel, by decide +kernel⟩
abbrev sis_misplaced : Stmt := top 30
abbrev Nmis_misplaced : List Str := ["place", "ahead", "elder", "other"]
abbrev Pis_misplaced : List Str := ["place", "ahead"]
theorem scis_misplaced : FnScope Nmis_misplaced Pis_misplaced (defScope sis_misplaced) := ⟨rfl, rfl, rfl, by decide +kernel, rfl, by decide +kernel, by decide +kernel⟩
abbrev splaces_by_name : Stmt := top 29
abbrev Nmplaces_by_name : List Str := ["places", "ahead", "place"]
abbrev Pplaces_by_name : List Str := ["places"]
theorem scplaces_by_name : FnScope Nmplaces_by_name Pplaces_by_name (defScope splaces_by_name) := ⟨rfl, rfl, rfl, by decide +kernel, rfl, by decide +kernel, by decide +kernel⟩
abbrev sTree_places : Stmt := inClass (top 28) 1
abbrev NmTree_places : List Str := ["self"]
abbrev PTree_places : List Str := ["self"]
theorem scTree_places : FnScope NmTree_places PTree_places (defScope sTree_places) := ⟨rfl, rfl, rfl, by decide +kernel, rfl, by decide +kernel, by decide +kernel⟩
abbrev sTree_len : Stmt := inClass (top 28) 9
abbrev NmTree_len : List Str := ["self"]
abbrev PTree_len : List Str := ["self"]
theorem scTree_len : FnScope NmTree_len PTree_len (defScope sTree_len) := ⟨rfl, rfl, rfl, by decide +kernel, rfl, by decide +kernel, by decide +kernel⟩
abbrev sTree_init : Stmt := inClass (top 28) 0
abbrev NmTree_init : List Str := ["self", "rule", "places", "at", "place"]
abbrev PTree_init : List Str := ["self", "rule", "places"]
theorem scTree_init : FnScope NmTree_init PTree_init (defScope sTree_init) := ⟨rfl, rfl, rfl, by decide +kernel, rfl, by decide +kernel, by decide +kernel⟩
abbrev sbag : Stmt := top 32
abbrev Nmbag : List Str := ["_law_script", "_law_seed", "_law_item"]
abbrev Pbag : List Str := ["_law_script"]
theorem scbag : FnScope Nmbag Pbag (defScope sbag) := ⟨rfl, rfl, rfl, by decide +kernel, rfl, by decide +kernel, by decide +kernel⟩
abbrev sdraw : Stmt := top 33
abbrev Nmdraw : List Str := ["_law_bag_here", "_law_limit", "_law_item", "_law_digit"]
abbrev Pdraw : List Str := ["_law_bag_here", "_law_limit"]
theorem scdraw : FnScope Nmdraw Pdraw (defScope sdraw) := ⟨rfl, rfl, rfl, by decide +kernel, rfl, by decide +kernel, by decide +kernel⟩
abbrev sof : Stmt := top 34
abbrev Nmof : List Str := ["_law_bag_here", "_law_things"]
abbrev Pof : List Str := ["_law_bag_here", "_law_things"]
theorem scof : FnScope Nmof Pof (defScope sof) := ⟨rfl, rfl, rfl, by decide +kernel, rfl, by decide +kernel, by decide +kernel⟩
abbrev slike : Stmt := top 35
abbrev Nmlike : List Str := ["_law_told", "_law_due_here", "_law_a", "_law_b"]
abbrev Plike : List Str := ["_law_told", "_law_due_here"]
theorem sclike : FnScope Nmlike Plike (defScope slike) := ⟨rfl, rfl, rfl, by decide +kernel, rfl, by decide +kernel, by decide +kernel⟩
abbrev sodd : Stmt := top 36
abbrev Nmodd : List Str := ["_law_bag_here", "_law_pick", "_law_k"]
abbrev Podd : List Str := ["_law_bag_here"]
theorem scodd : FnScope Nmodd Podd (defScope sodd) := ⟨rfl, rfl, rfl, by decide +kernel, rfl, by decide +kernel, by decide +kernel⟩
abbrev sname : Stmt := top 37
abbrev Nmname : List Str := ["_law_bag_here", "_law_taken", "_law_word", "_law_k"]
abbrev Pname : List Str := ["_law_bag_here", "_law_taken"]
theorem scname : FnScope Nmname Pname (defScope sname) := ⟨rfl, rfl, rfl, by decide +kernel, rfl, by decide +kernel, by decide +kernel⟩
abbrev snames : Stmt := top 38
abbrev Nmnames : List Str := ["_law_bag_here", "_law_many", "_law_some", "_law_k"]
abbrev Pnames : List Str := ["_law_bag_here", "_law_many"]
theorem scnames : FnScope Nmnames Pnames (defScope snames) := ⟨rfl, rfl, rfl, by decide +kernel, rfl, by decide +kernel, by decide +kernel⟩
abbrev splaces : Stmt := top 39
abbrev Nmplaces : List Str := ["_law_bag_here", "_law_many", "_law_hosts", "_law_owners", "_law_some", "_law_used", "_law_k", "_law_label", "_law_place_here", "_law_above", "_law_host", "_law_free", "_law_soft", "_law_row_here", "_law_one"]
abbrev Pplaces : List Str := ["_law_bag_here", "_law_many", "_law_hosts", "_law_owners"]
theorem scplaces : FnScope Nmplaces Pplaces (defScope splaces) := ⟨rfl, rfl, rfl, by decide +kernel, rfl, by decide +kernel, by decide +kernel⟩
abbrev splace : Stmt := top 40
abbrev Nmplace : List Str := ["_law_bag_here", "_law_row_here", "_law_pick"]
abbrev Pplace : List Str := ["_law_bag_here", "_law_row_here"]
theorem scplace : FnScope Nmplace Pplace (defScope splace) := ⟨rfl, rfl, rfl, by decide +kernel, rfl, by decide +kernel, by decide +kernel⟩
abbrev stree : Stmt := top 41
abbrev Nmtree : List Str := ["_law_rule", "_law_p"]
abbrev Ptree : List Str := ["_law_rule", "_law_p"]
theorem sctree : FnScope Nmtree Ptree (defScope stree) := ⟨rfl, rfl, rfl, by decide +kernel, rfl, by decide +kernel, by decide +kernel⟩
abbrev srow : Stmt := top 42
abbrev Nmrow : List Str := ["_law_place_here"]
abbrev Prow : List Str := ["_law_place_here"]
theorem scrow : FnScope Nmrow Prow (defScope srow) := ⟨rfl, rfl, rfl, by decide +kernel, rfl, by decide +kernel, by decide +kernel⟩
abbrev sask : Stmt := top 43
abbrev Nmask : List Str := ["_law_deed", "_law_told", "_law_fault", "error"]
abbrev Pask : List Str := ["_law_deed"]
theorem scask : FnScope Nmask Pask (defScope sask) := ⟨rfl, rfl, rfl, by decide +kernel, rfl, by decide +kernel, by decide +kernel⟩
abbrev sat_fault : Stmt := top 45
abbrev Nmat_fault : List Str := ["_law_rows", "_law_j", "_law_row_here", "_law_ahead", "_law_above", "_law_one"]
abbrev Pat_fault : List Str := ["_law_rows", "_law_j"]
theorem scat_fault : FnScope Nmat_fault Pat_fault (defScope sat_fault) := ⟨rfl, rfl, rfl, by decide +kernel, rfl, by decide +kernel, by decide +kernel⟩
abbrev sdue : Stmt := top 46
abbrev Nmdue : List Str := ["_law_rows", "_law_j"]
abbrev Pdue : List Str := ["_law_rows"]
theorem scdue : FnScope Nmdue Pdue (defScope sdue) := ⟨rfl, rfl, rfl, by decide +kernel, rfl, by decide +kernel, by decide +kernel⟩
abbrev sbent : Stmt := top 44
abbrev Nmbent : List Str := ["_law_bag_here", "_law_rows", "_law_hosts", "_law_some", "_law_j", "_law_row_here", "_law_other", "_law_pick", "_law_k", "_law_first"]
abbrev Pbent : List Str := ["_law_bag_here", "_law_rows", "_law_hosts"]
theorem scbent : FnScope Nmbent Pbent (defScope sbent) := ⟨rfl, rfl, rfl, by decide +kernel, rfl, by decide +kernel, by decide +kernel⟩
abbrev ssize : Stmt := top 47
abbrev Nmsize : List Str := ["_law_bag_here", "_law_rows", "_law_hosts", "_law_some", "_law_k", "_law_more"]
abbrev Psize : List Str := ["_law_bag_here", "_law_rows", "_law_hosts"]
theorem scsize : FnScope Nmsize Psize (defScope ssize) := ⟨rfl, rfl, rfl, by decide +kernel, rfl, by decide +kernel, by decide +kernel⟩
abbrev snamed : Stmt := top 49
abbrev Nmnamed : List Str := ["_law_thing", "_law_sign"]
abbrev Pnamed : List Str := ["_law_thing"]
theorem scnamed : FnScope Nmnamed Pnamed (defScope snamed) := ⟨rfl, rfl, rfl, by decide +kernel, rfl, by decide +kernel, by decide +kernel⟩
abbrev splace_so : Stmt := top 50
abbrev Nmplace_so : List Str := ["_law_bag_here", "_law_some", "_law_k", "_law_wrong", "_law_told", "_law_fault"]
abbrev Pplace_so : List Str := ["_law_bag_here"]
theorem scplace_so : FnScope Nmplace_so Pplace_so (defScope splace_so) := ⟨rfl, rfl, rfl, by decide +kernel, rfl, by decide +kernel, by decide +kernel⟩
abbrev sso : Stmt := top 48
abbrev Nmso : List Str := ["_law_bag_here", "_law_rows", "_law_hosts", "_law_some", "_law_things", "_law_rule", "_law_due_here", "_law_at", "_law_k", "_law_told", "_law_fault", "_law_right", "_law_row_here", "_law_place_here"]
abbrev Pso : List Str := ["_law_bag_here", "_law_rows", "_law_hosts"]
theorem scso : FnScope Nmso Pso (defScope sso) := ⟨rfl, rfl, rfl, by decide +kernel, rfl, by decide +kernel, by decide +kernel⟩
abbrev slaw : Stmt := top 51
abbrev Nmlaw : List Str := ["_law_script", "_law_bag_here", "_law_k", "_law_hosts", "_law_many", "_law_rows"]
abbrev Plaw : List Str := ["_law_script"]
theorem sclaw : FnScope Nmlaw Plaw (defScope slaw) := ⟨rfl, rfl, rfl, by decide +kernel, rfl, by decide +kernel, by decide +kernel⟩
structure Txt (K : PySem.W.Frag) (mg : Str → Option Value) : Prop where
  n_all : mg "all" = none
  n_any : mg "any" = none
  n_bool : mg "bool" = none
  n_dict : mg "dict" = none
  n_enumerate : mg "enumerate" = none
  n_int : mg "int" = none
  n_isinstance : mg "isinstance" = none
  n_len : mg "len" = none
  n_list : mg "list" = none
  n_min : mg "min" = none
  n_range : mg "range" = none
  n_str : mg "str" = none
  n_super : mg "super" = none
  n_tuple : mg "tuple" = none
  n_zip : mg "zip" = none
  c_DIGITS : ∃ t, mg "DIGITS" = some (.str "0123456789" t)
  c_LETTERS : ∃ t, mg "LETTERS" = some (.str "abcdefghijklmnopqrstuvwxyz" t)
  c_MOST_PLACES : ∃ t, mg "MOST_PLACES" = some (.int 24 t)
  c_MOST_SIZE : ∃ t, mg "MOST_SIZE" = some (.int 1000 t)
open RM
/-- the addresses of what the program's top has made -/
structure Ad where
  (R W r P T fRi fE fPe Wi ri Pi Ti fTp fTl : Addr)
/-- what the written part says of a class of rests -/
structure RC (K : PySem.W.Frag) (a : Ad) (C : Addr) : Prop where
  cl : Cls K C
  nT : NoAttr K C "_text"
  nF : NoAttr K C "_forms"
  nP : NoAttr K C "_period"
  nB : NoAttr K C "_bend"
/-- a class whose instances are asked for their class -/
structure IC (K : PySem.W.Frag) (C : Addr) : Prop where
  cl : Cls K C
  ha : PySem.W.findIn K (.ref C) "__class__" = some (some (.builtin "object.__class__"))
  hn : PySem.W.specialIn K (.builtin "object.__class__") "__get__" = some (some (.builtin "getset_descriptor.__get__"))
  htk : PySem.W.takesIn K (.builtin "object.__class__") = some true
  hm : PySem.W.mroIn K C (.type "object") = some true
  bt : ∀ t : String, t ∈ ["int", "bool", "str", "list", "tuple", "dict"] → PySem.W.kitOne K (.ref C) (.type t) = some false
abbrev TY7 : List String := ["int", "bool", "str", "NoneType", "list", "tuple", "dict"]
structure Kn (K : PySem.W.Frag) (mg : Str → Option Value) (a : Ad) : Prop where
  w : RC K a a.W
  iw : IC K a.W
  ir : IC K a.r
  ip : IC K a.P
  nw : NoAttr K a.W "width"
  pn : NoAttr K a.P "name"
  ps : NoAttr K a.P "server"
  pe : NoAttr K a.P "elder"
  pm : NoAttr K a.P "memory"
  pc : NoAttr K a.P "customer"
  rn : NoAttr K a.r "name"
  rc : NoAttr K a.r "chips"
  rr : NoAttr K a.r "rest"
  tcl : Cls K a.T
  tr : NoAttr K a.T "rule"
  tp : NoAttr K a.T "_places"
  tc : NoAttr K a.T "_children"
  tt : NoAttr K a.T "_tops"
  gR : mg "Rest" = some (.ref a.R)
  gWindow : mg "Window" = some (.ref a.W)
  gRule : mg "Rule" = some (.ref a.r)
  gPlace : mg "Place" = some (.ref a.P)
  gTree : mg "Tree" = some (.ref a.T)
  mWindow : Mk K a.W a.Wi
  mRule : Mk K a.r a.ri
  mPlace : Mk K a.P a.Pi
  mTree : Mk K a.T a.Ti
  kWR : PySem.W.kitOne K (.ref a.W) (.ref a.R) = some true
  krr : PySem.W.kitOne K (.ref a.r) (.ref a.r) = some true
  kPP : PySem.W.kitOne K (.ref a.P) (.ref a.P) = some true
  kWr : PySem.W.kitOne K (.ref a.W) (.ref a.r) = some false
  kPr : PySem.W.kitOne K (.ref a.P) (.ref a.r) = some false
  kWP : PySem.W.kitOne K (.ref a.W) (.ref a.P) = some false
  krP : PySem.W.kitOne K (.ref a.r) (.ref a.P) = some false
  tbr : ∀ t : String, t ∈ TY7 → PySem.W.kitOne K (.type t) (.ref a.r) = some false
  tbP : ∀ t : String, t ∈ TY7 → PySem.W.kitOne K (.type t) (.ref a.P) = some false
  eW : PySem.W.findIn K (.ref a.W) "__eq__" = some (some (.ref a.fE))
  fW : PySem.W.isFn K (.ref a.fE) = true
  eP : PySem.W.findIn K (.ref a.P) "__eq__" = some (some (.ref a.fPe))
  fP : PySem.W.isFn K (.ref a.fPe) = true
  mTp : Meth K a.T "places" a.fTp
  kTp : PySem.W.keepIn K (.ref a.fTp) = true
  lT : PySem.W.findIn K (.ref a.T) "__len__" = some (some (.ref a.fTl))
  fT : PySem.W.isFn K (.ref a.fTl) = true

/-- all but what is in F and the tables of code is as it was -/
def KpF (F : Addr → Prop) (H H' : Hp) : Prop := ∀ b o, ¬ F b → (∀ ps, o ≠ .tbl ps) → H b = some o → H' b = some o
theorem KpF.same {F : Addr → Prop} {H H' : Hp} (s : Same H H') : KpF F H H' := fun b o _ _ e => s b o e
theorem KpF.kp {F : Addr → Prop} {g : Addr} {H H' : Hp} (hg : F g) (k : Kp g H H') : KpF F H H' := fun b o n _ e => k b o (fun z => n (z ▸ hg)) e
def iT (i : Int) : Str := Str.ofString (toString i)
theorem insN {C dx : Addr} {fs : List (Str × V)} : ∀ ps, HO.ins C dx fs ≠ .tbl ps := fun _ z => by cases z
theorem lstN {xs : List V} : ∀ ps, HO.lst xs ≠ .tbl ps := fun _ z => by cases z
theorem tupN {xs : List V} : ∀ ps, HO.tup xs ≠ .tbl ps := fun _ z => by cases z
theorem lk_eq {f : Str} {v : V} {fs : List (Str × V)} : (putF f v fs).lookup f = some v := by rw [lookup_putF, if_pos rfl]
theorem lk_ne {f m : Str} {v : V} {fs : List (Str × V)} (h : decide (m = f) = false) : (putF f v fs).lookup m = fs.lookup m := by rw [lookup_putF, if_neg (of_decide_eq_false h)]
theorem sum_le {B : Nat} : ∀ {ys : List Str}, (∀ y ∈ ys, y.length ≤ B) → (ys.map (·.length)).sum ≤ ys.length * B
  | [], _ => Nat.zero_le _
  | y :: r, h => by
    have ih := sum_le (ys := r) fun t ht => h t (List.mem_cons_of_mem _ ht)
    have := h y (by simp)
    show y.length + (r.map (·.length)).sum ≤ (r.length + 1) * B
    rw [Nat.add_mul, Nat.one_mul]
    omega
theorem int_len {i : Int} (h0 : -1000000 ≤ i) (h1 : i ≤ 1000000) : (PySem.Str.ofString (toString i)).length ≤ 1921 := PyProof.Rows.int_text_len_1921 (log_small h0 h1)

theorem same_mk {Hb H H1 : Hp} {x q : Addr} {o : HO} (hb : Hb x = none) (sb : Same Hb H) (hq : H q = none) (h2 : ∀ y, y ≠ x → H1 y = upd H q o y) : Same Hb H1 := fun c u e => by
  have nx : c ≠ x := ne_of_none e hb
  rw [h2 c nx, upd_ne (ne_of_none (sb c u e) hq)]
  exact sb c u e
theorem same_upd {Hb H : Hp} {x : Addr} {o : HO} (hb : Hb x = none) (s : Same Hb H) : Same Hb (upd H x o) := fun c u e => by
  rw [upd_ne (ne_of_none e hb)]
  exact s c u e
theorem nF_same {F : Addr → Prop} {H H' : Hp} {t : Addr} (hF : ∀ b, F b → ∃ o, H b = some o) (s : Same H H') (h : H' t = none) : ¬ F t := fun z => by
  obtain ⟨o, e⟩ := hF t z
  rw [s _ _ e] at h
  cases h
theorem iT_len {i : Int} (h0 : -1000000 ≤ i) (h1 : i ≤ 1000000) : (iT i).length ≤ 1921 := int_len h0 h1
theorem ixN_nat {j n : Nat} (h : j < n) : ixN n (j : Int) = some j := by
  unfold ixN
  rw [if_pos (by omega), if_pos (by omega)]
  simp
/-! ### values of any kind -/
def Sz : V → Prop
  | .int _ => True
  | .non => True
  | .bl _ => True
  | .str z => z.length ≤ 1000000
  | _ => False
theorem Sz.sc : ∀ {x : V}, Sz x → Sc x
  | .int _, _ => True.intro
  | .non, _ => True.intro
  | .bl _, _ => True.intro
  | .str _, _ => True.intro
/-- each value is the one of its key, flat or an object -/
def DkOk (ks : List (Key × V)) : Prop := ∀ p ∈ ks, valV ks p.1 = some p.2 ∧ (flatB p.2 = true ∨ ∃ a, p.2 = .ref a)
theorem dk0 : DkOk [] := fun p hp => by cases hp
theorem dk1 {k : Key} {v : V} (hv : flatB v = true ∨ ∃ a, v = .ref a) : DkOk (mergeK [] [(k, v)]) := fun p hp => by
  have e : mergeK [] [(k, v)] = [(k, v)] := rfl
  rw [e] at hp ⊢
  rw [List.mem_singleton] at hp
  rw [hp]
  refine ⟨?_, hv⟩
  unfold valV
  rw [List.find?_cons, decide_eq_true rfl]
  rfl
/-- data that is not in F: scalars, dicts, lists and tuples of such data, n deep -/
def Ov (F : Addr → Prop) (H : Hp) : Nat → V → Prop
  | 0, x => Sz x
  | n + 1, x => Sz x ∨ (∃ (p : Addr) (ks : List (Key × V)), x = .ref p ∧ ¬ F p ∧ H p = some (.dK ks) ∧ DkOk ks) ∨ ∃ (b : Bool) (p : Addr) (xs : List V), x = .ref p ∧ ¬ F p ∧ H p = some (mkO b xs) ∧ xs.length ≤ 1000000 ∧ ∀ u ∈ xs, Ov F H n u
theorem mkO_ne (b : Bool) (xs : List V) : ∀ ps, mkO b xs ≠ .tbl ps := fun ps z => by
  cases b with
  | true => cases (show HO.lst xs = .tbl ps from z)
  | false => cases (show HO.tup xs = .tbl ps from z)
theorem Ov.kp {F : Addr → Prop} {H H' : Hp} (k : KpF F H H') : ∀ {n : Nat} {x : V}, Ov F H n x → Ov F H' n x
  | 0, _, h => h
  | _ + 1, _, .inl h => .inl h
  | _ + 1, _, .inr (.inl ⟨p, ks, e, n, h, q⟩) => .inr (.inl ⟨p, ks, e, n, k _ _ n (fun _ z => by cases z) h, q⟩)
  | _ + 1, _, .inr (.inr ⟨b, p, xs, e, n, h, l, r⟩) => .inr (.inr ⟨b, p, xs, e, n, k _ _ n (mkO_ne b xs) h, l, fun u hu => (r u hu).kp k⟩)
theorem Ov.mono {F G : Addr → Prop} {H : Hp} (k : ∀ b, G b → F b) : ∀ {n : Nat} {x : V}, Ov F H n x → Ov G H n x
  | 0, _, h => h
  | _ + 1, _, .inl h => .inl h
  | _ + 1, _, .inr (.inl ⟨p, ks, e, n, h, q⟩) => .inr (.inl ⟨p, ks, e, fun z => n (k _ z), h, q⟩)
  | _ + 1, _, .inr (.inr ⟨b, p, xs, e, n, h, l, r⟩) => .inr (.inr ⟨b, p, xs, e, fun z => n (k _ z), h, l, fun u hu => (r u hu).mono k⟩)
theorem Ov.sz {F : Addr → Prop} {H : Hp} {x : V} (h : Sz x) : ∀ n, Ov F H n x
  | 0 => h
  | _ + 1 => .inl h
/-- by the mutation of a list in F nothing changes -/
theorem KpF.mut' {F : Addr → Prop} {H : Hp} {p : Addr} {o : HO} (h : F p) : KpF F H (L2.upd H p o) := fun b u n _ e => by
  rw [upd_ne (fun z => n (by rw [z]; exact h))]
  exact e
def isI : V → Bool
  | .int _ => true
  | .bl _ => true
  | _ => false
def isB : V → Bool
  | .bl _ => true
  | _ => false
def isS : V → Bool
  | .str _ => true
  | _ => false
/-- what isinstance says of such a value -/
theorem Ov.ty {K : PySem.W.Frag} {F : Addr → Prop} {H : Hp} {n : Nat} {x : V} (h : Ov F H n x) : ∃ t : String, TyX K H x (.type t) ∧ kitB t "int" = some (isI x) ∧ kitB t "bool" = some (isB x) ∧ kitB t "str" = some (isS x) ∧ t ∈ ["int", "bool", "str", "NoneType", "list", "tuple", "dict"] := by
  have sc : ∀ {x : V}, Sz x → ∃ t : String, TyX K H x (.type t) ∧ kitB t "int" = some (isI x) ∧ kitB t "bool" = some (isB x) ∧ kitB t "str" = some (isS x) ∧ t ∈ ["int", "bool", "str", "NoneType", "list", "tuple", "dict"] := fun {x} hs => by
    match x, hs with
    | .int i, _ => exact ⟨"int", .base (.int i), (show kitB "int" "int" = some true by decide +kernel), (show kitB "int" "bool" = some false by decide +kernel), (show kitB "int" "str" = some false by decide +kernel), by decide⟩
    | .bl i, _ => exact ⟨"bool", .base (.bl i), (show kitB "bool" "int" = some true by decide +kernel), (show kitB "bool" "bool" = some true by decide +kernel), (show kitB "bool" "str" = some false by decide +kernel), by decide⟩
    | .non, _ => exact ⟨"NoneType", .base .non, (show kitB "NoneType" "int" = some false by decide +kernel), (show kitB "NoneType" "bool" = some false by decide +kernel), (show kitB "NoneType" "str" = some false by decide +kernel), by decide⟩
    | .str i, _ => exact ⟨"str", .base (.str i), (show kitB "str" "int" = some false by decide +kernel), (show kitB "str" "bool" = some false by decide +kernel), (show kitB "str" "str" = some true by decide +kernel), by decide⟩
  cases n with
  | zero => exact sc h
  | succ n =>
    rcases h with h | ⟨p, ks, rfl, _, e, _⟩ | ⟨b, p, xs, rfl, _, e, _⟩
    · exact sc h
    · exact ⟨"dict", .base (.dK e), (show kitB "dict" "int" = some false by decide +kernel), (show kitB "dict" "bool" = some false by decide +kernel), (show kitB "dict" "str" = some false by decide +kernel), by decide⟩
    · cases b with
      | true => exact ⟨"list", .base (.lst e), (show kitB "list" "int" = some false by decide +kernel), (show kitB "list" "bool" = some false by decide +kernel), (show kitB "list" "str" = some false by decide +kernel), by decide⟩
      | false => exact ⟨"tuple", .base (.tup e), (show kitB "tuple" "int" = some false by decide +kernel), (show kitB "tuple" "bool" = some false by decide +kernel), (show kitB "tuple" "str" = some false by decide +kernel), by decide⟩
theorem Ov.str {F : Addr → Prop} {H : Hp} {n : Nat} {z : Str} (h : Ov F H n (.str z)) : z.length ≤ 1000000 := by
  cases n with
  | zero => exact h
  | succ n =>
    rcases h with h | ⟨p, ks, e, _⟩ | ⟨b, p, xs, e, _⟩
    · exact h
    · cases e
    · cases e
def ivF (nm : Str) : List V → List (Str × V)
  | [v] => [("code", .str nm), ("value", v)]
  | _ => []
def atF (nm : Str) : List V → List (Str × V)
  | [v] => [("code", .str nm), ("at", v)]
  | _ => []
def tmF : List V → List (Str × V)
  | [w, c] => [("code", .str "TooMany"), ("count", c), ("what", w)]
  | _ => []
structure RE (P : Program) (w : World) (K : PySem.W.Frag) (mg : Str → Option Value) (base : Heap) (nm f : Str) (fs : List V → List (Str × V)) (C fI : Addr) (fdI : FuncData) : Prop where
  er : LX.ErrC K mg nm [f, "code"] C fI
  G : FnOk P w K mg base CX0 1 fI fdI ["self", f] (LX.spErr C 1 fs)
  b : Binds K fdI ["self", f] []
structure RTM (P : Program) (w : World) (K : PySem.W.Frag) (mg : Str → Option Value) (base : Heap) (CT fT : Addr) (fdT : FuncData) : Prop where
  er : LX.ErrC K mg "TooMany" ["what", "count", "code"] CT fT
  G : FnOk P w K mg base CX0 1 fT fdT PTooMany_init (LX.spErr CT 2 tmF)
  b : Binds K fdT PTooMany_init []
theorem ErrOut.same {H H1 : Hp} {E : XK} {C : Addr} {fs : List (Str × V)} (s : Same H H1) (h : LX.ErrOut H E C fs) : LX.ErrOut H1 E C fs := fun d H' s' hd he => h d H' (s.trans s') (s.free hd) he
def plcF (nm : Str) : List V → List (Str × V)
  | [v] => [("code", .str nm), ("place", v)]
  | _ => []
/-- the error classes -/
structure Ce where
  (na ru pl bt tm : Addr)
inductive Er (ce : Ce) : Str → Addr → List V → List (Str × V) → Prop where
  | na (v : V) : Er ce "InvalidName" ce.na [v] (ivF "InvalidName" [v])
  | ru (v : V) : Er ce "InvalidRule" ce.ru [v] (ivF "InvalidRule" [v])
  | pl (v : V) : Er ce "InvalidPlace" ce.pl [v] (atF "InvalidPlace" [v])
  | bt (v : V) : Er ce "BadTree" ce.bt [v] (plcF "BadTree" [v])
  | tm (w n : V) : Er ce "TooMany" ce.tm [w, n] (tmF [w, n])
def Out (ce : Ce) (H : Hp) (E : XK) (e : Str × List V) : Prop := ∀ C fs, Er ce e.1 C e.2 fs → LX.ErrOut H E C fs
theorem Out.same {ce : Ce} {H H1 : Hp} {E : XK} {e : Str × List V} (s : Same H H1) (h : Out ce H E e) : Out ce H1 E e := fun C fs r => ErrOut.same s (h C fs r)
theorem Out.na {ce : Ce} {H : Hp} {E : XK} {v : V} (h : Out ce H E ("InvalidName", [v])) : LX.ErrOut H E ce.na (ivF "InvalidName" [v]) := h _ _ (.na v)
theorem Out.ru {ce : Ce} {H : Hp} {E : XK} {v : V} (h : Out ce H E ("InvalidRule", [v])) : LX.ErrOut H E ce.ru (ivF "InvalidRule" [v]) := h _ _ (.ru v)
theorem Out.pl {ce : Ce} {H : Hp} {E : XK} {v : V} (h : Out ce H E ("InvalidPlace", [v])) : LX.ErrOut H E ce.pl (atF "InvalidPlace" [v]) := h _ _ (.pl v)
theorem Out.bt {ce : Ce} {H : Hp} {E : XK} {v : V} (h : Out ce H E ("BadTree", [v])) : LX.ErrOut H E ce.bt (plcF "BadTree" [v]) := h _ _ (.bt v)
theorem Out.tm {ce : Ce} {H : Hp} {E : XK} {v w : V} (h : Out ce H E ("TooMany", [v, w])) : LX.ErrOut H E ce.tm (tmF [v, w]) := h _ _ (.tm v w)

theorem num_true {v lo hi : Int} (h1 : lo ≤ v) (h2 : v ≤ hi) : isNum (.int v) lo hi = true := by
  show (decide (lo ≤ v) && decide (v ≤ hi)) = true
  rw [decide_eq_true h1, decide_eq_true h2]
  rfl
theorem kLT_dK {K : PySem.W.Frag} : PySem.W.kitAny K (.type "dict") [.type "list", .type "tuple"] = some false := kitAny_cons (kit_ty (show kitB "dict" "list" = some false by decide +kernel)) (fun _ => kitAny_cons (kit_ty (show kitB "dict" "tuple" = some false by decide +kernel)) (fun _ => kitAny_nil) fun z => by cases z) (fun z => by cases z)
/-- == of scalars, or of a dict with itself -/
def rEqS (K : PySem.W.Frag) : R2 := fun x y H Q => rEq x y H Q ∨ ∃ (p : Addr) (ks : List (Key × V)), x = .ref p ∧ y = .ref p ∧ H p = some (.dK ks) ∧ DkOk ks ∧ Q (.bl true) H
theorem op_eqS {X : Cx} (hu : X.A.units + 64 < cLine) : OpR X (compareOp .Eq) (rEqS X.K) := by
  intro pins s σ H x y v u Q I rx ry h
  rcases h with h | ⟨p, ks, rfl, rfl, hp, ok, q⟩
  · exact op_eq pins s σ H x y v u Q I rx ry h
  · refine op_eqV hu pins s σ H _ _ v u Q I rx ry ⟨1, by decide, .inr ⟨p, p, ks, ks, rfl, rfl, hp, hp, rfl, fun z hz => ?_⟩, q⟩
    obtain ⟨e, f⟩ := ok z hz
    refine ⟨z.2, e, ?_⟩
    rcases f with f | ⟨b, f⟩
    · exact .inl ⟨rfl, f⟩
    · exact .inr (.inl ⟨b, f, f⟩)
/-- what is new is not in F -/
theorem nF_of {F : Addr → Prop} {g l : Addr} {H H' : Hp} {t : Addr} (hF : ∀ b, F b → ∃ o, H b = some o) (r : Ok g l H H') (h : H' t = none) : ¬ F t := fun z => by
  obtain ⟨o, e⟩ := hF t z
  rw [r.free h] at e
  cases e
theorem hF_ok {F : Addr → Prop} {g l : Addr} {H H' : Hp} (hF : ∀ b, F b → ∃ o, H b = some o) (r : Ok g l H H') : ∀ b, F b → ∃ o, H' b = some o := fun b z => by
  cases q : H' b with
  | some o => exact ⟨o, rfl⟩
  | none => exact absurd z (nF_of hF r q)
/-- a good dict stands at p -/
def Dq (F : Addr → Prop) (H : Hp) (p : Addr) : Prop := ¬ F p ∧ ∃ ks, H p = some (.dK ks) ∧ DkOk ks
theorem Dq.new {F : Addr → Prop} {H : Hp} {p q : Addr} {o : HO} (d : Dq F H p) (h : H q = none) : Dq F (L2.upd H q o) p := by
  obtain ⟨n, ks, e, k⟩ := d
  exact ⟨n, ks, by rw [upd_ne (ne_of_none e h)]; exact e, k⟩
theorem Dq.dict {F : Addr → Prop} {H : Hp} {p q : Addr} {kvs : List (Key × V)} (ok : DkOk kvs) (d : Dq F H p) : Dq F (L2.upd H q (.dK kvs)) p := by
  obtain ⟨n, ks, e, k⟩ := d
  by_cases h : p = q
  · subst h
    exact ⟨n, kvs, upd_same, ok⟩
  · exact ⟨n, ks, by rw [upd_ne h]; exact e, k⟩
theorem Dq.ov {F : Addr → Prop} {H : Hp} {p : Addr} (d : Dq F H p) (n : Nat) : Ov F H (n + 1) (.ref p) := by
  obtain ⟨n, ks, e, k⟩ := d
  exact .inr (.inl ⟨p, ks, rfl, n, e, k⟩)
theorem app_cps (a b : Str) : (a ++ b).cps.toList = a.cps.toList ++ b.cps.toList := by
  show (a.cps ++ b.cps).toList = _
  rw [Array.toList_append]
theorem nam_str {v : V} (h : isNam v = true) : ∃ z, v = .str z := by
  cases v with
  | str z => exact ⟨z, rfl⟩
  | _ => exact Bool.noConfusion h
theorem num_int {v : V} {lo hi : Int} (h : isNum v lo hi = true) : ∃ i, v = .int i ∧ lo ≤ i ∧ i ≤ hi := by
  cases v with
  | int i =>
    have q : (decide (lo ≤ i) && decide (i ≤ hi)) = true := h
    rw [Bool.and_eq_true] at q
    exact ⟨i, rfl, of_decide_eq_true q.1, of_decide_eq_true q.2⟩
  | _ => exact Bool.noConfusion h
theorem same_two {H : Hp} {x dx : Addr} {o o' : HO} (hx : H x = none) (hdx : H dx = none) : Same H (upd (upd H dx o) x o') := same_upd hx (same_new hdx)
theorem app_assoc (a b c : Str) : a ++ b ++ c = a ++ (b ++ c) := by
  show (⟨a.cps ++ b.cps ++ c.cps⟩ : Str) = ⟨a.cps ++ (b.cps ++ c.cps)⟩
  rw [Array.append_assoc]
def putW (w : Int) (t : Str) : List (Str × V) := putF "width" (.int w) (putF "_bend" (.int 0) (putF "_period" (.int 1) (putF "_forms" (.int 1) (putF "_text" (.str t) []))))
def winT (w : Int) : Str := Str.empty ++ "window " ++ iT w
def winF (w : Int) : List (Str × V) := putW w (winT w)
theorem winF_t {w : Int} : (winF w).lookup ("_text" : Str) = some (.str (winT w)) := by
  unfold winF putW
  rw [lk_ne (by decide +kernel), lk_ne (by decide +kernel), lk_ne (by decide +kernel), lk_ne (by decide +kernel)]
  exact lk_eq
/-- a row of the law, and a place -/
structure Row where
  (nm sv : Str) (el : Option Str) (mem : Bool) (cu : Option Str)
def oV : Option Str → V
  | none => .non
  | some z => .str z
def rowV (r : Row) : List V := [.str r.nm, .str r.sv, oV r.el, .bl r.mem, oV r.cu]
def NmOk (z : Str) : Prop := isNam (.str z) = true
structure Row.ok (r : Row) : Prop where
  n : NmOk r.nm
  s : NmOk r.sv
  e : ∀ z, r.el = some z → NmOk z
  c : ∀ z, r.cu = some z → NmOk z
theorem oV_inj {x y : Option Str} (h : oV x = oV y) : x = y := by
  cases x with
  | none => cases y with
    | none => rfl
    | some z => cases h
  | some z => cases y with
    | none => cases h
    | some u => cases h; rfl
theorem rowV_inj {r q : Row} (h : rowV r = rowV q) : r = q := by
  obtain ⟨a, b, c, d, e⟩ := r
  obtain ⟨a', b', c', d', e'⟩ := q
  have h' : [V.str a, V.str b, oV c, V.bl d, oV e] = [V.str a', V.str b', oV c', V.bl d', oV e'] := h
  simp only [List.cons.injEq, V.str.injEq, V.bl.injEq] at h'
  obtain ⟨rfl, rfl, h3, rfl, h5, _⟩ := h'
  rw [oV_inj h3, oV_inj h5]
theorem NmOk.len {z : Str} (h : NmOk z) : 1 ≤ z.length ∧ z.length ≤ 8 := by
  unfold NmOk at h
  rw [isNam_str] at h
  simp only [Bool.and_eq_true, decide_eq_true_eq] at h
  omega
theorem NmOk.sz {z : Str} (h : NmOk z) : z.length ≤ 1000000 := by have := h.len; omega
def plF (r : Row) : List (Str × V) := putF "customer" (oV r.cu) (putF "memory" (.bl r.mem) (putF "elder" (oV r.el) (putF "server" (.str r.sv) (putF "name" (.str r.nm) []))))
section
variable {r : Row}
theorem plF_n : (plF r).lookup ("name" : Str) = some (.str r.nm) := by
  unfold plF
  rw [lk_ne (by decide +kernel), lk_ne (by decide +kernel), lk_ne (by decide +kernel), lk_ne (by decide +kernel)]
  exact lk_eq
theorem plF_s : (plF r).lookup ("server" : Str) = some (.str r.sv) := by
  unfold plF
  rw [lk_ne (by decide +kernel), lk_ne (by decide +kernel), lk_ne (by decide +kernel)]
  exact lk_eq
theorem plF_e : (plF r).lookup ("elder" : Str) = some (oV r.el) := by
  unfold plF
  rw [lk_ne (by decide +kernel), lk_ne (by decide +kernel)]
  exact lk_eq
theorem plF_m : (plF r).lookup ("memory" : Str) = some (.bl r.mem) := by
  unfold plF
  rw [lk_ne (by decide +kernel)]
  exact lk_eq
theorem plF_c : (plF r).lookup ("customer" : Str) = some (oV r.cu) := lk_eq
end
def Fz : HO → Bool
  | .tup _ => true
  | .ins _ _ _ => true
  | _ => false
/-- tuples and instances stay -/
def Ki (H H' : Hp) : Prop := ∀ b o, Fz o = true → H b = some o → H' b = some o
theorem Ki.refl (H : Hp) : Ki H H := fun _ _ _ h => h
theorem Ki.trans {H H1 H2 : Hp} (a : Ki H H1) (b : Ki H1 H2) : Ki H H2 := fun c o f h => b c o f (a c o f h)
theorem Ki.same {H H' : Hp} (s : Same H H') : Ki H H' := fun b o _ e => s b o e
theorem Ki.new {H : Hp} {p : Addr} {o : HO} (h : H p = none) : Ki H (upd H p o) := Ki.same (same_new h)
theorem Ki.mut {H : Hp} {p : Addr} {o u : HO} (h : H p = some u) (hu : Fz u = false) : Ki H (upd H p o) := fun b x f e => by
  rw [upd_ne (fun z => by rw [z, h] at e; cases e; rw [hu] at f; cases f)]
  exact e
theorem Ki.lst {H : Hp} {p : Addr} {o : HO} {xs : List V} (h : H p = some (.lst xs)) : Ki H (upd H p o) := Ki.mut h rfl
theorem Ki.ok {g l : Addr} {H H' : Hp} (r : Ok g l H H') : Ki H H' := fun b x f e => by
  obtain ⟨⟨ys, q⟩, _⟩ := r.b0.there
  refine r.kp b _ (fun z => ?_) e
  rw [z, q] at e
  cases e
  cases f
theorem KpF.ki {F : Addr → Prop} {H H' : Hp} (hF : ∀ b, F b → ∃ xs, H b = some (.lst xs)) (k : KpF F H H') : Ki H H' := fun b x f e => k b _ (fun z => by
  obtain ⟨ys, q⟩ := hF b z
  rw [q] at e
  cases e
  cases f) (fun ps z => by rw [z] at f; cases f) e
/-- an instance: its class and itself -/
inductive Iv (a : Ad) (H : Hp) : Addr → V → Prop where
  | w {p dx : Addr} {n : Int} (h : H p = some (.ins a.W dx (winF n))) : Iv a H a.W (.ref p)
  | r {p dx : Addr} {fs : List (Str × V)} (h : H p = some (.ins a.r dx fs)) : Iv a H a.r (.ref p)
  | p {p dx : Addr} {q : Row} (h : H p = some (.ins a.P dx (plF q))) : Iv a H a.P (.ref p)
theorem Iv.ki {a : Ad} {H H' : Hp} (k : Ki H H') {C : Addr} {v : V} (h : Iv a H C v) : Iv a H' C v := by
  cases h with
  | w h => exact .w (k _ _ rfl h)
  | r h => exact .r (k _ _ rfl h)
  | p h => exact .p (k _ _ rfl h)
theorem Iv.ref {a : Ad} {H : Hp} {C : Addr} {v : V} (h : Iv a H C v) : ∃ p, v = .ref p := by
  cases h <;> exact ⟨_, rfl⟩
theorem Iv.ty {K : PySem.W.Frag} {mg : Str → Option Value} {a : Ad} {H : Hp} (KN : Kn K mg a) {C : Addr} {v : V} (h : Iv a H C v) : IC K C ∧ TyX K H v (.ref C) := by
  cases h with
  | w h => exact ⟨KN.iw, .base (.ins h KN.iw.cl KN.iw.ha KN.iw.hn KN.iw.htk KN.iw.hm)⟩
  | r h => exact ⟨KN.ir, .base (.ins h KN.ir.cl KN.ir.ha KN.ir.hn KN.ir.htk KN.ir.hm)⟩
  | p h => exact ⟨KN.ip, .base (.ins h KN.ip.cl KN.ip.ha KN.ip.hn KN.ip.htk KN.ip.hm)⟩
/-- a value that is no D -/
def Ot (K : PySem.W.Frag) (a : Ad) (F : Addr → Prop) (H : Hp) (D : Addr) (v : V) : Prop := Ov F H 3 v ∨ ∃ C, PySem.W.kitOne K (.ref C) (.ref D) = some false ∧ Iv a H C v
def Gv (a : Ad) (F : Addr → Prop) (H : Hp) (v : V) : Prop := Ov F H 3 v ∨ ∃ p dx n, v = .ref p ∧ H p = some (.ins a.W dx (winF n))
theorem Ot.kp {K : PySem.W.Frag} {a : Ad} {F : Addr → Prop} {H H' : Hp} {D : Addr} {v : V} (k : KpF F H H') (ki : Ki H H') : Ot K a F H D v → Ot K a F H' D v
  | .inl h => .inl (h.kp k)
  | .inr ⟨C, e, h⟩ => .inr ⟨C, e, h.ki ki⟩
theorem Gv.kp {a : Ad} {F : Addr → Prop} {H H' : Hp} {v : V} (k : KpF F H H') (ki : Ki H H') : Gv a F H v → Gv a F H' v
  | .inl h => .inl (h.kp k)
  | .inr ⟨p, dx, n, e, h⟩ => .inr ⟨p, dx, n, e, ki _ _ rfl h⟩
theorem Ot.is {K : PySem.W.Frag} {mg : Str → Option Value} {a : Ad} {F : Addr → Prop} {H : Hp} (KN : Kn K mg a) {D : Addr} (hD : ∀ t : String, t ∈ TY7 → PySem.W.kitOne K (.type t) (.ref D) = some false) {v : V} (h : Ot K a F H D v) : ∃ t, TyX K H v t ∧ PySem.W.kitOne K t (.ref D) = some false := by
  rcases h with h | ⟨C, e, h⟩
  · obtain ⟨t, ty, _, _, _, hm⟩ := h.ty (K := K)
    exact ⟨_, ty, hD t hm⟩
  · exact ⟨_, (h.ty KN).2, e⟩
theorem Gv.ty {K : PySem.W.Frag} {mg : Str → Option Value} {a : Ad} {F : Addr → Prop} {H : Hp} (KN : Kn K mg a) {v : V} (h : Gv a F H v) : ∃ t, TyX K H v t ∧ PySem.W.kitOne K t (.type "str") = some (isS v) := by
  rcases h with h | ⟨p, dx, n, rfl, h⟩
  · obtain ⟨t, ty, _, _, ks, _⟩ := h.ty (K := K)
    exact ⟨_, ty, kit_ty ks⟩
  · exact ⟨_, ((Iv.w (a := a) h).ty KN).2, KN.iw.bt _ (by decide)⟩
theorem Gv.str {a : Ad} {F : Addr → Prop} {H : Hp} {z : Str} (h : Gv a F H (.str z)) : z.length ≤ 1000000 := by
  rcases h with h | ⟨p, dx, n, e, h⟩
  · exact h.str
  · cases e
def PlV (a : Ad) (H : Hp) (r : Row) (v : V) : Prop := ∃ p dx, v = .ref p ∧ H p = some (.ins a.P dx (plF r))
theorem PlV.ki {a : Ad} {H H' : Hp} (k : Ki H H') {r : Row} {v : V} : PlV a H r v → PlV a H' r v := fun ⟨p, dx, e, h⟩ => ⟨p, dx, e, k _ _ rfl h⟩
/-- one thing that is given as a place -/
def ThV (K : PySem.W.Frag) (a : Ad) (F : Addr → Prop) (H : Hp) (v : V) : Option Row → Prop
  | some r => PlV a H r v
  | none => Ot K a F H a.P v
theorem ThV.kp {K : PySem.W.Frag} {a : Ad} {F : Addr → Prop} {H H' : Hp} (k : KpF F H H') (ki : Ki H H') {v : V} : ∀ {o : Option Row}, ThV K a F H v o → ThV K a F H' v o
  | some r, h => PlV.ki ki h
  | none, h => Ot.kp k ki h
/-- what is given as the rule -/
def RlV (K : PySem.W.Frag) (a : Ad) (F : Addr → Prop) (H : Hp) (v : V) : Bool → Prop
  | true => Iv a H a.r v
  | false => Ot K a F H a.r v
theorem RlV.kp {K : PySem.W.Frag} {a : Ad} {F : Addr → Prop} {H H' : Hp} (k : KpF F H H') (ki : Ki H H') {v : V} : ∀ {o : Bool}, RlV K a F H v o → RlV K a F H' v o
  | true, h => Iv.ki ki h
  | false, h => Ot.kp k ki h
def kS (z : Str) : Key := .inr z
/-- the dict of the places -/
def PlKv (a : Ad) (H : Hp) (kvs : List (Key × V)) (rs : List Row) : Prop := Paired (fun kv r => kv.1 = kS r.nm ∧ PlV a H r kv.2) kvs rs
theorem PlKv.ki {a : Ad} {H H' : Hp} (k : Ki H H') {kvs : List (Key × V)} {rs : List Row} (h : PlKv a H kvs rs) : PlKv a H' kvs rs := Paired.mono (fun _ _ q => ⟨q.1, q.2.ki k⟩) h
def TreeAt (a : Ad) (H : Hp) (x : Addr) (rs : List Row) : Prop := ∃ dx fs d kvs, H x = some (.ins a.T dx fs) ∧ fs.lookup ("_places" : Str) = some (.ref d) ∧ fs.lookup ("places" : Str) = none ∧ H d = some (.dK kvs) ∧ PlKv a H kvs rs
/-! ### what is due -/
def has (rs : List Row) (z : Str) : Bool := rs.any fun q => decide (q.nm = z)
def hasSv (rs : List Row) (z : Str) : Bool := rs.any fun q => decide (q.sv = z)
def findR (rs : List Row) (z : Str) : Option Row := rs.find? fun q => decide (q.nm = z)
/-- a row behind those ahead: is it misplaced? -/
def mis (ahead : List Row) (r : Row) : Bool :=
  if ahead = [] then (r.el.isSome || r.mem || r.cu.isSome)
  else if has ahead r.nm = true then true
  else match r.el with
    | none => true
    | some e => match findR ahead e with
      | none => true
      | some q => if q.mem = true then true else if q.sv = r.sv then false else r.mem || hasSv ahead r.sv
def firstBad : List Row → List Row → Option Row
  | _, [] => none
  | ahead, r :: rest => if mis ahead r = true then some r else firstBad (ahead ++ [r]) rest
def treeDue (rs : List Row) : Option (Str × List V) :=
  if rs = [] then some ("BadTree", [.non])
  else if 24 < rs.length then some ("TooMany", [.str "places", .int rs.length])
  else match firstBad [] rs with
    | some r => some ("BadTree", [.str r.nm])
    | none => none
def firstNone : Nat → List (Option Row) → Option Nat
  | _, [] => none
  | i, none :: _ => some i
  | i, some _ :: t => firstNone (i + 1) t
def allDue (rv : V) (rok : Bool) (os : List (Option Row)) : Option (Str × List V) :=
  if rok = false then some ("InvalidRule", [rv])
  else match firstNone 0 os with
    | some i => some ("InvalidPlace", [.int i])
    | none => treeDue (os.filterMap id)
def plDue (v0 v1 v2 v4 : V) : Option V :=
  if isNam v0 = false then some v0 else if isNam v1 = false then some v1
  else if v2 ≠ .non ∧ isNam v2 = false then some v2 else if v4 ≠ .non ∧ isNam v4 = false then some v4 else none

def OwnA (a : Ad) (H : Hp) (p : Addr) : Prop := (∃ dx n, H p = some (.ins a.W dx (winF n))) ∨ ∃ dx r, H p = some (.ins a.P dx (plF r))
theorem OwnA.same {a : Ad} {H H' : Hp} (s : L2.Same H H') {p : Addr} : OwnA a H p → OwnA a H' p
  | .inl ⟨dx, n, h⟩ => .inl ⟨dx, n, s _ _ h⟩
  | .inr ⟨dx, r, h⟩ => .inr ⟨dx, r, s _ _ h⟩
/-- alike, told and due: dicts and instances are one object -/
def Lq (a : Ad) (H : Hp) : Nat → V → V → Prop
  | 0, x, y => x = y ∧ Sc x
  | n + 1, x, y => (x = y ∧ Sc x) ∨ (∃ (p : Addr) (ks : List (Key × V)), x = .ref p ∧ y = .ref p ∧ H p = some (.dK ks) ∧ DkOk ks) ∨ (∃ p : Addr, x = .ref p ∧ y = .ref p ∧ OwnA a H p) ∨ ∃ (b : Bool) (p q : Addr) (xs ys : List V), x = .ref p ∧ y = .ref q ∧ H p = some (mkO b xs) ∧ H q = some (mkO b ys) ∧ xs.length = ys.length ∧ xs.length ≤ 1000000 ∧ ∀ (i : Nat) (u v : V), xs[i]? = some u → ys[i]? = some v → Lq a H n u v
theorem Lq.same {a : Ad} {H H' : Hp} (s : L2.Same H H') : ∀ {n : Nat} {x y : V}, Lq a H n x y → Lq a H' n x y
  | 0, _, _, h => h
  | n + 1, _, _, .inl h => .inl h
  | n + 1, _, _, .inr (.inl ⟨p, ks, e1, e2, h, q⟩) => .inr (.inl ⟨p, ks, e1, e2, s _ _ h, q⟩)
  | n + 1, _, _, .inr (.inr (.inl ⟨p, e1, e2, h⟩)) => .inr (.inr (.inl ⟨p, e1, e2, h.same s⟩))
  | n + 1, _, _, .inr (.inr (.inr ⟨b, p, q, xs, ys, e1, e2, h1, h2, h3, h4, h5⟩)) => .inr (.inr (.inr ⟨b, p, q, xs, ys, e1, e2, s _ _ h1, s _ _ h2, h3, h4, fun i u v c d => (h5 i u v c d).same s⟩))
theorem Lq.sc {a : Ad} {H : Hp} {x : V} (h : Sc x) : ∀ n, Lq a H n x x
  | 0 => ⟨rfl, h⟩
  | _ + 1 => .inl ⟨rfl, h⟩
theorem Lq.cases {a : Ad} {H : Hp} {m : Nat} {u v : V} (h : Lq a H m u v) : (u = v ∧ Sc u) ∨ (∃ (p : Addr) (ks : List (Key × V)), u = .ref p ∧ v = .ref p ∧ H p = some (.dK ks) ∧ DkOk ks) ∨ (∃ p : Addr, u = .ref p ∧ v = .ref p ∧ OwnA a H p) ∨ ∃ j, m = j + 1 ∧ ∃ (b : Bool) (p q : Addr) (xs ys : List V), u = .ref p ∧ v = .ref q ∧ H p = some (mkO b xs) ∧ H q = some (mkO b ys) ∧ xs.length = ys.length ∧ xs.length ≤ 1000000 ∧ ∀ (i : Nat) (u v : V), xs[i]? = some u → ys[i]? = some v → Lq a H j u v := by
  cases m with
  | zero => exact .inl h
  | succ j =>
    rcases h with h | h | h | h
    · exact .inl h
    · exact .inr (.inl h)
    · exact .inr (.inr (.inl h))
    · exact .inr (.inr (.inr ⟨j, rfl, h⟩))
theorem Ov.lq {a : Ad} {F : Addr → Prop} {H : Hp} : ∀ {n : Nat} {x : V}, Ov F H n x → Lq a H n x x
  | 0, _, h => ⟨rfl, h.sc⟩
  | _ + 1, _, .inl h => .inl ⟨rfl, h.sc⟩
  | _ + 1, _, .inr (.inl ⟨p, ks, e, _, h, q⟩) => .inr (.inl ⟨p, ks, e, e, h, q⟩)
  | _ + 1, _, .inr (.inr ⟨b, p, xs, e, _, h, l, r⟩) => .inr (.inr (.inr ⟨b, p, p, xs, xs, e, e, h, h, rfl, l, fun i u v c d => by
      rw [c] at d
      cases d
      exact (r u (List.mem_of_getElem? c)).lq⟩))
theorem Gv.lq {a : Ad} {F : Addr → Prop} {H : Hp} {v : V} : Gv a F H v → Lq a H 3 v v
  | .inl h => h.lq
  | .inr ⟨p, dx, n, e, h⟩ => .inr (.inr (.inl ⟨p, e, e, .inl ⟨dx, n, h⟩⟩))
theorem Lq.list2 {a : Ad} {H : Hp} {p q : Addr} {z : Str} {v : V} {n : Nat} (h1 : H p = some (.lst [.str z, v])) (h2 : H q = some (.lst [.str z, v])) (h : Lq a H n v v) : Lq a H (n + 1) (.ref p) (.ref q) := by
  refine .inr (.inr (.inr ⟨true, p, q, _, _, rfl, rfl, h1, h2, rfl, (by show 2 ≤ 1000000; decide), fun j u w a1 a2 => ?_⟩))
  rw [a1] at a2
  cases a2
  match j, a1 with
  | 0, a1 => cases a1; exact Lq.sc (by exact True.intro) n
  | 1, a1 => cases a1; exact h
theorem Lq.lsts {a : Ad} {H : Hp} {p q : Addr} {xs : List V} (n : Nat) (h1 : H p = some (.lst xs)) (h2 : H q = some (.lst xs)) (hl : xs.length ≤ 1000000) (h : ∀ x ∈ xs, Sc x) : Lq a H (n + 1) (.ref p) (.ref q) := by
  refine .inr (.inr (.inr ⟨true, p, q, _, _, rfl, rfl, h1, h2, rfl, hl, fun j u w a1 a2 => ?_⟩))
  rw [a1] at a2
  cases a2
  exact Lq.sc (h u (List.mem_of_getElem? a1)) n
theorem oV_sc (o : Option Str) : Sc (oV o) := by cases o <;> exact True.intro
theorem row_sc (r : Row) : ∀ x ∈ rowV r, Sc x := fun x hx => by
  unfold rowV at hx
  simp only [List.mem_cons, List.not_mem_nil, or_false] at hx
  rcases hx with rfl | rfl | rfl | rfl | rfl
  · exact True.intro
  · exact True.intro
  · exact oV_sc _
  · exact True.intro
  · exact oV_sc _
theorem Lq.row {a : Ad} {H : Hp} {p q : Addr} {r : Row} (n : Nat) (h1 : H p = some (.tup (rowV r))) (h2 : H q = some (.tup (rowV r))) : Lq a H (n + 1) (.ref p) (.ref q) := by
  refine .inr (.inr (.inr ⟨false, p, q, _, _, rfl, rfl, h1, h2, rfl, (by show 5 ≤ 1000000; decide), fun j u w a1 a2 => ?_⟩))
  rw [a1] at a2
  cases a2
  exact Lq.sc (row_sc r u (List.mem_of_getElem? a1)) n
/-- == of scalars, of a dict with itself, or by the own == -/
def rEqSO (X : Cx) (n : Nat) : R2 := fun x y H Q => rEqS X.K x y H Q ∨ LO.rEqO X n x y H Q
theorem op_eqSO {X : Cx} {n : Nat} (hu : X.A.units + 64 < cLine) (hr : Room n X.A) : OpR X (compareOp .Eq) (rEqSO X n) := by
  intro pins s σ H x y v u Q I rx ry h
  rcases h with h | h
  · exact op_eqS hu pins s σ H x y v u Q I rx ry h
  · exact LO.op_eqO hr pins s σ H x y v u Q I rx ry h

theorem sq_or {K : PySem.W.Frag} {H : Hp} {p : Addr} {bb : Bool} {xs : List V} (h : H p = some (mkO bb xs)) : SqL K H p xs ∨ SqT K H p xs := by
  cases bb with
  | true => exact .inl (SqL.of h)
  | false => exact .inr (SqT.of h)
theorem len_or {K : PySem.W.Frag} {H : Hp} {p : Addr} {bb : Bool} {xs : List V} (h : H p = some (mkO bb xs)) : LenV K (.ref p) H xs.length := by
  cases bb with
  | true => exact .inl ⟨_, SqL.of h, rfl⟩
  | false => exact .inr ⟨_, SqT.of h, rfl⟩
theorem ix_or {K : PySem.W.Frag} {H : Hp} {p : Addr} {bb : Bool} {xs : List V} {i : Nat} {z : Int} {x : V} {Q : VK} (h : H p = some (mkO bb xs)) (hz : z = (i : Int)) (e : xs[i]? = some x) (q : Q x H) : rIx K (.ref p) (.int z) H Q := by
  subst hz
  cases bb with
  | true => exact .inl ⟨_, _, _, _, rfl, rfl, SqL.of h, atI_nat e, q⟩
  | false => exact .inr (.inl ⟨_, _, _, _, rfl, rfl, SqT.of h, atI_nat e, q⟩)
theorem seq_of {H : Hp} {p : Addr} {bb : Bool} {xs : List V} (h : H p = some (mkO bb xs)) : H p = some (.lst xs) ∨ H p = some (.tup xs) := by
  cases bb with
  | true => exact .inl h
  | false => exact .inr h
theorem seq_ty {K : PySem.W.Frag} {H : Hp} {p : Addr} {bb : Bool} {xs : List V} (h : H p = some (mkO bb xs)) : ∃ t : String, TyX K H (.ref p) (.type t) ∧ PySem.W.kitAny K (.type t) [.type "list", .type "tuple"] = some true := by
  cases bb with
  | true => exact ⟨_, .base (.lst h), kLT_lst⟩
  | false => exact ⟨_, .base (.tup h), kLT_tup⟩
theorem Ov.same {F : Addr → Prop} {H H' : Hp} (s : Same H H') {n : Nat} {x : V} (h : Ov F H n x) : Ov F H' n x := h.kp (KpF.same s)
theorem KpF.trans {F : Addr → Prop} {H H1 H2 : Hp} (a : KpF F H H1) (b : KpF F H1 H2) : KpF F H H2 := fun c o n t e => b c o n t (a c o n t e)
theorem KpF.ext {F : Addr → Prop} {H H1 : Hp} (e : LamX.ExtN H H1) : KpF F H H1 := fun b o _ t h => e b o h t
theorem KpF.new {F : Addr → Prop} {H : Hp} {p : Addr} {o : HO} (h : H p = none) : KpF F H (upd H p o) := KpF.same (same_new h)
theorem bag_ext {l g : Addr} {H H1 : Hp} (e : LamX.ExtN H H1) (B : Bag l H g) : Bag l H1 g := by
  obtain ⟨ns, i, d, s, c, h1, h2, h3, r⟩ := B
  exact ⟨ns, i, d, s, c, e _ _ h1 (fun ps z => by cases z), h2, e _ _ h3 (fun ps z => by cases z), r⟩
theorem bag_same {l g : Addr} {H H1 : Hp} (e : Same H H1) (B : Bag l H g) : Bag l H1 g := ((Ok.refl B).same e).bag
theorem tabs_ok {T : List (Addr × Str)} {g l : Addr} {H H' : Hp} (r : Ok g l H H') (t : LamX.Tabs T H) : LamX.Tabs T H' := fun p hp => by
  obtain ⟨ps, h1, h2, h3⟩ := t p hp
  obtain ⟨⟨xs, hg⟩, _⟩ := r.b0.there
  refine ⟨ps, r.kp _ _ (fun z => ?_) h1, h2, fun pos cv hc => ?_⟩
  · rw [z, hg] at h1
    cases h1
  · obtain ⟨c, e1, e2⟩ := h3 pos cv hc
    refine ⟨c, e1, r.kp _ _ (fun z => ?_) e2⟩
    rw [z, hg] at e2
    have q := Option.some.inj e2
    unfold LamX.CodeO at q
    cases q
/-- the tables stand though a list is changed -/
theorem tabs_lst {T : List (Addr × Str)} {H : Hp} {q : Addr} {xs ys : List V} (hq : H q = some (.lst xs)) (t : LamX.Tabs T H) : LamX.Tabs T (upd H q (.lst ys)) := fun p hp => by
  obtain ⟨ps, h1, h2, h3⟩ := t p hp
  refine ⟨ps, by rw [upd_ne (fun z => by rw [z, hq] at h1; cases h1)]; exact h1, h2, fun pos cv hc => ?_⟩
  obtain ⟨c, e1, e2⟩ := h3 pos cv hc
  have n : c ≠ q := fun z => by
    rw [z, hq] at e2
    have q := Option.some.inj e2
    unfold LamX.CodeO at q
    cases q
  exact ⟨c, e1, by rw [upd_ne n]; exact e2⟩
/-- the addresses that may change: the bag and the list of what is kept -/
def FK (g kp : Addr) : Addr → Prop := fun b => b = g ∨ b = kp
/-- told: what the deed gives, or its error with what it tells -/
def TAsk (ce : Ce) : (XK → Hp → VK → Prop) → Hp → VK → Prop := fun tl H Q => ∀ H1, Same H H1 → ∃ G : XK,
  (∀ cls d H', G cls d H' → ∃ (nm : Str) (C dd : Addr) (ws : List V) (fs : List (Str × V)), Er ce nm C ws fs ∧ cls = .ref C ∧ d = some dd ∧ H' dd = some (.xd fs) ∧ ∀ (D T : Addr) H2, Same H' H2 → H' D = none → H' T = none → H2 D = some (.lst (.str nm :: ws)) → H2 T = some (.tup [.non, .ref D]) → Q (.ref T) H2) ∧
  ∀ (E : XK) (Qv : VK), (∀ cls d H', G cls d H' → E cls d H') → (∀ v H', (∀ T, H' T = none → Q (.ref T) (upd H' T (.tup [v, .non]))) → Qv v H') → tl E H1 Qv
theorem lam_std {Tb : List (Addr × Str)} {ce : Ce} {t : XK → TE} {σ : St} {H : Hp} {Q : VK} {F : Addr → Prop} {l g : Addr} (hT : LamX.Tabs Tb H) (B : Bag l H g) (due : Option (Str × List V)) (Made : Hp → V → Prop) (mk : ∀ H H' v, Same H H' → Made H v → Made H' v)
    (run : ∀ H1 E Qv, KpF F H H1 → Bag l H1 g → LamX.Tabs Tb H1 → (∀ er H', due = some er → KpF F H H' → Bag l H' g → LamX.Tabs Tb H' → Out ce H' E er) → (∀ v H', due = none → KpF F H H' → Bag l H' g → LamX.Tabs Tb H' → Made H' v → Qv v H') → t E σ H1 Qv)
    (h : ∀ T H3 tv fv, KpF F H H3 → Bag l H3 g → LamX.Tabs Tb H3 → H3 T = some (.tup [tv, fv]) → ((∃ (nm : Str) (ws : List V) (D : Addr), due = some (nm, ws) ∧ tv = .non ∧ fv = .ref D ∧ H3 D = some (.lst (.str nm :: ws))) ∨ (due = none ∧ fv = .non ∧ Made H3 tv)) → Q (.ref T) H3) :
    LamX.tLam Tb (TAsk ce) t σ H Q := by
  refine ⟨hT, fun H1 e1 t1 H2 s2 => ?_⟩
  have k2 : KpF F H H2 := (KpF.ext e1).trans (KpF.same s2)
  have B2 : Bag l H2 g := bag_same s2 (bag_ext e1 B)
  have t2 : LamX.Tabs Tb H2 := t1.ext s2
  refine ⟨fun cls d H' => ∃ (nm : Str) (C dd : Addr) (ws : List V) (fs : List (Str × V)), Er ce nm C ws fs ∧ cls = .ref C ∧ d = some dd ∧ H' dd = some (.xd fs) ∧ due = some (nm, ws) ∧ KpF F H H' ∧ Bag l H' g ∧ LamX.Tabs Tb H', ?_, ?_⟩
  · rintro cls d H' ⟨nm, C, dd, ws, fs, c1, c2, c3, c4, c5, c6, c7, c8⟩
    exact ⟨nm, C, dd, ws, fs, c1, c2, c3, c4, fun D T H3 s d1 d2 d3 d4 => h T H3 _ _ (c6.trans (KpF.same s)) (bag_same s c7) (c8.ext s) d4 (.inl ⟨nm, ws, D, c5, rfl, rfl, d3⟩)⟩
  · intro E Qv hE hv
    refine run H2 E Qv k2 B2 t2 (fun er H' du k' b' t' C fs r d H3 s hd he => hE _ _ _ ⟨er.1, C, d, er.2, fs, r, rfl, rfl, he, du, k'.trans (KpF.same s), bag_same s b', t'.ext s⟩) (fun v H' du k' b' t' m => hv v H' fun T hT => ?_)
    have sT := same_new (o := .tup [v, .non]) hT
    exact h T _ _ _ (k'.trans (KpF.same sT)) (bag_same sT b') (t'.ext sT) upd_same (.inr ⟨du, rfl, mk _ _ _ sT m⟩)
theorem KpF.mono {F G : Addr → Prop} {H H' : Hp} (h : ∀ b, F b → G b) (k : KpF F H H') : KpF G H H' := fun b o n => k b o fun z => n (h b z)
theorem KpF.fk {g kp : Addr} {H H' : Hp} (k : KpF (· = g) H H') : KpF (FK g kp) H H' := k.mono fun _ z => .inl z
theorem mem_ld (c : Nat) : decide (c ∈ ("abcdefghijklmnopqrstuvwxyz0123456789" : Str).cps.toList) = (chL c || chD c) := by
  have e : ("abcdefghijklmnopqrstuvwxyz0123456789" : Str).cps.toList = List.range' 97 26 ++ List.range' 48 10 := by decide +kernel
  rw [e]
  unfold chL chD
  rw [← Bool.decide_and, ← Bool.decide_and, ← Bool.decide_or]
  refine decide_eq_decide.mpr ?_
  rw [List.mem_append, List.mem_range'_1, List.mem_range'_1]
  omega
theorem chDL {c : Nat} (h : chD c = true) : chL c = false := by
  unfold chD at h
  unfold chL
  rw [Bool.and_eq_true] at h
  have h1 := of_decide_eq_true h.1
  have h2 := of_decide_eq_true h.2
  rw [decide_eq_false (show ¬ 97 ≤ c by omega)]
  rfl
theorem kv_find {a : Ad} {H : Hp} {z : Str} : ∀ {kvs : List (Key × V)} {rs : List Row}, PlKv a H kvs rs → (findR rs z = none → valV kvs (kS z) = none) ∧ (∀ q, findR rs z = some q → ∃ v, valV kvs (kS z) = some v ∧ PlV a H q v)
  | _, _, .nil => ⟨fun _ => rfl, fun q h => by cases h⟩
  | (k, v) :: kvs, r :: rs, .cons ⟨e, p⟩ t => by
    have ih := kv_find (z := z) t
    have e' : k = kS r.nm := e
    by_cases h : r.nm = z
    · subst h
      have f : findR (r :: rs) r.nm = some r := by
        unfold findR
        rw [List.find?_cons_of_pos (by exact decide_eq_true rfl)]
      refine ⟨fun q => (by rw [f] at q; cases q), fun q hq => ?_⟩
      rw [f] at hq
      cases hq
      exact ⟨v, valV_pos e', p⟩
    · have f : findR (r :: rs) z = findR rs z := by
        unfold findR
        rw [List.find?_cons_of_neg (by rw [decide_eq_false h]; decide)]
      have n : ¬ k = kS z := by
        rw [e']
        intro q
        exact h (Sum.inr.inj q)
      rw [f, valV_neg (p := (k, v)) n]
      exact ih
theorem has_find {rs : List Row} {z : Str} : has rs z = (findR rs z).isSome := by
  unfold has findR
  induction rs with
  | nil => rfl
  | cons r rs ih =>
    by_cases h : r.nm = z
    · rw [List.find?_cons_of_pos (by exact decide_eq_true h), List.any_cons, decide_eq_true h]
      rfl
    · rw [List.find?_cons_of_neg (by rw [decide_eq_false h]; decide), List.any_cons, decide_eq_false h, ih]
      rfl
theorem kv_some {a : Ad} {H : Hp} {z : Str} {kvs : List (Key × V)} {rs : List Row} (h : PlKv a H kvs rs) : (valV kvs (kS z)).isSome = has rs z := by
  rw [has_find]
  obtain ⟨h1, h2⟩ := kv_find (z := z) h
  cases q : findR rs z with
  | none => rw [h1 q]; rfl
  | some r => obtain ⟨v, e, _⟩ := h2 r q; rw [e]; rfl
theorem Paired.ix {α β : Type} {R : α → β → Prop} : ∀ {xs : List α} {ys : List β}, Paired R xs ys → ∀ {i : Nat} {x : α}, xs[i]? = some x → ∃ y, ys[i]? = some y ∧ R x y
  | _, _, .nil, i, x, h => by simp at h
  | _, _, .cons e t, 0, x, h => by cases h; exact ⟨_, rfl, e⟩
  | _, _, .cons e t, i + 1, x, h => Paired.ix t (i := i) h
theorem hasSv_take {rs : List Row} {z : Str} : hasSv rs z = (rs.map fun q => decide (q.sv = z)).any id := by
  unfold hasSv
  rw [List.any_map]
  rfl
theorem bl_dec {x y : Str} : decide (V.str x = V.str y) = decide (x = y) := decide_eq_decide.mpr ⟨fun z => V.str.inj z, fun z => by rw [z]⟩
theorem walk_vals {d : Addr} {o : Obj} {kvs : List (Key × V)} : Walk (Itd d o kvs) kvs.length (fun H => H d = some (.frz o (.dK kvs))) (fun i H x H' => H' = H ∧ ∃ k, kvs[i]? = some (k, x)) :=
  ⟨fun i H hi q => ⟨q, hi⟩, fun H q => ⟨q, Nat.le_refl _⟩, fun i H x H' hi q y => y⟩
theorem kv_vals {a : Ad} {H : Hp} : ∀ {kvs : List (Key × V)} {rs : List Row}, PlKv a H kvs rs → Paired (fun v r => PlV a H r v) (kvs.map (·.2)) rs
  | _, _, .nil => .nil
  | _, _, .cons ⟨_, p⟩ t => .cons p (kv_vals t)
theorem mis_has {ahead : List Row} {r : Row} (h : mis ahead r = false) : has ahead r.nm = false := by
  by_cases hc : ahead = []
  · rw [hc]; rfl
  · unfold mis at h
    rw [if_neg hc] at h
    cases q : has ahead r.nm with
    | false => rfl
    | true => rw [if_pos q] at h; cases h
theorem kv_none {a : Ad} {H : Hp} {z : Str} {kvs : List (Key × V)} {rs : List Row} (h : PlKv a H kvs rs) (q : has rs z = false) : valV kvs (kS z) = none := by
  have e := kv_some (z := z) h
  rw [q] at e
  cases w : valV kvs (kS z) with
  | none => rfl
  | some v => rw [w] at e; cases e
theorem th_all {K : PySem.W.Frag} {a : Ad} {F : Addr → Prop} {H : Hp} : ∀ {ps : List V} {os : List (Option Row)} {i : Nat}, Paired (ThV K a F H) ps os → firstNone i os = none → Paired (fun v r => PlV a H r v) ps (os.filterMap id)
  | _, _, _, .nil, _ => .nil
  | _ :: _, some r :: os, i, .cons p t, h => Paired.cons (show PlV a H r _ from p) (th_all (i := i + 1) t h)
  | _ :: _, none :: _, _, .cons p t, h => by cases h
theorem fb_step {ahead : List Row} {r : Row} {rest : List Row} (h : firstBad ahead (r :: rest) = none) : mis ahead r = false ∧ firstBad (ahead ++ [r]) rest = none := by
  have h' : (if mis ahead r = true then some r else firstBad (ahead ++ [r]) rest) = none := h
  cases q : mis ahead r with
  | true => rw [if_pos q] at h'; cases h'
  | false => rw [if_neg (by rw [q]; decide)] at h'; exact ⟨rfl, h'⟩
theorem mis_elder {ahead : List Row} {r : Row} {e : Str} (h : mis ahead r = false) (he : r.el = some e) : has ahead e = true := by
  unfold mis at h
  by_cases hc : ahead = []
  · rw [if_pos hc, he] at h
    cases h
  · rw [if_neg hc] at h
    cases q : has ahead r.nm with
    | true => rw [if_pos q] at h; cases h
    | false =>
      rw [if_neg (by rw [q]; decide), he] at h
      rw [has_find]
      cases w : findR ahead e with
      | none =>
        have h' : (match findR ahead e with | none => true | some q => if q.mem = true then true else if q.sv = r.sv then false else r.mem || hasSv ahead r.sv) = false := h
        rw [w] at h'
        cases h'
      | some _ => rfl
theorem has_app {xs ys : List Row} {z : Str} (h : has xs z = true) : has (xs ++ ys) z = true := by
  unfold has at h ⊢
  rw [List.any_append, h]
  rfl
theorem fb_elder : ∀ {rest ahead : List Row}, firstBad ahead rest = none → ∀ r ∈ rest, ∀ e, r.el = some e → has (ahead ++ rest) e = true
  | [], _, _, r, hr, _, _ => by cases hr
  | q :: rest, ahead, h, r, hr, e, he => by
    obtain ⟨h1, h2⟩ := fb_step h
    rcases List.mem_cons.mp hr with rfl | hr
    · exact has_app (mis_elder h1 he)
    · have := fb_elder h2 r hr e he
      rw [List.append_assoc] at this
      exact this
theorem has_mem {rs : List Row} {z : Str} (h : has rs z = true) : ∃ q ∈ rs, q.nm = z := by
  unfold has at h
  obtain ⟨q, hq, e⟩ := List.any_eq_true.mp h
  exact ⟨q, hq, of_decide_eq_true e⟩
theorem iT_due {rv : V} {os : List (Option Row)} (h : firstNone 0 os = none) : allDue rv true os = treeDue (os.filterMap id) := by
  unfold allDue
  rw [if_neg (by decide), h]
def trF (rv : V) (d c o : Addr) : List (Str × V) := putF "_tops" (.ref o) (putF "_children" (.ref c) (putF "_places" (.ref d) (putF "rule" rv [])))
theorem trF_p {rv : V} {d c o : Addr} : (trF rv d c o).lookup ("_places" : Str) = some (.ref d) := by
  unfold trF
  rw [lk_ne (by decide +kernel), lk_ne (by decide +kernel)]
  exact lk_eq
theorem trF_c {rv : V} {d c o : Addr} : (trF rv d c o).lookup ("_children" : Str) = some (.ref c) := by
  unfold trF
  rw [lk_ne (by decide +kernel)]
  exact lk_eq
theorem trF_t {rv : V} {d c o : Addr} : (trF rv d c o).lookup ("_tops" : Str) = some (.ref o) := lk_eq
theorem trF_m {rv : V} {d c o : Addr} : (trF rv d c o).lookup ("places" : Str) = none := by
  unfold trF
  rw [lk_ne (by decide +kernel), lk_ne (by decide +kernel), lk_ne (by decide +kernel), lk_ne (by decide +kernel)]
  rfl
theorem kv_re {a : Ad} {H H' : Hp} : ∀ {kvs : List (Key × V)} {rs : List Row}, PlKv a H kvs rs → Paired (fun v r => PlV a H' r v) (kvs.map (·.2)) rs → PlKv a H' kvs rs
  | _, _, .nil, _ => .nil
  | _, _, .cons ⟨e, _⟩ t, .cons p q => .cons ⟨e, p⟩ (kv_re t q)
theorem inV_str (s : Str) : ∀ l : List Str, inV (.str s) (l.map V.str) = decide (s ∈ l)
  | [] => rfl
  | x :: l => by
    have ih := inV_str s l
    unfold inV at ih ⊢
    rw [List.map_cons, List.any_cons, ih]
    show ((x == s) || decide (s ∈ l)) = _
    by_cases h : x = s
    · subst h; simp
    · have h2 : ¬ s = x := fun z => h z.symm
      simp [h, h2]
theorem strs_flat (ns : List Str) : (ns.map V.str).all flatV = true := by
  rw [List.all_map]
  exact List.all_eq_true.mpr fun q _ => rfl
theorem nd_sub {α : Type} [BEq α] [LawfulBEq α] : ∀ (xs ys : List α), xs.Nodup → (∀ x ∈ xs, x ∈ ys) → xs.length ≤ ys.length
  | [], _, _, _ => Nat.zero_le _
  | x :: xs, ys, nd, h => by
    rw [List.nodup_cons] at nd
    have hx := h x (List.mem_cons_self ..)
    have ih := nd_sub xs (ys.erase x) nd.2 fun y hy => (List.mem_erase_of_ne (fun z : y = x => nd.1 (by rw [← z]; exact hy))).mpr (h y (List.mem_cons_of_mem _ hy))
    rw [List.length_erase_of_mem hx] at ih
    have : 0 < ys.length := List.length_pos_of_mem hx
    show xs.length + 1 ≤ ys.length
    omega
def qk (k : Nat) : Str := Str.empty ++ "q" ++ iT (k : Int)
theorem qk_nd : ((List.range 60).map qk).Nodup := by decide +kernel
theorem qk_nm {k : Nat} (h : k < 60) : NmOk (qk k) := by
  have h0 : ∀ z ∈ (List.range 60).map qk, isNam (.str z) = true := by decide +kernel
  exact h0 _ (List.mem_map.mpr ⟨k, List.mem_range.mpr h, rfl⟩)
theorem qk_free {ns : List Str} (hl : ns.length ≤ 50) : ¬ ∀ j, j < 59 → qk j ∈ ns := fun h => by
  have nd : ((List.range 59).map qk).Nodup := by
    have e : (List.range 60).map qk = (List.range 59).map qk ++ [qk 59] := by
      rw [List.range_succ, List.map_append]
      rfl
    have h0 := qk_nd
    rw [e] at h0
    exact (List.nodup_append.mp h0).1
  have q := nd_sub _ ns nd fun x hx => by
    obtain ⟨j, hj, rfl⟩ := List.mem_map.mp hx
    exact h j (List.mem_range.mp hj)
  rw [List.length_map, List.length_range] at q
  omega
def Sg (y : Str) : Prop := ∃ c : Nat, y = ⟨#[c]⟩ ∧ (chL c || chD c) = true
theorem join_sg : ∀ {ys : List Str}, (∀ y ∈ ys, Sg y) → (Str.join "" ys).cps.toList.length = ys.length ∧ ∀ c ∈ (Str.join "" ys).cps.toList, (chL c || chD c) = true
  | [], _ => ⟨rfl, fun c h => by cases h⟩
  | [y], h => by
    obtain ⟨c, rfl, hc⟩ := h y (by simp)
    refine ⟨rfl, fun d hd => ?_⟩
    have hd' : d ∈ [c] := hd
    rw [List.mem_singleton.mp hd']
    exact hc
  | y :: z :: r, h => by
    obtain ⟨l1, l2⟩ := join_sg (ys := z :: r) fun t ht => h t (List.mem_cons_of_mem _ ht)
    obtain ⟨c, rfl, hc⟩ := h y (by simp)
    have e : (Str.join "" ((⟨#[c]⟩ : Str) :: z :: r)).cps.toList = c :: (Str.join "" (z :: r)).cps.toList := by
      show ((⟨#[c]⟩ : Str) ++ "" ++ Str.join "" (z :: r)).cps.toList = _
      rw [app_cps, app_cps]
      rfl
    rw [e]
    refine ⟨by rw [List.length_cons, l1]; rfl, fun d hd => ?_⟩
    rcases List.mem_cons.mp hd with rfl | hd
    · exact hc
    · exact l2 d hd
theorem nm_made {c : Nat} {ys : List Str} (hc : chL c = true) (h : ∀ y ∈ ys, Sg y) (hl : ys.length ≤ 7) : NmOk ((⟨#[c]⟩ : Str) ++ Str.join "" ys) := by
  obtain ⟨l1, l2⟩ := join_sg h
  have e : ((⟨#[c]⟩ : Str) ++ Str.join "" ys).cps.toList = c :: (Str.join "" ys).cps.toList := by rw [app_cps]; rfl
  have ln : ((⟨#[c]⟩ : Str) ++ Str.join "" ys).length = 1 + ys.length := by
    show ((⟨#[c]⟩ : Str) ++ Str.join "" ys).cps.toList.length = _
    rw [e, List.length_cons, l1]
    omega
  unfold NmOk
  rw [isNam_str, ln, e, decide_eq_true (by omega), decide_eq_true (by omega)]
  show (true && true && chL c && (c :: (Str.join "" ys).cps.toList).all fun c => chL c || chD c) = true
  rw [hc]
  show ((c :: (Str.join "" ys).cps.toList).all fun c => chL c || chD c) = true
  rw [List.all_cons, hc]
  show ((Str.join "" ys).cps.toList.all fun c => chL c || chD c) = true
  exact List.all_eq_true.mpr l2
theorem strs_of {P : Str → Prop} : ∀ {xs : List V}, (∀ x ∈ xs, ∃ y, x = .str y ∧ P y) → ∃ ys : List Str, xs = ys.map V.str ∧ ∀ y ∈ ys, P y
  | [], _ => ⟨[], rfl, fun y h => by cases h⟩
  | x :: r, h => by
    obtain ⟨y, rfl, hy⟩ := h x (by simp)
    obtain ⟨ys, e, hs⟩ := strs_of (xs := r) fun z hz => h z (List.mem_cons_of_mem _ hz)
    refine ⟨y :: ys, by rw [e]; rfl, fun z hz => ?_⟩
    rcases List.mem_cons.mp hz with rfl | hz
    · exact hy
    · exact hs z hz
/-- a comprehension over a list that stays, one test and one value an item -/
theorem lc_m {J : It} {G : Hp → Prop} {β : Type} {bs : List β} {v : β → V} (w : Walk J (bs.map v).length G (YAt (bs.map v))) {g : TG} {tt : TT} {te : TE} {vs : List Nat} {σ : St} {H1 : Hp} {D : Addr} {Qd : Hp → Prop} (hD : H1 D = none) (hl : bs.length ≤ 1000000) (hG : ∀ H, Same H1 H → G H) (keep : β → Bool) (f : β → V)
    (hs : ∀ b ∈ bs, ∀ (H : Hp) (Jy : V → Hp → Prop) (N : Hp → Prop), Same H1 H → (keep b = true → Jy (f b) H) → (keep b = false → N H) → g (v b) (wipe σ vs) H fun σ2 H2 => wipe σ2 vs = wipe σ vs ∧ tt σ2 H2 fun b H3 => if b = true then te σ2 H3 Jy else N H3)
    (hd : ∀ H', Same H1 H' → H' D = some (.lst ((bs.filter keep).map f)) → Qd H') :
    ∃ W : Nat → Nat → Hp → Prop, (∃ m, W 0 m (upd H1 D (.lst []))) ∧ ∀ i m H, W i m H →
      (J.stop i H ∧ Qd H) ∨ (J.go i H ∧ ∃ Nx : Hp → Prop, (∀ H', Nx H' → ∃ m', m' < m ∧ W (i + 1) m' H') ∧ ∀ x H', J.yld i H x H' → g x (wipe σ vs) H' fun σ2 H2 => wipe σ2 vs = wipe σ vs ∧ tt σ2 H2 fun b H3 =>
        if b = true then te σ2 H3 fun y H4 => ∃ acc, H4 D = some (.lst acc) ∧ acc.length < sizeLine ∧ Nx (upd H4 D (.lst (acc ++ [y]))) else Nx H3) := by
  refine lc_it w (fun i H => Same H1 H ∧ H D = some (.lst (((bs.take i).filter keep).map f))) ⟨same_new hD, upd_same⟩ (fun i H _ p => hG H p.1) ?_ (fun H p => hd H p.1 (by
    have e := p.2
    rw [List.length_map, List.take_length] at e
    exact e))
  rintro i x H H' hi ⟨s, e⟩ ⟨rfl, hx⟩
  rw [List.getElem?_map] at hx
  obtain ⟨b, hb, rfl⟩ := Option.map_eq_some_iff.mp hx
  have hlen : (((bs.take i).filter keep).map f).length < sizeLine := by
    rw [List.length_map]
    refine Nat.lt_of_le_of_lt (Nat.le_trans (List.length_filter_le _ _) (List.length_take_le' _ _)) (Nat.lt_of_le_of_lt hl (by decide))
  refine hs b (List.mem_of_getElem? hb) _ _ _ s (fun kx => ⟨_, e, hlen, fun c o q => by rw [upd_ne (ne_of_none q hD)]; exact s c o q, ?_⟩) (fun kx => ⟨s, ?_⟩)
  · rw [upd_same, List.take_add_one, hb, List.filter_append, List.map_append]
    show _ = some (HO.lst (_ ++ (List.filter keep [b]).map f))
    rw [List.filter_cons_of_pos kx]
    rfl
  · rw [e, List.take_add_one, hb, List.filter_append]
    show _ = some (HO.lst ((_ ++ List.filter keep [b]).map f))
    rw [List.filter_cons_of_neg (by rw [kx]; decide)]
    show _ = some (HO.lst ((_ ++ []).map f))
    rw [List.append_nil]
theorem lc_a {J : It} {G : Hp → Prop} {β : Type} {bs : List β} {v : β → V} (w : Walk J (bs.map v).length G (YAt (bs.map v))) {g : TG} {te : TE} {vs : List Nat} {σ : St} {H1 : Hp} {D : Addr} {Qd : Hp → Prop} (hD : H1 D = none) (hl : bs.length ≤ 1000000) (hG : ∀ H, Same H1 H → G H) (f : β → V)
    (hs : ∀ b ∈ bs, ∀ (H : Hp) (Jy : V → Hp → Prop), Same H1 H → Jy (f b) H → g (v b) (wipe σ vs) H fun σ2 H2 => wipe σ2 vs = wipe σ vs ∧ te σ2 H2 Jy)
    (hd : ∀ H', Same H1 H' → H' D = some (.lst (bs.map f)) → Qd H') :
    ∃ W : Nat → Nat → Hp → Prop, (∃ m, W 0 m (upd H1 D (.lst []))) ∧ ∀ i m H, W i m H →
      (J.stop i H ∧ Qd H) ∨ (J.go i H ∧ ∃ Nx : Hp → Prop, (∀ H', Nx H' → ∃ m', m' < m ∧ W (i + 1) m' H') ∧ ∀ x H', J.yld i H x H' → g x (wipe σ vs) H' fun σ2 H2 => wipe σ2 vs = wipe σ vs ∧ tYes σ2 H2 fun b H3 =>
        if b = true then te σ2 H3 fun y H4 => ∃ acc, H4 D = some (.lst acc) ∧ acc.length < sizeLine ∧ Nx (upd H4 D (.lst (acc ++ [y]))) else Nx H3) :=
  lc_m w hD hl hG (fun _ => true) f (fun b hb H Jy N s h _ => hs b hb H Jy s (h rfl)) (fun H' s e => hd H' s (by rw [e, List.filter_eq_self.mpr (fun _ _ => rfl)]))
/-- rows and their tuples -/
def TR (H : Hp) (tr : List (Addr × Row)) : Prop := ∀ p ∈ tr, H p.1 = some (.tup (rowV p.2))
def tv (p : Addr × Row) : V := .ref p.1
theorem TR.ki {H H' : Hp} {tr : List (Addr × Row)} (k : Ki H H') (h : TR H tr) : TR H' tr := fun p hp => k _ _ rfl (h p hp)
theorem find_nd : ∀ {rs : List Row} {q : Row}, (rs.map (·.nm)).Nodup → q ∈ rs → findR rs q.nm = some q
  | [], q, _, h => by cases h
  | r :: rs, q, nd, h => by
    rw [List.map_cons, List.nodup_cons] at nd
    unfold findR
    rcases List.mem_cons.mp h with rfl | h
    · rw [List.find?_cons_of_pos (by exact decide_eq_true rfl)]
    · have n : ¬ r.nm = q.nm := fun z => nd.1 (by rw [z]; exact List.mem_map.mpr ⟨q, h, rfl⟩)
      rw [List.find?_cons_of_neg (by rw [decide_eq_false n]; decide)]
      exact find_nd nd.2 h
theorem fb_snoc : ∀ {rs ahead : List Row} {r : Row}, firstBad ahead rs = none → mis (ahead ++ rs) r = false → firstBad ahead (rs ++ [r]) = none
  | [], ahead, r, _, h => by
    rw [List.append_nil] at h
    show (if mis ahead r = true then some r else none) = none
    rw [if_neg (by rw [h]; decide)]
  | q :: rs, ahead, r, h, hm => by
    obtain ⟨h1, h2⟩ := fb_step h
    show (if mis ahead q = true then some q else firstBad (ahead ++ [q]) (rs ++ [r])) = none
    rw [if_neg (by rw [h1]; decide)]
    exact fb_snoc h2 (by rw [List.append_assoc]; exact hm)
theorem has_no {rs : List Row} {z : Str} (h : z ∉ rs.map (·.nm)) : has rs z = false := by
  cases q : has rs z with
  | false => rfl
  | true => obtain ⟨r, hr, e⟩ := has_mem q; exact absurd (List.mem_map.mpr ⟨r, hr, e⟩) h
theorem mis_row {rs : List Row} {r q : Row} (hn : r.nm ∉ rs.map (·.nm)) (hq : q ∈ rs) (nd : (rs.map (·.nm)).Nodup) (he : r.el = some q.nm) (hm : q.mem = false) (h : q.sv = r.sv ∨ (r.mem = false ∧ hasSv rs r.sv = false)) : mis rs r = false := by
  have ne : ¬ rs = [] := fun z => by rw [z] at hq; cases hq
  unfold mis
  rw [if_neg ne, if_neg (by rw [has_no hn]; decide), he]
  show (match findR rs q.nm with | none => true | some w => if w.mem = true then true else if w.sv = r.sv then false else r.mem || hasSv rs r.sv) = false
  rw [find_nd nd hq]
  show (if q.mem = true then true else if q.sv = r.sv then false else r.mem || hasSv rs r.sv) = false
  rw [if_neg (by rw [hm]; decide)]
  by_cases c : q.sv = r.sv
  · rw [if_pos c]
  · rw [if_neg c]
    rcases h with h | ⟨h1, h2⟩
    · exact absurd h c
    · rw [h1, h2]; rfl
structure GRows (rs : List Row) : Prop where
  fb : firstBad [] rs = none
  nd : (rs.map (·.nm)).Nodup
  ok : ∀ r ∈ rs, r.ok
theorem GRows.nil : GRows [] := ⟨rfl, List.nodup_nil, fun r h => by cases h⟩
theorem GRows.snoc {rs : List Row} {r : Row} (g : GRows rs) (hm : mis rs r = false) (hn : r.nm ∉ rs.map (·.nm)) (ok : r.ok) : GRows (rs ++ [r]) := by
  refine ⟨fb_snoc g.fb hm, ?_, fun q hq => ?_⟩
  · rw [List.map_append, List.nodup_append]
    refine ⟨g.nd, by simp, fun x hx y hy z => ?_⟩
    have hy' : y ∈ [r.nm] := hy
    rw [List.mem_singleton] at hy'
    rw [z, hy'] at hx
    exact hn hx
  · rcases List.mem_append.mp hq with h | h
    · exact g.ok q h
    · rw [List.mem_singleton.mp h]; exact ok
theorem GRows.first {r : Row} {rs : List Row} (g : GRows (r :: rs)) : r.mem = false := by
  have h := (fb_step g.fb).1
  unfold mis at h
  rw [if_pos rfl] at h
  cases q : r.mem with
  | false => rfl
  | true => rw [q] at h; simp at h
theorem ne_isE {xs : List V} (h : (!xs.isEmpty) = true) : 0 < xs.length := by
  cases xs with
  | nil => cases h
  | cons x r => exact Nat.succ_pos _
theorem sv_mem {rs : List Row} {z : Str} (h : z ∉ rs.map (·.sv)) : hasSv rs z = false := by
  cases q : hasSv rs z with
  | false => rfl
  | true =>
    unfold hasSv at q
    obtain ⟨r, hr, e⟩ := List.any_eq_true.mp q
    exact absurd (List.mem_map.mpr ⟨r, hr, of_decide_eq_true e⟩) h
def gp5 {α : Type} (us ws : List α) : List α := match us, ws with | [x], [c, m, e, s, n] => [x, n, s, e, m, c] | _, _ => []
def gp2 {α : Type} (us ws : List α) : List α := match us, ws with | [x, n, s, e], [m, c] => [x, n, s, e, m, c] | _, _ => []
def gv5 (us ws : List V) : List V := gp5 us ws
def gv2 (us ws : List V) : List V := gp2 us ws
theorem cut_takeV (xs : List V) (j : Nat) : cutV xs none (some (j : Int)) = xs.take j := by
  have e : HT.sIx xs.length xs.length (some (j : Int)) = min j xs.length := by
    show (if (j : Int) < 0 then ((j : Int) + (xs.length : Nat)).toNat else min (j : Int).toNat xs.length) = _
    rw [if_neg (by omega)]
    rfl
  unfold cutV
  rw [e, HT.sIx_none, Nat.sub_zero, List.drop_zero]
  exact (List.take_eq_take_min).symm
theorem has_dec (rs : List Row) (z : Str) : has rs z = decide (z ∈ rs.map (·.nm)) := by
  cases q : has rs z with
  | true =>
    obtain ⟨r, hr, e⟩ := has_mem q
    rw [decide_eq_true (List.mem_map.mpr ⟨r, hr, e⟩)]
  | false =>
    rw [decide_eq_false]
    intro h
    obtain ⟨r, hr, e⟩ := List.mem_map.mp h
    unfold has at q
    rw [List.any_eq_false] at q
    exact q r hr (decide_eq_true e)
theorem hasSv_dec (rs : List Row) (z : Str) : hasSv rs z = decide (z ∈ rs.map (·.sv)) := by
  cases q : hasSv rs z with
  | true =>
    unfold hasSv at q
    obtain ⟨r, hr, e⟩ := List.any_eq_true.mp q
    rw [decide_eq_true (List.mem_map.mpr ⟨r, hr, of_decide_eq_true e⟩)]
  | false =>
    rw [decide_eq_false]
    intro h
    obtain ⟨r, hr, e⟩ := List.mem_map.mp h
    unfold hasSv at q
    rw [List.any_eq_false] at q
    exact q r hr (decide_eq_true e)
theorem mis_of_has {ahead : List Row} {r : Row} (h : has ahead r.nm = true) : mis ahead r = true := by
  have ne : ¬ ahead = [] := fun z => by rw [z] at h; cases h
  unfold mis
  rw [if_neg ne, if_pos h]
theorem filt_find {e : Str} : ∀ tr : List (Addr × Row), (∃ p l, tr.filter (fun p => decide (V.str p.2.nm = oV (some e))) = p :: l ∧ p ∈ tr ∧ findR (tr.map (·.2)) e = some p.2) ∨ (tr.filter (fun p => decide (V.str p.2.nm = oV (some e))) = [] ∧ findR (tr.map (·.2)) e = none)
  | [] => .inr ⟨rfl, rfl⟩
  | p :: tr => by
    have ih := filt_find (e := e) tr
    unfold findR at ih ⊢
    by_cases h : p.2.nm = e
    · refine .inl ⟨p, _, List.filter_cons_of_pos (decide_eq_true (by rw [h]; rfl)), List.mem_cons_self .., ?_⟩
      rw [List.map_cons, List.find?_cons_of_pos (by exact decide_eq_true h)]
    · have n : ¬ V.str p.2.nm = oV (some e) := fun z => h (V.str.inj z)
      rw [List.filter_cons_of_neg (by rw [decide_eq_false n]; decide), List.map_cons, List.find?_cons_of_neg (by rw [decide_eq_false h]; decide)]
      rcases ih with ⟨q, l, e1, e2, e3⟩ | h2
      · exact .inl ⟨q, l, e1, List.mem_cons_of_mem _ e2, e3⟩
      · exact .inr h2
theorem filt_non (tr : List (Addr × Row)) : tr.filter (fun p => decide (V.str p.2.nm = oV none)) = [] := by
  rw [List.filter_eq_nil_iff]
  intro p _ h
  cases of_decide_eq_true h
theorem mis_rest {ahead : List Row} {r : Row} (ne : ¬ ahead = []) (hn : has ahead r.nm = false) : mis ahead r = match r.el with
    | none => true
    | some e => match findR ahead e with
      | none => true
      | some q => if q.mem = true then true else if q.sv = r.sv then false else r.mem || hasSv ahead r.sv := by
  unfold mis
  rw [if_neg ne, if_neg (by rw [hn]; decide)]
theorem cut_dropV (xs : List V) (j : Nat) : cutV xs (some (j : Int)) none = xs.drop j := by
  have e : HT.sIx xs.length 0 (some (j : Int)) = min j xs.length := by
    show (if (j : Int) < 0 then ((j : Int) + (xs.length : Nat)).toNat else min (j : Int).toNat xs.length) = _
    rw [if_neg (by omega)]
    rfl
  have e2 : HT.sIx xs.length xs.length none = xs.length := rfl
  unfold cutV
  rw [e, e2]
  by_cases h : j ≤ xs.length
  · rw [Nat.min_eq_left h, List.take_of_length_le (by rw [List.length_drop]; exact Nat.le_refl _)]
  · rw [Nat.min_eq_right (by omega), Nat.sub_self, List.take_zero, List.drop_of_length_le (by omega)]
theorem map_eraseI {α β : Type} (f : α → β) : ∀ (l : List α) (i : Nat), (l.eraseIdx i).map f = (l.map f).eraseIdx i
  | [], _ => rfl
  | _ :: _, 0 => rfl
  | x :: l, i + 1 => by
    show f x :: (l.eraseIdx i).map f = f x :: (l.map f).eraseIdx i
    rw [map_eraseI f l i]
def OkR (tr : List (Addr × Row)) : Prop := ∀ p ∈ tr, p.2.ok
theorem TR.set {H : Hp} {tr : List (Addr × Row)} {T : Addr} {r : Row} {n : Nat} (h : TR H tr) (hT : H T = some (.tup (rowV r))) : TR H (tr.set n (T, r)) := fun p hp => by
  rcases List.mem_or_eq_of_mem_set hp with h' | rfl
  · exact h p h'
  · exact hT
theorem OkR.set {tr : List (Addr × Row)} {T : Addr} {r : Row} {n : Nat} (h : OkR tr) (hr : r.ok) : OkR (tr.set n (T, r)) := fun p hp => by
  rcases List.mem_or_eq_of_mem_set hp with h' | rfl
  · exact h p h'
  · exact hr
theorem w_nm {k : Nat} (h : k < 3) : NmOk (Str.empty ++ "w" ++ iT (k : Int)) := by
  have h0 : ∀ j ∈ List.range 3, isNam (.str (Str.empty ++ "w" ++ iT (j : Nat))) = true := by decide +kernel
  exact h0 k (List.mem_range.mpr h)
/-- the same, where the test may lay new objects -/
theorem lc_n {J : It} {G : Hp → Prop} {β : Type} {bs : List β} {v : β → V} (w : Walk J (bs.map v).length G (YAt (bs.map v))) {g : TG} {tt : TT} {te : TE} {vs : List Nat} {σ : St} {H1 : Hp} {D : Addr} {Qd : Hp → Prop} (hD : H1 D = none) (hl : bs.length ≤ 1000000) (hG : ∀ H, Same H1 H → G H) (keep : β → Bool) (f : β → V)
    (hs : ∀ b ∈ bs, ∀ (H : Hp) (Jy : V → Hp → Prop) (N : Hp → Prop), Same H1 H → (keep b = true → ∀ H', Same H H' → Jy (f b) H') → (keep b = false → ∀ H', Same H H' → N H') → g (v b) (wipe σ vs) H fun σ2 H2 => wipe σ2 vs = wipe σ vs ∧ tt σ2 H2 fun b H3 => if b = true then te σ2 H3 Jy else N H3)
    (hd : ∀ H', Same H1 H' → H' D = some (.lst ((bs.filter keep).map f)) → Qd H') :
    ∃ W : Nat → Nat → Hp → Prop, (∃ m, W 0 m (upd H1 D (.lst []))) ∧ ∀ i m H, W i m H →
      (J.stop i H ∧ Qd H) ∨ (J.go i H ∧ ∃ Nx : Hp → Prop, (∀ H', Nx H' → ∃ m', m' < m ∧ W (i + 1) m' H') ∧ ∀ x H', J.yld i H x H' → g x (wipe σ vs) H' fun σ2 H2 => wipe σ2 vs = wipe σ vs ∧ tt σ2 H2 fun b H3 =>
        if b = true then te σ2 H3 fun y H4 => ∃ acc, H4 D = some (.lst acc) ∧ acc.length < sizeLine ∧ Nx (upd H4 D (.lst (acc ++ [y]))) else Nx H3) := by
  refine lc_it w (fun i H => Same H1 H ∧ H D = some (.lst (((bs.take i).filter keep).map f))) ⟨same_new hD, upd_same⟩ (fun i H _ p => hG H p.1) ?_ (fun H p => hd H p.1 (by
    have e := p.2
    rw [List.length_map, List.take_length] at e
    exact e))
  rintro i x H H' hi ⟨s, e⟩ ⟨rfl, hx⟩
  rw [List.getElem?_map] at hx
  obtain ⟨b, hb, rfl⟩ := Option.map_eq_some_iff.mp hx
  have hlen : (((bs.take i).filter keep).map f).length < sizeLine := by
    rw [List.length_map]
    refine Nat.lt_of_le_of_lt (Nat.le_trans (List.length_filter_le _ _) (List.length_take_le' _ _)) (Nat.lt_of_le_of_lt hl (by decide))
  refine hs b (List.mem_of_getElem? hb) _ _ _ s (fun kx H5 s5 => ⟨_, s5 _ _ e, hlen, fun c o q => by rw [upd_ne (ne_of_none q hD)]; exact s5 _ _ (s c o q), ?_⟩) (fun kx H5 s5 => ⟨s.trans s5, ?_⟩)
  · rw [upd_same, List.take_add_one, hb, List.filter_append, List.map_append]
    show _ = some (HO.lst (_ ++ (List.filter keep [b]).map f))
    rw [List.filter_cons_of_pos kx]
    rfl
  · rw [s5 _ _ e, List.take_add_one, hb, List.filter_append]
    show _ = some (HO.lst ((_ ++ List.filter keep [b]).map f))
    rw [List.filter_cons_of_neg (by rw [kx]; decide)]
    show _ = some (HO.lst ((_ ++ []).map f))
    rw [List.append_nil]
def kpW (p : Int × V) : Bool := !isNam p.2 && (decide (p.1 < 2) || !decide (p.2 = .non))
def fiveW (v0 v1 v2 v4 : V) : List (Int × V) := [(0, v0), (1, v1), (2, v2), (4, v4)]
theorem kpW0 {i : Int} {v : V} (h : i < 2) : kpW (i, v) = !isNam v := by
  unfold kpW
  rw [decide_eq_true (show (i, v).1 < 2 from h), Bool.true_or, Bool.and_true]
theorem kpW2 {i : Int} {v : V} (h : ¬ i < 2) : kpW (i, v) = decide (v ≠ .non ∧ isNam v = false) := by
  unfold kpW
  rw [decide_eq_false (show ¬ (i, v).1 < 2 from h), Bool.false_or]
  show (!isNam v && !decide (v = .non)) = _
  by_cases c : v = .non
  · rw [decide_eq_true c, decide_eq_false (fun z => z.1 c)]
    exact Bool.and_false _
  · rw [decide_eq_false c]
    cases q : isNam v with
    | true => rw [decide_eq_false (fun z => by cases z.2)]; rfl
    | false => rw [decide_eq_true ⟨c, rfl⟩]; rfl
theorem plDue_W (v0 v1 v2 v4 : V) : plDue v0 v1 v2 v4 = (((fiveW v0 v1 v2 v4).filter kpW).map (·.2)).head? := by
  unfold plDue fiveW
  have e0 := kpW0 (i := 0) (v := v0) (by decide)
  have e1 := kpW0 (i := 1) (v := v1) (by decide)
  have e2 := kpW2 (i := 2) (v := v2) (by decide)
  have e4 := kpW2 (i := 4) (v := v4) (by decide)
  cases q0 : isNam v0 with
  | false => rw [if_pos rfl, List.filter_cons_of_pos (by rw [e0, q0]; rfl)]; rfl
  | true =>
    rw [if_neg (by decide), List.filter_cons_of_neg (by rw [e0, q0]; decide)]
    cases q1 : isNam v1 with
    | false => rw [if_pos rfl, List.filter_cons_of_pos (by rw [e1, q1]; rfl)]; rfl
    | true =>
      rw [if_neg (by decide), List.filter_cons_of_neg (by rw [e1, q1]; decide)]
      by_cases q2 : v2 ≠ .non ∧ isNam v2 = false
      · rw [if_pos q2, List.filter_cons_of_pos (by rw [e2]; exact decide_eq_true q2)]; rfl
      · rw [if_neg q2, List.filter_cons_of_neg (by rw [e2, decide_eq_false q2]; decide)]
        by_cases q4 : v4 ≠ .non ∧ isNam v4 = false
        · rw [if_pos q4, List.filter_cons_of_pos (by rw [e4]; exact decide_eq_true q4)]; rfl
        · rw [if_neg q4, List.filter_cons_of_neg (by rw [e4, decide_eq_false q4]; decide)]; rfl
theorem lq_row {a : Ad} {H : Hp} {p q : Addr} {xs : List V} (n : Nat) (h1 : H p = some (.tup xs)) (h2 : H q = some (.tup xs)) (hl : xs.length ≤ 1000000) (h : ∀ x ∈ xs, Sc x) : Lq a H (n + 1) (.ref p) (.ref q) := by
  refine .inr (.inr (.inr ⟨false, p, q, _, _, rfl, rfl, h1, h2, rfl, hl, fun j u w a1 a2 => ?_⟩))
  rw [a1] at a2
  cases a2
  exact Lq.sc (h u (List.mem_of_getElem? a1)) n
theorem Ov.up {F : Addr → Prop} {H : Hp} : ∀ {n : Nat} {x : V}, Ov F H n x → Ov F H (n + 1) x
  | 0, _, h => .inl h
  | _ + 1, _, .inl h => .inl h
  | _ + 1, _, .inr (.inl h) => .inr (.inl h)
  | _ + 1, _, .inr (.inr ⟨b, p, xs, e, n, h, l, r⟩) => .inr (.inr ⟨b, p, xs, e, n, h, l, fun u hu => (r u hu).up⟩)
theorem Gv.sz {a : Ad} {F : Addr → Prop} {H : Hp} {x : V} (h : Sz x) : Gv a F H x := .inl (Ov.sz h 3)
theorem row_of {v0 v1 v2 v4 : V} {b : Bool} {r : Row} (e0 : v0 = .str r.nm) (e1 : v1 = .str r.sv) (e2 : v2 = oV r.el) (e3 : b = r.mem) (e4 : v4 = oV r.cu) : [v0, v1, v2, .bl b, v4] = rowV r := by
  rw [e0, e1, e2, e3, e4]
  rfl
theorem walk_rangeL {lo : Int} {n : Nat} : Walk (Itr lo n) ((List.range n).map fun i : Nat => V.int (lo + (i : Nat))).length (fun _ => True) (YAt ((List.range n).map fun i : Nat => V.int (lo + (i : Nat)))) := by
  have e : ((List.range n).map fun i : Nat => V.int (lo + (i : Nat))).length = n := by rw [List.length_map, List.length_range]
  rw [e]
  exact Walk.mono (walk_range (lo := lo) (n := n)) (fun _ _ => True.intro) fun i H x H' hi _ y => ⟨y.1, by rw [List.getElem?_map, List.getElem?_range hi, y.2]; rfl⟩
/-- things and what they are -/
abbrev Thg := V × Option Row
def ThS (K : PySem.W.Frag) (a : Ad) (F : Addr → Prop) (H : Hp) (pts : List Thg) : Prop := ∀ p ∈ pts, ThV K a F H p.1 p.2
theorem ThS.kp {K : PySem.W.Frag} {a : Ad} {F : Addr → Prop} {H H' : Hp} {pts : List Thg} (k : KpF F H H') (ki : Ki H H') (h : ThS K a F H pts) : ThS K a F H' pts := fun p hp => (h p hp).kp k ki
theorem ThS.pair {K : PySem.W.Frag} {a : Ad} {F : Addr → Prop} {H : Hp} : ∀ {pts : List Thg}, ThS K a F H pts → Paired (ThV K a F H) (pts.map (·.1)) (pts.map (·.2))
  | [], _ => .nil
  | p :: pts, h => .cons (h p (List.mem_cons_self ..)) (ThS.pair fun q hq => h q (List.mem_cons_of_mem _ hq))
theorem ThS.set {K : PySem.W.Frag} {a : Ad} {F : Addr → Prop} {H : Hp} {pts : List Thg} {x : V} {n : Nat} (h : ThS K a F H pts) (hx : Ot K a F H a.P x) : ThS K a F H (pts.set n (x, none)) := fun p hp => by
  rcases List.mem_or_eq_of_mem_set hp with h' | rfl
  · exact h p h'
  · exact hx
theorem fn_some : ∀ (rs : List Row) (i : Nat), firstNone i (rs.map some) = none
  | [], _ => rfl
  | r :: rs, i => fn_some rs (i + 1)
theorem fm_some : ∀ rs : List Row, (rs.map some).filterMap id = rs
  | [] => rfl
  | r :: rs => by
    show r :: (rs.map some).filterMap id = r :: rs
    rw [fm_some rs]
/-- the first that is no place, told as the least index -/
theorem fn_least : ∀ (os : List (Option Row)) (i m : Nat), (∃ j, os[j]? = some none ∧ m = i + j) → (∀ j, os[j]? = some none → m ≤ i + j) → firstNone i os = some m
  | [], _, _, ⟨j, h, _⟩, _ => by simp at h
  | none :: os, i, m, ⟨j, h, e⟩, hl => by
    have := hl 0 rfl
    show some i = some m
    congr 1
    omega
  | some r :: os, i, m, ⟨j, h, e⟩, hl => by
    cases j with
    | zero => cases h
    | succ j =>
      exact fn_least os (i + 1) m ⟨j, h, by omega⟩ fun j' h' => by
        have := hl (j' + 1) h'
        omega
theorem TreeAt.same {a : Ad} {H H' : Hp} {x : Addr} {rs : List Row} (s : Same H H') : TreeAt a H x rs → TreeAt a H' x rs := fun ⟨dx, fs, d, kvs, h1, h2, h3, h4, h5⟩ => ⟨dx, fs, d, kvs, s _ _ h1, h2, h3, s _ _ h4, h5.ki (Ki.same s)⟩
/-- what is no rule is like itself -/
theorem Ot.lq {K : PySem.W.Frag} {mg : Str → Option Value} {a : Ad} {F : Addr → Prop} {H : Hp} (KN : Kn K mg a) {v : V} : Ot K a F H a.r v → Lq a H 3 v v
  | .inl h => h.lq
  | .inr ⟨C, e, h⟩ => by
    cases h with
    | w h => exact .inr (.inr (.inl ⟨_, rfl, rfl, .inl ⟨_, _, h⟩⟩))
    | r h => rw [KN.krr] at e; cases e
    | p h => exact .inr (.inr (.inl ⟨_, rfl, rfl, .inr ⟨_, _, h⟩⟩))
theorem due_lq {K : PySem.W.Frag} {mg : Str → Option Value} {a : Ad} {F : Addr → Prop} {H : Hp} (KN : Kn K mg a) {rv : V} {rok : Bool} {os : List (Option Row)} {nm : Str} {ws : List V} (hv : RlV K a F H rv rok) (h : allDue rv rok os = some (nm, ws)) : ws.length ≤ 2 ∧ ∀ w ∈ ws, Lq a H 3 w w := by
  have one : ∀ {x : V}, Lq a H 3 x x → [x].length ≤ 2 ∧ ∀ w ∈ [x], Lq a H 3 w w := fun hx => ⟨by show 1 ≤ 2; decide, fun w hw => by rw [List.mem_singleton.mp hw]; exact hx⟩
  unfold allDue at h
  cases rok with
  | false =>
    rw [if_pos rfl] at h
    cases h
    exact one (Ot.lq KN hv)
  | true =>
    rw [if_neg (by decide)] at h
    cases q : firstNone 0 os with
    | some i =>
      rw [q] at h
      cases h
      exact one (Lq.sc (by exact True.intro) 3)
    | none =>
      rw [q] at h
      have h' : treeDue (os.filterMap id) = some (nm, ws) := h
      unfold treeDue at h'
      split at h'
      · cases h'
        exact one (Lq.sc (by exact True.intro) 3)
      · split at h'
        · cases h'
          refine ⟨Nat.le_refl 2, fun w hw => ?_⟩
          simp only [List.mem_cons, List.not_mem_nil, or_false] at hw
          rcases hw with rfl | rfl
          all_goals exact Lq.sc (by exact True.intro) 3
        · split at h'
          · cases h'
            exact one (Lq.sc (by exact True.intro) 3)
          · cases h'
theorem Lq.gen {a : Ad} {H : Hp} {p q : Addr} {xs : List V} {n : Nat} (h1 : H p = some (.lst xs)) (h2 : H q = some (.lst xs)) (hl : xs.length ≤ 1000000) (h : ∀ x ∈ xs, Lq a H n x x) : Lq a H (n + 1) (.ref p) (.ref q) :=
  .inr (.inr (.inr ⟨true, p, q, _, _, rfl, rfl, h1, h2, rfl, hl, fun j u w a1 a2 => by
    rw [a1] at a2
    cases a2
    exact h u (List.mem_of_getElem? a1)⟩))
/-- two lists of equal rows -/
theorem Lq.rows {a : Ad} {H : Hp} {p q : Addr} {tr tr' : List (Addr × Row)} (h1 : H p = some (.lst (tr.map tv))) (h2 : H q = some (.lst (tr'.map tv))) (t1 : TR H tr) (t2 : TR H tr') (e : tr.map (·.2) = tr'.map (·.2)) (hl : tr.length ≤ 1000000) : Lq a H 2 (.ref p) (.ref q) := by
  have le : tr.length = tr'.length := by
    have := congrArg List.length e
    rw [List.length_map, List.length_map] at this
    exact this
  refine .inr (.inr (.inr ⟨true, p, q, _, _, rfl, rfl, h1, h2, by rw [List.length_map, List.length_map, le], by rw [List.length_map]; exact hl, fun j u w a1 a2 => ?_⟩))
  rw [List.getElem?_map] at a1 a2
  obtain ⟨x, hx, rfl⟩ := Option.map_eq_some_iff.mp a1
  obtain ⟨y, hy, rfl⟩ := Option.map_eq_some_iff.mp a2
  have exy : x.2 = y.2 := by
    have z := congrArg (fun l : List Row => l[j]?) e
    simp only [List.getElem?_map, hx, hy, Option.map_some] at z
    exact Option.some.inj z
  have tx := t1 x (List.mem_of_getElem? hx)
  have ty := t2 y (List.mem_of_getElem? hy)
  rw [← exy] at ty
  exact Lq.row 0 tx ty
theorem due_none {rv : V} {rok : Bool} {os : List (Option Row)} (h : allDue rv rok os = none) : rok = true ∧ firstNone 0 os = none := by
  unfold allDue at h
  cases rok with
  | false => rw [if_pos rfl] at h; cases h
  | true =>
    rw [if_neg (by decide)] at h
    refine ⟨rfl, ?_⟩
    cases q : firstNone 0 os with
    | none => rfl
    | some i => rw [q] at h; cases h
theorem due_good {rv : V} {rs : List Row} (g : GRows rs) (h0 : 0 < rs.length) (h1 : rs.length ≤ 24) : allDue rv true (rs.map some) = none := by
  rw [iT_due (fn_some rs 0), fm_some]
  unfold treeDue
  rw [if_neg (fun z => by rw [z] at h0; cases h0), if_neg (by omega), g.fb]
theorem plDue_ok {r : Row} (o : r.ok) : plDue (.str r.nm) (.str r.sv) (oV r.el) (oV r.cu) = none := by
  have opt : ∀ o : Option Str, (∀ z, o = some z → NmOk z) → ¬ (oV o ≠ .non ∧ isNam (oV o) = false) := fun o h ⟨z1, z2⟩ => by
    cases o with
    | none => exact z1 rfl
    | some z => have := h z rfl; unfold NmOk at this; rw [show isNam (oV (some z)) = true from this] at z2; cases z2
  unfold plDue
  rw [if_neg (by rw [show isNam (.str r.nm) = true from o.n]; decide), if_neg (by rw [show isNam (.str r.sv) = true from o.s]; decide), if_neg (opt _ o.e), if_neg (opt _ o.c)]
theorem oV_sz {o : Option Str} (h : ∀ z, o = some z → NmOk z) : Sz (oV o) := by
  cases o with
  | none => exact True.intro
  | some z => exact (h z rfl).sz
/-- places made of rows, one behind another -/
theorem mk_places {K : PySem.W.Frag} {a : Ad} {g l S Th : Addr} {ts : List (Addr × Row)} {H0 H1 : Hp} {σ : St} {vs : List Nat} {gt : TG} {te : TE} {Qd : Hp → Prop} (R : Ok g l H0 H1) (hTh : H1 Th = none) (eS : H1 S = some (.lst (ts.map tv))) (nS : S ≠ g) (tS : TR H1 ts) (okS : OkR ts) (hl : ts.length ≤ 30)
    (hs : ∀ t r H' (Jy : V → Hp → Prop), Bag l H' g → H' t = some (.tup (rowV r)) → r.ok → (∀ x H2, Ok g l H' H2 → PlV a H2 r (.ref x) → Jy (.ref x) H2) → gt (.ref t) (wipe σ vs) H' fun σ2 H2 => wipe σ2 vs = wipe σ vs ∧ te σ2 H2 Jy)
    (hd : ∀ (pts : List Thg) H', Ok g l H0 H' → H' Th = some (.lst (pts.map (·.1))) → pts.map (·.2) = ts.map (fun p => some p.2) → ThS K a (FK g Th) H' pts → H' S = some (.lst (ts.map tv)) → TR H' ts → Qd H') :
    ∃ W : Nat → Nat → Hp → Prop, (∃ m, W 0 m (upd H1 Th (.lst []))) ∧ ∀ i m H, W i m H →
      ((Itl K S).stop i H ∧ Qd H) ∨ ((Itl K S).go i H ∧ ∃ Nx : Hp → Prop, (∀ H', Nx H' → ∃ m', m' < m ∧ W (i + 1) m' H') ∧ ∀ x H', (Itl K S).yld i H x H' → gt x (wipe σ vs) H' fun σ2 H2 => wipe σ2 vs = wipe σ vs ∧ tYes σ2 H2 fun b H3 =>
        if b = true then te σ2 H3 fun y H4 => ∃ acc, H4 Th = some (.lst acc) ∧ acc.length < sizeLine ∧ Nx (upd H4 Th (.lst (acc ++ [y]))) else Nx H3) := by
  have nTh := (R.bag.ne hTh).1
  have hTh0 := R.free hTh
  have sT : S ≠ Th := ne_of_none eS hTh
  refine lc_it (walk_list (xs := ts.map tv)) (fun i H => Ok g l H0 H ∧ H S = some (.lst (ts.map tv)) ∧ TR H ts ∧ ∃ pts : List Thg, H Th = some (.lst (pts.map (·.1))) ∧ pts.map (·.2) = (ts.take i).map (fun p => some p.2) ∧ ThS K a (FK g Th) H pts)
    ⟨R.new hTh, by rw [upd_ne sT]; exact eS, tS.ki (Ki.new hTh), [], upd_same, rfl, fun p h => by cases h⟩ (fun i H _ p => SqL.of p.2.1) ?_ ?_
  · rintro i x H H' hi ⟨r, e, t, pts, eT, eq, th⟩ ⟨rfl, hx⟩
    rw [List.getElem?_map] at hx
    obtain ⟨b, hb, rfl⟩ := Option.map_eq_some_iff.mp hx
    have hbm := List.mem_of_getElem? hb
    refine hs b.1 b.2 _ _ r.bag (t b hbm) (okS b hbm) fun x H2 r2 pv => ?_
    have e2 := r2.at_ eT nTh
    have lp : pts.length = (ts.take i).length := by
      have := congrArg List.length eq
      rw [List.length_map, List.length_map] at this
      exact this
    have kf : KpF (FK g Th) H' (upd H2 Th (.lst (pts.map (·.1) ++ [.ref x]))) := (KpF.kp (.inl rfl) r2.kp).trans (KpF.mut' (.inr rfl))
    have ki : Ki H' (upd H2 Th (.lst (pts.map (·.1) ++ [.ref x]))) := (Ki.ok r2).trans (Ki.lst e2)
    refine ⟨_, e2, ?_, (r.trans r2).mut hTh0, by rw [upd_ne sT]; exact r2.at_ e nS, t.ki ki, pts ++ [(.ref x, some b.2)], ?_, ?_, fun p hp => ?_⟩
    · rw [List.length_map, lp]
      exact Nat.lt_of_le_of_lt (Nat.le_trans (List.length_take_le' _ _) hl) (by decide)
    · rw [upd_same, List.map_append]
      rfl
    · rw [List.map_append, eq, List.take_add_one, hb, List.map_append]
      rfl
    · rcases List.mem_append.mp hp with h | h
      · exact (th p h).kp kf ki
      · rw [List.mem_singleton.mp h]
        exact PlV.ki (Ki.lst e2) pv
  · rintro H ⟨r, e, t, pts, eT, eq, th⟩
    refine hd pts H r eT ?_ th e t
    rw [eq, List.length_map, List.take_length]
/-- the rows of places -/
theorem mk_rows {K : PySem.W.Frag} {a : Ad} {p D : Addr} {xs : List V} {rs : List Row} {H1 : Hp} {σ : St} {vs : List Nat} {gt : TG} {te : TE} {Qd : Hp → Prop} (hD : H1 D = none) (ep : H1 p = some (.lst xs)) (hp : Paired (fun v r => PlV a H1 r v) xs rs) (hl : rs.length ≤ 30)
    (hs : ∀ x dx r H' (Jy : V → Hp → Prop), H' x = some (.ins a.P dx (plF r)) → (∀ t H2, H' t = none → Same H' H2 → H2 t = some (.tup (rowV r)) → Jy (.ref t) H2) → gt (.ref x) (wipe σ vs) H' fun σ2 H2 => wipe σ2 vs = wipe σ vs ∧ te σ2 H2 Jy)
    (hd : ∀ (tr' : List (Addr × Row)) H', Same H1 H' → H' D = some (.lst (tr'.map tv)) → TR H' tr' → tr'.map (·.2) = rs → Qd H') :
    ∃ W : Nat → Nat → Hp → Prop, (∃ m, W 0 m (upd H1 D (.lst []))) ∧ ∀ i m H, W i m H →
      ((Itl K p).stop i H ∧ Qd H) ∨ ((Itl K p).go i H ∧ ∃ Nx : Hp → Prop, (∀ H', Nx H' → ∃ m', m' < m ∧ W (i + 1) m' H') ∧ ∀ x H', (Itl K p).yld i H x H' → gt x (wipe σ vs) H' fun σ2 H2 => wipe σ2 vs = wipe σ vs ∧ tYes σ2 H2 fun b H3 =>
        if b = true then te σ2 H3 fun y H4 => ∃ acc, H4 D = some (.lst acc) ∧ acc.length < sizeLine ∧ Nx (upd H4 D (.lst (acc ++ [y]))) else Nx H3) := by
  refine lc_it (walk_list (xs := xs)) (fun i H => Same H1 H ∧ ∃ tr' : List (Addr × Row), H D = some (.lst (tr'.map tv)) ∧ TR H tr' ∧ tr'.map (·.2) = rs.take i) ⟨same_new hD, [], upd_same, (fun q h => by cases h), rfl⟩ (fun i H _ q => q.1.seq (SqL.of ep)) ?_ ?_
  · rintro i x H H' hi ⟨s, tr', e, t, eq⟩ ⟨rfl, hx⟩
    obtain ⟨r, hr, y, dy, rfl, hy⟩ := Paired.ix hp hx
    refine hs y dy r _ _ (s _ _ hy) fun t' H2 ht' s2 et => ?_
    have e2 := s2 _ _ e
    have lp : tr'.length = (rs.take i).length := by
      have := congrArg List.length eq
      rw [List.length_map] at this
      exact this
    refine ⟨_, e2, ?_, (fun b o q => by rw [upd_ne (ne_of_none q hD)]; exact s2 _ _ (s b o q)), tr' ++ [(t', r)], ?_, fun q hq => ?_, ?_⟩
    · rw [List.length_map, lp]
      exact Nat.lt_of_le_of_lt (Nat.le_trans (List.length_take_le' _ _) hl) (by decide)
    · rw [upd_same, List.map_append]
      rfl
    · rcases List.mem_append.mp hq with h | h
      · exact Ki.lst e2 _ _ rfl (s2 _ _ (t q h))
      · rw [List.mem_singleton.mp h]
        exact Ki.lst e2 _ _ rfl et
    · rw [List.map_append, eq, List.take_add_one, hr]
      rfl
  · rintro H ⟨s, tr', e, t, eq⟩
    refine hd tr' H s e t ?_
    rw [eq, Paired.length hp, List.take_length]
/-- a thing beside the class of rules -/
theorem ThV.rule {K : PySem.W.Frag} {mg : Str → Option Value} {a : Ad} {F : Addr → Prop} {H : Hp} (KN : Kn K mg a) {v : V} {o : Option Row} (h : ThV K a F H v o) : ∃ t b, TyX K H v t ∧ PySem.W.kitOne K t (.ref a.r) = some b ∧ (b = false → Ot K a F H a.r v) := by
  have iv : ∀ {C : Addr}, Iv a H C v → ∃ t b, TyX K H v t ∧ PySem.W.kitOne K t (.ref a.r) = some b ∧ (b = false → Ot K a F H a.r v) := fun {C} q => by
    cases q with
    | w hh => exact ⟨_, false, ((Iv.w (a := a) hh).ty KN).2, KN.kWr, fun _ => .inr ⟨_, KN.kWr, .w hh⟩⟩
    | r hh => exact ⟨_, true, ((Iv.r (a := a) hh).ty KN).2, KN.krr, fun z => Bool.noConfusion z⟩
    | p hh => exact ⟨_, false, ((Iv.p (a := a) hh).ty KN).2, KN.kPr, fun _ => .inr ⟨_, KN.kPr, .p hh⟩⟩
  cases o with
  | some r =>
    obtain ⟨p, dx, rfl, hp⟩ := h
    exact iv (.p hp)
  | none =>
    rcases h with h | ⟨C, _, h⟩
    · obtain ⟨t, ty, _, _, _, hm⟩ := h.ty (K := K)
      exact ⟨_, false, ty, KN.tbr t hm, fun _ => .inl h⟩
    · exact iv h
def DueW (H0 H : Hp) (dv : V) : Option (Str × List V) → Prop
  | none => dv = .non
  | some (nm, ws) => ∃ D, dv = .ref D ∧ H0 D = none ∧ H D = some (.lst (.str nm :: ws))
theorem DueW.same {H0 H H' : Hp} (s : Same H H') {dv : V} : ∀ {o : Option (Str × List V)}, DueW H0 H dv o → DueW H0 H' dv o
  | none, h => h
  | some _, ⟨D, e, n, h⟩ => ⟨D, e, n, s _ _ h⟩
theorem DueW.ok {g l : Addr} {H0 H H' : Hp} (hg : H0 g ≠ none) (r : Ok g l H H') {dv : V} : ∀ {o : Option (Str × List V)}, DueW H0 H dv o → DueW H0 H' dv o
  | none, h => h
  | some _, ⟨D, e, n, h⟩ => ⟨D, e, n, r.at_ h (fun z => hg (z ▸ n))⟩
theorem DueW.mut {H0 H H' : Hp} {p : Addr} {o' : HO} {dv : V} : ∀ {o : Option (Str × List V)}, DueW H0 H dv o → (∀ D, dv = .ref D → D ≠ p) → DueW H0 (upd H p o') dv o
  | none, h, _ => h
  | some _, ⟨D, e, n, h⟩, q => ⟨D, e, n, by rw [upd_ne (q D e)]; exact h⟩
theorem kit_refT {K : PySem.W.Frag} {C : Addr} {t : String} {b : Bool} (m : PySem.W.kitMeta t = true) (h : PySem.W.subIn K (.ref C) (.type t) = some b) : PySem.W.kitOne K (.ref C) (.type t) = some b := by
  have e : ((Value.ref C : Value) == Value.type t) = false := rfl
  unfold PySem.W.kitOne
  rw [e, if_neg Bool.false_ne_true]
  show (if PySem.W.kitMeta t = true then PySem.W.subIn K (.ref C) (.type t) else none) = some b
  rw [if_pos m]
  exact h

end k12
namespace k12
open PySem L2 LC RM
abbrev spInvalidName_init (C : Addr) : Sp := LX.spErr C 1 (ivF "InvalidName")
theorem ok_InvalidName_init {P : Program} {w : World} {K : PySem.W.Frag} {mg : Str → Option Value} {base : Heap} {f : Addr} {fd : FuncData} (F0 : Fun K "__init__" "InvalidName.__init__" sInvalidName_init f fd) (T : Txt K mg) {C : Addr} (ox : OexC K C) (n1 : PySem.W.findIn K (.ref C) "value" = some none) (n2 : PySem.W.findIn K (.ref C) "code" = some none) :
    FnOk P w K mg base CX0 1 f fd PInvalidName_init (spInvalidName_init C) := by
  refine F0.ok scInvalidName_init (fun vs H Q E h => ?_) (fun cdv A outer s H vs Q E hr h => ?_)
  · obtain ⟨x, ws, rfl, hw, _⟩ := h
    show ws.length + 1 = 2
    rw [hw]
  · obtain ⟨x, ws, rfl, hw, ha, k⟩ := h
    obtain ⟨u, rfl⟩ : ∃ u, ws = [u] := by
      match ws, hw with
      | [u], _ => exact ⟨u, rfl⟩
    refine ⟨_, (pss_cons (ps_ost (pv 0) (pv 1))
        (pss_one (ps_ost (pv 0) pe_str))), ?_⟩
    refine ⟨_, rfl, _, rfl, x, C, rfl, ox, n1, .inl ⟨ha, fun d hd da => ?_⟩⟩
    refine ⟨_, rfl, x, C, rfl, ox, n2, .inr ⟨d, _, upd_same, by rw [upd_ne da]; exact upd_same, (by show 1 ≤ 900; decide), ?_⟩⟩
    refine k d _ hd (by rw [upd_ne (Ne.symm da)]; exact upd_same) upd_same (fun b o hb e => ?_)
    have nd := ne_of_none e hd
    rw [upd_ne nd, upd_ne hb, upd_ne nd]
    exact e
end k12
namespace k12
open PySem L2 LC RM
abbrev spInvalidRule_init (C : Addr) : Sp := LX.spErr C 1 (ivF "InvalidRule")
theorem ok_InvalidRule_init {P : Program} {w : World} {K : PySem.W.Frag} {mg : Str → Option Value} {base : Heap} {f : Addr} {fd : FuncData} (F0 : Fun K "__init__" "InvalidRule.__init__" sInvalidRule_init f fd) (T : Txt K mg) {C : Addr} (ox : OexC K C) (n1 : PySem.W.findIn K (.ref C) "value" = some none) (n2 : PySem.W.findIn K (.ref C) "code" = some none) :
    FnOk P w K mg base CX0 1 f fd PInvalidRule_init (spInvalidRule_init C) := by
  refine F0.ok scInvalidRule_init (fun vs H Q E h => ?_) (fun cdv A outer s H vs Q E hr h => ?_)
  · obtain ⟨x, ws, rfl, hw, _⟩ := h
    show ws.length + 1 = 2
    rw [hw]
  · obtain ⟨x, ws, rfl, hw, ha, k⟩ := h
    obtain ⟨u, rfl⟩ : ∃ u, ws = [u] := by
      match ws, hw with
      | [u], _ => exact ⟨u, rfl⟩
    refine ⟨_, (pss_cons (ps_ost (pv 0) (pv 1))
        (pss_one (ps_ost (pv 0) pe_str))), ?_⟩
    refine ⟨_, rfl, _, rfl, x, C, rfl, ox, n1, .inl ⟨ha, fun d hd da => ?_⟩⟩
    refine ⟨_, rfl, x, C, rfl, ox, n2, .inr ⟨d, _, upd_same, by rw [upd_ne da]; exact upd_same, (by show 1 ≤ 900; decide), ?_⟩⟩
    refine k d _ hd (by rw [upd_ne (Ne.symm da)]; exact upd_same) upd_same (fun b o hb e => ?_)
    have nd := ne_of_none e hd
    rw [upd_ne nd, upd_ne hb, upd_ne nd]
    exact e
end k12
namespace k12
open PySem L2 LC RM
abbrev spInvalidPlace_init (C : Addr) : Sp := LX.spErr C 1 (atF "InvalidPlace")
theorem ok_InvalidPlace_init {P : Program} {w : World} {K : PySem.W.Frag} {mg : Str → Option Value} {base : Heap} {f : Addr} {fd : FuncData} (F0 : Fun K "__init__" "InvalidPlace.__init__" sInvalidPlace_init f fd) (T : Txt K mg) {C : Addr} (ox : OexC K C) (n1 : PySem.W.findIn K (.ref C) "at" = some none) (n2 : PySem.W.findIn K (.ref C) "code" = some none) :
    FnOk P w K mg base CX0 1 f fd PInvalidPlace_init (spInvalidPlace_init C) := by
  refine F0.ok scInvalidPlace_init (fun vs H Q E h => ?_) (fun cdv A outer s H vs Q E hr h => ?_)
  · obtain ⟨x, ws, rfl, hw, _⟩ := h
    show ws.length + 1 = 2
    rw [hw]
  · obtain ⟨x, ws, rfl, hw, ha, k⟩ := h
    obtain ⟨u, rfl⟩ : ∃ u, ws = [u] := by
      match ws, hw with
      | [u], _ => exact ⟨u, rfl⟩
    refine ⟨_, (pss_cons (ps_ost (pv 0) (pv 1))
        (pss_one (ps_ost (pv 0) pe_str))), ?_⟩
    refine ⟨_, rfl, _, rfl, x, C, rfl, ox, n1, .inl ⟨ha, fun d hd da => ?_⟩⟩
    refine ⟨_, rfl, x, C, rfl, ox, n2, .inr ⟨d, _, upd_same, by rw [upd_ne da]; exact upd_same, (by show 1 ≤ 900; decide), ?_⟩⟩
    refine k d _ hd (by rw [upd_ne (Ne.symm da)]; exact upd_same) upd_same (fun b o hb e => ?_)
    have nd := ne_of_none e hd
    rw [upd_ne nd, upd_ne hb, upd_ne nd]
    exact e
end k12
namespace k12
open PySem L2 LC RM
abbrev spBadTree_init (C : Addr) : Sp := LX.spErr C 1 (plcF "BadTree")
theorem ok_BadTree_init {P : Program} {w : World} {K : PySem.W.Frag} {mg : Str → Option Value} {base : Heap} {f : Addr} {fd : FuncData} (F0 : Fun K "__init__" "BadTree.__init__" sBadTree_init f fd) (T : Txt K mg) {C : Addr} (ox : OexC K C) (n1 : PySem.W.findIn K (.ref C) "place" = some none) (n2 : PySem.W.findIn K (.ref C) "code" = some none) :
    FnOk P w K mg base CX0 1 f fd PBadTree_init (spBadTree_init C) := by
  refine F0.ok scBadTree_init (fun vs H Q E h => ?_) (fun cdv A outer s H vs Q E hr h => ?_)
  · obtain ⟨x, ws, rfl, hw, _⟩ := h
    show ws.length + 1 = 2
    rw [hw]
  · obtain ⟨x, ws, rfl, hw, ha, k⟩ := h
    obtain ⟨u, rfl⟩ : ∃ u, ws = [u] := by
      match ws, hw with
      | [u], _ => exact ⟨u, rfl⟩
    refine ⟨_, (pss_cons (ps_ost (pv 0) (pv 1))
        (pss_one (ps_ost (pv 0) pe_str))), ?_⟩
    refine ⟨_, rfl, _, rfl, x, C, rfl, ox, n1, .inl ⟨ha, fun d hd da => ?_⟩⟩
    refine ⟨_, rfl, x, C, rfl, ox, n2, .inr ⟨d, _, upd_same, by rw [upd_ne da]; exact upd_same, (by show 1 ≤ 900; decide), ?_⟩⟩
    refine k d _ hd (by rw [upd_ne (Ne.symm da)]; exact upd_same) upd_same (fun b o hb e => ?_)
    have nd := ne_of_none e hd
    rw [upd_ne nd, upd_ne hb, upd_ne nd]
    exact e
end k12
namespace k12
open PySem L2 LC RM
abbrev spTooMany_init (C : Addr) : Sp := LX.spErr C 2 tmF
theorem ok_TooMany_init {P : Program} {w : World} {K : PySem.W.Frag} {mg : Str → Option Value} {base : Heap} {f : Addr} {fd : FuncData} (F0 : Fun K "__init__" "TooMany.__init__" sTooMany_init f fd) (T : Txt K mg) {C : Addr} (ox : OexC K C) (n1 : PySem.W.findIn K (.ref C) "what" = some none) (n2 : PySem.W.findIn K (.ref C) "count" = some none) (n3 : PySem.W.findIn K (.ref C) "code" = some none) :
    FnOk P w K mg base CX0 1 f fd PTooMany_init (spTooMany_init C) := by
  refine F0.ok scTooMany_init (fun vs H Q E h => ?_) (fun cdv A outer s H vs Q E hr h => ?_)
  · obtain ⟨x, ws, rfl, hw, _⟩ := h
    show ws.length + 1 = 3
    rw [hw]
  · obtain ⟨x, ws, rfl, hw, ha, k⟩ := h
    obtain ⟨u, c, rfl⟩ : ∃ u c, ws = [u, c] := by
      match ws, hw with
      | [u, c], _ => exact ⟨u, c, rfl⟩
    refine ⟨_, (pss_cons (ps_ost (pv 0) (pv 1))
        (pss_cons (ps_ost (pv 0) (pv 2))
        (pss_one (ps_ost (pv 0) pe_str)))), ?_⟩
    refine ⟨_, rfl, _, rfl, x, C, rfl, ox, n1, .inl ⟨ha, fun d hd da => ?_⟩⟩
    refine ⟨_, rfl, _, rfl, x, C, rfl, ox, n2, .inr ⟨d, _, upd_same, by rw [upd_ne da]; exact upd_same, (by show 1 ≤ 900; decide), ?_⟩⟩
    refine ⟨_, rfl, x, C, rfl, ox, n3, .inr ⟨d, _, by rw [upd_ne (Ne.symm da)]; exact upd_same, upd_same, (by show 2 ≤ 900; decide), ?_⟩⟩
    refine k d _ hd (by rw [upd_ne (Ne.symm da), upd_ne (Ne.symm da)]; exact upd_same) upd_same (fun b o hb e => ?_)
    have nd := ne_of_none e hd
    rw [upd_ne nd, upd_ne nd, upd_ne hb, upd_ne nd]
    exact e
end k12
namespace k12
open PySem L2 LC RM
def spcheck_count (ce : Ce) : Sp := fun vs H Q E => ∃ (z : Str) (n m : Int), vs = [.str z, .int n, .int m] ∧ ((n ≤ m ∧ Q .non H) ∨ (m < n ∧ Out ce H E ("TooMany", [.str z, .int n])))
theorem ok_check_count {P : Program} {w : World} {K : PySem.W.Frag} {mg : Str → Option Value} {base : Heap} {f : Addr} {fd : FuncData} (D : Def K mg "check_count" scheck_count Pcheck_count f fd) (T : Txt K mg) {ce : Ce} {fdTooMany : FuncData} {fTooMany : Addr} (RTooMany : RTM P w K mg base ce.tm fTooMany fdTooMany) :
    FnOk P w K mg base (L2.CX P w) 3 f fd Pcheck_count (spcheck_count ce) := by
  refine D.F.okX sccheck_count (fun vs H Q E h => ?_) (fun cdv A outer s H vs Q E hr h => ?_)
  · obtain ⟨z, n, m, rfl, h⟩ := h
    rfl
  · obtain ⟨z, n, m, rfl, h⟩ := h
    have hrE : Room 2 _ := hr
    refine ⟨_, (pss_one (ps_if (pt_cmpR op_gt (pv 1) (pv 2) (nomark _)) (pss_one (ps_raise rfl (takes_of rfl rfl rfl rfl) (pmk_oex RTooMany.er.ox RTooMany.er.iC RTooMany.er.tI RTooMany.G hrE RTooMany.b .nil pass0 rfl RTooMany.er.gC (pa_cons (pv 0) (pa_cons (pv 1) pa_nil))))) pss_nil)), ?_⟩
    refine ⟨_, rfl, _, rfl, _, _, rfl, rfl, _, rfl, ?_⟩
    rcases h with ⟨hc, k⟩ | ⟨hc, k⟩
    · exact ite_d (fun h => absurd h (by omega)) (fun _ => k)
    · exact ite_d (fun _ => ⟨_, rfl, _, rfl, (by show 2 ≤ 1000; decide), LX.err_out (n := 2) (ws := [_, _]) rfl k.tm⟩) (fun h => absurd hc h)
end k12
namespace k12
open PySem L2 LC RM
def isWh : V → Bool
  | .int _ => true
  | _ => false
def spis_whole : Sp := fun vs H Q _ => ∃ (F : Addr → Prop) (n : Nat) (v : V), vs = [v] ∧ Ov F H n v ∧ Q (.bl (isWh v)) H
theorem ok_is_whole {P : Program} {w : World} {K : PySem.W.Frag} {mg : Str → Option Value} {base : Heap} {f : Addr} {fd : FuncData} (D : Def K mg "is_whole" sis_whole Pis_whole f fd) (T : Txt K mg) :
    FnOk P w K mg base CX0 1 f fd Pis_whole (spis_whole) := by
  refine D.F.ok scis_whole (fun vs H Q E h => ?_) (fun cdv A outer s H vs Q E hr h => ?_)
  · obtain ⟨F, n, v, rfl, o, k⟩ := h
    rfl
  · obtain ⟨F, n, v, rfl, o, k⟩ := h
    refine ⟨_, (pss_one (ps_ret (pe_and (pe_callB call_isi (by rfl) T.n_isinstance (by decide +kernel) (pa_cons (pv 0) (pa_cons (pe_ty "int" (by rfl) T.n_int (by decide +kernel)) pa_nil))) (pe_one (pe_not (pe_callB call_isi (by rfl) T.n_isinstance (by decide +kernel) (pa_cons (pv 0) (pa_cons (pe_ty "bool" (by rfl) T.n_bool (by decide +kernel)) pa_nil)))))))), ?_⟩
    obtain ⟨t, ty, ki, kb, _, _⟩ := o.ty (K := K)
    refine ⟨_, rfl, _, _, _, _, _, rfl, .ty _, ty, kit_ty ki, _, rfl, ?_⟩
    cases v with
    | int i => exact iteT ⟨_, rfl, _, _, _, _, _, rfl, .ty _, ty, kit_ty kb, _, rfl, k⟩
    | bl b => exact iteT ⟨_, rfl, _, _, _, _, _, rfl, .ty _, ty, kit_ty kb, _, rfl, k⟩
    | _ => exact iteF k
end k12
namespace k12
open PySem L2 LC RM
def spis_number : Sp := fun vs H Q _ => ∃ (F : Addr → Prop) (n : Nat) (v : V) (lo hi : Int), vs = [v, .int lo, .int hi] ∧ Ov F H n v ∧ Q (.bl (isNum v lo hi)) H
theorem num_in {v lo hi : Int} {H : Hp} {Q : VK} {E : XK} (h1 : lo ≤ v) (h2 : v ≤ hi) (q : Q (.bl true) H) : spis_number [.int v, .int lo, .int hi] H Q E := by
  refine ⟨fun _ => False, 0, _, _, _, rfl, True.intro, ?_⟩
  show Q (.bl (decide (lo ≤ v) && decide (v ≤ hi))) H
  rw [decide_eq_true h1, decide_eq_true h2]
  exact q
theorem ok_is_number {P : Program} {w : World} {K : PySem.W.Frag} {mg : Str → Option Value} {base : Heap} {f : Addr} {fd : FuncData} (D : Def K mg "is_number" sis_number Pis_number f fd) (T : Txt K mg) {fis_whole : Addr} {fdis_whole : FuncData} (Dis_whole : Def K mg "is_whole" sis_whole Pis_whole fis_whole fdis_whole) (Gis_whole : FnOk P w K mg base CX0 1 fis_whole fdis_whole Pis_whole (spis_whole)) :
    FnOk P w K mg base CX0 2 f fd Pis_number (spis_number) := by
  refine D.F.ok scis_number (fun vs H Q E h => ?_) (fun cdv A outer s H vs Q E hr h => ?_)
  · obtain ⟨F, n, v, lo, hi, rfl, o, k⟩ := h
    rfl
  · obtain ⟨F, n, v, lo, hi, rfl, o, k⟩ := h
    have hris_whole : Room 1 _ := hr.mono (by decide)
    refine ⟨_, (pss_one (ps_ret (pe_and (pe_call Gis_whole hris_whole rfl Dis_whole.g Dis_whole.F.kp Dis_whole.b .nil pass0 (pa_cons (pv 0) pa_nil)) (pe_one (pe_chain op_le op_le (pv 1) (pv 0) (pv 2)))))), ?_⟩
    refine ⟨_, rfl, F, n, v, rfl, o, _, rfl, ?_⟩
    cases v with
    | int i =>
      refine iteT ⟨_, rfl, _, rfl, _, _, rfl, rfl, _, rfl, ?_⟩
      have e : isNum (.int i) lo hi = (decide (lo ≤ i) && decide (i ≤ hi)) := rfl
      refine ite_d (fun h1 => ?_) (fun h1 => ?_)
      · refine ⟨_, rfl, _, _, rfl, rfl, ?_⟩
        rw [e, decide_eq_true h1, Bool.true_and] at k
        exact k
      · rw [e, decide_eq_false h1, Bool.false_and] at k
        exact k
    | bl b => exact iteF k
    | _ => exact iteF k
end k12
namespace k12
open PySem L2 LC RM
def spis_name (a : Ad) : Sp := fun vs H Q _ => ∃ (F : Addr → Prop) (v : V), vs = [v] ∧ Gv a F H v ∧ ∀ H', Same H H' → Q (.bl (isNam v)) H'
theorem ok_is_name {P : Program} {w : World} {K : PySem.W.Frag} {mg : Str → Option Value} {base : Heap} {f : Addr} {fd : FuncData} (D : Def K mg "is_name" sis_name Pis_name f fd) (T : Txt K mg) {a : Ad} (KN : Kn K mg a) :
    FnOk P w K mg base CX0 1 f fd Pis_name (spis_name a) := by
  refine D.F.ok scis_name (fun vs H Q E h => ?_) (fun cdv A outer s H vs Q E hr h => ?_)
  · obtain ⟨F, v, rfl, o, k⟩ := h
    rfl
  · obtain ⟨F, v, rfl, o, k⟩ := h
    obtain ⟨tc_DIGITS, hc_DIGITS⟩ := T.c_DIGITS
    obtain ⟨tc_LETTERS, hc_LETTERS⟩ := T.c_LETTERS
    refine ⟨_, (pss_cons (ps_if (PW.pt (pw_or (pt_not (pt_val (pe_callB call_isi (by rfl) T.n_isinstance (by decide +kernel) (pa_cons (pv 0) (pa_cons (pe_ty "str" (by rfl) T.n_str (by decide +kernel)) pa_nil))))) (pw_or1 (pt_not (pt_chain op_le op_le pe_int (pe_callB call_len_str (by rfl) T.n_len PySem.boot_len (pa_cons (pv 0) pa_nil)) pe_int))))) (pss_one (ps_ret pe_bl)) pss_nil)
        (pss_one (ps_ret (pe_and (pe_cmpR op_in_sign (pe_ix ix_str (pv 0) pe_int (fun _ _ => rfl)) (pe_gstr rfl hc_LETTERS) (by rfl)) (pe_one (pe_callB (cr_all rfl) (by rfl) T.n_all (by decide +kernel) (pa_cons (pe_lc (own := [("sign", 1)]) (g := gName 1) (tt := tYes) rfl scis_name.nd (pi_str (pv 0)) (blkOk_by (own := [("sign", 1)]) (N := Nmis_name) (sc := defScope sis_name) (by decide +kernel)) (fun _ _ _ _ _ => pg_name (i := 1) scis_name.nd rfl (Or.inl rfl)) (fun _ _ _ _ _ => pts_nil) (fun _ _ _ _ _ => (pe_or (pe_cmpR op_in_sign (pv 1) (pe_gstr rfl hc_LETTERS) (by rfl)) (pe_one (pe_cmpR op_in_sign (pv 1) (pe_gstr rfl hc_DIGITS) (by rfl)))))) pa_nil))))))), ?_⟩
    obtain ⟨t, ty, ks⟩ := o.ty KN
    refine ⟨_, rfl, _, _, _, _, _, rfl, .ty _, ty, ks, _, rfl, ?_⟩
    cases v with
    | str z =>
      have hz := o.str
      refine iteF ?_
      refine ⟨_, rfl, _, rfl, sz_str hz, _, _, rfl, rfl, _, rfl, ?_⟩
      refine ite_d (fun h1 => ?_) (fun h1 => ?_)
      · refine ⟨_, _, rfl, rfl, _, rfl, ?_⟩
        refine ite_nd (fun h8 => ?_) (fun h8 => ?_)
        · have q := k H (Same.refl H)
          rw [isNam_str, decide_eq_false (show ¬ z.length ≤ 8 by omega), Bool.and_false, Bool.false_and, Bool.false_and] at q
          exact q
        · have h1' : 1 ≤ z.length := by omega
          obtain ⟨c0, hc0, e0⟩ := len1 h1'
          have e : isNam (.str z) = (chL c0 && z.cps.toList.all (fun c => chL c || chD c)) := by
            rw [isNam_str, decide_eq_true h1', decide_eq_true (show z.length ≤ 8 by omega), e0]
            rfl
          refine ⟨_, rfl, _, _, c0, rfl, rfl, sz_str hz, atI_nat (j := 0) hc0, _, _, rfl, rfl, _, rfl, ?_⟩
          refine ite_is (mem_low c0) (fun eL => ?_) (fun eL => ?_)
          · refine ⟨_, rfl, _, rfl, fun D hD => lc_text (fun c => .bl (chL c || chD c)) hD hz (fun _ => rfl) (fun c H Q hc q => ?_) ?_⟩
            · refine ⟨_, rfl, _, _, rfl, rfl, _, rfl, ?_⟩
              refine ite_is (mem_low c) (fun e1 => ?_) (fun e1 => ?_)
              · rw [e1, Bool.true_or] at q
                exact q
              · refine ⟨_, rfl, _, _, rfl, rfl, ?_⟩
                rw [e1, Bool.false_or] at q
                rw [mem_dig]
                exact q
            · refine ⟨D, z.cps.toList.map fun c => chL c || chD c, rfl, by rw [← bls_map]; exact SqL.of upd_same, ?_⟩
              rw [all_id]
              have q := k _ (same_new (o := .lst (z.cps.toList.map fun c => V.bl (chL c || chD c))) hD)
              rw [e, eL, Bool.true_and] at q
              exact q
          · have q := k H (Same.refl H)
            rw [e, eL, Bool.false_and] at q
            exact q
      · have q := k H (Same.refl H)
        rw [isNam_str, decide_eq_false (show ¬ 1 ≤ z.length by omega), Bool.false_and, Bool.false_and, Bool.false_and] at q
        refine ⟨_, rfl, ite_nb (fun _ => q) fun z => Bool.noConfusion z⟩
    | _ => exact iteT (k H (Same.refl H))
end k12
namespace k12
open PySem L2 LC RM
def spRest_init (K : PySem.W.Frag) (a : Ad) : Sp := fun vs H Q _ => ∃ (x C dx : Addr) (fs : List (Str × V)) (t : Str) (f p b : Int), vs = [.ref x, .str t, .int f, .int p, .int b] ∧ H x = some (.ins C dx fs) ∧ RC K a C ∧ fs.length ≤ 10 ∧
  ∀ H', H' x = some (.ins C dx (putF "_bend" (.int b) (putF "_period" (.int p) (putF "_forms" (.int f) (putF "_text" (.str t) fs))))) → (∀ y, y ≠ x → H' y = H y) → Q .non H'
theorem ok_Rest_init {P : Program} {w : World} {K : PySem.W.Frag} {mg : Str → Option Value} {base : Heap} {f : Addr} {fd : FuncData} (F0 : Fun K "__init__" "Rest.__init__" sRest_init f fd) (T : Txt K mg) {a : Ad} (KN : Kn K mg a) :
    FnOk P w K mg base CX0 1 f fd PRest_init (spRest_init K a) := by
  refine F0.ok scRest_init (fun vs H Q E h => ?_) (fun cdv A outer s H vs Q E hr h => ?_)
  · obtain ⟨x, C, dx, fs, t, f, p, b, rfl, hx, rc, hl, k⟩ := h
    rfl
  · obtain ⟨x, C, dx, fs, t, f, p, b, rfl, hx, rc, hl, k⟩ := h
    refine ⟨_, (pss_cons (ps_fld (pv 0) (pv 1) rfl)
        (pss_cons (ps_fld (pv 0) (pv 2) rfl)
        (pss_cons (ps_fld (pv 0) (pv 3) rfl)
        (pss_one (ps_fld (pv 0) (pv 4) rfl))))), ?_⟩
    have l1 := length_putF "_text" (.str t) fs
    have l2 := length_putF "_forms" (.int f) (putF "_text" (.str t) fs)
    have l3 := length_putF "_period" (.int p) (putF "_forms" (.int f) (putF "_text" (.str t) fs))
    refine ⟨_, rfl, _, rfl, x, C, dx, _, rfl, hx, rc.cl, rc.nT, by omega, ?_⟩
    refine ⟨_, rfl, _, rfl, x, C, dx, _, rfl, upd_same, rc.cl, rc.nF, by omega, ?_⟩
    refine ⟨_, rfl, _, rfl, x, C, dx, _, rfl, upd_same, rc.cl, rc.nP, by omega, ?_⟩
    refine ⟨_, rfl, _, rfl, x, C, dx, _, rfl, upd_same, rc.cl, rc.nB, by omega, ?_⟩
    exact k _ upd_same fun y n => by rw [upd_ne n, upd_ne n, upd_ne n, upd_ne n]
end k12
namespace k12
open PySem L2 LC RM
def spRest_eq (a : Ad) : Sp := fun vs H Q _ => ∃ (x dx : Addr) (w : Int), vs = [.ref x, .ref x] ∧ H x = some (.ins a.W dx (winF w)) ∧ Q (.bl true) H
theorem ok_Rest_eq {P : Program} {w : World} {K : PySem.W.Frag} {mg : Str → Option Value} {base : Heap} {f : Addr} {fd : FuncData} (F0 : Fun K "__eq__" "Rest.__eq__" sRest_eq f fd) (T : Txt K mg) {a : Ad} (KN : Kn K mg a) :
    FnOk P w K mg base CX0 1 f fd PRest_eq (spRest_eq a) := by
  refine F0.ok scRest_eq (fun vs H Q E h => ?_) (fun cdv A outer s H vs Q E hr h => ?_)
  · obtain ⟨x, dx, w, rfl, hx, k⟩ := h
    rfl
  · obtain ⟨x, dx, w, rfl, hx, k⟩ := h
    refine ⟨_, (pss_one (ps_ret (pe_and (pe_callB (show CallR _ (.builtin "isinstance") (rIsi K) from call_isi) (by rfl) T.n_isinstance (by decide +kernel) (pa_cons (pv 1) (pa_cons (pe_glob rfl KN.gR (show RelV (.ref a.R) _ from rfl)) pa_nil))) (pe_one (pe_cmpR op_eq (pe_fld (pv 0) rfl) (pe_fld (pv 1) rfl) (nomark _)))))), ?_⟩
    refine ⟨_, rfl, _, _, _, _, _, rfl, .own _, ((Iv.w (a := a) hx).ty KN).2, KN.kWR, _, rfl, iteT ?_⟩
    refine ⟨_, rfl, x, _, dx, _, _, rfl, hx, KN.w.cl, KN.w.nT, winF_t, _, rfl, x, _, dx, _, _, rfl, hx, KN.w.cl, KN.w.nT, winF_t, rfl, ?_⟩
    rw [decide_eq_true rfl]
    exact k
end k12
namespace k12
open PySem L2 LC RM
def spWindow_init (K : PySem.W.Frag) (a : Ad) : Sp := fun vs H Q _ => ∃ (x dx : Addr) (w : Int) (Hb : Hp), vs = [.ref x, .int w] ∧ H x = some (.ins a.W dx []) ∧ Hb x = none ∧ Same Hb H ∧ 1 ≤ w ∧ w ≤ 1000 ∧ ∀ H', Same Hb H' → H' x = some (.ins a.W dx (winF w)) → Q .non H'
theorem ok_Window_init {P : Program} {w : World} {K : PySem.W.Frag} {mg : Str → Option Value} {base : Heap} {f cc c : Addr} (T : Txt K mg) {a : Ad} (KN : Kn K mg a) (RI : FnR P w K mg base CX0 1 a.fRi (spRest_init K a)) {fis_number : Addr} {fdis_number : FuncData} (Dis_number : Def K mg "is_number" sis_number Pis_number fis_number fdis_number) (Gis_number : FnOk P w K mg base CX0 2 fis_number fdis_number Pis_number (spis_number)) {doc pm ct oc : Value} {od : Option Addr} {osl : Array (Option Value)} (U : LS.SupF P K (FWindow_init cc c) f a.W a.fRi "__init__") (lf : K.lookup f = some ⟨oc, od, .func ((FWindow_init cc c).fd doc pm ct), osl⟩) :
    FnOk P w K mg base CX0 3 f ((FWindow_init cc c).fd doc pm ct) PWindow_init (spWindow_init K a) := by
  refine LS.fnS_of scWindow_init U lf (fun vs H Q E h => ?_) (fun A outer s H vs Q E hr h => ?_)
  · obtain ⟨x, dx, w, Hb, rfl, hx, hb, sb, w0, w1, k⟩ := h
    rfl
  · obtain ⟨x, dx, w, Hb, rfl, hx, hb, sb, w0, w1, k⟩ := h
    have hris_number : Room 2 _ := hr.mono (by decide)
    obtain ⟨tc_MOST_SIZE, hc_MOST_SIZE⟩ := T.c_MOST_SIZE
    have hrS : Room 1 _ := hr.mono (by decide)
    refine ⟨_, (LS.pssa_cons (LS.psa (ps_if (pt_not (pt_val (pe_call Gis_number hris_number rfl Dis_number.g Dis_number.F.kp Dis_number.b .nil pass0 (pa_cons (pv 1) (pa_cons pe_int (pa_cons (pe_gint rfl hc_MOST_SIZE) pa_nil)))))) (pss_one LC.ps_never) pss_nil))
        (LS.pssa_cons (LS.ps_sup U ⟨rfl, rfl, rfl, rfl⟩ T.n_super RI hrS (pa_cons (pe_joined (.cons pe_str (.cons (pe_fmt (pv 1)) .nil))) (pa_cons pe_int (pa_cons pe_int (pa_cons pe_int pa_nil)))) ⟨_, rfl, rfl⟩)
        (LS.pssa (pss_one (ps_fld (pv 0) (pv 1) rfl))))), ?_⟩
    have e1 : ("window " : Str).length = 7 := by decide +kernel
    have e0 : Str.empty.length = 0 := rfl
    have sz : sizeLine = 16777216 := rfl
    have il := iT_len (i := w) (by omega) (by omega)
    refine ⟨_, rfl, fun _ => False, 0, _, _, _, rfl, True.intro, _, rfl, ite_nb (fun h => absurd (h.symm.trans (num_true w0 w1)) Bool.false_ne_true) (fun _ => ?_)⟩
    refine ⟨x, dx, [], rfl, hx, fun q hq => ?_⟩
    have nx : x ≠ q := ne_of_none hx hq
    refine ⟨_, rfl, by rw [Str.length_append]; omega, _, rfl, .inr ⟨_, rfl, log_small (by omega) (by omega), _, rfl, by rw [Str.length_append, Str.length_append]; show _ + (iT w).length ≤ _; omega, ?_⟩⟩
    refine ⟨upd_same, x, _, dx, [], _, 1, 1, 0, rfl, by rw [upd_ne nx]; exact hx, KN.w, Nat.zero_le _, fun H1 h1 h2 => ?_⟩
    refine ⟨_, rfl, _, rfl, x, a.W, dx, _, rfl, h1, KN.w.cl, KN.nw, (by show 4 < 1000; decide), ?_⟩
    exact k _ (same_upd hb (same_mk hb sb hq h2)) upd_same
end k12
namespace k12
open PySem L2 LC RM
def spRule_init (a : Ad) : Sp := fun vs H Q _ => ∃ (x dx u du : Addr) (z : Str) (c w : Int) (Hb : Hp), vs = [.ref x, .str z, .int c, .ref u] ∧ NmOk z ∧ 1 ≤ c ∧ c ≤ 1000 ∧ H x = some (.ins a.r dx []) ∧ Hb x = none ∧ Same Hb H ∧ Hb u = some (.ins a.W du (winF w)) ∧ ∀ H', Same Hb H' → Iv a H' a.r (.ref x) → Q .non H'
theorem ok_Rule_init {P : Program} {w : World} {K : PySem.W.Frag} {mg : Str → Option Value} {base : Heap} {f : Addr} {fd : FuncData} (F0 : Fun K "__init__" "Rule.__init__" sRule_init f fd) (T : Txt K mg) {a : Ad} (KN : Kn K mg a) {fis_number : Addr} {fdis_number : FuncData} (Dis_number : Def K mg "is_number" sis_number Pis_number fis_number fdis_number) (Gis_number : FnOk P w K mg base CX0 2 fis_number fdis_number Pis_number (spis_number)) {fis_name : Addr} {fdis_name : FuncData} (Dis_name : Def K mg "is_name" sis_name Pis_name fis_name fdis_name) (Gis_name : FnOk P w K mg base CX0 1 fis_name fdis_name Pis_name (spis_name a)) :
    FnOk P w K mg base CX0 3 f fd PRule_init (spRule_init a) := by
  refine F0.ok scRule_init (fun vs H Q E h => ?_) (fun cdv A outer s H vs Q E hr h => ?_)
  · obtain ⟨x, dx, u, du, z, c, w, Hb, rfl, hz, c0, c1, hx, hb, sb, hu, k⟩ := h
    rfl
  · obtain ⟨x, dx, u, du, z, c, w, Hb, rfl, hz, c0, c1, hx, hb, sb, hu, k⟩ := h
    have hris_number : Room 2 _ := hr.mono (by decide)
    have hris_name : Room 1 _ := hr.mono (by decide)
    obtain ⟨tc_MOST_SIZE, hc_MOST_SIZE⟩ := T.c_MOST_SIZE
    refine ⟨_, (pss_cons (ps_if (pt_not (pt_val (pe_call Gis_name hris_name rfl Dis_name.g Dis_name.F.kp Dis_name.b .nil pass0 (pa_cons (pv 1) pa_nil)))) (pss_one LC.ps_never) pss_nil)
        (pss_cons (ps_if (pt_not (pt_val (pe_call Gis_number hris_number rfl Dis_number.g Dis_number.F.kp Dis_number.b .nil pass0 (pa_cons (pv 2) (pa_cons pe_int (pa_cons (pe_gint rfl hc_MOST_SIZE) pa_nil)))))) (pss_one LC.ps_never) pss_nil)
        (pss_cons (ps_if (pt_not (pt_val (pe_callB (show CallR _ (.builtin "isinstance") (rIsi K) from call_isi) (by rfl) T.n_isinstance (by decide +kernel) (pa_cons (pv 3) (pa_cons (pe_glob rfl KN.gR (show RelV (.ref a.R) _ from rfl)) pa_nil))))) (pss_one LC.ps_never) pss_nil)
        (pss_cons (ps_fld (pv 0) (pv 1) rfl)
        (pss_cons (ps_fld (pv 0) (pv 2) rfl)
        (pss_one (ps_fld (pv 0) (pv 3) rfl))))))), ?_⟩
    refine ⟨_, rfl, fun _ => False, _, rfl, .inl (Ov.sz (x := V.str z) hz.sz 3), fun H1 s1 => ⟨_, rfl, ?_⟩⟩
    rw [show isNam (.str z) = true from hz]
    refine iteF ⟨_, rfl, fun _ => False, 0, _, _, _, rfl, True.intro, _, rfl, ite_nb (fun h => absurd (h.symm.trans (num_true c0 c1)) Bool.false_ne_true) (fun _ => ?_)⟩
    have sb1 := sb.trans s1
    refine ⟨_, rfl, _, _, _, _, _, rfl, .own _, ((Iv.w (a := a) (sb1 _ _ hu)).ty KN).2, KN.kWR, _, rfl, iteF ?_⟩
    have hx1 := s1 _ _ hx
    refine ⟨_, rfl, _, rfl, x, _, dx, _, rfl, hx1, KN.ir.cl, KN.rn, (by show 0 < 1000; decide), ?_⟩
    refine ⟨_, rfl, _, rfl, x, _, dx, _, rfl, upd_same, KN.ir.cl, KN.rc, (by show 1 < 1000; decide), ?_⟩
    refine ⟨_, rfl, _, rfl, x, _, dx, _, rfl, upd_same, KN.ir.cl, KN.rr, (by show 2 < 1000; decide), ?_⟩
    exact k _ (same_upd hb (same_upd hb (same_upd hb sb1))) (.r upd_same)
end k12
namespace k12
open PySem L2 LC RM
def spPlace_init (a : Ad) (ce : Ce) : Sp := fun vs H Q E => ∃ (x dx : Addr) (F : Addr → Prop) (v0 v1 v2 v4 : V) (b : Bool) (Hb : Hp), vs = [.ref x, v0, v1, v2, .bl b, v4] ∧ H x = some (.ins a.P dx []) ∧ Hb x = none ∧ Same Hb H ∧
  Gv a F Hb v0 ∧ Gv a F Hb v1 ∧ Gv a F Hb v2 ∧ Gv a F Hb v4 ∧ (∀ u H', plDue v0 v1 v2 v4 = some u → Same Hb H' → Out ce H' E ("InvalidName", [u])) ∧
  ∀ (r : Row) H', plDue v0 v1 v2 v4 = none → v0 = .str r.nm → v1 = .str r.sv → v2 = oV r.el → b = r.mem → v4 = oV r.cu → r.ok → Same Hb H' → H' x = some (.ins a.P dx (plF r)) → Q .non H'
theorem ok_Place_init {P : Program} {w : World} {K : PySem.W.Frag} {mg : Str → Option Value} {base : Heap} {f : Addr} {fd : FuncData} (F0 : FunD K "__init__" "Place.__init__" (defArgs sPlace_init) (defBody sPlace_init) (defScope sPlace_init) [V.non] [("memory", V.bl false), ("customer", V.non)] f fd) (T : Txt K mg) {a : Ad} (KN : Kn K mg a) {ce : Ce} {fdInvalidName : FuncData} {fInvalidName : Addr} (RInvalidName : RE P w K mg base "InvalidName" "value" (ivF "InvalidName") ce.na fInvalidName fdInvalidName) {fis_name : Addr} {fdis_name : FuncData} (Dis_name : Def K mg "is_name" sis_name Pis_name fis_name fdis_name) (Gis_name : FnOk P w K mg base CX0 1 fis_name fdis_name Pis_name (spis_name a)) :
    FnOk P w K mg base (L2.CX P w) 3 f fd PPlace_init (spPlace_init a ce) := by
  refine FunD.ok (CX := L2.CX P w) F0 scPlace_init (fun vs H Q E h => ?_) (fun cdv A outer s H vs Q E hr h => ?_)
  · obtain ⟨x, dx, F, v0, v1, v2, v4, b, Hb, rfl, hx, hb, sb, g0, g1, g2, g4, ke, k⟩ := h
    rfl
  · obtain ⟨x, dx, F, v0, v1, v2, v4, b, Hb, rfl, hx, hb, sb, g0, g1, g2, g4, ke, k⟩ := h
    have hris_name : Room 1 _ := hr.mono (by decide)
    have hrE : Room 2 _ := hr.mono (by decide)
    refine ⟨_, (pss_cons (ps_for (passes_of rfl) rfl (pi_tup (pe_tup (pa_cons (pv 1) (pa_cons (pv 2) pa_nil)))) (pg_name (i := 6) scPlace_init.nd rfl (Or.inl rfl))
          (pss_one (ps_if (pt_not (pt_val (pe_call Gis_name hris_name rfl Dis_name.g Dis_name.F.kp Dis_name.b .nil pass0 (pa_cons (pv 6) pa_nil)))) (pss_one (ps_raise rfl (takes_of rfl rfl rfl rfl) (pmk_oex RInvalidName.er.ox RInvalidName.er.iC RInvalidName.er.tI RInvalidName.G hrE RInvalidName.b .nil pass0 rfl RInvalidName.er.gC (pa_cons (pv 6) pa_nil)))) pss_nil)))
        (pss_cons (ps_for (passes_of rfl) rfl (pi_tup (pe_tup (pa_cons (pv 3) (pa_cons (pv 5) pa_nil)))) (pg_name (i := 6) scPlace_init.nd rfl (Or.inl rfl))
          (pss_one (ps_if (PW.pt (pw_and (pt_cmpR op_notN (pv 6) pe_non (nomark _)) (pw_and1 (pt_not (pt_val (pe_call Gis_name hris_name rfl Dis_name.g Dis_name.F.kp Dis_name.b .nil pass0 (pa_cons (pv 6) pa_nil))))))) (pss_one (ps_raise rfl (takes_of rfl rfl rfl rfl) (pmk_oex RInvalidName.er.ox RInvalidName.er.iC RInvalidName.er.tI RInvalidName.G hrE RInvalidName.b .nil pass0 rfl RInvalidName.er.gC (pa_cons (pv 6) pa_nil)))) pss_nil)))
        (pss_cons (ps_fld (pv 0) (pv 1) rfl)
        (pss_cons (ps_fld (pv 0) (pv 2) rfl)
        (pss_cons (ps_fld (pv 0) (pv 3) rfl)
        (pss_cons (ps_fld (pv 0) (pv 4) rfl)
        (pss_one (ps_fld (pv 0) (pv 5) rfl)))))))), ?_⟩
    have nd : ∀ {w : V}, w = .non ∨ isNam w = true → ¬ (w ≠ .non ∧ isNam w = false) := fun h ⟨z1, z2⟩ => h.elim z1 (fun e => by rw [e] at z2; cases z2)
    refine ⟨_, rfl, _, rfl, (by show 2 ≤ sizeLine; decide), fun T0 hT0 => ?_⟩
    have s0 := same_new (o := .tup [v0, v1]) hT0
    have eT0 : upd H T0 (.tup [v0, v1]) T0 = some (.tup [v0, v1]) := upd_same
    have hx0 := s0 _ _ hx
    have sb0 := sb.trans s0
    generalize upd H T0 (.tup [v0, v1]) = H1 at s0 eT0 hx0 sb0 ⊢
    refine ⟨T0, rfl, ⟨_, SqT.of eT0⟩, for_tup (K := K) (a := T0) (xs := [v0, v1]) (fun i σ H' => (∃ u : Option V, σ = [some (.ref x), some v0, some v1, some v2, some (.bl b), some v4, u]) ∧ Same H1 H' ∧ (0 < i → isNam v0 = true) ∧ (1 < i → isNam v1 = true))
      ⟨⟨_, rfl⟩, Same.refl _, fun z => absurd z (Nat.lt_irrefl 0), fun z => absurd z (by decide)⟩ (fun i σ H' _ ⟨_, s, _⟩ => sameT s (SqT.of eT0)) ?_ ?_⟩
    · rintro i u σ H' hi ⟨⟨y0, rfl⟩, s, i0, i1⟩
      obtain ⟨gu, fl, tr⟩ : Gv a F Hb u ∧ (isNam u = false → ∀ H', Same Hb H' → Out ce H' E ("InvalidName", [u])) ∧ (isNam u = true → (0 < i + 1 → isNam v0 = true) ∧ (1 < i + 1 → isNam v1 = true)) := by
        match i, hi with
        | 0, hi =>
          cases hi
          exact ⟨g0, fun e H' s' => ke _ H' (by unfold plDue; rw [if_pos e]) s', fun e => ⟨fun _ => e, fun z => absurd z (by decide)⟩⟩
        | 1, hi =>
          cases hi
          have e0 := i0 (by decide)
          exact ⟨g1, fun e H' s' => ke _ H' (by unfold plDue; rw [if_neg (by rw [e0]; decide), if_pos e]) s', fun e => ⟨fun _ => e0, fun _ => e⟩⟩
      have sb1 := sb0.trans s
      refine ⟨_, rfl, F, u, rfl, gu.kp (KpF.same sb1) (Ki.same sb1), fun H2 s2 => ⟨_, rfl, ?_⟩⟩
      cases en : isNam u with
      | false => exact iteT ⟨_, rfl, (by show 1 ≤ 1000; decide), LX.err_out (n := 1) (ws := [_]) rfl (fl en H2 (sb1.trans s2)).na⟩
      | true => exact iteF ⟨⟨_, rfl⟩, s.trans s2, tr en⟩
    rintro σ H2 ⟨⟨y0, rfl⟩, s, i0, i1⟩
    have n0 := i0 (by show 0 < 2; decide)
    have n1 := i1 (by show 1 < 2; decide)
    have hx2 := s _ _ hx0
    have sb2 := sb0.trans s
    refine ⟨_, rfl, _, rfl, (by show 2 ≤ sizeLine; decide), fun T1 hT1 => ?_⟩
    have s3 := same_new (o := .tup [v2, v4]) hT1
    have eT1 : upd H2 T1 (.tup [v2, v4]) T1 = some (.tup [v2, v4]) := upd_same
    have hx3 := s3 _ _ hx2
    have sb3 := sb2.trans s3
    generalize upd H2 T1 (.tup [v2, v4]) = H3 at s3 eT1 hx3 sb3 ⊢
    refine ⟨T1, rfl, ⟨_, SqT.of eT1⟩, for_tup (K := K) (a := T1) (xs := [v2, v4]) (fun i σ H' => (∃ u : Option V, σ = [some (.ref x), some v0, some v1, some v2, some (.bl b), some v4, u]) ∧ Same H3 H' ∧ (0 < i → v2 = .non ∨ isNam v2 = true) ∧ (1 < i → v4 = .non ∨ isNam v4 = true))
      ⟨⟨_, rfl⟩, Same.refl _, fun z => absurd z (Nat.lt_irrefl 0), fun z => absurd z (by decide)⟩ (fun i σ H' _ ⟨_, s, _⟩ => sameT s (SqT.of eT1)) ?_ ?_⟩
    · rintro i u σ H' hi ⟨⟨y1, rfl⟩, s', i2, i3⟩
      obtain ⟨gu, fl, tr⟩ : Gv a F Hb u ∧ (u ≠ .non → isNam u = false → ∀ H', Same Hb H' → Out ce H' E ("InvalidName", [u])) ∧ ((u = .non ∨ isNam u = true) → (0 < i + 1 → v2 = .non ∨ isNam v2 = true) ∧ (1 < i + 1 → v4 = .non ∨ isNam v4 = true)) := by
        match i, hi with
        | 0, hi =>
          cases hi
          exact ⟨g2, fun ne e H' s' => ke _ H' (by unfold plDue; rw [if_neg (by rw [n0]; decide), if_neg (by rw [n1]; decide), if_pos ⟨ne, e⟩]) s', fun e => ⟨fun _ => e, fun z => absurd z (by decide)⟩⟩
        | 1, hi =>
          cases hi
          have e2 := i2 (by decide)
          exact ⟨g4, fun ne e H' s' => ke _ H' (by unfold plDue; rw [if_neg (by rw [n0]; decide), if_neg (by rw [n1]; decide), if_neg (nd e2), if_pos ⟨ne, e⟩]) s', fun e => ⟨fun _ => e2, fun _ => e⟩⟩
      have sb4 := sb3.trans s'
      refine ⟨_, rfl, rfl, _, rfl, ite_nd (fun ne => ?_) (fun e => iteF ⟨⟨_, rfl⟩, s', tr (.inl e)⟩)⟩
      refine ⟨_, rfl, F, u, rfl, gu.kp (KpF.same sb4) (Ki.same sb4), fun H5 s5 => ⟨_, rfl, ?_⟩⟩
      cases en : isNam u with
      | false => exact iteT ⟨_, rfl, (by show 1 ≤ 1000; decide), LX.err_out (n := 1) (ws := [_]) rfl (fl ne en H5 (sb4.trans s5)).na⟩
      | true => exact iteF ⟨⟨_, rfl⟩, s'.trans s5, tr (.inr en)⟩
    rintro σ H4 ⟨⟨y1, rfl⟩, s', i2, i3⟩
    have n2 := i2 (by show 0 < 2; decide)
    have n4 := i3 (by show 1 < 2; decide)
    have hx4 := s' _ _ hx3
    have sb4 := sb3.trans s'
    refine ⟨_, rfl, _, rfl, x, _, dx, _, rfl, hx4, KN.ip.cl, KN.pn, (by show 0 < 1000; decide), ?_⟩
    refine ⟨_, rfl, _, rfl, x, _, dx, _, rfl, upd_same, KN.ip.cl, KN.ps, (by show 1 < 1000; decide), ?_⟩
    refine ⟨_, rfl, _, rfl, x, _, dx, _, rfl, upd_same, KN.ip.cl, KN.pe, (by show 2 < 1000; decide), ?_⟩
    refine ⟨_, rfl, _, rfl, x, _, dx, _, rfl, upd_same, KN.ip.cl, KN.pm, (by show 3 < 1000; decide), ?_⟩
    refine ⟨_, rfl, _, rfl, x, _, dx, _, rfl, upd_same, KN.ip.cl, KN.pc, (by show 4 < 1000; decide), ?_⟩
    obtain ⟨z0, rfl⟩ := nam_str n0
    obtain ⟨z1, rfl⟩ := nam_str n1
    have opt : ∀ {w : V}, w = .non ∨ isNam w = true → ∃ o : Option Str, w = oV o ∧ ∀ z, o = some z → NmOk z := fun {w} h => by
      rcases h with h | h
      · exact ⟨none, h, fun z e => by cases e⟩
      · obtain ⟨z, rfl⟩ := nam_str h
        exact ⟨some z, rfl, fun y e => by cases e; exact h⟩
    have hd : plDue (.str z0) (.str z1) v2 v4 = none := by
      unfold plDue
      rw [if_neg (by rw [n0]; decide), if_neg (by rw [n1]; decide), if_neg (nd n2), if_neg (nd n4)]
    obtain ⟨el, rfl, oe⟩ := opt n2
    obtain ⟨cu, rfl, oc⟩ := opt n4
    exact k ⟨z0, z1, el, b, cu⟩ _ hd rfl rfl rfl rfl rfl ⟨n0, n1, oe, oc⟩ (same_upd hb (same_upd hb (same_upd hb (same_upd hb (same_upd hb sb4))))) upd_same
theorem place_binds {K : PySem.W.Frag} {f : Addr} {fd : FuncData} (F : FunD K "__init__" "Place.__init__" (defArgs sPlace_init) (defBody sPlace_init) (defScope sPlace_init) [V.non] [("memory", V.bl false), ("customer", V.non)] f fd) :
    (∃ ds, Vals [V.non, V.bl false, V.non] ds ∧ Binds K fd PPlace_init ds) ∧ (∃ ds, Vals [V.bl false, V.non] ds ∧ Binds K fd PPlace_init ds) ∧ (∃ g5, KBn K fd PPlace_init 1 ["customer", "memory", "elder", "server", "name"] g5 gv5) ∧ ∃ g2, KBn K fd PPlace_init 4 ["memory", "customer"] g2 gv2 := by
  refine ⟨?_, ?_, ?_, ?_⟩
  · exact F.binds (ps := PPlace_init) 3 0 (by simp) rfl (fun T D doc pm an cdv ct us its ks hl hi hk => match us, its, ks, hl, hi, hk with | [_, _, _], [_], [_, _], _, _, _ => ⟨_, rfl, ⟨_, _, _, _, _, _, rfl, rfl, ⟨_, _, _, _, _, _, rfl, rfl, rfl⟩⟩⟩) (by simp)
  · exact F.binds (ps := PPlace_init) 4 1 (by simp) rfl (fun T D doc pm an cdv ct us its ks hl hi hk => match us, its, ks, hl, hi, hk with | [_, _, _, _], [_], [_, _], _, _, _ => ⟨_, rfl, ⟨_, _, _, _, _, _, rfl, rfl, ⟨_, _, _, _, _, _, rfl, rfl, rfl⟩⟩⟩) (by simp)
  · obtain ⟨its, mv, h⟩ := F.kbinds (ps := PPlace_init) 1 ["customer", "memory", "elder", "server", "name"] [] (fun us _ _ ws => gp5 us ws) (by simp) (by simp) (by simp)
      (fun r1 _ _ r2 => match r1, r2 with | .cons a .nil, .cons c (.cons m (.cons e (.cons s (.cons n .nil)))) => .cons a (.cons n (.cons s (.cons e (.cons m (.cons c .nil))))) | .nil, _ => .nil | .cons _ (.cons _ _), _ => .nil | .cons _ .nil, .nil => .nil | .cons _ .nil, .cons _ .nil => .nil | .cons _ .nil, .cons _ (.cons _ .nil) => .nil | .cons _ .nil, .cons _ (.cons _ (.cons _ .nil)) => .nil | .cons _ .nil, .cons _ (.cons _ (.cons _ (.cons _ .nil))) => .nil | .cons _ .nil, .cons _ (.cons _ (.cons _ (.cons _ (.cons _ (.cons _ _))))) => .nil)
      (fun T D doc pm an cdv ct us its mv ws hl hi hm hw => match us, its, mv, ws, hl, hi, hm, hw with | [_], [_], [], [_, _, _, _, _], _, _, _, _ => ⟨_, rfl, rfl⟩)
    exact ⟨_, h⟩
  · obtain ⟨its, mv, h⟩ := F.kbinds (ps := PPlace_init) 4 ["memory", "customer"] [] (fun us _ _ ws => gp2 us ws) (by simp) (by simp) (by simp)
      (fun r1 _ _ r2 => match r1, r2 with | .cons a (.cons n (.cons s (.cons e .nil))), .cons m (.cons c .nil) => .cons a (.cons n (.cons s (.cons e (.cons m (.cons c .nil))))) | .nil, _ => .nil | .cons _ .nil, _ => .nil | .cons _ (.cons _ .nil), _ => .nil | .cons _ (.cons _ (.cons _ .nil)), _ => .nil | .cons _ (.cons _ (.cons _ (.cons _ (.cons _ _)))), _ => .nil | .cons _ (.cons _ (.cons _ (.cons _ .nil))), .nil => .nil | .cons _ (.cons _ (.cons _ (.cons _ .nil))), .cons _ .nil => .nil | .cons _ (.cons _ (.cons _ (.cons _ .nil))), .cons _ (.cons _ (.cons _ _)) => .nil)
      (fun T D doc pm an cdv ct us its mv ws hl hi hm hw => match us, its, mv, ws, hl, hi, hm, hw with | [_, _, _, _], [_], [], [_, _], _, _, _, _ => ⟨_, rfl, rfl⟩)
    exact ⟨_, h⟩
end k12
namespace k12
open PySem L2 LC RM
def spPlace_eq (a : Ad) : Sp := fun vs H Q _ => ∃ (x dx : Addr) (r : Row), vs = [.ref x, .ref x] ∧ H x = some (.ins a.P dx (plF r)) ∧ Q (.bl true) H
theorem ok_Place_eq {P : Program} {w : World} {K : PySem.W.Frag} {mg : Str → Option Value} {base : Heap} {f : Addr} {fd : FuncData} (F0 : Fun K "__eq__" "Place.__eq__" sPlace_eq f fd) (T : Txt K mg) {a : Ad} (KN : Kn K mg a) :
    FnOk P w K mg base CX0 1 f fd PPlace_eq (spPlace_eq a) := by
  refine F0.ok scPlace_eq (fun vs H Q E h => ?_) (fun cdv A outer s H vs Q E hr h => ?_)
  · obtain ⟨x, dx, r, rfl, hx, k⟩ := h
    rfl
  · obtain ⟨x, dx, r, rfl, hx, k⟩ := h
    refine ⟨_, (pss_one (ps_ret (pe_and (pe_callB (show CallR _ (.builtin "isinstance") (rIsi K) from call_isi) (by rfl) T.n_isinstance (by decide +kernel) (pa_cons (pv 1) (pa_cons (pe_glob rfl KN.gPlace (show RelV (.ref a.P) _ from rfl)) pa_nil))) (pe_and (pe_cmpR op_eq (pe_fld (pv 0) rfl) (pe_fld (pv 1) rfl) (nomark _)) (pe_and (pe_cmpR op_eq (pe_fld (pv 0) rfl) (pe_fld (pv 1) rfl) (nomark _)) (pe_and (pe_cmpR op_eq (pe_fld (pv 0) rfl) (pe_fld (pv 1) rfl) (nomark _)) (pe_and (pe_cmpR op_eq (pe_fld (pv 0) rfl) (pe_fld (pv 1) rfl) (nomark _)) (pe_one (pe_cmpR op_eq (pe_fld (pv 0) rfl) (pe_fld (pv 1) rfl) (nomark _)))))))))), ?_⟩
    have ds : ∀ o : Option Str, scal (oV o) (oV o) = true := fun o => by cases o <;> rfl
    refine ⟨_, rfl, _, _, _, _, _, rfl, .own _, ((Iv.p (a := a) hx).ty KN).2, KN.kPP, _, rfl, iteT ?_⟩
    refine ⟨_, rfl, x, _, dx, _, _, rfl, hx, KN.ip.cl, KN.pn, plF_n, _, rfl, x, _, dx, _, _, rfl, hx, KN.ip.cl, KN.pn, plF_n, rfl, _, rfl, ?_⟩
    rw [decide_eq_true rfl]
    refine iteT ?_
    refine ⟨_, rfl, x, _, dx, _, _, rfl, hx, KN.ip.cl, KN.ps, plF_s, _, rfl, x, _, dx, _, _, rfl, hx, KN.ip.cl, KN.ps, plF_s, rfl, _, rfl, ?_⟩
    rw [decide_eq_true rfl]
    refine iteT ?_
    refine ⟨_, rfl, x, _, dx, _, _, rfl, hx, KN.ip.cl, KN.pe, plF_e, _, rfl, x, _, dx, _, _, rfl, hx, KN.ip.cl, KN.pe, plF_e, ds _, _, rfl, ?_⟩
    rw [decide_eq_true rfl]
    refine iteT ?_
    refine ⟨_, rfl, x, _, dx, _, _, rfl, hx, KN.ip.cl, KN.pm, plF_m, _, rfl, x, _, dx, _, _, rfl, hx, KN.ip.cl, KN.pm, plF_m, rfl, _, rfl, ?_⟩
    rw [decide_eq_true rfl]
    refine iteT ?_
    refine ⟨_, rfl, x, _, dx, _, _, rfl, hx, KN.ip.cl, KN.pc, plF_c, _, rfl, x, _, dx, _, _, rfl, hx, KN.ip.cl, KN.pc, plF_c, ds _, ?_⟩
    rw [decide_eq_true rfl]
    exact k
end k12
namespace k12
open PySem L2 LC RM
def spis_misplaced (a : Ad) : Sp := fun vs H Q _ => ∃ (x dx d : Addr) (r : Row) (rs : List Row) (kvs : List (Key × V)), vs = [.ref x, .ref d] ∧ H x = some (.ins a.P dx (plF r)) ∧ H d = some (.dK kvs) ∧ PlKv a H kvs rs ∧ rs.length ≤ 30 ∧ ∀ H', Same H H' → Q (.bl (mis rs r)) H'
theorem ok_is_misplaced {P : Program} {w : World} {K : PySem.W.Frag} {mg : Str → Option Value} {base : Heap} {f : Addr} {fd : FuncData} (D : Def K mg "is_misplaced" sis_misplaced Pis_misplaced f fd) (T : Txt K mg) {a : Ad} (KN : Kn K mg a) :
    FnOk P w K mg base CX0 1 f fd Pis_misplaced (spis_misplaced a) := by
  refine D.F.ok scis_misplaced (fun vs H Q E h => ?_) (fun cdv A outer s H vs Q E hr h => ?_)
  · obtain ⟨x, dx, d, r, rs, kvs, rfl, hx, hd, hk, hl, k⟩ := h
    rfl
  · obtain ⟨x, dx, d, r, rs, kvs, rfl, hx, hd, hk, hl, k⟩ := h
    refine ⟨_, (pss_cons (ps_if (pt_cmpR op_eq (pe_callB call_lenD (by rfl) T.n_len PySem.boot_len (pa_cons (pv 1) pa_nil)) pe_int (nomark _)) (pss_one (ps_ret (pe_or (pe_cmpR op_notN (pe_fld (pv 0) rfl) pe_non (nomark _)) (pe_or (pe_fld (pv 0) rfl) (pe_one (pe_cmpR op_notN (pe_fld (pv 0) rfl) pe_non (nomark _))))))) pss_nil)
        (pss_cons (ps_if (PW.pt (pw_or (pt_cmp (pc_din (hu_of hr) (pe_fld (pv 0) rfl) (pv 1))) (pw_or1 (pt_cmp (pc_dnotinN (hu_of hr) (pe_fld (pv 0) rfl) (pv 1)))))) (pss_one (ps_ret pe_bl)) pss_nil)
        (pss_cons (ps_set (i := 2) scis_misplaced.nd rfl (Or.inl rfl) (pe_dget (hu_of hr) (pv 1) (pe_fld (pv 0) rfl) (fun _ _ => rfl)))
        (pss_cons (ps_if (pt_val (pe_fld (pv 2) rfl)) (pss_one (ps_ret pe_bl)) pss_nil)
        (pss_cons (ps_if (pt_cmpR op_eq (pe_fld (pv 2) rfl) (pe_fld (pv 0) rfl) (nomark _)) (pss_one (ps_ret pe_bl)) pss_nil)
        (pss_one (ps_ret (pe_or (pe_fld (pv 0) rfl) (pe_one (pe_callB (cr_any rfl) (by rfl) T.n_any (by decide +kernel) (pa_cons (pe_lock (pe_lc (own := [("other", 3)]) (g := gName 3) (tt := tYes) rfl scis_misplaced.nd (pi_values (pv 1)) (blkOk_by (own := [("other", 3)]) (N := Nmis_misplaced) (sc := defScope sis_misplaced) (by decide +kernel)) (fun _ _ _ _ _ => pg_name (i := 3) scis_misplaced.nd rfl (Or.inl rfl)) (fun _ _ _ _ _ => pts_nil) (fun _ _ _ _ _ => (pe_cmpR op_eq (show PE _ _ (tFld K _ "server") from pe_fld (pv 3) rfl) (show PE _ _ (tFld K _ "server") from pe_fld (pv 0) rfl) (nomark _))))) pa_nil))))))))))), ?_⟩
    have hl' : kvs.length = rs.length := Paired.length hk
    refine ⟨_, rfl, d, _, rfl, hd, rfl, _, rfl, ?_⟩
    by_cases hc : rs = []
    · have ek : kvs.length = 0 := by rw [hl', hc]; rfl
      have q := k H (Same.refl H)
      unfold mis at q
      rw [if_pos hc] at q
      refine ite_d (fun _ => ?_) (fun h => absurd (by rw [ek]; rfl) h)
      refine ⟨_, rfl, x, _, dx, _, _, rfl, hx, KN.ip.cl, KN.pe, plF_e, rfl, _, rfl, ?_⟩
      obtain ⟨nm, sv, el, mem, cu⟩ := r
      cases el with
      | some z => exact ite_nd (fun _ => q) (fun e => by cases e)
      | none =>
        refine ite_nd (fun ne => absurd rfl ne) (fun _ => ?_)
        refine ⟨_, rfl, x, _, dx, _, _, rfl, hx, KN.ip.cl, KN.pm, plF_m, _, rfl, ?_⟩
        cases mem with
        | true => exact iteT q
        | false =>
          refine iteF ⟨_, rfl, x, _, dx, _, _, rfl, hx, KN.ip.cl, KN.pc, plF_c, rfl, ?_⟩
          cases cu with
          | some z => exact q
          | none => exact q
    · have n0 : ¬ V.int (kvs.length : Nat) = V.int 0 := fun e => by
        have := V.int.inj e
        exact hc (List.length_eq_zero_iff.mp (by omega))
      refine ite_d (fun h => absurd h n0) (fun _ => ?_)
      refine ⟨_, rfl, x, _, dx, _, _, rfl, hx, KN.ip.cl, KN.pn, plF_n, _, rfl, d, _, rfl, DGet.k (k := kS r.nm) hd, _, rfl, ?_⟩
      rw [kv_some hk]
      have q := k H (Same.refl H)
      unfold mis at q
      rw [if_neg hc] at q
      cases hn : has rs r.nm with
      | true =>
        rw [if_pos hn] at q
        exact iteT q
      | false =>
        rw [if_neg (by rw [hn]; decide)] at q
        refine iteF ⟨_, rfl, x, _, dx, _, _, rfl, hx, KN.ip.cl, KN.pe, plF_e, _, rfl, ?_⟩
        obtain ⟨nm, sv, el, mem, cu⟩ := r
        cases el with
        | none => exact .inr ⟨d, kvs, rfl, rfl, .inl hd, _, rfl, iteT q⟩
        | some e =>
          refine .inl ⟨d, _, rfl, DGet.k (k := kS e) hd, _, rfl, ?_⟩
          rw [kv_some hk, has_find]
          obtain ⟨h1, h2⟩ := kv_find (z := e) hk
          cases hf : findR rs e with
          | none =>
            have q' : Q (.bl (match findR rs e with | none => true | some q => if q.mem = true then true else if q.sv = sv then false else mem || hasSv rs sv)) H := q
            rw [hf] at q'
            exact iteT q'
          | some w =>
            have q' : ∀ H', Same H H' → Q (.bl (match findR rs e with | none => true | some q => if q.mem = true then true else if q.sv = sv then false else mem || hasSv rs sv)) H' := fun H' s => by
              have z := k H' s
              unfold mis at z
              rw [if_neg hc, if_neg (by rw [hn]; decide)] at z
              exact z
            rw [hf] at q'
            obtain ⟨v, ev, y, dy, rfl, hy⟩ := h2 w hf
            refine iteF ⟨_, rfl, _, rfl, x, _, dx, _, _, rfl, hx, KN.ip.cl, KN.pe, plF_e, d, _, rfl, ev ▸ DGet.k (k := kS e) hd, ?_⟩
            refine ⟨_, rfl, y, _, dy, _, _, rfl, hy, KN.ip.cl, KN.pm, plF_m, _, rfl, ?_⟩
            cases hm : w.mem with
            | true =>
              have z := q' H (Same.refl H)
              simp only [hm, if_true] at z
              exact iteT z
            | false =>
              simp only [hm, Bool.false_eq_true, if_false] at q'
              refine iteF ⟨_, rfl, y, _, dy, _, _, rfl, hy, KN.ip.cl, KN.ps, plF_s, _, rfl, x, _, dx, _, _, rfl, hx, KN.ip.cl, KN.ps, plF_s, rfl, _, rfl, ?_⟩
              refine ite_d (fun h => ?_) (fun h => ?_)
              · have z := q' H (Same.refl H)
                rw [if_pos (V.str.inj h)] at z
                exact z
              · have hne : ¬ w.sv = sv := fun z => h (by rw [z])
                simp only [if_neg hne] at q'
                refine ⟨_, rfl, x, _, dx, _, _, rfl, hx, KN.ip.cl, KN.pm, plF_m, _, rfl, ?_⟩
                cases mem with
                | true => exact iteT (q' H (Same.refl H))
                | false =>
                  refine iteF ?_
                  refine ⟨d, _, hd, (by exact True.intro), fun od => ⟨_, rfl, d, od, kvs, rfl, upd_same, fun D hD => ?_⟩⟩
                  have fz : ∀ b o, b ≠ d → H b = some o → upd H d (.frz od (.dK kvs)) b = some o := fun b o n e => by rw [upd_ne n]; exact e
                  have hFd : upd H d (.frz od (.dK kvs)) d = some (.frz od (.dK kvs)) := upd_same
                  generalize upd H d (.frz od (.dK kvs)) = H1 at hD fz hFd ⊢
                  refine lc_it walk_vals (fun i H' => Same H1 H' ∧ H' D = some (.lst ((rs.take i).map fun q => V.bl (decide (q.sv = sv))))) ⟨same_new hD, upd_same⟩ (fun i H' _ ⟨s, _⟩ => s _ _ hFd) ?_ ?_
                  · rintro i u H2 H3 hi ⟨s, e2⟩ ⟨rfl, ky, hu⟩
                    obtain ⟨q, hq, _, p, dp, ep, hp⟩ := Paired.ix hk hu
                    cases ep
                    have np : p ≠ d := fun z => by rw [z, hd] at hp; cases hp
                    have hp3 := s _ _ (fz _ _ np hp)
                    have nx : x ≠ d := fun z => by rw [z, hd] at hx; cases hx
                    have hx3 := s _ _ (fz _ _ nx hx)
                    refine ⟨rfl, _, rfl, p, _, dp, _, _, rfl, hp3, KN.ip.cl, KN.ps, plF_s, _, rfl, x, _, dx, _, _, rfl, hx3, KN.ip.cl, KN.ps, plF_s, rfl, _, e2, ?_, (fun b o e => (by rw [upd_ne (ne_of_none e hD)]; exact s b o e)), ?_⟩
                    · rw [List.length_map]
                      exact Nat.lt_of_le_of_lt (Nat.le_trans (List.length_take_le' _ _) hl) (by decide)
                    · rw [upd_same, bl_dec, List.take_add_one, hq, List.map_append]
                      rfl
                  · rintro H2 ⟨s, e2⟩
                    refine ⟨s _ _ hFd, D, rs.map fun q => decide (q.sv = sv), rfl, SqL.of ?_, ?_⟩
                    · rw [upd_ne (ne_of_none hFd hD).symm, e2, hl', List.take_length]
                      rw [List.map_map]
                      rfl
                    · rw [← hasSv_take]
                      refine q' _ fun b o e => ?_
                      by_cases hb : b = d
                      · subst hb
                        rw [hd] at e
                        cases e
                        exact upd_same
                      · rw [upd_ne hb]
                        exact s _ _ (fz _ _ hb e)
end k12
namespace k12
open PySem L2 LC RM
def spplaces_by_name (a : Ad) (ce : Ce) : Sp := fun vs H Q E => ∃ (T : Addr) (ps : List V) (rs : List Row), vs = [.ref T] ∧ H T = some (.tup ps) ∧ Paired (fun v r => PlV a H r v) ps rs ∧ rs.length ≤ 25 ∧ (∀ r H', firstBad [] rs = some r → Same H H' → Out ce H' E ("BadTree", [.str r.nm])) ∧
  ∀ d kvs H', firstBad [] rs = none → Same H H' → H d = none → H' d = some (.dK kvs) → PlKv a H' kvs rs → kvs.map (·.2) = ps → Q (.ref d) H'
theorem ok_places_by_name {P : Program} {w : World} {K : PySem.W.Frag} {mg : Str → Option Value} {base : Heap} {f : Addr} {fd : FuncData} (D : Def K mg "places_by_name" splaces_by_name Pplaces_by_name f fd) (T : Txt K mg) {a : Ad} (KN : Kn K mg a) {ce : Ce} {fdBadTree : FuncData} {fBadTree : Addr} (RBadTree : RE P w K mg base "BadTree" "place" (plcF "BadTree") ce.bt fBadTree fdBadTree) {fis_misplaced : Addr} {fdis_misplaced : FuncData} (Dis_misplaced : Def K mg "is_misplaced" sis_misplaced Pis_misplaced fis_misplaced fdis_misplaced) (Gis_misplaced : FnOk P w K mg base CX0 1 fis_misplaced fdis_misplaced Pis_misplaced (spis_misplaced a)) :
    FnOk P w K mg base (L2.CX P w) 3 f fd Pplaces_by_name (spplaces_by_name a ce) := by
  refine D.F.okX scplaces_by_name (fun vs H Q E h => ?_) (fun cdv A outer s H vs Q E hr h => ?_)
  · obtain ⟨T, ps, rs, rfl, hT, hp, hl, ke, k⟩ := h
    rfl
  · obtain ⟨T, ps, rs, rfl, hT, hp, hl, ke, k⟩ := h
    have hris_misplaced : Room 1 _ := hr.mono (by decide)
    have hrE : Room 2 _ := hr.mono (by decide)
    refine ⟨_, (pss_cons (ps_set (i := 1) scplaces_by_name.nd rfl (Or.inl rfl) pe_dnewK)
        (pss_cons (ps_for (passes_of rfl) rfl (pi_tup (pv 0)) (pg_name (i := 2) scplaces_by_name.nd rfl (Or.inl rfl))
          (pss_cons (ps_if (pt_val (pe_call Gis_misplaced hris_misplaced rfl Dis_misplaced.g Dis_misplaced.F.kp Dis_misplaced.b .nil pass0 (pa_cons (pv 2) (pa_cons (pv 1) pa_nil)))) (pss_one (ps_raise rfl (takes_of rfl rfl rfl rfl) (pmk_oex RBadTree.er.ox RBadTree.er.iC RBadTree.er.tI RBadTree.G hrE RBadTree.b .nil pass0 rfl RBadTree.er.gC (pa_cons (pe_fld (pv 2) rfl) pa_nil)))) pss_nil)
        (pss_one (ps_dput (hu_of hr) (pv 1) (pe_fld (pv 2) rfl) (pv 2) (by rfl)))))
        (pss_one (ps_ret (pv 1))))), ?_⟩
    refine fun d hd => ?_
    have s0 := same_new (o := .dK []) hd
    have ed : upd H d (.dK []) d = some (.dK []) := upd_same
    generalize upd H d (.dK []) = H1 at s0 ed ⊢
    have pl : ps.length = rs.length := Paired.length hp
    refine ⟨_, rfl, T, rfl, ⟨_, SqT.of (s0 _ _ hT)⟩, for_tup (K := K) (a := T) (xs := ps) (fun i σ H' => ∃ (u : Option V) (kvs : List (Key × V)), σ = [some (.ref T), some (.ref d), u] ∧ Same H H' ∧ H' d = some (.dK kvs) ∧ PlKv a H' kvs (rs.take i) ∧ firstBad (rs.take i) (rs.drop i) = firstBad [] rs ∧ kvs.map (·.2) = ps.take i)
      ⟨_, [], rfl, s0, ed, .nil, rfl, rfl⟩ (fun i σ H' _ ⟨_, _, _, s, _⟩ => sameT s (SqT.of hT)) ?_ ?_⟩
    · rintro i v σ H2 hi ⟨u, kvs, rfl, s, e2, hk, hb, ek⟩
      obtain ⟨r, hr', x, dx, rfl, hx⟩ := Paired.ix hp hi
      have li : i < rs.length := by
        have := (List.getElem?_eq_some_iff.mp hi).1
        omega
      have hx2 := s _ _ hx
      have dr : rs.drop i = r :: rs.drop (i + 1) := by
        rw [List.drop_eq_getElem_cons li]
        congr 1
        rw [List.getElem?_eq_getElem li] at hr'
        exact Option.some.inj hr'
      have tk : rs.take (i + 1) = rs.take i ++ [r] := by rw [List.take_add_one, hr']; rfl
      rw [dr] at hb
      have hb' : (if mis (rs.take i) r = true then some r else firstBad (rs.take i ++ [r]) (rs.drop (i + 1))) = firstBad [] rs := hb
      refine ⟨_, rfl, _, rfl, x, dx, d, r, rs.take i, kvs, rfl, hx2, e2, hk, Nat.le_trans (List.length_take_le' _ _) (by omega), fun H3 s3 => ⟨_, rfl, ?_⟩⟩
      cases hm : mis (rs.take i) r with
      | true =>
        rw [if_pos hm] at hb'
        exact iteT ⟨_, rfl, x, _, dx, _, _, rfl, s3 _ _ hx2, KN.ip.cl, KN.pn, plF_n, (by show 1 ≤ 1000; decide), LX.err_out (n := 1) (ws := [_]) rfl (ke r H3 hb'.symm (s.trans s3)).bt⟩
      | false =>
        rw [if_neg (by rw [hm]; decide)] at hb'
        have e3 := s3 _ _ e2
        have hk3 := hk.ki (Ki.same s3)
        have kn := kv_none hk3 (mis_has hm)
        refine iteF ⟨_, rfl, _, rfl, _, rfl, x, _, dx, _, _, rfl, s3 _ _ hx2, KN.ip.cl, KN.pn, plF_n, d, _, rfl, DPut.k (k := kS r.nm) e3 ?_, _, _, rfl, ?_, upd_same, ?_, ?_, ?_⟩
        · rw [show kvs.length = (rs.take i).length from Paired.length hk]
          exact Nat.lt_of_le_of_lt (Nat.le_trans (List.length_take_le' _ _) hl) (by decide)
        · exact fun b o e => by rw [upd_ne (ne_of_none e hd)]; exact s3 _ _ (s _ _ e)
        · rw [putK_new _ kn, tk]
          exact (hk3.ki (Ki.mut e3 rfl)).snoc ⟨rfl, x, dx, rfl, Ki.mut e3 rfl _ _ rfl (s3 _ _ hx2)⟩
        · rw [tk]
          exact hb'
        · rw [putK_new _ kn, List.map_append, ek, List.take_add_one, hi]
          rfl
    rintro σ H2 ⟨u, kvs, rfl, s, e2, hk, hb, ek⟩
    rw [List.take_length] at ek
    rw [pl, List.take_length] at hk hb
    rw [List.drop_length] at hb
    exact ⟨_, rfl, k d kvs H2 hb.symm s hd e2 hk ek⟩
end k12
namespace k12
open PySem L2 LC RM
def spTree_places (a : Ad) : Sp := fun vs H Q _ => ∃ (x : Addr) (rs : List Row), vs = [.ref x] ∧ TreeAt a H x rs ∧ ∀ p ps H', H p = none → Same H H' → H' p = some (.lst ps) → Paired (fun v r => PlV a H' r v) ps rs → Q (.ref p) H'
theorem ok_Tree_places {P : Program} {w : World} {K : PySem.W.Frag} {mg : Str → Option Value} {base : Heap} {f : Addr} {fd : FuncData} (F0 : Fun K "places" "Tree.places" sTree_places f fd) (T : Txt K mg) {a : Ad} (KN : Kn K mg a) :
    FnOk P w K mg base CX0 1 f fd PTree_places (spTree_places a) := by
  refine F0.ok scTree_places (fun vs H Q E h => ?_) (fun cdv A outer s H vs Q E hr h => ?_)
  · obtain ⟨x, rs, rfl, ⟨dx, fs, d, kvs, hx, l1, l2, hd, hk⟩, k⟩ := h
    rfl
  · obtain ⟨x, rs, rfl, ⟨dx, fs, d, kvs, hx, l1, l2, hd, hk⟩, k⟩ := h
    refine ⟨_, (pss_one (ps_ret (LD.pe_listVals rfl (by rfl) T.n_list (pe_fld (pv 0) rfl)))), ?_⟩
    refine ⟨_, rfl, x, _, dx, _, _, rfl, hx, KN.tcl, KN.tp, l1, d, kvs, rfl, hd, fun p hp => ?_⟩
    refine k p _ _ hp (same_new hp) upd_same ?_
    exact (kv_vals hk).mono fun v r q => q.ki (Ki.new hp)
end k12
namespace k12
open PySem L2 LC RM
def spTree_len (a : Ad) : Sp := fun vs H Q _ => ∃ (x : Addr) (rs : List Row), vs = [.ref x] ∧ TreeAt a H x rs ∧ Q (.int (rs.length : Nat)) H
theorem ok_Tree_len {P : Program} {w : World} {K : PySem.W.Frag} {mg : Str → Option Value} {base : Heap} {f : Addr} {fd : FuncData} (F0 : Fun K "__len__" "Tree.__len__" sTree_len f fd) (T : Txt K mg) {a : Ad} (KN : Kn K mg a) :
    FnOk P w K mg base CX0 1 f fd PTree_len (spTree_len a) := by
  refine F0.ok scTree_len (fun vs H Q E h => ?_) (fun cdv A outer s H vs Q E hr h => ?_)
  · obtain ⟨x, rs, rfl, ⟨dx, fs, d, kvs, hx, l1, l2, hd, hk⟩, k⟩ := h
    rfl
  · obtain ⟨x, rs, rfl, ⟨dx, fs, d, kvs, hx, l1, l2, hd, hk⟩, k⟩ := h
    refine ⟨_, (pss_one (ps_ret (pe_callB call_lenD (by rfl) T.n_len PySem.boot_len (pa_cons (pe_fld (pv 0) rfl) pa_nil)))), ?_⟩
    refine ⟨_, rfl, x, _, dx, _, _, rfl, hx, KN.tcl, KN.tp, l1, d, kvs, rfl, hd, ?_⟩
    rw [show kvs.length = rs.length from Paired.length hk]
    exact k
end k12
namespace k12
open PySem L2 LC RM
def spTreeI (K : PySem.W.Frag) (a : Ad) (ce : Ce) : Sp := fun vs H Q E => ∃ (x dx T : Addr) (F : Addr → Prop) (rv : V) (rok : Bool) (ps : List V) (os : List (Option Row)) (Hb : Hp), vs = [.ref x, rv, .ref T] ∧ H x = some (.ins a.T dx []) ∧ Hb x = none ∧ Same Hb H ∧ H T = some (.tup ps) ∧ ps.length ≤ 25 ∧
  RlV K a F Hb rv rok ∧ Paired (ThV K a F Hb) ps os ∧ (∀ er H', allDue rv rok os = some er → Same Hb H' → Out ce H' E er) ∧ ∀ H', allDue rv rok os = none → Same Hb H' → TreeAt a H' x (os.filterMap id) → Q .non H'
def spTree_init (K : PySem.W.Frag) (a : Ad) (ce : Ce) : Sp := fun vs H Q E => ∃ ws rest, vs = ws ++ rest ∧ ws.length = 2 ∧ rest.length ≤ sizeLine ∧ ∀ p, H p = Option.none → spTreeI K a ce (ws ++ [V.ref p]) (upd H p (.tup rest)) Q E
theorem ok_Tree_init {P : Program} {w : World} {K : PySem.W.Frag} {mg : Str → Option Value} {base : Heap} {f : Addr} {fd : FuncData} (F0 : Fun K "__init__" "Tree.__init__" sTree_init f fd) (T : Txt K mg) {a : Ad} (KN : Kn K mg a) {ce : Ce} {fdInvalidRule : FuncData} {fInvalidRule : Addr} (RInvalidRule : RE P w K mg base "InvalidRule" "value" (ivF "InvalidRule") ce.ru fInvalidRule fdInvalidRule) {fdInvalidPlace : FuncData} {fInvalidPlace : Addr} (RInvalidPlace : RE P w K mg base "InvalidPlace" "at" (atF "InvalidPlace") ce.pl fInvalidPlace fdInvalidPlace) {fdBadTree : FuncData} {fBadTree : Addr} (RBadTree : RE P w K mg base "BadTree" "place" (plcF "BadTree") ce.bt fBadTree fdBadTree) {fdTooMany : FuncData} {fTooMany : Addr} (RTooMany : RTM P w K mg base ce.tm fTooMany fdTooMany) {fplaces_by_name : Addr} {fdplaces_by_name : FuncData} (Dplaces_by_name : Def K mg "places_by_name" splaces_by_name Pplaces_by_name fplaces_by_name fdplaces_by_name) (Gplaces_by_name : FnOk P w K mg base (L2.CX P w) 3 fplaces_by_name fdplaces_by_name Pplaces_by_name (spplaces_by_name a ce))
    {fcheck_count : Addr} {fdcheck_count : FuncData} (Dcheck_count : Def K mg "check_count" scheck_count Pcheck_count fcheck_count fdcheck_count) (Gcheck_count : FnOk P w K mg base (L2.CX P w) 3 fcheck_count fdcheck_count Pcheck_count (spcheck_count ce)) :
    FnR P w K mg base (L2.CX P w) 5 f (spTree_init K a ce) := by
  obtain ⟨oc, od, kV, doc, pm, an, cdv, ct, osl, rfl, lk, hcd⟩ := F0.ex
  refine StX.fn_star (sp := spTreeI K a ce) (ps := ["self", "rule"]) lk hcd scTree_init StX.cxUp (StX.bind_star2 (B := fun us => bindArgs (PySem.W.fnOf "__init__" "Tree.__init__" (defArgs sTree_init) (defBody sTree_init) (defScope sTree_init) .none kV doc pm an cdv ct) ⟨us, []⟩) (p1 := "self") (p2 := "rule") (pv := "places") (fun _ _ => rfl) (fun _ _ _ _ => rfl)) (fun A outer s H vs Q E hr h => ?_)
  obtain ⟨x, dx, tp, F, rv, rok, ps, os, Hb, rfl, hx, hb, sb, hT, hl, hr', ho, ke, k⟩ := h
  have hrE : Room 2 _ := hr.mono (by decide)
  have hrplaces_by_name : Room 3 _ := hr.mono (by decide)
  have hrcheck_count : Room 3 _ := hr.mono (by decide)
  obtain ⟨tc_MOST_PLACES, hc_MOST_PLACES⟩ := T.c_MOST_PLACES
  refine ⟨_, (pss_cons (ps_if (pt_not (pt_val (pe_callB (show CallR _ (.builtin "isinstance") (rIsi K) from call_isi) (by rfl) T.n_isinstance (by decide +kernel) (pa_cons (pv 1) (pa_cons (pe_glob rfl KN.gRule (show RelV (.ref a.r) _ from rfl)) pa_nil))))) (pss_one (ps_raise rfl (takes_of rfl rfl rfl rfl) (pmk_oex RInvalidRule.er.ox RInvalidRule.er.iC RInvalidRule.er.tI RInvalidRule.G hrE RInvalidRule.b .nil pass0 rfl RInvalidRule.er.gC (pa_cons (pv 1) pa_nil)))) pss_nil)
        (pss_cons (ps_for (passes_of rfl) rfl (LN.pi_enumT (by rfl) T.n_enumerate (pa_cons (pv 2) pa_nil)) ((pg_tup rfl (pgs_cons (pg_name (i := 3) scTree_init.nd rfl (Or.inl rfl)) (pgs_cons (pg_name (i := 4) scTree_init.nd rfl (Or.inl rfl)) pgs_nil))))
          (pss_one (ps_if (pt_not (pt_val (pe_callB (show CallR _ (.builtin "isinstance") (rIsi K) from call_isi) (by rfl) T.n_isinstance (by decide +kernel) (pa_cons (pv 4) (pa_cons (pe_glob rfl KN.gPlace (show RelV (.ref a.P) _ from rfl)) pa_nil))))) (pss_one (ps_raise rfl (takes_of rfl rfl rfl rfl) (pmk_oex RInvalidPlace.er.ox RInvalidPlace.er.iC RInvalidPlace.er.tI RInvalidPlace.G hrE RInvalidPlace.b .nil pass0 rfl RInvalidPlace.er.gC (pa_cons (pv 3) pa_nil)))) pss_nil)))
        (pss_cons (ps_if (pt_cmpR op_eq (pe_callB call_len_seq (by rfl) T.n_len PySem.boot_len (pa_cons (pv 2) pa_nil)) pe_int (nomark _)) (pss_one (ps_raise rfl (takes_of rfl rfl rfl rfl) (pmk_oex RBadTree.er.ox RBadTree.er.iC RBadTree.er.tI RBadTree.G hrE RBadTree.b .nil pass0 rfl RBadTree.er.gC (pa_cons pe_non pa_nil)))) pss_nil)
        (pss_cons (ps_expr (pe_call Gcheck_count hrcheck_count rfl Dcheck_count.g Dcheck_count.F.kp Dcheck_count.b .nil (passes_call (takes_of rfl rfl rfl rfl) fun _ _ _ _ h => h) (pa_cons pe_str (pa_cons (pe_callB call_len_seq (by rfl) T.n_len PySem.boot_len (pa_cons (pv 2) pa_nil)) (pa_cons (pe_gint rfl hc_MOST_PLACES) pa_nil)))))
        (pss_cons (ps_fld (pv 0) (pv 1) rfl)
        (pss_cons (ps_fld (pv 0) (pe_call Gplaces_by_name hrplaces_by_name rfl Dplaces_by_name.g Dplaces_by_name.F.kp Dplaces_by_name.b .nil (passes_call (takes_of rfl rfl rfl rfl) fun _ _ _ _ h => h) (pa_cons (pv 2) pa_nil)) rfl)
        (pss_cons (ps_fld (pv 0) (pe_dc (own := [("place", 4)]) (g := gName 4) (tt := tYes) rfl scTree_init.nd (pi_tup (pv 2)) (blkOk_by (own := [("place", 4)]) (N := NmTree_init) (sc := defScope sTree_init) (by decide +kernel)) (fun _ _ _ _ _ => pg_name (i := 4) scTree_init.nd rfl (Or.inl rfl)) (fun _ _ _ _ _ => pts_nil) (fun _ _ _ _ _ => (show PE _ _ (tFld K _ "name") from pe_fld (pv 4) rfl)) (fun _ _ _ _ _ => (pe_lst pa_nil))) rfl)
        (pss_cons (ps_fld (pv 0) pe_dnewK rfl)
        (pss_one (ps_for (passes_of rfl) rfl (pi_tup (pv 2)) (pg_name (i := 4) scTree_init.nd rfl (Or.inl rfl))
          (Evl.pss_cut (ps_if (pt_cmpR op_notN (pe_fld (pv 4) rfl) pe_non (nomark _)) (pss_one (ps_expr (pe_bm PySem.F.plainAttrs_list PySem.F.slot_list_append PySem.F.type_list_append mt_append (pe_dget (hu_of hr) (pe_fld (pv 0) rfl) (pe_fld (pv 4) rfl) (fun _ _ => rfl)) (pa_cons (pe_fld (pv 4) rfl) pa_nil)))) pss_nil)
        (pss_one (ps_expr (pe_dsetd (pe_fld (pv 0) rfl) (pe_fld (pv 4) rfl) (pe_fld (pv 4) rfl) ⟨rfl, rfl, rfl, rfl⟩)))))))))))))), ?_⟩
  cases rok with
  | false =>
    obtain ⟨t, tx, kt⟩ := Ot.is KN KN.tbr (Ot.kp (KpF.same sb) (Ki.same sb) hr')
    exact ⟨_, rfl, _, _, _, _, _, rfl, .own _, tx, kt, _, rfl, iteT ⟨_, rfl, (by show 1 ≤ 1000; decide), LX.err_out (n := 1) (ws := [_]) rfl (ke ("InvalidRule", [rv]) H (by unfold allDue; rw [if_pos rfl]) sb).ru⟩⟩
  | true =>
  refine ⟨_, rfl, _, _, _, _, _, rfl, .own _, ((Iv.ki (Ki.same sb) hr').ty KN).2, KN.krr, _, rfl, iteF ?_⟩
  refine ⟨_, rfl, _, _, rfl, SqT.of hT, for_it (LN.walk_enumT (K := K) (a := tp) (xs := ps)) (fun i σ H' => ∃ (v3 v4 : Option V), σ = [some (.ref x), some rv, some (.ref tp), v3, v4] ∧ Same H H' ∧ firstNone i (os.drop i) = firstNone 0 os)
    ⟨none, none, rfl, Same.refl _, rfl⟩ (fun i σ H' _ ⟨_, _, _, s, _⟩ => sameT s (SqT.of hT)) ?_ ?_⟩
  · rintro i y σ H2 H3 hi ⟨v3, v4, rfl, s, fb⟩ ⟨Tq, x1, x2, rfl, hTq, rfl, q1, q2⟩
    cases q1
    obtain ⟨o, hoi, th⟩ := Paired.ix ho q2
    have li : i < os.length := by
      have := (List.getElem?_eq_some_iff.mp hoi).1
      exact this
    have dr : os.drop i = o :: os.drop (i + 1) := by
      rw [List.drop_eq_getElem_cons li]
      congr 1
      rw [List.getElem?_eq_getElem li] at hoi
      exact Option.some.inj hoi
    rw [dr] at fb
    have s3 := (sb.trans s).trans (same_new (o := .tup [.int (i : Nat), x2]) hTq)
    refine ⟨Tq, _, rfl, SqT.of upd_same, rfl, _, _, rfl, _, _, rfl, rfl, ?_⟩
    have th3 := ThV.kp (KpF.same s3) (Ki.same s3) th
    cases o with
    | none =>
      have fb' : some i = firstNone 0 os := fb
      obtain ⟨t, tx, kt⟩ := Ot.is KN KN.tbP th3
      exact ⟨_, rfl, _, _, _, _, _, rfl, .own _, tx, kt, _, rfl, iteT ⟨_, rfl, (by show 1 ≤ 1000; decide), LX.err_out (n := 1) (ws := [_]) rfl (ke ("InvalidPlace", [.int (i : Nat)]) _ (by unfold allDue; rw [if_neg (by decide), ← fb']) s3).pl⟩⟩
    | some r =>
      obtain ⟨p, dp, rfl, hp⟩ := th3
      exact ⟨_, rfl, _, _, _, _, _, rfl, .own _, ((Iv.p (a := a) hp).ty KN).2, KN.kPP, _, rfl, iteF ⟨_, _, rfl, s.trans (same_new hTq), fb⟩⟩
  rintro σ H2 ⟨v3, v4, rfl, s, fb⟩
  have pl : ps.length = os.length := Paired.length ho
  rw [pl, List.drop_length] at fb
  have fn : firstNone 0 os = none := fb.symm
  rw [iT_due fn] at ke k
  have hP := th_all ho fn
  generalize os.filterMap id = rs at ke k hP
  have lr : ps.length = rs.length := Paired.length hP
  have sb2 := sb.trans s
  have hT2 := s _ _ hT
  refine ⟨_, rfl, tp, ps, rfl, .inr (SqT.of hT2), rfl, _, rfl, ?_⟩
  by_cases c0 : rs = []
  · refine ite_d (fun _ => ?_) (fun h => absurd (by rw [lr, c0]; rfl) h)
    exact ⟨(by show 1 ≤ 1000; decide), LX.err_out (n := 1) (ws := [_]) rfl (ke ("BadTree", [.non]) H2 (by unfold treeDue; rw [if_pos c0]) sb2).bt⟩
  refine ite_d (fun h => absurd (List.length_eq_zero_iff.mp (by have := V.int.inj h; omega)) c0) (fun _ => ?_)
  refine ⟨_, rfl, tp, ps, rfl, .inr (SqT.of hT2), _, _, _, rfl, ?_⟩
  by_cases c1 : rs.length ≤ 24
  rotate_left
  · exact .inr ⟨by omega, by rw [lr]; exact ke ("TooMany", [.str "places", .int rs.length]) H2 (by unfold treeDue; rw [if_neg c0, if_pos (by omega)]) sb2⟩
  refine .inl ⟨by omega, ?_⟩
  have td : treeDue rs = match firstBad [] rs with | some r => some ("BadTree", [.str r.nm]) | none => none := by
    unfold treeDue
    rw [if_neg c0, if_neg (by omega)]
    all_goals (cases firstBad [] rs <;> rfl)
  have hx2 := s _ _ hx
  have nT : tp ≠ x := fun z => by rw [z, hx] at hT; cases hT
  refine ⟨_, rfl, _, rfl, x, _, dx, _, rfl, hx2, KN.tcl, KN.tr, (by show 0 < 1000; decide), ?_⟩
  have kx1 : ∀ b o, b ≠ x → H b = some o → upd H2 x (.ins a.T dx (putF "rule" rv [])) b = some o := fun b o n e => by rw [upd_ne n]; exact s _ _ e
  have ex1 : upd H2 x (.ins a.T dx (putF "rule" rv [])) x = some (.ins a.T dx (putF "rule" rv [])) := upd_same
  generalize upd H2 x (.ins a.T dx (putF "rule" rv [])) = H3 at kx1 ex1 ⊢
  have nb : ∀ b o, Hb b = some o → b ≠ x := fun b o e => ne_of_none e hb
  have sx : ∀ {Hz : Hp}, (∀ b o, b ≠ x → H b = some o → Hz b = some o) → Same Hb Hz := fun k b o e => k b o (nb b o e) (sb b o e)
  have sb3 := sx kx1
  refine ⟨_, rfl, tp, ps, rs, rfl, kx1 _ _ nT hT, hP.mono (fun v r q => q.ki (Ki.same sb3)), by omega, fun r H' e s' => ke _ H' (by rw [td, e]) (sb3.trans s'), fun d kvs H4 fbn s4 nd ed hk ek => ?_⟩
  have nH : ∀ {Hz : Hp} {b : Addr}, (∀ c o, c ≠ x → H c = some o → Hz c = some o) → (∃ o, Hz x = some o) → Hz b = none → H b = none ∧ b ≠ x := fun {Hz b} k ⟨o, e⟩ h => by
    have n : b ≠ x := fun z => by rw [z, e] at h; cases h
    refine ⟨?_, n⟩
    cases q : H b with
    | none => rfl
    | some u => rw [k _ _ n q] at h; cases h
  obtain ⟨hd0, ndx⟩ := nH kx1 ⟨_, ex1⟩ nd
  refine ⟨_, rfl, x, _, dx, _, rfl, s4 _ _ ex1, KN.tcl, KN.tp, (by show 1 < 1000; decide), ?_⟩
  have kx4 : ∀ b o, b ≠ x → H b = some o → upd H4 x (.ins a.T dx (putF "_places" (.ref d) (putF "rule" rv []))) b = some o := fun b o n e => by rw [upd_ne n]; exact s4 _ _ (kx1 _ _ n e)
  have ex4 : upd H4 x (.ins a.T dx (putF "_places" (.ref d) (putF "rule" rv []))) x = some (.ins a.T dx (putF "_places" (.ref d) (putF "rule" rv []))) := upd_same
  have ed4 : upd H4 x (.ins a.T dx (putF "_places" (.ref d) (putF "rule" rv []))) d = some (.dK kvs) := by rw [upd_ne ndx]; exact ed
  generalize upd H4 x (.ins a.T dx (putF "_places" (.ref d) (putF "rule" rv []))) = H5 at kx4 ex4 ed4 ⊢
  have SqH : ∀ {Hz : Hp}, (∀ c o, c ≠ x → H c = some o → Hz c = some o) → SqT K Hz tp ps := fun k => SqT.of (k _ _ nT hT)
  -- the children
  refine ⟨_, rfl, tp, rfl, ⟨_, SqH kx4⟩, fun C hC => ?_⟩
  obtain ⟨hC0, nCx⟩ := nH kx4 ⟨_, ex4⟩ hC
  have s5 := same_new (o := .dK []) hC
  refine dc_tup (K := K) (a := tp) (xs := ps) (fun i H' => Same H5 H' ∧ ∃ ck, H' C = some (.dK ck) ∧ ck.length ≤ i ∧ ∀ r ∈ rs.take i, ∃ L, valV ck (kS r.nm) = some (.ref L) ∧ H L = none ∧ L ≠ x ∧ H' L = some (.lst [])) ⟨s5, [], upd_same, Nat.le_refl _, fun r h => (by cases h)⟩ (fun i H' _ ⟨s', _⟩ => sameT s' (SqH kx4)) ?_ ?_
  · rintro i v H6 hi ⟨s6, ck, eC, lc, hc⟩
    obtain ⟨r, hri, p, dp, rfl, hp⟩ := Paired.ix hP hi
    have hp6 := s6 _ _ (kx4 _ _ (nb _ _ hp) (sb _ _ hp))
    have li : i < rs.length := (List.getElem?_eq_some_iff.mp hri).1
    refine ⟨rfl, _, rfl, p, _, dp, _, _, rfl, hp6, KN.ip.cl, KN.pn, plF_n, (by show 0 ≤ sizeLine; decide), fun L hL => ?_⟩
    have kx6 : ∀ b o, b ≠ x → H b = some o → H6 b = some o := fun b o n e => s6 _ _ (kx4 _ _ n e)
    obtain ⟨hL0, nLx⟩ := nH kx6 ⟨_, s6 _ _ ex4⟩ hL
    have nCL : C ≠ L := ne_of_none eC hL
    have s7 := same_new (o := .lst []) hL
    refine ⟨ck, kS r.nm, rfl, s7 _ _ eC, Nat.lt_of_le_of_lt lc (Nat.lt_of_lt_of_le (show i < 25 by omega) (by decide)), fun b o e => ?_, _, upd_same, Nat.le_trans (length_putK _ _ _) (Nat.succ_le_succ lc), fun q hq => ?_⟩
    · rw [upd_ne (ne_of_none e hC)]
      exact s7 _ _ (s6 _ _ e)
    · by_cases en : q.nm = r.nm
      · refine ⟨L, ?_, hL0, nLx, ?_⟩
        · rw [valV_put, if_pos (by rw [en])]
        · rw [upd_ne (Ne.symm nCL)]
          exact upd_same
      · have hq' : q ∈ rs.take i := by
          rw [List.take_add_one, hri] at hq
          rcases List.mem_append.mp hq with h | h
          · exact h
          · rw [List.mem_singleton.mp h] at en
            exact absurd rfl en
        obtain ⟨L', e1, e2, e3, e4⟩ := hc q hq'
        have nCL' : L' ≠ C := fun z => by rw [z, eC] at e4; cases e4
        refine ⟨L', ?_, e2, e3, ?_⟩
        · rw [valV_put, if_neg (show ¬ kS q.nm = kS r.nm from fun z => en (Sum.inr.inj z))]
          exact e1
        · rw [upd_ne nCL']
          exact s7 _ _ e4
  rintro H6 ⟨s6, ck, eC, lc, hc⟩
  rw [lr, List.take_length] at hc
  refine ⟨_, rfl, x, _, dx, _, rfl, s6 _ _ ex4, KN.tcl, KN.tc, (by show 2 < 1000; decide), ?_⟩
  have kx7 : ∀ b o, b ≠ x → H b = some o → upd H6 x (.ins a.T dx (putF "_children" (.ref C) (putF "_places" (.ref d) (putF "rule" rv [])))) b = some o := fun b o n e => by rw [upd_ne n]; exact s6 _ _ (kx4 _ _ n e)
  have ex7 : upd H6 x (.ins a.T dx (putF "_children" (.ref C) (putF "_places" (.ref d) (putF "rule" rv [])))) x = some (.ins a.T dx (putF "_children" (.ref C) (putF "_places" (.ref d) (putF "rule" rv [])))) := upd_same
  have ed7 : upd H6 x (.ins a.T dx (putF "_children" (.ref C) (putF "_places" (.ref d) (putF "rule" rv [])))) d = some (.dK kvs) := by rw [upd_ne ndx]; exact s6 _ _ ed4
  have eC7 : upd H6 x (.ins a.T dx (putF "_children" (.ref C) (putF "_places" (.ref d) (putF "rule" rv [])))) C = some (.dK ck) := by rw [upd_ne nCx]; exact eC
  have hc7 : ∀ r ∈ rs, ∃ L, valV ck (kS r.nm) = some (.ref L) ∧ H L = none ∧ L ≠ x ∧ upd H6 x (.ins a.T dx (putF "_children" (.ref C) (putF "_places" (.ref d) (putF "rule" rv [])))) L = some (.lst []) := fun r hr => by
    obtain ⟨L, e1, e2, e3, e4⟩ := hc r hr
    exact ⟨L, e1, e2, e3, by rw [upd_ne e3]; exact e4⟩
  generalize upd H6 x (.ins a.T dx (putF "_children" (.ref C) (putF "_places" (.ref d) (putF "rule" rv [])))) = H7 at kx7 ex7 ed7 eC7 hc7 ⊢
  -- the tops
  refine fun O hO => ?_
  obtain ⟨hO0, nOx⟩ := nH kx7 ⟨_, ex7⟩ hO
  have s8 := same_new (o := .dK []) hO
  refine ⟨_, rfl, x, _, dx, _, rfl, s8 _ _ ex7, KN.tcl, KN.tt, (by show 3 < 1000; decide), ?_⟩
  have kx9 : ∀ b o, b ≠ x → H b = some o → upd (upd H7 O (.dK [])) x (.ins a.T dx (putF "_tops" (.ref O) (putF "_children" (.ref C) (putF "_places" (.ref d) (putF "rule" rv []))))) b = some o := fun b o n e => by rw [upd_ne n]; exact s8 _ _ (kx7 _ _ n e)
  have ex9 : upd (upd H7 O (.dK [])) x (.ins a.T dx (putF "_tops" (.ref O) (putF "_children" (.ref C) (putF "_places" (.ref d) (putF "rule" rv []))))) x = some (.ins a.T dx (trF rv d C O)) := upd_same
  have ed9 : upd (upd H7 O (.dK [])) x (.ins a.T dx (putF "_tops" (.ref O) (putF "_children" (.ref C) (putF "_places" (.ref d) (putF "rule" rv []))))) d = some (.dK kvs) := by rw [upd_ne ndx]; exact s8 _ _ ed7
  have eC9 : upd (upd H7 O (.dK [])) x (.ins a.T dx (putF "_tops" (.ref O) (putF "_children" (.ref C) (putF "_places" (.ref d) (putF "rule" rv []))))) C = some (.dK ck) := by rw [upd_ne nCx]; exact s8 _ _ eC7
  have eO9 : upd (upd H7 O (.dK [])) x (.ins a.T dx (putF "_tops" (.ref O) (putF "_children" (.ref C) (putF "_places" (.ref d) (putF "rule" rv []))))) O = some (.dK []) := by rw [upd_ne nOx]; exact upd_same
  have hc9 : ∀ r ∈ rs, ∃ L ys, valV ck (kS r.nm) = some (.ref L) ∧ H L = none ∧ upd (upd H7 O (.dK [])) x (.ins a.T dx (putF "_tops" (.ref O) (putF "_children" (.ref C) (putF "_places" (.ref d) (putF "rule" rv []))))) L = some (.lst ys) ∧ ys.length ≤ 0 := fun r hr => by
    obtain ⟨L, e1, e2, e3, e4⟩ := hc7 r hr
    exact ⟨L, [], e1, e2, (by rw [upd_ne e3]; exact s8 _ _ e4), Nat.le_refl _⟩
  have nCO : C ≠ O := ne_of_none eC7 hO
  have ndO : d ≠ O := ne_of_none ed7 hO
  generalize upd (upd H7 O (.dK [])) x (.ins a.T dx (putF "_tops" (.ref O) (putF "_children" (.ref C) (putF "_places" (.ref d) (putF "rule" rv []))))) = H9 at kx9 ex9 ed9 eC9 eO9 hc9 ⊢
  refine ⟨_, rfl, tp, rfl, ⟨_, SqH kx9⟩, for_tup (K := K) (a := tp) (xs := ps) (fun i σ H' => (∃ v4 : Option V, σ = [some (.ref x), some rv, some (.ref tp), v3, v4]) ∧ (∀ b o, b ≠ x → H b = some o → H' b = some o) ∧ H' x = some (.ins a.T dx (trF rv d C O)) ∧ H' d = some (.dK kvs) ∧ H' C = some (.dK ck) ∧ (∃ tk, H' O = some (.dK tk) ∧ tk.length ≤ i) ∧ ∀ r ∈ rs, ∃ L ys, valV ck (kS r.nm) = some (.ref L) ∧ H L = none ∧ H' L = some (.lst ys) ∧ ys.length ≤ i)
    ⟨⟨_, rfl⟩, kx9, ex9, ed9, eC9, ⟨[], eO9, Nat.le_refl _⟩, hc9⟩ (fun i σ H' _ ⟨_, k', _⟩ => SqH k') ?_ ?_⟩
  · rintro i v σ H10 hi ⟨⟨v4', rfl⟩, kx, ex, ed', eC', ⟨tk, eO, lt⟩, hc'⟩
    obtain ⟨r, hri, p, dp, rfl, hp⟩ := Paired.ix hP hi
    have li : i < rs.length := (List.getElem?_eq_some_iff.mp hri).1
    have hp10 := kx _ _ (nb _ _ hp) (sb _ _ hp)
    have elder : ∀ e, r.el = some e → ∃ L ys, valV ck (kS e) = some (.ref L) ∧ H L = none ∧ H10 L = some (.lst ys) ∧ ys.length ≤ i := fun e he => by
      obtain ⟨q, hq, en⟩ := has_mem (fb_elder fbn r (List.mem_of_getElem? hri) e he)
      rw [← en]
      exact hc' q hq
    have nLO : ∀ {Hz : Hp} {L : Addr} {ys : List V} {u : List (Key × V)} {b : Addr}, Hz b = some (.dK u) → Hz L = some (.lst ys) → b ≠ L := fun h1 h2 z => by rw [z, h2] at h1; cases h1
    refine ⟨fun σ H' => σ = [some (.ref x), some rv, some (.ref tp), v3, some (.ref p)] ∧ (∀ b o, b ≠ x → H b = some o → H' b = some o) ∧ H' x = some (.ins a.T dx (trF rv d C O)) ∧ H' d = some (.dK kvs) ∧ H' C = some (.dK ck) ∧ H' O = some (.dK tk) ∧ ∀ r ∈ rs, ∃ L ys, valV ck (kS r.nm) = some (.ref L) ∧ H L = none ∧ H' L = some (.lst ys) ∧ ys.length ≤ i + 1, ?_, ?_⟩
    · refine ⟨_, rfl, p, _, dp, _, _, rfl, hp10, KN.ip.cl, KN.pe, plF_e, rfl, _, rfl, ?_⟩
      obtain ⟨nm, sv, el, mem, cu⟩ := r
      cases el with
      | none => exact ite_nd (fun ne => absurd rfl ne) (fun _ => ⟨rfl, kx, ex, ed', eC', eO, fun q hq => by
          obtain ⟨L, ys, e1, e2, e3, e4⟩ := hc' q hq
          exact ⟨L, ys, e1, e2, e3, Nat.le_succ_of_le e4⟩⟩)
      | some e =>
        obtain ⟨L, ys, e1, e2, e3, e4⟩ := elder e rfl
        refine ite_nd (fun _ => ?_) (fun z => by cases z)
        have dg : DGet H10 C (oV (some e)) (some (.ref L)) := e1 ▸ DGet.k (k := kS e) eC'
        have nL : ∀ b o, b ≠ x → H b = some o → b ≠ L := fun b o _ h => ne_of_none h e2
        refine ⟨_, rfl, x, _, dx, _, _, rfl, ex, KN.tcl, KN.tc, trF_c, _, rfl, p, _, dp, _, _, rfl, hp10, KN.ip.cl, KN.pe, plF_e, C, V.ref L, rfl, dg, .inl ⟨rfl, _, SqL.of e3⟩, _, rfl, p, _, dp, _, _, rfl, hp10, KN.ip.cl, KN.pn, plF_n, L, _, _, rfl, rfl, e3, Nat.lt_of_le_of_lt e4 (Nat.lt_of_lt_of_le (show i < 25 by omega) (by decide)), ?_⟩
        refine ⟨rfl, fun b o n h => by rw [upd_ne (nL b o n h)]; exact kx b o n h, ?_, by rw [upd_ne (nLO ed' e3)]; exact ed', by rw [upd_ne (nLO eC' e3)]; exact eC', by rw [upd_ne (nLO eO e3)]; exact eO, fun q hq => ?_⟩
        · rw [upd_ne (fun z => by rw [z, e3] at ex; cases ex)]
          exact ex
        · obtain ⟨L', zs, f1, f2, f3, f4⟩ := hc' q hq
          by_cases hL : L' = L
          · subst hL
            rw [e3] at f3
            cases f3
            exact ⟨L', _, f1, f2, upd_same, by rw [List.length_append]; exact Nat.succ_le_succ e4⟩
          · exact ⟨L', zs, f1, f2, by rw [upd_ne hL]; exact f3, Nat.le_succ_of_le f4⟩
    rintro σ H11 ⟨rfl, kx, ex, ed', eC', eO, hc'⟩
    have hp11 := kx _ _ (nb _ _ hp) (sb _ _ hp)
    refine ⟨_, rfl, x, _, dx, _, _, rfl, ex, KN.tcl, KN.tt, trF_t, O, rfl, .inl ⟨tk, .inl eO⟩, _, rfl, p, _, dp, _, _, rfl, hp11, KN.ip.cl, KN.ps, plF_s, _, rfl, p, _, dp, _, _, rfl, hp11, KN.ip.cl, KN.pn, plF_n, tk, kS r.sv, eO, rfl, Nat.lt_of_le_of_lt lt (Nat.lt_of_lt_of_le (show i < 25 by omega) (by decide)), fun v _ => ?_, fun _ => ?_⟩
    · exact ⟨⟨_, rfl⟩, kx, ex, ed', eC', ⟨tk, eO, Nat.le_succ_of_le lt⟩, hc'⟩
    · refine ⟨⟨_, rfl⟩, fun b o n h => by rw [upd_ne (ne_of_none h hO0)]; exact kx b o n h, by rw [upd_ne (Ne.symm nOx)]; exact ex, by rw [upd_ne ndO]; exact ed', by rw [upd_ne nCO]; exact eC', ⟨_, upd_same, Nat.le_trans (length_putK _ _ _) (Nat.succ_le_succ lt)⟩, fun q hq => ?_⟩
      obtain ⟨L', zs, f1, f2, f3, f4⟩ := hc' q hq
      exact ⟨L', zs, f1, f2, by rw [upd_ne (fun z => by rw [z, eO] at f3; cases f3)]; exact f3, f4⟩
  rintro σ H10 ⟨⟨v4', rfl⟩, kx, ex, ed', eC', _, hc'⟩
  have sbF := sx kx
  exact k H10 (by rw [td, fbn]) sbF ⟨dx, _, d, kvs, ex, trF_p, trF_m, ed', kv_re hk (by rw [ek]; exact hP.mono fun v r q => q.ki (Ki.same sbF))⟩
end k12
namespace k12
open PySem L2 LC RM
def spbag (K : PySem.W.Frag) : Sp := fun vs H Q _ => ∃ (a : Addr) (ns : List Int), vs = [.ref a] ∧ SqL K H a (ns.map V.int) ∧ ns.length ≤ 63 ∧ ∀ g H', H g = none → Same H H' → (∃ l, Bag l H' g) → Q (.ref g) H'
theorem ok_bag {P : Program} {w : World} {K : PySem.W.Frag} {mg : Str → Option Value} {base : Heap} {f : Addr} {fd : FuncData} (D : Def K mg "_law_bag" sbag Pbag f fd) (T : Txt K mg) :
    FnOk P w K mg base CX0 1 f fd Pbag (spbag K) := by
  refine D.F.ok scbag (fun vs H Q E h => ?_) (fun cdv A outer s H vs Q E hr h => ?_)
  · obtain ⟨a, ns, rfl, hS, hl, k⟩ := h
    rfl
  · obtain ⟨a, ns, rfl, hS, hl, k⟩ := h
    refine ⟨_, (pss_cons (ps_set (i := 1) scbag.nd rfl (Or.inl rfl) pe_int)
        (pss_cons (ps_for PassesOwn.never rfl (pi_list (pe_slice sl_list (pv 0) po_none (po_some pe_int))) (pg_name (i := 2) scbag.nd rfl (Or.inl rfl))
          (pss_one (ps_set (i := 1) scbag.nd rfl (Or.inl rfl) (pe_op op_mod (pe_callTy call_int1 (by rfl) T.n_int (by decide +kernel) (pa_cons (pe_op op_add (pe_op op_add (pe_op op_mul (pv 1) pe_int) (pe_op op_mod (pe_callTy call_int1 (by rfl) T.n_int (by decide +kernel) (pa_cons (pv 2) pa_nil)) pe_int)) pe_int) pa_nil)) pe_int))))
        (pss_one (ps_ret (pe_lst (pa_cons (pe_callTy call_list_of (by rfl) T.n_list (by decide +kernel) (pa_cons (pe_slice sl_list (pv 0) po_none (po_some pe_int)) pa_nil)) (pa_cons pe_int (pa_cons pe_int (pa_cons (pv 1) (pa_cons pe_int pa_nil)))))))))), ?_⟩
    obtain ⟨ms, hms, hml⟩ := cut_ints ns none (some 63)
    refine ⟨_, rfl, _, rfl, a, _, rfl, hS, fun p hp => ?_⟩
    rw [hms]
    have s1 : Same H (upd H p (.lst (ms.map V.int))) := same_new hp
    refine ⟨p, rfl, ⟨_, SqL.of upd_same⟩, for_list (K := K) (a := p) (xs := ms.map V.int) (fun i σ H' => ∃ (s : Int) (v : Option V), σ = [some (.ref a), some (.int s), v] ∧ 0 ≤ s ∧ s < 2147483399 ∧ Same (upd H p (.lst (ms.map V.int))) H')
      ⟨13962, none, rfl, by decide, by decide, Same.refl _⟩ (fun i σ H' _ ⟨_, _, _, _, _, R⟩ => R.seq (SqL.of upd_same)) ?_ ?_⟩
    · rintro i y σ H' hi ⟨s, v, rfl, h1, h2, R⟩
      obtain ⟨u, rfl⟩ := int_of hi
      refine ⟨_, rfl, _, _, rfl, rfl, .inr ⟨by decide, by decide⟩, _, rfl, .inl ⟨_, rfl, _, _, rfl, rfl, (by show (0 : Int) < 2147483563; decide), _, _, rfl, rfl, _, _, rfl, rfl, .inl ⟨_, rfl, _, _, rfl, rfl, (by show (0 : Int) < 2147483399; decide), ?_⟩⟩⟩
      refine ⟨_, _, rfl, Int.emod_nonneg _ (by decide), Int.emod_lt_of_pos _ (by decide), R⟩
    · rintro σ H' ⟨s, v, rfl, h1, h2, R⟩
      refine ⟨_, rfl, _, rfl, a, _, rfl, (s1.trans R).seq hS, fun q hq => ?_⟩
      rw [hms]
      refine ⟨q, _, rfl, .inl (SqL.of upd_same), fun l hl' => ?_⟩
      refine ⟨_, rfl, (by show 5 ≤ sizeLine; decide), fun g hg => ?_⟩
      have r1 : Same H' (upd H' q (.lst (ms.map V.int))) := same_new hq
      have r2 := same_new (o := .lst (ms.map V.int)) hl'
      have r3 := same_new (o := .lst [V.ref l, V.int 0, V.int 0, V.int s, V.int 0]) hg
      refine k g _ (s1.free (R.free (r1.free (r2.free hg)))) (s1.trans (R.trans (r1.trans (r2.trans r3)))) ?_
      have ne : l ≠ g := fun e => by
        rw [← e, upd_same] at hg
        cases hg
      exact ⟨l, ms, 0, 0, s, 0, upd_same, ne, by rw [upd_ne ne]; exact upd_same, Int.le_refl _, Int.natCast_nonneg _, Int.le_refl _, h1, h2⟩
end k12
namespace k12
open PySem L2 LC RM
def spdraw : Sp := fun vs H Q _ => ∃ (g l : Addr) (n : Int), vs = [.ref g, .int n] ∧ Bag l H g ∧ 0 < n ∧ n < 1073741824 ∧ ∀ (d : Int) (H' : Hp), 0 ≤ d → d < n → Ok g l H H' → Q (.int d) H'
theorem ok_draw {P : Program} {w : World} {K : PySem.W.Frag} {mg : Str → Option Value} {base : Heap} {f : Addr} {fd : FuncData} (D : Def K mg "_law_draw" sdraw Pdraw f fd) (T : Txt K mg) :
    FnOk P w K mg base CX0 1 f fd Pdraw (spdraw) := by
  refine D.F.ok scdraw (fun vs H Q E h => ?_) (fun cdv A outer s H vs Q E hr h => ?_)
  · obtain ⟨g, l, n, rfl, B, n0, n1, k⟩ := h
    rfl
  · obtain ⟨g, l, n, rfl, B, n0, n1, k⟩ := h
    refine ⟨_, (pss_cons (ps_asg (pe_op op_add (pe_ix ix_list (pv 0) pe_int (fun _ _ => rfl)) pe_int) (pg_sub (pv 0) pe_int set_list))
        (Evl.pss_cut (ps_if (PW.pt (pw_and (pt_cmpR op_eq (pe_ix ix_list (pv 0) pe_int (fun _ _ => rfl)) pe_int (nomark _)) (pw_and1 (pt_cmpR op_lt (pe_ix ix_list (pv 0) pe_int (fun _ _ => rfl)) (pe_callB call_len (by rfl) T.n_len PySem.boot_len (pa_cons (pe_ix ix_list (pv 0) pe_int (fun _ _ => rfl)) pa_nil)) (nomark _))))) (pss_cons (ps_set (i := 2) scdraw.nd rfl (Or.inl rfl) (pe_ix ix_list (pe_ix ix_list (pv 0) pe_int (fun _ _ => rfl)) (pe_ix ix_list (pv 0) pe_int (fun _ _ => rfl)) (fun _ _ => rfl)))
        (pss_cons (ps_asg (pe_op op_add (pe_ix ix_list (pv 0) pe_int (fun _ _ => rfl)) pe_int) (pg_sub (pv 0) pe_int set_list))
        (pss_one (ps_if (pt_cmpR op_ge (pv 2) (pe_op op_pow pe_int pe_int) (nomark _)) (pss_one (ps_asg (pv 2) (pg_sub (pv 0) pe_int set_list))) (pss_one (ps_asg (pe_op op_mod (pe_callTy call_int1 (by rfl) T.n_int (by decide +kernel) (pa_cons (pe_op op_add (pe_op op_add (pe_op op_mul (pe_ix ix_list (pv 0) pe_int (fun _ _ => rfl)) pe_int) (pe_op op_mul (pe_op op_mod (pe_callTy call_int1 (by rfl) T.n_int (by decide +kernel) (pa_cons (pv 2) pa_nil)) pe_int) pe_int)) pe_int) pa_nil)) pe_int) (pg_sub (pv 0) pe_int set_list))))))) pss_nil)
        (pss_cons (ps_if (pt_cmpR op_gt (pe_ix ix_list (pv 0) pe_int (fun _ _ => rfl)) pe_int (nomark _)) (pss_cons (ps_set (i := 3) scdraw.nd rfl (Or.inl rfl) (pe_op op_modN (pe_callTy call_int1 (by rfl) T.n_int (by decide +kernel) (pa_cons (pe_ix ix_list (pv 0) pe_int (fun _ _ => rfl)) pa_nil)) (pv 1)))
        (pss_cons (ps_asg (pe_op op_fdivN (pe_ix ix_list (pv 0) pe_int (fun _ _ => rfl)) (pv 1)) (pg_sub (pv 0) pe_int set_list))
        (pss_one (ps_ret (pv 3))))) pss_nil)
        (pss_cons (ps_asg (pe_op op_mod (pe_callTy call_int1 (by rfl) T.n_int (by decide +kernel) (pa_cons (pe_op op_add (pe_op op_add (pe_op op_pow (pe_ix ix_list (pv 0) pe_int (fun _ _ => rfl)) pe_int) (pe_op op_mul (pe_ix ix_list (pv 0) pe_int (fun _ _ => rfl)) pe_int)) pe_int) pa_nil)) pe_int) (pg_sub (pv 0) pe_int set_list))
        (pss_one (ps_ret (pe_op op_modN (pe_callTy call_int1 (by rfl) T.n_int (by decide +kernel) (pa_cons (pe_op op_add (pe_op op_fdiv (pe_ix ix_list (pv 0) pe_int (fun _ _ => rfl)) pe_int) (pe_op op_mul (pe_op op_mod (pe_callTy call_int1 (by rfl) T.n_int (by decide +kernel) (pa_cons (pe_ix ix_list (pv 0) pe_int (fun _ _ => rfl)) pa_nil)) pe_int) pe_int)) pa_nil)) (pv 1)))))))), ?_⟩
    obtain ⟨ns, i, d, s, c, hg, lg, hl, i0, i1, d0, s0, s1⟩ := id B
    have up : ∀ (i' d' s' c' : Int) (H1 : Hp), Kp g H H1 → H1 l = some (.lst (ns.map V.int)) → Kp g H (upd H1 g (.lst [.ref l, .int i', .int d', .int s', .int c'])) ∧ upd H1 g (.lst [.ref l, .int i', .int d', .int s', .int c']) l = some (.lst (ns.map V.int)) :=
      fun i' d' s' c' H1 r q => ⟨r.bag, by rw [upd_ne lg]; exact q⟩
    -- b[4] = b[4] + 1
    refine ⟨_, rfl, _, _, _, _, rfl, rfl, SqL.of hg, rfl, _, _, rfl, rfl, _, rfl, g, _, _, 4, rfl, rfl, hg, rfl, ?_⟩
    obtain ⟨K1, L1⟩ := up i d s (c + 1) H (Kp.refl g H) hl
    -- the joined ways
    refine ⟨fun σ H' => ∃ (i' d' s' : Int) (v w : Option V), σ = [some (.ref g), some (.int n), v, w] ∧ H' g = some (.lst [.ref l, .int i', .int d', .int s', .int (c + 1)]) ∧ Kp g H H' ∧ H' l = some (.lst (ns.map V.int)) ∧ 0 ≤ i' ∧ i' ≤ ns.length ∧ 0 ≤ d' ∧ 0 ≤ s' ∧ s' < 2147483399, ?_, ?_⟩
    · refine ⟨_, rfl, _, _, _, _, rfl, rfl, SqL.of upd_same, rfl, rfl, _, rfl, ?_⟩
      refine ite_eq (fun e1 => ?_) (fun e1 => ?_)
      · refine ⟨_, rfl, _, _, _, _, rfl, rfl, SqL.of upd_same, rfl, _, rfl, _, _, _, _, rfl, rfl, SqL.of upd_same, rfl, _, _, rfl, .inl ⟨_, SqL.of L1, rfl⟩, _, _, rfl, rfl, _, rfl, ?_⟩
        refine ite_d (fun e2 => ?_) (fun e2 => ?_)
        · rw [List.length_map] at e2
          obtain ⟨j, rfl⟩ : ∃ j : Nat, i = (j : Int) := ⟨i.toNat, by omega⟩
          have hj : j < ns.length := by omega
          have hx : (ns.map V.int)[j]? = some (V.int ns[j]) := by rw [List.getElem?_map, List.getElem?_eq_getElem hj]; rfl
          -- item = b[0][b[1]]; b[1] = b[1] + 1
          refine ⟨_, rfl, _, _, _, _, rfl, rfl, SqL.of upd_same, rfl, _, rfl, _, _, _, _, rfl, rfl, SqL.of upd_same, rfl, _, _, _, _, rfl, rfl, SqL.of L1, atI_nat hx, ?_⟩
          refine ⟨_, rfl, _, _, _, _, rfl, rfl, SqL.of upd_same, rfl, _, _, rfl, rfl, _, rfl, g, _, _, 1, rfl, rfl, upd_same, rfl, ?_⟩
          obtain ⟨K2, L2⟩ := up ((j : Int) + 1) d s (c + 1) _ K1 L1
          refine ⟨_, rfl, _, _, rfl, rfl, ⟨by decide, by decide, by decide⟩, _, _, rfl, rfl, _, rfl, ?_⟩
          refine ite_d (fun e3 => ?_) (fun e3 => ?_)
          · refine ⟨_, rfl, _, rfl, g, _, _, 2, rfl, rfl, upd_same, rfl, ?_⟩
            obtain ⟨K3, L3⟩ := up ((j : Int) + 1) ns[j] s (c + 1) _ K2 L2
            exact ⟨_, _, _, _, _, rfl, upd_same, K3, L3, by omega, by omega, Int.le_trans (by decide) e3, s0, s1⟩
          · refine ⟨_, rfl, _, _, _, _, rfl, rfl, SqL.of upd_same, rfl, _, _, rfl, rfl, .inr ⟨by decide, by decide⟩, _, rfl, .inl ⟨_, rfl, _, _, rfl, rfl, (by show (0 : Int) < 2147483549; decide), _, _, rfl, rfl, .inr ⟨by decide, by decide⟩, _, _, rfl, rfl, _, _, rfl, rfl, .inl ⟨_, rfl, _, _, rfl, rfl, (by show (0 : Int) < 2147483399; decide), ?_⟩⟩⟩
            refine ⟨_, rfl, g, _, _, 3, rfl, rfl, upd_same, rfl, ?_⟩
            obtain ⟨K3, L3⟩ := up ((j : Int) + 1) d ((s * 69621 + ns[j] % 2147483549 * 30103 + 89) % 2147483399) (c + 1) _ K2 L2
            exact ⟨_, _, _, _, _, rfl, upd_same, K3, L3, by omega, by omega, d0, Int.emod_nonneg _ (by decide), Int.emod_lt_of_pos _ (by decide)⟩
        · exact ⟨_, _, _, _, _, rfl, upd_same, K1, L1, i0, i1, d0, s0, s1⟩
      · refine iteF ?_
        exact ⟨_, _, _, _, _, rfl, upd_same, K1, L1, i0, i1, d0, s0, s1⟩
    · rintro σ H' ⟨i', d', s', v, w, rfl, hg', K1, L1, i0, i1, d0, s0, s1⟩
      have bag : ∀ (d'' s'' : Int), 0 ≤ d'' → 0 ≤ s'' → s'' < 2147483399 → Bag l (upd H' g (.lst [.ref l, .int i', .int d'', .int s'', .int (c + 1)])) g := fun d'' s'' h1 h2 h3 =>
        ⟨ns, i', d'', s'', c + 1, upd_same, lg, by rw [upd_ne lg]; exact L1, i0, i1, h1, h2, h3⟩
      refine ⟨_, rfl, _, _, _, _, rfl, rfl, SqL.of hg', rfl, _, _, rfl, rfl, _, rfl, ?_⟩
      refine ite_d (fun e1 => ?_) (fun e1 => ?_)
      · refine ⟨_, rfl, _, _, _, _, rfl, rfl, SqL.of hg', rfl, .inl ⟨_, rfl, _, rfl, _, _, rfl, rfl, (by omega), ?_⟩⟩
        refine ⟨_, rfl, _, _, _, _, rfl, rfl, SqL.of hg', rfl, _, rfl, _, _, rfl, rfl, ⟨by omega, by omega⟩, _, rfl, g, _, _, 2, rfl, rfl, hg', rfl, _, rfl, ?_⟩
        refine k _ _ (fmod_nn _ n0) (fmod_lt _ n0) ⟨B, K1.bag, bag _ s' ?_ s0 s1⟩
        rw [Int.fdiv_eq_ediv_of_nonneg _ (Int.le_of_lt n0)]
        exact Int.ediv_nonneg d0 (Int.le_of_lt n0)
      · refine ⟨_, rfl, _, _, _, _, rfl, rfl, SqL.of hg', rfl, _, _, rfl, rfl, ⟨by decide, by decide, by omega⟩, _, rfl, _, _, _, _, rfl, rfl, SqL.of hg', rfl, _, _, rfl, rfl, .inr ⟨by decide, by decide⟩, _, _, rfl, rfl, _, _, rfl, rfl, .inl ⟨_, rfl, _, _, rfl, rfl, (by show (0 : Int) < 2147483399; decide), ?_⟩⟩
        refine ⟨_, rfl, g, _, _, 3, rfl, rfl, hg', rfl, ?_⟩
        refine ⟨_, rfl, _, _, _, _, rfl, rfl, SqL.of upd_same, rfl, _, _, rfl, rfl, ⟨by decide, by decide⟩, _, rfl, _, _, _, _, rfl, rfl, SqL.of upd_same, rfl, .inl ⟨_, rfl, _, _, rfl, rfl, (by show (0 : Int) < 7901; decide), _, _, rfl, rfl, .inr ⟨by decide, by decide⟩, _, _, rfl, rfl, .inl ⟨_, rfl, _, rfl, _, _, rfl, rfl, (by omega), ?_⟩⟩⟩
        exact k _ _ (fmod_nn _ n0) (fmod_lt _ n0) ⟨B, K1.bag, bag d' _ d0 (Int.emod_nonneg _ (by decide)) (Int.emod_lt_of_pos _ (by decide))⟩
end k12
namespace k12
open PySem L2 LC RM
inductive Src (K : PySem.W.Frag) (g : Addr) (H : Hp) : V → (V → Prop) → Prop where
  | lst {a : Addr} {xs : List V} (h : SqL K H a xs) (n : a ≠ g) (h0 : 0 < xs.length) (h1 : xs.length ≤ 1000000) : Src K g H (.ref a) fun x => x ∈ xs
  | tup {a : Addr} {xs : List V} (h : SqT K H a xs) (n : a ≠ g) (h0 : 0 < xs.length) (h1 : xs.length ≤ 1000000) : Src K g H (.ref a) fun x => x ∈ xs
  | str {z : Str} (h0 : 0 < z.length) (h1 : z.length ≤ 1000000) : Src K g H (.str z) fun x => ∃ c ∈ z.cps.toList, x = .str ⟨#[c]⟩
def spof (K : PySem.W.Frag) : Sp := fun vs H Q _ => ∃ (g l : Addr) (t : V) (F : V → Prop), vs = [.ref g, t] ∧ Bag l H g ∧ Src K g H t F ∧ ∀ x H', F x → Ok g l H H' → Q x H'
theorem ok_of {P : Program} {w : World} {K : PySem.W.Frag} {mg : Str → Option Value} {base : Heap} {f : Addr} {fd : FuncData} (D : Def K mg "_law_of" sof Pof f fd) (T : Txt K mg) {fdraw : Addr} {fddraw : FuncData} (Ddraw : Def K mg "_law_draw" sdraw Pdraw fdraw fddraw) (Gdraw : FnOk P w K mg base CX0 1 fdraw fddraw Pdraw (spdraw)) :
    FnOk P w K mg base CX0 2 f fd Pof (spof K) := by
  refine D.F.ok scof (fun vs H Q E h => ?_) (fun cdv A outer s H vs Q E hr h => ?_)
  · obtain ⟨g, l, t, F, rfl, B, S, k⟩ := h
    rfl
  · obtain ⟨g, l, t, F, rfl, B, S, k⟩ := h
    have hrdraw : Room 1 _ := hr.mono (by decide)
    refine ⟨_, (pss_one (ps_ret (pe_ix ix_seq (pv 1) (pe_call Gdraw hrdraw rfl Ddraw.g Ddraw.F.kp Ddraw.b .nil pass0 (pa_cons (pv 0) (pa_cons (pe_callB call_len (by rfl) T.n_len PySem.boot_len (pa_cons (pv 1) pa_nil)) pa_nil))) (fun _ _ => rfl)))), ?_⟩
    cases S with
    | @lst a xs h n h0 h1 =>
      refine ⟨_, rfl, _, rfl, _, rfl, _, _, rfl, .inl ⟨xs, h, rfl⟩, g, l, _, rfl, B, by omega, by omega, fun d H' d0 d1 r => ?_⟩
      obtain ⟨j, rfl⟩ : ∃ j : Nat, d = (j : Int) := ⟨d.toNat, by omega⟩
      have hj : j < xs.length := by omega
      exact .inl ⟨_, _, _, _, rfl, rfl, SqL.kp r.kp n h, atI_nat (List.getElem?_eq_getElem hj), k _ _ (List.getElem_mem hj) r⟩
    | @tup a xs h n h0 h1 =>
      refine ⟨_, rfl, _, rfl, _, rfl, _, _, rfl, .inr ⟨xs, h, rfl⟩, g, l, _, rfl, B, by omega, by omega, fun d H' d0 d1 r => ?_⟩
      obtain ⟨j, rfl⟩ : ∃ j : Nat, d = (j : Int) := ⟨d.toNat, by omega⟩
      have hj : j < xs.length := by omega
      exact .inr (.inl ⟨_, _, _, _, rfl, rfl, SqT.kp r.kp n h, atI_nat (List.getElem?_eq_getElem hj), k _ _ (List.getElem_mem hj) r⟩)
    | @str z h0 h1 =>
      have hz : z.length ≤ sizeLine := Nat.le_trans h1 (by decide)
      refine ⟨_, rfl, _, rfl, _, rfl, _, _, rfl, ⟨hz, rfl⟩, g, l, _, rfl, B, by omega, by omega, fun d H' d0 d1 r => ?_⟩
      obtain ⟨j, rfl⟩ : ∃ j : Nat, d = (j : Int) := ⟨d.toNat, by omega⟩
      have hj : j < z.cps.toList.length := by
        have e : z.cps.toList.length = z.length := rfl
        omega
      exact .inr (.inr ⟨_, _, _, rfl, rfl, hz, atI_nat (List.getElem?_eq_getElem hj), k _ _ ⟨_, List.getElem_mem hj, rfl⟩ r⟩)
/-- one of the things of a new list -/
theorem of_disp {K : PySem.W.Frag} {g l p : Addr} {H0 H : Hp} {xs : List V} {Q : VK} {E : XK} (R : Ok g l H0 H) (hp : H p = none) (h0 : 0 < xs.length) (h1 : xs.length ≤ 1000000) (k : ∀ x H', x ∈ xs → Kp g H H' → Ok g l H0 H' → Q x H') :
    spof K [.ref g, .ref p] (upd H p (.lst xs)) Q E := by
  refine ⟨g, l, .ref p, _, rfl, (R.new hp).bag, .lst (SqL.of upd_same) (R.bag.ne hp).1 h0 h1, fun x H' hx r => ?_⟩
  exact k x H' hx ((Ok.new (Ok.refl R.bag) hp).kp.trans r.kp) ((R.new hp).trans r)
end k12
namespace k12
open PySem L2 LC RM
def splike (a : Ad) (n : Nat) : Sp := fun vs H Q _ => ∃ (u v : V) (m : Nat), vs = [u, v] ∧ m < n ∧ Lq a H m u v ∧ ∀ H', Same H H' → Q (.bl true) H'
theorem no_like {a : Ad} {vs : List V} {H : Hp} {Q : VK} {E : XK} (h : splike a 0 vs H Q E) : False := by
  obtain ⟨_, _, _, _, h, _⟩ := h
  exact Nat.not_lt_zero _ h

theorem step_like {P : Program} {w : World} {K : PySem.W.Frag} {mg : Str → Option Value} {base : Heap} {f : Addr} {fd : FuncData} (D : Def K mg "_law_like" slike Plike f fd) (T : Txt K mg) {a : Ad} (KN : Kn K mg a) (OE : FnR P w K mg base CX0 1 a.fE (spRest_eq a)) (OP : FnR P w K mg base CX0 1 a.fPe (spPlace_eq a)) {n : Nat} (Glike : FnOk P w K mg base CX0 (n + 1) f fd Plike (splike a n)) :
    FnOk P w K mg base CX0 (n + 2) f fd Plike (splike a (n + 1)) := by
  refine D.F.ok sclike (fun vs H Q E h => ?_) (fun cdv A outer s H vs Q E hr h => ?_)
  · obtain ⟨u, v, m, rfl, hm, hl, k⟩ := h
    rfl
  · obtain ⟨u, v, m, rfl, hm, hl, k⟩ := h
    have Dlike := D
    have hrlike : Room (n + 1) _ := hr
    have hrQ : Room 1 _ := hr.mono (by omega)
    refine ⟨_, (pss_cons (ps_if (pt_val (pe_callB call_isiT (by rfl) T.n_isinstance (by decide +kernel) (pa_cons (pv 1) (pa_cons (pe_tup (pa_cons (pe_ty "list" (by rfl) T.n_list (by decide +kernel)) (pa_cons (pe_ty "tuple" (by rfl) T.n_tuple (by decide +kernel)) pa_nil))) pa_nil)))) (pss_cons (ps_if (PW.pt (pw_or (pt_cmpR op_ne (pe_callB call_isi (by rfl) T.n_isinstance (by decide +kernel) (pa_cons (pv 0) (pa_cons (pe_ty "list" (by rfl) T.n_list (by decide +kernel)) pa_nil))) (pe_callB call_isi (by rfl) T.n_isinstance (by decide +kernel) (pa_cons (pv 1) (pa_cons (pe_ty "list" (by rfl) T.n_list (by decide +kernel)) pa_nil))) (nomark _)) (pw_or1 (pt_cmpR op_ne (pe_callB call_isi (by rfl) T.n_isinstance (by decide +kernel) (pa_cons (pv 0) (pa_cons (pe_ty "tuple" (by rfl) T.n_tuple (by decide +kernel)) pa_nil))) (pe_callB call_isi (by rfl) T.n_isinstance (by decide +kernel) (pa_cons (pv 1) (pa_cons (pe_ty "tuple" (by rfl) T.n_tuple (by decide +kernel)) pa_nil))) (nomark _))))) (pss_one (ps_ret pe_bl)) pss_nil)
        (pss_one (ps_ret (pe_and (pe_cmpR op_eq (pe_callB call_len (by rfl) T.n_len PySem.boot_len (pa_cons (pv 0) pa_nil)) (pe_callB call_len (by rfl) T.n_len PySem.boot_len (pa_cons (pv 1) pa_nil)) (nomark _)) (pe_one (pe_callB (cr_all rfl) (by rfl) T.n_all (by decide +kernel) (pa_cons (pe_lc (own := [("_law_a", 2), ("_law_b", 3)]) (g := gTup _ 2 (gCons (gName 2) (gCons (gName 3) gNil))) (tt := tYes) rfl sclike.nd (RZ.pi_zipA (by rfl) T.n_zip (pa_cons (pv 0) (pa_cons (pv 1) pa_nil))) (blkOk_by (own := [("_law_a", 2), ("_law_b", 3)]) (N := Nmlike) (sc := defScope slike) (by decide +kernel)) (fun _ _ _ _ _ => by exact (pg_tup rfl (pgs_cons (pg_name (i := 2) sclike.nd rfl (Or.inl rfl)) (pgs_cons (pg_name (i := 3) sclike.nd rfl (Or.inl rfl)) pgs_nil)))) (fun _ _ _ _ _ => pts_nil) (fun _ _ _ _ _ => (pe_call Glike hrlike rfl Dlike.g Dlike.F.kp Dlike.b .nil pass0 (pa_cons (pv 2) (pa_cons (pv 3) pa_nil))))) pa_nil))))))) pss_nil)
        (pss_cons (ps_if (PW.pt (pw_or (pt_cmpR op_isN (pv 1) pe_non (nomark _)) (pw_or1 (pt_cmpR op_isN (pv 0) pe_non (nomark _))))) (pss_one (ps_ret (pe_and (pe_cmpR op_isN (pv 1) pe_non (nomark _)) (pe_one (pe_cmpR op_isN (pv 0) pe_non (nomark _)))))) pss_nil)
        (pss_cons (ps_if (PW.pt (pw_or (pt_val (pe_callB call_isiT (by rfl) T.n_isinstance (by decide +kernel) (pa_cons (pv 0) (pa_cons (pe_tup (pa_cons (pe_ty "list" (by rfl) T.n_list (by decide +kernel)) (pa_cons (pe_ty "tuple" (by rfl) T.n_tuple (by decide +kernel)) pa_nil))) pa_nil)))) (pw_or1 (pt_cmpR op_ne (pe_callB call_isi (by rfl) T.n_isinstance (by decide +kernel) (pa_cons (pv 0) (pa_cons (pe_ty "bool" (by rfl) T.n_bool (by decide +kernel)) pa_nil))) (pe_callB call_isi (by rfl) T.n_isinstance (by decide +kernel) (pa_cons (pv 1) (pa_cons (pe_ty "bool" (by rfl) T.n_bool (by decide +kernel)) pa_nil))) (nomark _))))) (pss_one (ps_ret pe_bl)) pss_nil)
        (pss_cons (ps_if (PW.pt (pw_or (pt_cmpR op_ne (pe_callB call_isi (by rfl) T.n_isinstance (by decide +kernel) (pa_cons (pv 0) (pa_cons (pe_ty "str" (by rfl) T.n_str (by decide +kernel)) pa_nil))) (pe_callB call_isi (by rfl) T.n_isinstance (by decide +kernel) (pa_cons (pv 1) (pa_cons (pe_ty "str" (by rfl) T.n_str (by decide +kernel)) pa_nil))) (nomark _)) (pw_or1 (pt_cmpR op_ne (pe_callB call_isi (by rfl) T.n_isinstance (by decide +kernel) (pa_cons (pv 0) (pa_cons (pe_ty "int" (by rfl) T.n_int (by decide +kernel)) pa_nil))) (pe_callB call_isi (by rfl) T.n_isinstance (by decide +kernel) (pa_cons (pv 1) (pa_cons (pe_ty "int" (by rfl) T.n_int (by decide +kernel)) pa_nil))) (nomark _))))) (pss_one (ps_ret pe_bl)) pss_nil)
        (pss_cons (ps_if (pt_cmpR op_ne (pe_callB call_isi (by rfl) T.n_isinstance (by decide +kernel) (pa_cons (pv 0) (pa_cons (pe_ty "dict" (by rfl) T.n_dict (by decide +kernel)) pa_nil))) (pe_callB call_isi (by rfl) T.n_isinstance (by decide +kernel) (pa_cons (pv 1) (pa_cons (pe_ty "dict" (by rfl) T.n_dict (by decide +kernel)) pa_nil))) (nomark _)) (pss_one (ps_ret pe_bl)) pss_nil)
        (pss_one (ps_ret (pe_callTy call_bool1 (by rfl) T.n_bool (by decide +kernel) (pa_cons (pe_cmpR (op_eqSO (n := 1) hr.units hrQ) (pv 0) (pv 1) (nomark _)) pa_nil))))))))), ?_⟩
    rcases hl.cases with ⟨rfl, hs⟩ | ⟨p, ks, rfl, rfl, hp, hok⟩ | ⟨p, rfl, rfl, hw⟩ | ⟨j, rfl, bb, p, q, xs, ys, rfl, rfl, hp, hq, hn, hz, hi⟩
    · cases u with
      | int c =>
        refine ⟨_, rfl, (by show 2 ≤ sizeLine; decide), fun t1 ht1 => ?_⟩
        have s1 := same_new (o := .tup [.ty "list", .ty "tuple"]) ht1
        refine ⟨_, t1, _, _, _, false, rfl, upd_same, .cons (.ty _) (.cons (.ty _) .nil), .base (.int c), kLT_int, _, rfl, iteF ?_⟩
        generalize upd H t1 (.tup [.ty "list", .ty "tuple"]) = H1 at s1 ⊢
        refine ⟨_, rfl, rfl, _, rfl, ite_d (fun h => by cases h) (fun _ => ⟨_, rfl, rfl, _, rfl, ite_d (fun h => by cases h) (fun _ => ?_)⟩)⟩
        refine ⟨_, rfl, (by show 2 ≤ sizeLine; decide), fun t2 ht2 => ?_⟩
        have s2 := s1.trans (same_new (o := .tup [.ty "list", .ty "tuple"]) ht2)
        refine ⟨_, t2, _, _, _, false, rfl, upd_same, .cons (.ty _) (.cons (.ty _) .nil), .base (.int c), kLT_int, _, rfl, iteF ?_⟩
        generalize upd H1 t2 (.tup [.ty "list", .ty "tuple"]) = H2 at s2 ⊢
        refine ⟨_, rfl, _, _, _, _, _, rfl, .ty _, .base (.int c), kit_ty (show kitB "int" "bool" = some false by decide +kernel), _, rfl, _, _, _, _, _, rfl, .ty _, .base (.int c), kit_ty (show kitB "int" "bool" = some false by decide +kernel), rfl, _, rfl, iteF ?_⟩
        refine ⟨_, rfl, _, _, _, _, _, rfl, .ty _, .base (.int c), kit_ty (show kitB "int" "str" = some false by decide +kernel), _, rfl, _, _, _, _, _, rfl, .ty _, .base (.int c), kit_ty (show kitB "int" "str" = some false by decide +kernel), rfl, _, rfl, iteF ?_⟩
        refine ⟨_, rfl, _, _, _, _, _, rfl, .ty _, .base (.int c), kit_ty (show kitB "int" "int" = some true by decide +kernel), _, rfl, _, _, _, _, _, rfl, .ty _, .base (.int c), kit_ty (show kitB "int" "int" = some true by decide +kernel), rfl, _, rfl, iteF ?_⟩
        refine ⟨_, rfl, _, _, _, _, _, rfl, .ty _, .base (.int c), kit_ty (show kitB "int" "dict" = some false by decide +kernel), _, rfl, _, _, _, _, _, rfl, .ty _, .base (.int c), kit_ty (show kitB "int" "dict" = some false by decide +kernel), rfl, _, rfl, iteF ?_⟩
        refine ⟨_, rfl, _, rfl, .inl (.inl ⟨rfl, .inr ⟨_, rfl, ?_⟩⟩)⟩
        rw [decide_eq_true rfl]
        exact k H2 s2
      | bl c =>
        refine ⟨_, rfl, (by show 2 ≤ sizeLine; decide), fun t1 ht1 => ?_⟩
        have s1 := same_new (o := .tup [.ty "list", .ty "tuple"]) ht1
        refine ⟨_, t1, _, _, _, false, rfl, upd_same, .cons (.ty _) (.cons (.ty _) .nil), .base (.bl c), kLT_bool, _, rfl, iteF ?_⟩
        generalize upd H t1 (.tup [.ty "list", .ty "tuple"]) = H1 at s1 ⊢
        refine ⟨_, rfl, rfl, _, rfl, ite_d (fun h => by cases h) (fun _ => ⟨_, rfl, rfl, _, rfl, ite_d (fun h => by cases h) (fun _ => ?_)⟩)⟩
        refine ⟨_, rfl, (by show 2 ≤ sizeLine; decide), fun t2 ht2 => ?_⟩
        have s2 := s1.trans (same_new (o := .tup [.ty "list", .ty "tuple"]) ht2)
        refine ⟨_, t2, _, _, _, false, rfl, upd_same, .cons (.ty _) (.cons (.ty _) .nil), .base (.bl c), kLT_bool, _, rfl, iteF ?_⟩
        generalize upd H1 t2 (.tup [.ty "list", .ty "tuple"]) = H2 at s2 ⊢
        refine ⟨_, rfl, _, _, _, _, _, rfl, .ty _, .base (.bl c), kit_ty (show kitB "bool" "bool" = some true by decide +kernel), _, rfl, _, _, _, _, _, rfl, .ty _, .base (.bl c), kit_ty (show kitB "bool" "bool" = some true by decide +kernel), rfl, _, rfl, iteF ?_⟩
        refine ⟨_, rfl, _, _, _, _, _, rfl, .ty _, .base (.bl c), kit_ty (show kitB "bool" "str" = some false by decide +kernel), _, rfl, _, _, _, _, _, rfl, .ty _, .base (.bl c), kit_ty (show kitB "bool" "str" = some false by decide +kernel), rfl, _, rfl, iteF ?_⟩
        refine ⟨_, rfl, _, _, _, _, _, rfl, .ty _, .base (.bl c), kit_ty (show kitB "bool" "int" = some true by decide +kernel), _, rfl, _, _, _, _, _, rfl, .ty _, .base (.bl c), kit_ty (show kitB "bool" "int" = some true by decide +kernel), rfl, _, rfl, iteF ?_⟩
        refine ⟨_, rfl, _, _, _, _, _, rfl, .ty _, .base (.bl c), kit_ty (show kitB "bool" "dict" = some false by decide +kernel), _, rfl, _, _, _, _, _, rfl, .ty _, .base (.bl c), kit_ty (show kitB "bool" "dict" = some false by decide +kernel), rfl, _, rfl, iteF ?_⟩
        refine ⟨_, rfl, _, rfl, .inl (.inl ⟨rfl, .inr ⟨_, rfl, ?_⟩⟩)⟩
        rw [decide_eq_true rfl]
        exact k H2 s2
      | str c =>
        refine ⟨_, rfl, (by show 2 ≤ sizeLine; decide), fun t1 ht1 => ?_⟩
        have s1 := same_new (o := .tup [.ty "list", .ty "tuple"]) ht1
        refine ⟨_, t1, _, _, _, false, rfl, upd_same, .cons (.ty _) (.cons (.ty _) .nil), .base (.str c), kLT_str, _, rfl, iteF ?_⟩
        generalize upd H t1 (.tup [.ty "list", .ty "tuple"]) = H1 at s1 ⊢
        refine ⟨_, rfl, rfl, _, rfl, ite_d (fun h => by cases h) (fun _ => ⟨_, rfl, rfl, _, rfl, ite_d (fun h => by cases h) (fun _ => ?_)⟩)⟩
        refine ⟨_, rfl, (by show 2 ≤ sizeLine; decide), fun t2 ht2 => ?_⟩
        have s2 := s1.trans (same_new (o := .tup [.ty "list", .ty "tuple"]) ht2)
        refine ⟨_, t2, _, _, _, false, rfl, upd_same, .cons (.ty _) (.cons (.ty _) .nil), .base (.str c), kLT_str, _, rfl, iteF ?_⟩
        generalize upd H1 t2 (.tup [.ty "list", .ty "tuple"]) = H2 at s2 ⊢
        refine ⟨_, rfl, _, _, _, _, _, rfl, .ty _, .base (.str c), kit_ty (show kitB "str" "bool" = some false by decide +kernel), _, rfl, _, _, _, _, _, rfl, .ty _, .base (.str c), kit_ty (show kitB "str" "bool" = some false by decide +kernel), rfl, _, rfl, iteF ?_⟩
        refine ⟨_, rfl, _, _, _, _, _, rfl, .ty _, .base (.str c), kit_ty (show kitB "str" "str" = some true by decide +kernel), _, rfl, _, _, _, _, _, rfl, .ty _, .base (.str c), kit_ty (show kitB "str" "str" = some true by decide +kernel), rfl, _, rfl, iteF ?_⟩
        refine ⟨_, rfl, _, _, _, _, _, rfl, .ty _, .base (.str c), kit_ty (show kitB "str" "int" = some false by decide +kernel), _, rfl, _, _, _, _, _, rfl, .ty _, .base (.str c), kit_ty (show kitB "str" "int" = some false by decide +kernel), rfl, _, rfl, iteF ?_⟩
        refine ⟨_, rfl, _, _, _, _, _, rfl, .ty _, .base (.str c), kit_ty (show kitB "str" "dict" = some false by decide +kernel), _, rfl, _, _, _, _, _, rfl, .ty _, .base (.str c), kit_ty (show kitB "str" "dict" = some false by decide +kernel), rfl, _, rfl, iteF ?_⟩
        refine ⟨_, rfl, _, rfl, .inl (.inl ⟨rfl, .inr ⟨_, rfl, ?_⟩⟩)⟩
        rw [decide_eq_true rfl]
        exact k H2 s2
      | non =>
        refine ⟨_, rfl, (by show 2 ≤ sizeLine; decide), fun t1 ht1 => ?_⟩
        have s1 := same_new (o := .tup [.ty "list", .ty "tuple"]) ht1
        refine ⟨_, t1, _, _, _, false, rfl, upd_same, .cons (.ty _) (.cons (.ty _) .nil), .base .non, kLT_non, _, rfl, iteF ?_⟩
        generalize upd H t1 (.tup [.ty "list", .ty "tuple"]) = H1 at s1 ⊢
        refine ⟨_, rfl, rfl, _, rfl, ite_d (fun _ => ⟨_, rfl, rfl, _, rfl, ite_d (fun _ => ⟨_, rfl, rfl, ?_⟩) (fun h => absurd rfl h)⟩) (fun h => absurd rfl h)⟩
        rw [decide_eq_true rfl]
        exact k H1 s1
      | _ => exact hs.elim
    · refine ⟨_, rfl, (by show 2 ≤ sizeLine; decide), fun t1 ht1 => ?_⟩
      have s1 := same_new (o := .tup [.ty "list", .ty "tuple"]) ht1
      refine ⟨_, t1, _, _, _, false, rfl, upd_same, .cons (.ty _) (.cons (.ty _) .nil), .base (.dK (s1 _ _ hp)), kLT_dK, _, rfl, iteF ?_⟩
      have hp1 := s1 _ _ hp
      generalize upd H t1 (.tup [.ty "list", .ty "tuple"]) = H1 at s1 hp1 ⊢
      refine ⟨_, rfl, rfl, _, rfl, ite_d (fun h => by cases h) (fun _ => ⟨_, rfl, rfl, _, rfl, ite_d (fun h => by cases h) (fun _ => ?_)⟩)⟩
      refine ⟨_, rfl, (by show 2 ≤ sizeLine; decide), fun t2 ht2 => ?_⟩
      have s2 := s1.trans (same_new (o := .tup [.ty "list", .ty "tuple"]) ht2)
      refine ⟨_, t2, _, _, _, false, rfl, upd_same, .cons (.ty _) (.cons (.ty _) .nil), .base (.dK (s2 _ _ hp)), kLT_dK, _, rfl, iteF ?_⟩
      have hp2 := s2 _ _ hp
      generalize upd H1 t2 (.tup [.ty "list", .ty "tuple"]) = H2 at s2 hp2 ⊢
      refine ⟨_, rfl, _, _, _, _, _, rfl, .ty _, .base (.dK hp2), kit_ty (show kitB "dict" "bool" = some false by decide +kernel), _, rfl, _, _, _, _, _, rfl, .ty _, .base (.dK hp2), kit_ty (show kitB "dict" "bool" = some false by decide +kernel), rfl, _, rfl, iteF ?_⟩
      refine ⟨_, rfl, _, _, _, _, _, rfl, .ty _, .base (.dK hp2), kit_ty (show kitB "dict" "str" = some false by decide +kernel), _, rfl, _, _, _, _, _, rfl, .ty _, .base (.dK hp2), kit_ty (show kitB "dict" "str" = some false by decide +kernel), rfl, _, rfl, iteF ?_⟩
      refine ⟨_, rfl, _, _, _, _, _, rfl, .ty _, .base (.dK hp2), kit_ty (show kitB "dict" "int" = some false by decide +kernel), _, rfl, _, _, _, _, _, rfl, .ty _, .base (.dK hp2), kit_ty (show kitB "dict" "int" = some false by decide +kernel), rfl, _, rfl, iteF ?_⟩
      refine ⟨_, rfl, _, _, _, _, _, rfl, .ty _, .base (.dK hp2), kit_ty (show kitB "dict" "dict" = some true by decide +kernel), _, rfl, _, _, _, _, _, rfl, .ty _, .base (.dK hp2), kit_ty (show kitB "dict" "dict" = some true by decide +kernel), rfl, _, rfl, iteF ?_⟩
      exact ⟨_, rfl, _, rfl, .inl (.inr ⟨p, ks, rfl, rfl, hp2, hok, .inr ⟨_, rfl, k H2 s2⟩⟩)⟩
    · obtain ⟨C, ic, tyi, eqi⟩ : ∃ C, IC K C ∧ (∀ H', Same H H' → TyX K H' (.ref p) (.ref C)) ∧ ∀ H' (Q : VK), Same H H' → Q (.bl true) H' → LO.rEqO (cxOf CX0 P w K mg base Nmlike "_law_like" (defScope slike) f cdv A outer s H E).nox 1 (.ref p) (.ref p) H' Q := by
        rcases hw with ⟨dx, n, hp⟩ | ⟨dx, r, hp⟩
        · exact ⟨_, KN.iw, fun H' s => ((Iv.w (a := a) (s _ _ hp)).ty KN).2, fun H' Q s q => ⟨p, _, dx, a.fE, _, _, _, rfl, s _ _ hp, ⟨KN.eW, KN.fW, OE⟩, ((Iv.w (a := a) (s _ _ hp)).ty KN).2, LO.nf_self, p, dx, n, rfl, s _ _ hp, q⟩⟩
        · exact ⟨_, KN.ip, fun H' s => ((Iv.p (a := a) (s _ _ hp)).ty KN).2, fun H' Q s q => ⟨p, _, dx, a.fPe, _, _, _, rfl, s _ _ hp, ⟨KN.eP, KN.fP, OP⟩, ((Iv.p (a := a) (s _ _ hp)).ty KN).2, LO.nf_self, p, dx, r, rfl, s _ _ hp, q⟩⟩
      refine ⟨_, rfl, (by show 2 ≤ sizeLine; decide), fun t1 ht1 => ?_⟩
      have s1 := same_new (o := .tup [.ty "list", .ty "tuple"]) ht1
      have lt := LE2.any2F (ic.bt "list" (by decide)) (ic.bt "tuple" (by decide))
      refine ⟨_, t1, _, _, _, false, rfl, upd_same, .cons (.ty _) (.cons (.ty _) .nil), tyi _ s1, lt, _, rfl, iteF ?_⟩
      generalize upd H t1 (.tup [.ty "list", .ty "tuple"]) = H1 at s1 ⊢
      refine ⟨_, rfl, rfl, _, rfl, ite_d (fun h => by cases h) (fun _ => ⟨_, rfl, rfl, _, rfl, ite_d (fun h => by cases h) (fun _ => ?_)⟩)⟩
      refine ⟨_, rfl, (by show 2 ≤ sizeLine; decide), fun t2 ht2 => ?_⟩
      have s2 := s1.trans (same_new (o := .tup [.ty "list", .ty "tuple"]) ht2)
      refine ⟨_, t2, _, _, _, false, rfl, upd_same, .cons (.ty _) (.cons (.ty _) .nil), tyi _ s2, lt, _, rfl, iteF ?_⟩
      generalize upd H1 t2 (.tup [.ty "list", .ty "tuple"]) = H2 at s2 ⊢
      refine ⟨_, rfl, _, _, _, _, _, rfl, .ty _, tyi _ s2, ic.bt "bool" (by decide), _, rfl, _, _, _, _, _, rfl, .ty _, tyi _ s2, ic.bt "bool" (by decide), rfl, _, rfl, iteF ?_⟩
      refine ⟨_, rfl, _, _, _, _, _, rfl, .ty _, tyi _ s2, ic.bt "str" (by decide), _, rfl, _, _, _, _, _, rfl, .ty _, tyi _ s2, ic.bt "str" (by decide), rfl, _, rfl, iteF ?_⟩
      refine ⟨_, rfl, _, _, _, _, _, rfl, .ty _, tyi _ s2, ic.bt "int" (by decide), _, rfl, _, _, _, _, _, rfl, .ty _, tyi _ s2, ic.bt "int" (by decide), rfl, _, rfl, iteF ?_⟩
      refine ⟨_, rfl, _, _, _, _, _, rfl, .ty _, tyi _ s2, ic.bt "dict" (by decide), _, rfl, _, _, _, _, _, rfl, .ty _, tyi _ s2, ic.bt "dict" (by decide), rfl, _, rfl, iteF ?_⟩
      exact ⟨_, rfl, _, rfl, .inr (eqi H2 _ s2 (.inr ⟨_, rfl, k H2 s2⟩))⟩
    · cases bb with
      | true =>
        have hp : H p = some (.lst xs) := hp
        have hq : H q = some (.lst ys) := hq
        refine ⟨_, rfl, (by show 2 ≤ sizeLine; decide), fun t1 ht1 => ?_⟩
        have s1 := same_new (o := .tup [.ty "list", .ty "tuple"]) ht1
        have hp1 := s1 _ _ hp
        have hq1 := s1 _ _ hq
        refine ⟨_, t1, _, _, _, true, rfl, upd_same, .cons (.ty _) (.cons (.ty _) .nil), .base (.lst hq1), kLT_lst, _, rfl, iteT ?_⟩
        generalize upd H t1 (.tup [.ty "list", .ty "tuple"]) = H1 at s1 hp1 hq1 ⊢
        refine ⟨_, rfl, _, _, _, _, _, rfl, .ty _, .base (.lst hp1), kit_ty (show kitB "list" "list" = some true by decide +kernel), _, rfl, _, _, _, _, _, rfl, .ty _, .base (.lst hq1), kit_ty (show kitB "list" "list" = some true by decide +kernel), rfl, _, rfl, iteF ?_⟩
        refine ⟨_, rfl, _, _, _, _, _, rfl, .ty _, .base (.lst hp1), kit_ty (show kitB "list" "tuple" = some false by decide +kernel), _, rfl, _, _, _, _, _, rfl, .ty _, .base (.lst hq1), kit_ty (show kitB "list" "tuple" = some false by decide +kernel), rfl, _, rfl, iteF ?_⟩
        refine ⟨_, rfl, _, _, rfl, .inl ⟨_, SqL.of hp1, rfl⟩, _, rfl, _, _, rfl, .inl ⟨_, SqL.of hq1, rfl⟩, rfl, _, rfl, ite_d (fun _ => ?_) (fun h => absurd (by rw [hn]) h)⟩
        refine ⟨_, rfl, _, rfl, p, q, _, _, rfl, .inl ⟨SqL.of hp1, SqL.of hq1, fun D hD => ?_⟩⟩
        refine lc_it (walk_zip (K := K) (a := p) (b := q) (xs := xs) (ys := ys) (n := xs.length) (by rw [← hn, Nat.min_self])) (fun i H' => i ≤ xs.length ∧ Same H1 H' ∧ H' D = some (.lst ((List.replicate i true).map V.bl)))
          ⟨Nat.zero_le _, same_new hD, upd_same⟩ (fun i H' _ ⟨_, s, _⟩ => ⟨s.seq (SqL.of hp1), s.seq (SqL.of hq1)⟩) ?_ ?_
        · rintro i x H2 H3 hlt ⟨_, s2, h2⟩ ⟨T, x1, x2, rfl, hT, rfl, e1, e2⟩
          have nT : D ≠ T := ne_of_none h2 hT
          refine ⟨T, _, rfl, SqT.of upd_same, rfl, _, _, rfl, _, _, rfl, rfl, rfl, ?_⟩
          have s3 := same_new (o := .tup [x1, x2]) hT
          refine ⟨_, rfl, _, rfl, x1, x2, j, rfl, by omega, ((hi i x1 x2 e1 e2).same s1).same (s2.trans s3), fun H4 s4 => ⟨_, s4 _ _ (s3 _ _ h2), ?_, hlt, fun b o e => ?_, ?_⟩⟩
          · rw [List.length_map, List.length_replicate]
            exact Nat.lt_of_le_of_lt (Nat.le_trans (Nat.le_of_lt hlt) hz) (by decide)
          · rw [upd_ne (ne_of_none e hD)]
            exact s4 _ _ (s3 _ _ (s2 _ _ e))
          · rw [upd_same, List.replicate_succ', List.map_append]
            rfl
        · rintro H2 ⟨_, s2, h2⟩
          refine ⟨D, List.replicate xs.length true, rfl, SqL.of h2, ?_⟩
          have e : (List.replicate xs.length true).all id = true := by simp
          rw [e]
          exact k H2 (s1.trans s2)
      | false =>
        have hp : H p = some (.tup xs) := hp
        have hq : H q = some (.tup ys) := hq
        refine ⟨_, rfl, (by show 2 ≤ sizeLine; decide), fun t1 ht1 => ?_⟩
        have s1 := same_new (o := .tup [.ty "list", .ty "tuple"]) ht1
        have hp1 := s1 _ _ hp
        have hq1 := s1 _ _ hq
        refine ⟨_, t1, _, _, _, true, rfl, upd_same, .cons (.ty _) (.cons (.ty _) .nil), .base (.tup hq1), kLT_tup, _, rfl, iteT ?_⟩
        generalize upd H t1 (.tup [.ty "list", .ty "tuple"]) = H1 at s1 hp1 hq1 ⊢
        refine ⟨_, rfl, _, _, _, _, _, rfl, .ty _, .base (.tup hp1), kit_ty (show kitB "tuple" "list" = some false by decide +kernel), _, rfl, _, _, _, _, _, rfl, .ty _, .base (.tup hq1), kit_ty (show kitB "tuple" "list" = some false by decide +kernel), rfl, _, rfl, iteF ?_⟩
        refine ⟨_, rfl, _, _, _, _, _, rfl, .ty _, .base (.tup hp1), kit_ty (show kitB "tuple" "tuple" = some true by decide +kernel), _, rfl, _, _, _, _, _, rfl, .ty _, .base (.tup hq1), kit_ty (show kitB "tuple" "tuple" = some true by decide +kernel), rfl, _, rfl, iteF ?_⟩
        refine ⟨_, rfl, _, _, rfl, .inr ⟨_, SqT.of hp1, rfl⟩, _, rfl, _, _, rfl, .inr ⟨_, SqT.of hq1, rfl⟩, rfl, _, rfl, ite_d (fun _ => ?_) (fun h => absurd (by rw [hn]) h)⟩
        refine ⟨_, rfl, _, rfl, p, q, _, _, rfl, .inr ⟨SqT.of hp1, SqT.of hq1, fun D hD => ?_⟩⟩
        refine lc_it (walk_zipT (K := K) (a := p) (b := q) (xs := xs) (ys := ys) (n := xs.length) (by rw [← hn, Nat.min_self])) (fun i H' => i ≤ xs.length ∧ Same H1 H' ∧ H' D = some (.lst ((List.replicate i true).map V.bl)))
          ⟨Nat.zero_le _, same_new hD, upd_same⟩ (fun i H' _ ⟨_, s, _⟩ => ⟨sameT s (SqT.of hp1), sameT s (SqT.of hq1)⟩) ?_ ?_
        · rintro i x H2 H3 hlt ⟨_, s2, h2⟩ ⟨T, x1, x2, rfl, hT, rfl, e1, e2⟩
          have nT : D ≠ T := ne_of_none h2 hT
          refine ⟨T, _, rfl, SqT.of upd_same, rfl, _, _, rfl, _, _, rfl, rfl, rfl, ?_⟩
          have s3 := same_new (o := .tup [x1, x2]) hT
          refine ⟨_, rfl, _, rfl, x1, x2, j, rfl, by omega, ((hi i x1 x2 e1 e2).same s1).same (s2.trans s3), fun H4 s4 => ⟨_, s4 _ _ (s3 _ _ h2), ?_, hlt, fun b o e => ?_, ?_⟩⟩
          · rw [List.length_map, List.length_replicate]
            exact Nat.lt_of_le_of_lt (Nat.le_trans (Nat.le_of_lt hlt) hz) (by decide)
          · rw [upd_ne (ne_of_none e hD)]
            exact s4 _ _ (s3 _ _ (s2 _ _ e))
          · rw [upd_same, List.replicate_succ', List.map_append]
            rfl
        · rintro H2 ⟨_, s2, h2⟩
          refine ⟨D, List.replicate xs.length true, rfl, SqL.of h2, ?_⟩
          have e : (List.replicate xs.length true).all id = true := by simp
          rw [e]
          exact k H2 (s1.trans s2)
theorem ok_like {P : Program} {w : World} {K : PySem.W.Frag} {mg : Str → Option Value} {base : Heap} {f : Addr} {fd : FuncData} (D : Def K mg "_law_like" slike Plike f fd) (T : Txt K mg) {a : Ad} (KN : Kn K mg a) (OE : FnR P w K mg base CX0 1 a.fE (spRest_eq a)) (OP : FnR P w K mg base CX0 1 a.fPe (spPlace_eq a)) :
    FnOk P w K mg base CX0 6 f fd Plike (splike a 5) := by
  have go : ∀ n : Nat, FnOk P w K mg base CX0 (n + 1) f fd Plike (splike a n) := fun n => by
    induction n with
    | zero => exact LC.fn_none fun vs H Q E h => no_like h
    | succ n ih => exact step_like D T KN OE OP ih
  exact go 5
end k12
namespace k12
open PySem L2 LC RM
def spodd : Sp := fun vs H Q _ => ∃ (g l : Addr) (F : Addr → Prop), vs = [.ref g] ∧ Bag l H g ∧ F g ∧ (∀ b, F b → ∃ o, H b = some o) ∧ ∀ v H', Ov F H' 2 v → v ≠ .int 8 → Ok g l H H' → Q v H'
theorem ok_odd {P : Program} {w : World} {K : PySem.W.Frag} {mg : Str → Option Value} {base : Heap} {f : Addr} {fd : FuncData} (D : Def K mg "_law_odd" sodd Podd f fd) (T : Txt K mg) {fdraw : Addr} {fddraw : FuncData} (Ddraw : Def K mg "_law_draw" sdraw Pdraw fdraw fddraw) (Gdraw : FnOk P w K mg base CX0 1 fdraw fddraw Pdraw (spdraw)) {fof : Addr} {fdof : FuncData} (Dof : Def K mg "_law_of" sof Pof fof fdof) (Gof : FnOk P w K mg base CX0 2 fof fdof Pof (spof K)) :
    FnOk P w K mg base CX0 3 f fd Podd (spodd) := by
  refine D.F.ok scodd (fun vs H Q E h => ?_) (fun cdv A outer s H vs Q E hr h => ?_)
  · obtain ⟨g, l, F, rfl, B, Fg, hF, k⟩ := h
    rfl
  · obtain ⟨g, l, F, rfl, B, Fg, hF, k⟩ := h
    have hrdraw : Room 1 _ := hr.mono (by decide)
    have hrof : Room 2 _ := hr.mono (by decide)
    refine ⟨_, (pss_cons (ps_set (i := 1) scodd.nd rfl (Or.inl rfl) (pe_call Gdraw hrdraw rfl Ddraw.g Ddraw.F.kp Ddraw.b .nil pass0 (pa_cons (pv 0) (pa_cons pe_int pa_nil))))
        (pss_cons (ps_if (pt_cmpR op_eq (pv 1) pe_int (nomark _)) (pss_one (ps_ret (pe_call Gof hrof rfl Dof.g Dof.F.kp Dof.b .nil pass0 (pa_cons (pv 0) (pa_cons (pe_lst (pa_cons pe_non (pa_cons pe_bl (pa_cons pe_bl pa_nil)))) pa_nil))))) pss_nil)
        (pss_cons (ps_if (pt_cmpR op_eq (pv 1) pe_int (nomark _)) (pss_one (ps_ret (pe_call Gof hrof rfl Dof.g Dof.F.kp Dof.b .nil pass0 (pa_cons (pv 0) (pa_cons (pe_lst (pa_cons pe_int (pa_cons pe_int (pa_cons (pe_un un_neg pe_int) (pa_cons pe_int (pa_cons pe_int (pa_cons pe_int (pa_cons pe_int (pa_cons (pe_un un_neg pe_int) pa_nil))))))))) pa_nil))))) pss_nil)
        (pss_cons (ps_if (pt_cmpR op_eq (pv 1) pe_int (nomark _)) (pss_one (ps_ret (pe_call Gof hrof rfl Dof.g Dof.F.kp Dof.b .nil pass0 (pa_cons (pv 0) (pa_cons (pe_lst (pa_cons pe_str (pa_cons pe_str (pa_cons pe_str (pa_cons pe_str (pa_cons pe_str (pa_cons pe_str (pa_cons pe_str (pa_cons pe_str pa_nil))))))))) pa_nil))))) pss_nil)
        (pss_cons (ps_if (pt_cmpR op_eq (pv 1) pe_int (nomark _)) (pss_one (ps_ret (pe_callTy call_tuple_of (by rfl) T.n_tuple (by decide +kernel) (pa_cons (pe_lc (own := [("_law_k", 2)]) (g := gName 2) (tt := tYes) rfl scodd.nd (pi_range1 rfl T.n_range (pa_cons (pe_call Gdraw hrdraw rfl Ddraw.g Ddraw.F.kp Ddraw.b .nil pass0 (pa_cons (pv 0) (pa_cons pe_int pa_nil))) pa_nil)) (blkOk_by (own := [("_law_k", 2)]) (N := Nmodd) (sc := defScope sodd) (by decide +kernel)) (fun _ _ _ _ _ => pg_name (i := 2) scodd.nd rfl (Or.inl rfl)) (fun _ _ _ _ _ => pts_nil) (fun _ _ _ _ _ => (pe_call Gof hrof rfl Dof.g Dof.F.kp Dof.b .nil pass0 (pa_cons (pv 0) (pa_cons (pe_lst (pa_cons pe_int (pa_cons pe_str (pa_cons pe_non (pa_cons pe_bl (pa_cons pe_int pa_nil)))))) pa_nil))))) pa_nil)))) pss_nil)
        (pss_cons (ps_if (pt_cmpR op_eq (pv 1) pe_int (nomark _)) (pss_one (ps_ret (pe_lc (own := [("_law_k", 2)]) (g := gName 2) (tt := tYes) rfl scodd.nd (pi_range1 rfl T.n_range (pa_cons (pe_call Gdraw hrdraw rfl Ddraw.g Ddraw.F.kp Ddraw.b .nil pass0 (pa_cons (pv 0) (pa_cons pe_int pa_nil))) pa_nil)) (blkOk_by (own := [("_law_k", 2)]) (N := Nmodd) (sc := defScope sodd) (by decide +kernel)) (fun _ _ _ _ _ => pg_name (i := 2) scodd.nd rfl (Or.inl rfl)) (fun _ _ _ _ _ => pts_nil) (fun _ _ _ _ _ => (pe_call Gof hrof rfl Dof.g Dof.F.kp Dof.b .nil pass0 (pa_cons (pv 0) (pa_cons (pe_lst (pa_cons pe_int (pa_cons pe_str (pa_cons pe_non (pa_cons pe_bl (pa_cons (pe_tup (pa_cons pe_int (pa_cons pe_int pa_nil))) pa_nil)))))) pa_nil))))))) pss_nil)
        (pss_one (ps_ret (pe_call Gof hrof rfl Dof.g Dof.F.kp Dof.b .nil pass0 (pa_cons (pv 0) (pa_cons (pe_lst (pa_cons pe_dnewK (pa_cons (pe_disp (pps_cons pe_str pe_int pps_nil) (by rfl) (by rfl) (fun z => by cases z) (by decide)) (pa_cons (pe_disp (pps_cons pe_int (pe_lst (pa_cons pe_int pa_nil)) pps_nil) (by rfl) (by rfl) (fun z => by cases z) (by decide)) (pa_cons (pe_disp (pps_cons pe_str (pe_disp (pps_cons pe_str (pe_tup (pa_cons pe_int (pa_cons pe_non pa_nil))) pps_nil) (by rfl) (by rfl) (fun z => by cases z) (by decide)) pps_nil) (by rfl) (by rfl) (fun z => by cases z) (by decide)) pa_nil))))) pa_nil))))))))))), ?_⟩
    refine ⟨_, rfl, g, l, 6, rfl, B, by decide, by decide, fun d H1 d0 d1 r1 => ?_⟩
    refine ⟨_, rfl, rfl, _, rfl, ite_eq (fun _ => ?_) (fun _ => ?_)⟩
    · refine ⟨_, rfl, (by show 3 ≤ sizeLine; decide), fun p hp => of_disp (E := E0) r1 hp (by decide) (by decide) fun x H' hx _ r => k x H' (Ov.sz ?_ 2) ?_ r⟩
      all_goals simp only [List.mem_cons, List.not_mem_nil, or_false] at hx
      · rcases hx with rfl | rfl | rfl
        all_goals exact True.intro
      · rcases hx with rfl | rfl | rfl
        all_goals exact fun z => by cases z
    refine ⟨_, rfl, rfl, _, rfl, ite_eq (fun _ => ?_) (fun _ => ?_)⟩
    · refine ⟨_, rfl, _, rfl, _, rfl, (by show 8 ≤ sizeLine; decide), fun p hp => of_disp (E := E0) r1 hp (by show 0 < 8; decide) (by show 8 ≤ 1000000; decide) fun x H' hx _ r => k x H' (Ov.sz ?_ 2) ?_ r⟩
      all_goals simp only [List.mem_cons, List.not_mem_nil, or_false] at hx
      · rcases hx with rfl | rfl | rfl | rfl | rfl | rfl | rfl | rfl
        all_goals exact True.intro
      · rcases hx with rfl | rfl | rfl | rfl | rfl | rfl | rfl | rfl
        all_goals exact fun z => absurd (V.int.inj z) (by decide)
    refine ⟨_, rfl, rfl, _, rfl, ite_eq (fun _ => ?_) (fun _ => ?_)⟩
    · refine ⟨_, rfl, (by show 8 ≤ sizeLine; decide), fun p hp => of_disp (E := E0) r1 hp (by show 0 < 8; decide) (by show 8 ≤ 1000000; decide) fun x H' hx _ r => k x H' (Ov.sz ?_ 2) ?_ r⟩
      all_goals simp only [List.mem_cons, List.not_mem_nil, or_false] at hx
      · rcases hx with rfl | rfl | rfl | rfl | rfl | rfl | rfl | rfl
        all_goals (show Str.length _ ≤ 1000000; decide +kernel)
      · rcases hx with rfl | rfl | rfl | rfl | rfl | rfl | rfl | rfl
        all_goals exact fun z => by cases z
    refine ⟨_, rfl, rfl, _, rfl, ite_eq (fun _ => ?_) (fun _ => ?_)⟩
    · refine ⟨_, rfl, g, l, 4, rfl, r1.bag, by decide, by decide, fun d2 H2 d20 d21 r2 => ⟨_, rfl, by omega, by omega, fun D hD => ?_⟩⟩
      refine lc_draws (fun H x => Sz x) (r1.trans r2) hD (by omega) (fun _ => rfl) (fun x H H' t r => t) (fun x H xs ys h t => t) (fun i H3 Q3 _ r q => ?_) ?_
      · refine ⟨_, rfl, (by show 5 ≤ sizeLine; decide), fun p hp => of_disp (E := E0) (Ok.refl r.bag) hp (by show 0 < 5; decide) (by show 5 ≤ 1000000; decide) fun x H' hx _ r' => q x H' ?_ r'⟩
        simp only [List.mem_cons, List.not_mem_nil, or_false] at hx
        rcases hx with rfl | rfl | rfl | rfl | rfl
        · exact True.intro
        · show Str.length _ ≤ 1000000
          decide +kernel
        · exact True.intro
        · exact True.intro
        · exact True.intro
      · intro H3 xs r _ h3 hl hx
        exact ⟨D, xs, rfl, .inl ⟨SqL.of h3, fun t ht => k _ _ (.inr (.inr ⟨false, t, xs, rfl, nF_of hF r ht, upd_same, by omega, fun u hu => Ov.sz (hx u hu) 1⟩)) (fun z => by cases z) (r.new ht)⟩⟩
    refine ⟨_, rfl, rfl, _, rfl, ite_eq (fun _ => ?_) (fun _ => ?_)⟩
    · refine ⟨_, rfl, g, l, 4, rfl, r1.bag, by decide, by decide, fun d2 H2 d20 d21 r2 => ⟨_, rfl, by omega, by omega, fun D hD => ?_⟩⟩
      refine lc_draws (fun H x => Sz x ∨ ∃ t, x = .ref t ∧ ¬ F t ∧ H t = some (.tup [.int 1, .int 2])) (r1.trans r2) hD (by omega) (fun _ => rfl) (fun x H H' t r => ?_) (fun x H xs ys h t => ?_) (fun i H3 Q3 _ r q => ?_) ?_
      · rcases t with t | ⟨u, e, nu, eu⟩
        · exact .inl t
        · exact .inr ⟨u, e, nu, r _ _ (fun z => nu (by rw [z]; exact Fg)) eu⟩
      · rcases t with t | ⟨u, e, nu, eu⟩
        · exact .inl t
        · exact .inr ⟨u, e, nu, by rw [upd_ne (ne_of eu h (by intro z; cases z))]; exact eu⟩
      · refine ⟨_, rfl, (by show 2 ≤ sizeLine; decide), fun t ht => ⟨(by show 5 ≤ sizeLine; decide), fun p hp => ?_⟩⟩
        have nt := nF_of hF r ht
        have r3 := (Ok.refl r.bag).new (o := .tup [.int 1, .int 2]) ht
        refine of_disp (E := E0) r3 hp (by show 0 < 5; decide) (by show 5 ≤ 1000000; decide) fun x H' hx kk r' => q x H' ?_ r'
        simp only [List.mem_cons, List.not_mem_nil, or_false] at hx
        rcases hx with rfl | rfl | rfl | rfl | rfl
        · exact .inl True.intro
        · refine .inl ?_
          show Str.length _ ≤ 1000000
          decide +kernel
        · exact .inl True.intro
        · exact .inl True.intro
        · exact .inr ⟨t, rfl, nt, kk _ _ (fun z => nt (by rw [z]; exact Fg)) upd_same⟩
      · intro H3 xs r _ h3 hl hx
        refine k _ _ (.inr (.inr ⟨true, D, xs, rfl, nF_of hF (r1.trans r2) hD, h3, by omega, fun u hu => ?_⟩)) (fun z => by cases z) r
        rcases hx u hu with t | ⟨u, e, nu, eu⟩
        · exact .inl t
        · refine .inr (.inr ⟨false, u, _, e, nu, eu, (by show 2 ≤ 1000000; decide), fun z hz => ?_⟩)
          simp only [List.mem_cons, List.not_mem_nil, or_false] at hz
          rcases hz with rfl | rfl
          · exact True.intro
          · exact True.intro
    -- the dicts
    refine ⟨_, rfl, fun d1 hd1 => ?_⟩
    have f1 := nF_of hF r1 hd1
    have q1 := r1.new (o := .dK []) hd1
    intro p2 hp2
    have f2 := nF_of hF q1 hp2
    have q2 := q1.new (o := .dK []) hp2
    refine ⟨upd_same, [(.inr "a", .int 1)], rfl, by show 1 ≤ 15; decide, ?_⟩
    have q2' := q2.mut (o := .dK (mergeK [] [(.inr "a", .int 1)])) (q1.free hp2)
    intro p3 hp3
    have f3 := nF_of hF q2' hp3
    have q3 := q2'.new (o := .dK []) hp3
    refine ⟨(by show 1 ≤ sizeLine; decide), fun l3 hl3 => ?_⟩
    have n3 : p3 ≠ l3 := ne_of_none upd_same hl3
    have q3' := q3.new (o := .lst [.int 2]) hl3
    refine ⟨by rw [upd_ne n3]; exact upd_same, [(.inl 1, .ref l3)], rfl, by show 1 ≤ 15; decide, ?_⟩
    have q3'' := q3'.mut (o := .dK (mergeK [] [(.inl 1, .ref l3)])) (q2'.free hp3)
    intro p4 hp4
    have f4 := nF_of hF q3'' hp4
    have q4 := q3''.new (o := .dK []) hp4
    intro p5 hp5
    have q5 := q4.new (o := .dK []) hp5
    have n45 : p4 ≠ p5 := ne_of_none upd_same hp5
    refine ⟨(by show 2 ≤ sizeLine; decide), fun t5 ht5 => ?_⟩
    have q5' := q5.new (o := .tup [.int 1, .non]) ht5
    have n5 : p5 ≠ t5 := ne_of_none upd_same ht5
    have n4 : p4 ≠ t5 := ne_of_none (o := .dK []) (by rw [upd_ne n45]; exact upd_same) ht5
    refine ⟨by rw [upd_ne n5]; exact upd_same, [(.inr "b", .ref t5)], rfl, by show 1 ≤ 15; decide, ?_⟩
    have q5'' := q5'.mut (o := .dK (mergeK [] [(.inr "b", .ref t5)])) (q4.free hp5)
    refine ⟨by rw [upd_ne n45, upd_ne n4, upd_ne n45]; exact upd_same, [(.inr "a", .ref p5)], rfl, by show 1 ≤ 15; decide, ?_⟩
    have q6 := q5''.mut (o := .dK (mergeK [] [(.inr "a", .ref p5)])) (q3''.free hp4)
    have k2 : DkOk (mergeK [] [(.inr "a", .int 1)]) := dk1 (.inl rfl)
    have k3 : DkOk (mergeK [] [(.inl 1, .ref l3)]) := dk1 (.inr ⟨_, rfl⟩)
    have k5 : DkOk (mergeK [] [(.inr "b", .ref t5)]) := dk1 (.inr ⟨_, rfl⟩)
    have k4 : DkOk (mergeK [] [(.inr "a", .ref p5)]) := dk1 (.inr ⟨_, rfl⟩)
    have t1 : Dq F _ d1 := (((((((((Dq.new (F := F) ⟨f1, [], upd_same, dk0⟩ (o := .dK []) hp2).dict (q := p2) k2).new (o := .dK []) hp3).new (o := .lst [.int 2]) hl3).dict (q := p3) k3).new (o := .dK []) hp4).new (o := .dK []) hp5).new (o := .tup [.int 1, .non]) ht5).dict (q := p5) k5).dict (q := p4) k4
    have t2 : Dq F _ p2 := ((((((((Dq.dict (F := F) k2 (q := p2) ⟨f2, [], upd_same, dk0⟩).new (o := .dK []) hp3).new (o := .lst [.int 2]) hl3).dict (q := p3) k3).new (o := .dK []) hp4).new (o := .dK []) hp5).new (o := .tup [.int 1, .non]) ht5).dict (q := p5) k5).dict (q := p4) k4
    have t3 : Dq F _ p3 := ((((((Dq.new (F := F) ⟨f3, [], upd_same, dk0⟩ (o := .lst [.int 2]) hl3).dict (q := p3) k3).new (o := .dK []) hp4).new (o := .dK []) hp5).new (o := .tup [.int 1, .non]) ht5).dict (q := p5) k5).dict (q := p4) k4
    have t4 : Dq F _ p4 := (((Dq.new (F := F) ⟨f4, [], upd_same, dk0⟩ (o := .dK []) hp5).new (o := .tup [.int 1, .non]) ht5).dict (q := p5) k5).dict (q := p4) k4
    refine ⟨(by show 4 ≤ sizeLine; decide), fun p hp => of_disp (E := E0) q6 hp (by show 0 < 4; decide) (by show 4 ≤ 1000000; decide) fun x H' hx kk r' => k x H' ?_ (by simp only [List.mem_cons, List.not_mem_nil, or_false] at hx; rcases hx with rfl | rfl | rfl | rfl <;> exact fun z => by cases z) r'⟩
    have kf := KpF.kp Fg kk
    simp only [List.mem_cons, List.not_mem_nil, or_false] at hx
    rcases hx with rfl | rfl | rfl | rfl
    · exact (t1.ov 1).kp kf
    · exact (t2.ov 1).kp kf
    · exact (t3.ov 1).kp kf
    · exact (t4.ov 1).kp kf
end k12
namespace k12
open PySem L2 LC RM
def spname : Sp := fun vs H Q _ => ∃ (g l M : Addr) (ns : List Str), vs = [.ref g, .ref M] ∧ Bag l H g ∧ H M = some (.lst (ns.map V.str)) ∧ M ≠ g ∧ ns.length ≤ 50 ∧ ∀ (z : Str) H', Ok g l H H' → NmOk z → z ∉ ns → Q (.str z) H'
theorem ok_name {P : Program} {w : World} {K : PySem.W.Frag} {mg : Str → Option Value} {base : Heap} {f : Addr} {fd : FuncData} (D : Def K mg "_law_name" sname Pname f fd) (T : Txt K mg) {fof : Addr} {fdof : FuncData} (Dof : Def K mg "_law_of" sof Pof fof fdof) (Gof : FnOk P w K mg base CX0 2 fof fdof Pof (spof K)) :
    FnOk P w K mg base CX0 3 f fd Pname (spname) := by
  refine D.F.ok scname (fun vs H Q E h => ?_) (fun cdv A outer s H vs Q E hr h => ?_)
  · obtain ⟨g, l, M, ns, rfl, B, hM, nM, hl, k⟩ := h
    rfl
  · obtain ⟨g, l, M, ns, rfl, B, hM, nM, hl, k⟩ := h
    have hrof : Room 2 _ := hr.mono (by decide)
    refine ⟨_, (pss_cons (ps_set (i := 2) scname.nd rfl (Or.inl rfl) (pe_op op_add_str (pe_call Gof hrof rfl Dof.g Dof.F.kp Dof.b .nil pass0 (pa_cons (pv 0) (pa_cons pe_str pa_nil))) (pe_join pe_str (pe_lc (own := [("_law_k", 3)]) (g := gName 3) (tt := tYes) rfl scname.nd (pi_range1 rfl T.n_range (pa_cons (pe_call Gof hrof rfl Dof.g Dof.F.kp Dof.b .nil pass0 (pa_cons (pv 0) (pa_cons (pe_lst (pa_cons pe_int (pa_cons pe_int (pa_cons pe_int (pa_cons pe_int (pa_cons pe_int pa_nil)))))) pa_nil))) pa_nil)) (blkOk_by (own := [("_law_k", 3)]) (N := Nmname) (sc := defScope sname) (by decide +kernel)) (fun _ _ _ _ _ => pg_name (i := 3) scname.nd rfl (Or.inl rfl)) (fun _ _ _ _ _ => pts_nil) (fun _ _ _ _ _ => (pe_call Gof hrof rfl Dof.g Dof.F.kp Dof.b .nil pass0 (pa_cons (pv 0) (pa_cons pe_str pa_nil))))))))
        (pss_cons (ps_for PassesOwn.never rfl (pi_range1 rfl T.n_range (pa_cons pe_int pa_nil)) (pg_name (i := 3) scname.nd rfl (Or.inl rfl))
          (pss_cons (ps_if (pt_cmpR op_notIn_seq (pv 2) (pv 1) (by rfl)) (pss_one ps_break) pss_nil)
        (pss_one (ps_set (i := 2) scname.nd rfl (Or.inl rfl) (pe_joined (.cons pe_str (.cons (pe_fmt (pv 3)) .nil)))))))
        (pss_one (ps_ret (pv 2))))), ?_⟩
    refine ⟨_, rfl, g, l, _, _, rfl, B, .str (by decide +kernel) (by decide +kernel), fun x H1 hx r1 => ?_⟩
    obtain ⟨c, hc, rfl⟩ := hx
    have hcL : chL c = true := by
      have h0 : ∀ d ∈ ("abcmxz" : Str).cps.toList, chL d = true := by decide +kernel
      exact h0 c hc
    refine ⟨⟨_, rfl⟩, _, rfl, (by show 5 ≤ sizeLine; decide), fun p hp => of_disp (E := E0) r1 hp (by show 0 < 5; decide) (by show 5 ≤ 1000000; decide) fun x H2 hx _ r2 => ?_⟩
    obtain ⟨n, rfl, hn⟩ : ∃ n : Nat, x = .int n ∧ n ≤ 7 := by
      simp only [List.mem_cons, List.not_mem_nil, or_false] at hx
      rcases hx with rfl | rfl | rfl | rfl | rfl
      · exact ⟨0, rfl, by decide⟩
      · exact ⟨1, rfl, by decide⟩
      · exact ⟨1, rfl, by decide⟩
      · exact ⟨2, rfl, by decide⟩
      · exact ⟨7, rfl, by decide⟩
    refine ⟨_, rfl, by omega, by omega, fun D hD => ?_⟩
    refine lc_draws (n := n) (fun _ x => ∃ y, x = .str y ∧ Sg y) r2 hD (by omega) (fun _ => rfl) (fun x H H' t r => t) (fun x H xs ys h t => t) (fun i H3 Q3 _ r q => ?_) ?_
    · refine ⟨_, rfl, g, l, _, _, rfl, r.bag, .str (by decide +kernel) (by decide +kernel), fun x H' hx r' => q x H' ?_ r'⟩
      obtain ⟨d, hd, rfl⟩ := hx
      have h0 : ∀ d ∈ ("abcxyz019" : Str).cps.toList, (chL d || chD d) = true := by decide +kernel
      exact ⟨_, rfl, d, rfl, h0 d hd⟩
    intro H3 xs r3 _ h3 hl3 hx3
    obtain ⟨ys, rfl, hys⟩ := strs_of hx3
    rw [List.length_map] at hl3
    have nm := nm_made hcL hys (by omega)
    rw [← TL.join_eq] at nm
    have nl := nm.len
    have sy : (ys.map (·.length)).sum ≤ ys.length * 1 := sum_le fun y hy => by
      obtain ⟨c, rfl, _⟩ := hys y hy
      exact Nat.le_refl 1
    refine ⟨_, D, ys, rfl, rfl, .inl (SqL.of h3), ?_, _, _, rfl, rfl, ?_, ?_⟩
    · have e0 : ("" : Str).length = 0 := rfl
      rw [e0]
      omega
    · have e := Str.length_append (⟨#[c]⟩ : Str) (Txt.join "" ys)
      have h8 : ((⟨#[c]⟩ : Str) ++ Txt.join "" ys).length ≤ 8 := nl.2
      rw [e] at h8
      exact Nat.le_trans h8 (by decide)
    have hM3 : H3 M = some (.lst (ns.map V.str)) := r3.at_ hM nM
    refine ⟨_, rfl, by decide, by decide, for_range (lo := 0) (n := 60) (fun i σ H' => ∃ (wd : Str) (v : Option V), σ = [some (.ref g), some (.ref M), some (.str wd), v] ∧ Ok g l H H' ∧ H' M = some (.lst (ns.map V.str)) ∧ NmOk wd ∧ (∀ j, j + 1 < i → qk j ∈ ns) ∧ (0 < i → wd = qk (i - 1)))
      ⟨_, none, rfl, r3, hM3, nm, fun j h => absurd h (by omega), fun h => absurd h (by omega)⟩ ?_ ?_⟩
    · rintro i σ H4 hi ⟨wd, v, rfl, r4, h4, nw, hq, hw⟩
      refine ⟨_, rfl, _, rfl, M, _, rfl, .inl (SqL.of h4), rfl, strs_flat _, _, rfl, ?_⟩
      show if (!inV (.str wd) (ns.map V.str)) = true then _ else _
      rw [inV_str]
      refine ite_nd (fun h => ?_) (fun h => ?_)
      · exact ⟨_, rfl, k wd H4 r4 nw h⟩
      · have sz : sizeLine = 16777216 := rfl
        have e0 : Str.empty.length = 0 := rfl
        have e1 : ("q" : Str).length = 1 := by decide +kernel
        have il := iT_len (i := (i : Int)) (by omega) (by omega)
        have ez : (0 : Int) + (i : Nat) = (i : Int) := by omega
        rw [ez]
        refine ⟨_, rfl, by rw [Str.length_append]; omega, _, rfl, .inr ⟨_, rfl, log_small (by omega) (by omega), _, rfl, by rw [Str.length_append, Str.length_append]; show _ + (iT i).length ≤ _; omega, ?_⟩⟩
        refine ⟨qk i, _, rfl, r4, h4, qk_nm hi, fun j hj => ?_, fun _ => rfl⟩
        by_cases c : j + 1 < i
        · exact hq j c
        · have e : j = i - 1 := by omega
          rw [e, ← hw (by omega)]
          exact h
    rintro σ H4 ⟨wd, v, rfl, r4, h4, nw, hq, hw⟩
    exact absurd (fun j hj => hq j (by omega)) (qk_free hl)
end k12
namespace k12
open PySem L2 LC RM
def spnames : Sp := fun vs H Q _ => ∃ (g l : Addr) (n : Nat), vs = [.ref g, .int n] ∧ Bag l H g ∧ n ≤ 6 ∧ ∀ (N : Addr) (ns : List Str) H', H N = none → Ok g l H H' → H' N = some (.lst (ns.map V.str)) → ns.length = n → (∀ z ∈ ns, NmOk z) → Q (.ref N) H'
theorem ok_names {P : Program} {w : World} {K : PySem.W.Frag} {mg : Str → Option Value} {base : Heap} {f : Addr} {fd : FuncData} (D : Def K mg "_law_names" snames Pnames f fd) (T : Txt K mg) {fname : Addr} {fdname : FuncData} (Dname : Def K mg "_law_name" sname Pname fname fdname) (Gname : FnOk P w K mg base CX0 3 fname fdname Pname (spname)) :
    FnOk P w K mg base CX0 4 f fd Pnames (spnames) := by
  refine D.F.ok scnames (fun vs H Q E h => ?_) (fun cdv A outer s H vs Q E hr h => ?_)
  · obtain ⟨g, l, n, rfl, B, n6, k⟩ := h
    rfl
  · obtain ⟨g, l, n, rfl, B, n6, k⟩ := h
    have hrname : Room 3 _ := hr.mono (by decide)
    refine ⟨_, (pss_cons (ps_set (i := 2) scnames.nd rfl (Or.inl rfl) (pe_lst pa_nil))
        (pss_cons (ps_for PassesOwn.never rfl (pi_range1 rfl T.n_range (pa_cons (pv 1) pa_nil)) (pg_name (i := 3) scnames.nd rfl (Or.inl rfl))
          (pss_one (ps_expr (pe_bm PySem.F.plainAttrs_list PySem.F.slot_list_append PySem.F.type_list_append mt_append (pv 2) (pa_cons (pe_call Gname hrname rfl Dname.g Dname.F.kp Dname.b .nil pass0 (pa_cons (pv 0) (pa_cons (pv 2) pa_nil))) pa_nil)))))
        (pss_one (ps_ret (pv 2))))), ?_⟩
    refine ⟨(by show 0 ≤ sizeLine; decide), fun N hN => ?_⟩
    have nN := B.ne hN
    refine ⟨_, rfl, (n : Int), rfl, by omega, by omega, for_range (lo := 0) (n := n) (fun i σ H' => ∃ (ns : List Str) (v : Option V), σ = [some (.ref g), some (.int n), some (.ref N), v] ∧ Ok g l H H' ∧ H' N = some (.lst (ns.map V.str)) ∧ ns.length = i ∧ ∀ z ∈ ns, NmOk z) ⟨[], none, rfl, (Ok.refl B).new hN, upd_same, rfl, fun _ h => by cases h⟩ ?_ ?_⟩
    · rintro i σ H1 hi ⟨ns, v, rfl, r, h1, len, good⟩
      refine ⟨_, rfl, .inl ⟨rfl, _, SqL.of h1⟩, _, rfl, _, rfl, g, l, N, ns, rfl, r.bag, h1, nN.1, by omega, fun z H2 r2 nz _ => ?_⟩
      have h2 := r2.at_ h1 nN.1
      refine ⟨N, _, _, rfl, rfl, h2, by rw [List.length_map, len]; exact Nat.lt_of_lt_of_le (show i < 6 by omega) (by decide), ns ++ [z], _, rfl, (r.trans r2).mut hN, by rw [upd_same, List.map_append]; rfl, by rw [List.length_append, len]; rfl, fun y hy => ?_⟩
      rcases List.mem_append.mp hy with h | h
      · exact good y h
      · rw [List.mem_singleton.mp h]; exact nz
    rintro σ H1 ⟨ns, v, rfl, r, h1, len, good⟩
    exact ⟨_, rfl, k N ns H1 hN r h1 len good⟩
end k12
namespace k12
open PySem L2 LC RM
def spplaces (K : PySem.W.Frag) : Sp := fun vs H Q _ => ∃ (g l hA oA : Addr) (n : Nat) (hs os : List Str), vs = [.ref g, .int n, .ref hA, .ref oA] ∧ Bag l H g ∧ H hA = some (.lst (hs.map V.str)) ∧ H oA = some (.lst (os.map V.str)) ∧ hA ≠ g ∧ oA ≠ g ∧ 0 < hs.length ∧ hs.length ≤ 6 ∧ os.length ≤ 1 ∧ (∀ z ∈ hs, NmOk z) ∧ (∀ z ∈ os, NmOk z) ∧ n ≤ 24 ∧
  ∀ (D : Addr) (tr : List (Addr × Row)) H', H D = none → Ok g l H H' → H' D = some (.lst (tr.map tv)) → TR H' tr → tr.length = n → GRows (tr.map (·.2)) → Q (.ref D) H'
theorem ok_places {P : Program} {w : World} {K : PySem.W.Frag} {mg : Str → Option Value} {base : Heap} {f : Addr} {fd : FuncData} (D : Def K mg "_law_places" splaces Pplaces f fd) (T : Txt K mg) {fdraw : Addr} {fddraw : FuncData} (Ddraw : Def K mg "_law_draw" sdraw Pdraw fdraw fddraw) (Gdraw : FnOk P w K mg base CX0 1 fdraw fddraw Pdraw (spdraw)) {fof : Addr} {fdof : FuncData} (Dof : Def K mg "_law_of" sof Pof fof fdof) (Gof : FnOk P w K mg base CX0 2 fof fdof Pof (spof K)) {fname : Addr} {fdname : FuncData} (Dname : Def K mg "_law_name" sname Pname fname fdname) (Gname : FnOk P w K mg base CX0 3 fname fdname Pname (spname)) :
    FnOk P w K mg base CX0 4 f fd Pplaces (spplaces K) := by
  refine D.F.ok scplaces (fun vs H Q E h => ?_) (fun cdv A outer s H vs Q E hr h => ?_)
  · obtain ⟨g, l, hA, oA, n, hs, os, rfl, B, hH, hO, nh, no, h0, h6, o1, hh, ho, hn, k⟩ := h
    rfl
  · obtain ⟨g, l, hA, oA, n, hs, os, rfl, B, hH, hO, nh, no, h0, h6, o1, hh, ho, hn, k⟩ := h
    have hrdraw : Room 1 _ := hr.mono (by decide)
    have hrof : Room 2 _ := hr.mono (by decide)
    have hrname : Room 3 _ := hr.mono (by decide)
    refine ⟨_, (pss_cons (ps_asg (pe_tup (pa_cons (pe_lst pa_nil) (pa_cons (pe_lst pa_nil) pa_nil))) (pg_tup rfl (pgs_cons (pg_name (i := 4) scplaces.nd rfl (Or.inl rfl)) (pgs_cons (pg_name (i := 5) scplaces.nd rfl (Or.inr rfl)) pgs_nil))))
        (pss_cons (ps_for PassesOwn.never rfl (pi_range1 rfl T.n_range (pa_cons (pv 1) pa_nil)) (pg_name (i := 6) scplaces.nd rfl (Or.inl rfl))
          (pss_cons (ps_set (i := 7) scplaces.nd rfl (Or.inl rfl) (pe_call Gname hrname rfl Dname.g Dname.F.kp Dname.b .nil pass0 (pa_cons (pv 0) (pa_cons (pe_lc (own := [("_law_row_here", 13)]) (g := gName 13) (tt := tYes) rfl scplaces.nd (pi_list (pv 4)) (blkOk_by (own := [("_law_row_here", 13)]) (N := Nmplaces) (sc := defScope splaces) (by decide +kernel)) (fun _ _ _ _ _ => pg_name (i := 13) scplaces.nd rfl (Or.inl rfl)) (fun _ _ _ _ _ => pts_nil) (fun _ _ _ _ _ => (pe_ix (show IxR _ (rIxT K) from ix_tup) (pv 13) pe_int (fun _ _ => rfl)))) pa_nil))))
        (pss_cons (ps_set (i := 8) scplaces.nd rfl (Or.inl rfl) (pe_tup (pa_cons (pv 7) (pa_cons (pe_call Gof hrof rfl Dof.g Dof.F.kp Dof.b .nil pass0 (pa_cons (pv 0) (pa_cons (pv 2) pa_nil))) (pa_cons pe_non (pa_cons pe_bl (pa_cons pe_non pa_nil)))))))
        (Evl.pss_cut (ps_if (pt_cmpR op_gt (pv 6) pe_int (nomark _)) (pss_cons (ps_set (i := 9) scplaces.nd rfl (Or.inl rfl) (pe_call Gof hrof rfl Dof.g Dof.F.kp Dof.b .nil pass0 (pa_cons (pv 0) (pa_cons (pe_lc (own := [("_law_row_here", 13)]) (g := gName 13) rfl scplaces.nd (pi_list (pv 4)) (blkOk_by (own := [("_law_row_here", 13)]) (N := Nmplaces) (sc := defScope splaces) (by decide +kernel)) (fun _ _ _ _ _ => pg_name (i := 13) scplaces.nd rfl (Or.inl rfl)) (fun _ _ _ _ _ => pts_one (pt_not (pt_val (pe_ix (show IxR _ (rIxT K) from ix_tup) (pv 13) pe_int (fun _ _ => rfl))))) (fun _ _ _ _ _ => (pv 13))) pa_nil))))
        (pss_cons (ps_set (i := 10) scplaces.nd rfl (Or.inl rfl) (pe_ix ix_tup (pv 9) pe_int (fun _ _ => rfl)))
        (pss_cons (ps_setLc (i := 11) (own := [("_law_one", 14)]) (g := gName 14) rfl scplaces.nd rfl rfl (sw_true rfl rfl rfl (by decide +kernel)) (pi_list (pv 2)) (blkOk_by (own := [("_law_one", 14)]) (N := Nmplaces) (sc := defScope splaces) (by decide +kernel)) (fun _ _ _ _ _ => pg_name (i := 14) scplaces.nd rfl (Or.inl rfl)) (fun _ _ _ _ _ => pts_one (pt_cmpR (show OpR _ (compareOp .NotIn) (rIn K true) from op_notIn_seq) (pv 14) (pv 5) (by rfl))) (fun _ _ _ _ _ => (pv 14)))
        (Evl.pss_cut (ps_if (PW.pt (pw_and (pt_truth (pv 11) (by intro _; rfl)) (pw_and1 (pt_cmpR op_eq (pe_call Gdraw hrdraw rfl Ddraw.g Ddraw.F.kp Ddraw.b .nil pass0 (pa_cons (pv 0) (pa_cons pe_int pa_nil))) pe_int (nomark _))))) (pss_one (ps_set (i := 10) scplaces.nd rfl (Or.inl rfl) (pe_call Gof hrof rfl Dof.g Dof.F.kp Dof.b .nil pass0 (pa_cons (pv 0) (pa_cons (pv 11) pa_nil))))) pss_nil)
        (Evl.pss_cut (ps_set (i := 12) scplaces.nd rfl (Or.inl rfl) (pe_and (pe_cmpR op_eq (pv 10) (pe_ix ix_tup (pv 9) pe_int (fun _ _ => rfl)) (nomark _)) (pe_one (pe_cmpR op_eq (pe_call Gdraw hrdraw rfl Ddraw.g Ddraw.F.kp Ddraw.b .nil pass0 (pa_cons (pv 0) (pa_cons pe_int pa_nil))) pe_int (nomark _)))))
        (pss_one (ps_set (i := 8) scplaces.nd rfl (Or.inl rfl) (pe_tup (pa_cons (pv 7) (pa_cons (pv 10) (pa_cons (pe_ix ix_tup (pv 9) pe_int (fun _ _ => rfl)) (pa_cons (pv 12) (pa_cons (pe_call Gof hrof rfl Dof.g Dof.F.kp Dof.b .nil pass0 (pa_cons (pv 0) (pa_cons (pe_op op_cat (pv 3) (pe_lst (pa_cons pe_non (pa_cons pe_non pa_nil)))) pa_nil))) pa_nil))))))))))))) pss_nil)
        (pss_cons (ps_expr (pe_bm PySem.F.plainAttrs_list PySem.F.slot_list_append PySem.F.type_list_append mt_append (pv 4) (pa_cons (pv 8) pa_nil)))
        (pss_one (ps_expr (pe_bm PySem.F.plainAttrs_list PySem.F.slot_list_append PySem.F.type_list_append mt_append (pv 5) (pa_cons (pe_ix ix_tup (pv 8) pe_int (fun _ _ => rfl)) pa_nil)))))))))
        (pss_one (ps_ret (pv 4))))), ?_⟩
    refine ⟨(by show 0 ≤ sizeLine; decide), fun D hD => ⟨(by show 0 ≤ sizeLine; decide), fun U hU => ⟨(by show 2 ≤ sizeLine; decide), fun T0 hT0 => ⟨T0, _, rfl, SqT.of upd_same, rfl, _, _, rfl, _, _, rfl, rfl, ?_⟩⟩⟩⟩
    have rD := (Ok.refl B).new (o := .lst []) hD
    have rU := rD.new (o := .lst []) hU
    have r0 := rU.new (o := .tup [.ref D, .ref U]) hT0
    have nD := (B.ne hD).1
    have nU := (rD.bag.ne hU).1
    have DU : D ≠ U := ne_of_none upd_same hU
    have hU0 := rD.free hU
    have eD := same_new (o := .tup [.ref D, .ref U]) hT0 _ _ (same_new (o := .lst []) hU _ _ (upd_same (H := H) (a := D) (o := .lst [])))
    have eU := same_new (o := .tup [.ref D, .ref U]) hT0 _ _ (upd_same (H := upd H D (.lst [])) (a := U) (o := .lst []))
    generalize upd (upd (upd H D (.lst [])) U (.lst [])) T0 (.tup [.ref D, .ref U]) = H0 at r0 eD eU ⊢
    refine ⟨_, rfl, (n : Int), rfl, by omega, by omega, for_range (lo := 0) (n := n) (fun i σ H' => ∃ (tr : List (Addr × Row)) (v6 v7 v8 v9 v10 v11 v12 v13 v14 : Option V), σ = [some (.ref g), some (.int n), some (.ref hA), some (.ref oA), some (.ref D), some (.ref U), v6, v7, v8, v9, v10, v11, v12, v13, v14] ∧ Ok g l H H' ∧ H' D = some (.lst (tr.map tv)) ∧ H' U = some (.lst ((tr.map (·.2.sv)).map V.str)) ∧ TR H' tr ∧ tr.length = i ∧ GRows (tr.map (·.2)))
      ⟨[], _, _, _, _, _, _, _, _, _, rfl, r0, eD, eU, (fun p h => by cases h), rfl, GRows.nil⟩ ?_ ?_⟩
    rotate_left
    · rintro σ H1 ⟨tr, v6, v7, v8, v9, v10, v11, v12, v13, v14, rfl, r, e1, _, ht, len, gr⟩
      exact ⟨_, rfl, k D tr H1 hD r e1 ht len gr⟩
    rintro i σ H1 hi ⟨tr, v6, v7, v8, v9, v10, v11, v12, v13, v14, rfl, r1, e1, u1, t1, len, gr⟩
    -- the label
    refine ⟨_, rfl, _, rfl, D, rfl, ⟨_, SqL.of e1⟩, fun C hC => ?_⟩
    have nC := (r1.bag.ne hC).1
    refine lc_a (bs := tr) (v := tv) walk_list hC (by omega) (fun H s => s.seq (SqL.of e1)) (fun p => .str p.2.nm) (fun p hp H2 Jy s j => ⟨rfl, _, rfl, _, _, _, _, rfl, rfl, SqT.of (s _ _ (t1 p hp)), rfl, j⟩) fun H2 s2 e2 => ?_
    have r2 := r1.same s2
    refine ⟨g, l, C, tr.map (·.2.nm), rfl, r2.bag, by rw [e2, List.map_map]; rfl, nC, by rw [List.length_map]; omega, fun z H3 r3 nz fresh => ?_⟩
    have R3 := r2.trans r3
    have hH3 := R3.at_ hH nh
    have e3 := r3.at_ (s2 _ _ e1) nD
    have u3 := r3.at_ (s2 _ _ u1) nU
    have t3 := (t1.ki (Ki.same s2)).ki (Ki.ok r3)
    refine ⟨_, rfl, _, rfl, _, rfl, g, l, .ref hA, _, rfl, R3.bag, .lst (SqL.of hH3) nh (by rw [List.length_map]; omega) (by rw [List.length_map]; omega), fun x H4 hx r4 => ⟨(by show 5 ≤ sizeLine; decide), fun T5 hT5 => ?_⟩⟩
    obtain ⟨hv, hhv, rfl⟩ := List.mem_map.mp hx
    have R4 := R3.trans r4
    have s5 := same_new (o := .tup [.str z, .str hv, .non, .bl false, .non]) hT5
    have R5 := R4.same s5
    have e5 := s5 _ _ (r4.at_ e3 nD)
    have u5 := s5 _ _ (r4.at_ u3 nU)
    have t5 := (t3.ki (Ki.ok r4)).ki (Ki.same s5)
    have eT5 : upd H4 T5 (.tup [.str z, .str hv, .non, .bl false, .non]) T5 = some (.tup (rowV ⟨z, hv, none, false, none⟩)) := upd_same
    generalize upd H4 T5 (.tup [.str z, .str hv, .non, .bl false, .non]) = H5 at R5 e5 u5 t5 eT5 ⊢
    refine ⟨fun σ H' => ∃ (v9 v10 v11 v12 v13 v14 : Option V) (t : Addr) (r : Row), σ = [some (.ref g), some (.int n), some (.ref hA), some (.ref oA), some (.ref D), some (.ref U), some (.int (0 + (i : Nat))), some (.str z), some (.ref t), v9, v10, v11, v12, v13, v14] ∧ Ok g l H H' ∧ H' D = some (.lst (tr.map tv)) ∧ H' U = some (.lst ((tr.map (·.2.sv)).map V.str)) ∧ TR H' tr ∧ H' t = some (.tup (rowV r)) ∧ r.nm = z ∧ mis (tr.map (·.2)) r = false ∧ r.ok, ?_, ?_⟩
    rotate_left
    · rintro σ H9 ⟨v9, v10, v11, v12, v13, v14, t, r, rfl, R9, e9, u9, t9, et, rn, hm, ok⟩
      have lt : (tr.map tv).length < sizeLine := by rw [List.length_map]; exact Nat.lt_of_lt_of_le (show tr.length < 25 by omega) (by decide)
      have lu : ((tr.map (·.2.sv)).map V.str).length < sizeLine := by rw [List.length_map, List.length_map]; exact Nat.lt_of_lt_of_le (show tr.length < 25 by omega) (by decide)
      have ki1 : Ki H9 (upd H9 D (.lst (tr.map tv ++ [.ref t]))) := Ki.lst e9
      have u10 : upd H9 D (.lst (tr.map tv ++ [.ref t])) U = some (.lst ((tr.map (·.2.sv)).map V.str)) := by rw [upd_ne (Ne.symm DU)]; exact u9
      refine ⟨_, rfl, .inl ⟨rfl, _, SqL.of e9⟩, _, rfl, D, _, _, rfl, rfl, e9, lt, ?_⟩
      refine ⟨_, rfl, .inl ⟨rfl, _, SqL.of u10⟩, _, rfl, _, _, _, _, rfl, rfl, SqT.of (ki1 _ _ rfl et), rfl, U, _, _, rfl, rfl, u10, lu, ?_⟩
      refine ⟨tr ++ [(t, r)], _, _, _, _, _, _, _, _, _, rfl, (R9.mut hD).mut hU0, ?_, ?_, ?_, ?_, ?_⟩
      · rw [upd_ne DU, upd_same, List.map_append]
        rfl
      · rw [upd_same, List.map_append, List.map_append]
        rfl
      · intro p hp
        have kk : Ki H9 (upd (upd H9 D (.lst (tr.map tv ++ [.ref t]))) U (.lst ((tr.map (·.2.sv)).map V.str ++ [.str r.sv]))) := ki1.trans (Ki.lst u10)
        rcases List.mem_append.mp hp with h | h
        · exact kk _ _ rfl (t9 p h)
        · rw [List.mem_singleton.mp h]
          exact kk _ _ rfl et
      · rw [List.length_append, len]
        rfl
      · rw [List.map_append]
        refine gr.snoc hm (fun h => fresh ?_) ok
        rw [rn, List.map_map] at h
        exact h
    refine ⟨_, rfl, _, _, rfl, rfl, _, rfl, ?_⟩
    refine ite_d (fun h => ?_) (fun h => ?_)
    rotate_left
    · have e0 : tr = [] := List.length_eq_zero_iff.mp (by omega)
      exact ⟨_, _, _, _, _, _, T5, _, rfl, R5, e5, u5, t5, eT5, rfl, by rw [e0]; rfl, nz, hh hv hhv, (fun z h => by cases h), (fun z h => by cases h)⟩
    -- above
    refine ⟨_, rfl, _, rfl, D, rfl, ⟨_, SqL.of e5⟩, fun C2 hC2 => ?_⟩
    have nC2 := (R5.bag.ne hC2).1
    refine lc_m (bs := tr) (v := tv) walk_list hC2 (by omega) (fun H s => s.seq (SqL.of e5)) (fun p => !p.2.mem) tv (fun p hp H6 Jy N s j1 j2 => ⟨rfl, _, rfl, _, _, _, _, rfl, rfl, SqT.of (s _ _ (t5 p hp)), rfl, _, rfl, ?_⟩) fun H6 s6 e6 => ?_
    · cases q : p.2.mem with
      | true => exact j2 (by show (!p.2.mem) = false; rw [q]; rfl)
      | false => exact ⟨_, rfl, j1 (by show (!p.2.mem) = true; rw [q]; rfl)⟩
    have R6 := R5.same s6
    obtain ⟨p0, tr', etr⟩ : ∃ p0 tr', tr = p0 :: tr' := by
      cases tr with
      | nil => rw [← len] at h; exact absurd h (by decide)
      | cons p q => exact ⟨p, q, rfl⟩
    have m0 : p0.2.mem = false := by
      rw [etr] at gr
      have gr' : GRows (p0.2 :: tr'.map fun p : Addr × Row => p.2) := gr
      exact gr'.first
    have pos : 0 < ((tr.filter fun p => !p.2.mem).map tv).length := by
      rw [List.length_map]
      refine List.length_pos_of_mem (a := p0) (List.mem_filter.mpr ⟨by rw [etr]; exact List.mem_cons_self .., by rw [m0]; rfl⟩)
    refine ⟨g, l, .ref C2, _, rfl, R6.bag, .lst (SqL.of e6) nC2 pos (by rw [List.length_map]; exact Nat.le_trans (List.length_filter_le _ _) (by omega)), fun x H7 hx r7 => ?_⟩
    obtain ⟨q, hq, rfl⟩ := List.mem_map.mp hx
    obtain ⟨hqt, hqm⟩ := List.mem_filter.mp hq
    have qm : q.2.mem = false := by
      cases w : q.2.mem with
      | false => rfl
      | true => rw [w] at hqm; cases hqm
    have R7 := R6.trans r7
    have e7 := r7.at_ (s6 _ _ e5) nD
    have u7 := r7.at_ (s6 _ _ u5) nU
    have t7 := (t5.ki (Ki.same s6)).ki (Ki.ok r7)
    have hH7 := R7.at_ hH nh
    have hqok := gr.ok q.2 (List.mem_map.mpr ⟨q, hqt, rfl⟩)
    refine ⟨_, rfl, _, _, _, _, rfl, rfl, SqT.of (t7 q hqt), rfl, ?_⟩
    -- free
    refine ⟨_, rfl, hA, rfl, ⟨_, SqL.of hH7⟩, fun C3 hC3 => ?_⟩
    have nC3 := (R7.bag.ne hC3).1
    refine lc_m (bs := hs) (v := V.str) walk_list hC3 (by omega) (fun H s => s.seq (SqL.of hH7)) (fun w => !decide (w ∈ tr.map (·.2.sv))) V.str (fun w hw H8 Jy N s j1 j2 => ⟨rfl, _, rfl, _, rfl, U, _, rfl, .inl (SqL.of (s _ _ u7)), rfl, strs_flat _, _, rfl, ?_⟩) fun H8 s8 e8 => ?_
    · show if (!inV (.str w) ((tr.map (·.2.sv)).map V.str)) = true then _ else _
      rw [inV_str]
      cases c : decide (w ∈ tr.map (·.2.sv)) with
      | true => exact j2 (by show (!decide (w ∈ tr.map (·.2.sv))) = false; rw [c]; rfl)
      | false => exact ⟨_, rfl, j1 (by show (!decide (w ∈ tr.map (·.2.sv))) = true; rw [c]; rfl)⟩
    have R8 := R7.same s8
    have e8' := s8 _ _ e7
    have u8 := s8 _ _ u7
    have t8 := t7.ki (Ki.same s8)
    refine ⟨fun σ H' => ∃ (v13 v14 : Option V) (w : Str), σ = [some (.ref g), some (.int n), some (.ref hA), some (.ref oA), some (.ref D), some (.ref U), some (.int (0 + (i : Nat))), some (.str z), some (.ref T5), some (.ref q.1), some (.str w), some (.ref C3), v12, v13, v14] ∧ Ok g l H H' ∧ H' D = some (.lst (tr.map tv)) ∧ H' U = some (.lst ((tr.map (·.2.sv)).map V.str)) ∧ TR H' tr ∧ NmOk w ∧ (q.2.sv = w ∨ hasSv (tr.map (·.2)) w = false), ?_, ?_⟩
    · refine ⟨_, rfl, _, .inl ⟨_, SqL.of e8, rfl⟩, ?_⟩
      cases c : (!((hs.filter fun w => !decide (w ∈ tr.map (·.2.sv))).map V.str).isEmpty) with
      | false => exact iteF ⟨_, _, q.2.sv, rfl, R8, e8', u8, t8, hqok.s, .inl rfl⟩
      | true =>
        refine iteT ⟨_, rfl, g, l, 2, rfl, R8.bag, by decide, by decide, fun d H9 d0 d1 r9 => ⟨rfl, _, rfl, ?_⟩⟩
        have R9 := R8.trans r9
        have e9 := r9.at_ e8' nD
        have u9 := r9.at_ u8 nU
        have t9 := t8.ki (Ki.ok r9)
        refine ite_eq (fun _ => ?_) (fun _ => ⟨_, _, q.2.sv, rfl, R9, e9, u9, t9, hqok.s, .inl rfl⟩)
        refine ⟨_, rfl, _, rfl, g, l, .ref C3, _, rfl, R9.bag, .lst (SqL.of (r9.at_ e8 nC3)) nC3 (ne_isE c) (by rw [List.length_map]; exact Nat.le_trans (List.length_filter_le _ _) (by omega)), fun x H10 hx r10 => ?_⟩
        obtain ⟨w, hw, rfl⟩ := List.mem_map.mp hx
        obtain ⟨hw1, hw2⟩ := List.mem_filter.mp hw
        refine ⟨_, _, w, rfl, R9.trans r10, r10.at_ e9 nD, r10.at_ u9 nU, t9.ki (Ki.ok r10), hh w hw1, .inr (sv_mem fun hm => ?_)⟩
        rw [List.map_map] at hm
        rw [decide_eq_true (show w ∈ tr.map (·.2.sv) from hm)] at hw2
        cases hw2
    rintro σ H9 ⟨v13', v14', w, rfl, R9, e9, u9, t9, nw, cw⟩
    refine ⟨fun σ H' => ∃ (v13 v14 : Option V) (sf : Bool), σ = [some (.ref g), some (.int n), some (.ref hA), some (.ref oA), some (.ref D), some (.ref U), some (.int (0 + (i : Nat))), some (.str z), some (.ref T5), some (.ref q.1), some (.str w), some (.ref C3), some (.bl sf), v13, v14] ∧ Ok g l H H' ∧ H' D = some (.lst (tr.map tv)) ∧ H' U = some (.lst ((tr.map (·.2.sv)).map V.str)) ∧ TR H' tr ∧ (sf = true → q.2.sv = w), ?_, ?_⟩
    · refine ⟨_, rfl, _, rfl, _, _, _, _, rfl, rfl, SqT.of (t9 q hqt), rfl, rfl, _, rfl, ?_⟩
      refine ite_d (fun hc => ?_) (fun hc => ⟨_, _, false, rfl, R9, e9, u9, t9, fun z => Bool.noConfusion z⟩)
      exact ⟨_, rfl, g, l, 3, rfl, R9.bag, by decide, by decide, fun d H10 d0 d1 r10 => ⟨rfl, _, _, _, rfl, R9.trans r10, r10.at_ e9 nD, r10.at_ u9 nU, t9.ki (Ki.ok r10), fun _ => (V.str.inj hc).symm⟩⟩
    rintro σ H10 ⟨v13, v14, sf, rfl, R10, e10, u10, t10, csf⟩
    refine ⟨_, rfl, _, rfl, _, rfl, _, _, _, _, rfl, rfl, SqT.of (t10 q hqt), rfl, _, rfl, _, rfl, _, rfl, (by show 2 ≤ sizeLine; decide), fun L hL => ?_⟩
    have nL := (R10.bag.ne hL).1
    have s11 := same_new (o := .lst [.non, .non]) hL
    have hO11 := s11 _ _ (R10.at_ hO no)
    refine ⟨oA, L, _, _, rfl, rfl, hO11, upd_same, (by rw [List.length_map]; exact Nat.le_trans (show os.length + 2 ≤ 3 by omega) (by decide)), fun L2 hL2 => ?_⟩
    have R11 := R10.same s11
    have nL2 := (R11.bag.ne hL2).1
    have s12 := same_new (o := .lst (os.map V.str ++ [.non, .non])) hL2
    refine ⟨g, l, .ref L2, _, rfl, (R11.same s12).bag, .lst (SqL.of upd_same) nL2 (by rw [List.length_append]; show 0 < _ + 2; omega) (by rw [List.length_append, List.length_map]; show _ + 2 ≤ 1000000; omega), fun x H12 hx r12 => ⟨(by show 5 ≤ sizeLine; decide), fun T6 hT6 => ?_⟩⟩
    obtain ⟨cu, rfl, hcu⟩ : ∃ cu : Option Str, x = oV cu ∧ ∀ z, cu = some z → NmOk z := by
      rcases List.mem_append.mp hx with h | h
      · obtain ⟨y, hy, rfl⟩ := List.mem_map.mp h
        exact ⟨some y, rfl, fun z e => by cases e; exact ho y hy⟩
      · simp only [List.mem_cons, List.not_mem_nil, or_false] at h
        rcases h with rfl | rfl
        all_goals exact ⟨none, rfl, fun z e => by cases e⟩
    have R12 := (R11.same s12).trans r12
    have s13 := same_new (o := .tup [.str z, .str w, .str q.2.nm, .bl sf, oV cu]) hT6
    have kk : Ki H10 (upd H12 T6 (.tup [.str z, .str w, .str q.2.nm, .bl sf, oV cu])) := (((Ki.same s11).trans (Ki.same s12)).trans (Ki.ok r12)).trans (Ki.same s13)
    have fr : z ∉ (tr.map (·.2)).map (·.nm) := fun h => fresh (by rw [List.map_map] at h; exact h)
    refine ⟨_, _, _, _, _, _, T6, ⟨z, w, some q.2.nm, sf, cu⟩, rfl, R12.same s13, s13 _ _ (r12.at_ (s12 _ _ (s11 _ _ e10)) nD), s13 _ _ (r12.at_ (s12 _ _ (s11 _ _ u10)) nU), t10.ki kk, upd_same, rfl, mis_row (q := q.2) fr (List.mem_map.mpr ⟨q, hqt, rfl⟩) gr.nd rfl qm ?_, nz, nw, (fun y e => by cases e; exact hqok.n), hcu⟩
    cases sf with
    | true => exact .inl (csf rfl)
    | false => exact cw.imp id fun h => ⟨rfl, h⟩
end k12
namespace k12
open PySem L2 LC RM
def spplace (a : Ad) (ce : Ce) : Sp := fun vs H Q E => ∃ (g l t : Addr) (F : Addr → Prop) (v0 v1 v2 v4 : V) (b : Bool), vs = [.ref g, .ref t] ∧ Bag l H g ∧ H t = some (.tup [v0, v1, v2, .bl b, v4]) ∧ F g ∧ Gv a F H v0 ∧ Gv a F H v1 ∧ Gv a F H v2 ∧ Gv a F H v4 ∧
  (∀ u H', plDue v0 v1 v2 v4 = some u → Ok g l H H' → Out ce H' E ("InvalidName", [u])) ∧ ∀ (r : Row) x H', plDue v0 v1 v2 v4 = none → v0 = .str r.nm → v1 = .str r.sv → v2 = oV r.el → b = r.mem → v4 = oV r.cu → r.ok → Ok g l H H' → PlV a H' r (.ref x) → Q (.ref x) H'
theorem ok_place {P : Program} {w : World} {K : PySem.W.Frag} {mg : Str → Option Value} {base : Heap} {f : Addr} {fd : FuncData} (D : Def K mg "_law_place" splace Pplace f fd) (T : Txt K mg) {a : Ad} (KN : Kn K mg a) {ce : Ce} {fdPlace : FuncData} {g5 g2 : List Value → List Value → List Value} (GPlace : FnOk P w K mg base (L2.CX P w) 3 a.Pi fdPlace PPlace_init (spPlace_init a ce)) (IP2 : FnR P w K mg base (L2.CX P w) 3 a.Pi (fun vs H Q E => spPlace_init a ce (vs ++ [.non, .bl false, .non]) H Q E)) (IP3 : FnR P w K mg base (L2.CX P w) 3 a.Pi (fun vs H Q E => spPlace_init a ce (vs ++ [.bl false, .non]) H Q E)) (KB5 : KBn K fdPlace PPlace_init 1 ["customer", "memory", "elder", "server", "name"] g5 gv5) (KB2 : KBn K fdPlace PPlace_init 4 ["memory", "customer"] g2 gv2) {fdraw : Addr} {fddraw : FuncData} (Ddraw : Def K mg "_law_draw" sdraw Pdraw fdraw fddraw) (Gdraw : FnOk P w K mg base CX0 1 fdraw fddraw Pdraw (spdraw)) :
    FnOk P w K mg base (L2.CX P w) 6 f fd Pplace (spplace a ce) := by
  refine D.F.okX scplace (fun vs H Q E h => ?_) (fun cdv A outer s H vs Q E hr h => ?_)
  · obtain ⟨g, l, t, F, v0, v1, v2, v4, b, rfl, B, ht, Fg, g0, g1, g2, g4, ke, k⟩ := h
    rfl
  · obtain ⟨g, l, t, F, v0, v1, v2, v4, b, rfl, B, ht, Fg, g0, g1, g2, g4, ke, k⟩ := h
    have hrdraw : Room 1 _ := hr.mono (by decide)
    have hrI : Room 4 _ := hr.mono (by decide)
    refine ⟨_, (pss_cons (ps_set (i := 2) scplace.nd rfl (Or.inl rfl) (pe_call Gdraw hrdraw rfl Ddraw.g Ddraw.F.kp Ddraw.b .nil pass0 (pa_cons (pv 0) (pa_cons pe_int pa_nil))))
        (pss_cons (ps_if (pt_cmpR op_eq (pv 2) pe_int (nomark _)) (pss_one (ps_ret (pe_makeK0 KN.mPlace GPlace hrI rfl KN.gPlace KB5 (passes_call (takes_of rfl rfl rfl rfl) fun _ _ _ _ h => h) (pk_cons (pe_ix ix_tup (pv 1) pe_int (fun _ _ => rfl)) (pk_cons (pe_ix ix_tup (pv 1) pe_int (fun _ _ => rfl)) (pk_cons (pe_ix ix_tup (pv 1) pe_int (fun _ _ => rfl)) (pk_cons (pe_ix ix_tup (pv 1) pe_int (fun _ _ => rfl)) (pk_cons (pe_ix ix_tup (pv 1) pe_int (fun _ _ => rfl)) pk_nil)))))))) pss_nil)
        (pss_cons (ps_if (PW.pt (pw_and (pt_cmpR op_eq (pv 2) pe_int (nomark _)) (pw_and (pt_not (pt_val (pe_ix ix_tup (pv 1) pe_int (fun _ _ => rfl)))) (pw_and1 (pt_cmpR op_isN (pe_ix ix_tup (pv 1) pe_int (fun _ _ => rfl)) pe_non (nomark _)))))) (pss_one (ps_ret (pe_ifExp (pt_cmpR op_isN (pe_ix ix_tup (pv 1) pe_int (fun _ _ => rfl)) pe_non (nomark _)) (StX.pe_makeR KN.mPlace IP2 hrI rfl KN.gPlace (passes_call (takes_of rfl rfl rfl rfl) fun _ _ _ _ h => h) (pa_cons (pe_ix ix_tup (pv 1) pe_int (fun _ _ => rfl)) (pa_cons (pe_ix ix_tup (pv 1) pe_int (fun _ _ => rfl)) pa_nil))) (StX.pe_makeR KN.mPlace IP3 hrI rfl KN.gPlace (passes_call (takes_of rfl rfl rfl rfl) fun _ _ _ _ h => h) (pa_cons (pe_ix ix_tup (pv 1) pe_int (fun _ _ => rfl)) (pa_cons (pe_ix ix_tup (pv 1) pe_int (fun _ _ => rfl)) (pa_cons (pe_ix ix_tup (pv 1) pe_int (fun _ _ => rfl)) pa_nil))))))) pss_nil)
        (pss_one (ps_ret (pe_makeK KN.mPlace GPlace hrI rfl KN.gPlace KB2 (passes_call (takes_of rfl rfl rfl rfl) fun _ _ _ _ h => h) (pa_cons (pe_ix ix_tup (pv 1) pe_int (fun _ _ => rfl)) (pa_cons (pe_ix ix_tup (pv 1) pe_int (fun _ _ => rfl)) (pa_cons (pe_ix ix_tup (pv 1) pe_int (fun _ _ => rfl)) pa_nil))) (pk_cons (pe_ix ix_tup (pv 1) pe_int (fun _ _ => rfl)) (pk_cons (pe_ix ix_tup (pv 1) pe_int (fun _ _ => rfl)) pk_nil)))))))), ?_⟩
    refine ⟨_, rfl, g, l, 4, rfl, B, by decide, by decide, fun d H1 d0 d1 r1 => ?_⟩
    have kf : KpF F H H1 := KpF.kp Fg r1.kp
    have ki : Ki H H1 := Ki.ok r1
    have ht1 := ki _ _ rfl ht
    have core : ∀ (x dx : Addr), H1 x = none → H1 dx = none → spPlace_init a ce [.ref x, v0, v1, v2, .bl b, v4] (upd (upd H1 dx (.own x)) x (.ins a.P dx [])) (fun v H2 => v = .non ∧ Q (.ref x) H2) E := fun x dx hx hdx =>
      ⟨x, dx, F, v0, v1, v2, v4, b, H1, rfl, upd_same, hx, same_two hx hdx, g0.kp kf ki, g1.kp kf ki, g2.kp kf ki, g4.kp kf ki, fun u H' e s => ke u H' e (r1.same s), fun r H' e e0 e1 e2 e3 e4 o s q => ⟨rfl, k r x H' e e0 e1 e2 e3 e4 o (r1.same s) ⟨x, dx, rfl, q⟩⟩⟩
    refine ⟨_, rfl, rfl, _, rfl, ite_eq (fun _ => ?_) (fun _ => ?_)⟩
    · exact ⟨_, rfl, _, _, _, _, rfl, rfl, SqT.of ht1, rfl, _, rfl, _, _, _, _, rfl, rfl, SqT.of ht1, rfl, _, rfl, _, _, _, _, rfl, rfl, SqT.of ht1, rfl, _, rfl, _, _, _, _, rfl, rfl, SqT.of ht1, rfl, _, rfl, _, _, _, _, rfl, rfl, SqT.of ht1, rfl, rfl, rfl, fun x dx hx hdx nx => core x dx hx hdx⟩
    have full : ∀ (R : Prop), R → R := fun _ h => h
    refine ⟨_, rfl, rfl, _, rfl, ite_eq (fun _ => ?_) (fun _ => ?_)⟩
    rotate_left
    · exact ⟨_, rfl, _, _, _, _, rfl, rfl, SqT.of ht1, rfl, _, rfl, _, _, _, _, rfl, rfl, SqT.of ht1, rfl, _, rfl, _, _, _, _, rfl, rfl, SqT.of ht1, rfl, _, rfl, _, _, _, _, rfl, rfl, SqT.of ht1, rfl, _, rfl, _, _, _, _, rfl, rfl, SqT.of ht1, rfl, rfl, rfl, fun x dx hx hdx nx => core x dx hx hdx⟩
    refine ⟨_, rfl, _, _, _, _, rfl, rfl, SqT.of ht1, rfl, _, rfl, ?_⟩
    cases b with
    | true => exact iteF ⟨_, rfl, _, _, _, _, rfl, rfl, SqT.of ht1, rfl, _, rfl, _, _, _, _, rfl, rfl, SqT.of ht1, rfl, _, rfl, _, _, _, _, rfl, rfl, SqT.of ht1, rfl, _, rfl, _, _, _, _, rfl, rfl, SqT.of ht1, rfl, _, rfl, _, _, _, _, rfl, rfl, SqT.of ht1, rfl, rfl, rfl, fun x dx hx hdx nx => core x dx hx hdx⟩
    | false =>
      refine iteT ⟨_, rfl, _, _, _, _, rfl, rfl, SqT.of ht1, rfl, rfl, _, rfl, ?_⟩
      refine ite_d (fun e4 => ?_) (fun _ => ?_)
      rotate_left
      · exact ⟨_, rfl, _, _, _, _, rfl, rfl, SqT.of ht1, rfl, _, rfl, _, _, _, _, rfl, rfl, SqT.of ht1, rfl, _, rfl, _, _, _, _, rfl, rfl, SqT.of ht1, rfl, _, rfl, _, _, _, _, rfl, rfl, SqT.of ht1, rfl, _, rfl, _, _, _, _, rfl, rfl, SqT.of ht1, rfl, rfl, rfl, fun x dx hx hdx nx => core x dx hx hdx⟩
      subst e4
      refine ⟨_, rfl, _, _, _, _, rfl, rfl, SqT.of ht1, rfl, rfl, _, rfl, ?_⟩
      refine ite_d (fun e2 => ?_) (fun _ => ?_)
      · subst e2
        exact ⟨_, rfl, _, _, _, _, rfl, rfl, SqT.of ht1, rfl, _, rfl, _, _, _, _, rfl, rfl, SqT.of ht1, rfl, fun x dx hx hdx nx => core x dx hx hdx⟩
      · exact ⟨_, rfl, _, _, _, _, rfl, rfl, SqT.of ht1, rfl, _, rfl, _, _, _, _, rfl, rfl, SqT.of ht1, rfl, _, rfl, _, _, _, _, rfl, rfl, SqT.of ht1, rfl, fun x dx hx hdx nx => core x dx hx hdx⟩
end k12
namespace k12
open PySem L2 LC RM
def sptree (K : PySem.W.Frag) (a : Ad) (ce : Ce) : Sp := fun vs H Q E => ∃ (p : Addr) (F : Addr → Prop) (rv : V) (rok : Bool) (ps : List V) (os : List (Option Row)), vs = [rv, .ref p] ∧ H p = some (.lst ps) ∧ (ps.length ≤ 10 ∨ ps.length = 24 ∨ ps.length = 25) ∧ RlV K a F H rv rok ∧ Paired (ThV K a F H) ps os ∧
  (∀ er H', allDue rv rok os = some er → Same H H' → Out ce H' E er) ∧ ∀ x H', allDue rv rok os = none → Same H H' → TreeAt a H' x (os.filterMap id) → Q (.ref x) H'
theorem ok_tree {P : Program} {w : World} {K : PySem.W.Frag} {mg : Str → Option Value} {base : Heap} {f : Addr} {fd : FuncData} (D : Def K mg "_law_tree" stree Ptree f fd) (T : Txt K mg) {a : Ad} (KN : Kn K mg a) {ce : Ce} (ITree : FnR P w K mg base (L2.CX P w) 5 a.Ti (spTree_init K a ce)) :
    FnOk P w K mg base (L2.CX P w) 8 f fd Ptree (sptree K a ce) := by
  refine D.F.okX sctree (fun vs H Q E h => ?_) (fun cdv A outer s H vs Q E hr h => ?_)
  · obtain ⟨p, F, rv, rok, ps, os, rfl, hp, hc, hv, ho, ke, k⟩ := h
    rfl
  · obtain ⟨p, F, rv, rok, ps, os, rfl, hp, hc, hv, ho, ke, k⟩ := h
    have hrI : Room 6 _ := hr.mono (by decide)
    refine ⟨_, (pss_cons (ps_if (pt_cmpR op_lt (pe_callB call_len_seq (by rfl) T.n_len PySem.boot_len (pa_cons (pv 1) pa_nil)) pe_int (nomark _)) (pss_one (ps_ret (pe_ifExp (pt_truth (pv 1) (by intro _; rfl)) (StX.pe_makeR KN.mTree ITree hrI rfl KN.gTree (passes_call (takes_of rfl rfl rfl rfl) fun _ _ _ _ h => h) (pa_cons (pv 0) (pa_cons (pe_ix ix_list (pv 1) pe_int (fun _ _ => rfl)) pa_nil))) (StX.pe_makeR KN.mTree ITree hrI rfl KN.gTree (passes_call (takes_of rfl rfl rfl rfl) fun _ _ _ _ h => h) (pa_cons (pv 0) pa_nil))))) pss_nil)
        (pss_cons (ps_if (pt_cmpR op_eq (pe_callB call_len_seq (by rfl) T.n_len PySem.boot_len (pa_cons (pv 1) pa_nil)) pe_int (nomark _)) (pss_one (ps_ret (StX.pe_makeR KN.mTree ITree hrI rfl KN.gTree (passes_call (takes_of rfl rfl rfl rfl) fun _ _ _ _ h => h) (pa_cons (pv 0) (pa_cons (pe_ix ix_list (pv 1) pe_int (fun _ _ => rfl)) (pa_cons (pe_ix ix_list (pv 1) pe_int (fun _ _ => rfl)) pa_nil)))))) pss_nil)
        (pss_cons (ps_if (pt_cmpR op_eq (pe_callB call_len_seq (by rfl) T.n_len PySem.boot_len (pa_cons (pv 1) pa_nil)) pe_int (nomark _)) (pss_one (ps_ret (StX.pe_makeR KN.mTree ITree hrI rfl KN.gTree (passes_call (takes_of rfl rfl rfl rfl) fun _ _ _ _ h => h) (pa_cons (pv 0) (pa_cons (pe_ix ix_list (pv 1) pe_int (fun _ _ => rfl)) (pa_cons (pe_ix ix_list (pv 1) pe_int (fun _ _ => rfl)) (pa_cons (pe_ix ix_list (pv 1) pe_int (fun _ _ => rfl)) pa_nil))))))) pss_nil)
        (pss_cons (ps_if (pt_cmpR op_eq (pe_callB call_len_seq (by rfl) T.n_len PySem.boot_len (pa_cons (pv 1) pa_nil)) pe_int (nomark _)) (pss_one (ps_ret (StX.pe_makeR KN.mTree ITree hrI rfl KN.gTree (passes_call (takes_of rfl rfl rfl rfl) fun _ _ _ _ h => h) (pa_cons (pv 0) (pa_cons (pe_ix ix_list (pv 1) pe_int (fun _ _ => rfl)) (pa_cons (pe_ix ix_list (pv 1) pe_int (fun _ _ => rfl)) (pa_cons (pe_ix ix_list (pv 1) pe_int (fun _ _ => rfl)) (pa_cons (pe_ix ix_list (pv 1) pe_int (fun _ _ => rfl)) pa_nil)))))))) pss_nil)
        (pss_cons (ps_if (pt_cmpR op_eq (pe_callB call_len_seq (by rfl) T.n_len PySem.boot_len (pa_cons (pv 1) pa_nil)) pe_int (nomark _)) (pss_one (ps_ret (StX.pe_makeR KN.mTree ITree hrI rfl KN.gTree (passes_call (takes_of rfl rfl rfl rfl) fun _ _ _ _ h => h) (pa_cons (pv 0) (pa_cons (pe_ix ix_list (pv 1) pe_int (fun _ _ => rfl)) (pa_cons (pe_ix ix_list (pv 1) pe_int (fun _ _ => rfl)) (pa_cons (pe_ix ix_list (pv 1) pe_int (fun _ _ => rfl)) (pa_cons (pe_ix ix_list (pv 1) pe_int (fun _ _ => rfl)) (pa_cons (pe_ix ix_list (pv 1) pe_int (fun _ _ => rfl)) pa_nil))))))))) pss_nil)
        (pss_cons (ps_if (pt_cmpR op_eq (pe_callB call_len_seq (by rfl) T.n_len PySem.boot_len (pa_cons (pv 1) pa_nil)) pe_int (nomark _)) (pss_one (ps_ret (StX.pe_makeR KN.mTree ITree hrI rfl KN.gTree (passes_call (takes_of rfl rfl rfl rfl) fun _ _ _ _ h => h) (pa_cons (pv 0) (pa_cons (pe_ix ix_list (pv 1) pe_int (fun _ _ => rfl)) (pa_cons (pe_ix ix_list (pv 1) pe_int (fun _ _ => rfl)) (pa_cons (pe_ix ix_list (pv 1) pe_int (fun _ _ => rfl)) (pa_cons (pe_ix ix_list (pv 1) pe_int (fun _ _ => rfl)) (pa_cons (pe_ix ix_list (pv 1) pe_int (fun _ _ => rfl)) (pa_cons (pe_ix ix_list (pv 1) pe_int (fun _ _ => rfl)) pa_nil)))))))))) pss_nil)
        (pss_cons (ps_if (pt_cmpR op_eq (pe_callB call_len_seq (by rfl) T.n_len PySem.boot_len (pa_cons (pv 1) pa_nil)) pe_int (nomark _)) (pss_one (ps_ret (StX.pe_makeR KN.mTree ITree hrI rfl KN.gTree (passes_call (takes_of rfl rfl rfl rfl) fun _ _ _ _ h => h) (pa_cons (pv 0) (pa_cons (pe_ix ix_list (pv 1) pe_int (fun _ _ => rfl)) (pa_cons (pe_ix ix_list (pv 1) pe_int (fun _ _ => rfl)) (pa_cons (pe_ix ix_list (pv 1) pe_int (fun _ _ => rfl)) (pa_cons (pe_ix ix_list (pv 1) pe_int (fun _ _ => rfl)) (pa_cons (pe_ix ix_list (pv 1) pe_int (fun _ _ => rfl)) (pa_cons (pe_ix ix_list (pv 1) pe_int (fun _ _ => rfl)) (pa_cons (pe_ix ix_list (pv 1) pe_int (fun _ _ => rfl)) pa_nil))))))))))) pss_nil)
        (pss_cons (ps_if (pt_cmpR op_eq (pe_callB call_len_seq (by rfl) T.n_len PySem.boot_len (pa_cons (pv 1) pa_nil)) pe_int (nomark _)) (pss_one (ps_ret (StX.pe_makeR KN.mTree ITree hrI rfl KN.gTree (passes_call (takes_of rfl rfl rfl rfl) fun _ _ _ _ h => h) (pa_cons (pv 0) (pa_cons (pe_ix ix_list (pv 1) pe_int (fun _ _ => rfl)) (pa_cons (pe_ix ix_list (pv 1) pe_int (fun _ _ => rfl)) (pa_cons (pe_ix ix_list (pv 1) pe_int (fun _ _ => rfl)) (pa_cons (pe_ix ix_list (pv 1) pe_int (fun _ _ => rfl)) (pa_cons (pe_ix ix_list (pv 1) pe_int (fun _ _ => rfl)) (pa_cons (pe_ix ix_list (pv 1) pe_int (fun _ _ => rfl)) (pa_cons (pe_ix ix_list (pv 1) pe_int (fun _ _ => rfl)) (pa_cons (pe_ix ix_list (pv 1) pe_int (fun _ _ => rfl)) pa_nil)))))))))))) pss_nil)
        (pss_cons (ps_if (pt_cmpR op_eq (pe_callB call_len_seq (by rfl) T.n_len PySem.boot_len (pa_cons (pv 1) pa_nil)) pe_int (nomark _)) (pss_one (ps_ret (StX.pe_makeR KN.mTree ITree hrI rfl KN.gTree (passes_call (takes_of rfl rfl rfl rfl) fun _ _ _ _ h => h) (pa_cons (pv 0) (pa_cons (pe_ix ix_list (pv 1) pe_int (fun _ _ => rfl)) (pa_cons (pe_ix ix_list (pv 1) pe_int (fun _ _ => rfl)) (pa_cons (pe_ix ix_list (pv 1) pe_int (fun _ _ => rfl)) (pa_cons (pe_ix ix_list (pv 1) pe_int (fun _ _ => rfl)) (pa_cons (pe_ix ix_list (pv 1) pe_int (fun _ _ => rfl)) (pa_cons (pe_ix ix_list (pv 1) pe_int (fun _ _ => rfl)) (pa_cons (pe_ix ix_list (pv 1) pe_int (fun _ _ => rfl)) (pa_cons (pe_ix ix_list (pv 1) pe_int (fun _ _ => rfl)) (pa_cons (pe_ix ix_list (pv 1) pe_int (fun _ _ => rfl)) pa_nil))))))))))))) pss_nil)
        (pss_cons (ps_if (pt_cmpR op_eq (pe_callB call_len_seq (by rfl) T.n_len PySem.boot_len (pa_cons (pv 1) pa_nil)) pe_int (nomark _)) (pss_one (ps_ret (StX.pe_makeR KN.mTree ITree hrI rfl KN.gTree (passes_call (takes_of rfl rfl rfl rfl) fun _ _ _ _ h => h) (pa_cons (pv 0) (pa_cons (pe_ix ix_list (pv 1) pe_int (fun _ _ => rfl)) (pa_cons (pe_ix ix_list (pv 1) pe_int (fun _ _ => rfl)) (pa_cons (pe_ix ix_list (pv 1) pe_int (fun _ _ => rfl)) (pa_cons (pe_ix ix_list (pv 1) pe_int (fun _ _ => rfl)) (pa_cons (pe_ix ix_list (pv 1) pe_int (fun _ _ => rfl)) (pa_cons (pe_ix ix_list (pv 1) pe_int (fun _ _ => rfl)) (pa_cons (pe_ix ix_list (pv 1) pe_int (fun _ _ => rfl)) (pa_cons (pe_ix ix_list (pv 1) pe_int (fun _ _ => rfl)) (pa_cons (pe_ix ix_list (pv 1) pe_int (fun _ _ => rfl)) (pa_cons (pe_ix ix_list (pv 1) pe_int (fun _ _ => rfl)) (pa_cons (pe_ix ix_list (pv 1) pe_int (fun _ _ => rfl)) (pa_cons (pe_ix ix_list (pv 1) pe_int (fun _ _ => rfl)) (pa_cons (pe_ix ix_list (pv 1) pe_int (fun _ _ => rfl)) (pa_cons (pe_ix ix_list (pv 1) pe_int (fun _ _ => rfl)) (pa_cons (pe_ix ix_list (pv 1) pe_int (fun _ _ => rfl)) (pa_cons (pe_ix ix_list (pv 1) pe_int (fun _ _ => rfl)) (pa_cons (pe_ix ix_list (pv 1) pe_int (fun _ _ => rfl)) (pa_cons (pe_ix ix_list (pv 1) pe_int (fun _ _ => rfl)) (pa_cons (pe_ix ix_list (pv 1) pe_int (fun _ _ => rfl)) (pa_cons (pe_ix ix_list (pv 1) pe_int (fun _ _ => rfl)) (pa_cons (pe_ix ix_list (pv 1) pe_int (fun _ _ => rfl)) (pa_cons (pe_ix ix_list (pv 1) pe_int (fun _ _ => rfl)) (pa_cons (pe_ix ix_list (pv 1) pe_int (fun _ _ => rfl)) (pa_cons (pe_ix ix_list (pv 1) pe_int (fun _ _ => rfl)) pa_nil)))))))))))))))))))))))))))) pss_nil)
        (pss_cons (ps_if (pt_cmpR op_eq (pe_callB call_len_seq (by rfl) T.n_len PySem.boot_len (pa_cons (pv 1) pa_nil)) pe_int (nomark _)) (pss_one (ps_ret (StX.pe_makeR KN.mTree ITree hrI rfl KN.gTree (passes_call (takes_of rfl rfl rfl rfl) fun _ _ _ _ h => h) (pa_cons (pv 0) (pa_cons (pe_ix ix_list (pv 1) pe_int (fun _ _ => rfl)) (pa_cons (pe_ix ix_list (pv 1) pe_int (fun _ _ => rfl)) (pa_cons (pe_ix ix_list (pv 1) pe_int (fun _ _ => rfl)) (pa_cons (pe_ix ix_list (pv 1) pe_int (fun _ _ => rfl)) (pa_cons (pe_ix ix_list (pv 1) pe_int (fun _ _ => rfl)) (pa_cons (pe_ix ix_list (pv 1) pe_int (fun _ _ => rfl)) (pa_cons (pe_ix ix_list (pv 1) pe_int (fun _ _ => rfl)) (pa_cons (pe_ix ix_list (pv 1) pe_int (fun _ _ => rfl)) (pa_cons (pe_ix ix_list (pv 1) pe_int (fun _ _ => rfl)) (pa_cons (pe_ix ix_list (pv 1) pe_int (fun _ _ => rfl)) (pa_cons (pe_ix ix_list (pv 1) pe_int (fun _ _ => rfl)) (pa_cons (pe_ix ix_list (pv 1) pe_int (fun _ _ => rfl)) (pa_cons (pe_ix ix_list (pv 1) pe_int (fun _ _ => rfl)) (pa_cons (pe_ix ix_list (pv 1) pe_int (fun _ _ => rfl)) (pa_cons (pe_ix ix_list (pv 1) pe_int (fun _ _ => rfl)) (pa_cons (pe_ix ix_list (pv 1) pe_int (fun _ _ => rfl)) (pa_cons (pe_ix ix_list (pv 1) pe_int (fun _ _ => rfl)) (pa_cons (pe_ix ix_list (pv 1) pe_int (fun _ _ => rfl)) (pa_cons (pe_ix ix_list (pv 1) pe_int (fun _ _ => rfl)) (pa_cons (pe_ix ix_list (pv 1) pe_int (fun _ _ => rfl)) (pa_cons (pe_ix ix_list (pv 1) pe_int (fun _ _ => rfl)) (pa_cons (pe_ix ix_list (pv 1) pe_int (fun _ _ => rfl)) (pa_cons (pe_ix ix_list (pv 1) pe_int (fun _ _ => rfl)) (pa_cons (pe_ix ix_list (pv 1) pe_int (fun _ _ => rfl)) (pa_cons (pe_ix ix_list (pv 1) pe_int (fun _ _ => rfl)) pa_nil))))))))))))))))))))))))))))) pss_nil)
        (pss_one (ps_ret (StX.pe_makeR KN.mTree ITree hrI rfl KN.gTree (passes_call (takes_of rfl rfl rfl rfl) fun _ _ _ _ h => h) (pa_cons (pv 0) (pa_cons (pe_ix ix_list (pv 1) pe_int (fun _ _ => rfl)) (pa_cons (pe_ix ix_list (pv 1) pe_int (fun _ _ => rfl)) (pa_cons (pe_ix ix_list (pv 1) pe_int (fun _ _ => rfl)) (pa_cons (pe_ix ix_list (pv 1) pe_int (fun _ _ => rfl)) (pa_cons (pe_ix ix_list (pv 1) pe_int (fun _ _ => rfl)) (pa_cons (pe_ix ix_list (pv 1) pe_int (fun _ _ => rfl)) (pa_cons (pe_ix ix_list (pv 1) pe_int (fun _ _ => rfl)) (pa_cons (pe_ix ix_list (pv 1) pe_int (fun _ _ => rfl)) (pa_cons (pe_ix ix_list (pv 1) pe_int (fun _ _ => rfl)) (pa_cons (pe_ix ix_list (pv 1) pe_int (fun _ _ => rfl)) pa_nil))))))))))))))))))))))))), ?_⟩
    have core : ∀ (x dx : Addr), H x = none → H dx = none → spTree_init K a ce (.ref x :: rv :: ps) (upd (upd H dx (.own x)) x (.ins a.T dx [])) (fun v H2 => v = .non ∧ Q (.ref x) H2) E := fun x dx hx hdx =>
      ⟨[.ref x, rv], ps, rfl, rfl, Nat.le_trans (show ps.length ≤ 25 by omega) (by decide), fun T hT => ⟨x, dx, T, F, rv, rok, ps, os, H, rfl, same_new hT _ _ upd_same, hx, (same_two hx hdx).trans (same_new hT), upd_same, by omega, hv, ho, ke, fun H' e s t => ⟨rfl, k x H' e s t⟩⟩⟩
    by_cases h2 : ps.length < 2
    · refine ⟨_, rfl, p, _, rfl, .inl (SqL.of hp), _, _, rfl, rfl, _, rfl, ite_d (fun _ => ?_) (fun h => absurd (show ((ps.length : Nat) : Int) < 2 by omega) h)⟩
      cases hps : ps with
      | nil =>
        subst hps
        exact ⟨_, rfl, _, .inl ⟨_, SqL.of hp, rfl⟩, iteF ⟨_, rfl, fun x dx hx hdx nx => core x dx hx hdx⟩⟩
      | cons y r =>
        subst hps
        obtain rfl : r = [] := List.length_eq_zero_iff.mp (by rw [List.length_cons] at h2; omega)
        exact ⟨_, rfl, _, .inl ⟨_, SqL.of hp, rfl⟩, iteT ⟨_, rfl, _, rfl, _, _, _, _, rfl, rfl, SqL.of hp, rfl, fun x dx hx hdx nx => core x dx hx hdx⟩⟩
    refine ⟨_, rfl, p, _, rfl, .inl (SqL.of hp), _, _, rfl, rfl, _, rfl, ite_d (fun h => absurd (show ps.length < 2 by have h' : ((ps.length : Nat) : Int) < 2 := h; omega) h2) (fun _ => ?_)⟩
    by_cases hl : ps.length = 2
    · refine ⟨_, rfl, p, _, rfl, .inl (SqL.of hp), rfl, _, rfl, ite_d (fun _ => ?_) (fun h => absurd (by rw [hl]; rfl) h)⟩
      obtain ⟨x0, x1, rfl⟩ : ∃ x0 x1, ps = [x0, x1] := by
        match ps, hl with
        | [x0, x1], _ => exact ⟨x0, x1, rfl⟩
      exact ⟨_, rfl, _, rfl, _, _, _, _, rfl, rfl, SqL.of hp, rfl, _, rfl, _, _, _, _, rfl, rfl, SqL.of hp, rfl, fun x dx hx hdx nx => core x dx hx hdx⟩
    refine ⟨_, rfl, p, _, rfl, .inl (SqL.of hp), rfl, _, rfl, ite_d (fun h => absurd (show ps.length = 2 by have h' := V.int.inj h; omega) hl) (fun _ => ?_)⟩
    have hn2 := hl; clear hl
    by_cases hl : ps.length = 3
    · refine ⟨_, rfl, p, _, rfl, .inl (SqL.of hp), rfl, _, rfl, ite_d (fun _ => ?_) (fun h => absurd (by rw [hl]; rfl) h)⟩
      obtain ⟨x0, x1, x2, rfl⟩ : ∃ x0 x1 x2, ps = [x0, x1, x2] := by
        match ps, hl with
        | [x0, x1, x2], _ => exact ⟨x0, x1, x2, rfl⟩
      exact ⟨_, rfl, _, rfl, _, _, _, _, rfl, rfl, SqL.of hp, rfl, _, rfl, _, _, _, _, rfl, rfl, SqL.of hp, rfl, _, rfl, _, _, _, _, rfl, rfl, SqL.of hp, rfl, fun x dx hx hdx nx => core x dx hx hdx⟩
    refine ⟨_, rfl, p, _, rfl, .inl (SqL.of hp), rfl, _, rfl, ite_d (fun h => absurd (show ps.length = 3 by have h' := V.int.inj h; omega) hl) (fun _ => ?_)⟩
    have hn3 := hl; clear hl
    by_cases hl : ps.length = 4
    · refine ⟨_, rfl, p, _, rfl, .inl (SqL.of hp), rfl, _, rfl, ite_d (fun _ => ?_) (fun h => absurd (by rw [hl]; rfl) h)⟩
      obtain ⟨x0, x1, x2, x3, rfl⟩ : ∃ x0 x1 x2 x3, ps = [x0, x1, x2, x3] := by
        match ps, hl with
        | [x0, x1, x2, x3], _ => exact ⟨x0, x1, x2, x3, rfl⟩
      exact ⟨_, rfl, _, rfl, _, _, _, _, rfl, rfl, SqL.of hp, rfl, _, rfl, _, _, _, _, rfl, rfl, SqL.of hp, rfl, _, rfl, _, _, _, _, rfl, rfl, SqL.of hp, rfl, _, rfl, _, _, _, _, rfl, rfl, SqL.of hp, rfl, fun x dx hx hdx nx => core x dx hx hdx⟩
    refine ⟨_, rfl, p, _, rfl, .inl (SqL.of hp), rfl, _, rfl, ite_d (fun h => absurd (show ps.length = 4 by have h' := V.int.inj h; omega) hl) (fun _ => ?_)⟩
    have hn4 := hl; clear hl
    by_cases hl : ps.length = 5
    · refine ⟨_, rfl, p, _, rfl, .inl (SqL.of hp), rfl, _, rfl, ite_d (fun _ => ?_) (fun h => absurd (by rw [hl]; rfl) h)⟩
      obtain ⟨x0, x1, x2, x3, x4, rfl⟩ : ∃ x0 x1 x2 x3 x4, ps = [x0, x1, x2, x3, x4] := by
        match ps, hl with
        | [x0, x1, x2, x3, x4], _ => exact ⟨x0, x1, x2, x3, x4, rfl⟩
      exact ⟨_, rfl, _, rfl, _, _, _, _, rfl, rfl, SqL.of hp, rfl, _, rfl, _, _, _, _, rfl, rfl, SqL.of hp, rfl, _, rfl, _, _, _, _, rfl, rfl, SqL.of hp, rfl, _, rfl, _, _, _, _, rfl, rfl, SqL.of hp, rfl, _, rfl, _, _, _, _, rfl, rfl, SqL.of hp, rfl, fun x dx hx hdx nx => core x dx hx hdx⟩
    refine ⟨_, rfl, p, _, rfl, .inl (SqL.of hp), rfl, _, rfl, ite_d (fun h => absurd (show ps.length = 5 by have h' := V.int.inj h; omega) hl) (fun _ => ?_)⟩
    have hn5 := hl; clear hl
    by_cases hl : ps.length = 6
    · refine ⟨_, rfl, p, _, rfl, .inl (SqL.of hp), rfl, _, rfl, ite_d (fun _ => ?_) (fun h => absurd (by rw [hl]; rfl) h)⟩
      obtain ⟨x0, x1, x2, x3, x4, x5, rfl⟩ : ∃ x0 x1 x2 x3 x4 x5, ps = [x0, x1, x2, x3, x4, x5] := by
        match ps, hl with
        | [x0, x1, x2, x3, x4, x5], _ => exact ⟨x0, x1, x2, x3, x4, x5, rfl⟩
      exact ⟨_, rfl, _, rfl, _, _, _, _, rfl, rfl, SqL.of hp, rfl, _, rfl, _, _, _, _, rfl, rfl, SqL.of hp, rfl, _, rfl, _, _, _, _, rfl, rfl, SqL.of hp, rfl, _, rfl, _, _, _, _, rfl, rfl, SqL.of hp, rfl, _, rfl, _, _, _, _, rfl, rfl, SqL.of hp, rfl, _, rfl, _, _, _, _, rfl, rfl, SqL.of hp, rfl, fun x dx hx hdx nx => core x dx hx hdx⟩
    refine ⟨_, rfl, p, _, rfl, .inl (SqL.of hp), rfl, _, rfl, ite_d (fun h => absurd (show ps.length = 6 by have h' := V.int.inj h; omega) hl) (fun _ => ?_)⟩
    have hn6 := hl; clear hl
    by_cases hl : ps.length = 7
    · refine ⟨_, rfl, p, _, rfl, .inl (SqL.of hp), rfl, _, rfl, ite_d (fun _ => ?_) (fun h => absurd (by rw [hl]; rfl) h)⟩
      obtain ⟨x0, x1, x2, x3, x4, x5, x6, rfl⟩ : ∃ x0 x1 x2 x3 x4 x5 x6, ps = [x0, x1, x2, x3, x4, x5, x6] := by
        match ps, hl with
        | [x0, x1, x2, x3, x4, x5, x6], _ => exact ⟨x0, x1, x2, x3, x4, x5, x6, rfl⟩
      exact ⟨_, rfl, _, rfl, _, _, _, _, rfl, rfl, SqL.of hp, rfl, _, rfl, _, _, _, _, rfl, rfl, SqL.of hp, rfl, _, rfl, _, _, _, _, rfl, rfl, SqL.of hp, rfl, _, rfl, _, _, _, _, rfl, rfl, SqL.of hp, rfl, _, rfl, _, _, _, _, rfl, rfl, SqL.of hp, rfl, _, rfl, _, _, _, _, rfl, rfl, SqL.of hp, rfl, _, rfl, _, _, _, _, rfl, rfl, SqL.of hp, rfl, fun x dx hx hdx nx => core x dx hx hdx⟩
    refine ⟨_, rfl, p, _, rfl, .inl (SqL.of hp), rfl, _, rfl, ite_d (fun h => absurd (show ps.length = 7 by have h' := V.int.inj h; omega) hl) (fun _ => ?_)⟩
    have hn7 := hl; clear hl
    by_cases hl : ps.length = 8
    · refine ⟨_, rfl, p, _, rfl, .inl (SqL.of hp), rfl, _, rfl, ite_d (fun _ => ?_) (fun h => absurd (by rw [hl]; rfl) h)⟩
      obtain ⟨x0, x1, x2, x3, x4, x5, x6, x7, rfl⟩ : ∃ x0 x1 x2 x3 x4 x5 x6 x7, ps = [x0, x1, x2, x3, x4, x5, x6, x7] := by
        match ps, hl with
        | [x0, x1, x2, x3, x4, x5, x6, x7], _ => exact ⟨x0, x1, x2, x3, x4, x5, x6, x7, rfl⟩
      exact ⟨_, rfl, _, rfl, _, _, _, _, rfl, rfl, SqL.of hp, rfl, _, rfl, _, _, _, _, rfl, rfl, SqL.of hp, rfl, _, rfl, _, _, _, _, rfl, rfl, SqL.of hp, rfl, _, rfl, _, _, _, _, rfl, rfl, SqL.of hp, rfl, _, rfl, _, _, _, _, rfl, rfl, SqL.of hp, rfl, _, rfl, _, _, _, _, rfl, rfl, SqL.of hp, rfl, _, rfl, _, _, _, _, rfl, rfl, SqL.of hp, rfl, _, rfl, _, _, _, _, rfl, rfl, SqL.of hp, rfl, fun x dx hx hdx nx => core x dx hx hdx⟩
    refine ⟨_, rfl, p, _, rfl, .inl (SqL.of hp), rfl, _, rfl, ite_d (fun h => absurd (show ps.length = 8 by have h' := V.int.inj h; omega) hl) (fun _ => ?_)⟩
    have hn8 := hl; clear hl
    by_cases hl : ps.length = 9
    · refine ⟨_, rfl, p, _, rfl, .inl (SqL.of hp), rfl, _, rfl, ite_d (fun _ => ?_) (fun h => absurd (by rw [hl]; rfl) h)⟩
      obtain ⟨x0, x1, x2, x3, x4, x5, x6, x7, x8, rfl⟩ : ∃ x0 x1 x2 x3 x4 x5 x6 x7 x8, ps = [x0, x1, x2, x3, x4, x5, x6, x7, x8] := by
        match ps, hl with
        | [x0, x1, x2, x3, x4, x5, x6, x7, x8], _ => exact ⟨x0, x1, x2, x3, x4, x5, x6, x7, x8, rfl⟩
      exact ⟨_, rfl, _, rfl, _, _, _, _, rfl, rfl, SqL.of hp, rfl, _, rfl, _, _, _, _, rfl, rfl, SqL.of hp, rfl, _, rfl, _, _, _, _, rfl, rfl, SqL.of hp, rfl, _, rfl, _, _, _, _, rfl, rfl, SqL.of hp, rfl, _, rfl, _, _, _, _, rfl, rfl, SqL.of hp, rfl, _, rfl, _, _, _, _, rfl, rfl, SqL.of hp, rfl, _, rfl, _, _, _, _, rfl, rfl, SqL.of hp, rfl, _, rfl, _, _, _, _, rfl, rfl, SqL.of hp, rfl, _, rfl, _, _, _, _, rfl, rfl, SqL.of hp, rfl, fun x dx hx hdx nx => core x dx hx hdx⟩
    refine ⟨_, rfl, p, _, rfl, .inl (SqL.of hp), rfl, _, rfl, ite_d (fun h => absurd (show ps.length = 9 by have h' := V.int.inj h; omega) hl) (fun _ => ?_)⟩
    have hn9 := hl; clear hl
    by_cases hl : ps.length = 24
    · refine ⟨_, rfl, p, _, rfl, .inl (SqL.of hp), rfl, _, rfl, ite_d (fun _ => ?_) (fun h => absurd (by rw [hl]; rfl) h)⟩
      obtain ⟨x0, x1, x2, x3, x4, x5, x6, x7, x8, x9, x10, x11, x12, x13, x14, x15, x16, x17, x18, x19, x20, x21, x22, x23, rfl⟩ : ∃ x0 x1 x2 x3 x4 x5 x6 x7 x8 x9 x10 x11 x12 x13 x14 x15 x16 x17 x18 x19 x20 x21 x22 x23, ps = [x0, x1, x2, x3, x4, x5, x6, x7, x8, x9, x10, x11, x12, x13, x14, x15, x16, x17, x18, x19, x20, x21, x22, x23] := by
        match ps, hl with
        | [x0, x1, x2, x3, x4, x5, x6, x7, x8, x9, x10, x11, x12, x13, x14, x15, x16, x17, x18, x19, x20, x21, x22, x23], _ => exact ⟨x0, x1, x2, x3, x4, x5, x6, x7, x8, x9, x10, x11, x12, x13, x14, x15, x16, x17, x18, x19, x20, x21, x22, x23, rfl⟩
      exact ⟨_, rfl, _, rfl, _, _, _, _, rfl, rfl, SqL.of hp, rfl, _, rfl, _, _, _, _, rfl, rfl, SqL.of hp, rfl, _, rfl, _, _, _, _, rfl, rfl, SqL.of hp, rfl, _, rfl, _, _, _, _, rfl, rfl, SqL.of hp, rfl, _, rfl, _, _, _, _, rfl, rfl, SqL.of hp, rfl, _, rfl, _, _, _, _, rfl, rfl, SqL.of hp, rfl, _, rfl, _, _, _, _, rfl, rfl, SqL.of hp, rfl, _, rfl, _, _, _, _, rfl, rfl, SqL.of hp, rfl, _, rfl, _, _, _, _, rfl, rfl, SqL.of hp, rfl, _, rfl, _, _, _, _, rfl, rfl, SqL.of hp, rfl, _, rfl, _, _, _, _, rfl, rfl, SqL.of hp, rfl, _, rfl, _, _, _, _, rfl, rfl, SqL.of hp, rfl, _, rfl, _, _, _, _, rfl, rfl, SqL.of hp, rfl, _, rfl, _, _, _, _, rfl, rfl, SqL.of hp, rfl, _, rfl, _, _, _, _, rfl, rfl, SqL.of hp, rfl, _, rfl, _, _, _, _, rfl, rfl, SqL.of hp, rfl, _, rfl, _, _, _, _, rfl, rfl, SqL.of hp, rfl, _, rfl, _, _, _, _, rfl, rfl, SqL.of hp, rfl, _, rfl, _, _, _, _, rfl, rfl, SqL.of hp, rfl, _, rfl, _, _, _, _, rfl, rfl, SqL.of hp, rfl, _, rfl, _, _, _, _, rfl, rfl, SqL.of hp, rfl, _, rfl, _, _, _, _, rfl, rfl, SqL.of hp, rfl, _, rfl, _, _, _, _, rfl, rfl, SqL.of hp, rfl, _, rfl, _, _, _, _, rfl, rfl, SqL.of hp, rfl, fun x dx hx hdx nx => core x dx hx hdx⟩
    refine ⟨_, rfl, p, _, rfl, .inl (SqL.of hp), rfl, _, rfl, ite_d (fun h => absurd (show ps.length = 24 by have h' := V.int.inj h; omega) hl) (fun _ => ?_)⟩
    have hn24 := hl; clear hl
    by_cases hl : ps.length = 25
    · refine ⟨_, rfl, p, _, rfl, .inl (SqL.of hp), rfl, _, rfl, ite_d (fun _ => ?_) (fun h => absurd (by rw [hl]; rfl) h)⟩
      obtain ⟨x0, x1, x2, x3, x4, x5, x6, x7, x8, x9, x10, x11, x12, x13, x14, x15, x16, x17, x18, x19, x20, x21, x22, x23, x24, rfl⟩ : ∃ x0 x1 x2 x3 x4 x5 x6 x7 x8 x9 x10 x11 x12 x13 x14 x15 x16 x17 x18 x19 x20 x21 x22 x23 x24, ps = [x0, x1, x2, x3, x4, x5, x6, x7, x8, x9, x10, x11, x12, x13, x14, x15, x16, x17, x18, x19, x20, x21, x22, x23, x24] := by
        match ps, hl with
        | [x0, x1, x2, x3, x4, x5, x6, x7, x8, x9, x10, x11, x12, x13, x14, x15, x16, x17, x18, x19, x20, x21, x22, x23, x24], _ => exact ⟨x0, x1, x2, x3, x4, x5, x6, x7, x8, x9, x10, x11, x12, x13, x14, x15, x16, x17, x18, x19, x20, x21, x22, x23, x24, rfl⟩
      exact ⟨_, rfl, _, rfl, _, _, _, _, rfl, rfl, SqL.of hp, rfl, _, rfl, _, _, _, _, rfl, rfl, SqL.of hp, rfl, _, rfl, _, _, _, _, rfl, rfl, SqL.of hp, rfl, _, rfl, _, _, _, _, rfl, rfl, SqL.of hp, rfl, _, rfl, _, _, _, _, rfl, rfl, SqL.of hp, rfl, _, rfl, _, _, _, _, rfl, rfl, SqL.of hp, rfl, _, rfl, _, _, _, _, rfl, rfl, SqL.of hp, rfl, _, rfl, _, _, _, _, rfl, rfl, SqL.of hp, rfl, _, rfl, _, _, _, _, rfl, rfl, SqL.of hp, rfl, _, rfl, _, _, _, _, rfl, rfl, SqL.of hp, rfl, _, rfl, _, _, _, _, rfl, rfl, SqL.of hp, rfl, _, rfl, _, _, _, _, rfl, rfl, SqL.of hp, rfl, _, rfl, _, _, _, _, rfl, rfl, SqL.of hp, rfl, _, rfl, _, _, _, _, rfl, rfl, SqL.of hp, rfl, _, rfl, _, _, _, _, rfl, rfl, SqL.of hp, rfl, _, rfl, _, _, _, _, rfl, rfl, SqL.of hp, rfl, _, rfl, _, _, _, _, rfl, rfl, SqL.of hp, rfl, _, rfl, _, _, _, _, rfl, rfl, SqL.of hp, rfl, _, rfl, _, _, _, _, rfl, rfl, SqL.of hp, rfl, _, rfl, _, _, _, _, rfl, rfl, SqL.of hp, rfl, _, rfl, _, _, _, _, rfl, rfl, SqL.of hp, rfl, _, rfl, _, _, _, _, rfl, rfl, SqL.of hp, rfl, _, rfl, _, _, _, _, rfl, rfl, SqL.of hp, rfl, _, rfl, _, _, _, _, rfl, rfl, SqL.of hp, rfl, _, rfl, _, _, _, _, rfl, rfl, SqL.of hp, rfl, fun x dx hx hdx nx => core x dx hx hdx⟩
    refine ⟨_, rfl, p, _, rfl, .inl (SqL.of hp), rfl, _, rfl, ite_d (fun h => absurd (show ps.length = 25 by have h' := V.int.inj h; omega) hl) (fun _ => ?_)⟩
    have hn25 := hl; clear hl
    obtain hl : ps.length = 10 := by omega
    obtain ⟨x0, x1, x2, x3, x4, x5, x6, x7, x8, x9, rfl⟩ : ∃ x0 x1 x2 x3 x4 x5 x6 x7 x8 x9, ps = [x0, x1, x2, x3, x4, x5, x6, x7, x8, x9] := by
      match ps, hl with
      | [x0, x1, x2, x3, x4, x5, x6, x7, x8, x9], _ => exact ⟨x0, x1, x2, x3, x4, x5, x6, x7, x8, x9, rfl⟩
    exact ⟨_, rfl, _, rfl, _, _, _, _, rfl, rfl, SqL.of hp, rfl, _, rfl, _, _, _, _, rfl, rfl, SqL.of hp, rfl, _, rfl, _, _, _, _, rfl, rfl, SqL.of hp, rfl, _, rfl, _, _, _, _, rfl, rfl, SqL.of hp, rfl, _, rfl, _, _, _, _, rfl, rfl, SqL.of hp, rfl, _, rfl, _, _, _, _, rfl, rfl, SqL.of hp, rfl, _, rfl, _, _, _, _, rfl, rfl, SqL.of hp, rfl, _, rfl, _, _, _, _, rfl, rfl, SqL.of hp, rfl, _, rfl, _, _, _, _, rfl, rfl, SqL.of hp, rfl, _, rfl, _, _, _, _, rfl, rfl, SqL.of hp, rfl, fun x dx hx hdx nx => core x dx hx hdx⟩
end k12
namespace k12
open PySem L2 LC RM
def sprow (a : Ad) : Sp := fun vs H Q _ => ∃ (x dx : Addr) (r : Row), vs = [.ref x] ∧ H x = some (.ins a.P dx (plF r)) ∧ ∀ t H', H t = none → Same H H' → H' t = some (.tup (rowV r)) → Q (.ref t) H'
theorem ok_row {P : Program} {w : World} {K : PySem.W.Frag} {mg : Str → Option Value} {base : Heap} {f : Addr} {fd : FuncData} (D : Def K mg "_law_row" srow Prow f fd) (T : Txt K mg) {a : Ad} (KN : Kn K mg a) :
    FnOk P w K mg base CX0 1 f fd Prow (sprow a) := by
  refine D.F.ok scrow (fun vs H Q E h => ?_) (fun cdv A outer s H vs Q E hr h => ?_)
  · obtain ⟨x, dx, r, rfl, hx, k⟩ := h
    rfl
  · obtain ⟨x, dx, r, rfl, hx, k⟩ := h
    refine ⟨_, (pss_one (ps_ret (pe_tup (pa_cons (pe_fld (pv 0) rfl) (pa_cons (pe_fld (pv 0) rfl) (pa_cons (pe_fld (pv 0) rfl) (pa_cons (pe_fld (pv 0) rfl) (pa_cons (pe_fld (pv 0) rfl) pa_nil)))))))), ?_⟩
    exact ⟨_, rfl, x, _, dx, _, _, rfl, hx, KN.ip.cl, KN.pn, plF_n, _, rfl, x, _, dx, _, _, rfl, hx, KN.ip.cl, KN.ps, plF_s, _, rfl, x, _, dx, _, _, rfl, hx, KN.ip.cl, KN.pe, plF_e, _, rfl, x, _, dx, _, _, rfl, hx, KN.ip.cl, KN.pm, plF_m, _, rfl, x, _, dx, _, _, rfl, hx, KN.ip.cl, KN.pc, plF_c, (by show 5 ≤ sizeLine; decide), fun t ht => k t _ ht (same_new ht) upd_same⟩
end k12
namespace k12
open PySem L2 LC RM
theorem ask_gives {X : Cx} {P : Program} {w : World} {base : Heap} {ce : Ce} {fInvalidName fInvalidRule fInvalidPlace fBadTree fTooMany S g : Addr} {fdInvalidName fdInvalidRule fdInvalidPlace fdBadTree fdTooMany : FuncData} {cdg : Value} {q : Str}
    (RInvalidName : RE P w X.K X.mg base "InvalidName" "value" (ivF "InvalidName") ce.na fInvalidName fdInvalidName)
    (RInvalidRule : RE P w X.K X.mg base "InvalidRule" "value" (ivF "InvalidRule") ce.ru fInvalidRule fdInvalidRule)
    (RInvalidPlace : RE P w X.K X.mg base "InvalidPlace" "at" (atF "InvalidPlace") ce.pl fInvalidPlace fdInvalidPlace)
    (RBadTree : RE P w X.K X.mg base "BadTree" "place" (plcF "BadTree") ce.bt fBadTree fdBadTree)
    (RTooMany : RTM P w X.K X.mg base ce.tm fTooMany fdTooMany)
    (eruna : PySem.W.exmOne X.K (.ref ce.ru) (.ref ce.na) = some false)
    (eplna : PySem.W.exmOne X.K (.ref ce.pl) (.ref ce.na) = some false)
    (ebtna : PySem.W.exmOne X.K (.ref ce.bt) (.ref ce.na) = some false)
    (etmna : PySem.W.exmOne X.K (.ref ce.tm) (.ref ce.na) = some false)
    (eplru : PySem.W.exmOne X.K (.ref ce.pl) (.ref ce.ru) = some false)
    (ebtru : PySem.W.exmOne X.K (.ref ce.bt) (.ref ce.ru) = some false)
    (etmru : PySem.W.exmOne X.K (.ref ce.tm) (.ref ce.ru) = some false)
    (ebtpl : PySem.W.exmOne X.K (.ref ce.bt) (.ref ce.pl) = some false)
    (etmpl : PySem.W.exmOne X.K (.ref ce.tm) (.ref ce.pl) = some false)
    (etmbt : PySem.W.exmOne X.K (.ref ce.tm) (.ref ce.bt) = some false)
    (gSE : X.mg "SureletError" = some (.ref S)) :
    LL.GivesS X Nmask "_law_ask" (defScope sask) g cdg (defBody sask) "_law_deed" q (TAsk ce) := by
  intro f c' s H Q tl act hc h
  refine ⟨_, (pss_cons (ps_asg (pe_tup (pa_cons pe_non (pa_cons pe_non pa_nil))) (pg_tup rfl (pgs_cons (pg_name (i := 1) scask.nd rfl (Or.inl rfl)) (pgs_cons (pg_name (i := 2) scask.nd rfl (Or.inl rfl)) pgs_nil))))
        (pss_cons (LX.ps_try_asM rfl rfl scask.nd takes0 (fun W pn xe tk po => (pss_one (ps_set (i := 1) scask.nd rfl (Or.inl rfl) (act W pn xe _ _ tk))))
          (.cons (i := 3) rfl rfl ⟨rfl, by decide, .inl RInvalidName.er.gC⟩ (fun a oe cls d pn hz hf => (pss_one (ps_set (i := 2) scask.nd rfl (Or.inl rfl) (pe_lst (pa_cons pe_str (pa_cons (pe_xf RInvalidName.er.xf (RInvalidName.er.no _ (by decide +kernel)) hz hf (pv 3)) pa_nil)))))) (.cons (i := 3) rfl rfl ⟨rfl, by decide, .inl RInvalidRule.er.gC⟩ (fun a oe cls d pn hz hf => (pss_one (ps_set (i := 2) scask.nd rfl (Or.inl rfl) (pe_lst (pa_cons pe_str (pa_cons (pe_xf RInvalidRule.er.xf (RInvalidRule.er.no _ (by decide +kernel)) hz hf (pv 3)) pa_nil)))))) (.cons (i := 3) rfl rfl ⟨rfl, by decide, .inl RInvalidPlace.er.gC⟩ (fun a oe cls d pn hz hf => (pss_one (ps_set (i := 2) scask.nd rfl (Or.inl rfl) (pe_lst (pa_cons pe_str (pa_cons (pe_xf RInvalidPlace.er.xf (RInvalidPlace.er.no _ (by decide +kernel)) hz hf (pv 3)) pa_nil)))))) (.cons (i := 3) rfl rfl ⟨rfl, by decide, .inl RBadTree.er.gC⟩ (fun a oe cls d pn hz hf => (pss_one (ps_set (i := 2) scask.nd rfl (Or.inl rfl) (pe_lst (pa_cons pe_str (pa_cons (pe_xf RBadTree.er.xf (RBadTree.er.no _ (by decide +kernel)) hz hf (pv 3)) pa_nil)))))) (.cons (i := 3) rfl rfl ⟨rfl, by decide, .inl RTooMany.er.gC⟩ (fun a oe cls d pn hz hf => (pss_one (ps_set (i := 2) scask.nd rfl (Or.inl rfl) (pe_lst (pa_cons pe_str (pa_cons (pe_xf RTooMany.er.xf (RTooMany.er.no _ (by decide +kernel)) hz hf (pv 3)) (pa_cons (pe_xf RTooMany.er.xf (RTooMany.er.no _ (by decide +kernel)) hz hf (pv 3)) pa_nil))))))) (.cons (i := 3) rfl rfl ⟨rfl, by decide, .inl gSE⟩ (fun a oe cls d pn hz hf => LC.pss_never) .nil)))))))
        (pss_one (ps_ret (pe_tup (pa_cons (pv 1) (pa_cons (pv 2) pa_nil))))))), ?_⟩
  refine ⟨(by show 2 ≤ sizeLine; decide), fun T0 hT0 => ⟨T0, _, rfl, SqT.of upd_same, rfl, _, _, rfl, _, _, rfl, rfl, ?_⟩⟩
  have s0 := same_new (o := .tup [.non, .non]) hT0
  have hc1 := s0 _ _ hc
  generalize upd H T0 (.tup [.non, .non]) = H1 at s0 hc1 ⊢
  obtain ⟨G, hG, ht⟩ := h H1 s0
  refine ⟨rfl, hc1, ?_⟩
  refine ht _ _ (fun cls d H' hg => ?_) (fun v H' hv => ⟨_, rfl, _, rfl, (by show 2 ≤ sizeLine; decide), fun T hT => hv T hT⟩)
  obtain ⟨nm, C, dd, ws, fs, cs, rfl, rfl, hx, k⟩ := hG _ _ _ hg
  have fin : ∀ D, H' D = none → ∀ T, upd H' D (.lst (.str nm :: ws)) T = none → Q (.ref T) (upd (upd H' D (.lst (.str nm :: ws))) T (.tup [.non, .ref D])) := fun D hD T hT => by
    have nT : T ≠ D := fun z => by
      rw [z, upd_same] at hT
      cases hT
    have sD := same_new (o := .lst (.str nm :: ws)) hD
    exact k D T _ (sD.trans (same_new hT)) hD (sD.free hT) (by rw [upd_ne (Ne.symm nT)]; exact upd_same) upd_same
  cases cs with
  | na v => exact ⟨true, RInvalidName.er.te, fun _ e ne => ⟨_, rfl, rfl, rfl, dd, _, v, rfl, hx, rfl, (by show 2 ≤ sizeLine; decide), fun D hD => ⟨_, rfl, _, rfl, (by show 2 ≤ sizeLine; decide), fun T hT => fin D hD T hT⟩⟩, fun q => Bool.noConfusion q⟩
  | ru v => exact ⟨false, eruna, fun q => Bool.noConfusion q, fun _ => ⟨true, RInvalidRule.er.te, fun _ e ne => ⟨_, rfl, rfl, rfl, dd, _, v, rfl, hx, rfl, (by show 2 ≤ sizeLine; decide), fun D hD => ⟨_, rfl, _, rfl, (by show 2 ≤ sizeLine; decide), fun T hT => fin D hD T hT⟩⟩, fun q => Bool.noConfusion q⟩⟩
  | pl v => exact ⟨false, eplna, fun q => Bool.noConfusion q, fun _ => ⟨false, eplru, fun q => Bool.noConfusion q, fun _ => ⟨true, RInvalidPlace.er.te, fun _ e ne => ⟨_, rfl, rfl, rfl, dd, _, v, rfl, hx, rfl, (by show 2 ≤ sizeLine; decide), fun D hD => ⟨_, rfl, _, rfl, (by show 2 ≤ sizeLine; decide), fun T hT => fin D hD T hT⟩⟩, fun q => Bool.noConfusion q⟩⟩⟩
  | bt v => exact ⟨false, ebtna, fun q => Bool.noConfusion q, fun _ => ⟨false, ebtru, fun q => Bool.noConfusion q, fun _ => ⟨false, ebtpl, fun q => Bool.noConfusion q, fun _ => ⟨true, RBadTree.er.te, fun _ e ne => ⟨_, rfl, rfl, rfl, dd, _, v, rfl, hx, rfl, (by show 2 ≤ sizeLine; decide), fun D hD => ⟨_, rfl, _, rfl, (by show 2 ≤ sizeLine; decide), fun T hT => fin D hD T hT⟩⟩, fun q => Bool.noConfusion q⟩⟩⟩⟩
  | tm v n => exact ⟨false, etmna, fun q => Bool.noConfusion q, fun _ => ⟨false, etmru, fun q => Bool.noConfusion q, fun _ => ⟨false, etmpl, fun q => Bool.noConfusion q, fun _ => ⟨false, etmbt, fun q => Bool.noConfusion q, fun _ => ⟨true, RTooMany.er.te, fun _ e ne => ⟨_, rfl, rfl, rfl, dd, _, v, rfl, hx, rfl, _, rfl, rfl, rfl, dd, _, n, rfl, hx, rfl, (by show 3 ≤ sizeLine; decide), fun D hD => ⟨_, rfl, _, rfl, (by show 2 ≤ sizeLine; decide), fun T hT => fin D hD T hT⟩⟩, fun q => Bool.noConfusion q⟩⟩⟩⟩⟩
end k12
namespace k12
open PySem L2 LC RM
def spat_fault (K : PySem.W.Frag) : Sp := fun vs H Q _ => ∃ (D : Addr) (tr : List (Addr × Row)) (j : Nat) (r : Row), vs = [.ref D, .int j] ∧ H D = some (.lst (tr.map tv)) ∧ TR H tr ∧ tr.length ≤ 30 ∧ (tr.map (·.2))[j]? = some r ∧ ∀ H', Same H H' → Q (.bl (mis ((tr.map (·.2)).take j) r)) H'
theorem ok_at_fault {P : Program} {w : World} {K : PySem.W.Frag} {mg : Str → Option Value} {base : Heap} {f : Addr} {fd : FuncData} (D : Def K mg "_law_at_fault" sat_fault Pat_fault f fd) (T : Txt K mg) :
    FnOk P w K mg base CX0 1 f fd Pat_fault (spat_fault K) := by
  refine D.F.ok scat_fault (fun vs H Q E h => ?_) (fun cdv A outer s H vs Q E hr h => ?_)
  · obtain ⟨D, tr, j, r, rfl, hD, ht, hl, hj, k⟩ := h
    rfl
  · obtain ⟨D, tr, j, r, rfl, hD, ht, hl, hj, k⟩ := h
    refine ⟨_, (pss_cons (ps_asg (pe_tup (pa_cons (pe_ix ix_list (pv 0) (pv 1) (fun _ _ => rfl)) (pa_cons (pe_slice sl_list (pv 0) po_none (po_some (pv 1))) pa_nil))) (pg_tup rfl (pgs_cons (pg_name (i := 2) scat_fault.nd rfl (Or.inr rfl)) (pgs_cons (pg_name (i := 3) scat_fault.nd rfl (Or.inl rfl)) pgs_nil))))
        (pss_cons (ps_if (pt_cmpR op_in_seq (pe_ix ix_tup (pv 2) pe_int (fun _ _ => rfl)) (pe_lc (own := [("_law_one", 5)]) (g := gName 5) (tt := tYes) rfl scat_fault.nd (pi_list (pv 3)) (blkOk_by (own := [("_law_one", 5)]) (N := Nmat_fault) (sc := defScope sat_fault) (by decide +kernel)) (fun _ _ _ _ _ => pg_name (i := 5) scat_fault.nd rfl (Or.inl rfl)) (fun _ _ _ _ _ => pts_nil) (fun _ _ _ _ _ => (pe_ix (show IxR _ (rIxT K) from ix_tup) (pv 5) pe_int (fun _ _ => rfl)))) (by rfl)) (pss_one (ps_ret pe_bl)) pss_nil)
        (pss_cons (ps_if (pt_cmpR op_eq (pv 1) pe_int (nomark _)) (pss_one (ps_ret (pe_or (pe_cmpR op_notN (pe_ix ix_tup (pv 2) pe_int (fun _ _ => rfl)) pe_non (nomark _)) (pe_or (pe_ix ix_tup (pv 2) pe_int (fun _ _ => rfl)) (pe_one (pe_cmpR op_notN (pe_ix ix_tup (pv 2) pe_int (fun _ _ => rfl)) pe_non (nomark _))))))) pss_nil)
        (pss_cons (ps_setLc (i := 4) (own := [("_law_one", 5)]) (g := gName 5) rfl scat_fault.nd rfl rfl (sw_true rfl rfl rfl (by decide +kernel)) (pi_list (pv 3)) (blkOk_by (own := [("_law_one", 5)]) (N := Nmat_fault) (sc := defScope sat_fault) (by decide +kernel)) (fun _ _ _ _ _ => pg_name (i := 5) scat_fault.nd rfl (Or.inl rfl)) (fun _ _ _ _ _ => pts_one (pt_cmpR op_eq (pe_ix (show IxR _ (rIxT K) from ix_tup) (pv 5) pe_int (fun _ _ => rfl)) (pe_ix (show IxR _ (rIxT K) from ix_tup) (pv 2) pe_int (fun _ _ => rfl)) (nomark _))) (fun _ _ _ _ _ => (pv 5)))
        (pss_cons (ps_if (PW.pt (pw_or (pt_not (pt_truth (pv 4) (by intro _; rfl))) (pw_or1 (pt_val (pe_ix ix_tup (pe_ix ix_list (pv 4) pe_int (fun _ _ => rfl)) pe_int (fun _ _ => rfl)))))) (pss_one (ps_ret pe_bl)) pss_nil)
        (pss_cons (ps_if (pt_cmpR op_eq (pe_ix ix_tup (pe_ix ix_list (pv 4) pe_int (fun _ _ => rfl)) pe_int (fun _ _ => rfl)) (pe_ix ix_tup (pv 2) pe_int (fun _ _ => rfl)) (nomark _)) (pss_one (ps_ret pe_bl)) pss_nil)
        (pss_one (ps_ret (pe_or (pe_ix ix_tup (pv 2) pe_int (fun _ _ => rfl)) (pe_one (pe_cmpR op_in_seq (pe_ix ix_tup (pv 2) pe_int (fun _ _ => rfl)) (pe_lc (own := [("_law_one", 5)]) (g := gName 5) (tt := tYes) rfl scat_fault.nd (pi_list (pv 3)) (blkOk_by (own := [("_law_one", 5)]) (N := Nmat_fault) (sc := defScope sat_fault) (by decide +kernel)) (fun _ _ _ _ _ => pg_name (i := 5) scat_fault.nd rfl (Or.inl rfl)) (fun _ _ _ _ _ => pts_nil) (fun _ _ _ _ _ => (pe_ix (show IxR _ (rIxT K) from ix_tup) (pv 5) pe_int (fun _ _ => rfl)))) (by rfl)))))))))))), ?_⟩
    obtain ⟨pr, hpr, rfl⟩ : ∃ pr, tr[j]? = some pr ∧ pr.2 = r := by
      rw [List.getElem?_map] at hj
      obtain ⟨pr, e1, e2⟩ := Option.map_eq_some_iff.mp hj
      exact ⟨pr, e1, e2⟩
    have hpm := List.mem_of_getElem? hpr
    have hlj : j < tr.length := (List.getElem?_eq_some_iff.mp hpr).1
    have hix : (tr.map tv)[j]? = some (tv pr) := by rw [List.getElem?_map, hpr]; rfl
    obtain ⟨t, r⟩ := pr
    refine ⟨_, rfl, _, rfl, _, _, _, _, rfl, rfl, SqL.of hD, atI_nat hix, _, rfl, _, rfl, _, rfl, D, _, rfl, SqL.of hD, fun S hS => ?_⟩
    refine ⟨(by show 2 ≤ sizeLine; decide), fun T0 hT0 => ⟨T0, _, rfl, SqT.of upd_same, rfl, _, _, rfl, _, _, rfl, rfl, ?_⟩⟩
    have ecut : cutV (tr.map tv) none (some (j : Int)) = (tr.take j).map tv := by rw [cut_takeV, List.map_take]
    rw [ecut] at hT0 ⊢
    have s1 := same_new (o := .lst ((tr.take j).map tv)) hS
    have s2 := s1.trans (same_new (o := .tup [tv (t, r), .ref S]) hT0)
    have eS := same_new (o := .tup [tv (t, r), .ref S]) hT0 _ _ (upd_same (H := H) (a := S) (o := .lst ((tr.take j).map tv)))
    have htr := ht.ki (Ki.same s2)
    generalize upd (upd H S (.lst ((tr.take j).map tv))) T0 (.tup [tv (t, r), .ref S]) = H1 at s2 eS htr ⊢
    have hr1 : H1 t = some (.tup (rowV r)) := htr _ hpm
    have eah : (tr.map (·.2)).take j = (tr.take j).map (·.2) := (List.map_take ..).symm
    rw [eah] at k
    have hah : TR H1 (tr.take j) := fun p hp => htr p (List.mem_of_mem_take hp)
    have lah : (tr.take j).length ≤ 30 := Nat.le_trans (List.length_take_le' _ _) hl
    have j0 : j = 0 → tr.take j = [] := fun e => by rw [e]; rfl
    have j1 : j ≠ 0 → tr.take j ≠ [] := fun e z => by
      have := congrArg List.length z
      rw [List.length_take, List.length_nil] at this
      omega
    generalize tr.take j = ah at k hah lah j0 j1 eS
    -- the name ahead
    refine ⟨_, rfl, _, _, _, _, rfl, rfl, SqT.of hr1, rfl, _, rfl, S, rfl, ⟨_, SqL.of eS⟩, fun C hC => ?_⟩
    refine lc_a (bs := ah) (v := tv) walk_list hC (by omega) (fun H s => s.seq (SqL.of eS)) (fun p => .str p.2.nm) (fun p hp H2 Jy s j => ⟨rfl, _, rfl, _, _, _, _, rfl, rfl, SqT.of (s _ _ (hah p hp)), rfl, j⟩) fun H2 s3 e2 => ?_
    have e2' : H2 C = some (.lst (((ah.map (·.2)).map (·.nm)).map V.str)) := by rw [e2, List.map_map, List.map_map]; rfl
    refine ⟨C, _, rfl, .inl (SqL.of e2'), rfl, strs_flat _, _, rfl, ?_⟩
    show if inV (.str r.nm) (((ah.map (·.2)).map (·.nm)).map V.str) = true then _ else _
    rw [inV_str, ← has_dec]
    have s23 := s2.trans s3
    have hr2 := s3 _ _ hr1
    have eS2 := s3 _ _ eS
    have hah2 := hah.ki (Ki.same s3)
    cases hn : has (ah.map (·.2)) r.nm with
    | true =>
      have q := k H2 s23
      rw [mis_of_has hn] at q
      exact iteT q
    | false =>
      refine iteF ⟨_, rfl, rfl, _, rfl, ?_⟩
      refine ite_d (fun hj0 => ?_) (fun hj0 => ?_)
      · have ea := j0 (by have := V.int.inj hj0; omega)
        have q := k H2 s23
        rw [ea] at q
        have q' : Q (.bl (r.el.isSome || r.mem || r.cu.isSome)) H2 := q
        refine ⟨_, rfl, _, _, _, _, rfl, rfl, SqT.of hr2, rfl, rfl, _, rfl, ?_⟩
        obtain ⟨nm, sv, el, mem, cu⟩ := r
        cases el with
        | some z => exact ite_nd (fun _ => q') (fun e => by cases e)
        | none =>
          refine ite_nd (fun ne => absurd rfl ne) (fun _ => ?_)
          refine ⟨_, rfl, _, _, _, _, rfl, rfl, SqT.of hr2, rfl, _, rfl, ?_⟩
          cases mem with
          | true => exact iteT q'
          | false =>
            refine iteF ⟨_, rfl, _, _, _, _, rfl, rfl, SqT.of hr2, rfl, rfl, ?_⟩
            cases cu with
            | some z => exact q'
            | none => exact q'
      · have ne : ¬ ah.map (·.2) = [] := fun z => j1 (fun e => hj0 (by rw [e]; rfl)) (List.map_eq_nil_iff.mp z)
        rw [mis_rest ne hn] at k
        -- above
        refine ⟨_, rfl, S, rfl, ⟨_, SqL.of eS2⟩, fun C3 hC3 => ?_⟩
        have so : ∀ (x : Str) (o : Option Str), scal (.str x) (oV o) = true := fun x o => by cases o <;> rfl
        refine lc_m (bs := ah) (v := tv) walk_list hC3 (by omega) (fun H s => s.seq (SqL.of eS2)) (fun p => decide (V.str p.2.nm = oV r.el)) tv (fun p hp H3 Jy N s a1 a2 => ⟨rfl, _, rfl, _, _, _, _, rfl, rfl, SqT.of (s _ _ (hah2 p hp)), rfl, _, rfl, _, _, _, _, rfl, rfl, SqT.of (s _ _ hr2), rfl, so _ _, _, rfl, ?_⟩) fun H3 s4 e3 => ?_
        · exact ite_d (fun e => ⟨_, rfl, a1 (decide_eq_true e)⟩) (fun e => a2 (decide_eq_false e))
        have hr3 := s4 _ _ hr2
        have eS3 := s4 _ _ eS2
        have hah3 := hah2.ki (Ki.same s4)
        have s34 := s23.trans s4
        obtain ⟨nm, sv, el, mem, cu⟩ := r
        cases el with
        | none =>
          have e3' : H3 C3 = some (.lst []) := by rw [e3]; show some (HO.lst ((ah.filter fun p => decide (V.str p.2.nm = oV none)).map tv)) = _; rw [filt_non]; rfl
          exact ⟨_, rfl, _, .inl ⟨_, SqL.of e3', rfl⟩, iteT (k H3 s34)⟩
        | some e =>
          have k' : ∀ H', Same H H' → Q (.bl (match findR (ah.map (·.2)) e with | none => true | some q => if q.mem = true then true else if q.sv = sv then false else mem || hasSv (ah.map (·.2)) sv)) H' := k
          rcases filt_find (e := e) ah with ⟨p, lf, f1, f2, f3⟩ | ⟨f1, f2⟩
          rotate_left
          · have e3' : H3 C3 = some (.lst []) := by rw [e3]; show some (HO.lst ((ah.filter fun p => decide (V.str p.2.nm = oV (some e))).map tv)) = _; rw [f1]; rfl
            rw [f2] at k'
            exact ⟨_, rfl, _, .inl ⟨_, SqL.of e3', rfl⟩, iteT (k' H3 s34)⟩
          have e3' : H3 C3 = some (.lst (tv p :: lf.map tv)) := by rw [e3]; show some (HO.lst ((ah.filter fun p => decide (V.str p.2.nm = oV (some e))).map tv)) = _; rw [f1]; rfl
          rw [f3] at k'
          have hp3 := hah3 p f2
          refine ⟨_, rfl, _, .inl ⟨_, SqL.of e3', rfl⟩, iteF ⟨_, rfl, _, _, _, _, rfl, rfl, SqL.of e3', atI_nat (j := 0) (show (tv p :: lf.map tv)[0]? = some (.ref p.1) from rfl), _, _, _, _, rfl, rfl, SqT.of hp3, rfl, _, rfl, ?_⟩⟩
          cases hm : p.2.mem with
          | true =>
            have z := k' H3 s34
            simp only [hm, if_true] at z
            exact iteT z
          | false =>
            simp only [hm, Bool.false_eq_true, if_false] at k'
            refine iteF ⟨_, rfl, _, _, _, _, rfl, rfl, SqL.of e3', atI_nat (j := 0) (show (tv p :: lf.map tv)[0]? = some (.ref p.1) from rfl), _, _, _, _, rfl, rfl, SqT.of hp3, rfl, _, rfl, _, _, _, _, rfl, rfl, SqT.of hr3, rfl, rfl, _, rfl, ?_⟩
            refine ite_d (fun h => ?_) (fun h => ?_)
            · have z := k' H3 s34
              rw [if_pos (V.str.inj h)] at z
              exact z
            · have hne : ¬ p.2.sv = sv := fun z => h (by rw [z])
              simp only [if_neg hne] at k'
              refine ⟨_, rfl, _, _, _, _, rfl, rfl, SqT.of hr3, rfl, _, rfl, ?_⟩
              cases mem with
              | true => exact iteT (k' H3 s34)
              | false =>
                refine iteF ⟨_, rfl, _, _, _, _, rfl, rfl, SqT.of hr3, rfl, _, rfl, S, rfl, ⟨_, SqL.of eS3⟩, fun C4 hC4 => ?_⟩
                refine lc_a (bs := ah) (v := tv) walk_list hC4 (by omega) (fun H s => s.seq (SqL.of eS3)) (fun p => .str p.2.sv) (fun p hp H2 Jy s j => ⟨rfl, _, rfl, _, _, _, _, rfl, rfl, SqT.of (s _ _ (hah3 p hp)), rfl, j⟩) fun H4 s5 e4 => ?_
                have e4' : H4 C4 = some (.lst (((ah.map (·.2)).map (·.sv)).map V.str)) := by rw [e4, List.map_map, List.map_map]; rfl
                refine ⟨C4, _, rfl, .inl (SqL.of e4'), rfl, strs_flat _, ?_⟩
                show Q (.bl (inV (.str sv) (((ah.map (·.2)).map (·.sv)).map V.str))) H4
                rw [inV_str, ← hasSv_dec]
                exact k' H4 (s34.trans s5)
end k12
namespace k12
open PySem L2 LC RM
def spdue : Sp := fun vs H Q _ => ∃ (D : Addr) (tr : List (Addr × Row)), vs = [.ref D] ∧ H D = some (.lst (tr.map tv)) ∧ TR H tr ∧ tr.length ≤ 30 ∧ ∀ dv H', Same H H' → DueW H H' dv (treeDue (tr.map (·.2))) → Q dv H'
theorem ok_due {P : Program} {w : World} {K : PySem.W.Frag} {mg : Str → Option Value} {base : Heap} {f : Addr} {fd : FuncData} (D : Def K mg "_law_due" sdue Pdue f fd) (T : Txt K mg) {fat_fault : Addr} {fdat_fault : FuncData} (Dat_fault : Def K mg "_law_at_fault" sat_fault Pat_fault fat_fault fdat_fault) (Gat_fault : FnOk P w K mg base CX0 1 fat_fault fdat_fault Pat_fault (spat_fault K)) :
    FnOk P w K mg base CX0 2 f fd Pdue (spdue) := by
  refine D.F.ok scdue (fun vs H Q E h => ?_) (fun cdv A outer s H vs Q E hr h => ?_)
  · obtain ⟨D, tr, rfl, hD, ht, hl, k⟩ := h
    rfl
  · obtain ⟨D, tr, rfl, hD, ht, hl, k⟩ := h
    have hrat_fault : Room 1 _ := hr.mono (by decide)
    refine ⟨_, (pss_cons (ps_if (pt_not (pt_truth (pv 0) (by intro _; rfl))) (pss_one (ps_ret (pe_lst (pa_cons pe_str (pa_cons pe_non pa_nil))))) pss_nil)
        (pss_cons (ps_if (pt_cmpR op_gt (pe_callB call_len_seq (by rfl) T.n_len PySem.boot_len (pa_cons (pv 0) pa_nil)) pe_int (nomark _)) (pss_one (ps_ret (pe_lst (pa_cons pe_str (pa_cons pe_str (pa_cons (pe_callB call_len_seq (by rfl) T.n_len PySem.boot_len (pa_cons (pv 0) pa_nil)) pa_nil)))))) pss_nil)
        (pss_cons (ps_for PassesOwn.never rfl (pi_range1 rfl T.n_range (pa_cons (pe_callB call_len_seq (by rfl) T.n_len PySem.boot_len (pa_cons (pv 0) pa_nil)) pa_nil)) (pg_name (i := 1) scdue.nd rfl (Or.inl rfl))
          (pss_one (ps_if (pt_val (pe_call Gat_fault hrat_fault rfl Dat_fault.g Dat_fault.F.kp Dat_fault.b .nil pass0 (pa_cons (pv 0) (pa_cons (pv 1) pa_nil)))) (pss_one (ps_ret (pe_lst (pa_cons pe_str (pa_cons (pe_ix ix_tup (pe_ix ix_list (pv 0) (pv 1) (fun _ _ => rfl)) pe_int (fun _ _ => rfl)) pa_nil))))) pss_nil)))
        (pss_one (ps_ret pe_non))))), ?_⟩
    refine ⟨_, rfl, _, .inl ⟨_, SqL.of hD, rfl⟩, ?_⟩
    have el : (tr.map tv).length = tr.length := List.length_map ..
    by_cases c0 : tr = []
    · have q : ∀ dv H', Same H H' → DueW H H' dv (some (("BadTree" : Str), [V.non])) → Q dv H' := by
        have e : treeDue (tr.map (·.2)) = some (("BadTree" : Str), [V.non]) := by unfold treeDue; rw [if_pos (by rw [c0]; rfl)]
        rw [e] at k
        exact k
      subst c0
      exact iteT ⟨(by show 2 ≤ sizeLine; decide), fun L hL => q _ _ (same_new hL) ⟨L, rfl, hL, upd_same⟩⟩
    obtain ⟨p0, tr', etr⟩ : ∃ p0 tr', tr = p0 :: tr' := by
      cases tr with
      | nil => exact absurd rfl c0
      | cons p q => exact ⟨p, q, rfl⟩
    have n0 : ¬ tr.map (·.2) = [] := fun z => c0 (List.map_eq_nil_iff.mp z)
    have eb : (!(tr.map tv).isEmpty) = true := by rw [etr]; rfl
    rw [eb]
    refine iteF ⟨_, rfl, D, _, rfl, .inl (SqL.of hD), _, _, rfl, rfl, _, rfl, ?_⟩
    have l2 : (tr.map (·.2)).length = tr.length := List.length_map ..
    refine ite_d (fun h => ?_) (fun h => ?_)
    · have h' : 24 < tr.length := by rw [el] at h; have h2 : (24 : Int) < (tr.length : Nat) := h; omega
      have e : treeDue (tr.map (·.2)) = some (("TooMany" : Str), [V.str "places", V.int tr.length]) := by
        unfold treeDue
        rw [if_neg n0, l2, if_pos h']
      rw [e] at k
      refine ⟨_, rfl, D, _, rfl, .inl (SqL.of hD), (by show 3 ≤ sizeLine; decide), fun L hL => ?_⟩
      rw [el]
      exact k _ _ (same_new hL) ⟨L, rfl, hL, upd_same⟩
    have h' : ¬ 24 < tr.length := fun z => h (by rw [el]; show (24 : Int) < (tr.length : Nat); omega)
    have td : treeDue (tr.map (·.2)) = match firstBad [] (tr.map (·.2)) with | some r => some (("BadTree" : Str), [V.str r.nm]) | none => none := by
      unfold treeDue
      rw [if_neg n0, l2, if_neg h']
      all_goals (cases firstBad [] (tr.map (·.2)) <;> rfl)
    rw [td] at k
    generalize hrs : tr.map (·.2) = rs at k l2
    rw [← el] at l2
    refine ⟨_, rfl, D, _, rfl, .inl (SqL.of hD), _, rfl, (by omega), (by omega), for_range (lo := 0) (n := (tr.map tv).length) (fun i σ H' => (∃ v1 : Option V, σ = [some (.ref D), v1]) ∧ Same H H' ∧ firstBad (rs.take i) (rs.drop i) = firstBad [] rs) ⟨⟨_, rfl⟩, Same.refl _, rfl⟩ ?_ ?_⟩
    · rintro i σ H2 hi ⟨⟨v1, rfl⟩, s2, fb⟩
      have li : i < rs.length := by omega
      have ei : rs[i]? = some rs[i] := List.getElem?_eq_getElem li
      have ez : (0 : Int) + (i : Nat) = (i : Int) := by omega
      rw [ez]
      rw [List.drop_eq_getElem_cons li] at fb
      have fb' : (if mis (rs.take i) rs[i] = true then some rs[i] else firstBad (rs.take i ++ [rs[i]]) (rs.drop (i + 1))) = firstBad [] rs := fb
      refine ⟨_, rfl, _, rfl, D, tr, i, rs[i], rfl, s2 _ _ hD, ht.ki (Ki.same s2), hl, by rw [hrs]; exact ei, fun H3 s3 => ⟨_, rfl, ?_⟩⟩
      rw [hrs]
      have s23 := s2.trans s3
      cases hm : mis (rs.take i) rs[i] with
      | true =>
        rw [if_pos hm] at fb'
        rw [← fb'] at k
        have lt : i < tr.length := by omega
        have hti : (tr.map tv)[i]? = some (tv tr[i]) := by rw [List.getElem?_map, List.getElem?_eq_getElem lt]; rfl
        have er : tr[i].2 = rs[i] := by
          have e : (tr.map (·.2))[i]? = some rs[i] := by rw [hrs]; exact ei
          rw [List.getElem?_map, List.getElem?_eq_getElem lt] at e
          exact Option.some.inj e
        have htr : H3 tr[i].1 = some (.tup (rowV rs[i])) := by rw [← er]; exact s23 _ _ (ht _ (List.getElem_mem lt))
        refine iteT ⟨_, rfl, _, rfl, _, _, _, _, rfl, rfl, SqL.of (s23 _ _ hD), atI_nat hti, _, _, _, _, rfl, rfl, SqT.of htr, rfl, (by show 2 ≤ sizeLine; decide), fun L hL => k _ _ (s23.trans (same_new hL)) ⟨L, rfl, s23.free hL, upd_same⟩⟩
      | false =>
        rw [if_neg (by rw [hm]; decide)] at fb'
        refine iteF ⟨⟨_, rfl⟩, s23, ?_⟩
        rw [List.take_add_one, ei]
        exact fb'
    rintro σ H2 ⟨⟨v1, rfl⟩, s2, fb⟩
    rw [← l2, List.drop_length] at fb
    have fb' : none = firstBad [] rs := fb
    rw [← fb'] at k
    exact k _ _ s2 rfl
end k12
namespace k12
open PySem L2 LC RM
def spbent (K : PySem.W.Frag) : Sp := fun vs H Q _ => ∃ (g l D hA : Addr) (tr : List (Addr × Row)) (hs : List Str), vs = [.ref g, .ref D, .ref hA] ∧ Bag l H g ∧ H D = some (.lst (tr.map tv)) ∧ D ≠ g ∧ TR H tr ∧ OkR tr ∧ 0 < tr.length ∧ tr.length ≤ 40 ∧ H hA = some (.lst (hs.map V.str)) ∧ hA ≠ g ∧ hs.length ≤ 6 ∧ (∀ z ∈ hs, NmOk z) ∧
  ∀ D' tr' H', H D' = none → Ok g l H H' → H' D' = some (.lst (tr'.map tv)) → TR H' tr' → OkR tr' → tr.length ≤ tr'.length + 1 → tr'.length ≤ tr.length + 1 → Q (.ref D') H'
theorem ok_bent {P : Program} {w : World} {K : PySem.W.Frag} {mg : Str → Option Value} {base : Heap} {f : Addr} {fd : FuncData} (D : Def K mg "_law_bent" sbent Pbent f fd) (T : Txt K mg) {fdraw : Addr} {fddraw : FuncData} (Ddraw : Def K mg "_law_draw" sdraw Pdraw fdraw fddraw) (Gdraw : FnOk P w K mg base CX0 1 fdraw fddraw Pdraw (spdraw)) {fof : Addr} {fdof : FuncData} (Dof : Def K mg "_law_of" sof Pof fof fdof) (Gof : FnOk P w K mg base CX0 2 fof fdof Pof (spof K)) :
    FnOk P w K mg base CX0 3 f fd Pbent (spbent K) := by
  refine D.F.ok scbent (fun vs H Q E h => ?_) (fun cdv A outer s H vs Q E hr h => ?_)
  · obtain ⟨g, l, D, hA, tr, hs, rfl, B, hD, nD, ht, ok, h0, hl, hH, nh, h6, hh, k⟩ := h
    rfl
  · obtain ⟨g, l, D, hA, tr, hs, rfl, B, hD, nD, ht, ok, h0, hl, hH, nh, h6, hh, k⟩ := h
    have hrdraw : Room 1 _ := hr.mono (by decide)
    have hrof : Room 2 _ := hr.mono (by decide)
    refine ⟨_, (pss_cons (ps_par (i := 3) (j := 4) (by rfl) scbent.nd rfl rfl (by decide) rfl rfl (pa_cons (pe_callTy call_list_of (by rfl) T.n_list (by decide +kernel) (pa_cons (pv 1) pa_nil)) (pa_cons (pe_call Gdraw hrdraw rfl Ddraw.g Ddraw.F.kp Ddraw.b .nil pass0 (pa_cons (pv 0) (pa_cons (pe_callB call_len_seq (by rfl) T.n_len PySem.boot_len (pa_cons (pv 1) pa_nil)) pa_nil))) pa_nil)) (by rfl))
        (pss_cons (ps_par (i := 5) (j := 6) (by rfl) scbent.nd rfl rfl (by decide) rfl rfl (pa_cons (pe_ix ix_list (pv 3) (pv 4) (fun _ _ => rfl)) (pa_cons (pe_call Gof hrof rfl Dof.g Dof.F.kp Dof.b .nil pass0 (pa_cons (pv 0) (pa_cons (pv 1) pa_nil))) pa_nil)) (by rfl))
        (pss_cons (ps_set (i := 7) scbent.nd rfl (Or.inl rfl) (pe_call Gdraw hrdraw rfl Ddraw.g Ddraw.F.kp Ddraw.b .nil pass0 (pa_cons (pv 0) (pa_cons pe_int pa_nil))))
        (Evl.pss_cut (ps_if (pt_cmpR op_eq (pv 7) pe_int (nomark _)) (pss_cons (ps_set (i := 8) scbent.nd rfl (Or.inl rfl) (pe_call Gdraw hrdraw rfl Ddraw.g Ddraw.F.kp Ddraw.b .nil pass0 (pa_cons (pv 0) (pa_cons (pe_callB call_len_seq (by rfl) T.n_len PySem.boot_len (pa_cons (pv 3) pa_nil)) pa_nil))))
        (pss_one (ps_asg (pe_tup (pa_cons (pe_ix ix_list (pv 3) (pv 8) (fun _ _ => rfl)) (pa_cons (pe_ix ix_list (pv 3) (pv 4) (fun _ _ => rfl)) pa_nil))) (pg_tup rfl (pgs_cons (pg_sub (pv 3) (pv 4) set_list) (pgs_cons (pg_sub (pv 3) (pv 8) set_list) pgs_nil)))))) (pss_one (ps_if (pt_cmpR op_eq (pv 7) pe_int (nomark _)) (pss_one (ps_expr (pe_bm PySem.F.plainAttrs_list PySem.F.slot_list_pop PySem.F.type_list_pop mt_popAt (pv 3) (pa_cons (pv 4) pa_nil)))) (pss_one (ps_if (pt_cmpR op_eq (pv 7) pe_int (nomark _)) (pss_one (ps_asg (pe_tup (pa_cons (pe_ix ix_tup (pv 6) pe_int (fun _ _ => rfl)) (pa_cons (pe_ix ix_tup (pv 5) pe_int (fun _ _ => rfl)) (pa_cons (pe_ix ix_tup (pv 5) pe_int (fun _ _ => rfl)) (pa_cons (pe_ix ix_tup (pv 5) pe_int (fun _ _ => rfl)) (pa_cons (pe_ix ix_tup (pv 5) pe_int (fun _ _ => rfl)) pa_nil)))))) (pg_sub (pv 3) (pv 4) set_list))) (pss_one (ps_if (pt_cmpR op_eq (pv 7) pe_int (nomark _)) (pss_one (ps_asg (pe_tup (pa_cons (pe_ix ix_tup (pv 5) pe_int (fun _ _ => rfl)) (pa_cons (pe_ix ix_tup (pv 5) pe_int (fun _ _ => rfl)) (pa_cons (pe_call Gof hrof rfl Dof.g Dof.F.kp Dof.b .nil pass0 (pa_cons (pv 0) (pa_cons (pe_lst (pa_cons (pe_ix ix_tup (pv 6) pe_int (fun _ _ => rfl)) (pa_cons pe_str (pa_cons pe_non (pa_cons (pe_ix ix_tup (pv 5) pe_int (fun _ _ => rfl)) (pa_cons (pe_ix ix_tup (pe_ix ix_list (pv 3) (pe_un un_neg pe_int) (fun _ _ => rfl)) pe_int (fun _ _ => rfl)) pa_nil)))))) pa_nil))) (pa_cons (pe_ix ix_tup (pv 5) pe_int (fun _ _ => rfl)) (pa_cons (pe_ix ix_tup (pv 5) pe_int (fun _ _ => rfl)) pa_nil)))))) (pg_sub (pv 3) (pv 4) set_list))) (pss_one (ps_if (pt_cmpR op_eq (pv 7) pe_int (nomark _)) (pss_one (ps_asg (pe_tup (pa_cons (pe_ix ix_tup (pv 5) pe_int (fun _ _ => rfl)) (pa_cons (pe_ix ix_tup (pv 5) pe_int (fun _ _ => rfl)) (pa_cons (pe_ix ix_tup (pv 5) pe_int (fun _ _ => rfl)) (pa_cons (pe_not (pe_ix ix_tup (pv 5) pe_int (fun _ _ => rfl))) (pa_cons (pe_ix ix_tup (pv 5) pe_int (fun _ _ => rfl)) pa_nil)))))) (pg_sub (pv 3) (pv 4) set_list))) (pss_one (ps_if (pt_cmpR op_eq (pv 7) pe_int (nomark _)) (pss_one (ps_asg (pe_tup (pa_cons (pe_ix ix_tup (pv 5) pe_int (fun _ _ => rfl)) (pa_cons (pe_call Gof hrof rfl Dof.g Dof.F.kp Dof.b .nil pass0 (pa_cons (pv 0) (pa_cons (pe_op op_cat (pv 2) (pe_lst (pa_cons pe_str pa_nil))) pa_nil))) (pa_cons (pe_ix ix_tup (pv 5) pe_int (fun _ _ => rfl)) (pa_cons (pe_ix ix_tup (pv 5) pe_int (fun _ _ => rfl)) (pa_cons (pe_ix ix_tup (pv 5) pe_int (fun _ _ => rfl)) pa_nil)))))) (pg_sub (pv 3) (pv 4) set_list))) (pss_one (ps_if (pt_cmpR op_eq (pv 7) pe_int (nomark _)) (pss_one (ps_asg (pe_tup (pa_cons (pe_ix ix_tup (pv 5) pe_int (fun _ _ => rfl)) (pa_cons (pe_ix ix_tup (pv 5) pe_int (fun _ _ => rfl)) (pa_cons (pe_ix ix_tup (pv 5) pe_int (fun _ _ => rfl)) (pa_cons (pe_ix ix_tup (pv 5) pe_int (fun _ _ => rfl)) (pa_cons (pe_call Gof hrof rfl Dof.g Dof.F.kp Dof.b .nil pass0 (pa_cons (pv 0) (pa_cons (pe_lst (pa_cons pe_non (pa_cons pe_str (pa_cons (pe_ix ix_tup (pv 5) pe_int (fun _ _ => rfl)) pa_nil)))) pa_nil))) pa_nil)))))) (pg_sub (pv 3) (pv 4) set_list))) (pss_one (ps_if (pt_cmpR op_eq (pv 7) pe_int (nomark _)) (pss_one (ps_set (i := 3) scbent.nd rfl (Or.inl rfl) (pe_op op_cat (pe_op op_cat (pe_slice sl_list (pv 3) po_none (po_some (pv 4))) (pe_lst (pa_cons (pe_tup (pa_cons pe_str (pa_cons (pe_ix ix_tup (pv 5) pe_int (fun _ _ => rfl)) (pa_cons (pe_ix ix_tup (pv 6) pe_int (fun _ _ => rfl)) (pa_cons (pe_cmpR op_eq (pe_call Gdraw hrdraw rfl Ddraw.g Ddraw.F.kp Ddraw.b .nil pass0 (pa_cons (pv 0) (pa_cons pe_int pa_nil))) pe_int (nomark _)) (pa_cons pe_non pa_nil)))))) pa_nil))) (pe_slice sl_list (pv 3) (po_some (pv 4)) po_none)))) (pss_cons (ps_set (i := 9) scbent.nd rfl (Or.inl rfl) (pe_ix ix_list (pv 3) pe_int (fun _ _ => rfl)))
        (pss_one (ps_asg (pe_tup (pa_cons (pe_ix ix_tup (pv 9) pe_int (fun _ _ => rfl)) (pa_cons (pe_ix ix_tup (pv 9) pe_int (fun _ _ => rfl)) (pa_cons (pe_call Gof hrof rfl Dof.g Dof.F.kp Dof.b .nil pass0 (pa_cons (pv 0) (pa_cons (pe_lst (pa_cons pe_non (pa_cons (pe_ix ix_tup (pv 9) pe_int (fun _ _ => rfl)) (pa_cons pe_str pa_nil)))) pa_nil))) (pa_cons (pe_cmpR op_eq (pe_call Gdraw hrdraw rfl Ddraw.g Ddraw.F.kp Ddraw.b .nil pass0 (pa_cons (pv 0) (pa_cons pe_int pa_nil))) pe_int (nomark _)) (pa_cons (pe_call Gof hrof rfl Dof.g Dof.F.kp Dof.b .nil pass0 (pa_cons (pv 0) (pa_cons (pe_lst (pa_cons pe_non (pa_cons pe_str pa_nil))) pa_nil))) pa_nil)))))) (pg_sub (pv 3) pe_int set_list)))))))))))))))))))
        (pss_one (ps_ret (pv 3))))))), ?_⟩
    refine ⟨_, rfl, D, _, rfl, .inl (SqL.of hD), fun E1 hE1 => ?_⟩
    have R1 := (Ok.refl B).new (o := .lst (tr.map tv)) hE1
    have nE := (B.ne hE1).1
    have s1 := same_new (o := .lst (tr.map tv)) hE1
    have e1 : upd H E1 (.lst (tr.map tv)) E1 = some (.lst (tr.map tv)) := upd_same
    have ht1 := ht.ki (Ki.same s1)
    have hD1 := s1 _ _ hD
    have hH1 := s1 _ _ hH
    generalize upd H E1 (.lst (tr.map tv)) = H1 at R1 e1 ht1 hD1 hH1 ⊢
    have el : (tr.map tv).length = tr.length := List.length_map ..
    refine ⟨_, rfl, _, rfl, D, _, rfl, .inl (SqL.of hD1), g, l, _, rfl, R1.bag, by rw [el]; omega, by rw [el]; omega, fun d H2 d0 d1 r2 => ⟨_, _, rfl, ?_⟩⟩
    obtain ⟨jn, rfl⟩ : ∃ jn : Nat, d = (jn : Int) := ⟨d.toNat, by omega⟩
    rw [el] at d1
    have lj : jn < tr.length := by omega
    have hj : (tr.map tv)[jn]? = some (tv tr[jn]) := by rw [List.getElem?_map, List.getElem?_eq_getElem lj]; rfl
    have okj : tr[jn].2.ok := ok _ (List.getElem_mem lj)
    have htj : ∀ {Hz : Hp}, TR Hz tr → Hz tr[jn].1 = some (.tup (rowV tr[jn].2)) := fun h => h _ (List.getElem_mem lj)
    generalize tr[jn] = pj at hj okj htj
    obtain ⟨t, r⟩ := pj
    refine ⟨_, rfl, _, rfl, _, _, _, _, rfl, rfl, SqL.of (r2.at_ e1 nE), atI_nat hj, _, rfl, _, rfl, g, l, .ref D, _, rfl, r2.bag, .lst (SqL.of (r2.at_ hD1 nD)) nD (by rw [el]; omega) (by rw [el]; omega), fun x H3 hx r3 => ⟨_, _, rfl, ?_⟩⟩
    obtain ⟨⟨u, q⟩, hq, rfl⟩ := List.mem_map.mp hx
    have okq : q.ok := ok _ hq
    refine ⟨_, rfl, g, l, 9, rfl, r3.bag, by decide, by decide, fun d7 H4 d70 d71 r4 => ?_⟩
    have R4 := ((R1.trans r2).trans r3).trans r4
    have e4 := r4.at_ (r3.at_ (r2.at_ e1 nE) nE) nE
    have hD4 := r4.at_ (r3.at_ (r2.at_ hD1 nD) nD) nD
    have hH4 := r4.at_ (r3.at_ (r2.at_ hH1 nh) nh) nh
    have t4 := ((ht1.ki (Ki.ok r2)).ki (Ki.ok r3)).ki (Ki.ok r4)
    have htr4 : H4 t = some (.tup (rowV r)) := htj t4
    have htq4 : H4 u = some (.tup (rowV q)) := t4 _ hq
    have ixj : ixN (tr.map tv).length (jn : Int) = some jn := ixN_nat (by rw [el]; exact lj)
    have fin : ∀ (T : Addr) (r' : Row) (Hx : Hp) (n : Nat), Ok g l H Hx → Hx E1 = some (.lst (tr.map tv)) → TR Hx tr → Hx T = some (.tup (rowV r')) → r'.ok → ∃ tr', Ok g l H (upd Hx E1 (.lst ((tr.map tv).set n (.ref T)))) ∧ upd Hx E1 (.lst ((tr.map tv).set n (.ref T))) E1 = some (.lst (tr'.map tv)) ∧ TR (upd Hx E1 (.lst ((tr.map tv).set n (.ref T)))) tr' ∧ OkR tr' ∧ tr.length ≤ tr'.length + 1 ∧ tr'.length ≤ tr.length + 1 := fun T r' Hx n R e t hT hr =>
      ⟨tr.set n (T, r'), R.mut hE1, by rw [upd_same, List.map_set]; rfl, (t.set hT).ki (Ki.lst e), ok.set hr, by rw [List.length_set]; omega, by rw [List.length_set]; omega⟩
    refine ⟨fun σ H' => ∃ (D' : Addr) (tr' : List (Addr × Row)) (v8 v9 : Option V), σ = [some (.ref g), some (.ref D), some (.ref hA), some (.ref D'), some (.int jn), some (.ref t), some (.ref u), some (.int d7), v8, v9] ∧ H D' = none ∧ Ok g l H H' ∧ H' D' = some (.lst (tr'.map tv)) ∧ TR H' tr' ∧ OkR tr' ∧ tr.length ≤ tr'.length + 1 ∧ tr'.length ≤ tr.length + 1, ?_, ?_⟩
    rotate_left
    · rintro σ H9 ⟨D', tr', v8, v9, rfl, a1, a2, a3, a4, a5, a6, a7⟩
      exact ⟨_, rfl, k D' tr' H9 a1 a2 a3 a4 a5 a6 a7⟩
    -- one row in another's stead
    have one : ∀ (T : Addr) (r' : Row) (Hx : Hp) (v8 v9 : Option V), Ok g l H4 Hx → Hx T = some (.tup (rowV r')) → r'.ok → ∃ (D' : Addr) (tr' : List (Addr × Row)) (w8 w9 : Option V), [some (V.ref g), some (V.ref D), some (V.ref hA), some (V.ref E1), some (V.int jn), some (V.ref t), some (V.ref u), some (V.int d7), v8, v9] = [some (V.ref g), some (V.ref D), some (V.ref hA), some (V.ref D'), some (V.int jn), some (V.ref t), some (V.ref u), some (V.int d7), w8, w9] ∧ H D' = none ∧ Ok g l H (upd Hx E1 (.lst ((tr.map tv).set jn (.ref T)))) ∧ upd Hx E1 (.lst ((tr.map tv).set jn (.ref T))) D' = some (.lst (tr'.map tv)) ∧ TR (upd Hx E1 (.lst ((tr.map tv).set jn (.ref T)))) tr' ∧ OkR tr' ∧ tr.length ≤ tr'.length + 1 ∧ tr'.length ≤ tr.length + 1 := fun T r' Hx v8 v9 R hT hr => by
      obtain ⟨tr', f1, f2, f3, f4, f5, f6⟩ := fin T r' Hx jn (R4.trans R) (R.at_ e4 nE) (t4.ki (Ki.ok R)) hT hr
      exact ⟨E1, tr', v8, v9, rfl, hE1, f1, f2, f3, f4, f5, f6⟩
    have nx : ∀ {Hx : Hp} {T : Addr} {o : HO}, Ok g l H4 Hx → Hx T = none → Ok g l H4 (upd Hx T o) := fun R h => R.new h
    have nmN : NmOk "nn" := by show isNam _ = true; decide +kernel
    have nmA : NmOk "ann" := by show isNam _ = true; decide +kernel
    have nmM : NmOk "more" := by show isNam _ = true; decide +kernel
    have ocv : ∀ (o : Option Str), (∀ z, o = some z → NmOk z) → True := fun _ _ => trivial
    have dp : ∀ {xs : List V} {Hx : Hp} {p : Addr} {Q : VK}, Ok g l H4 Hx → Hx p = none → 0 < xs.length → xs.length ≤ 1000000 → (∀ x H', x ∈ xs → Ok g l H4 H' → Ki Hx H' → Q x H') → spof K [.ref g, .ref p] (upd Hx p (.lst xs)) Q E0 := fun R hp h0 h1 kk => of_disp (E := E0) R hp h0 h1 fun x H' hx kp r => kk x H' hx r (fun b o f e => by
      obtain ⟨⟨ys, e'⟩, _⟩ := R.bag.there
      exact kp _ _ (fun z => by rw [z, e'] at e; cases e; cases f) e)
    -- 0
    refine ⟨_, rfl, rfl, _, rfl, ite_eq (fun _ => ?_) (fun _ => ?_)⟩
    · refine ⟨_, rfl, _, rfl, E1, _, rfl, .inl (SqL.of e4), g, l, _, rfl, R4.bag, by rw [el]; omega, by rw [el]; omega, fun d8 H5 d80 d81 r5 => ?_⟩
      obtain ⟨kn, rfl⟩ : ∃ kn : Nat, d8 = (kn : Int) := ⟨d8.toNat, by omega⟩
      rw [el] at d81
      have lk : kn < tr.length := by omega
      have hk : (tr.map tv)[kn]? = some (tv tr[kn]) := by rw [List.getElem?_map, List.getElem?_eq_getElem lk]; rfl
      have e5 := r5.at_ e4 nE
      have t5 := t4.ki (Ki.ok r5)
      have okk : tr[kn].2.ok := ok _ (List.getElem_mem lk)
      have htk : H5 tr[kn].1 = some (.tup (rowV tr[kn].2)) := t5 _ (List.getElem_mem lk)
      generalize tr[kn] = pk at hk okk htk
      obtain ⟨tk, rk⟩ := pk
      refine ⟨_, rfl, _, rfl, _, _, _, _, rfl, rfl, SqL.of e5, atI_nat hk, _, rfl, _, rfl, _, _, _, _, rfl, rfl, SqL.of e5, atI_nat hj, (by show 2 ≤ sizeLine; decide), fun T0 hT0 => ⟨T0, _, rfl, SqT.of upd_same, rfl, ?_⟩⟩
      have ixk : ixN ((tr.map tv).set jn (tv (tk, rk))).length (kn : Int) = some kn := ixN_nat (by rw [List.length_set, el]; exact lk)
      have s6 := same_new (o := .tup [tv (tk, rk), tv (t, r)]) hT0
      have R6 := ((R4.trans r5).same s6)
      have e6 := s6 _ _ e5
      have t6 := t5.ki (Ki.same s6)
      have htk6 := s6 _ _ htk
      have htr6 := s6 _ _ (Ki.ok r5 _ _ rfl htr4)
      generalize upd H5 T0 (.tup [tv (tk, rk), tv (t, r)]) = H6 at R6 e6 t6 htk6 htr6 ⊢
      refine ⟨_, _, rfl, _, rfl, _, rfl, E1, _, _, jn, rfl, rfl, e6, ixj, _, _, rfl, _, rfl, _, rfl, E1, _, _, kn, rfl, rfl, upd_same, ixk, rfl, ?_⟩
      have ki7 : Ki H6 (upd (upd H6 E1 (.lst ((tr.map tv).set jn (tv (tk, rk))))) E1 (.lst (((tr.map tv).set jn (tv (tk, rk))).set kn (tv (t, r))))) := (Ki.lst e6).trans (Ki.lst upd_same)
      refine ⟨E1, (tr.set jn (tk, rk)).set kn (t, r), _, _, rfl, hE1, (R6.mut hE1).mut hE1, ?_, ((t6.set htk6).set htr6).ki ki7, (ok.set okk).set okj, ?_, ?_⟩
      · rw [upd_same, List.map_set, List.map_set]
      all_goals rw [List.length_set, List.length_set]; omega
    -- 1
    refine ⟨_, rfl, rfl, _, rfl, ite_eq (fun _ => ?_) (fun _ => ?_)⟩
    · refine ⟨_, rfl, .inl ⟨rfl, _, SqL.of e4⟩, _, rfl, E1, _, _, jn, _, rfl, rfl, e4, by omega, by omega, (ixN_seq ixj).1, hj, ?_⟩
      refine ⟨E1, tr.eraseIdx jn, _, _, rfl, hE1, R4.mut hE1, by rw [upd_same, map_eraseI], fun p hp => Ki.lst e4 _ _ rfl (t4 p (List.mem_of_mem_eraseIdx hp)), fun p hp => ok p (List.mem_of_mem_eraseIdx hp), ?_, ?_⟩
      all_goals rw [List.length_eraseIdx, if_pos lj]; omega
    -- 2
    refine ⟨_, rfl, rfl, _, rfl, ite_eq (fun _ => ?_) (fun _ => ?_)⟩
    · refine ⟨_, rfl, _, _, _, _, rfl, rfl, SqT.of htq4, rfl, _, rfl, _, _, _, _, rfl, rfl, SqT.of htr4, rfl, _, rfl, _, _, _, _, rfl, rfl, SqT.of htr4, rfl, _, rfl, _, _, _, _, rfl, rfl, SqT.of htr4, rfl, _, rfl, _, _, _, _, rfl, rfl, SqT.of htr4, rfl, (by show 5 ≤ sizeLine; decide), fun T hT => ⟨_, rfl, _, rfl, E1, _, _, jn, rfl, rfl, same_new hT _ _ e4, ixj, ?_⟩⟩
      exact one T ⟨q.nm, r.sv, r.el, r.mem, r.cu⟩ _ _ _ ((Ok.refl R4.bag).new hT) upd_same ⟨okq.n, okj.s, okj.e, okj.c⟩
    -- 3
    refine ⟨_, rfl, rfl, _, rfl, ite_eq (fun _ => ?_) (fun _ => ?_)⟩
    · obtain ⟨pl, hpl, hlast⟩ : ∃ pl ∈ tr, atI (tr.map tv) (-1) = some (tv pl) := by
        have ne : tr ≠ [] := fun z => by rw [z] at h0; cases h0
        obtain ⟨ys, y, rfl⟩ : ∃ ys y, tr = ys ++ [y] := ⟨tr.dropLast, tr.getLast ne, (List.dropLast_concat_getLast ne).symm⟩
        exact ⟨y, by simp, by rw [List.map_append]; exact atI_last _ _⟩
      have htl := t4 pl hpl
      refine ⟨_, rfl, _, _, _, _, rfl, rfl, SqT.of htr4, rfl, _, rfl, _, _, _, _, rfl, rfl, SqT.of htr4, rfl, _, rfl, _, rfl, _, _, _, _, rfl, rfl, SqT.of htq4, rfl, _, rfl, _, _, _, _, rfl, rfl, SqT.of htr4, rfl, _, rfl, _, rfl, _, _, _, _, rfl, rfl, SqL.of e4, hlast, _, _, _, _, rfl, rfl, SqT.of htl, rfl, (by show 5 ≤ sizeLine; decide), fun p hp => dp (Ok.refl R4.bag) hp (by show 0 < 5; decide) (by show 5 ≤ 1000000; decide) fun x H5 hx r5 k5 => ?_⟩
      obtain ⟨el', rfl, hel⟩ : ∃ o : Option Str, x = oV o ∧ ∀ z, o = some z → NmOk z := by
        simp only [List.mem_cons, List.not_mem_nil, or_false] at hx
        rcases hx with rfl | rfl | rfl | rfl | rfl
        · exact ⟨some q.nm, rfl, fun z e => by cases e; exact okq.n⟩
        · exact ⟨some "nn", rfl, fun z e => by cases e; exact nmN⟩
        · exact ⟨none, rfl, fun z e => by cases e⟩
        · exact ⟨some r.nm, rfl, fun z e => by cases e; exact okj.n⟩
        · exact ⟨some pl.2.nm, rfl, fun z e => by cases e; exact (ok pl hpl).n⟩
      have htr5 := k5 _ _ rfl htr4
      refine ⟨_, rfl, _, _, _, _, rfl, rfl, SqT.of htr5, rfl, _, rfl, _, _, _, _, rfl, rfl, SqT.of htr5, rfl, (by show 5 ≤ sizeLine; decide), fun T hT => ⟨_, rfl, _, rfl, E1, _, _, jn, rfl, rfl, same_new hT _ _ (r5.at_ e4 nE), ixj, ?_⟩⟩
      exact one T ⟨r.nm, r.sv, el', r.mem, r.cu⟩ _ _ _ (r5.new hT) upd_same ⟨okj.n, okj.s, hel, okj.c⟩
    -- 4
    refine ⟨_, rfl, rfl, _, rfl, ite_eq (fun _ => ?_) (fun _ => ?_)⟩
    · refine ⟨_, rfl, _, _, _, _, rfl, rfl, SqT.of htr4, rfl, _, rfl, _, _, _, _, rfl, rfl, SqT.of htr4, rfl, _, rfl, _, _, _, _, rfl, rfl, SqT.of htr4, rfl, _, rfl, _, _, _, _, rfl, rfl, SqT.of htr4, rfl, _, rfl, _, rfl, _, _, _, _, rfl, rfl, SqT.of htr4, rfl, (by show 5 ≤ sizeLine; decide), fun T hT => ⟨_, rfl, _, rfl, E1, _, _, jn, rfl, rfl, same_new hT _ _ e4, ixj, ?_⟩⟩
      exact one T ⟨r.nm, r.sv, r.el, !r.mem, r.cu⟩ _ _ _ ((Ok.refl R4.bag).new hT) upd_same ⟨okj.n, okj.s, okj.e, okj.c⟩
    -- 5
    refine ⟨_, rfl, rfl, _, rfl, ite_eq (fun _ => ?_) (fun _ => ?_)⟩
    · refine ⟨_, rfl, _, _, _, _, rfl, rfl, SqT.of htr4, rfl, _, rfl, _, rfl, (by show 1 ≤ sizeLine; decide), fun L hL => ?_⟩
      have s5 := same_new (o := .lst [.str "nn"]) hL
      have r5 := (Ok.refl R4.bag).new (o := .lst [.str "nn"]) hL
      refine ⟨hA, L, _, _, rfl, rfl, s5 _ _ hH4, upd_same, by rw [List.length_map]; exact Nat.le_trans (show hs.length + 1 ≤ 7 by omega) (by decide), fun L2 hL2 => dp r5 hL2 (by rw [List.length_append]; show 0 < _ + 1; omega) (by rw [List.length_append, List.length_map]; show _ + 1 ≤ 1000000; omega) fun x H6 hx r6 k6 => ?_⟩
      obtain ⟨w, rfl, hw⟩ : ∃ w, x = .str w ∧ NmOk w := by
        rcases List.mem_append.mp hx with h | h
        · obtain ⟨y, hy, rfl⟩ := List.mem_map.mp h
          exact ⟨y, rfl, hh y hy⟩
        · rw [List.mem_singleton.mp h]
          exact ⟨_, rfl, nmN⟩
      have htr6 := k6 _ _ rfl (s5 _ _ htr4)
      refine ⟨_, rfl, _, _, _, _, rfl, rfl, SqT.of htr6, rfl, _, rfl, _, _, _, _, rfl, rfl, SqT.of htr6, rfl, _, rfl, _, _, _, _, rfl, rfl, SqT.of htr6, rfl, (by show 5 ≤ sizeLine; decide), fun T hT => ⟨_, rfl, _, rfl, E1, _, _, jn, rfl, rfl, same_new hT _ _ (r6.at_ e4 nE), ixj, ?_⟩⟩
      exact one T ⟨r.nm, w, r.el, r.mem, r.cu⟩ _ _ _ (r6.new hT) upd_same ⟨okj.n, hw, okj.e, okj.c⟩
    -- 6
    refine ⟨_, rfl, rfl, _, rfl, ite_eq (fun _ => ?_) (fun _ => ?_)⟩
    · refine ⟨_, rfl, _, _, _, _, rfl, rfl, SqT.of htr4, rfl, _, rfl, _, _, _, _, rfl, rfl, SqT.of htr4, rfl, _, rfl, _, _, _, _, rfl, rfl, SqT.of htr4, rfl, _, rfl, _, _, _, _, rfl, rfl, SqT.of htr4, rfl, _, rfl, _, rfl, _, _, _, _, rfl, rfl, SqT.of htr4, rfl, (by show 3 ≤ sizeLine; decide), fun p hp => dp (Ok.refl R4.bag) hp (by show 0 < 3; decide) (by show 3 ≤ 1000000; decide) fun x H5 hx r5 k5 => ⟨(by show 5 ≤ sizeLine; decide), fun T hT => ⟨_, rfl, _, rfl, E1, _, _, jn, rfl, rfl, same_new hT _ _ (r5.at_ e4 nE), ixj, ?_⟩⟩⟩
      obtain ⟨cu, rfl, hcu⟩ : ∃ o : Option Str, x = oV o ∧ ∀ z, o = some z → NmOk z := by
        simp only [List.mem_cons, List.not_mem_nil, or_false] at hx
        rcases hx with rfl | rfl | rfl
        · exact ⟨none, rfl, fun z e => by cases e⟩
        · exact ⟨some "ann", rfl, fun z e => by cases e; exact nmA⟩
        · exact ⟨some r.nm, rfl, fun z e => by cases e; exact okj.n⟩
      exact one T ⟨r.nm, r.sv, r.el, r.mem, cu⟩ _ _ _ (r5.new hT) upd_same ⟨okj.n, okj.s, okj.e, hcu⟩
    -- 7
    refine ⟨_, rfl, rfl, _, rfl, ite_eq (fun _ => ?_) (fun _ => ?_)⟩
    · refine ⟨_, rfl, _, rfl, _, rfl, E1, _, rfl, SqL.of e4, fun S1 hS1 => ?_⟩
      rw [cut_takeV] at *
      have s5 := same_new (o := .lst ((tr.map tv).take jn)) hS1
      have r5 := (Ok.refl R4.bag).new (o := .lst ((tr.map tv).take jn)) hS1
      have nS1 := (R4.bag.ne hS1).1
      have e5 := s5 _ _ e4
      have eS := upd_same (H := H4) (a := S1) (o := .lst ((tr.map tv).take jn))
      have htr5 := s5 _ _ htr4
      have htq5 := s5 _ _ htq4
      generalize upd H4 S1 (.lst ((tr.map tv).take jn)) = H5 at s5 r5 e5 eS htr5 htq5 ⊢
      refine ⟨_, rfl, _, _, _, _, rfl, rfl, SqT.of htr5, rfl, _, rfl, _, _, _, _, rfl, rfl, SqT.of htq5, rfl, _, rfl, g, l, 2, rfl, r5.bag, by decide, by decide, fun d6 H6 d60 d61 r6 => ⟨rfl, (by show 5 ≤ sizeLine; decide), fun T hT => ⟨(by show 1 ≤ sizeLine; decide), fun L hL => ?_⟩⟩⟩
      generalize hmm : decide (V.int d6 = V.int 0) = mm at hT hL ⊢
      have r7 := (r5.trans r6).new (o := .tup [.str "more", .str r.sv, .str q.nm, .bl mm, .non]) hT
      have sT := same_new (o := .tup [.str "more", .str r.sv, .str q.nm, .bl mm, .non]) hT
      have sL := same_new (o := .lst [.ref T]) hL
      have r8 := r7.new (o := .lst [.ref T]) hL
      have e8 := sL _ _ (sT _ _ (r6.at_ e5 nE))
      have eS8 := sL _ _ (sT _ _ (r6.at_ eS nS1))
      have eT8 := sL _ _ (upd_same (H := H6) (a := T) (o := .tup [.str "more", .str r.sv, .str q.nm, .bl mm, .non]))
      have eL8 := upd_same (H := upd H6 T (.tup [.str "more", .str r.sv, .str q.nm, .bl mm, .non])) (a := L) (o := .lst [.ref T])
      have t8 := (((t4.ki (Ki.same s5)).ki (Ki.ok r6)).ki (Ki.same sT)).ki (Ki.same sL)
      generalize upd (upd H6 T (.tup [.str "more", .str r.sv, .str q.nm, .bl mm, .non])) L (.lst [.ref T]) = H8 at r8 e8 eS8 eT8 eL8 t8 ⊢
      refine ⟨S1, L, _, _, rfl, rfl, eS8, eL8, Nat.le_trans (show _ ≤ 41 by rw [List.length_take, el]; show min jn tr.length + 1 ≤ 41; omega) (by decide), fun L2 hL2 => ?_⟩
      have s9 := same_new (o := .lst ((tr.map tv).take jn ++ [.ref T])) hL2
      refine ⟨_, rfl, _, rfl, _, rfl, E1, _, rfl, SqL.of (s9 _ _ e8), fun S2 hS2 => ?_⟩
      rw [cut_dropV] at *
      have s10 := same_new (o := .lst ((tr.map tv).drop jn)) hS2
      have r10 := ((R4.trans r8).same s9).same s10
      refine ⟨L2, S2, _, _, rfl, rfl, s10 _ _ upd_same, upd_same, Nat.le_trans (show _ ≤ 81 by rw [List.length_append, List.length_take, List.length_drop, el]; show min jn tr.length + 1 + _ ≤ 81; omega) (by decide), fun L3 hL3 => ?_⟩
      have s11 := same_new (o := .lst ((tr.map tv).take jn ++ [.ref T] ++ (tr.map tv).drop jn)) hL3
      refine ⟨L3, tr.take jn ++ [(T, ⟨"more", r.sv, some q.nm, mm, none⟩)] ++ tr.drop jn, _, _, rfl, r10.free hL3, r10.same s11, ?_, ?_, ?_, ?_, ?_⟩
      · rw [upd_same, List.map_append, List.map_append, List.map_take, List.map_drop]
        rfl
      · refine TR.ki (Ki.same ((s9.trans s10).trans s11)) fun p hp => ?_
        rcases List.mem_append.mp hp with hp | hp
        · rcases List.mem_append.mp hp with hp | hp
          · exact t8 p (List.mem_of_mem_take hp)
          · rw [List.mem_singleton.mp hp]
            exact eT8
        · exact t8 p (List.mem_of_mem_drop hp)
      · intro p hp
        rcases List.mem_append.mp hp with hp | hp
        · rcases List.mem_append.mp hp with hp | hp
          · exact ok p (List.mem_of_mem_take hp)
          · rw [List.mem_singleton.mp hp]
            exact ⟨nmM, okj.s, (fun z e => by cases e; exact okq.n), fun z e => by cases e⟩
        · exact ok p (List.mem_of_mem_drop hp)
      all_goals
        rw [List.length_append, List.length_append, List.length_take, List.length_drop]
        show _ ≤ _
        simp only [List.length_singleton]
        omega
    -- 8
    obtain ⟨⟨t0, w0⟩, htr0, hm0⟩ : ∃ p, (tr.map tv)[0]? = some (tv p) ∧ p ∈ tr := by
      cases tr with
      | nil => exact absurd h0 (by decide)
      | cons p l => exact ⟨p, rfl, List.mem_cons_self ..⟩
    have ok0 : w0.ok := ok _ hm0
    have hw4 : H4 t0 = some (.tup (rowV w0)) := t4 _ hm0
    refine ⟨_, rfl, _, _, _, _, rfl, rfl, SqL.of e4, atI_nat (j := 0) htr0, ?_⟩
    refine ⟨_, rfl, _, _, _, _, rfl, rfl, SqT.of hw4, rfl, _, rfl, _, _, _, _, rfl, rfl, SqT.of hw4, rfl, _, rfl, _, rfl, _, _, _, _, rfl, rfl, SqT.of hw4, rfl, (by show 3 ≤ sizeLine; decide), fun p hp => dp (Ok.refl R4.bag) hp (by show 0 < 3; decide) (by show 3 ≤ 1000000; decide) fun x H5 hx r5 k5 => ?_⟩
    obtain ⟨el', rfl, hel⟩ : ∃ o : Option Str, x = oV o ∧ ∀ z, o = some z → NmOk z := by
      simp only [List.mem_cons, List.not_mem_nil, or_false] at hx
      rcases hx with rfl | rfl | rfl
      · exact ⟨none, rfl, fun z e => by cases e⟩
      · exact ⟨some w0.nm, rfl, fun z e => by cases e; exact ok0.n⟩
      · exact ⟨some "nn", rfl, fun z e => by cases e; exact nmN⟩
    refine ⟨_, rfl, g, l, 2, rfl, r5.bag, by decide, by decide, fun d6 H6 d60 d61 r6 => ⟨rfl, _, rfl, (by show 2 ≤ sizeLine; decide), fun p2 hp2 => dp (r5.trans r6) hp2 (by show 0 < 2; decide) (by show 2 ≤ 1000000; decide) fun x2 H7 hx2 r7 k7 => ⟨(by show 5 ≤ sizeLine; decide), fun T hT => ?_⟩⟩⟩
    obtain ⟨cu, rfl, hcu⟩ : ∃ o : Option Str, x2 = oV o ∧ ∀ z, o = some z → NmOk z := by
      simp only [List.mem_cons, List.not_mem_nil, or_false] at hx2
      rcases hx2 with rfl | rfl
      · exact ⟨none, rfl, fun z e => by cases e⟩
      · exact ⟨some "ann", rfl, fun z e => by cases e; exact nmA⟩
    have r8 := r7.new (o := .tup [.str w0.nm, .str w0.sv, oV el', .bl (decide (V.int d6 = V.int 0)), oV cu]) hT
    obtain ⟨tr', f1, f2, f3, f4, f5, f6⟩ := fin T ⟨w0.nm, w0.sv, el', decide (V.int d6 = V.int 0), cu⟩ _ 0 (R4.trans r8) (r8.at_ e4 nE) (t4.ki (Ki.ok r8)) upd_same ⟨ok0.n, ok0.s, hel, hcu⟩
    refine ⟨_, rfl, E1, _, _, 0, rfl, rfl, r8.at_ e4 nE, ixN_nat (j := 0) (by rw [el]; exact h0), ?_⟩
    exact ⟨E1, tr', _, _, rfl, hE1, f1, f2, f3, f4, f5, f6⟩
end k12
namespace k12
open PySem L2 LC RM
def spsize (K : PySem.W.Frag) : Sp := fun vs H Q _ => ∃ (g l D hA : Addr) (tr : List (Addr × Row)) (hs : List Str), vs = [.ref g, .ref D, .ref hA] ∧ Bag l H g ∧ H D = some (.lst (tr.map tv)) ∧ D ≠ g ∧ TR H tr ∧ OkR tr ∧ 0 < tr.length ∧ (tr.length ≤ 8 ∨ tr.length = 24) ∧ H hA = some (.lst (hs.map V.str)) ∧ hA ≠ g ∧ hs.length ≤ 6 ∧ (∀ z ∈ hs, NmOk z) ∧
  ∀ D' tr' H', H D' = none → Ok g l H H' → H' D' = some (.lst (tr'.map tv)) → TR H' tr' → OkR tr' → (tr'.length ≤ 10 ∨ tr'.length = 24 ∨ tr'.length = 25) → Q (.ref D') H'
theorem ok_size {P : Program} {w : World} {K : PySem.W.Frag} {mg : Str → Option Value} {base : Heap} {f : Addr} {fd : FuncData} (D : Def K mg "_law_size" ssize Psize f fd) (T : Txt K mg) {fof : Addr} {fdof : FuncData} (Dof : Def K mg "_law_of" sof Pof fof fdof) (Gof : FnOk P w K mg base CX0 2 fof fdof Pof (spof K)) {fbent : Addr} {fdbent : FuncData} (Dbent : Def K mg "_law_bent" sbent Pbent fbent fdbent) (Gbent : FnOk P w K mg base CX0 3 fbent fdbent Pbent (spbent K)) :
    FnOk P w K mg base CX0 4 f fd Psize (spsize K) := by
  refine D.F.ok scsize (fun vs H Q E h => ?_) (fun cdv A outer s H vs Q E hr h => ?_)
  · obtain ⟨g, l, D, hA, tr, hs, rfl, B, hD, nD, ht, ok, h0, hl, hH, nh, h6, hh, k⟩ := h
    rfl
  · obtain ⟨g, l, D, hA, tr, hs, rfl, B, hD, nD, ht, ok, h0, hl, hH, nh, h6, hh, k⟩ := h
    have hrof : Room 2 _ := hr.mono (by decide)
    have hrbent : Room 3 _ := hr.mono (by decide)
    have sz : sizeLine = 16777216 := rfl
    refine ⟨_, (pss_cons (ps_set (i := 3) scsize.nd rfl (Or.inl rfl) (pv 1))
        (pss_cons (ps_for PassesOwn.never rfl (pi_range1 rfl T.n_range (pa_cons (pe_call Gof hrof rfl Dof.g Dof.F.kp Dof.b .nil pass0 (pa_cons (pv 0) (pa_cons (pe_lst (pa_cons pe_int (pa_cons pe_int (pa_cons pe_int (pa_cons pe_int (pa_cons pe_int (pa_cons pe_int pa_nil))))))) pa_nil))) pa_nil)) (pg_name (i := 4) scsize.nd rfl (Or.inl rfl))
          (pss_one (ps_if (pt_truth (pv 3) (by intro _; rfl)) (pss_one (ps_set (i := 3) scsize.nd rfl (Or.inl rfl) (pe_call Gbent hrbent rfl Dbent.g Dbent.F.kp Dbent.b .nil pass0 (pa_cons (pv 0) (pa_cons (pv 3) (pa_cons (pv 2) pa_nil)))))) pss_nil)))
        (pss_cons (ps_if (pt_cmpR op_eq (pe_callB call_len_seq (by rfl) T.n_len PySem.boot_len (pa_cons (pv 1) pa_nil)) pe_int (nomark _)) (pss_cons (ps_setLc (i := 5) (own := [("_law_k", 4)]) (g := gName 4) (tt := tYes) rfl scsize.nd rfl rfl (sw_true rfl rfl rfl (by decide +kernel)) (pi_range1 rfl T.n_range (pa_cons pe_int pa_nil)) (blkOk_by (own := [("_law_k", 4)]) (N := Nmsize) (sc := defScope ssize) (by decide +kernel)) (fun _ _ _ _ _ => pg_name (i := 4) scsize.nd rfl (Or.inl rfl)) (fun _ _ _ _ _ => pts_nil) (fun _ _ _ _ _ => (pe_tup (pa_cons (pe_joined (.cons pe_str (.cons (pe_fmt (pv 4)) .nil))) (pa_cons (pe_ix (show IxR _ (rIxT K) from ix_tup) (pe_ix (show IxR _ (rIxL K) from ix_list) (pv 1) pe_int (fun _ _ => rfl)) pe_int (fun _ _ => rfl)) (pa_cons (pe_ix (show IxR _ (rIxT K) from ix_tup) (pe_ix (show IxR _ (rIxL K) from ix_list) (pv 1) pe_int (fun _ _ => rfl)) pe_int (fun _ _ => rfl)) (pa_cons pe_bl (pa_cons pe_non pa_nil))))))))
        (pss_one (ps_ret (pe_slice sl_list (pe_op op_cat (pv 3) (pv 5)) po_none (po_some (pe_call Gof hrof rfl Dof.g Dof.F.kp Dof.b .nil pass0 (pa_cons (pv 0) (pa_cons (pe_lst (pa_cons pe_int (pa_cons pe_int pa_nil))) pa_nil)))))))) pss_nil)
        (pss_one (ps_ret (pe_slice sl_list (pv 3) po_none (po_some pe_int))))))), ?_⟩
    refine ⟨_, rfl, _, rfl, (by show 6 ≤ sizeLine; decide), fun p hp => of_disp (E := E0) (Ok.refl B) hp (by show 0 < 6; decide) (by show 6 ≤ 1000000; decide) fun x H1 hx _ r1 => ?_⟩
    obtain ⟨n, rfl, hn⟩ : ∃ n : Nat, x = .int n ∧ n ≤ 3 := by
      simp only [List.mem_cons, List.not_mem_nil, or_false] at hx
      rcases hx with rfl | rfl | rfl | rfl | rfl | rfl
      · exact ⟨0, rfl, by decide⟩
      · exact ⟨1, rfl, by decide⟩
      · exact ⟨1, rfl, by decide⟩
      · exact ⟨1, rfl, by decide⟩
      · exact ⟨2, rfl, by decide⟩
      · exact ⟨3, rfl, by decide⟩
    refine ⟨_, rfl, by omega, by omega, for_range (lo := 0) (n := n) (fun i σ H' => ∃ (D' : Addr) (tr' : List (Addr × Row)) (v4 : Option V), σ = [some (.ref g), some (.ref D), some (.ref hA), some (.ref D'), v4, none] ∧ Ok g l H H' ∧ D' ≠ g ∧ H' D' = some (.lst (tr'.map tv)) ∧ TR H' tr' ∧ OkR tr' ∧ tr.length ≤ tr'.length + i ∧ tr'.length ≤ tr.length + i)
      ⟨D, tr, none, rfl, r1, nD, r1.at_ hD nD, ht.ki (Ki.ok r1), ok, by omega, by omega⟩ ?_ ?_⟩
    · rintro i σ H2 hi ⟨D', tr', v4, rfl, r2, nD', e2, t2, ok2, b1, b2⟩
      refine ⟨_, rfl, _, .inl ⟨_, SqL.of e2, rfl⟩, ?_⟩
      cases tr' with
      | nil => exact iteF ⟨D', [], _, rfl, r2, nD', e2, t2, ok2, by simp at b1 ⊢; omega, by simp⟩
      | cons p0 tl =>
        refine iteT ⟨_, rfl, _, rfl, _, rfl, g, l, D', hA, p0 :: tl, hs, rfl, r2.bag, e2, nD', t2, ok2, Nat.succ_pos _, by omega, r2.at_ hH nh, nh, h6, hh, fun D2 tr2 H3 f1 r3 f2 f3 f4 f5 f6 => ?_⟩
        exact ⟨D2, tr2, _, rfl, r2.trans r3, (fun z => by obtain ⟨⟨ys, q⟩, _⟩ := r2.bag.there; rw [z, q] at f1; cases f1), f2, f3, f4, by omega, by omega⟩
    rintro σ H2 ⟨D', tr', v4, rfl, r2, nD', e2, t2, ok2, b1, b2⟩
    have hD2 := r2.at_ hD nD
    have el : (tr.map tv).length = tr.length := List.length_map ..
    refine ⟨_, rfl, D, _, rfl, .inl (SqL.of hD2), rfl, _, rfl, ?_⟩
    refine ite_d (fun h => ?_) (fun h => ?_)
    rotate_left
    · have h' : ¬ tr.length = 24 := fun z => h (by rw [el, z]; rfl)
      refine ⟨_, rfl, _, rfl, D', _, rfl, SqL.of e2, fun S hS => ?_⟩
      have ec : cutV (tr'.map tv) none (some 10) = (tr'.take 10).map tv := by rw [List.map_take]; exact cut_takeV _ 10
      rw [ec]
      refine k S (tr'.take 10) _ (r2.free hS) (r2.new hS) upd_same (TR.ki (Ki.new hS) fun p hp => t2 p (List.mem_of_mem_take hp)) (fun p hp => ok2 p (List.mem_of_mem_take hp)) (.inl ?_)
      rw [List.length_take]
      omega
    have h' : tr.length = 24 := by rw [el] at h; have := V.int.inj h; omega
    obtain ⟨⟨t0, w0⟩, htr0, hm0⟩ : ∃ p, (tr.map tv)[0]? = some (tv p) ∧ p ∈ tr := by
      cases tr with
      | nil => exact absurd h0 (by decide)
      | cons p l => exact ⟨p, rfl, List.mem_cons_self ..⟩
    have hw2 : H2 t0 = some (.tup (rowV w0)) := (ht.ki (Ki.ok r2)) _ hm0
    have okw : w0.ok := ok _ hm0
    refine ⟨_, rfl, by decide, by decide, fun C hC => ?_⟩
    have nC := (r2.bag.ne hC).1
    refine lc_it (walk_range (lo := 0) (n := 3)) (fun i H' => Same H2 H' ∧ ∃ mr : List (Addr × Row), H' C = some (.lst (mr.map tv)) ∧ mr.length = i ∧ TR H' mr ∧ OkR mr) ⟨same_new hC, [], upd_same, rfl, (fun p h => by cases h), (fun p h => by cases h)⟩ (fun _ _ _ _ => True.intro) ?_ ?_
    · rintro i x H3 H4 hi ⟨s3, mr, e3, lm, tm, okm⟩ ⟨rfl, rfl⟩
      have hD3 := s3 _ _ hD2
      have hw3 := s3 _ _ hw2
      have ez : (0 : Int) + (i : Nat) = (i : Int) := by omega
      show gName 4 (V.int ((0 : Int) + (i : Nat))) _ _ _
      rw [ez]
      have e0 : Str.empty.length = 0 := rfl
      have e1 : ("w" : Str).length = 1 := by decide +kernel
      have il := iT_len (i := (i : Int)) (by omega) (by omega)
      refine ⟨rfl, _, rfl, by rw [Str.length_append]; omega, _, rfl, .inr ⟨_, rfl, log_small (by omega) (by omega), _, rfl, by rw [Str.length_append, Str.length_append]; show _ + (iT i).length ≤ _; omega, ?_⟩⟩
      refine ⟨_, rfl, _, _, _, _, rfl, rfl, SqL.of hD3, atI_nat (j := 0) htr0, _, _, _, _, rfl, rfl, SqT.of hw3, rfl, _, rfl, _, _, _, _, rfl, rfl, SqL.of hD3, atI_nat (j := 0) htr0, _, _, _, _, rfl, rfl, SqT.of hw3, rfl, (by show 5 ≤ sizeLine; decide), fun T hT => ?_⟩
      have sT := same_new (o := .tup [.str (Str.empty ++ "w" ++ iT (i : Int)), .str w0.sv, .str w0.nm, .bl false, .non]) hT
      have e4 := sT _ _ e3
      refine ⟨_, e4, by rw [List.length_map, lm]; exact Nat.lt_trans hi (by decide), (fun b o e => by rw [upd_ne (ne_of_none e hC)]; exact sT _ _ (s3 _ _ e)), mr ++ [(T, ⟨Str.empty ++ "w" ++ iT (i : Int), w0.sv, some w0.nm, false, none⟩)], ?_, by rw [List.length_append, lm]; rfl, fun p hp => ?_, fun p hp => ?_⟩
      · rw [upd_same, List.map_append]
        rfl
      · have kk := (Ki.same sT).trans (Ki.lst (o := .lst (mr.map tv ++ [.ref T])) e4)
        rcases List.mem_append.mp hp with h | h
        · exact kk _ _ rfl (tm p h)
        · rw [List.mem_singleton.mp h]
          exact Ki.lst e4 _ _ rfl upd_same
      · rcases List.mem_append.mp hp with h | h
        · exact okm p h
        · rw [List.mem_singleton.mp h]
          exact ⟨w_nm hi, okw.s, (fun z e => by cases e; exact okw.n), fun z e => by cases e⟩
    rintro H3 ⟨s3, mr, e3, lm, tm, okm⟩
    refine ⟨_, rfl, _, rfl, D', C, _, _, rfl, rfl, s3 _ _ e2, e3, Nat.le_trans (show _ ≤ 30 by rw [List.length_map, List.length_map]; omega) (by decide), fun L hL => ?_⟩
    have r4 := (r2.same s3).new (o := .lst (tr'.map tv ++ mr.map tv)) hL
    have nL := ((r2.same s3).bag.ne hL).1
    have s4 := same_new (o := .lst (tr'.map tv ++ mr.map tv)) hL
    refine ⟨_, rfl, (by show 2 ≤ sizeLine; decide), fun p hp => of_disp (E := E0) (Ok.refl r4.bag) hp (by show 0 < 2; decide) (by show 2 ≤ 1000000; decide) fun x H5 hx kp r5 => ?_⟩
    obtain ⟨m, rfl, hm⟩ : ∃ m : Nat, x = .int m ∧ (m = 24 ∨ m = 25) := by
      simp only [List.mem_cons, List.not_mem_nil, or_false] at hx
      rcases hx with rfl | rfl
      · exact ⟨24, rfl, .inl rfl⟩
      · exact ⟨25, rfl, .inr rfl⟩
    have eL := r5.at_ (upd_same (H := H3) (a := L) (o := .lst (tr'.map tv ++ mr.map tv))) nL
    refine ⟨_, rfl, L, _, rfl, SqL.of eL, fun S hS => ?_⟩
    have ec : cutV (tr'.map tv ++ mr.map tv) none (some (m : Int)) = ((tr' ++ mr).take m).map tv := by rw [cut_takeV, ← List.map_append, List.map_take]
    rw [ec]
    have R5 := r4.trans r5
    have kk : Ki H3 H5 := (Ki.same s4).trans (Ki.ok r5)
    have t5 : TR H5 (tr' ++ mr) := fun p hp => by
      rcases List.mem_append.mp hp with h | h
      · exact kk _ _ rfl (s3 _ _ (t2 p h))
      · exact kk _ _ rfl (tm p h)
    refine k S ((tr' ++ mr).take m) _ (R5.free hS) (R5.new hS) upd_same (TR.ki (Ki.new hS) fun p hp => t5 p (List.mem_of_mem_take hp)) (fun p hp => ?_) (.inr ?_)
    · rcases List.mem_append.mp (List.mem_of_mem_take hp) with h | h
      · exact ok2 p h
      · exact okm p h
    · rw [List.length_take, List.length_append, lm]
      omega
end k12
namespace k12
open PySem L2 LC RM
def spnamed (a : Ad) : Sp := fun vs H Q _ => ∃ (F : Addr → Prop) (v : V), vs = [v] ∧ Gv a F H v ∧ ∀ H', Same H H' → Q (.bl (isNam v)) H'
theorem ok_named {P : Program} {w : World} {K : PySem.W.Frag} {mg : Str → Option Value} {base : Heap} {f : Addr} {fd : FuncData} (D : Def K mg "_law_named" snamed Pnamed f fd) (T : Txt K mg) {a : Ad} (KN : Kn K mg a) :
    FnOk P w K mg base CX0 1 f fd Pnamed (spnamed a) := by
  refine D.F.ok scnamed (fun vs H Q E h => ?_) (fun cdv A outer s H vs Q E hr h => ?_)
  · obtain ⟨F, v, rfl, o, k⟩ := h
    rfl
  · obtain ⟨F, v, rfl, o, k⟩ := h
    refine ⟨_, (pss_cons (ps_if (PW.pt (pw_or (pt_not (pt_val (pe_callB call_isi (by rfl) T.n_isinstance (by decide +kernel) (pa_cons (pv 0) (pa_cons (pe_ty "str" (by rfl) T.n_str (by decide +kernel)) pa_nil))))) (pw_or (pt_not (pt_chain op_le op_le pe_int (pe_callB call_len_str (by rfl) T.n_len PySem.boot_len (pa_cons (pv 0) pa_nil)) pe_int)) (pw_or1 (pt_cmpR op_in_sign (pe_ix ix_str (pv 0) pe_int (fun _ _ => rfl)) pe_str (by rfl)))))) (pss_one (ps_ret pe_bl)) pss_nil)
        (pss_one (ps_ret (pe_callB (cr_all rfl) (by rfl) T.n_all (by decide +kernel) (pa_cons (pe_lc (own := [("_law_sign", 1)]) (g := gName 1) (tt := tYes) rfl scnamed.nd (pi_str (pv 0)) (blkOk_by (own := [("_law_sign", 1)]) (N := Nmnamed) (sc := defScope snamed) (by decide +kernel)) (fun _ _ _ _ _ => pg_name (i := 1) scnamed.nd rfl (Or.inl rfl)) (fun _ _ _ _ _ => pts_nil) (fun _ _ _ _ _ => (pe_cmpR op_in_sign (pv 1) pe_str (by rfl)))) pa_nil))))), ?_⟩
    obtain ⟨t, ty, ks⟩ := o.ty KN
    refine ⟨_, rfl, _, _, _, _, _, rfl, .ty _, ty, ks, _, rfl, ?_⟩
    cases v with
    | str z =>
      have hz := o.str
      have eN : isNam (.str z) = (decide (1 ≤ z.length) && decide (z.length ≤ 8) && chL (z.cps.toList.getD 0 0) && z.cps.toList.all (fun c => chL c || chD c)) := rfl
      refine iteF ?_
      refine ⟨_, rfl, _, rfl, sz_str hz, _, _, rfl, rfl, _, rfl, ?_⟩
      refine ite_d (fun h1 => ?_) (fun h1 => ?_)
      · refine ⟨_, _, rfl, rfl, _, rfl, ?_⟩
        refine ite_nd (fun h8 => ?_) (fun h8 => ?_)
        · have q := k H (Same.refl H)
          rw [eN, decide_eq_false (show ¬ z.length ≤ 8 by omega), Bool.and_false, Bool.false_and, Bool.false_and] at q
          exact q
        · have h1' : 1 ≤ z.length := by omega
          obtain ⟨c0, hc0, e0⟩ := len1 h1'
          have e : isNam (.str z) = (chL c0 && z.cps.toList.all (fun c => chL c || chD c)) := by
            rw [eN, decide_eq_true h1', decide_eq_true (show z.length ≤ 8 by omega), e0]
            rfl
          refine ⟨_, rfl, _, _, c0, rfl, rfl, sz_str hz, atI_nat (j := 0) hc0, _, _, rfl, rfl, ?_⟩
          refine ⟨_, rfl, ite_is (mem_dig c0) (fun eD => ?_) (fun eD => ?_)⟩
          · have q := k H (Same.refl H)
            rw [e, chDL eD, Bool.false_and] at q
            exact q
          · refine ⟨_, rfl, _, rfl, fun D hD => lc_text (fun c => .bl (chL c || chD c)) hD hz (fun _ => rfl) (fun c H Q hc q => ?_) ?_⟩
            · refine ⟨_, rfl, _, _, rfl, rfl, ?_⟩
              rw [mem_ld]
              exact q
            · refine ⟨D, z.cps.toList.map fun c => chL c || chD c, rfl, by rw [← bls_map]; exact SqL.of upd_same, ?_⟩
              rw [all_id]
              have q := k _ (same_new (o := .lst (z.cps.toList.map fun c => V.bl (chL c || chD c))) hD)
              have e2 : (chL c0 && z.cps.toList.all (fun c => chL c || chD c)) = z.cps.toList.all (fun c => chL c || chD c) := by
                cases qa : z.cps.toList.all (fun c => chL c || chD c) with
                | false => rw [Bool.and_false]
                | true =>
                  have h0 := List.all_eq_true.mp qa c0 (List.mem_of_getElem? hc0)
                  rw [eD, Bool.or_false] at h0
                  rw [h0]
                  rfl
              rw [e, e2] at q
              exact q
      · have q := k H (Same.refl H)
        rw [eN, decide_eq_false (show ¬ 1 ≤ z.length by omega), Bool.false_and, Bool.false_and, Bool.false_and] at q
        refine ⟨_, rfl, ite_nb (fun _ => q) fun z => Bool.noConfusion z⟩
    | _ => exact iteT (k H (Same.refl H))
end k12
namespace k12
open PySem L2 LC RM
def spplace_so (a : Ad) (Tb : List (Addr × Str)) : Sp := fun vs H Q _ => ∃ (g l : Addr), vs = [.ref g] ∧ Bag l H g ∧ LamX.Tabs Tb H ∧ ∀ H', KpF (· = g) H H' → Bag l H' g → LamX.Tabs Tb H' → Q (.bl true) H'
theorem ok_place_so {P : Program} {w : World} {K : PySem.W.Frag} {mg : Str → Option Value} {base : Heap} {f c Pt : Addr} {oc kV doc pm ct : Value} {od an : Option Addr} {osl : Array (Option Value)} (lk : K.lookup f = some ⟨oc, od, .func (PySem.W.fnOf "_law_place_so" "_law_place_so" (defArgs splace_so) (defBody splace_so) (defScope splace_so) .none kV doc pm an (.ref c) ct), osl⟩) (hcd : PySem.W.codeIn K (.ref c) "_law_place_so" = true) (TB : LamX.TabB base mg c Pt) (T : Txt K mg) {a : Ad} (KN : Kn K mg a) {ce : Ce} {fdInvalidName : FuncData} {fInvalidName : Addr} (RInvalidName : RE P w K mg base "InvalidName" "value" (ivF "InvalidName") ce.na fInvalidName fdInvalidName) {fdInvalidRule : FuncData} {fInvalidRule : Addr} (RInvalidRule : RE P w K mg base "InvalidRule" "value" (ivF "InvalidRule") ce.ru fInvalidRule fdInvalidRule) {fdInvalidPlace : FuncData} {fInvalidPlace : Addr} (RInvalidPlace : RE P w K mg base "InvalidPlace" "at" (atF "InvalidPlace") ce.pl fInvalidPlace fdInvalidPlace) {fdBadTree : FuncData} {fBadTree : Addr} (RBadTree : RE P w K mg base "BadTree" "place" (plcF "BadTree") ce.bt fBadTree fdBadTree) {fdTooMany : FuncData} {fTooMany : Addr} (RTooMany : RTM P w K mg base ce.tm fTooMany fdTooMany) {S fask : Addr} {fdask : FuncData} (Dask : Def K mg "_law_ask" sask Pask fask fdask) (eruna : PySem.W.exmOne K (.ref ce.ru) (.ref ce.na) = some false) (eplna : PySem.W.exmOne K (.ref ce.pl) (.ref ce.na) = some false) (ebtna : PySem.W.exmOne K (.ref ce.bt) (.ref ce.na) = some false) (etmna : PySem.W.exmOne K (.ref ce.tm) (.ref ce.na) = some false) (eplru : PySem.W.exmOne K (.ref ce.pl) (.ref ce.ru) = some false) (ebtru : PySem.W.exmOne K (.ref ce.bt) (.ref ce.ru) = some false) (etmru : PySem.W.exmOne K (.ref ce.tm) (.ref ce.ru) = some false) (ebtpl : PySem.W.exmOne K (.ref ce.bt) (.ref ce.pl) = some false) (etmpl : PySem.W.exmOne K (.ref ce.tm) (.ref ce.pl) = some false) (etmbt : PySem.W.exmOne K (.ref ce.tm) (.ref ce.bt) = some false) (gSE : mg "SureletError" = some (.ref S)) (IWindow : FnR P w K mg base CX0 3 a.Wi (spWindow_init K a)) {fplace : Addr} {fdplace : FuncData} (Dplace : Def K mg "_law_place" splace Pplace fplace fdplace) (Gplace : FnOk P w K mg base (L2.CX P w) 6 fplace fdplace Pplace (spplace a ce)) {Tb : List (Addr × Str)} (hmT : (Pt, (("_law_place_so" : Str) ++ ".<locals>." ++ "<lambda>")) ∈ Tb) (hu : ∀ p ∈ Tb, p.1 = Pt → p.2 = (("_law_place_so" : Str) ++ ".<locals>." ++ "<lambda>")) {fof : Addr} {fdof : FuncData} (Dof : Def K mg "_law_of" sof Pof fof fdof) (Gof : FnOk P w K mg base CX0 2 fof fdof Pof (spof K)) {flike : Addr} {fdlike : FuncData} (Dlike : Def K mg "_law_like" slike Plike flike fdlike) (Glike : FnOk P w K mg base CX0 6 flike fdlike Plike (splike a 5)) {fodd : Addr} {fdodd : FuncData} (Dodd : Def K mg "_law_odd" sodd Podd fodd fdodd) (Godd : FnOk P w K mg base CX0 3 fodd fdodd Podd (spodd)) {frow : Addr} {fdrow : FuncData} (Drow : Def K mg "_law_row" srow Prow frow fdrow) (Grow : FnOk P w K mg base CX0 1 frow fdrow Prow (sprow a)) {fnamed : Addr} {fdnamed : FuncData} (Dnamed : Def K mg "_law_named" snamed Pnamed fnamed fdnamed) (Gnamed : FnOk P w K mg base CX0 1 fnamed fdnamed Pnamed (spnamed a)) :
    FnOk P w K mg base CX0 9 f (PySem.W.fnOf "_law_place_so" "_law_place_so" (defArgs splace_so) (defBody splace_so) (defScope splace_so) .none kV doc pm an (.ref c) ct) Pplace_so (spplace_so a Tb) := by
  refine LL.okC lk hcd scplace_so (fun vs H Q E h => ?_) (fun A outer s H vs Q E hr h => ?_)
  · obtain ⟨g, l, rfl, B, tb0, k⟩ := h
    rfl
  · obtain ⟨g, l, rfl, B, tb0, k⟩ := h
    have hrof : Room 2 _ := hr.mono (by decide)
    have hrlike : Room 6 _ := hr.mono (by decide)
    have hrodd : Room 3 _ := hr.mono (by decide)
    have hrrow : Room 1 _ := hr.mono (by decide)
    have hrnamed : Room 1 _ := hr.mono (by decide)
    have hrL : Room (6 + 2) _ := hr.mono (by decide)
    have hrI : Room 4 _ := hr.mono (by decide)
    refine ⟨_, (pss_cons (ps_set (i := 1) scplace_so.nd rfl (Or.inr rfl) (pe_lst (pa_cons pe_str (pa_cons pe_str (pa_cons (pe_call Gof hrof rfl Dof.g Dof.F.kp Dof.b .nil pass0 (pa_cons (pv 0) (pa_cons (pe_lst (pa_cons pe_non (pa_cons pe_str pa_nil))) pa_nil))) (pa_cons (pe_call Gof hrof rfl Dof.g Dof.F.kp Dof.b .nil pass0 (pa_cons (pv 0) (pa_cons (pe_lst (pa_cons pe_bl (pa_cons pe_bl pa_nil))) pa_nil))) (pa_cons (pe_call Gof hrof rfl Dof.g Dof.F.kp Dof.b .nil pass0 (pa_cons (pv 0) (pa_cons (pe_lst (pa_cons pe_non (pa_cons pe_str (pa_cons pe_str pa_nil)))) pa_nil))) pa_nil)))))))
        (pss_cons (ps_for PassesOwn.never rfl (pi_range1 rfl T.n_range (pa_cons (pe_call Gof hrof rfl Dof.g Dof.F.kp Dof.b .nil pass0 (pa_cons (pv 0) (pa_cons (pe_lst (pa_cons pe_int (pa_cons pe_int (pa_cons pe_int (pa_cons pe_int pa_nil))))) pa_nil))) pa_nil)) (pg_name (i := 2) scplace_so.nd rfl (Or.inl rfl))
          (pss_one (ps_asg (pe_call Gof hrof rfl Dof.g Dof.F.kp Dof.b .nil pass0 (pa_cons (pv 0) (pa_cons (pe_lst (pa_cons (pe_call Godd hrodd rfl Dodd.g Dodd.F.kp Dodd.b .nil pass0 (pa_cons (pv 0) pa_nil)) (pa_cons pe_str (pa_cons pe_str (pa_cons pe_str (pa_cons pe_str (pa_cons pe_str (pa_cons pe_non (pa_cons (StX.pe_makeR KN.mWindow IWindow hrI rfl KN.gWindow pass0 (pa_cons pe_int pa_nil)) pa_nil))))))))) pa_nil))) (pg_sub (pv 1) (pe_call Gof hrof rfl Dof.g Dof.F.kp Dof.b .nil pass0 (pa_cons (pv 0) (pa_cons (pe_lst (pa_cons pe_int (pa_cons pe_int (pa_cons pe_int (pa_cons pe_int pa_nil))))) pa_nil))) set_list))))
        (pss_cons (ps_setLc (i := 3) (own := [("_law_k", 2)]) (g := gName 2) rfl scplace_so.nd rfl rfl (sw_true rfl rfl rfl (by decide +kernel)) (pi_tup (pe_tup (pa_cons pe_int (pa_cons pe_int (pa_cons pe_int (pa_cons pe_int pa_nil)))))) (blkOk_by (own := [("_law_k", 2)]) (N := Nmplace_so) (sc := defScope splace_so) (by decide +kernel)) (fun _ _ _ _ _ => pg_name (i := 2) scplace_so.nd rfl (Or.inl rfl)) (fun _ _ _ _ _ => pts_one (PW.pt (pw_and (pt_not (pt_val (pe_call Gnamed hrnamed rfl Dnamed.g Dnamed.F.kp Dnamed.b .nil pass0 (pa_cons (pe_ix (show IxR _ (rIxL K) from ix_list) (pv 1) (pv 2) (fun _ _ => rfl)) pa_nil)))) (pw_and1 (PW.pt (pw_or (pt_cmpR op_lt (pv 2) pe_int (nomark _)) (pw_or1 (pt_cmpR op_notN (pe_ix (show IxR _ (rIxL K) from ix_list) (pv 1) (pv 2) (fun _ _ => rfl)) pe_non (nomark _))))))))) (fun _ _ _ _ _ => (pe_ix (show IxR _ (rIxL K) from ix_list) (pv 1) (pv 2) (fun _ _ => rfl))))
        (pss_cons (ps_asg (LL.pe_lamcallS (T := Tb) (ql := ("_law_place_so" : Str) ++ ".<locals>.") Dask rfl scask rfl (Or.inl rfl) (fun _ => ask_gives RInvalidName RInvalidRule RInvalidPlace RBadTree RTooMany eruna eplna ebtna etmna eplru ebtru etmru ebtpl etmpl etmbt gSE) rfl TB rfl hmT hu hrL (show LamX.LamS (defScope splace_so) _ from LamX.lamS_by (by decide +kernel)) rfl (fun _ _ _ _ _ => rfl) (fun A outer s H E f c' hrB => (pe_call Gplace hrB rfl Dplace.g Dplace.F.kp Dplace.b .nil (passes_call (takes_of rfl rfl rfl rfl) fun _ _ _ _ h => h) (pa_cons (pv 0) (pa_cons (pe_tup (pa_cons (pe_ix (show IxR _ (rIxL K) from ix_list) (pv 1) pe_int (fun _ _ => rfl)) (pa_cons (pe_ix (show IxR _ (rIxL K) from ix_list) (pv 1) pe_int (fun _ _ => rfl)) (pa_cons (pe_ix (show IxR _ (rIxL K) from ix_list) (pv 1) pe_int (fun _ _ => rfl)) (pa_cons (pe_ix (show IxR _ (rIxL K) from ix_list) (pv 1) pe_int (fun _ _ => rfl)) (pa_cons (pe_ix (show IxR _ (rIxL K) from ix_list) (pv 1) pe_int (fun _ _ => rfl)) pa_nil)))))) pa_nil))))) (pg_tup rfl (pgs_cons (pg_name (i := 4) scplace_so.nd rfl (Or.inl rfl)) (pgs_cons (pg_name (i := 5) scplace_so.nd rfl (Or.inl rfl)) pgs_nil))))
        (pss_cons (ps_if (pt_truth (pv 3) (by intro _; rfl)) (pss_one (ps_ret (pe_and (pe_cmpR op_isN (pv 4) pe_non (nomark _)) (pe_one (pe_call Glike hrlike rfl Dlike.g Dlike.F.kp Dlike.b .nil pass0 (pa_cons (pv 5) (pa_cons (pe_lst (pa_cons pe_str (pa_cons (pe_ix ix_list (pv 3) pe_int (fun _ _ => rfl)) pa_nil))) pa_nil))))))) pss_nil)
        (pss_one (ps_ret (pe_and (pe_cmpR op_isN (pv 5) pe_non (nomark _)) (pe_one (pe_call Glike hrlike rfl Dlike.g Dlike.F.kp Dlike.b .nil pass0 (pa_cons (pe_call Grow hrrow rfl Drow.g Drow.F.kp Drow.b .nil pass0 (pa_cons (pv 4) pa_nil)) (pa_cons (pe_tup (pa_cons (pe_ix ix_list (pv 1) pe_int (fun _ _ => rfl)) (pa_cons (pe_ix ix_list (pv 1) pe_int (fun _ _ => rfl)) (pa_cons (pe_ix ix_list (pv 1) pe_int (fun _ _ => rfl)) (pa_cons (pe_ix ix_list (pv 1) pe_int (fun _ _ => rfl)) (pa_cons (pe_ix ix_list (pv 1) pe_int (fun _ _ => rfl)) pa_nil)))))) pa_nil)))))))))))), ?_⟩
    refine ⟨_, rfl, (by show 2 ≤ sizeLine; decide), fun p hp => of_disp (E := E0) (Ok.refl B) hp (by show 0 < 2; decide) (by show 2 ≤ 1000000; decide) fun x2 H1 hx2 _ r1 => ?_⟩
    refine ⟨_, rfl, (by show 2 ≤ sizeLine; decide), fun p hp => of_disp (E := E0) r1 hp (by show 0 < 2; decide) (by show 2 ≤ 1000000; decide) fun x3 H2 hx3 _ r2 => ?_⟩
    obtain ⟨b, rfl⟩ : ∃ b, x3 = .bl b := by
      simp only [List.mem_cons, List.not_mem_nil, or_false] at hx3
      rcases hx3 with rfl | rfl
      all_goals exact ⟨_, rfl⟩
    refine ⟨_, rfl, (by show 3 ≤ sizeLine; decide), fun p hp => of_disp (E := E0) r2 hp (by show 0 < 3; decide) (by show 3 ≤ 1000000; decide) fun x4 H3 hx4 _ r3 => ⟨(by show 5 ≤ sizeLine; decide), fun L hL => ?_⟩⟩
    have z2 : Sz x2 := by
      simp only [List.mem_cons, List.not_mem_nil, or_false] at hx2
      rcases hx2 with rfl | rfl
      · exact True.intro
      · show Str.length _ ≤ 1000000
        decide +kernel
    have z4 : Sz x4 := by
      simp only [List.mem_cons, List.not_mem_nil, or_false] at hx4
      rcases hx4 with rfl | rfl | rfl
      · exact True.intro
      · show Str.length _ ≤ 1000000
        decide +kernel
      · show Str.length _ ≤ 1000000
        decide +kernel
    have za : Sz (.str "a") := by show Str.length _ ≤ 1000000; decide +kernel
    have zx : Sz (.str "x1") := by show Str.length _ ≤ 1000000; decide +kernel
    have hL0 := r3.free hL
    have nL := (r3.bag.ne hL).1
    have r4 := r3.new (o := .lst [.str "a", .str "x1", x2, .bl b, x4]) hL
    have eL4 := upd_same (H := H3) (a := L) (o := .lst [.str "a", .str "x1", x2, .bl b, x4])
    generalize upd H3 L (.lst [.str "a", .str "x1", x2, .bl b, x4]) = H4 at r4 eL4 ⊢
    refine ⟨_, rfl, (by show 4 ≤ sizeLine; decide), fun p hp => of_disp (E := E0) r4 hp (by show 0 < 4; decide) (by show 4 ≤ 1000000; decide) fun xn H5 hxn kp5 r5 => ?_⟩
    obtain ⟨n, rfl, hn⟩ : ∃ n : Nat, xn = .int n ∧ n ≤ 2 := by
      simp only [List.mem_cons, List.not_mem_nil, or_false] at hxn
      rcases hxn with rfl | rfl | rfl | rfl
      · exact ⟨0, rfl, by decide⟩
      · exact ⟨1, rfl, by decide⟩
      · exact ⟨1, rfl, by decide⟩
      · exact ⟨2, rfl, by decide⟩
    refine ⟨_, rfl, by omega, by omega, for_range (lo := 0) (n := n) (fun i σ H' => ∃ (v0 v1 v2 v4 : V) (b : Bool) (w2 : Option V), σ = [some (.ref g), some (.ref L), w2, none, none, none] ∧ Ok g l H H' ∧ H' L = some (.lst [v0, v1, v2, .bl b, v4]) ∧ Gv a (FK g L) H' v0 ∧ Gv a (FK g L) H' v1 ∧ Gv a (FK g L) H' v2 ∧ Gv a (FK g L) H' v4)
      ⟨_, _, _, _, _, _, rfl, r5, kp5 _ _ nL eL4, Gv.sz za, Gv.sz zx, Gv.sz z2, Gv.sz z4⟩ ?_ ?_⟩
    · rintro i σ H6 hi ⟨v0, v1, v2, v4, b, w2, rfl, r6, e6, g0, g1, g2, g4⟩
      have hF : ∀ {Hz : Hp}, Ok g l H Hz → Hz L = some (.lst [v0, v1, v2, .bl b, v4]) → ∀ c, FK g L c → ∃ o, Hz c = some o := fun R e c z => by
        rcases z with rfl | rfl
        · obtain ⟨⟨ys, q⟩, _⟩ := R.bag.there
          exact ⟨_, q⟩
        · exact ⟨_, e⟩
      refine ⟨_, rfl, _, rfl, g, l, FK g L, rfl, r6.bag, .inl rfl, hF r6 e6, fun v H7 ov _ r7 => fun y dy hy hdy nydy => ⟨y, dy, 3, H7, rfl, upd_same, hy, same_two hy hdy, by decide, by decide, fun H8 s8 hw => ⟨rfl, (by show 8 ≤ sizeLine; decide), fun p hp => ?_⟩⟩⟩
      have R8 := (r6.trans r7).same s8
      refine of_disp (E := E0) (Ok.refl R8.bag) hp (by show 0 < 8; decide) (by show 8 ≤ 1000000; decide) fun x H9 hx _ r9 => ?_
      have R9 := R8.trans r9
      have kf69 : KpF (FK g L) H6 H9 := ((KpF.kp (.inl rfl) r7.kp).trans (KpF.same s8)).trans (KpF.kp (.inl rfl) r9.kp)
      have ki69 : Ki H6 H9 := ((Ki.ok r7).trans (Ki.same s8)).trans (Ki.ok r9)
      have gx : Gv a (FK g L) H9 x := by
        simp only [List.mem_cons, List.not_mem_nil, or_false] at hx
        rcases hx with rfl | rfl | rfl | rfl | rfl | rfl | rfl | rfl
        · exact .inl (((ov.up).kp (KpF.same s8)).kp (KpF.kp (.inl rfl) r9.kp))
        · exact Gv.sz (by show Str.length _ ≤ 1000000; decide +kernel)
        · exact Gv.sz (by show Str.length _ ≤ 1000000; decide +kernel)
        · exact Gv.sz (by show Str.length _ ≤ 1000000; decide +kernel)
        · exact Gv.sz (by show Str.length _ ≤ 1000000; decide +kernel)
        · exact Gv.sz (by show Str.length _ ≤ 1000000; decide +kernel)
        · exact Gv.sz (by exact True.intro)
        · exact .inr ⟨y, dy, 3, rfl, Ki.ok r9 _ _ rfl hw⟩
      have e9 := r9.at_ (s8 _ _ (r7.at_ e6 nL)) nL
      refine ⟨_, rfl, _, rfl, (by show 4 ≤ sizeLine; decide), fun p hp => of_disp (E := E0) (Ok.refl R9.bag) hp (by show 0 < 4; decide) (by show 4 ≤ 1000000; decide) fun xi H10 hxi _ r10 => ?_⟩
      have e10 := r10.at_ e9 nL
      have R10 := R9.trans r10
      have kfm : ∀ o, KpF (FK g L) H9 (upd H10 L o) := fun o => (KpF.kp (.inl rfl) r10.kp).trans (KpF.mut' (.inr rfl))
      have kim : ∀ o, Ki H9 (upd H10 L o) := fun o => (Ki.ok r10).trans (Ki.lst e10)
      have gg : ∀ {v : V} (o : HO), Gv a (FK g L) H6 v → Gv a (FK g L) (upd H10 L o) v := fun o h => (h.kp kf69 ki69).kp (kfm o) (kim o)
      simp only [List.mem_cons, List.not_mem_nil, or_false] at hxi
      rcases hxi with rfl | rfl | rfl | rfl
      · exact ⟨L, _, _, 0, rfl, rfl, e10, rfl, x, v1, v2, v4, b, _, rfl, R10.mut hL0, upd_same, gx.kp (kfm _) (kim _), gg _ g1, gg _ g2, gg _ g4⟩
      · exact ⟨L, _, _, 1, rfl, rfl, e10, rfl, v0, x, v2, v4, b, _, rfl, R10.mut hL0, upd_same, gg _ g0, gx.kp (kfm _) (kim _), gg _ g2, gg _ g4⟩
      · exact ⟨L, _, _, 2, rfl, rfl, e10, rfl, v0, v1, x, v4, b, _, rfl, R10.mut hL0, upd_same, gg _ g0, gg _ g1, gx.kp (kfm _) (kim _), gg _ g4⟩
      · exact ⟨L, _, _, 4, rfl, rfl, e10, rfl, v0, v1, v2, x, b, _, rfl, R10.mut hL0, upd_same, gg _ g0, gg _ g1, gg _ g2, gx.kp (kfm _) (kim _)⟩
    rintro σ H6 ⟨v0, v1, v2, v4, b, w2, rfl, r6, e6, g0, g1, g2, g4⟩
    -- what is wrong
    refine ⟨(by show 4 ≤ sizeLine; decide), fun T4 hT4 => ⟨T4, rfl, ⟨_, SqT.of upd_same⟩, fun C hC => ?_⟩⟩
    have s7 := same_new (o := .tup [.int 0, .int 1, .int 2, .int 4]) hT4
    have eT4 := upd_same (H := H6) (a := T4) (o := .tup [.int 0, .int 1, .int 2, .int 4])
    have r7 := r6.same s7
    have e7 := s7 _ _ e6
    have gk : ∀ {Hz : Hp} {v : V}, Same H6 Hz → Gv a (FK g L) H6 v → Gv a (FK g L) Hz v := fun s h => h.kp (KpF.same s) (Ki.same s)
    generalize upd H6 T4 (.tup [.int 0, .int 1, .int 2, .int 4]) = H7 at hC s7 eT4 r7 e7 ⊢
    have nC := (r7.bag.ne hC).1
    refine lc_n (bs := fiveW v0 v1 v2 v4) (v := fun p => V.int p.1) walk_tup hC (by show 4 ≤ 1000000; decide) (fun H s => sameT s (SqT.of eT4)) kpW (·.2) (fun p hp H8 Jy N s8 j1 j2 => ?_) fun H8 s8 e8 => ?_
    · have e8 := s8 _ _ e7
      have s68 := s7.trans s8
      unfold fiveW at hp
      simp only [List.mem_cons, List.not_mem_nil, or_false] at hp
      rcases hp with rfl | rfl | rfl | rfl
      · refine ⟨rfl, _, rfl, _, rfl, _, _, _, _, rfl, rfl, SqL.of e8, rfl, FK g L, v0, rfl, gk s68 g0, fun H9 s9 => ⟨_, rfl, ?_⟩⟩
        cases en : isNam v0 with
        | true => exact j2 (by rw [kpW0 (by decide), en]; rfl) H9 s9
        | false => exact ⟨_, rfl, _, _, rfl, rfl, _, rfl, _, rfl, _, rfl, _, _, _, _, rfl, rfl, SqL.of (s9 _ _ e8), rfl, j1 (by rw [kpW0 (by decide), en]; rfl) H9 s9⟩
      · refine ⟨rfl, _, rfl, _, rfl, _, _, _, _, rfl, rfl, SqL.of e8, rfl, FK g L, v1, rfl, gk s68 g1, fun H9 s9 => ⟨_, rfl, ?_⟩⟩
        cases en : isNam v1 with
        | true => exact j2 (by rw [kpW0 (by decide), en]; rfl) H9 s9
        | false => exact ⟨_, rfl, _, _, rfl, rfl, _, rfl, _, rfl, _, rfl, _, _, _, _, rfl, rfl, SqL.of (s9 _ _ e8), rfl, j1 (by rw [kpW0 (by decide), en]; rfl) H9 s9⟩
      · refine ⟨rfl, _, rfl, _, rfl, _, _, _, _, rfl, rfl, SqL.of e8, rfl, FK g L, v2, rfl, gk s68 g2, fun H9 s9 => ⟨_, rfl, ?_⟩⟩
        cases en : isNam v2 with
        | true => exact j2 (by rw [kpW2 (by decide), en]; exact decide_eq_false fun z => by cases z.2) H9 s9
        | false => exact ⟨_, rfl, _, _, rfl, rfl, _, rfl, _, rfl, _, rfl, _, _, _, _, rfl, rfl, SqL.of (s9 _ _ e8), rfl, rfl, _, rfl, ite_nd (fun ne => ⟨_, rfl, _, rfl, _, _, _, _, rfl, rfl, SqL.of (s9 _ _ e8), rfl, j1 (by rw [kpW2 (by decide), en]; exact decide_eq_true ⟨ne, rfl⟩) H9 s9⟩) (fun e => j2 (by rw [kpW2 (by decide)]; exact decide_eq_false fun z => z.1 e) H9 s9)⟩
      · refine ⟨rfl, _, rfl, _, rfl, _, _, _, _, rfl, rfl, SqL.of e8, rfl, FK g L, v4, rfl, gk s68 g4, fun H9 s9 => ⟨_, rfl, ?_⟩⟩
        cases en : isNam v4 with
        | true => exact j2 (by rw [kpW2 (by decide), en]; exact decide_eq_false fun z => by cases z.2) H9 s9
        | false => exact ⟨_, rfl, _, _, rfl, rfl, _, rfl, _, rfl, _, rfl, _, _, _, _, rfl, rfl, SqL.of (s9 _ _ e8), rfl, rfl, _, rfl, ite_nd (fun ne => ⟨_, rfl, _, rfl, _, _, _, _, rfl, rfl, SqL.of (s9 _ _ e8), rfl, j1 (by rw [kpW2 (by decide), en]; exact decide_eq_true ⟨ne, rfl⟩) H9 s9⟩) (fun e => j2 (by rw [kpW2 (by decide)]; exact decide_eq_false fun z => z.1 e) H9 s9)⟩
    have R8 := r7.same s8
    have tb8 := tabs_ok R8 tb0
    have eL8 := s8 _ _ e7
    have hW := plDue_W v0 v1 v2 v4
    have s68 := s7.trans s8
    replace g0 := gk s68 g0
    replace g1 := gk s68 g1
    replace g2 := gk s68 g2
    replace g4 := gk s68 g4
    generalize ((fiveW v0 v1 v2 v4).filter kpW).map (·.2) = W at hW e8
    have toF : ∀ {H1 H2 : Hp}, KpF (· = g) H1 H2 → KpF (FK g L) H1 H2 := fun k => KpF.fk k
    have kiG : ∀ {H1 H2 : Hp}, Ok g l H H1 → KpF (· = g) H1 H2 → Ki H1 H2 := fun R k => k.ki fun b e => by
      obtain ⟨⟨ys, q⟩, _⟩ := R.bag.there
      exact ⟨ys, by rw [e]; exact q⟩
    refine lam_std (F := (· = g)) tb8 R8.bag ((plDue v0 v1 v2 v4).map fun u => (("InvalidName" : Str), [u])) (fun H' u => ∃ (r : Row) (x : Addr), u = .ref x ∧ [v0, v1, v2, .bl b, v4] = rowV r ∧ PlV a H' r (.ref x)) (fun H1 H2 u s ⟨r, x, e1, e2, e3⟩ => ⟨r, x, e1, e2, e3.ki (Ki.same s)⟩) ?_ ?_
    · intro H9 E' Qv k9 B9 t9 hout hmade
      have e9 := k9 _ _ nL lstN eL8
      have ki9 := kiG R8 k9
      refine ⟨_, rfl, _, rfl, _, _, _, _, rfl, rfl, SqL.of e9, rfl, _, rfl, _, _, _, _, rfl, rfl, SqL.of e9, rfl, _, rfl, _, _, _, _, rfl, rfl, SqL.of e9, rfl, _, rfl, _, _, _, _, rfl, rfl, SqL.of e9, rfl, _, rfl, _, _, _, _, rfl, rfl, SqL.of e9, rfl, (by show 5 ≤ sizeLine; decide), fun T hT => ?_⟩
      have sT := same_new (o := .tup [v0, v1, v2, .bl b, v4]) hT
      have kT : KpF (· = g) H8 (upd H9 T (.tup [v0, v1, v2, .bl b, v4])) := k9.trans (KpF.same sT)
      have kiT := ki9.trans (Ki.same sT)
      refine ⟨g, l, T, FK g L, v0, v1, v2, v4, b, rfl, bag_same sT B9, upd_same, .inl rfl, g0.kp (toF kT) kiT, g1.kp (toF kT) kiT, g2.kp (toF kT) kiT, g4.kp (toF kT) kiT, fun u H10 e r10 => hout _ H10 (by rw [e]; rfl) (kT.trans (KpF.kp rfl r10.kp)) r10.bag (tabs_ok r10 (t9.ext sT)), fun r x H10 e q0 q1 q2 q3 q4 okr r10 pv => hmade _ H10 (by rw [e]; rfl) (kT.trans (KpF.kp rfl r10.kp)) r10.bag (tabs_ok r10 (t9.ext sT)) ⟨r, x, rfl, row_of q0 q1 q2 q3 q4, pv⟩⟩
    rintro T H9 tv fv k9 B9 t9 eT cs
    have e9 := k9 _ _ nL lstN eL8
    have eW := k9 _ _ nC lstN e8
    have ki9 := kiG R8 k9
    have kH : KpF (· = g) H H9 := KpF.trans (KpF.kp (F := (· = g)) rfl R8.kp) k9
    have fin : ∀ H', Same H9 H' → Q (.bl true) H' := fun H' s => k H' (kH.trans (KpF.same s)) (bag_same s B9) (t9.ext s)
    refine ⟨T, _, rfl, SqT.of eT, rfl, _, _, rfl, _, _, rfl, rfl, ?_⟩
    refine ⟨_, rfl, _, .inl ⟨_, SqL.of eW, rfl⟩, ?_⟩
    cases W with
    | cons u W =>
      rw [hW] at cs
      rcases cs with ⟨nm, ws, Dd, du, rfl, rfl, eD⟩ | ⟨du, _⟩
      rotate_left
      · cases du
      cases du
      have gu : Gv a (FK g L) H9 u := by
        have hu : plDue v0 v1 v2 v4 = some u := hW
        unfold plDue at hu
        split at hu
        · cases hu; exact g0.kp (toF k9) ki9
        · split at hu
          · cases hu; exact g1.kp (toF k9) ki9
          · split at hu
            · cases hu; exact g2.kp (toF k9) ki9
            · split at hu
              · cases hu; exact g4.kp (toF k9) ki9
              · cases hu
      refine iteT ⟨_, rfl, rfl, _, rfl, iteT ⟨_, rfl, _, rfl, _, _, _, _, rfl, rfl, SqL.of eW, atI_nat (j := 0) rfl, (by show 2 ≤ sizeLine; decide), fun U hU => ?_⟩⟩
      have sU := same_new (o := .lst [.str "InvalidName", u]) hU
      exact ⟨V.ref Dd, V.ref U, 4, rfl, by decide, Lq.list2 (sU _ _ eD) upd_same (gu.kp (KpF.same sU) (Ki.same sU)).lq, fun H10 s10 => fin _ (sU.trans s10)⟩
    | nil =>
      rw [hW] at cs
      rcases cs with ⟨nm, ws, Dd, du, _⟩ | ⟨_, rfl, r, x, rfl, er, px⟩
      · cases du
      obtain ⟨x', dx, ex, hx⟩ := px
      cases ex
      refine iteF ⟨_, rfl, rfl, _, rfl, iteT ⟨_, rfl, x, dx, r, rfl, hx, fun t H10 ht s10 et => ?_⟩⟩
      have e10 := s10 _ _ e9
      refine ⟨_, rfl, _, _, _, _, rfl, rfl, SqL.of e10, rfl, _, rfl, _, _, _, _, rfl, rfl, SqL.of e10, rfl, _, rfl, _, _, _, _, rfl, rfl, SqL.of e10, rfl, _, rfl, _, _, _, _, rfl, rfl, SqL.of e10, rfl, _, rfl, _, _, _, _, rfl, rfl, SqL.of e10, rfl, (by show 5 ≤ sizeLine; decide), fun U hU => ?_⟩
      have sU := same_new (o := .tup [v0, v1, v2, .bl b, v4]) hU
      rw [er] at *
      exact ⟨V.ref t, V.ref U, 1, rfl, by decide, Lq.row 0 (sU _ _ et) upd_same, fun H11 s11 => fin _ (s10.trans (sU.trans s11))⟩
end k12
namespace k12
open PySem L2 LC RM
def spso (K : PySem.W.Frag) (a : Ad) (Tb : List (Addr × Str)) : Sp := fun vs H Q _ => ∃ (g l D hA : Addr) (tr : List (Addr × Row)) (hs : List Str), vs = [.ref g, .ref D, .ref hA] ∧ Bag l H g ∧ LamX.Tabs Tb H ∧ H D = some (.lst (tr.map tv)) ∧ D ≠ g ∧ TR H tr ∧ GRows (tr.map (·.2)) ∧ 0 < tr.length ∧ (tr.length ≤ 8 ∨ tr.length = 24) ∧ H hA = some (.lst (hs.map V.str)) ∧ hA ≠ g ∧ hs.length ≤ 6 ∧ (∀ z ∈ hs, NmOk z) ∧
  ∀ H', KpF (· = g) H H' → Bag l H' g → LamX.Tabs Tb H' → Q (.bl true) H'
theorem ok_so {P : Program} {w : World} {K : PySem.W.Frag} {mg : Str → Option Value} {base : Heap} {f c Pt : Addr} {oc kV doc pm ct : Value} {od an : Option Addr} {osl : Array (Option Value)} (lk : K.lookup f = some ⟨oc, od, .func (PySem.W.fnOf "_law_so" "_law_so" (defArgs sso) (defBody sso) (defScope sso) .none kV doc pm an (.ref c) ct), osl⟩) (hcd : PySem.W.codeIn K (.ref c) "_law_so" = true) (TB : LamX.TabB base mg c Pt) (T : Txt K mg) {a : Ad} (KN : Kn K mg a) {ce : Ce} {fdInvalidName : FuncData} {fInvalidName : Addr} (RInvalidName : RE P w K mg base "InvalidName" "value" (ivF "InvalidName") ce.na fInvalidName fdInvalidName) {fdInvalidRule : FuncData} {fInvalidRule : Addr} (RInvalidRule : RE P w K mg base "InvalidRule" "value" (ivF "InvalidRule") ce.ru fInvalidRule fdInvalidRule) {fdInvalidPlace : FuncData} {fInvalidPlace : Addr} (RInvalidPlace : RE P w K mg base "InvalidPlace" "at" (atF "InvalidPlace") ce.pl fInvalidPlace fdInvalidPlace) {fdBadTree : FuncData} {fBadTree : Addr} (RBadTree : RE P w K mg base "BadTree" "place" (plcF "BadTree") ce.bt fBadTree fdBadTree) {fdTooMany : FuncData} {fTooMany : Addr} (RTooMany : RTM P w K mg base ce.tm fTooMany fdTooMany) {S fask : Addr} {fdask : FuncData} (Dask : Def K mg "_law_ask" sask Pask fask fdask) (eruna : PySem.W.exmOne K (.ref ce.ru) (.ref ce.na) = some false) (eplna : PySem.W.exmOne K (.ref ce.pl) (.ref ce.na) = some false) (ebtna : PySem.W.exmOne K (.ref ce.bt) (.ref ce.na) = some false) (etmna : PySem.W.exmOne K (.ref ce.tm) (.ref ce.na) = some false) (eplru : PySem.W.exmOne K (.ref ce.pl) (.ref ce.ru) = some false) (ebtru : PySem.W.exmOne K (.ref ce.bt) (.ref ce.ru) = some false) (etmru : PySem.W.exmOne K (.ref ce.tm) (.ref ce.ru) = some false) (ebtpl : PySem.W.exmOne K (.ref ce.bt) (.ref ce.pl) = some false) (etmpl : PySem.W.exmOne K (.ref ce.tm) (.ref ce.pl) = some false) (etmbt : PySem.W.exmOne K (.ref ce.tm) (.ref ce.bt) = some false) (gSE : mg "SureletError" = some (.ref S)) (IWindow : FnR P w K mg base CX0 3 a.Wi (spWindow_init K a)) (IRule : FnR P w K mg base CX0 3 a.ri (spRule_init a)) {fplace : Addr} {fdplace : FuncData} (Dplace : Def K mg "_law_place" splace Pplace fplace fdplace) (Gplace : FnOk P w K mg base (L2.CX P w) 6 fplace fdplace Pplace (spplace a ce)) {ftree : Addr} {fdtree : FuncData} (Dtree : Def K mg "_law_tree" stree Ptree ftree fdtree) (Gtree : FnOk P w K mg base (L2.CX P w) 8 ftree fdtree Ptree (sptree K a ce)) (RTp : FnR P w K mg base CX0 1 a.fTp (spTree_places a)) (OLn : FnR P w K mg base CX0 1 a.fTl (spTree_len a)) {Tb : List (Addr × Str)} (hmT : (Pt, (("_law_so" : Str) ++ ".<locals>." ++ "<lambda>")) ∈ Tb) (hu : ∀ p ∈ Tb, p.1 = Pt → p.2 = (("_law_so" : Str) ++ ".<locals>." ++ "<lambda>")) {fdraw : Addr} {fddraw : FuncData} (Ddraw : Def K mg "_law_draw" sdraw Pdraw fdraw fddraw) (Gdraw : FnOk P w K mg base CX0 1 fdraw fddraw Pdraw (spdraw)) {fof : Addr} {fdof : FuncData} (Dof : Def K mg "_law_of" sof Pof fof fdof) (Gof : FnOk P w K mg base CX0 2 fof fdof Pof (spof K)) {flike : Addr} {fdlike : FuncData} (Dlike : Def K mg "_law_like" slike Plike flike fdlike) (Glike : FnOk P w K mg base CX0 6 flike fdlike Plike (splike a 5)) {fodd : Addr} {fdodd : FuncData} (Dodd : Def K mg "_law_odd" sodd Podd fodd fdodd) (Godd : FnOk P w K mg base CX0 3 fodd fdodd Podd (spodd)) {fplace : Addr} {fdplace : FuncData} (Dplace : Def K mg "_law_place" splace Pplace fplace fdplace) (Gplace : FnOk P w K mg base (L2.CX P w) 6 fplace fdplace Pplace (spplace a ce)) {ftree : Addr} {fdtree : FuncData} (Dtree : Def K mg "_law_tree" stree Ptree ftree fdtree) (Gtree : FnOk P w K mg base (L2.CX P w) 8 ftree fdtree Ptree (sptree K a ce)) {frow : Addr} {fdrow : FuncData} (Drow : Def K mg "_law_row" srow Prow frow fdrow) (Grow : FnOk P w K mg base CX0 1 frow fdrow Prow (sprow a)) {fdue : Addr} {fddue : FuncData} (Ddue : Def K mg "_law_due" sdue Pdue fdue fddue) (Gdue : FnOk P w K mg base CX0 2 fdue fddue Pdue (spdue)) {fsize : Addr} {fdsize : FuncData} (Dsize : Def K mg "_law_size" ssize Psize fsize fdsize) (Gsize : FnOk P w K mg base CX0 4 fsize fdsize Psize (spsize K)) :
    FnOk P w K mg base CX0 11 f (PySem.W.fnOf "_law_so" "_law_so" (defArgs sso) (defBody sso) (defScope sso) .none kV doc pm an (.ref c) ct) Pso (spso K a Tb) := by
  refine LL.okC lk hcd scso (fun vs H Q E h => ?_) (fun A outer s H vs Q E hr h => ?_)
  · obtain ⟨g, l, D, hA, tr, hs, rfl, B, tb0, hD, nD, ht, gr, h0, hl, hH, nh, h6, hh, k⟩ := h
    rfl
  · obtain ⟨g, l, D, hA, tr, hs, rfl, B, tb0, hD, nD, ht, gr, h0, hl, hH, nh, h6, hh, k⟩ := h
    have hrdraw : Room 1 _ := hr.mono (by decide)
    have hrof : Room 2 _ := hr.mono (by decide)
    have hrlike : Room 6 _ := hr.mono (by decide)
    have hrodd : Room 3 _ := hr.mono (by decide)
    have hrplace : Room 6 _ := hr.mono (by decide)
    have hrtree : Room 8 _ := hr.mono (by decide)
    have hrrow : Room 1 _ := hr.mono (by decide)
    have hrdue : Room 2 _ := hr.mono (by decide)
    have hrsize : Room 4 _ := hr.mono (by decide)
    have hrL : Room (8 + 2) _ := hr.mono (by decide)
    have hrI : Room 4 _ := hr.mono (by decide)
    have hrM : Room 1 _ := hr.mono (by decide)
    have hrQ : Room (1 + 1) _ := hr.mono (by decide)
    refine ⟨_, (Evl.pss_cut (ps_set (i := 3) scso.nd rfl (Or.inl rfl) (pe_ifExp (pt_cmpR op_gt (pe_call Gdraw hrdraw rfl Ddraw.g Ddraw.F.kp Ddraw.b .nil pass0 (pa_cons (pv 0) (pa_cons pe_int pa_nil))) pe_int (nomark _)) (pe_call Gsize hrsize rfl Dsize.g Dsize.F.kp Dsize.b .nil pass0 (pa_cons (pv 0) (pa_cons (pv 1) (pa_cons (pv 2) pa_nil)))) (pe_lst pa_nil)))
        (pss_cons (ps_set (i := 4) scso.nd rfl (Or.inr rfl) (pe_lc (own := [("_law_row_here", 12)]) (g := gName 12) (tt := tYes) rfl scso.nd (pi_list (pv 3)) (blkOk_by (own := [("_law_row_here", 12)]) (N := Nmso) (sc := defScope sso) (by decide +kernel)) (fun _ _ _ _ _ => pg_name (i := 12) scso.nd rfl (Or.inl rfl)) (fun _ _ _ _ _ => pts_nil) (fun _ _ _ _ _ => (pe_call Gplace hrplace rfl Dplace.g Dplace.F.kp Dplace.b .nil passL (pa_cons (pv 0) (pa_cons (pv 12) pa_nil))))))
        (pss_cons (ps_asg (pe_tup (pa_cons (StX.pe_makeR KN.mRule IRule hrI rfl KN.gRule pass0 (pa_cons pe_str (pa_cons pe_int (pa_cons (StX.pe_makeR KN.mWindow IWindow hrI rfl KN.gWindow pass0 (pa_cons pe_int pa_nil)) pa_nil)))) (pa_cons (pe_call Gdue hrdue rfl Ddue.g Ddue.F.kp Ddue.b .nil pass0 (pa_cons (pv 3) pa_nil)) (pa_cons pe_int pa_nil)))) (pg_tup rfl (pgs_cons (pg_name (i := 5) scso.nd rfl (Or.inr rfl)) (pgs_cons (pg_name (i := 6) scso.nd rfl (Or.inl rfl)) (pgs_cons (pg_name (i := 7) scso.nd rfl (Or.inl rfl)) pgs_nil)))))
        (Evl.pss_cut (ps_if (PW.pt (pw_and (pt_truth (pv 4) (by intro _; rfl)) (pw_and1 (pt_cmpR op_eq (pe_call Gdraw hrdraw rfl Ddraw.g Ddraw.F.kp Ddraw.b .nil pass0 (pa_cons (pv 0) (pa_cons pe_int pa_nil))) pe_int (nomark _))))) (pss_cons (ps_for PassesOwn.never rfl (pi_range1 rfl T.n_range (pa_cons (pe_op op_add pe_int (pe_call Gdraw hrdraw rfl Ddraw.g Ddraw.F.kp Ddraw.b .nil pass0 (pa_cons (pv 0) (pa_cons pe_int pa_nil)))) pa_nil)) (pg_name (i := 8) scso.nd rfl (Or.inl rfl))
          (pss_cons (ps_set (i := 7) scso.nd rfl (Or.inl rfl) (pe_call Gdraw hrdraw rfl Ddraw.g Ddraw.F.kp Ddraw.b .nil pass0 (pa_cons (pv 0) (pa_cons (pe_callB call_len_seq (by rfl) T.n_len PySem.boot_len (pa_cons (pv 4) pa_nil)) pa_nil))))
        (pss_one (ps_asg (pe_call Gof hrof rfl Dof.g Dof.F.kp Dof.b .nil pass0 (pa_cons (pv 0) (pa_cons (pe_lst (pa_cons (pe_call Godd hrodd rfl Dodd.g Dodd.F.kp Dodd.b .nil pass0 (pa_cons (pv 0) pa_nil)) (pa_cons (pv 5) (pa_cons (pe_ix ix_list (pv 3) (pv 7) (fun _ _ => rfl)) (pa_cons (pe_ix ix_tup (pe_ix ix_list (pv 3) (pv 7) (fun _ _ => rfl)) pe_int (fun _ _ => rfl)) pa_nil))))) pa_nil))) (pg_sub (pv 4) (pv 7) set_list)))))
        (pss_one (ps_set (i := 6) scso.nd rfl (Or.inl rfl) (pe_lst (pa_cons pe_str (pa_cons (pe_callB (cr_min rfl) (by rfl) T.n_min (by decide +kernel) (pa_cons (pe_lc (own := [("_law_k", 8)]) (g := gName 8) rfl scso.nd (pi_range1 rfl T.n_range (pa_cons (pe_callB call_len_seq (by rfl) T.n_len PySem.boot_len (pa_cons (pv 4) pa_nil)) pa_nil)) (blkOk_by (own := [("_law_k", 8)]) (N := Nmso) (sc := defScope sso) (by decide +kernel)) (fun _ _ _ _ _ => pg_name (i := 8) scso.nd rfl (Or.inl rfl)) (fun _ _ _ _ _ => pts_one (pt_not (pt_val (pe_callB (show CallR _ (.builtin "isinstance") (rIsi K) from call_isi) (by rfl) T.n_isinstance (by decide +kernel) (pa_cons (pe_ix (show IxR _ (rIxL K) from ix_list) (pv 4) (pv 8) (fun _ _ => rfl)) (pa_cons (pe_glob rfl KN.gPlace (show RelV (.ref a.P) _ from rfl)) pa_nil)))))) (fun _ _ _ _ _ => (pv 8))) pa_nil)) pa_nil)))))) pss_nil)
        (Evl.pss_cut (ps_if (pt_cmpR op_eq (pe_call Gdraw hrdraw rfl Ddraw.g Ddraw.F.kp Ddraw.b .nil pass0 (pa_cons (pv 0) (pa_cons pe_int pa_nil))) pe_int (nomark _)) (pss_cons (ps_set (i := 5) scso.nd rfl (Or.inr rfl) (pe_call Gof hrof rfl Dof.g Dof.F.kp Dof.b .nil pass0 (pa_cons (pv 0) (pa_cons (pe_lst (pa_cons (pe_call Godd hrodd rfl Dodd.g Dodd.F.kp Dodd.b .nil pass0 (pa_cons (pv 0) pa_nil)) (pa_cons (StX.pe_makeR KN.mWindow IWindow hrI rfl KN.gWindow pass0 (pa_cons pe_int pa_nil)) (pa_cons pe_str (pa_cons (pe_ifExp (PW.pt (pw_and (pt_truth (pv 4) (by intro _; rfl)) (pw_and1 (pt_not (pt_val (pe_callB (show CallR _ (.builtin "isinstance") (rIsi K) from call_isi) (by rfl) T.n_isinstance (by decide +kernel) (pa_cons (pe_ix (show IxR _ (rIxL K) from ix_list) (pv 4) pe_int (fun _ _ => rfl)) (pa_cons (pe_glob rfl KN.gRule (show RelV (.ref a.r) _ from rfl)) pa_nil)))))))) (pe_ix ix_list (pv 4) pe_int (fun _ _ => rfl)) pe_non) pa_nil))))) pa_nil))))
        (pss_one (ps_set (i := 6) scso.nd rfl (Or.inl rfl) (pe_lst (pa_cons pe_str (pa_cons (pv 5) pa_nil)))))) pss_nil)
        (pss_cons (ps_asg (LL.pe_lamcallS (T := Tb) (ql := ("_law_so" : Str) ++ ".<locals>.") Dask rfl scask rfl (Or.inl rfl) (fun _ => ask_gives RInvalidName RInvalidRule RInvalidPlace RBadTree RTooMany eruna eplna ebtna etmna eplru ebtru etmru ebtpl etmpl etmbt gSE) rfl TB rfl hmT hu hrL (show LamX.LamS (defScope sso) _ from LamX.lamS_by (by decide +kernel)) rfl (fun _ _ _ _ _ => rfl) (fun A outer s H E f c' hrB => (pe_call Gtree hrB rfl Dtree.g Dtree.F.kp Dtree.b .nil (passes_call (takes_of rfl rfl rfl rfl) fun _ _ _ _ h => h) (pa_cons (pv 5) (pa_cons (pv 4) pa_nil))))) (pg_tup rfl (pgs_cons (pg_name (i := 9) scso.nd rfl (Or.inl rfl)) (pgs_cons (pg_name (i := 10) scso.nd rfl (Or.inl rfl)) pgs_nil))))
        (pss_cons (ps_if (pt_cmpR op_notN (pv 6) pe_non (nomark _)) (pss_cons (ps_if (PW.pt (pw_or (pt_cmpR op_notN (pv 9) pe_non (nomark _)) (pw_or1 (pt_not (pt_val (pe_call Glike hrlike rfl Dlike.g Dlike.F.kp Dlike.b .nil pass0 (pa_cons (pv 10) (pa_cons (pv 6) pa_nil)))))))) (pss_one (ps_ret pe_bl)) pss_nil)
        (pss_cons (ps_set (i := 11) scso.nd rfl (Or.inl rfl) (pe_call Gtree hrtree rfl Dtree.g Dtree.F.kp Dtree.b .nil passL (pa_cons (StX.pe_makeR KN.mRule IRule hrI rfl KN.gRule pass0 (pa_cons pe_str (pa_cons pe_int (pa_cons (StX.pe_makeR KN.mWindow IWindow hrI rfl KN.gWindow pass0 (pa_cons pe_int pa_nil)) pa_nil)))) (pa_cons (pe_lc (own := [("_law_row_here", 12)]) (g := gName 12) (tt := tYes) rfl scso.nd (pi_list (pv 1)) (blkOk_by (own := [("_law_row_here", 12)]) (N := Nmso) (sc := defScope sso) (by decide +kernel)) (fun _ _ _ _ _ => pg_name (i := 12) scso.nd rfl (Or.inl rfl)) (fun _ _ _ _ _ => pts_nil) (fun _ _ _ _ _ => (pe_call Gplace hrplace rfl Dplace.g Dplace.F.kp Dplace.b .nil passL (pa_cons (pv 0) (pa_cons (pv 12) pa_nil))))) pa_nil))))
        (pss_one (ps_ret (pe_call Glike hrlike rfl Dlike.g Dlike.F.kp Dlike.b .nil pass0 (pa_cons (pe_lc (own := [("_law_place_here", 13)]) (g := gName 13) (tt := tYes) rfl scso.nd (pi_list (LS.pe_methD0 (pv 11) KN.kTp RTp hrM)) (blkOk_by (own := [("_law_place_here", 13)]) (N := Nmso) (sc := defScope sso) (by decide +kernel)) (fun _ _ _ _ _ => pg_name (i := 13) scso.nd rfl (Or.inl rfl)) (fun _ _ _ _ _ => pts_nil) (fun _ _ _ _ _ => (pe_call Grow hrrow rfl Drow.g Drow.F.kp Drow.b .nil pass0 (pa_cons (pv 13) pa_nil)))) (pa_cons (pv 1) pa_nil))))))) pss_nil)
        (pss_one (ps_ret (pe_and (pe_cmpR op_isN (pv 10) pe_non (nomark _)) (pe_and (pe_call Glike hrlike rfl Dlike.g Dlike.F.kp Dlike.b .nil pass0 (pa_cons (pe_lc (own := [("_law_place_here", 13)]) (g := gName 13) (tt := tYes) rfl scso.nd (pi_list (LS.pe_methD0 (pv 9) KN.kTp RTp hrM)) (blkOk_by (own := [("_law_place_here", 13)]) (N := Nmso) (sc := defScope sso) (by decide +kernel)) (fun _ _ _ _ _ => pg_name (i := 13) scso.nd rfl (Or.inl rfl)) (fun _ _ _ _ _ => pts_nil) (fun _ _ _ _ _ => (pe_call Grow hrrow rfl Drow.g Drow.F.kp Drow.b .nil pass0 (pa_cons (pv 13) pa_nil)))) (pa_cons (pv 3) pa_nil))) (pe_one (pe_call Glike hrlike rfl Dlike.g Dlike.F.kp Dlike.b .nil pass0 (pa_cons (pe_callB (LD.call_lenI (n := 1) hrQ) (by rfl) T.n_len PySem.boot_len (pa_cons (pv 9) pa_nil)) (pa_cons (pe_callB call_len_seq (by rfl) T.n_len PySem.boot_len (pa_cons (pv 3) pa_nil)) pa_nil))))))))))))))), ?_⟩
    have okr : OkR tr := fun p hp => gr.ok p.2 (List.mem_map.mpr ⟨p, hp, rfl⟩)
    refine ⟨fun σ H' => ∃ (S : Addr) (ts : List (Addr × Row)), σ = [some (.ref g), some (.ref D), some (.ref hA), some (.ref S), none, none, none, none, none, none, none, none, none, none] ∧ H S = none ∧ Ok g l H H' ∧ H' S = some (.lst (ts.map tv)) ∧ TR H' ts ∧ OkR ts ∧ (ts.length ≤ 10 ∨ ts.length = 24 ∨ ts.length = 25), ?_, ?_⟩
    · refine ⟨_, rfl, g, l, 24, rfl, B, by decide, by decide, fun d H1 d0 d1 r1 => ⟨_, _, rfl, rfl, _, rfl, ?_⟩⟩
      refine ite_d (fun _ => ?_) (fun _ => ?_)
      · exact ⟨_, rfl, _, rfl, _, rfl, g, l, D, hA, tr, hs, rfl, r1.bag, r1.at_ hD nD, nD, ht.ki (Ki.ok r1), okr, h0, hl, r1.at_ hH nh, nh, h6, hh, fun D' tr' H2 f1 r2 f2 f3 f4 f5 => ⟨D', tr', rfl, r1.free f1, r1.trans r2, f2, f3, f4, f5⟩⟩
      · exact ⟨(by show 0 ≤ sizeLine; decide), fun S hS => ⟨S, [], rfl, r1.free hS, r1.new hS, upd_same, (fun p h => by cases h), (fun p h => by cases h), .inl (by decide)⟩⟩
    rintro σ H1 ⟨S, ts, rfl, hS0, r1, e1, t1, ok1, l1⟩
    have nS : S ≠ g := fun z => by
      obtain ⟨⟨ys, q⟩, _⟩ := B.there
      rw [z, q] at hS0
      cases hS0
    -- the things
    refine ⟨_, rfl, S, rfl, ⟨_, SqL.of e1⟩, fun Th hTh => ?_⟩
    have hTh0 := r1.free hTh
    have nTh := (r1.bag.ne hTh).1
    have nST : S ≠ Th := ne_of_none e1 hTh
    refine mk_places r1 hTh e1 nS t1 ok1 (by omega) (fun t r H' Jy B ht ok jy => ⟨rfl, _, rfl, _, rfl, g, l, t, (· = g), .str r.nm, .str r.sv, oV r.el, oV r.cu, r.mem, rfl, B, ht, rfl, Gv.sz (NmOk.sz ok.n), Gv.sz (NmOk.sz ok.s), Gv.sz (oV_sz ok.e), Gv.sz (oV_sz ok.c), fun u H2 e => (by rw [plDue_ok ok] at e; cases e), fun r' x H2 _ q0 q1 q2 q3 q4 _ R pv => jy x H2 R (by rw [rowV_inj (row_of q0 q1 q2 q3 q4)]; exact pv)⟩) (fun pts H2 r2 eT eq th e2 t2 => ?_)
    -- the rule, and what is due
    refine fun wx wdx hwx hwdx _ => ⟨wx, wdx, 4, H2, rfl, upd_same, hwx, same_two hwx hwdx, by decide, by decide, fun H3 s3 hw => ⟨rfl, fun rx rdx hrx hrdx _ => ⟨rx, rdx, wx, wdx, "r", 3, 4, H3, rfl, (by show isNam _ = true; decide +kernel), by decide, by decide, upd_same, hrx, same_two hrx hrdx, hw, fun H4 s4 iv => ⟨rfl, _, rfl, S, ts, rfl, s4 _ _ (s3 _ _ e2), t2.ki (Ki.same (s3.trans s4)), by omega, fun dv H5 s5 dd => ⟨(by show 3 ≤ sizeLine; decide), fun T0 hT0 => ⟨T0, _, rfl, SqT.of upd_same, rfl, _, _, rfl, _, _, rfl, _, _, rfl, rfl, ?_⟩⟩⟩⟩⟩⟩
    have gN : H g ≠ none := fun z => by
      obtain ⟨⟨ys, q⟩, _⟩ := B.there
      rw [q] at z
      cases z
    have s26 := (s3.trans (s4.trans s5)).trans (same_new (o := .tup [.ref rx, dv, .int 0]) hT0)
    have R6 := r2.same s26
    have e6 := s26 _ _ e2
    have eT6 := s26 _ _ eT
    have th6 := th.kp (KpF.same s26) (Ki.same s26)
    have t6 := t2.ki (Ki.same s26)
    have iv6 := (iv.ki (Ki.same s5)).ki (Ki.new (o := .tup [.ref rx, dv, .int 0]) hT0)
    have dd6 : DueW H (upd H5 T0 (.tup [.ref rx, dv, .int 0])) dv (allDue (.ref rx) true (pts.map (·.2))) := by
      have ea : allDue (.ref rx) true (pts.map (·.2)) = treeDue (ts.map (·.2)) := by
        have e' : pts.map (·.2) = (ts.map (·.2)).map some := by rw [eq, List.map_map]; rfl
        rw [e', iT_due (fn_some _ 0), fm_some]
      rw [ea]
      refine DueW.same (same_new hT0) ?_
      cases q : treeDue (ts.map (·.2)) with
      | none => rw [q] at dd; exact dd
      | some e =>
        rw [q] at dd
        obtain ⟨Dd, f1, f2, f3⟩ := dd
        exact ⟨Dd, f1, r2.free (s3.free (s4.free f2)), f3⟩
    have lp : pts.length = ts.length := by
      have := congrArg List.length eq
      rw [List.length_map, List.length_map] at this
      exact this
    have eqn : firstNone 0 (pts.map (·.2)) = none → pts.map (·.2) = ts.map (fun p => some p.2) := fun _ => eq
    clear eq
    generalize upd H5 T0 (.tup [V.ref rx, dv, .int 0]) = H6 at R6 e6 eT6 th6 t6 iv6 dd6 ⊢
    have hF : ∀ {Hz : Hp} {xs : List V}, Ok g l H Hz → Hz Th = some (.lst xs) → ∀ c, FK g Th c → ∃ o, Hz c = some o := fun R e c z => by
      rcases z with rfl | rfl
      · obtain ⟨⟨ys, q⟩, _⟩ := R.bag.there
        exact ⟨_, q⟩
      · exact ⟨_, e⟩
    -- with other things
    refine ⟨fun σ H' => ∃ (pts : List Thg) (dv : V) (w7 w8 : Option V), σ = [some (.ref g), some (.ref D), some (.ref hA), some (.ref S), some (.ref Th), some (.ref rx), some dv, w7, w8, none, none, none, none, none] ∧ Ok g l H H' ∧ H' S = some (.lst (ts.map tv)) ∧ H' Th = some (.lst (pts.map (·.1))) ∧ ThS K a (FK g Th) H' pts ∧ TR H' ts ∧ Iv a H' a.r (.ref rx) ∧ DueW H H' dv (allDue (.ref rx) true (pts.map (·.2))) ∧ pts.length = ts.length ∧ (firstNone 0 (pts.map (·.2)) = none → pts.map (·.2) = ts.map (fun p => some p.2)), ?_, ?_⟩
    · refine ⟨_, rfl, _, .inl ⟨_, SqL.of eT6, rfl⟩, ?_⟩
      cases c : (!(pts.map (·.1)).isEmpty) with
      | false => exact iteF ⟨pts, dv, _, _, rfl, R6, e6, eT6, th6, t6, iv6, dd6, lp, eqn⟩
      | true =>
        have lpos : 0 < pts.length := by have := ne_isE c; rw [List.length_map] at this; exact this
        refine iteT ⟨_, rfl, g, l, 6, rfl, R6.bag, by decide, by decide, fun d H7 d0 d1 r7 => ⟨rfl, _, rfl, ?_⟩⟩
        have R7 := R6.trans r7
        have e7 := r7.at_ e6 nS
        have eT7 := r7.at_ eT6 nTh
        have th7 := th6.kp (KpF.kp (.inl rfl) r7.kp) (Ki.ok r7)
        have t7 := t6.ki (Ki.ok r7)
        have iv7 := iv6.ki (Ki.ok r7)
        refine ite_eq (fun _ => ?_) (fun _ => ⟨pts, dv, _, _, rfl, R7, e7, eT7, th7, t7, iv7, dd6.ok gN r7, lp, eqn⟩)
        refine ⟨_, rfl, g, l, 2, rfl, R7.bag, by decide, by decide, fun d8 H8 d80 d81 r8 => ?_⟩
        obtain ⟨dn, rfl⟩ : ∃ dn : Nat, d8 = (dn : Int) := ⟨d8.toNat, by omega⟩
        refine ⟨_, _, rfl, rfl, ((1 + dn : Nat) : Int), (by show [V.int ((1 : Int) + (dn : Int))] = _; rw [show (1 : Int) + (dn : Int) = ((1 + dn : Nat) : Int) from by omega]), by omega, by omega, for_range (lo := 0) (n := 1 + dn) (fun i σ H' => ∃ (pts : List Thg) (w7 w8 : Option V), σ = [some (.ref g), some (.ref D), some (.ref hA), some (.ref S), some (.ref Th), some (.ref rx), some dv, w7, w8, none, none, none, none, none] ∧ Ok g l H H' ∧ H' S = some (.lst (ts.map tv)) ∧ H' Th = some (.lst (pts.map (·.1))) ∧ ThS K a (FK g Th) H' pts ∧ TR H' ts ∧ Iv a H' a.r (.ref rx) ∧ pts.length = ts.length ∧ (0 < i → ∃ j : Nat, (pts.map fun p : Thg => p.2)[j]? = some none))
          ⟨pts, _, _, rfl, R7.trans r8, r8.at_ e7 nS, r8.at_ eT7 nTh, th7.kp (KpF.kp (.inl rfl) r8.kp) (Ki.ok r8), t7.ki (Ki.ok r8), iv7.ki (Ki.ok r8), lp, fun z => absurd z (Nat.lt_irrefl 0)⟩ ?_ ?_⟩
        · rintro i σ H9 hi ⟨pts, w7, w8, rfl, r9, e9, eT9, th9, t9, iv9, lp9, _⟩
          have lpt : 0 < pts.length := by omega
          refine ⟨_, rfl, _, rfl, Th, _, rfl, .inl (SqL.of eT9), g, l, _, rfl, r9.bag, by rw [List.length_map]; omega, by rw [List.length_map]; omega, fun d10 H10 d100 d101 r10 => ?_⟩
          obtain ⟨kn, rfl⟩ : ∃ kn : Nat, d10 = (kn : Int) := ⟨d10.toNat, by omega⟩
          rw [List.length_map] at d101
          have lk : kn < ts.length := by omega
          have hk : (ts.map tv)[kn]? = some (tv ts[kn]) := by rw [List.getElem?_map, List.getElem?_eq_getElem lk]; rfl
          have okk := ok1 _ (List.getElem_mem lk)
          have R10 := r9.trans r10
          have e10 := r10.at_ e9 nS
          have eT10 := r10.at_ eT9 nTh
          have hmk := List.getElem_mem lk
          generalize ts[kn] = pk at hk okk hmk
          obtain ⟨u, q⟩ := pk
          refine ⟨_, rfl, _, rfl, g, l, FK g Th, rfl, R10.bag, .inl rfl, hF R10 eT10, fun v H11 ov _ r11 => ?_⟩
          have e11 := r11.at_ e10 nS
          have t11 := (t9.ki (Ki.ok r10)).ki (Ki.ok r11)
          have hu11 := t11 _ hmk
          refine ⟨_, rfl, _, rfl, _, rfl, _, _, _, _, rfl, rfl, SqL.of e11, atI_nat hk, _, rfl, _, rfl, _, _, _, _, rfl, rfl, SqL.of e11, atI_nat hk, _, _, _, _, rfl, rfl, SqT.of hu11, rfl, (by show 4 ≤ sizeLine; decide), fun p hp => of_disp (E := E0) (R10.trans r11) hp (by show 0 < 4; decide) (by show 4 ≤ 1000000; decide) fun x H12 hx kp12 r12 => ?_⟩
          have eT11 := r11.at_ eT10 nTh
          have eT12 := kp12 _ _ nTh eT11
          have ki12 : Ki H11 H12 := fun b o f e => by
            obtain ⟨⟨ys, q⟩, _⟩ := (R10.trans r11).bag.there
            exact kp12 _ _ (fun z => by rw [z, q] at e; cases e; cases f) e
          have kf12 : KpF (FK g Th) H11 H12 := KpF.kp (.inl rfl) kp12
          have kf9 : KpF (FK g Th) H9 H12 := ((KpF.kp (.inl rfl) r10.kp).trans (KpF.kp (.inl rfl) r11.kp)).trans kf12
          have ki9 : Ki H9 H12 := ((Ki.ok r10).trans (Ki.ok r11)).trans ki12
          have hu12 := ki12 _ _ rfl hu11
          have nu : ¬ FK g Th u := fun z => by
            rcases z with z | z
            · obtain ⟨⟨ys, q'⟩, _⟩ := r12.bag.there
              rw [z, q'] at hu12
              cases hu12
            · rw [z, eT12] at hu12
              cases hu12
          have ot : Ot K a (FK g Th) H12 a.P x := by
            simp only [List.mem_cons, List.not_mem_nil, or_false] at hx
            rcases hx with rfl | rfl | rfl | rfl
            · exact .inl ((ov.up).kp kf12)
            · exact .inr ⟨a.r, KN.krP, iv9.ki ki9⟩
            · refine .inl (.inr (.inr ⟨false, u, _, rfl, nu, hu12, (by show 5 ≤ 1000000; decide), fun y hy => ?_⟩))
              refine Ov.sz ?_ 2
              unfold rowV at hy
              simp only [List.mem_cons, List.not_mem_nil, or_false] at hy
              rcases hy with rfl | rfl | rfl | rfl | rfl
              · exact NmOk.sz okk.n
              · exact NmOk.sz okk.s
              · exact oV_sz okk.e
              · exact True.intro
              · exact oV_sz okk.c
            · exact .inl (Ov.sz (x := V.str q.nm) (NmOk.sz okk.n) 3)
          have e12 := kp12 _ _ nS e11
          refine ⟨_, rfl, _, rfl, Th, _, _, kn, rfl, rfl, eT12, ixN_nat (by rw [List.length_map]; omega), ?_⟩
          have kfm : KpF (FK g Th) H12 (upd H12 Th (.lst ((pts.map (·.1)).set kn x))) := KpF.mut' (.inr rfl)
          have kim : Ki H12 (upd H12 Th (.lst ((pts.map (·.1)).set kn x))) := Ki.lst eT12
          refine ⟨pts.set kn (x, none), _, _, rfl, r12.mut hTh0, by rw [upd_ne nST]; exact e12, by rw [upd_same, List.map_set], (ThS.set (th9.kp kf9 ki9) ot).kp kfm kim, (t9.ki ki9).ki kim, (iv9.ki ki9).ki kim, by rw [List.length_set]; exact lp9, fun _ => ⟨kn, ?_⟩⟩
          rw [List.map_set, List.getElem?_set_self (by rw [List.length_map]; omega)]
        rintro σ H9 ⟨pts, w7, w8, rfl, r9, e9, eT9, th9, t9, iv9, lp9, hno⟩
        obtain ⟨j0, hj0⟩ := hno (by omega)
        refine ⟨_, rfl, Th, _, rfl, .inl (SqL.of eT9), _, rfl, by omega, by rw [List.length_map]; omega, fun C hC => ?_⟩
        have nC := (r9.bag.ne hC).1
        refine lc_n (bs := List.range (pts.map (·.1)).length) (v := fun i : Nat => V.int ((0 : Int) + (i : Nat))) walk_rangeL hC (by rw [List.length_range, List.length_map]; omega) (fun _ _ => True.intro) (fun i => match (pts.map (·.2))[i]? with | some none => true | _ => false) (fun i => V.int (i : Nat)) (fun i hi H10 Jy N s10 j1 j2 => ?_) fun H10 s10 e10 => ?_
        · have hi' : i < (pts.map (·.1)).length := List.mem_range.mp hi
          rw [List.length_map] at hi'
          have h1 : (pts.map (·.1))[i]? = some pts[i].1 := by rw [List.getElem?_map, List.getElem?_eq_getElem hi']; rfl
          have h2 : (pts.map (·.2))[i]? = some pts[i].2 := by rw [List.getElem?_map, List.getElem?_eq_getElem hi']; rfl
          have th10 := (th9 _ (List.getElem_mem hi')).kp (KpF.same s10) (Ki.same s10)
          rw [h2] at j1 j2
          generalize pts[i] = pp at h1 th10 j1 j2
          obtain ⟨y, o⟩ := pp
          have ez : (0 : Int) + (i : Nat) = (i : Int) := by omega
          show gName 8 (V.int ((0 : Int) + (i : Nat))) _ _ _
          rw [ez]
          cases o with
          | none =>
            obtain ⟨t, tx, kt⟩ := Ot.is KN KN.tbP (show Ot K a (FK g Th) H10 a.P y from th10)
            exact ⟨rfl, _, rfl, _, rfl, _, _, _, _, rfl, rfl, SqL.of (s10 _ _ eT9), atI_nat h1, _, _, _, _, _, rfl, .own _, tx, kt, _, rfl, ⟨_, rfl, j1 rfl H10 (Same.refl _)⟩⟩
          | some r' =>
            obtain ⟨p, dp, rfl, hp⟩ := th10
            exact ⟨rfl, _, rfl, _, rfl, _, _, _, _, rfl, rfl, SqL.of (s10 _ _ eT9), atI_nat h1, _, _, _, _, _, rfl, .own _, ((Iv.p (a := a) hp).ty KN).2, KN.kPP, _, rfl, j2 rfl H10 (Same.refl _)⟩
        have e10' : H10 C = some (.lst ((((List.range (pts.map (·.1)).length).filter fun i => match (pts.map (·.2))[i]? with | some none => true | _ => false).map fun i : Nat => (i : Int)).map V.int)) := by rw [e10, List.map_map]; rfl
        have mem : ∀ i : Nat, i ∈ ((List.range (pts.map (·.1)).length).filter fun i => match (pts.map (·.2))[i]? with | some none => true | _ => false) ↔ (pts.map (·.2))[i]? = some none := fun i => by
          rw [List.mem_filter, List.mem_range, List.length_map]
          constructor
          · rintro ⟨_, q⟩
            cases w : (pts.map (·.2))[i]? with
            | none => rw [w] at q; cases q
            | some o => cases o with
              | none => rfl
              | some r => rw [w] at q; cases q
          · intro q
            have li := (List.getElem?_eq_some_iff.mp q).1
            rw [List.length_map] at li
            exact ⟨li, by rw [q]⟩
        generalize ((List.range (pts.map (·.1)).length).filter fun i => match (pts.map (·.2))[i]? with | some none => true | _ => false) = ks at e10' mem
        refine ⟨C, ks.map fun i : Nat => (i : Int), rfl, SqL.of e10', by rw [List.length_map]; exact List.length_pos_of_mem ((mem j0).mpr hj0), fun m hm hle => ⟨(by show 2 ≤ sizeLine; decide), fun L hL => ?_⟩⟩
        obtain ⟨mi, hmi, rfl⟩ := List.mem_map.mp hm
        have sL := same_new (o := .lst [.str "InvalidPlace", .int (mi : Nat)]) hL
        have R10 := r9.same s10
        have s910 := s10.trans sL
        have ef : firstNone 0 (pts.map (·.2)) = some mi := fn_least _ 0 mi ⟨mi, (mem mi).mp hmi, by omega⟩ fun j hj => by
          have := hle (j : Int) (List.mem_map.mpr ⟨j, (mem j).mpr hj, rfl⟩)
          omega
        refine ⟨pts, .ref L, _, _, rfl, R10.same sL, s910 _ _ e9, s910 _ _ eT9, th9.kp (KpF.same s910) (Ki.same s910), t9.ki (Ki.same s910), iv9.ki (Ki.same s910), ?_, lp9, fun z => by rw [ef] at z; cases z⟩
        have ea : allDue (.ref rx) true (pts.map (·.2)) = some (("InvalidPlace" : Str), [V.int (mi : Nat)]) := by unfold allDue; rw [if_neg (by decide), ef]
        rw [ea]
        exact ⟨L, rfl, R10.free hL, upd_same⟩
    rintro σ H7 ⟨pts, dv, w7, w8, rfl, R7, e7, eT7, th7, t7, iv7, dd7, lp7, eqn7⟩
    clear dd6 eqn th6 eT6 eT th
    -- another rule
    refine ⟨fun σ H' => ∃ (rv : V) (rok : Bool) (dv : V) (w7 w8 : Option V), σ = [some (.ref g), some (.ref D), some (.ref hA), some (.ref S), some (.ref Th), some rv, some dv, w7, w8, none, none, none, none, none] ∧ Ok g l H H' ∧ H' S = some (.lst (ts.map tv)) ∧ H' Th = some (.lst (pts.map (·.1))) ∧ ThS K a (FK g Th) H' pts ∧ TR H' ts ∧ RlV K a (FK g Th) H' rv rok ∧ DueW H H' dv (allDue rv rok (pts.map (·.2))), ?_, ?_⟩
    · refine ⟨_, rfl, g, l, 8, rfl, R7.bag, by decide, by decide, fun d H8 d0 d1 r8 => ⟨rfl, _, rfl, ?_⟩⟩
      have R8 := R7.trans r8
      have e8 := r8.at_ e7 nS
      have eT8 := r8.at_ eT7 nTh
      have th8 := th7.kp (KpF.kp (.inl rfl) r8.kp) (Ki.ok r8)
      have t8 := t7.ki (Ki.ok r8)
      refine ite_eq (fun _ => ?_) (fun _ => ⟨.ref rx, true, dv, _, _, rfl, R8, e8, eT8, th8, t8, iv7.ki (Ki.ok r8), dd7.ok gN r8⟩)
      refine ⟨_, rfl, _, rfl, g, l, FK g Th, rfl, R8.bag, .inl rfl, hF R8 eT8, fun v H9 ov _ r9 => fun wy wdy hwy hwdy _ => ⟨wy, wdy, 3, H9, rfl, upd_same, hwy, same_two hwy hwdy, by decide, by decide, fun H10 s10 hw3 => ⟨rfl, ?_⟩⟩⟩
      have R10 := (R8.trans r9).same s10
      have e10 := s10 _ _ (r9.at_ e8 nS)
      have eT10 := s10 _ _ (r9.at_ eT8 nTh)
      have th10 := (th8.kp (KpF.kp (.inl rfl) r9.kp) (Ki.ok r9)).kp (KpF.same s10) (Ki.same s10)
      have t10 := (t8.ki (Ki.ok r9)).ki (Ki.same s10)
      have ov10 := (ov.up).kp (KpF.same s10)
      have fin5 : ∀ (x z : V) (H11 : Hp), x ∈ [v, V.ref wy, V.str "r 3 window 4", z] → Ot K a (FK g Th) H10 a.r z → Kp g H10 H11 → Ok g l H H11 → ∀ L, H11 L = none → ∃ (rv : V) (rok : Bool) (dv : V) (w7' w8' : Option V), [some (V.ref g), some (V.ref D), some (V.ref hA), some (V.ref S), some (V.ref Th), some x, some (V.ref L), w7, w8, none, none, none, none, none] = [some (V.ref g), some (V.ref D), some (V.ref hA), some (V.ref S), some (V.ref Th), some rv, some dv, w7', w8', none, none, none, none, none] ∧ Ok g l H (upd H11 L (.lst [.str "InvalidRule", x])) ∧ (upd H11 L (.lst [.str "InvalidRule", x])) S = some (.lst (ts.map tv)) ∧ (upd H11 L (.lst [.str "InvalidRule", x])) Th = some (.lst (pts.map (·.1))) ∧ ThS K a (FK g Th) (upd H11 L (.lst [.str "InvalidRule", x])) pts ∧ TR (upd H11 L (.lst [.str "InvalidRule", x])) ts ∧ RlV K a (FK g Th) (upd H11 L (.lst [.str "InvalidRule", x])) rv rok ∧ DueW H (upd H11 L (.lst [.str "InvalidRule", x])) dv (allDue rv rok (pts.map (·.2))) := fun x z H11 hx hz kp r L hL => by
        have sL := same_new (o := .lst [.str "InvalidRule", x]) hL
        have ki : Ki H10 (upd H11 L (.lst [.str "InvalidRule", x])) := Ki.trans (fun b o f e => by
          obtain ⟨⟨ys, q⟩, _⟩ := R10.bag.there
          exact kp _ _ (fun z => by rw [z, q] at e; cases e; cases f) e) (Ki.same sL)
        have kf : KpF (FK g Th) H10 (upd H11 L (.lst [.str "InvalidRule", x])) := (KpF.kp (.inl rfl) kp).trans (KpF.same sL)
        have ot : Ot K a (FK g Th) (upd H11 L (.lst [.str "InvalidRule", x])) a.r x := by
          simp only [List.mem_cons, List.not_mem_nil, or_false] at hx
          rcases hx with rfl | rfl | rfl | rfl
          · exact .inl (ov10.kp kf)
          · exact .inr ⟨a.W, KN.kWr, (Iv.w (a := a) hw3).ki ki⟩
          · exact .inl (Ov.sz (x := V.str "r 3 window 4") (by show Str.length _ ≤ 1000000; decide +kernel) 3)
          · exact Ot.kp kf ki hz
        refine ⟨x, false, .ref L, _, _, rfl, r.same sL, sL _ _ (kp _ _ nS e10), sL _ _ (kp _ _ nTh eT10), th10.kp kf ki, t10.ki ki, ot, ?_⟩
        have ea : allDue x false (pts.map (·.2)) = some (("InvalidRule" : Str), [x]) := by unfold allDue; rw [if_pos rfl]
        rw [ea]
        exact ⟨L, rfl, r.free hL, upd_same⟩
      refine ⟨_, rfl, _, .inl ⟨_, SqL.of eT10, rfl⟩, ?_⟩
      cases c : (!(pts.map (·.1)).isEmpty) with
      | false => exact iteF ⟨(by show 4 ≤ sizeLine; decide), fun p hp => of_disp (E := E0) R10 hp (by show 0 < 4; decide) (by show 4 ≤ 1000000; decide) fun x H11 hx kp11 r11 => ⟨_, rfl, (by show 2 ≤ sizeLine; decide), fun L hL => fin5 x _ H11 hx (.inl (Ov.sz (x := V.non) (by exact True.intro) 3)) kp11 r11 L hL⟩⟩
      | true =>
        obtain ⟨p0, pts', rfl⟩ : ∃ p0 pts', pts = p0 :: pts' := by
          cases pts with
          | nil => cases c
          | cons p q => exact ⟨p, q, rfl⟩
        obtain ⟨t, bb, tx, kt, hot⟩ := ThV.rule KN (th10 p0 (List.mem_cons_self ..))
        refine iteT ⟨_, rfl, _, _, _, _, rfl, rfl, SqL.of eT10, atI_nat (j := 0) rfl, _, _, _, _, _, rfl, .own _, tx, kt, _, rfl, ?_⟩
        cases bb with
        | true => exact ⟨(by show 4 ≤ sizeLine; decide), fun p hp => of_disp (E := E0) R10 hp (by show 0 < 4; decide) (by show 4 ≤ 1000000; decide) fun x H11 hx kp11 r11 => ⟨_, rfl, (by show 2 ≤ sizeLine; decide), fun L hL => fin5 x _ H11 hx (.inl (Ov.sz (x := V.non) (by exact True.intro) 3)) kp11 r11 L hL⟩⟩
        | false => exact ⟨_, rfl, _, _, _, _, rfl, rfl, SqL.of eT10, atI_nat (j := 0) rfl, (by show 4 ≤ sizeLine; decide), fun p hp => of_disp (E := E0) R10 hp (by show 0 < 4; decide) (by show 4 ≤ 1000000; decide) fun x H11 hx kp11 r11 => ⟨_, rfl, (by show 2 ≤ sizeLine; decide), fun L hL => fin5 x _ H11 hx (hot rfl) kp11 r11 L hL⟩⟩
    rintro σ H8 ⟨rv, rok, dv', w7', w8', rfl, R8, e8, eT8, th8, t8, hv8, dd8⟩
    have tb8 := tabs_ok R8 tb0
    have kiG : ∀ {H1 H2 : Hp}, Ok g l H H1 → KpF (· = g) H1 H2 → Ki H1 H2 := fun R k => k.ki fun b e => by
      obtain ⟨⟨ys, q⟩, _⟩ := R.bag.there
      exact ⟨ys, by rw [e]; exact q⟩
    have l8 : (pts.map (·.1)).length = ts.length := by rw [List.length_map]; exact lp7
    refine lam_std (F := (· = g)) tb8 R8.bag (allDue rv rok (pts.map (·.2))) (fun H' u => ∃ x, u = V.ref x ∧ TreeAt a H' x ((pts.map fun p : Thg => p.2).filterMap id)) (fun H1 H2 u s ⟨x, e, t⟩ => ⟨x, e, TreeAt.same s t⟩) ?_ ?_
    · intro H9 E' Qv k9 B9 t9 hout hmade
      have ki9 := kiG R8 k9
      exact ⟨_, rfl, _, rfl, Th, FK g Th, rv, rok, (pts.map fun p : Thg => p.1), (pts.map fun p : Thg => p.2), rfl, k9 _ _ nTh lstN eT8, by rw [l8]; exact l1, RlV.kp (KpF.fk k9) ki9 hv8, (th8.kp (KpF.fk k9) ki9).pair, fun er H' e s => hout er H' e (k9.trans (KpF.same s)) (bag_same s B9) (t9.ext s), fun x H' e s ta => hmade _ H' e (k9.trans (KpF.same s)) (bag_same s B9) (t9.ext s) ⟨x, rfl, ta⟩⟩
    rintro T H9 told fault k9 B9 t9 eTT cs
    have ki9 := kiG R8 k9
    have kH : KpF (· = g) H H9 := KpF.trans (KpF.kp (F := (· = g)) rfl R8.kp) k9
    have hD9 := kH _ _ nD lstN hD
    have e9 := k9 _ _ nS lstN e8
    have tr9 : TR H9 tr := ht.ki ((Ki.ok R8).trans ki9)
    have ts9 : TR H9 ts := t8.ki ki9
    have fin : ∀ H', KpF (· = g) H9 H' → Bag l H' g → LamX.Tabs Tb H' → Q (.bl true) H' := fun H' k' B' t' => k H' (kH.trans k') B' t'
    refine ⟨T, _, rfl, SqT.of eTT, rfl, _, _, rfl, _, _, rfl, rfl, ?_⟩
    rcases cs with ⟨nm, ws, Df, du, rfl, rfl, eDf⟩ | ⟨du, rfl, x, rfl, ta⟩
    · rw [du] at dd8
      obtain ⟨Dd, rfl, nDd, eDd⟩ := dd8
      have nDg : Dd ≠ g := fun z => gN (z ▸ nDd)
      have eDd9 := k9 _ _ nDg lstN eDd
      obtain ⟨w2, wl⟩ := due_lq KN (RlV.kp (KpF.fk k9) ki9 hv8) du
      have lql : Lq a H9 4 (.ref Df) (.ref Dd) := Lq.gen eDf eDd9 (by rw [List.length_cons]; omega) fun w hw => by
        rcases List.mem_cons.mp hw with rfl | hw
        · exact Lq.sc (by exact True.intro) 3
        · exact wl w hw
      refine ⟨_, rfl, rfl, _, rfl, ite_nd (fun _ => ?_) (fun e => by cases e)⟩
      refine ⟨_, rfl, rfl, _, rfl, ite_nd (fun ne => absurd rfl ne) (fun _ => ?_)⟩
      refine ⟨_, rfl, _, rfl, V.ref Df, V.ref Dd, 4, rfl, by decide, lql, fun H10 s10 => ⟨_, rfl, iteF ?_⟩⟩
      refine fun wy wdy hwy hwdy _ => ⟨wy, wdy, 4, H10, rfl, upd_same, hwy, same_two hwy hwdy, by decide, by decide, fun H11 s11 hw => ⟨rfl, fun ry rdy hry hrdy _ => ⟨ry, rdy, wy, wdy, "r", 3, 4, H11, rfl, (by show isNam _ = true; decide +kernel), by decide, by decide, upd_same, hry, same_two hry hrdy, hw, fun H12 s12 iv => ⟨rfl, ?_⟩⟩⟩⟩
      have s912 := s10.trans (s11.trans s12)
      have B12 := bag_same s912 B9
      refine ⟨_, rfl, D, rfl, ⟨_, SqL.of (s912 _ _ hD9)⟩, fun Th2 hTh2 => ?_⟩
      have nTh2 := (B12.ne hTh2).1
      refine mk_places (Ok.refl B12) hTh2 (s912 _ _ hD9) nD (tr9.ki (Ki.same s912)) okr (by omega) (fun t r H' Jy B ht ok jy => ⟨rfl, _, rfl, _, rfl, g, l, t, (· = g), .str r.nm, .str r.sv, oV r.el, oV r.cu, r.mem, rfl, B, ht, rfl, Gv.sz (NmOk.sz ok.n), Gv.sz (NmOk.sz ok.s), Gv.sz (oV_sz ok.e), Gv.sz (oV_sz ok.c), fun u H2 e => (by rw [plDue_ok ok] at e; cases e), fun r' x H2 _ q0 q1 q2 q3 q4 _ R pv => jy x H2 R (by rw [rowV_inj (row_of q0 q1 q2 q3 q4)]; exact pv)⟩) (fun pts2 H13 r13 eT13 eq13 th13 eD13 tr13 => ?_)
      have lp2 : (pts2.map (·.1)).length = tr.length := by
        have := congrArg List.length eq13
        rw [List.length_map, List.length_map] at this
        rw [List.length_map]
        exact this
      have e2' : pts2.map (·.2) = (tr.map (·.2)).map some := by rw [eq13, List.map_map]; rfl
      have dg : allDue (.ref ry) true (pts2.map (·.2)) = none := by
        rw [e2']
        exact due_good gr (by rw [List.length_map]; exact h0) (by rw [List.length_map]; omega)
      refine ⟨Th2, FK g Th2, .ref ry, true, (pts2.map fun p : Thg => p.1), (pts2.map fun p : Thg => p.2), rfl, eT13, (by rw [lp2]; omega), iv.ki (Ki.ok r13), th13.pair, fun er H' e => (by rw [dg] at e; cases e), fun x H14 _ s14 ta => ?_⟩
      rw [e2', fm_some] at ta
      have ta' := ta
      obtain ⟨dx, fs, dk, kvs, hx, lk1, lk2, hdk, hkv⟩ := ta'
      refine ⟨_, rfl, x, a.T, dx, fs, rfl, hx, KN.tcl, KN.mTp, lk2, x, _, rfl, ta, fun p ps H15 hp15 s15 ep pp => ⟨p, rfl, ⟨_, SqL.of ep⟩, fun D2 hD2 => ?_⟩⟩
      refine mk_rows hD2 ep pp (by rw [List.length_map]; omega) (fun x dx r H' Jy hx jy => ⟨rfl, _, rfl, x, dx, r, rfl, hx, fun t H2 ht s e => jy t H2 ht s e⟩) (fun tr' H16 s16 e16 t16 eq16 => ?_)
      have sAll := s14.trans (s15.trans s16)
      refine ⟨_, rfl, V.ref D2, V.ref D, 2, rfl, by decide, Lq.rows e16 (sAll _ _ eD13) t16 (tr13.ki (Ki.same sAll)) eq16 (by have := congrArg List.length eq16; rw [List.length_map, List.length_map] at this; omega), fun H17 s17 => ?_⟩
      have r17 := r13.same (sAll.trans s17)
      exact fin H17 ((KpF.same s912).trans (KpF.kp rfl r17.kp)) r17.bag (tabs_ok r17 (t9.ext s912))
    · rw [du] at dd8
      have edv : dv' = .non := dd8
      subst edv
      obtain ⟨hrok, hfn⟩ := due_none du
      have e2' : (pts.map (·.2)).filterMap id = ts.map (·.2) := by
        have e' : pts.map (·.2) = (ts.map (·.2)).map some := by rw [eqn7 hfn, List.map_map]; rfl
        rw [e', fm_some]
      rw [e2'] at ta
      have ta' := ta
      obtain ⟨dx, fs, dk, kvs, hx, lk1, lk2, hdk, hkv⟩ := ta'
      refine ⟨_, rfl, rfl, _, rfl, ite_nd (fun ne => absurd rfl ne) (fun _ => ?_)⟩
      refine ⟨_, rfl, rfl, _, rfl, iteT ?_⟩
      refine ⟨_, rfl, x, a.T, dx, fs, rfl, hx, KN.tcl, KN.mTp, lk2, x, _, rfl, ta, fun p ps H15 hp15 s15 ep pp => ⟨p, rfl, ⟨_, SqL.of ep⟩, fun D2 hD2 => ?_⟩⟩
      refine mk_rows hD2 ep pp (by rw [List.length_map]; omega) (fun x dx r H' Jy hx jy => ⟨rfl, _, rfl, x, dx, r, rfl, hx, fun t H2 ht s e => jy t H2 ht s e⟩) (fun tr' H16 s16 e16 t16 eq16 => ?_)
      have sA := s15.trans s16
      refine ⟨_, rfl, V.ref D2, V.ref S, 2, rfl, by decide, Lq.rows e16 (sA _ _ e9) t16 (ts9.ki (Ki.same sA)) eq16 (by have := congrArg List.length eq16; rw [List.length_map, List.length_map] at this; omega), fun H17 s17 => ⟨_, rfl, iteT ?_⟩⟩
      have sB := sA.trans s17
      have ta17 := ta.same sB
      refine ⟨_, rfl, x, a.T, dx, a.fTl, fs, _, rfl, sB _ _ hx, ⟨KN.lT, KN.fT, OLn⟩, x, _, rfl, ta17, _, rfl, by omega, by rw [List.length_map]; omega, ?_⟩
      refine ⟨_, rfl, S, _, rfl, .inl (SqL.of (sB _ _ e9)), V.int _, V.int _, 0, rfl, by decide, ?_, fun H18 s18 => fin H18 (KpF.same (sB.trans s18)) (bag_same (sB.trans s18) B9) (t9.ext (sB.trans s18))⟩
      rw [List.length_map, List.length_map]
      exact Lq.sc (by exact True.intro) 0
end k12
namespace k12
open PySem L2 LC RM
def splaw (K : PySem.W.Frag) (Tb : List (Addr × Str)) : Sp := fun vs H Q _ => ∃ (a : Addr) (ns : List Int), vs = [.ref a] ∧ SqL K H a (ns.map V.int) ∧ ns.length ≤ 63 ∧ LamX.Tabs Tb H ∧ ∀ H', Q (.bl true) H'
theorem ok_law {P : Program} {w : World} {K : PySem.W.Frag} {mg : Str → Option Value} {base : Heap} {f : Addr} {fd : FuncData} (D : Def K mg "law" slaw Plaw f fd) (T : Txt K mg) {a : Ad} {Tb : List (Addr × Str)} {fbag : Addr} {fdbag : FuncData} (Dbag : Def K mg "_law_bag" sbag Pbag fbag fdbag) (Gbag : FnOk P w K mg base CX0 1 fbag fdbag Pbag (spbag K)) {fof : Addr} {fdof : FuncData} (Dof : Def K mg "_law_of" sof Pof fof fdof) (Gof : FnOk P w K mg base CX0 2 fof fdof Pof (spof K)) {fnames : Addr} {fdnames : FuncData} (Dnames : Def K mg "_law_names" snames Pnames fnames fdnames) (Gnames : FnOk P w K mg base CX0 4 fnames fdnames Pnames (spnames)) {fplaces : Addr} {fdplaces : FuncData} (Dplaces : Def K mg "_law_places" splaces Pplaces fplaces fdplaces) (Gplaces : FnOk P w K mg base CX0 4 fplaces fdplaces Pplaces (spplaces K)) {fplace_so : Addr} {fdplace_so : FuncData} (Dplace_so : Def K mg "_law_place_so" splace_so Pplace_so fplace_so fdplace_so) (Gplace_so : FnOk P w K mg base CX0 9 fplace_so fdplace_so Pplace_so (spplace_so a Tb)) {fso : Addr} {fdso : FuncData} (Dso : Def K mg "_law_so" sso Pso fso fdso) (Gso : FnOk P w K mg base CX0 11 fso fdso Pso (spso K a Tb)) :
    FnOk P w K mg base CX0 12 f fd Plaw (splaw K Tb) := by
  refine D.F.ok sclaw (fun vs H Q E h => ?_) (fun cdv A outer s H vs Q E hr h => ?_)
  · obtain ⟨ax, ns, rfl, hS, hl, tb0, k⟩ := h
    rfl
  · obtain ⟨ax, ns, rfl, hS, hl, tb0, k⟩ := h
    have hrbag : Room 1 _ := hr.mono (by decide)
    have hrof : Room 2 _ := hr.mono (by decide)
    have hrnames : Room 4 _ := hr.mono (by decide)
    have hrplaces : Room 4 _ := hr.mono (by decide)
    have hrplace_so : Room 9 _ := hr.mono (by decide)
    have hrso : Room 11 _ := hr.mono (by decide)
    refine ⟨_, (pss_cons (ps_set (i := 1) sclaw.nd rfl (Or.inl rfl) (pe_call Gbag hrbag rfl Dbag.g Dbag.F.kp Dbag.b .nil pass0 (pa_cons (pv 0) pa_nil)))
        (pss_cons (ps_for PassesOwn.never rfl (pi_range1 rfl T.n_range (pa_cons pe_int pa_nil)) (pg_name (i := 2) sclaw.nd rfl (Or.inl rfl))
          (pss_cons (ps_set (i := 3) sclaw.nd rfl (Or.inl rfl) (pe_call Gnames hrnames rfl Dnames.g Dnames.F.kp Dnames.b .nil pass0 (pa_cons (pv 1) (pa_cons (pe_call Gof hrof rfl Dof.g Dof.F.kp Dof.b .nil pass0 (pa_cons (pv 1) (pa_cons (pe_lst (pa_cons pe_int (pa_cons pe_int (pa_cons pe_int (pa_cons pe_int pa_nil))))) pa_nil))) pa_nil))))
        (pss_cons (ps_set (i := 4) sclaw.nd rfl (Or.inl rfl) (pe_call Gof hrof rfl Dof.g Dof.F.kp Dof.b .nil pass0 (pa_cons (pv 1) (pa_cons (pe_lst (pa_cons pe_int (pa_cons pe_int (pa_cons pe_int (pa_cons pe_int (pa_cons pe_int (pa_cons pe_int (pa_cons pe_int (pa_cons pe_int (pa_cons pe_int (pa_cons pe_int (pa_cons pe_int (pa_cons pe_int pa_nil))))))))))))) pa_nil))))
        (pss_cons (ps_set (i := 5) sclaw.nd rfl (Or.inl rfl) (pe_call Gplaces hrplaces rfl Dplaces.g Dplaces.F.kp Dplaces.b .nil pass0 (pa_cons (pv 1) (pa_cons (pv 4) (pa_cons (pv 3) (pa_cons (pe_call Gof hrof rfl Dof.g Dof.F.kp Dof.b .nil pass0 (pa_cons (pv 1) (pa_cons (pe_lst (pa_cons (pe_lst pa_nil) (pa_cons (pe_lst (pa_cons pe_str pa_nil)) pa_nil))) pa_nil))) pa_nil))))))
        (pss_one (ps_if (PW.pt (pw_or (pt_not (pt_val (pe_call Gso hrso rfl Dso.g Dso.F.kp Dso.b .nil pass0 (pa_cons (pv 1) (pa_cons (pv 5) (pa_cons (pv 3) pa_nil)))))) (pw_or (pt_not (pt_val (pe_call Gso hrso rfl Dso.g Dso.F.kp Dso.b .nil pass0 (pa_cons (pv 1) (pa_cons (pv 5) (pa_cons (pv 3) pa_nil)))))) (pw_or1 (pt_not (pt_val (pe_call Gplace_so hrplace_so rfl Dplace_so.g Dplace_so.F.kp Dplace_so.b .nil pass0 (pa_cons (pv 1) pa_nil)))))))) (pss_one (ps_ret pe_bl)) pss_nil))))))
        (pss_one (ps_ret pe_bl)))), ?_⟩
    refine ⟨_, rfl, ax, ns, rfl, hS, hl, fun g H1 hg s1 ⟨l, B1⟩ => ?_⟩
    have tb1 := tb0.ext s1
    refine ⟨_, rfl, by decide, by decide, for_range (lo := 0) (n := 4) (fun i σ H' => ∃ (v2 v3 v4 v5 : Option V), σ = [some (.ref ax), some (.ref g), v2, v3, v4, v5] ∧ Bag l H' g ∧ LamX.Tabs Tb H') ⟨_, _, _, _, rfl, B1, tb1⟩ ?_ ?_⟩
    rotate_left
    · rintro σ H2 ⟨v2, v3, v4, v5, rfl, B2, tb2⟩
      exact k _
    rintro i σ H2 hi ⟨v2, v3, v4, v5, rfl, B2, tb2⟩
    refine ⟨_, rfl, _, rfl, (by show 4 ≤ sizeLine; decide), fun p hp => of_disp (E := E0) (Ok.refl B2) hp (by show 0 < 4; decide) (by show 4 ≤ 1000000; decide) fun x H3 hx _ r3 => ?_⟩
    obtain ⟨n, rfl, n1, n6⟩ : ∃ n : Nat, x = .int n ∧ 1 ≤ n ∧ n ≤ 6 := by
      simp only [List.mem_cons, List.not_mem_nil, or_false] at hx
      rcases hx with rfl | rfl | rfl | rfl
      · exact ⟨1, rfl, by decide, by decide⟩
      · exact ⟨2, rfl, by decide, by decide⟩
      · exact ⟨3, rfl, by decide, by decide⟩
      · exact ⟨6, rfl, by decide, by decide⟩
    refine ⟨g, l, n, rfl, r3.bag, n6, fun N hs H4 hN r4 eN len okn => ?_⟩
    have nN := (r3.bag.ne hN).1
    have R4 := r3.trans r4
    refine ⟨_, rfl, (by show 12 ≤ sizeLine; decide), fun p hp => of_disp (E := E0) R4 hp (by show 0 < 12; decide) (by show 12 ≤ 1000000; decide) fun xm H5 hxm kp5 R5 => ?_⟩
    have eN5 := kp5 _ _ nN eN
    obtain ⟨m, rfl, m1⟩ : ∃ m : Nat, xm = .int m ∧ 0 < m ∧ (m ≤ 8 ∨ m = 24) := by
      simp only [List.mem_cons, List.not_mem_nil, or_false] at hxm
      rcases hxm with rfl | rfl | rfl | rfl | rfl | rfl | rfl | rfl | rfl | rfl | rfl | rfl
      · exact ⟨1, rfl, by decide⟩
      · exact ⟨2, rfl, by decide⟩
      · exact ⟨3, rfl, by decide⟩
      · exact ⟨4, rfl, by decide⟩
      · exact ⟨5, rfl, by decide⟩
      · exact ⟨6, rfl, by decide⟩
      · exact ⟨8, rfl, by decide⟩
      · exact ⟨5, rfl, by decide⟩
      · exact ⟨7, rfl, by decide⟩
      · exact ⟨6, rfl, by decide⟩
      · exact ⟨4, rfl, by decide⟩
      · exact ⟨24, rfl, by decide⟩
    refine ⟨_, rfl, _, rfl, _, rfl, _, rfl, (by show 0 ≤ sizeLine; decide), fun L1 hL1 => ⟨(by show 1 ≤ sizeLine; decide), fun L2 hL2 => ⟨(by show 2 ≤ sizeLine; decide), fun p hp => ?_⟩⟩⟩
    have sL1 := same_new (o := .lst []) hL1
    have sL2 := same_new (o := .lst [.str "ann"]) hL2
    have R7 := (R5.same sL1).same sL2
    have eL1 := sL2 _ _ (upd_same (H := H5) (a := L1) (o := .lst []))
    have eL2 := upd_same (H := upd H5 L1 (.lst [])) (a := L2) (o := .lst [.str "ann"])
    have nL1 := (R5.bag.ne hL1).1
    have nL2 := ((R5.same sL1).bag.ne hL2).1
    have eN7 := sL2 _ _ (sL1 _ _ eN5)
    generalize upd (upd H5 L1 (.lst [])) L2 (.lst [.str "ann"]) = H7 at hp R7 eL1 eL2 eN7 ⊢
    refine of_disp (E := E0) R7 hp (by show 0 < 2; decide) (by show 2 ≤ 1000000; decide) fun xo H8 hxo kp8 R8 => ?_
    obtain ⟨oA, os, rfl, nO, eO, lo, oko⟩ : ∃ (oA : Addr) (os : List Str), xo = .ref oA ∧ oA ≠ g ∧ H8 oA = some (.lst (os.map V.str)) ∧ os.length ≤ 1 ∧ ∀ z ∈ os, NmOk z := by
      simp only [List.mem_cons, List.not_mem_nil, or_false] at hxo
      rcases hxo with rfl | rfl
      · exact ⟨L1, [], rfl, nL1, kp8 _ _ nL1 eL1, by decide, fun z h => by cases h⟩
      · exact ⟨L2, ["ann"], rfl, nL2, kp8 _ _ nL2 eL2, by decide, fun z h => by rw [List.mem_singleton.mp h]; show isNam _ = true; decide +kernel⟩
    have eN8 := kp8 _ _ nN eN7
    refine ⟨g, l, N, oA, m, hs, os, rfl, R8.bag, eN8, eO, nN, nO, by omega, by omega, lo, okn, oko, by omega, fun D tr H9 hD r9 e9 t9 len9 gr => ?_⟩
    have nD := (R8.bag.ne hD).1
    have R9 := R8.trans r9
    have eN9 := r9.at_ eN8 nN
    have tb9 := tabs_ok R9 tb2
    have kiG : ∀ {H1 H2 : Hp}, Bag l H1 g → KpF (· = g) H1 H2 → Ki H1 H2 := fun R k => k.ki fun b e => by
      obtain ⟨⟨ys, q⟩, _⟩ := R.there
      exact ⟨ys, by rw [e]; exact q⟩
    refine ⟨_, rfl, _, rfl, _, rfl, g, l, D, N, tr, hs, rfl, R9.bag, tb9, e9, nD, t9, gr, by omega, by omega, eN9, nN, by omega, okn, fun H10 k10 B10 tb10 => ⟨_, rfl, iteF ?_⟩⟩
    refine ⟨_, rfl, _, rfl, _, rfl, g, l, D, N, tr, hs, rfl, B10, tb10, k10 _ _ nD lstN e9, nD, t9.ki (kiG R9.bag k10), gr, by omega, by omega, k10 _ _ nN lstN eN9, nN, by omega, okn, fun H11 k11 B11 tb11 => ⟨_, rfl, iteF ?_⟩⟩
    exact ⟨_, rfl, g, l, rfl, B11, tb11, fun H12 k12 B12 tb12 => ⟨_, rfl, iteF ⟨_, _, _, _, rfl, B12, tb12⟩⟩⟩
end k12
namespace k12
open PySem L2 LC RM

theorem all_mk {l : PySem.W.OpenLaw} {w : World} {K : PySem.W.Frag} {h : Heap} {mg : Str → Option Value} {fa : Addr} (X : K.In h) (G : h.Ns mainGlobals mg) (hfa : mg "law" = some (.ref fa))
    {fcheck_count : Addr} {odcheck_count ancheck_count : Option Addr} {slcheck_count : Array (Option Value)} {occheck_count kVcheck_count dccheck_count pmcheck_count cdcheck_count ctcheck_count : Value}
    (acheck_count : PySem.W.nsIn K mainGlobals "check_count" = some (some (.ref fcheck_count)))
    (lcheck_count : K.lookup fcheck_count = some ⟨occheck_count, odcheck_count, .func (PySem.W.fnOf "check_count" "check_count" (defArgs scheck_count) (defBody scheck_count) (defScope scheck_count) .none kVcheck_count dccheck_count pmcheck_count ancheck_count cdcheck_count ctcheck_count), slcheck_count⟩)
    (ccheck_count : PySem.W.codeIn K cdcheck_count "check_count" = true)
    (kcheck_count : PySem.W.keepIn K (.ref fcheck_count) = true)
    {fis_whole : Addr} {odis_whole anis_whole : Option Addr} {slis_whole : Array (Option Value)} {ocis_whole kVis_whole dcis_whole pmis_whole cdis_whole ctis_whole : Value}
    (ais_whole : PySem.W.nsIn K mainGlobals "is_whole" = some (some (.ref fis_whole)))
    (lis_whole : K.lookup fis_whole = some ⟨ocis_whole, odis_whole, .func (PySem.W.fnOf "is_whole" "is_whole" (defArgs sis_whole) (defBody sis_whole) (defScope sis_whole) .none kVis_whole dcis_whole pmis_whole anis_whole cdis_whole ctis_whole), slis_whole⟩)
    (cis_whole : PySem.W.codeIn K cdis_whole "is_whole" = true)
    (kis_whole : PySem.W.keepIn K (.ref fis_whole) = true)
    {fis_number : Addr} {odis_number anis_number : Option Addr} {slis_number : Array (Option Value)} {ocis_number kVis_number dcis_number pmis_number cdis_number ctis_number : Value}
    (ais_number : PySem.W.nsIn K mainGlobals "is_number" = some (some (.ref fis_number)))
    (lis_number : K.lookup fis_number = some ⟨ocis_number, odis_number, .func (PySem.W.fnOf "is_number" "is_number" (defArgs sis_number) (defBody sis_number) (defScope sis_number) .none kVis_number dcis_number pmis_number anis_number cdis_number ctis_number), slis_number⟩)
    (cis_number : PySem.W.codeIn K cdis_number "is_number" = true)
    (kis_number : PySem.W.keepIn K (.ref fis_number) = true)
    {fis_name : Addr} {odis_name anis_name : Option Addr} {slis_name : Array (Option Value)} {ocis_name kVis_name dcis_name pmis_name cdis_name ctis_name : Value}
    (ais_name : PySem.W.nsIn K mainGlobals "is_name" = some (some (.ref fis_name)))
    (lis_name : K.lookup fis_name = some ⟨ocis_name, odis_name, .func (PySem.W.fnOf "is_name" "is_name" (defArgs sis_name) (defBody sis_name) (defScope sis_name) .none kVis_name dcis_name pmis_name anis_name cdis_name ctis_name), slis_name⟩)
    (cis_name : PySem.W.codeIn K cdis_name "is_name" = true)
    (kis_name : PySem.W.keepIn K (.ref fis_name) = true)
    {fis_misplaced : Addr} {odis_misplaced anis_misplaced : Option Addr} {slis_misplaced : Array (Option Value)} {ocis_misplaced kVis_misplaced dcis_misplaced pmis_misplaced cdis_misplaced ctis_misplaced : Value}
    (ais_misplaced : PySem.W.nsIn K mainGlobals "is_misplaced" = some (some (.ref fis_misplaced)))
    (lis_misplaced : K.lookup fis_misplaced = some ⟨ocis_misplaced, odis_misplaced, .func (PySem.W.fnOf "is_misplaced" "is_misplaced" (defArgs sis_misplaced) (defBody sis_misplaced) (defScope sis_misplaced) .none kVis_misplaced dcis_misplaced pmis_misplaced anis_misplaced cdis_misplaced ctis_misplaced), slis_misplaced⟩)
    (cis_misplaced : PySem.W.codeIn K cdis_misplaced "is_misplaced" = true)
    (kis_misplaced : PySem.W.keepIn K (.ref fis_misplaced) = true)
    {fplaces_by_name : Addr} {odplaces_by_name anplaces_by_name : Option Addr} {slplaces_by_name : Array (Option Value)} {ocplaces_by_name kVplaces_by_name dcplaces_by_name pmplaces_by_name cdplaces_by_name ctplaces_by_name : Value}
    (aplaces_by_name : PySem.W.nsIn K mainGlobals "places_by_name" = some (some (.ref fplaces_by_name)))
    (lplaces_by_name : K.lookup fplaces_by_name = some ⟨ocplaces_by_name, odplaces_by_name, .func (PySem.W.fnOf "places_by_name" "places_by_name" (defArgs splaces_by_name) (defBody splaces_by_name) (defScope splaces_by_name) .none kVplaces_by_name dcplaces_by_name pmplaces_by_name anplaces_by_name cdplaces_by_name ctplaces_by_name), slplaces_by_name⟩)
    (cplaces_by_name : PySem.W.codeIn K cdplaces_by_name "places_by_name" = true)
    (kplaces_by_name : PySem.W.keepIn K (.ref fplaces_by_name) = true)
    {fbag : Addr} {odbag anbag : Option Addr} {slbag : Array (Option Value)} {ocbag kVbag dcbag pmbag cdbag ctbag : Value}
    (abag : PySem.W.nsIn K mainGlobals "_law_bag" = some (some (.ref fbag)))
    (lbag : K.lookup fbag = some ⟨ocbag, odbag, .func (PySem.W.fnOf "_law_bag" "_law_bag" (defArgs sbag) (defBody sbag) (defScope sbag) .none kVbag dcbag pmbag anbag cdbag ctbag), slbag⟩)
    (cbag : PySem.W.codeIn K cdbag "_law_bag" = true)
    (kbag : PySem.W.keepIn K (.ref fbag) = true)
    {fdraw : Addr} {oddraw andraw : Option Addr} {sldraw : Array (Option Value)} {ocdraw kVdraw dcdraw pmdraw cddraw ctdraw : Value}
    (adraw : PySem.W.nsIn K mainGlobals "_law_draw" = some (some (.ref fdraw)))
    (ldraw : K.lookup fdraw = some ⟨ocdraw, oddraw, .func (PySem.W.fnOf "_law_draw" "_law_draw" (defArgs sdraw) (defBody sdraw) (defScope sdraw) .none kVdraw dcdraw pmdraw andraw cddraw ctdraw), sldraw⟩)
    (cdraw : PySem.W.codeIn K cddraw "_law_draw" = true)
    (kdraw : PySem.W.keepIn K (.ref fdraw) = true)
    {fof : Addr} {odof anof : Option Addr} {slof : Array (Option Value)} {ocof kVof dcof pmof cdof ctof : Value}
    (aof : PySem.W.nsIn K mainGlobals "_law_of" = some (some (.ref fof)))
    (lof : K.lookup fof = some ⟨ocof, odof, .func (PySem.W.fnOf "_law_of" "_law_of" (defArgs sof) (defBody sof) (defScope sof) .none kVof dcof pmof anof cdof ctof), slof⟩)
    (cof : PySem.W.codeIn K cdof "_law_of" = true)
    (kof : PySem.W.keepIn K (.ref fof) = true)
    {flike : Addr} {odlike anlike : Option Addr} {sllike : Array (Option Value)} {oclike kVlike dclike pmlike cdlike ctlike : Value}
    (alike : PySem.W.nsIn K mainGlobals "_law_like" = some (some (.ref flike)))
    (llike : K.lookup flike = some ⟨oclike, odlike, .func (PySem.W.fnOf "_law_like" "_law_like" (defArgs slike) (defBody slike) (defScope slike) .none kVlike dclike pmlike anlike cdlike ctlike), sllike⟩)
    (clike : PySem.W.codeIn K cdlike "_law_like" = true)
    (klike : PySem.W.keepIn K (.ref flike) = true)
    {fodd : Addr} {ododd anodd : Option Addr} {slodd : Array (Option Value)} {ocodd kVodd dcodd pmodd cdodd ctodd : Value}
    (aodd : PySem.W.nsIn K mainGlobals "_law_odd" = some (some (.ref fodd)))
    (lodd : K.lookup fodd = some ⟨ocodd, ododd, .func (PySem.W.fnOf "_law_odd" "_law_odd" (defArgs sodd) (defBody sodd) (defScope sodd) .none kVodd dcodd pmodd anodd cdodd ctodd), slodd⟩)
    (codd : PySem.W.codeIn K cdodd "_law_odd" = true)
    (kodd : PySem.W.keepIn K (.ref fodd) = true)
    {fname : Addr} {odname anname : Option Addr} {slname : Array (Option Value)} {ocname kVname dcname pmname cdname ctname : Value}
    (aname : PySem.W.nsIn K mainGlobals "_law_name" = some (some (.ref fname)))
    (lname : K.lookup fname = some ⟨ocname, odname, .func (PySem.W.fnOf "_law_name" "_law_name" (defArgs sname) (defBody sname) (defScope sname) .none kVname dcname pmname anname cdname ctname), slname⟩)
    (cname : PySem.W.codeIn K cdname "_law_name" = true)
    (kname : PySem.W.keepIn K (.ref fname) = true)
    {fnames : Addr} {odnames annames : Option Addr} {slnames : Array (Option Value)} {ocnames kVnames dcnames pmnames cdnames ctnames : Value}
    (anames : PySem.W.nsIn K mainGlobals "_law_names" = some (some (.ref fnames)))
    (lnames : K.lookup fnames = some ⟨ocnames, odnames, .func (PySem.W.fnOf "_law_names" "_law_names" (defArgs snames) (defBody snames) (defScope snames) .none kVnames dcnames pmnames annames cdnames ctnames), slnames⟩)
    (cnames : PySem.W.codeIn K cdnames "_law_names" = true)
    (knames : PySem.W.keepIn K (.ref fnames) = true)
    {fplaces : Addr} {odplaces anplaces : Option Addr} {slplaces : Array (Option Value)} {ocplaces kVplaces dcplaces pmplaces cdplaces ctplaces : Value}
    (aplaces : PySem.W.nsIn K mainGlobals "_law_places" = some (some (.ref fplaces)))
    (lplaces : K.lookup fplaces = some ⟨ocplaces, odplaces, .func (PySem.W.fnOf "_law_places" "_law_places" (defArgs splaces) (defBody splaces) (defScope splaces) .none kVplaces dcplaces pmplaces anplaces cdplaces ctplaces), slplaces⟩)
    (cplaces : PySem.W.codeIn K cdplaces "_law_places" = true)
    (kplaces : PySem.W.keepIn K (.ref fplaces) = true)
    {fplace : Addr} {odplace anplace : Option Addr} {slplace : Array (Option Value)} {ocplace kVplace dcplace pmplace cdplace ctplace : Value}
    (aplace : PySem.W.nsIn K mainGlobals "_law_place" = some (some (.ref fplace)))
    (lplace : K.lookup fplace = some ⟨ocplace, odplace, .func (PySem.W.fnOf "_law_place" "_law_place" (defArgs splace) (defBody splace) (defScope splace) .none kVplace dcplace pmplace anplace cdplace ctplace), slplace⟩)
    (cplace : PySem.W.codeIn K cdplace "_law_place" = true)
    (kplace : PySem.W.keepIn K (.ref fplace) = true)
    {ftree : Addr} {odtree antree : Option Addr} {sltree : Array (Option Value)} {octree kVtree dctree pmtree cdtree cttree : Value}
    (atree : PySem.W.nsIn K mainGlobals "_law_tree" = some (some (.ref ftree)))
    (ltree : K.lookup ftree = some ⟨octree, odtree, .func (PySem.W.fnOf "_law_tree" "_law_tree" (defArgs stree) (defBody stree) (defScope stree) .none kVtree dctree pmtree antree cdtree cttree), sltree⟩)
    (ctree : PySem.W.codeIn K cdtree "_law_tree" = true)
    (ktree : PySem.W.keepIn K (.ref ftree) = true)
    {frow : Addr} {odrow anrow : Option Addr} {slrow : Array (Option Value)} {ocrow kVrow dcrow pmrow cdrow ctrow : Value}
    (arow : PySem.W.nsIn K mainGlobals "_law_row" = some (some (.ref frow)))
    (lrow : K.lookup frow = some ⟨ocrow, odrow, .func (PySem.W.fnOf "_law_row" "_law_row" (defArgs srow) (defBody srow) (defScope srow) .none kVrow dcrow pmrow anrow cdrow ctrow), slrow⟩)
    (crow : PySem.W.codeIn K cdrow "_law_row" = true)
    (krow : PySem.W.keepIn K (.ref frow) = true)
    {fask : Addr} {odask anask : Option Addr} {slask : Array (Option Value)} {ocask kVask dcask pmask cdask ctask : Value}
    (aask : PySem.W.nsIn K mainGlobals "_law_ask" = some (some (.ref fask)))
    (lask : K.lookup fask = some ⟨ocask, odask, .func (PySem.W.fnOf "_law_ask" "_law_ask" (defArgs sask) (defBody sask) (defScope sask) .none kVask dcask pmask anask cdask ctask), slask⟩)
    (cask : PySem.W.codeIn K cdask "_law_ask" = true)
    (kask : PySem.W.keepIn K (.ref fask) = true)
    {fat_fault : Addr} {odat_fault anat_fault : Option Addr} {slat_fault : Array (Option Value)} {ocat_fault kVat_fault dcat_fault pmat_fault cdat_fault ctat_fault : Value}
    (aat_fault : PySem.W.nsIn K mainGlobals "_law_at_fault" = some (some (.ref fat_fault)))
    (lat_fault : K.lookup fat_fault = some ⟨ocat_fault, odat_fault, .func (PySem.W.fnOf "_law_at_fault" "_law_at_fault" (defArgs sat_fault) (defBody sat_fault) (defScope sat_fault) .none kVat_fault dcat_fault pmat_fault anat_fault cdat_fault ctat_fault), slat_fault⟩)
    (cat_fault : PySem.W.codeIn K cdat_fault "_law_at_fault" = true)
    (kat_fault : PySem.W.keepIn K (.ref fat_fault) = true)
    {fdue : Addr} {oddue andue : Option Addr} {sldue : Array (Option Value)} {ocdue kVdue dcdue pmdue cddue ctdue : Value}
    (adue : PySem.W.nsIn K mainGlobals "_law_due" = some (some (.ref fdue)))
    (ldue : K.lookup fdue = some ⟨ocdue, oddue, .func (PySem.W.fnOf "_law_due" "_law_due" (defArgs sdue) (defBody sdue) (defScope sdue) .none kVdue dcdue pmdue andue cddue ctdue), sldue⟩)
    (cdue : PySem.W.codeIn K cddue "_law_due" = true)
    (kdue : PySem.W.keepIn K (.ref fdue) = true)
    {fbent : Addr} {odbent anbent : Option Addr} {slbent : Array (Option Value)} {ocbent kVbent dcbent pmbent cdbent ctbent : Value}
    (abent : PySem.W.nsIn K mainGlobals "_law_bent" = some (some (.ref fbent)))
    (lbent : K.lookup fbent = some ⟨ocbent, odbent, .func (PySem.W.fnOf "_law_bent" "_law_bent" (defArgs sbent) (defBody sbent) (defScope sbent) .none kVbent dcbent pmbent anbent cdbent ctbent), slbent⟩)
    (cbent : PySem.W.codeIn K cdbent "_law_bent" = true)
    (kbent : PySem.W.keepIn K (.ref fbent) = true)
    {fsize : Addr} {odsize ansize : Option Addr} {slsize : Array (Option Value)} {ocsize kVsize dcsize pmsize cdsize ctsize : Value}
    (asize : PySem.W.nsIn K mainGlobals "_law_size" = some (some (.ref fsize)))
    (lsize : K.lookup fsize = some ⟨ocsize, odsize, .func (PySem.W.fnOf "_law_size" "_law_size" (defArgs ssize) (defBody ssize) (defScope ssize) .none kVsize dcsize pmsize ansize cdsize ctsize), slsize⟩)
    (csize : PySem.W.codeIn K cdsize "_law_size" = true)
    (ksize : PySem.W.keepIn K (.ref fsize) = true)
    {fnamed : Addr} {odnamed annamed : Option Addr} {slnamed : Array (Option Value)} {ocnamed kVnamed dcnamed pmnamed cdnamed ctnamed : Value}
    (anamed : PySem.W.nsIn K mainGlobals "_law_named" = some (some (.ref fnamed)))
    (lnamed : K.lookup fnamed = some ⟨ocnamed, odnamed, .func (PySem.W.fnOf "_law_named" "_law_named" (defArgs snamed) (defBody snamed) (defScope snamed) .none kVnamed dcnamed pmnamed annamed cdnamed ctnamed), slnamed⟩)
    (cnamed : PySem.W.codeIn K cdnamed "_law_named" = true)
    (knamed : PySem.W.keepIn K (.ref fnamed) = true)
    {fplace_so coplace_so ptplace_so : Addr} {odplace_so anplace_so odcplace_so : Option Addr} {slplace_so slcplace_so : Array (Option Value)} {ocplace_so kVplace_so dcplace_so pmplace_so ctplace_so : Value} {vsplace_so : Array Value}
    (aplace_so : PySem.W.nsIn K mainGlobals "_law_place_so" = some (some (.ref fplace_so)))
    (lplace_so : K.lookup fplace_so = some ⟨ocplace_so, odplace_so, .func (PySem.W.fnOf "_law_place_so" "_law_place_so" (defArgs splace_so) (defBody splace_so) (defScope splace_so) .none kVplace_so dcplace_so pmplace_so anplace_so (.ref coplace_so) ctplace_so), slplace_so⟩)
    (cplace_so : PySem.W.codeIn K (.ref coplace_so) "_law_place_so" = true)
    (kplace_so : PySem.W.keepIn K (.ref fplace_so) = true)
    (lcplace_so : K.lookup coplace_so = some ⟨.type "code", odcplace_so, .fields vsplace_so, slcplace_so⟩)
    (vpplace_so : vsplace_so[11]? = some (.ref ptplace_so))
    (hdplace_so : LE2.hdB vsplace_so coplace_so ptplace_so = true)
    (npplace_so : K.lookup ptplace_so = none)
    {fso coso ptso : Addr} {odso anso odcso : Option Addr} {slso slcso : Array (Option Value)} {ocso kVso dcso pmso ctso : Value} {vsso : Array Value}
    (aso : PySem.W.nsIn K mainGlobals "_law_so" = some (some (.ref fso)))
    (lso : K.lookup fso = some ⟨ocso, odso, .func (PySem.W.fnOf "_law_so" "_law_so" (defArgs sso) (defBody sso) (defScope sso) .none kVso dcso pmso anso (.ref coso) ctso), slso⟩)
    (cso : PySem.W.codeIn K (.ref coso) "_law_so" = true)
    (kso : PySem.W.keepIn K (.ref fso) = true)
    (lcso : K.lookup coso = some ⟨.type "code", odcso, .fields vsso, slcso⟩)
    (vpso : vsso[11]? = some (.ref ptso))
    (hdso : LE2.hdB vsso coso ptso = true)
    (npso : K.lookup ptso = none)
    {flaw : Addr} {odlaw anlaw : Option Addr} {sllaw : Array (Option Value)} {oclaw kVlaw dclaw pmlaw cdlaw ctlaw : Value}
    (alaw : PySem.W.nsIn K mainGlobals "law" = some (some (.ref flaw)))
    (llaw : K.lookup flaw = some ⟨oclaw, odlaw, .func (PySem.W.fnOf "law" "law" (defArgs slaw) (defBody slaw) (defScope slaw) .none kVlaw dclaw pmlaw anlaw cdlaw ctlaw), sllaw⟩)
    (claw : PySem.W.codeIn K cdlaw "law" = true)
    (klaw : PySem.W.keepIn K (.ref flaw) = true)
    (zall : PySem.W.nsIn K mainGlobals "all" = some none)
    (zany : PySem.W.nsIn K mainGlobals "any" = some none)
    (zbool : PySem.W.nsIn K mainGlobals "bool" = some none)
    (zdict : PySem.W.nsIn K mainGlobals "dict" = some none)
    (zenumerate : PySem.W.nsIn K mainGlobals "enumerate" = some none)
    (zint : PySem.W.nsIn K mainGlobals "int" = some none)
    (zisinstance : PySem.W.nsIn K mainGlobals "isinstance" = some none)
    (zlen : PySem.W.nsIn K mainGlobals "len" = some none)
    (zlist : PySem.W.nsIn K mainGlobals "list" = some none)
    (zmin : PySem.W.nsIn K mainGlobals "min" = some none)
    (zrange : PySem.W.nsIn K mainGlobals "range" = some none)
    (zstr : PySem.W.nsIn K mainGlobals "str" = some none)
    (zsuper : PySem.W.nsIn K mainGlobals "super" = some none)
    (ztuple : PySem.W.nsIn K mainGlobals "tuple" = some none)
    (zzip : PySem.W.nsIn K mainGlobals "zip" = some none)
    {tkDIGITS : Tok} (yDIGITS : PySem.W.nsIn K mainGlobals "DIGITS" = some (some (.str "0123456789" tkDIGITS)))
    {tkLETTERS : Tok} (yLETTERS : PySem.W.nsIn K mainGlobals "LETTERS" = some (some (.str "abcdefghijklmnopqrstuvwxyz" tkLETTERS)))
    {tkMOST_PLACES : Tok} (yMOST_PLACES : PySem.W.nsIn K mainGlobals "MOST_PLACES" = some (some (.int 24 tkMOST_PLACES)))
    {tkMOST_SIZE : Tok} (yMOST_SIZE : PySem.W.nsIn K mainGlobals "MOST_SIZE" = some (some (.int 1000 tkMOST_SIZE)))
        {aR fRi fE : Addr}
    (aRest : PySem.W.nsIn K mainGlobals "Rest" = some (some (.ref aR)))
    {ocxR : Value} {odxR : Option Addr} {cdxR : ClassData} {slxR : Array (Option Value)}
    (xRest : K.lookup aR = some ⟨ocxR, odxR, .cls cdxR, slxR⟩)
    (tyR : PySem.W.typeIn K (.ref aR) = some (.type "type"))
    (clR : PySem.W.isClsIn K aR = true)
    (ffRi : PySem.W.findIn K (.ref aR) "__init__" = some (some (.ref fRi)))
    {odRest_init anRest_init : Option Addr} {slRest_init : Array (Option Value)} {ocRest_init kVRest_init dcRest_init pmRest_init cdRest_init ctRest_init : Value}
    (lRest_init : K.lookup fRi = some ⟨ocRest_init, odRest_init, .func (PySem.W.fnOf "__init__" "Rest.__init__" (defArgs sRest_init) (defBody sRest_init) (defScope sRest_init) .none kVRest_init dcRest_init pmRest_init anRest_init cdRest_init ctRest_init), slRest_init⟩)
    (cRest_init : PySem.W.codeIn K cdRest_init "Rest.__init__" = true)
    (kRest_init : PySem.W.keepIn K (.ref fRi) = true)
    (iRest_init : PySem.W.isFn K (.ref fRi) = true)
    (ffE : PySem.W.findIn K (.ref aR) "__eq__" = some (some (.ref fE)))
    {odRest_eq anRest_eq : Option Addr} {slRest_eq : Array (Option Value)} {ocRest_eq kVRest_eq dcRest_eq pmRest_eq cdRest_eq ctRest_eq : Value}
    (lRest_eq : K.lookup fE = some ⟨ocRest_eq, odRest_eq, .func (PySem.W.fnOf "__eq__" "Rest.__eq__" (defArgs sRest_eq) (defBody sRest_eq) (defScope sRest_eq) .none kVRest_eq dcRest_eq pmRest_eq anRest_eq cdRest_eq ctRest_eq), slRest_eq⟩)
    (cRest_eq : PySem.W.codeIn K cdRest_eq "Rest.__eq__" = true)
    (kRest_eq : PySem.W.keepIn K (.ref fE) = true)
    (iRest_eq : PySem.W.isFn K (.ref fE) = true)
    (tyfR : PySem.W.typeIn K (.ref fRi) = some (.type "function"))
    (fiR : PySem.W.fnIn K fRi = true)
    (opq : PySem.W.nsIn K cStatics "thirdparty.any" = some none)
    (tp : (l.prog.main.scope.names.lookup ("super" : Str)).isSome = false)
    {aWindow fWindow_init aRule fRule_init aPlace fPlace_init fPlace_eq aTree fTree_init fTree_places fTree_len Tj Dj : Addr}
    (a_Window : PySem.W.nsIn K mainGlobals "Window" = some (some (.ref aWindow)))
    (tyWindow : PySem.W.typeIn K (.ref aWindow) = some (.type "type"))
    (clWindow : PySem.W.isClsIn K aWindow = true)
    (pgWindow : PySem.W.plainGet K aWindow Str.empty = true)
    (hdWindow : PySem.W.hasDictIn K aWindow = true)
    (poWindow : PySem.W.plainOver K aWindow = true)
    (saWindow : PySem.W.findIn K (.ref aWindow) "__setattr__" = some (some (.builtin "object.__setattr__")))
    (mkWindow : PySem.W.makesIn K aWindow = true)
    (kpWindow : PySem.W.keepIn K (.ref aWindow) = true)
    (fiWindow : PySem.W.findIn K (.ref aWindow) "__init__" = some (some (.ref fWindow_init)))
    (nWindow_text : PySem.W.findIn K (.ref aWindow) "_text" = some none)
    (nWindow_forms : PySem.W.findIn K (.ref aWindow) "_forms" = some none)
    (nWindow_period : PySem.W.findIn K (.ref aWindow) "_period" = some none)
    (nWindow_bend : PySem.W.findIn K (.ref aWindow) "_bend" = some none)
    (nWindowwidth : PySem.W.findIn K (.ref aWindow) "width" = some none)
    (haWindow : PySem.W.findIn K (.ref aWindow) "__class__" = some (some (.builtin "object.__class__")))
    (hmWindow : PySem.W.mroIn K aWindow (.type "object") = some true)
    (ssWindow : PySem.W.subIn K (.ref aWindow) (.ref aWindow) = some true)
    (bintWindow : PySem.W.subIn K (.ref aWindow) (.type "int") = some false)
    (bboolWindow : PySem.W.subIn K (.ref aWindow) (.type "bool") = some false)
    (bstrWindow : PySem.W.subIn K (.ref aWindow) (.type "str") = some false)
    (blistWindow : PySem.W.subIn K (.ref aWindow) (.type "list") = some false)
    (btupleWindow : PySem.W.subIn K (.ref aWindow) (.type "tuple") = some false)
    (bdictWindow : PySem.W.subIn K (.ref aWindow) (.type "dict") = some false)
    {cWindow_init ccWindow_init : Addr} {odfWindow_init odcWindow_init odlWindow_init : Option Addr} {slfWindow_init slcWindow_init sllWindow_init : Array (Option Value)} {ocfWindow_init occWindow_init oclWindow_init dcWindow_init pmWindow_init ctWindow_init : Value} {vsWindow_init : Array Value} {flWindow_init : Str} {tkWindow_init : Tok}
    (lWindow_init : K.lookup fWindow_init = some ⟨ocfWindow_init, odfWindow_init, .func ((FWindow_init ccWindow_init cWindow_init).fd dcWindow_init pmWindow_init ctWindow_init), slfWindow_init⟩)
    (lcWindow_init : K.lookup cWindow_init = some ⟨occWindow_init, odcWindow_init, .fields vsWindow_init, slcWindow_init⟩)
    (vfWindow_init : vsWindow_init[2]? = some (.str flWindow_init tkWindow_init))
    (ffWindow_init : ((l.prog.main.file : Str) == flWindow_init) = true)
    (llWindow_init : K.lookup ccWindow_init = some ⟨oclWindow_init, odlWindow_init, .cell (some (.ref aWindow)), sllWindow_init⟩)
    (cdWindow_init : PySem.W.codeIn K (.ref cWindow_init) "Window.__init__" = true)
    (isfWindow_init : PySem.W.isFn K (.ref fWindow_init) = true)
    {ocxWindow : Value} {odxWindow : Option Addr} {cdxWindow : ClassData} {slxWindow : Array (Option Value)}
    (xWindow : K.lookup aWindow = some ⟨ocxWindow, odxWindow, .cls cdxWindow, slxWindow⟩)
    (mrWindow : PySem.W.mroIn K aWindow (.ref aWindow) = some true)
    (moWindow : (cdxWindow.mro.dropWhile (· != .ref aWindow)).drop 1 = cdxR.mro)
    (mWindoweq : PySem.W.findIn K (.ref aWindow) "__eq__" = some (some (.ref fE)))
    (isWindow : PySem.W.subIn K (.ref aWindow) (.ref aR) = some true)
    (a_Rule : PySem.W.nsIn K mainGlobals "Rule" = some (some (.ref aRule)))
    (tyRule : PySem.W.typeIn K (.ref aRule) = some (.type "type"))
    (clRule : PySem.W.isClsIn K aRule = true)
    (pgRule : PySem.W.plainGet K aRule Str.empty = true)
    (hdRule : PySem.W.hasDictIn K aRule = true)
    (poRule : PySem.W.plainOver K aRule = true)
    (saRule : PySem.W.findIn K (.ref aRule) "__setattr__" = some (some (.builtin "object.__setattr__")))
    (mkRule : PySem.W.makesIn K aRule = true)
    (kpRule : PySem.W.keepIn K (.ref aRule) = true)
    (fiRule : PySem.W.findIn K (.ref aRule) "__init__" = some (some (.ref fRule_init)))
    (nRulename : PySem.W.findIn K (.ref aRule) "name" = some none)
    (nRulechips : PySem.W.findIn K (.ref aRule) "chips" = some none)
    (nRulerest : PySem.W.findIn K (.ref aRule) "rest" = some none)
    (haRule : PySem.W.findIn K (.ref aRule) "__class__" = some (some (.builtin "object.__class__")))
    (hmRule : PySem.W.mroIn K aRule (.type "object") = some true)
    (ssRule : PySem.W.subIn K (.ref aRule) (.ref aRule) = some true)
    (bintRule : PySem.W.subIn K (.ref aRule) (.type "int") = some false)
    (bboolRule : PySem.W.subIn K (.ref aRule) (.type "bool") = some false)
    (bstrRule : PySem.W.subIn K (.ref aRule) (.type "str") = some false)
    (blistRule : PySem.W.subIn K (.ref aRule) (.type "list") = some false)
    (btupleRule : PySem.W.subIn K (.ref aRule) (.type "tuple") = some false)
    (bdictRule : PySem.W.subIn K (.ref aRule) (.type "dict") = some false)
    {odRule_init anRule_init : Option Addr} {slRule_init : Array (Option Value)} {ocRule_init kVRule_init dcRule_init pmRule_init cdRule_init ctRule_init : Value}
    (lRule_init : K.lookup fRule_init = some ⟨ocRule_init, odRule_init, .func (PySem.W.fnOf "__init__" "Rule.__init__" (defArgs sRule_init) (defBody sRule_init) (defScope sRule_init) .none kVRule_init dcRule_init pmRule_init anRule_init cdRule_init ctRule_init), slRule_init⟩)
    (cRule_init : PySem.W.codeIn K cdRule_init "Rule.__init__" = true)
    (kRule_init : PySem.W.keepIn K (.ref fRule_init) = true)
    (iRule_init : PySem.W.isFn K (.ref fRule_init) = true)
    (a_Place : PySem.W.nsIn K mainGlobals "Place" = some (some (.ref aPlace)))
    (tyPlace : PySem.W.typeIn K (.ref aPlace) = some (.type "type"))
    (clPlace : PySem.W.isClsIn K aPlace = true)
    (pgPlace : PySem.W.plainGet K aPlace Str.empty = true)
    (hdPlace : PySem.W.hasDictIn K aPlace = true)
    (poPlace : PySem.W.plainOver K aPlace = true)
    (saPlace : PySem.W.findIn K (.ref aPlace) "__setattr__" = some (some (.builtin "object.__setattr__")))
    (mkPlace : PySem.W.makesIn K aPlace = true)
    (kpPlace : PySem.W.keepIn K (.ref aPlace) = true)
    (fiPlace : PySem.W.findIn K (.ref aPlace) "__init__" = some (some (.ref fPlace_init)))
    (nPlacename : PySem.W.findIn K (.ref aPlace) "name" = some none)
    (nPlaceserver : PySem.W.findIn K (.ref aPlace) "server" = some none)
    (nPlaceelder : PySem.W.findIn K (.ref aPlace) "elder" = some none)
    (nPlacememory : PySem.W.findIn K (.ref aPlace) "memory" = some none)
    (nPlacecustomer : PySem.W.findIn K (.ref aPlace) "customer" = some none)
    (haPlace : PySem.W.findIn K (.ref aPlace) "__class__" = some (some (.builtin "object.__class__")))
    (hmPlace : PySem.W.mroIn K aPlace (.type "object") = some true)
    (ssPlace : PySem.W.subIn K (.ref aPlace) (.ref aPlace) = some true)
    (bintPlace : PySem.W.subIn K (.ref aPlace) (.type "int") = some false)
    (bboolPlace : PySem.W.subIn K (.ref aPlace) (.type "bool") = some false)
    (bstrPlace : PySem.W.subIn K (.ref aPlace) (.type "str") = some false)
    (blistPlace : PySem.W.subIn K (.ref aPlace) (.type "list") = some false)
    (btuplePlace : PySem.W.subIn K (.ref aPlace) (.type "tuple") = some false)
    (bdictPlace : PySem.W.subIn K (.ref aPlace) (.type "dict") = some false)
    {odPlace_init anPlace_init : Option Addr} {slPlace_init : Array (Option Value)} {ocPlace_init dcPlace_init pmPlace_init cdPlace_init ctPlace_init : Value}
    (lPlace_init : K.lookup fPlace_init = some ⟨ocPlace_init, odPlace_init, .func (PySem.W.fnOf "__init__" "Place.__init__" (defArgs sPlace_init) (defBody sPlace_init) (defScope sPlace_init) (.ref Tj) (.ref Dj) dcPlace_init pmPlace_init anPlace_init cdPlace_init ctPlace_init), slPlace_init⟩)
    (cPlace_init : PySem.W.codeIn K cdPlace_init "Place.__init__" = true)
    (kPlace_init : PySem.W.keepIn K (.ref fPlace_init) = true)
    (iPlace_init : PySem.W.isFn K (.ref fPlace_init) = true)
    {ocTj : Value} {odTj : Option Addr} {itTj : Array Value} {nTj : Nat} {slTj : Array (Option Value)}
    (lTj : K.lookup Tj = some ⟨ocTj, odTj, .seq itTj nTj, slTj⟩)
    (vTj : itTj = #[.none])
    (dmem : PySem.W.nsIn K Dj "memory" = some (some (.bool false)))
    (dcus : PySem.W.nsIn K Dj "customer" = some (some .none))
    (mPlaceeq : PySem.W.findIn K (.ref aPlace) "__eq__" = some (some (.ref fPlace_eq)))
    {odPlace_eq anPlace_eq : Option Addr} {slPlace_eq : Array (Option Value)} {ocPlace_eq kVPlace_eq dcPlace_eq pmPlace_eq cdPlace_eq ctPlace_eq : Value}
    (lPlace_eq : K.lookup fPlace_eq = some ⟨ocPlace_eq, odPlace_eq, .func (PySem.W.fnOf "__eq__" "Place.__eq__" (defArgs sPlace_eq) (defBody sPlace_eq) (defScope sPlace_eq) .none kVPlace_eq dcPlace_eq pmPlace_eq anPlace_eq cdPlace_eq ctPlace_eq), slPlace_eq⟩)
    (cPlace_eq : PySem.W.codeIn K cdPlace_eq "Place.__eq__" = true)
    (kPlace_eq : PySem.W.keepIn K (.ref fPlace_eq) = true)
    (iPlace_eq : PySem.W.isFn K (.ref fPlace_eq) = true)
    (a_Tree : PySem.W.nsIn K mainGlobals "Tree" = some (some (.ref aTree)))
    (tyTree : PySem.W.typeIn K (.ref aTree) = some (.type "type"))
    (clTree : PySem.W.isClsIn K aTree = true)
    (pgTree : PySem.W.plainGet K aTree Str.empty = true)
    (hdTree : PySem.W.hasDictIn K aTree = true)
    (poTree : PySem.W.plainOver K aTree = true)
    (saTree : PySem.W.findIn K (.ref aTree) "__setattr__" = some (some (.builtin "object.__setattr__")))
    (mkTree : PySem.W.makesIn K aTree = true)
    (kpTree : PySem.W.keepIn K (.ref aTree) = true)
    (fiTree : PySem.W.findIn K (.ref aTree) "__init__" = some (some (.ref fTree_init)))
    (nTreerule : PySem.W.findIn K (.ref aTree) "rule" = some none)
    (nTree_places : PySem.W.findIn K (.ref aTree) "_places" = some none)
    (nTree_children : PySem.W.findIn K (.ref aTree) "_children" = some none)
    (nTree_tops : PySem.W.findIn K (.ref aTree) "_tops" = some none)
    {odTree_init anTree_init : Option Addr} {slTree_init : Array (Option Value)} {ocTree_init kVTree_init dcTree_init pmTree_init cdTree_init ctTree_init : Value}
    (lTree_init : K.lookup fTree_init = some ⟨ocTree_init, odTree_init, .func (PySem.W.fnOf "__init__" "Tree.__init__" (defArgs sTree_init) (defBody sTree_init) (defScope sTree_init) .none kVTree_init dcTree_init pmTree_init anTree_init cdTree_init ctTree_init), slTree_init⟩)
    (cTree_init : PySem.W.codeIn K cdTree_init "Tree.__init__" = true)
    (kTree_init : PySem.W.keepIn K (.ref fTree_init) = true)
    (iTree_init : PySem.W.isFn K (.ref fTree_init) = true)
    (mTreeplaces : PySem.W.findIn K (.ref aTree) "places" = some (some (.ref fTree_places)))
    {odTree_places anTree_places : Option Addr} {slTree_places : Array (Option Value)} {ocTree_places kVTree_places dcTree_places pmTree_places cdTree_places ctTree_places : Value}
    (lTree_places : K.lookup fTree_places = some ⟨ocTree_places, odTree_places, .func (PySem.W.fnOf "places" "Tree.places" (defArgs sTree_places) (defBody sTree_places) (defScope sTree_places) .none kVTree_places dcTree_places pmTree_places anTree_places cdTree_places ctTree_places), slTree_places⟩)
    (cTree_places : PySem.W.codeIn K cdTree_places "Tree.places" = true)
    (kTree_places : PySem.W.keepIn K (.ref fTree_places) = true)
    (iTree_places : PySem.W.isFn K (.ref fTree_places) = true)
    (mTreelen : PySem.W.findIn K (.ref aTree) "__len__" = some (some (.ref fTree_len)))
    {odTree_len anTree_len : Option Addr} {slTree_len : Array (Option Value)} {ocTree_len kVTree_len dcTree_len pmTree_len cdTree_len ctTree_len : Value}
    (lTree_len : K.lookup fTree_len = some ⟨ocTree_len, odTree_len, .func (PySem.W.fnOf "__len__" "Tree.__len__" (defArgs sTree_len) (defBody sTree_len) (defScope sTree_len) .none kVTree_len dcTree_len pmTree_len anTree_len cdTree_len ctTree_len), slTree_len⟩)
    (cTree_len : PySem.W.codeIn K cdTree_len "Tree.__len__" = true)
    (kTree_len : PySem.W.keepIn K (.ref fTree_len) = true)
    (iTree_len : PySem.W.isFn K (.ref fTree_len) = true)
    (oWindowRule : PySem.W.subIn K (.ref aWindow) (.ref aRule) = some false)
    (oPlaceRule : PySem.W.subIn K (.ref aPlace) (.ref aRule) = some false)
    (oWindowPlace : PySem.W.subIn K (.ref aWindow) (.ref aPlace) = some false)
    (oRulePlace : PySem.W.subIn K (.ref aRule) (.ref aPlace) = some false)
    (sintRule : PySem.W.subIn K (.type "int") (.ref aRule) = some false)
    (sintPlace : PySem.W.subIn K (.type "int") (.ref aPlace) = some false)
    (sboolRule : PySem.W.subIn K (.type "bool") (.ref aRule) = some false)
    (sboolPlace : PySem.W.subIn K (.type "bool") (.ref aPlace) = some false)
    (sstrRule : PySem.W.subIn K (.type "str") (.ref aRule) = some false)
    (sstrPlace : PySem.W.subIn K (.type "str") (.ref aPlace) = some false)
    (sNoneTypeRule : PySem.W.subIn K (.type "NoneType") (.ref aRule) = some false)
    (sNoneTypePlace : PySem.W.subIn K (.type "NoneType") (.ref aPlace) = some false)
    (slistRule : PySem.W.subIn K (.type "list") (.ref aRule) = some false)
    (slistPlace : PySem.W.subIn K (.type "list") (.ref aPlace) = some false)
    (stupleRule : PySem.W.subIn K (.type "tuple") (.ref aRule) = some false)
    (stuplePlace : PySem.W.subIn K (.type "tuple") (.ref aPlace) = some false)
    (sdictRule : PySem.W.subIn K (.type "dict") (.ref aRule) = some false)
    (sdictPlace : PySem.W.subIn K (.type "dict") (.ref aPlace) = some false)
    (hn : PySem.W.specialIn K (.builtin "object.__class__") "__get__" = some (some (.builtin "getset_descriptor.__get__")))
    (ht : PySem.W.takesIn K (.builtin "object.__class__") = some true)
    {aInvalidName : Addr}
    (a_InvalidName : PySem.W.nsIn K mainGlobals "InvalidName" = some (some (.ref aInvalidName)))
    {nmInvalidName qInvalidName : Str} {NEInvalidName SEInvalidName : Addr} {bsInvalidName : List Value} {snInvalidName : List Str} {subInvalidName : List Value} {abInvalidName : Bool} {colInvalidName : Option Bool} {ddInvalidName : Option Addr} {m0InvalidName m1InvalidName m2InvalidName m3InvalidName m5InvalidName : Option Value} {fInvalidName_init : Addr}
    (xInvalidName : K.lookup aInvalidName = some (excClassObj nmInvalidName qInvalidName aInvalidName NEInvalidName bsInvalidName [.ref SEInvalidName, .type "ValueError", .type "Exception", .type "BaseException", .type "object"] true snInvalidName subInvalidName abInvalidName colInvalidName ddInvalidName m0InvalidName m1InvalidName m2InvalidName m3InvalidName m5InvalidName "ValueError.__new__"))
    (saInvalidName : PySem.W.findIn K (.ref aInvalidName) "__setattr__" = some (some (.builtin "object.__setattr__")))
    (exInvalidName : PySem.W.subIn K (.ref aInvalidName) (.type "BaseException") = some true)
    (tyInvalidName : PySem.W.typeIn K (.ref aInvalidName) = some (.type "type"))
    (kpInvalidName : PySem.W.keepIn K (.ref aInvalidName) = true)
    (inInvalidName : PySem.W.findIn K (.ref aInvalidName) "__init__" = some (some (.ref fInvalidName_init)))
    (tiInvalidName : PySem.W.typeIn K (.ref fInvalidName_init) = some (.type "function"))
    (gaInvalidName : PySem.W.findIn K (.ref aInvalidName) "__getattribute__" = some (some (.builtin "BaseException.__getattribute__")))
    (ggInvalidName : PySem.W.findIn K (.ref aInvalidName) "__getattr__" = some none)
    (hdInvalidName : PySem.W.hasDictIn K aInvalidName = true)
    (clInvalidName : PySem.W.isClsIn K aInvalidName = true)
    (ssInvalidName : PySem.W.subIn K (.ref aInvalidName) (.ref aInvalidName) = some true)
    (nvalueInvalidName : PySem.W.findIn K (.ref aInvalidName) "value" = some none)
    (ncodeInvalidName : PySem.W.findIn K (.ref aInvalidName) "code" = some none)
    {odInvalidName_init anInvalidName_init : Option Addr} {slInvalidName_init : Array (Option Value)} {ocInvalidName_init kVInvalidName_init dcInvalidName_init pmInvalidName_init cdInvalidName_init ctInvalidName_init : Value}
    (lInvalidName_init : K.lookup fInvalidName_init = some ⟨ocInvalidName_init, odInvalidName_init, .func (PySem.W.fnOf "__init__" "InvalidName.__init__" (defArgs sInvalidName_init) (defBody sInvalidName_init) (defScope sInvalidName_init) .none kVInvalidName_init dcInvalidName_init pmInvalidName_init anInvalidName_init cdInvalidName_init ctInvalidName_init), slInvalidName_init⟩)
    (cInvalidName_init : PySem.W.codeIn K cdInvalidName_init "InvalidName.__init__" = true)
    (kInvalidName_init : PySem.W.keepIn K (.ref fInvalidName_init) = true)
    (iInvalidName_init : PySem.W.isFn K (.ref fInvalidName_init) = true)
    {aInvalidRule : Addr}
    (a_InvalidRule : PySem.W.nsIn K mainGlobals "InvalidRule" = some (some (.ref aInvalidRule)))
    {nmInvalidRule qInvalidRule : Str} {NEInvalidRule SEInvalidRule : Addr} {bsInvalidRule : List Value} {snInvalidRule : List Str} {subInvalidRule : List Value} {abInvalidRule : Bool} {colInvalidRule : Option Bool} {ddInvalidRule : Option Addr} {m0InvalidRule m1InvalidRule m2InvalidRule m3InvalidRule m5InvalidRule : Option Value} {fInvalidRule_init : Addr}
    (xInvalidRule : K.lookup aInvalidRule = some (excClassObj nmInvalidRule qInvalidRule aInvalidRule NEInvalidRule bsInvalidRule [.ref SEInvalidRule, .type "ValueError", .type "Exception", .type "BaseException", .type "object"] true snInvalidRule subInvalidRule abInvalidRule colInvalidRule ddInvalidRule m0InvalidRule m1InvalidRule m2InvalidRule m3InvalidRule m5InvalidRule "ValueError.__new__"))
    (saInvalidRule : PySem.W.findIn K (.ref aInvalidRule) "__setattr__" = some (some (.builtin "object.__setattr__")))
    (exInvalidRule : PySem.W.subIn K (.ref aInvalidRule) (.type "BaseException") = some true)
    (tyInvalidRule : PySem.W.typeIn K (.ref aInvalidRule) = some (.type "type"))
    (kpInvalidRule : PySem.W.keepIn K (.ref aInvalidRule) = true)
    (inInvalidRule : PySem.W.findIn K (.ref aInvalidRule) "__init__" = some (some (.ref fInvalidRule_init)))
    (tiInvalidRule : PySem.W.typeIn K (.ref fInvalidRule_init) = some (.type "function"))
    (gaInvalidRule : PySem.W.findIn K (.ref aInvalidRule) "__getattribute__" = some (some (.builtin "BaseException.__getattribute__")))
    (ggInvalidRule : PySem.W.findIn K (.ref aInvalidRule) "__getattr__" = some none)
    (hdInvalidRule : PySem.W.hasDictIn K aInvalidRule = true)
    (clInvalidRule : PySem.W.isClsIn K aInvalidRule = true)
    (ssInvalidRule : PySem.W.subIn K (.ref aInvalidRule) (.ref aInvalidRule) = some true)
    (nvalueInvalidRule : PySem.W.findIn K (.ref aInvalidRule) "value" = some none)
    (ncodeInvalidRule : PySem.W.findIn K (.ref aInvalidRule) "code" = some none)
    {odInvalidRule_init anInvalidRule_init : Option Addr} {slInvalidRule_init : Array (Option Value)} {ocInvalidRule_init kVInvalidRule_init dcInvalidRule_init pmInvalidRule_init cdInvalidRule_init ctInvalidRule_init : Value}
    (lInvalidRule_init : K.lookup fInvalidRule_init = some ⟨ocInvalidRule_init, odInvalidRule_init, .func (PySem.W.fnOf "__init__" "InvalidRule.__init__" (defArgs sInvalidRule_init) (defBody sInvalidRule_init) (defScope sInvalidRule_init) .none kVInvalidRule_init dcInvalidRule_init pmInvalidRule_init anInvalidRule_init cdInvalidRule_init ctInvalidRule_init), slInvalidRule_init⟩)
    (cInvalidRule_init : PySem.W.codeIn K cdInvalidRule_init "InvalidRule.__init__" = true)
    (kInvalidRule_init : PySem.W.keepIn K (.ref fInvalidRule_init) = true)
    (iInvalidRule_init : PySem.W.isFn K (.ref fInvalidRule_init) = true)
    {aInvalidPlace : Addr}
    (a_InvalidPlace : PySem.W.nsIn K mainGlobals "InvalidPlace" = some (some (.ref aInvalidPlace)))
    {nmInvalidPlace qInvalidPlace : Str} {NEInvalidPlace SEInvalidPlace : Addr} {bsInvalidPlace : List Value} {snInvalidPlace : List Str} {subInvalidPlace : List Value} {abInvalidPlace : Bool} {colInvalidPlace : Option Bool} {ddInvalidPlace : Option Addr} {m0InvalidPlace m1InvalidPlace m2InvalidPlace m3InvalidPlace m5InvalidPlace : Option Value} {fInvalidPlace_init : Addr}
    (xInvalidPlace : K.lookup aInvalidPlace = some (excClassObj nmInvalidPlace qInvalidPlace aInvalidPlace NEInvalidPlace bsInvalidPlace [.ref SEInvalidPlace, .type "ValueError", .type "Exception", .type "BaseException", .type "object"] true snInvalidPlace subInvalidPlace abInvalidPlace colInvalidPlace ddInvalidPlace m0InvalidPlace m1InvalidPlace m2InvalidPlace m3InvalidPlace m5InvalidPlace "ValueError.__new__"))
    (saInvalidPlace : PySem.W.findIn K (.ref aInvalidPlace) "__setattr__" = some (some (.builtin "object.__setattr__")))
    (exInvalidPlace : PySem.W.subIn K (.ref aInvalidPlace) (.type "BaseException") = some true)
    (tyInvalidPlace : PySem.W.typeIn K (.ref aInvalidPlace) = some (.type "type"))
    (kpInvalidPlace : PySem.W.keepIn K (.ref aInvalidPlace) = true)
    (inInvalidPlace : PySem.W.findIn K (.ref aInvalidPlace) "__init__" = some (some (.ref fInvalidPlace_init)))
    (tiInvalidPlace : PySem.W.typeIn K (.ref fInvalidPlace_init) = some (.type "function"))
    (gaInvalidPlace : PySem.W.findIn K (.ref aInvalidPlace) "__getattribute__" = some (some (.builtin "BaseException.__getattribute__")))
    (ggInvalidPlace : PySem.W.findIn K (.ref aInvalidPlace) "__getattr__" = some none)
    (hdInvalidPlace : PySem.W.hasDictIn K aInvalidPlace = true)
    (clInvalidPlace : PySem.W.isClsIn K aInvalidPlace = true)
    (ssInvalidPlace : PySem.W.subIn K (.ref aInvalidPlace) (.ref aInvalidPlace) = some true)
    (natInvalidPlace : PySem.W.findIn K (.ref aInvalidPlace) "at" = some none)
    (ncodeInvalidPlace : PySem.W.findIn K (.ref aInvalidPlace) "code" = some none)
    {odInvalidPlace_init anInvalidPlace_init : Option Addr} {slInvalidPlace_init : Array (Option Value)} {ocInvalidPlace_init kVInvalidPlace_init dcInvalidPlace_init pmInvalidPlace_init cdInvalidPlace_init ctInvalidPlace_init : Value}
    (lInvalidPlace_init : K.lookup fInvalidPlace_init = some ⟨ocInvalidPlace_init, odInvalidPlace_init, .func (PySem.W.fnOf "__init__" "InvalidPlace.__init__" (defArgs sInvalidPlace_init) (defBody sInvalidPlace_init) (defScope sInvalidPlace_init) .none kVInvalidPlace_init dcInvalidPlace_init pmInvalidPlace_init anInvalidPlace_init cdInvalidPlace_init ctInvalidPlace_init), slInvalidPlace_init⟩)
    (cInvalidPlace_init : PySem.W.codeIn K cdInvalidPlace_init "InvalidPlace.__init__" = true)
    (kInvalidPlace_init : PySem.W.keepIn K (.ref fInvalidPlace_init) = true)
    (iInvalidPlace_init : PySem.W.isFn K (.ref fInvalidPlace_init) = true)
    {aBadTree : Addr}
    (a_BadTree : PySem.W.nsIn K mainGlobals "BadTree" = some (some (.ref aBadTree)))
    {nmBadTree qBadTree : Str} {NEBadTree SEBadTree : Addr} {bsBadTree : List Value} {snBadTree : List Str} {subBadTree : List Value} {abBadTree : Bool} {colBadTree : Option Bool} {ddBadTree : Option Addr} {m0BadTree m1BadTree m2BadTree m3BadTree m5BadTree : Option Value} {fBadTree_init : Addr}
    (xBadTree : K.lookup aBadTree = some (excClassObj nmBadTree qBadTree aBadTree NEBadTree bsBadTree [.ref SEBadTree, .type "ValueError", .type "Exception", .type "BaseException", .type "object"] true snBadTree subBadTree abBadTree colBadTree ddBadTree m0BadTree m1BadTree m2BadTree m3BadTree m5BadTree "ValueError.__new__"))
    (saBadTree : PySem.W.findIn K (.ref aBadTree) "__setattr__" = some (some (.builtin "object.__setattr__")))
    (exBadTree : PySem.W.subIn K (.ref aBadTree) (.type "BaseException") = some true)
    (tyBadTree : PySem.W.typeIn K (.ref aBadTree) = some (.type "type"))
    (kpBadTree : PySem.W.keepIn K (.ref aBadTree) = true)
    (inBadTree : PySem.W.findIn K (.ref aBadTree) "__init__" = some (some (.ref fBadTree_init)))
    (tiBadTree : PySem.W.typeIn K (.ref fBadTree_init) = some (.type "function"))
    (gaBadTree : PySem.W.findIn K (.ref aBadTree) "__getattribute__" = some (some (.builtin "BaseException.__getattribute__")))
    (ggBadTree : PySem.W.findIn K (.ref aBadTree) "__getattr__" = some none)
    (hdBadTree : PySem.W.hasDictIn K aBadTree = true)
    (clBadTree : PySem.W.isClsIn K aBadTree = true)
    (ssBadTree : PySem.W.subIn K (.ref aBadTree) (.ref aBadTree) = some true)
    (nplaceBadTree : PySem.W.findIn K (.ref aBadTree) "place" = some none)
    (ncodeBadTree : PySem.W.findIn K (.ref aBadTree) "code" = some none)
    {odBadTree_init anBadTree_init : Option Addr} {slBadTree_init : Array (Option Value)} {ocBadTree_init kVBadTree_init dcBadTree_init pmBadTree_init cdBadTree_init ctBadTree_init : Value}
    (lBadTree_init : K.lookup fBadTree_init = some ⟨ocBadTree_init, odBadTree_init, .func (PySem.W.fnOf "__init__" "BadTree.__init__" (defArgs sBadTree_init) (defBody sBadTree_init) (defScope sBadTree_init) .none kVBadTree_init dcBadTree_init pmBadTree_init anBadTree_init cdBadTree_init ctBadTree_init), slBadTree_init⟩)
    (cBadTree_init : PySem.W.codeIn K cdBadTree_init "BadTree.__init__" = true)
    (kBadTree_init : PySem.W.keepIn K (.ref fBadTree_init) = true)
    (iBadTree_init : PySem.W.isFn K (.ref fBadTree_init) = true)
    {aTooMany : Addr}
    (a_TooMany : PySem.W.nsIn K mainGlobals "TooMany" = some (some (.ref aTooMany)))
    {nmTooMany qTooMany : Str} {NETooMany SETooMany : Addr} {bsTooMany : List Value} {snTooMany : List Str} {subTooMany : List Value} {abTooMany : Bool} {colTooMany : Option Bool} {ddTooMany : Option Addr} {m0TooMany m1TooMany m2TooMany m3TooMany m5TooMany : Option Value} {fTooMany_init : Addr}
    (xTooMany : K.lookup aTooMany = some (excClassObj nmTooMany qTooMany aTooMany NETooMany bsTooMany [.ref SETooMany, .type "ValueError", .type "Exception", .type "BaseException", .type "object"] true snTooMany subTooMany abTooMany colTooMany ddTooMany m0TooMany m1TooMany m2TooMany m3TooMany m5TooMany "ValueError.__new__"))
    (saTooMany : PySem.W.findIn K (.ref aTooMany) "__setattr__" = some (some (.builtin "object.__setattr__")))
    (exTooMany : PySem.W.subIn K (.ref aTooMany) (.type "BaseException") = some true)
    (tyTooMany : PySem.W.typeIn K (.ref aTooMany) = some (.type "type"))
    (kpTooMany : PySem.W.keepIn K (.ref aTooMany) = true)
    (inTooMany : PySem.W.findIn K (.ref aTooMany) "__init__" = some (some (.ref fTooMany_init)))
    (tiTooMany : PySem.W.typeIn K (.ref fTooMany_init) = some (.type "function"))
    (gaTooMany : PySem.W.findIn K (.ref aTooMany) "__getattribute__" = some (some (.builtin "BaseException.__getattribute__")))
    (ggTooMany : PySem.W.findIn K (.ref aTooMany) "__getattr__" = some none)
    (hdTooMany : PySem.W.hasDictIn K aTooMany = true)
    (clTooMany : PySem.W.isClsIn K aTooMany = true)
    (ssTooMany : PySem.W.subIn K (.ref aTooMany) (.ref aTooMany) = some true)
    (nwhatTooMany : PySem.W.findIn K (.ref aTooMany) "what" = some none)
    (ncountTooMany : PySem.W.findIn K (.ref aTooMany) "count" = some none)
    (ncodeTooMany : PySem.W.findIn K (.ref aTooMany) "code" = some none)
    {odTooMany_init anTooMany_init : Option Addr} {slTooMany_init : Array (Option Value)} {ocTooMany_init kVTooMany_init dcTooMany_init pmTooMany_init cdTooMany_init ctTooMany_init : Value}
    (lTooMany_init : K.lookup fTooMany_init = some ⟨ocTooMany_init, odTooMany_init, .func (PySem.W.fnOf "__init__" "TooMany.__init__" (defArgs sTooMany_init) (defBody sTooMany_init) (defScope sTooMany_init) .none kVTooMany_init dcTooMany_init pmTooMany_init anTooMany_init cdTooMany_init ctTooMany_init), slTooMany_init⟩)
    (cTooMany_init : PySem.W.codeIn K cdTooMany_init "TooMany.__init__" = true)
    (kTooMany_init : PySem.W.keepIn K (.ref fTooMany_init) = true)
    (iTooMany_init : PySem.W.isFn K (.ref fTooMany_init) = true)
    (eruna : PySem.W.subIn K (.ref aInvalidRule) (.ref aInvalidName) = some false)
    (eplna : PySem.W.subIn K (.ref aInvalidPlace) (.ref aInvalidName) = some false)
    (ebtna : PySem.W.subIn K (.ref aBadTree) (.ref aInvalidName) = some false)
    (etmna : PySem.W.subIn K (.ref aTooMany) (.ref aInvalidName) = some false)
    (eplru : PySem.W.subIn K (.ref aInvalidPlace) (.ref aInvalidRule) = some false)
    (ebtru : PySem.W.subIn K (.ref aBadTree) (.ref aInvalidRule) = some false)
    (etmru : PySem.W.subIn K (.ref aTooMany) (.ref aInvalidRule) = some false)
    (ebtpl : PySem.W.subIn K (.ref aBadTree) (.ref aInvalidPlace) = some false)
    (etmpl : PySem.W.subIn K (.ref aTooMany) (.ref aInvalidPlace) = some false)
    (etmbt : PySem.W.subIn K (.ref aTooMany) (.ref aBadTree) = some false)
    {aSE : Addr}
    (aSure : PySem.W.nsIn K mainGlobals "SureletError" = some (some (.ref aSE)))
    (npt : (ptplace_so == ptso) = false)
    (own : ∀ nm : Str, (nm = "_law_place_so" ∨ nm = "_law_so") → ∀ fb, mg nm = some (.ref fb) → LamX.OwnTab K fb h) :
    LamX.LawAtS l w K CX0 12 63 "_law_script" mg fa h := by
  have e := hfa.symm.trans (PySem.W.mg_of X G alaw)
  cases e
  have T : Txt K mg := ⟨PySem.W.mg_none_of X G zall, PySem.W.mg_none_of X G zany, PySem.W.mg_none_of X G zbool, PySem.W.mg_none_of X G zdict, PySem.W.mg_none_of X G zenumerate, PySem.W.mg_none_of X G zint, PySem.W.mg_none_of X G zisinstance, PySem.W.mg_none_of X G zlen, PySem.W.mg_none_of X G zlist, PySem.W.mg_none_of X G zmin, PySem.W.mg_none_of X G zrange, PySem.W.mg_none_of X G zstr, PySem.W.mg_none_of X G zsuper, PySem.W.mg_none_of X G ztuple, PySem.W.mg_none_of X G zzip, ⟨_, PySem.W.mg_of X G yDIGITS⟩, ⟨_, PySem.W.mg_of X G yLETTERS⟩, ⟨_, PySem.W.mg_of X G yMOST_PLACES⟩, ⟨_, PySem.W.mg_of X G yMOST_SIZE⟩⟩
  have Fcheck_count := fun_mk (st := scheck_count) lcheck_count ccheck_count kcheck_count
  have Dcheck_count : Def K mg "check_count" scheck_count Pcheck_count _ _ := ⟨Fcheck_count, PySem.W.mg_of X G acheck_count, Fcheck_count.binds (ps := Pcheck_count) fun _ _ _ _ _ _ us hl => match us, hl with | [_, _, _], _ => rfl⟩
  have Fis_whole := fun_mk (st := sis_whole) lis_whole cis_whole kis_whole
  have Dis_whole : Def K mg "is_whole" sis_whole Pis_whole _ _ := ⟨Fis_whole, PySem.W.mg_of X G ais_whole, Fis_whole.binds (ps := Pis_whole) fun _ _ _ _ _ _ us hl => match us, hl with | [_], _ => rfl⟩
  have Fis_number := fun_mk (st := sis_number) lis_number cis_number kis_number
  have Dis_number : Def K mg "is_number" sis_number Pis_number _ _ := ⟨Fis_number, PySem.W.mg_of X G ais_number, Fis_number.binds (ps := Pis_number) fun _ _ _ _ _ _ us hl => match us, hl with | [_, _, _], _ => rfl⟩
  have Fis_name := fun_mk (st := sis_name) lis_name cis_name kis_name
  have Dis_name : Def K mg "is_name" sis_name Pis_name _ _ := ⟨Fis_name, PySem.W.mg_of X G ais_name, Fis_name.binds (ps := Pis_name) fun _ _ _ _ _ _ us hl => match us, hl with | [_], _ => rfl⟩
  have Fis_misplaced := fun_mk (st := sis_misplaced) lis_misplaced cis_misplaced kis_misplaced
  have Dis_misplaced : Def K mg "is_misplaced" sis_misplaced Pis_misplaced _ _ := ⟨Fis_misplaced, PySem.W.mg_of X G ais_misplaced, Fis_misplaced.binds (ps := Pis_misplaced) fun _ _ _ _ _ _ us hl => match us, hl with | [_, _], _ => rfl⟩
  have Fplaces_by_name := fun_mk (st := splaces_by_name) lplaces_by_name cplaces_by_name kplaces_by_name
  have Dplaces_by_name : Def K mg "places_by_name" splaces_by_name Pplaces_by_name _ _ := ⟨Fplaces_by_name, PySem.W.mg_of X G aplaces_by_name, Fplaces_by_name.binds (ps := Pplaces_by_name) fun _ _ _ _ _ _ us hl => match us, hl with | [_], _ => rfl⟩
  have Fbag := fun_mk (st := sbag) lbag cbag kbag
  have Dbag : Def K mg "_law_bag" sbag Pbag _ _ := ⟨Fbag, PySem.W.mg_of X G abag, Fbag.binds (ps := Pbag) fun _ _ _ _ _ _ us hl => match us, hl with | [_], _ => rfl⟩
  have Fdraw := fun_mk (st := sdraw) ldraw cdraw kdraw
  have Ddraw : Def K mg "_law_draw" sdraw Pdraw _ _ := ⟨Fdraw, PySem.W.mg_of X G adraw, Fdraw.binds (ps := Pdraw) fun _ _ _ _ _ _ us hl => match us, hl with | [_, _], _ => rfl⟩
  have Fof := fun_mk (st := sof) lof cof kof
  have Dof : Def K mg "_law_of" sof Pof _ _ := ⟨Fof, PySem.W.mg_of X G aof, Fof.binds (ps := Pof) fun _ _ _ _ _ _ us hl => match us, hl with | [_, _], _ => rfl⟩
  have Flike := fun_mk (st := slike) llike clike klike
  have Dlike : Def K mg "_law_like" slike Plike _ _ := ⟨Flike, PySem.W.mg_of X G alike, Flike.binds (ps := Plike) fun _ _ _ _ _ _ us hl => match us, hl with | [_, _], _ => rfl⟩
  have Fodd := fun_mk (st := sodd) lodd codd kodd
  have Dodd : Def K mg "_law_odd" sodd Podd _ _ := ⟨Fodd, PySem.W.mg_of X G aodd, Fodd.binds (ps := Podd) fun _ _ _ _ _ _ us hl => match us, hl with | [_], _ => rfl⟩
  have Fname := fun_mk (st := sname) lname cname kname
  have Dname : Def K mg "_law_name" sname Pname _ _ := ⟨Fname, PySem.W.mg_of X G aname, Fname.binds (ps := Pname) fun _ _ _ _ _ _ us hl => match us, hl with | [_, _], _ => rfl⟩
  have Fnames := fun_mk (st := snames) lnames cnames knames
  have Dnames : Def K mg "_law_names" snames Pnames _ _ := ⟨Fnames, PySem.W.mg_of X G anames, Fnames.binds (ps := Pnames) fun _ _ _ _ _ _ us hl => match us, hl with | [_, _], _ => rfl⟩
  have Fplaces := fun_mk (st := splaces) lplaces cplaces kplaces
  have Dplaces : Def K mg "_law_places" splaces Pplaces _ _ := ⟨Fplaces, PySem.W.mg_of X G aplaces, Fplaces.binds (ps := Pplaces) fun _ _ _ _ _ _ us hl => match us, hl with | [_, _, _, _], _ => rfl⟩
  have Fplace := fun_mk (st := splace) lplace cplace kplace
  have Dplace : Def K mg "_law_place" splace Pplace _ _ := ⟨Fplace, PySem.W.mg_of X G aplace, Fplace.binds (ps := Pplace) fun _ _ _ _ _ _ us hl => match us, hl with | [_, _], _ => rfl⟩
  have Ftree := fun_mk (st := stree) ltree ctree ktree
  have Dtree : Def K mg "_law_tree" stree Ptree _ _ := ⟨Ftree, PySem.W.mg_of X G atree, Ftree.binds (ps := Ptree) fun _ _ _ _ _ _ us hl => match us, hl with | [_, _], _ => rfl⟩
  have Frow := fun_mk (st := srow) lrow crow krow
  have Drow : Def K mg "_law_row" srow Prow _ _ := ⟨Frow, PySem.W.mg_of X G arow, Frow.binds (ps := Prow) fun _ _ _ _ _ _ us hl => match us, hl with | [_], _ => rfl⟩
  have Fask := fun_mk (st := sask) lask cask kask
  have Dask : Def K mg "_law_ask" sask Pask _ _ := ⟨Fask, PySem.W.mg_of X G aask, Fask.binds (ps := Pask) fun _ _ _ _ _ _ us hl => match us, hl with | [_], _ => rfl⟩
  have Fat_fault := fun_mk (st := sat_fault) lat_fault cat_fault kat_fault
  have Dat_fault : Def K mg "_law_at_fault" sat_fault Pat_fault _ _ := ⟨Fat_fault, PySem.W.mg_of X G aat_fault, Fat_fault.binds (ps := Pat_fault) fun _ _ _ _ _ _ us hl => match us, hl with | [_, _], _ => rfl⟩
  have Fdue := fun_mk (st := sdue) ldue cdue kdue
  have Ddue : Def K mg "_law_due" sdue Pdue _ _ := ⟨Fdue, PySem.W.mg_of X G adue, Fdue.binds (ps := Pdue) fun _ _ _ _ _ _ us hl => match us, hl with | [_], _ => rfl⟩
  have Fbent := fun_mk (st := sbent) lbent cbent kbent
  have Dbent : Def K mg "_law_bent" sbent Pbent _ _ := ⟨Fbent, PySem.W.mg_of X G abent, Fbent.binds (ps := Pbent) fun _ _ _ _ _ _ us hl => match us, hl with | [_, _, _], _ => rfl⟩
  have Fsize := fun_mk (st := ssize) lsize csize ksize
  have Dsize : Def K mg "_law_size" ssize Psize _ _ := ⟨Fsize, PySem.W.mg_of X G asize, Fsize.binds (ps := Psize) fun _ _ _ _ _ _ us hl => match us, hl with | [_, _, _], _ => rfl⟩
  have Fnamed := fun_mk (st := snamed) lnamed cnamed knamed
  have Dnamed : Def K mg "_law_named" snamed Pnamed _ _ := ⟨Fnamed, PySem.W.mg_of X G anamed, Fnamed.binds (ps := Pnamed) fun _ _ _ _ _ _ us hl => match us, hl with | [_], _ => rfl⟩
  have Fplace_so := fun_mk (st := splace_so) lplace_so cplace_so kplace_so
  have Dplace_so : Def K mg "_law_place_so" splace_so Pplace_so _ _ := ⟨Fplace_so, PySem.W.mg_of X G aplace_so, Fplace_so.binds (ps := Pplace_so) fun _ _ _ _ _ _ us hl => match us, hl with | [_], _ => rfl⟩
  have Fso := fun_mk (st := sso) lso cso kso
  have Dso : Def K mg "_law_so" sso Pso _ _ := ⟨Fso, PySem.W.mg_of X G aso, Fso.binds (ps := Pso) fun _ _ _ _ _ _ us hl => match us, hl with | [_, _, _], _ => rfl⟩
  have Flaw := fun_mk (st := slaw) llaw claw klaw
  have Dlaw : Def K mg "law" slaw Plaw _ _ := ⟨Flaw, PySem.W.mg_of X G alaw, Flaw.binds (ps := Plaw) fun _ _ _ _ _ _ us hl => match us, hl with | [_], _ => rfl⟩
  let a : Ad := ⟨aR, aWindow, aRule, aPlace, aTree, fRi, fE, fPlace_eq, fWindow_init, fRule_init, fPlace_init, fTree_init, fTree_places, fTree_len⟩
  let ce : Ce := ⟨aInvalidName, aInvalidRule, aInvalidPlace, aBadTree, aTooMany⟩
  have btWindow : ∀ t : String, t ∈ ["int", "bool", "str", "list", "tuple", "dict"] → PySem.W.kitOne K (.ref aWindow) (.type t) = some false := fun t ht => by
    simp only [List.mem_cons, List.not_mem_nil, or_false] at ht
    rcases ht with rfl | rfl | rfl | rfl | rfl | rfl
    · exact kit_refT (by decide +kernel) bintWindow
    · exact kit_refT (by decide +kernel) bboolWindow
    · exact kit_refT (by decide +kernel) bstrWindow
    · exact kit_refT (by decide +kernel) blistWindow
    · exact kit_refT (by decide +kernel) btupleWindow
    · exact kit_refT (by decide +kernel) bdictWindow
  have cl_Window : Cls K aWindow := ⟨pgWindow, hdWindow, poWindow, saWindow⟩
  have icWindow : IC K aWindow := ⟨cl_Window, haWindow, hn, ht, hmWindow, btWindow⟩
  have btRule : ∀ t : String, t ∈ ["int", "bool", "str", "list", "tuple", "dict"] → PySem.W.kitOne K (.ref aRule) (.type t) = some false := fun t ht => by
    simp only [List.mem_cons, List.not_mem_nil, or_false] at ht
    rcases ht with rfl | rfl | rfl | rfl | rfl | rfl
    · exact kit_refT (by decide +kernel) bintRule
    · exact kit_refT (by decide +kernel) bboolRule
    · exact kit_refT (by decide +kernel) bstrRule
    · exact kit_refT (by decide +kernel) blistRule
    · exact kit_refT (by decide +kernel) btupleRule
    · exact kit_refT (by decide +kernel) bdictRule
  have cl_Rule : Cls K aRule := ⟨pgRule, hdRule, poRule, saRule⟩
  have icRule : IC K aRule := ⟨cl_Rule, haRule, hn, ht, hmRule, btRule⟩
  have btPlace : ∀ t : String, t ∈ ["int", "bool", "str", "list", "tuple", "dict"] → PySem.W.kitOne K (.ref aPlace) (.type t) = some false := fun t ht => by
    simp only [List.mem_cons, List.not_mem_nil, or_false] at ht
    rcases ht with rfl | rfl | rfl | rfl | rfl | rfl
    · exact kit_refT (by decide +kernel) bintPlace
    · exact kit_refT (by decide +kernel) bboolPlace
    · exact kit_refT (by decide +kernel) bstrPlace
    · exact kit_refT (by decide +kernel) blistPlace
    · exact kit_refT (by decide +kernel) btuplePlace
    · exact kit_refT (by decide +kernel) bdictPlace
  have cl_Place : Cls K aPlace := ⟨pgPlace, hdPlace, poPlace, saPlace⟩
  have icPlace : IC K aPlace := ⟨cl_Place, haPlace, hn, ht, hmPlace, btPlace⟩
  have tbRule : ∀ t : String, t ∈ TY7 → PySem.W.kitOne K (.type t) (.ref aRule) = some false := fun t ht => by
    unfold TY7 at ht
    simp only [List.mem_cons, List.not_mem_nil, or_false] at ht
    rcases ht with rfl | rfl | rfl | rfl | rfl | rfl | rfl
    · exact LE2.kit_tyF clRule tyRule sintRule
    · exact LE2.kit_tyF clRule tyRule sboolRule
    · exact LE2.kit_tyF clRule tyRule sstrRule
    · exact LE2.kit_tyF clRule tyRule sNoneTypeRule
    · exact LE2.kit_tyF clRule tyRule slistRule
    · exact LE2.kit_tyF clRule tyRule stupleRule
    · exact LE2.kit_tyF clRule tyRule sdictRule
  have tbPlace : ∀ t : String, t ∈ TY7 → PySem.W.kitOne K (.type t) (.ref aPlace) = some false := fun t ht => by
    unfold TY7 at ht
    simp only [List.mem_cons, List.not_mem_nil, or_false] at ht
    rcases ht with rfl | rfl | rfl | rfl | rfl | rfl | rfl
    · exact LE2.kit_tyF clPlace tyPlace sintPlace
    · exact LE2.kit_tyF clPlace tyPlace sboolPlace
    · exact LE2.kit_tyF clPlace tyPlace sstrPlace
    · exact LE2.kit_tyF clPlace tyPlace sNoneTypePlace
    · exact LE2.kit_tyF clPlace tyPlace slistPlace
    · exact LE2.kit_tyF clPlace tyPlace stuplePlace
    · exact LE2.kit_tyF clPlace tyPlace sdictPlace
  have KN : Kn K mg a := ⟨⟨cl_Window, nWindow_text, nWindow_forms, nWindow_period, nWindow_bend⟩, icWindow, icRule, icPlace, nWindowwidth, nPlacename, nPlaceserver, nPlaceelder, nPlacememory, nPlacecustomer, nRulename, nRulechips, nRulerest, ⟨pgTree, hdTree, poTree, saTree⟩, nTreerule, nTree_places, nTree_children, nTree_tops, PySem.W.mg_of X G aRest, PySem.W.mg_of X G a_Window, PySem.W.mg_of X G a_Rule, PySem.W.mg_of X G a_Place, PySem.W.mg_of X G a_Tree, ⟨mkWindow, fiWindow, isfWindow_init, kpWindow⟩, ⟨mkRule, fiRule, iRule_init, kpRule⟩, ⟨mkPlace, fiPlace, iPlace_init, kpPlace⟩, ⟨mkTree, fiTree, iTree_init, kpTree⟩, LS.kit_own xRest tyR isWindow, LE2.kit_ref clRule tyRule ssRule ssRule, LE2.kit_ref clPlace tyPlace ssPlace ssPlace, LE2.kit_ref clRule tyRule ssWindow oWindowRule, LE2.kit_ref clRule tyRule ssPlace oPlaceRule, LE2.kit_ref clPlace tyPlace ssWindow oWindowPlace, LE2.kit_ref clPlace tyPlace ssRule oRulePlace, tbRule, tbPlace, mWindoweq, iRest_eq, mPlaceeq, iPlace_eq, ⟨mTreeplaces, iTree_places, kTree_places⟩, kTree_places, mTreelen, iTree_len⟩
  have UWindow_init : LS.SupF l.prog K (FWindow_init ccWindow_init cWindow_init) fWindow_init aWindow fRi "__init__" := ⟨⟨_, _, _, _, _, _, lWindow_init⟩, cdWindow_init, ⟨_, _, _, _, _, _, lcWindow_init, vfWindow_init, ffWindow_init⟩, ⟨_, _, _, _, rfl, llWindow_init⟩, ⟨_, LS.cls_of xWindow⟩, mrWindow, LS.sup_of xWindow moWindow xRest ffRi, tyfR, opq, fiR, tp⟩
  have eruna := LX.exm_self exInvalidName clInvalidName tyInvalidName eruna
  have eplna := LX.exm_self exInvalidName clInvalidName tyInvalidName eplna
  have ebtna := LX.exm_self exInvalidName clInvalidName tyInvalidName ebtna
  have etmna := LX.exm_self exInvalidName clInvalidName tyInvalidName etmna
  have eplru := LX.exm_self exInvalidRule clInvalidRule tyInvalidRule eplru
  have ebtru := LX.exm_self exInvalidRule clInvalidRule tyInvalidRule ebtru
  have etmru := LX.exm_self exInvalidRule clInvalidRule tyInvalidRule etmru
  have ebtpl := LX.exm_self exInvalidPlace clInvalidPlace tyInvalidPlace ebtpl
  have etmpl := LX.exm_self exInvalidPlace clInvalidPlace tyInvalidPlace etmpl
  have etmbt := LX.exm_self exBadTree clBadTree tyBadTree etmbt
  have gSE : mg "SureletError" = some (.ref aSE) := PySem.W.mg_of X G aSure
  let cs : List (Addr × Addr) := [(coplace_so, ptplace_so), (coso, ptso)]
  let Tb : List (Addr × Str) := [(ptplace_so, (("_law_place_so" : Str) ++ ".<locals>." ++ "<lambda>")), (ptso, (("_law_so" : Str) ++ ".<locals>." ++ "<lambda>"))]
  have nplace_soso : ptplace_so ≠ ptso := fun z => by rw [z] at npt; simp at npt
  have hmplace_so : (ptplace_so, (("_law_place_so" : Str) ++ ".<locals>." ++ "<lambda>")) ∈ Tb := by simp [Tb]
  have huplace_so : ∀ p ∈ Tb, p.1 = ptplace_so → p.2 = (("_law_place_so" : Str) ++ ".<locals>." ++ "<lambda>") := fun p hp e => by
    simp only [Tb, List.mem_cons, List.not_mem_nil, or_false] at hp
    rcases hp with rfl | rfl
    · rfl
    · exact absurd e (Ne.symm nplace_soso)
  have hmso : (ptso, (("_law_so" : Str) ++ ".<locals>." ++ "<lambda>")) ∈ Tb := by simp [Tb]
  have huso : ∀ p ∈ Tb, p.1 = ptso → p.2 = (("_law_so" : Str) ++ ".<locals>." ++ "<lambda>") := fun p hp e => by
    simp only [Tb, List.mem_cons, List.not_mem_nil, or_false] at hp
    rcases hp with rfl | rfl
    · exact absurd e nplace_soso
    · rfl
  refine ⟨PySem.W.fnOf "law" "law" (defArgs slaw) (defBody slaw) (defScope slaw) .none kVlaw dclaw pmlaw anlaw cdlaw ctlaw, cs, splaw K Tb, fun p hp => ?_, fun p hp => ?_, fun p hp => ?_, fun s v => .of_eq rfl, fun H a ns hl _ hH hS => ⟨a, ns, rfl, hS, hl, fun p hp => ?_, fun _ => rfl⟩, fun base _ _ TBs => ?_⟩
  · simp only [cs, List.mem_cons, List.not_mem_nil, or_false] at hp
    rcases hp with rfl | rfl
    · exact own "_law_place_so" (by simp) _ (PySem.W.mg_of X G aplace_so) _ _ _ _ _ _ _ _ lplace_so rfl rfl lcplace_so vpplace_so
    · exact own "_law_so" (by simp) _ (PySem.W.mg_of X G aso) _ _ _ _ _ _ _ _ lso rfl rfl lcso vpso
  · simp only [cs, List.mem_cons, List.not_mem_nil, or_false] at hp
    rcases hp with rfl | rfl
    · exact npplace_so
    · exact npso
  · simp only [cs, List.mem_cons, List.not_mem_nil, or_false] at hp
    rcases hp with rfl | rfl
    · exact PySem.W.codeHd_of_K X (LE2.hd_of lcplace_so hdplace_so)
    · exact PySem.W.codeHd_of_K X (LE2.hd_of lcso hdso)
  · simp only [Tb, List.mem_cons, List.not_mem_nil, or_false] at hp
    rcases hp with rfl | rfl
    · exact LamX.TabS.nil (hH (coplace_so, ptplace_so) (by simp [cs]))
    · exact LamX.TabS.nil (hH (coso, ptso) (by simp [cs]))
  have FInvalidName_init := fun_mk (st := sInvalidName_init) lInvalidName_init cInvalidName_init kInvalidName_init
  have oxInvalidName : OexC K aInvalidName := ⟨⟨_, _, _, _, _, _, _, _, _, _, _, _, _, _, _, xInvalidName, refs_ve _⟩, saInvalidName, exInvalidName, tyInvalidName, kpInvalidName⟩
  have RInvalidName : RE l.prog w K mg base "InvalidName" "value" (ivF "InvalidName") ce.na fInvalidName_init _ := ⟨⟨oxInvalidName, inInvalidName, tiInvalidName, PySem.W.mg_of X G a_InvalidName, ⟨gaInvalidName, ggInvalidName, exInvalidName, hdInvalidName⟩, LX.exm_self exInvalidName clInvalidName tyInvalidName ssInvalidName, LX.no_cons nvalueInvalidName (LX.no_cons ncodeInvalidName LX.no_nil)⟩, ok_InvalidName_init FInvalidName_init T oxInvalidName nvalueInvalidName ncodeInvalidName, FInvalidName_init.binds (ps := PInvalidName_init) fun _ _ _ _ _ _ us hl => match us, hl with | [_, _], _ => rfl⟩
  have FInvalidRule_init := fun_mk (st := sInvalidRule_init) lInvalidRule_init cInvalidRule_init kInvalidRule_init
  have oxInvalidRule : OexC K aInvalidRule := ⟨⟨_, _, _, _, _, _, _, _, _, _, _, _, _, _, _, xInvalidRule, refs_ve _⟩, saInvalidRule, exInvalidRule, tyInvalidRule, kpInvalidRule⟩
  have RInvalidRule : RE l.prog w K mg base "InvalidRule" "value" (ivF "InvalidRule") ce.ru fInvalidRule_init _ := ⟨⟨oxInvalidRule, inInvalidRule, tiInvalidRule, PySem.W.mg_of X G a_InvalidRule, ⟨gaInvalidRule, ggInvalidRule, exInvalidRule, hdInvalidRule⟩, LX.exm_self exInvalidRule clInvalidRule tyInvalidRule ssInvalidRule, LX.no_cons nvalueInvalidRule (LX.no_cons ncodeInvalidRule LX.no_nil)⟩, ok_InvalidRule_init FInvalidRule_init T oxInvalidRule nvalueInvalidRule ncodeInvalidRule, FInvalidRule_init.binds (ps := PInvalidRule_init) fun _ _ _ _ _ _ us hl => match us, hl with | [_, _], _ => rfl⟩
  have FInvalidPlace_init := fun_mk (st := sInvalidPlace_init) lInvalidPlace_init cInvalidPlace_init kInvalidPlace_init
  have oxInvalidPlace : OexC K aInvalidPlace := ⟨⟨_, _, _, _, _, _, _, _, _, _, _, _, _, _, _, xInvalidPlace, refs_ve _⟩, saInvalidPlace, exInvalidPlace, tyInvalidPlace, kpInvalidPlace⟩
  have RInvalidPlace : RE l.prog w K mg base "InvalidPlace" "at" (atF "InvalidPlace") ce.pl fInvalidPlace_init _ := ⟨⟨oxInvalidPlace, inInvalidPlace, tiInvalidPlace, PySem.W.mg_of X G a_InvalidPlace, ⟨gaInvalidPlace, ggInvalidPlace, exInvalidPlace, hdInvalidPlace⟩, LX.exm_self exInvalidPlace clInvalidPlace tyInvalidPlace ssInvalidPlace, LX.no_cons natInvalidPlace (LX.no_cons ncodeInvalidPlace LX.no_nil)⟩, ok_InvalidPlace_init FInvalidPlace_init T oxInvalidPlace natInvalidPlace ncodeInvalidPlace, FInvalidPlace_init.binds (ps := PInvalidPlace_init) fun _ _ _ _ _ _ us hl => match us, hl with | [_, _], _ => rfl⟩
  have FBadTree_init := fun_mk (st := sBadTree_init) lBadTree_init cBadTree_init kBadTree_init
  have oxBadTree : OexC K aBadTree := ⟨⟨_, _, _, _, _, _, _, _, _, _, _, _, _, _, _, xBadTree, refs_ve _⟩, saBadTree, exBadTree, tyBadTree, kpBadTree⟩
  have RBadTree : RE l.prog w K mg base "BadTree" "place" (plcF "BadTree") ce.bt fBadTree_init _ := ⟨⟨oxBadTree, inBadTree, tiBadTree, PySem.W.mg_of X G a_BadTree, ⟨gaBadTree, ggBadTree, exBadTree, hdBadTree⟩, LX.exm_self exBadTree clBadTree tyBadTree ssBadTree, LX.no_cons nplaceBadTree (LX.no_cons ncodeBadTree LX.no_nil)⟩, ok_BadTree_init FBadTree_init T oxBadTree nplaceBadTree ncodeBadTree, FBadTree_init.binds (ps := PBadTree_init) fun _ _ _ _ _ _ us hl => match us, hl with | [_, _], _ => rfl⟩
  have FTooMany_init := fun_mk (st := sTooMany_init) lTooMany_init cTooMany_init kTooMany_init
  have oxTooMany : OexC K aTooMany := ⟨⟨_, _, _, _, _, _, _, _, _, _, _, _, _, _, _, xTooMany, refs_ve _⟩, saTooMany, exTooMany, tyTooMany, kpTooMany⟩
  have RTooMany : RTM l.prog w K mg base ce.tm fTooMany_init _ := ⟨⟨oxTooMany, inTooMany, tiTooMany, PySem.W.mg_of X G a_TooMany, ⟨gaTooMany, ggTooMany, exTooMany, hdTooMany⟩, LX.exm_self exTooMany clTooMany tyTooMany ssTooMany, LX.no_cons nwhatTooMany (LX.no_cons ncountTooMany (LX.no_cons ncodeTooMany LX.no_nil))⟩, ok_TooMany_init FTooMany_init T oxTooMany nwhatTooMany ncountTooMany ncodeTooMany, FTooMany_init.binds (ps := PTooMany_init) fun _ _ _ _ _ _ us hl => match us, hl with | [_, _, _], _ => rfl⟩
  have Gcheck_count := ok_check_count (P := l.prog) (w := w) (base := base) Dcheck_count T RTooMany
  have Gis_whole := ok_is_whole (P := l.prog) (w := w) (base := base) Dis_whole T
  have Gis_number := ok_is_number (P := l.prog) (w := w) (base := base) Dis_number T Dis_whole Gis_whole
  have Gis_name := ok_is_name (P := l.prog) (w := w) (base := base) Dis_name T KN
  have FRest_init := fun_mk (st := sRest_init) lRest_init cRest_init kRest_init
  have BRest_init := FRest_init.binds (ps := PRest_init) fun _ _ _ _ _ _ us hl => match us, hl with | [_, _, _, _, _], _ => rfl
  have GRest_init := ok_Rest_init (P := l.prog) (w := w) (base := base) FRest_init T KN
  have RI : FnR l.prog w K mg base CX0 1 fRi (spRest_init K a) := LC.raw0 GRest_init BRest_init
  have FRest_eq := fun_mk (st := sRest_eq) lRest_eq cRest_eq kRest_eq
  have BRest_eq := FRest_eq.binds (ps := PRest_eq) fun _ _ _ _ _ _ us hl => match us, hl with | [_, _], _ => rfl
  have GRest_eq := ok_Rest_eq (P := l.prog) (w := w) (base := base) FRest_eq T KN
  have OE : FnR l.prog w K mg base CX0 1 fE (spRest_eq a) := LC.raw0 GRest_eq BRest_eq
  have GWindow_init := ok_Window_init (P := l.prog) (w := w) (base := base) T KN RI Dis_number Gis_number UWindow_init lWindow_init
  have BWindow_init : Binds K ((FWindow_init ccWindow_init cWindow_init).fd dcWindow_init pmWindow_init ctWindow_init) PWindow_init [] := Binds.all fun us hl => match us, hl with | [_, _], _ => rfl
  have IWindow : FnR l.prog w K mg base CX0 3 fWindow_init (spWindow_init K a) := LC.raw0 GWindow_init BWindow_init
  have FRule_init := fun_mk (st := sRule_init) lRule_init cRule_init kRule_init
  have BRule_init := FRule_init.binds (ps := PRule_init) fun _ _ _ _ _ _ us hl => match us, hl with | [_, _, _, _], _ => rfl
  have GRule_init := ok_Rule_init (P := l.prog) (w := w) (base := base) FRule_init T KN Dis_number Gis_number Dis_name Gis_name
  have IRule : FnR l.prog w K mg base CX0 3 fRule_init (spRule_init a) := LC.raw0 GRule_init BRule_init
  have FPlace_init : FunD K "__init__" "Place.__init__" (defArgs sPlace_init) (defBody sPlace_init) (defScope sPlace_init) [V.non] [("memory", V.bl false), ("customer", V.non)] fPlace_init _ := ⟨⟨_, _, _, _, _, _, _, _, _, _, rfl, lPlace_init, cPlace_init, .inr ⟨List.cons_ne_nil _ _, Tj, _, [.none], nTj, rfl, lTj, by rw [vTj], .cons rfl .nil⟩, .inr ⟨Dj, rfl, fun q hq => by
      simp only [List.mem_cons, List.not_mem_nil, or_false] at hq
      rcases hq with rfl | rfl
      · exact ⟨_, dmem, rfl⟩
      · exact ⟨_, dcus, rfl⟩⟩⟩, kPlace_init⟩
  have GPlace := ok_Place_init (P := l.prog) (w := w) (base := base) FPlace_init T KN RInvalidName Dis_name Gis_name
  obtain ⟨⟨d2, v2, b2⟩, ⟨d3, v3, b3⟩, ⟨g5, KB5⟩, ⟨g2, KB2⟩⟩ := place_binds FPlace_init
  have IP2 := GPlace.raw b2 v2
  have IP3 := GPlace.raw b3 v3
  have FPlace_eq := fun_mk (st := sPlace_eq) lPlace_eq cPlace_eq kPlace_eq
  have BPlace_eq := FPlace_eq.binds (ps := PPlace_eq) fun _ _ _ _ _ _ us hl => match us, hl with | [_, _], _ => rfl
  have GPlace_eq := ok_Place_eq (P := l.prog) (w := w) (base := base) FPlace_eq T KN
  have OP : FnR l.prog w K mg base CX0 1 fPlace_eq (spPlace_eq a) := LC.raw0 GPlace_eq BPlace_eq
  have Gis_misplaced := ok_is_misplaced (P := l.prog) (w := w) (base := base) Dis_misplaced T KN
  have Gplaces_by_name := ok_places_by_name (P := l.prog) (w := w) (base := base) Dplaces_by_name T KN RBadTree Dis_misplaced Gis_misplaced
  have FTree_places := fun_mk (st := sTree_places) lTree_places cTree_places kTree_places
  have BTree_places := FTree_places.binds (ps := PTree_places) fun _ _ _ _ _ _ us hl => match us, hl with | [_], _ => rfl
  have GTree_places := ok_Tree_places (P := l.prog) (w := w) (base := base) FTree_places T KN
  have RTp : FnR l.prog w K mg base CX0 1 fTree_places (spTree_places a) := LC.raw0 GTree_places BTree_places
  have FTree_len := fun_mk (st := sTree_len) lTree_len cTree_len kTree_len
  have BTree_len := FTree_len.binds (ps := PTree_len) fun _ _ _ _ _ _ us hl => match us, hl with | [_], _ => rfl
  have GTree_len := ok_Tree_len (P := l.prog) (w := w) (base := base) FTree_len T KN
  have OLn : FnR l.prog w K mg base CX0 1 fTree_len (spTree_len a) := LC.raw0 GTree_len BTree_len
  have FTree_init := fun_mk (st := sTree_init) lTree_init cTree_init kTree_init
  have ITree := ok_Tree_init (P := l.prog) (w := w) (base := base) FTree_init T KN RInvalidRule RInvalidPlace RBadTree RTooMany Dplaces_by_name Gplaces_by_name Dcheck_count Gcheck_count
  have Gbag := ok_bag (P := l.prog) (w := w) (base := base) Dbag T
  have Gdraw := ok_draw (P := l.prog) (w := w) (base := base) Ddraw T
  have Gof := ok_of (P := l.prog) (w := w) (base := base) Dof T Ddraw Gdraw
  have Glike := ok_like (P := l.prog) (w := w) (base := base) Dlike T KN OE OP
  have Godd := ok_odd (P := l.prog) (w := w) (base := base) Dodd T Ddraw Gdraw Dof Gof
  have Gname := ok_name (P := l.prog) (w := w) (base := base) Dname T Dof Gof
  have Gnames := ok_names (P := l.prog) (w := w) (base := base) Dnames T Dname Gname
  have Gplaces := ok_places (P := l.prog) (w := w) (base := base) Dplaces T Ddraw Gdraw Dof Gof Dname Gname
  have Gplace := ok_place (P := l.prog) (w := w) (base := base) Dplace T KN GPlace IP2 IP3 KB5 KB2 Ddraw Gdraw
  have Gtree := ok_tree (P := l.prog) (w := w) (base := base) Dtree T KN ITree
  have Grow := ok_row (P := l.prog) (w := w) (base := base) Drow T KN
  have Gat_fault := ok_at_fault (P := l.prog) (w := w) (base := base) Dat_fault T
  have Gdue := ok_due (P := l.prog) (w := w) (base := base) Ddue T Dat_fault Gat_fault
  have Gbent := ok_bent (P := l.prog) (w := w) (base := base) Dbent T Ddraw Gdraw Dof Gof
  have Gsize := ok_size (P := l.prog) (w := w) (base := base) Dsize T Dof Gof Dbent Gbent
  have Gnamed := ok_named (P := l.prog) (w := w) (base := base) Dnamed T KN
  have TBplace_so : LamX.TabB base mg coplace_so ptplace_so := TBs (coplace_so, ptplace_so) (by simp [cs])
  have Gplace_so := ok_place_so (P := l.prog) (w := w) (base := base) lplace_so cplace_so TBplace_so T KN RInvalidName RInvalidRule RInvalidPlace RBadTree RTooMany Dask eruna eplna ebtna etmna eplru ebtru etmru ebtpl etmpl etmbt gSE IWindow Dplace Gplace hmplace_so huplace_so Dof Gof Dlike Glike Dodd Godd Drow Grow Dnamed Gnamed
  have TBso : LamX.TabB base mg coso ptso := TBs (coso, ptso) (by simp [cs])
  have Gso := ok_so (P := l.prog) (w := w) (base := base) lso cso TBso T KN RInvalidName RInvalidRule RInvalidPlace RBadTree RTooMany Dask eruna eplna ebtna etmna eplru ebtru etmru ebtpl etmpl etmbt gSE IWindow IRule Dplace Gplace Dtree Gtree RTp OLn hmso huso Ddraw Gdraw Dof Gof Dlike Glike Dodd Godd Dplace Gplace Dtree Gtree Drow Grow Ddue Gdue Dsize Gsize
  have Glaw := ok_law (P := l.prog) (w := w) (base := base) Dlaw T (a := a) Dbag Gbag Dof Gof Dnames Gnames Dplaces Gplaces Dplace_so Gplace_so Dso Gso
  exact Glaw
open PySem.Spec PyProof.Rows in
theorem walk {l : PySem.W.OpenLaw} {q : Program} {loose : List Str} {XP : (Str → Option Value) → Heap → Prop} {YP : World → Heap → Prop} {d : DefRec} {K : Params → PySem.W.Frag} (hn : l.most = some 63) (hdf : d.params.defaults = [])
    (hrec : ∀ nm : Str, (nm = "_law_place_so" ∨ nm = "_law_so") → ((recsOf q).any fun e => e.name == nm) = true) (hY : ∀ (w : World) (h : Heap), YP w h → (K w.params).In h)
    (F : ∀ (w : World) (mg : Str → Option Value) (fa : Addr) (h : Heap), (K w.params).In h → h.Ns mainGlobals mg → mg d.name = some (.ref fa) → (∀ nm : Str, (nm = "_law_place_so" ∨ nm = "_law_so") → ∀ fb, mg nm = some (.ref fb) → LamX.OwnTab (K w.params) fb h) → LamX.LawAtS l w (K w.params) CX0 12 63 "_law_script" mg fa h) :
    PySem.W.WalkO q loose XP YP l.row.toRowW d [] (fun f vs => PySem.call f vs) :=
  LE2.walk_own2 (CX := fun _ => CX0) hn (by decide) hdf ⟨rfl, by decide, by decide⟩ hrec hY (fun w mg fa h Y KX G e own => F w mg fa h KX G e own) fun _ _ _ _ _ z => z
end k12
open PySem PySem.W PyProof.Rows
set_option maxRecDepth 100000 in
set_option maxHeartbeats 0 in
theorem PySem.Challenge.cw_surelet_k12_whole_trees_refused_holds : PySem.Challenge.rw_surelet_k12_whole_trees_refused.Holds := by
  w_on; o_law; k_head; (case hw => w_witness2)
  k_fill
  refine k12.walk (l := PySem.Challenge.rw_surelet_k12_whole_trees_refused) rfl rfl ?hrec (fun w h Y => PySem.W.km_in_of Y) ?F
  case hrec =>
    intro nm hnm
    rcases hnm with rfl | rfl
    all_goals decide +kernel
  case F =>
    intro w mg fa h KX G hmg own
    refine' k12.all_mk KX G hmg ?acheck_count ?lcheck_count ?ccheck_count ?kcheck_count ?ais_whole ?lis_whole ?cis_whole ?kis_whole ?ais_number ?lis_number ?cis_number ?kis_number ?ais_name ?lis_name ?cis_name ?kis_name ?ais_misplaced ?lis_misplaced ?cis_misplaced ?kis_misplaced ?aplaces_by_name ?lplaces_by_name ?cplaces_by_name ?kplaces_by_name ?abag ?lbag ?cbag ?kbag ?adraw ?ldraw ?cdraw ?kdraw ?aof ?lof ?cof ?kof ?alike ?llike ?clike ?klike ?aodd ?lodd ?codd ?kodd ?aname ?lname ?cname ?kname ?anames ?lnames ?cnames ?knames ?aplaces ?lplaces ?cplaces ?kplaces ?aplace ?lplace ?cplace ?kplace ?atree ?ltree ?ctree ?ktree ?arow ?lrow ?crow ?krow ?aask ?lask ?cask ?kask ?aat_fault ?lat_fault ?cat_fault ?kat_fault ?adue ?ldue ?cdue ?kdue ?abent ?lbent ?cbent ?kbent ?asize ?lsize ?csize ?ksize ?anamed ?lnamed ?cnamed ?knamed ?aplace_so ?lplace_so ?cplace_so ?kplace_so ?lcplace_so ?vpplace_so ?hdplace_so ?npplace_so ?aso ?lso ?cso ?kso ?lcso ?vpso ?hdso ?npso ?alaw ?llaw ?claw ?klaw ?zall ?zany ?zbool ?zdict ?zenumerate ?zint ?zisinstance ?zlen ?zlist ?zmin ?zrange ?zstr ?zsuper ?ztuple ?zzip ?yDIGITS ?yLETTERS ?yMOST_PLACES ?yMOST_SIZE ?aRest ?xRest ?tyR ?clR ?ffRi ?lRest_init ?cRest_init ?kRest_init ?iRest_init ?ffE ?lRest_eq ?cRest_eq ?kRest_eq ?iRest_eq ?tyfR ?fiR ?opq ?tp ?a_Window ?tyWindow ?clWindow ?pgWindow ?hdWindow ?poWindow ?saWindow ?mkWindow ?kpWindow ?fiWindow ?nWindow_text ?nWindow_forms ?nWindow_period ?nWindow_bend ?nWindowwidth ?haWindow ?hmWindow ?ssWindow ?bintWindow ?bboolWindow ?bstrWindow ?blistWindow ?btupleWindow ?bdictWindow ?lWindow_init ?lcWindow_init ?vfWindow_init ?ffWindow_init ?llWindow_init ?cdWindow_init ?isfWindow_init ?xWindow ?mrWindow ?moWindow ?mWindoweq ?isWindow ?a_Rule ?tyRule ?clRule ?pgRule ?hdRule ?poRule ?saRule ?mkRule ?kpRule ?fiRule ?nRulename ?nRulechips ?nRulerest ?haRule ?hmRule ?ssRule ?bintRule ?bboolRule ?bstrRule ?blistRule ?btupleRule ?bdictRule ?lRule_init ?cRule_init ?kRule_init ?iRule_init ?a_Place ?tyPlace ?clPlace ?pgPlace ?hdPlace ?poPlace ?saPlace ?mkPlace ?kpPlace ?fiPlace ?nPlacename ?nPlaceserver ?nPlaceelder ?nPlacememory ?nPlacecustomer ?haPlace ?hmPlace ?ssPlace ?bintPlace ?bboolPlace ?bstrPlace ?blistPlace ?btuplePlace ?bdictPlace ?lPlace_init ?cPlace_init ?kPlace_init ?iPlace_init ?lTj ?vTj ?dmem ?dcus ?mPlaceeq ?lPlace_eq ?cPlace_eq ?kPlace_eq ?iPlace_eq ?a_Tree ?tyTree ?clTree ?pgTree ?hdTree ?poTree ?saTree ?mkTree ?kpTree ?fiTree ?nTreerule ?nTree_places ?nTree_children ?nTree_tops ?lTree_init ?cTree_init ?kTree_init ?iTree_init ?mTreeplaces ?lTree_places ?cTree_places ?kTree_places ?iTree_places ?mTreelen ?lTree_len ?cTree_len ?kTree_len ?iTree_len ?oWindowRule ?oPlaceRule ?oWindowPlace ?oRulePlace ?sintRule ?sintPlace ?sboolRule ?sboolPlace ?sstrRule ?sstrPlace ?sNoneTypeRule ?sNoneTypePlace ?slistRule ?slistPlace ?stupleRule ?stuplePlace ?sdictRule ?sdictPlace ?hn ?ht ?a_InvalidName ?xInvalidName ?saInvalidName ?exInvalidName ?tyInvalidName ?kpInvalidName ?inInvalidName ?tiInvalidName ?gaInvalidName ?ggInvalidName ?hdInvalidName ?clInvalidName ?ssInvalidName ?nvalueInvalidName ?ncodeInvalidName ?lInvalidName_init ?cInvalidName_init ?kInvalidName_init ?iInvalidName_init ?a_InvalidRule ?xInvalidRule ?saInvalidRule ?exInvalidRule ?tyInvalidRule ?kpInvalidRule ?inInvalidRule ?tiInvalidRule ?gaInvalidRule ?ggInvalidRule ?hdInvalidRule ?clInvalidRule ?ssInvalidRule ?nvalueInvalidRule ?ncodeInvalidRule ?lInvalidRule_init ?cInvalidRule_init ?kInvalidRule_init ?iInvalidRule_init ?a_InvalidPlace ?xInvalidPlace ?saInvalidPlace ?exInvalidPlace ?tyInvalidPlace ?kpInvalidPlace ?inInvalidPlace ?tiInvalidPlace ?gaInvalidPlace ?ggInvalidPlace ?hdInvalidPlace ?clInvalidPlace ?ssInvalidPlace ?natInvalidPlace ?ncodeInvalidPlace ?lInvalidPlace_init ?cInvalidPlace_init ?kInvalidPlace_init ?iInvalidPlace_init ?a_BadTree ?xBadTree ?saBadTree ?exBadTree ?tyBadTree ?kpBadTree ?inBadTree ?tiBadTree ?gaBadTree ?ggBadTree ?hdBadTree ?clBadTree ?ssBadTree ?nplaceBadTree ?ncodeBadTree ?lBadTree_init ?cBadTree_init ?kBadTree_init ?iBadTree_init ?a_TooMany ?xTooMany ?saTooMany ?exTooMany ?tyTooMany ?kpTooMany ?inTooMany ?tiTooMany ?gaTooMany ?ggTooMany ?hdTooMany ?clTooMany ?ssTooMany ?nwhatTooMany ?ncountTooMany ?ncodeTooMany ?lTooMany_init ?cTooMany_init ?kTooMany_init ?iTooMany_init ?eruna ?eplna ?ebtna ?etmna ?eplru ?ebtru ?etmru ?ebtpl ?etmpl ?etmbt ?aSure ?npt own
    (case acheck_count => k_is)
    (case lcheck_count => k_is)
    (case ccheck_count => k_is)
    (case kcheck_count => k_is)
    (case ais_whole => k_is)
    (case lis_whole => k_is)
    (case cis_whole => k_is)
    (case kis_whole => k_is)
    (case ais_number => k_is)
    (case lis_number => k_is)
    (case cis_number => k_is)
    (case kis_number => k_is)
    (case ais_name => k_is)
    (case lis_name => k_is)
    (case cis_name => k_is)
    (case kis_name => k_is)
    (case ais_misplaced => k_is)
    (case lis_misplaced => k_is)
    (case cis_misplaced => k_is)
    (case kis_misplaced => k_is)
    (case aplaces_by_name => k_is)
    (case lplaces_by_name => k_is)
    (case cplaces_by_name => k_is)
    (case kplaces_by_name => k_is)
    (case abag => k_is)
    (case lbag => k_is)
    (case cbag => k_is)
    (case kbag => k_is)
    (case adraw => k_is)
    (case ldraw => k_is)
    (case cdraw => k_is)
    (case kdraw => k_is)
    (case aof => k_is)
    (case lof => k_is)
    (case cof => k_is)
    (case kof => k_is)
    (case alike => k_is)
    (case llike => k_is)
    (case clike => k_is)
    (case klike => k_is)
    (case aodd => k_is)
    (case lodd => k_is)
    (case codd => k_is)
    (case kodd => k_is)
    (case aname => k_is)
    (case lname => k_is)
    (case cname => k_is)
    (case kname => k_is)
    (case anames => k_is)
    (case lnames => k_is)
    (case cnames => k_is)
    (case knames => k_is)
    (case aplaces => k_is)
    (case lplaces => k_is)
    (case cplaces => k_is)
    (case kplaces => k_is)
    (case aplace => k_is)
    (case lplace => k_is)
    (case cplace => k_is)
    (case kplace => k_is)
    (case atree => k_is)
    (case ltree => k_is)
    (case ctree => k_is)
    (case ktree => k_is)
    (case arow => k_is)
    (case lrow => k_is)
    (case crow => k_is)
    (case krow => k_is)
    (case aask => k_is)
    (case lask => k_is)
    (case cask => k_is)
    (case kask => k_is)
    (case aat_fault => k_is)
    (case lat_fault => k_is)
    (case cat_fault => k_is)
    (case kat_fault => k_is)
    (case adue => k_is)
    (case ldue => k_is)
    (case cdue => k_is)
    (case kdue => k_is)
    (case abent => k_is)
    (case lbent => k_is)
    (case cbent => k_is)
    (case kbent => k_is)
    (case asize => k_is)
    (case lsize => k_is)
    (case csize => k_is)
    (case ksize => k_is)
    (case anamed => k_is)
    (case lnamed => k_is)
    (case cnamed => k_is)
    (case knamed => k_is)
    (case aplace_so => k_is)
    (case lplace_so => k_is)
    (case cplace_so => k_is)
    (case kplace_so => k_is)
    (case lcplace_so => k_is)
    (case vpplace_so => rfl)
    (case hdplace_so => rfl)
    (case npplace_so => (first | kernel_rfl | rfl | decide +kernel))
    (case aso => k_is)
    (case lso => k_is)
    (case cso => k_is)
    (case kso => k_is)
    (case lcso => k_is)
    (case vpso => rfl)
    (case hdso => rfl)
    (case npso => (first | kernel_rfl | rfl | decide +kernel))
    (case alaw => k_is)
    (case llaw => k_is)
    (case claw => k_is)
    (case klaw => k_is)
    (case zall => k_is)
    (case zany => k_is)
    (case zbool => k_is)
    (case zdict => k_is)
    (case zenumerate => k_is)
    (case zint => k_is)
    (case zisinstance => k_is)
    (case zlen => k_is)
    (case zlist => k_is)
    (case zmin => k_is)
    (case zrange => k_is)
    (case zstr => k_is)
    (case zsuper => k_is)
    (case ztuple => k_is)
    (case zzip => k_is)
    (case yDIGITS => k_is)
    (case yLETTERS => k_is)
    (case yMOST_PLACES => k_is)
    (case yMOST_SIZE => k_is)
    (case aRest => k_is)
    (case xRest => k_is)
    (case tyR => k_is)
    (case clR => k_is)
    (case ffRi => k_is)
    (case lRest_init => k_is)
    (case cRest_init => k_is)
    (case kRest_init => k_is)
    (case iRest_init => k_is)
    (case ffE => k_is)
    (case lRest_eq => k_is)
    (case cRest_eq => k_is)
    (case kRest_eq => k_is)
    (case iRest_eq => k_is)
    (case tyfR => k_is)
    (case fiR => k_is)
    (case opq => k_is)
    (case tp => rfl)
    (case a_Window => k_is)
    (case tyWindow => k_is)
    (case clWindow => k_is)
    (case pgWindow => k_is)
    (case hdWindow => k_is)
    (case poWindow => k_is)
    (case saWindow => k_is)
    (case mkWindow => k_is)
    (case kpWindow => k_is)
    (case fiWindow => k_is)
    (case nWindow_text => k_is)
    (case nWindow_forms => k_is)
    (case nWindow_period => k_is)
    (case nWindow_bend => k_is)
    (case nWindowwidth => k_is)
    (case haWindow => k_is)
    (case hmWindow => k_is)
    (case ssWindow => k_is)
    (case bintWindow => k_is)
    (case bboolWindow => k_is)
    (case bstrWindow => k_is)
    (case blistWindow => k_is)
    (case btupleWindow => k_is)
    (case bdictWindow => k_is)
    (case lWindow_init => k_is)
    (case lcWindow_init => k_is)
    (case vfWindow_init => rfl)
    (case ffWindow_init => rfl)
    (case llWindow_init => k_is)
    (case cdWindow_init => k_is)
    (case isfWindow_init => k_is)
    (case xWindow => k_is)
    (case mrWindow => k_is)
    (case moWindow => rfl)
    (case mWindoweq => k_is)
    (case isWindow => k_is)
    (case a_Rule => k_is)
    (case tyRule => k_is)
    (case clRule => k_is)
    (case pgRule => k_is)
    (case hdRule => k_is)
    (case poRule => k_is)
    (case saRule => k_is)
    (case mkRule => k_is)
    (case kpRule => k_is)
    (case fiRule => k_is)
    (case nRulename => k_is)
    (case nRulechips => k_is)
    (case nRulerest => k_is)
    (case haRule => k_is)
    (case hmRule => k_is)
    (case ssRule => k_is)
    (case bintRule => k_is)
    (case bboolRule => k_is)
    (case bstrRule => k_is)
    (case blistRule => k_is)
    (case btupleRule => k_is)
    (case bdictRule => k_is)
    (case lRule_init => k_is)
    (case cRule_init => k_is)
    (case kRule_init => k_is)
    (case iRule_init => k_is)
    (case a_Place => k_is)
    (case tyPlace => k_is)
    (case clPlace => k_is)
    (case pgPlace => k_is)
    (case hdPlace => k_is)
    (case poPlace => k_is)
    (case saPlace => k_is)
    (case mkPlace => k_is)
    (case kpPlace => k_is)
    (case fiPlace => k_is)
    (case nPlacename => k_is)
    (case nPlaceserver => k_is)
    (case nPlaceelder => k_is)
    (case nPlacememory => k_is)
    (case nPlacecustomer => k_is)
    (case haPlace => k_is)
    (case hmPlace => k_is)
    (case ssPlace => k_is)
    (case bintPlace => k_is)
    (case bboolPlace => k_is)
    (case bstrPlace => k_is)
    (case blistPlace => k_is)
    (case btuplePlace => k_is)
    (case bdictPlace => k_is)
    (case lPlace_init => k_is)
    (case cPlace_init => k_is)
    (case kPlace_init => k_is)
    (case iPlace_init => k_is)
    (case lTj => k_is)
    (case vTj => rfl)
    (case dmem => k_is)
    (case dcus => k_is)
    (case mPlaceeq => k_is)
    (case lPlace_eq => k_is)
    (case cPlace_eq => k_is)
    (case kPlace_eq => k_is)
    (case iPlace_eq => k_is)
    (case a_Tree => k_is)
    (case tyTree => k_is)
    (case clTree => k_is)
    (case pgTree => k_is)
    (case hdTree => k_is)
    (case poTree => k_is)
    (case saTree => k_is)
    (case mkTree => k_is)
    (case kpTree => k_is)
    (case fiTree => k_is)
    (case nTreerule => k_is)
    (case nTree_places => k_is)
    (case nTree_children => k_is)
    (case nTree_tops => k_is)
    (case lTree_init => k_is)
    (case cTree_init => k_is)
    (case kTree_init => k_is)
    (case iTree_init => k_is)
    (case mTreeplaces => k_is)
    (case lTree_places => k_is)
    (case cTree_places => k_is)
    (case kTree_places => k_is)
    (case iTree_places => k_is)
    (case mTreelen => k_is)
    (case lTree_len => k_is)
    (case cTree_len => k_is)
    (case kTree_len => k_is)
    (case iTree_len => k_is)
    (case oWindowRule => k_is)
    (case oPlaceRule => k_is)
    (case oWindowPlace => k_is)
    (case oRulePlace => k_is)
    (case sintRule => k_is)
    (case sintPlace => k_is)
    (case sboolRule => k_is)
    (case sboolPlace => k_is)
    (case sstrRule => k_is)
    (case sstrPlace => k_is)
    (case sNoneTypeRule => k_is)
    (case sNoneTypePlace => k_is)
    (case slistRule => k_is)
    (case slistPlace => k_is)
    (case stupleRule => k_is)
    (case stuplePlace => k_is)
    (case sdictRule => k_is)
    (case sdictPlace => k_is)
    (case hn => k_is)
    (case ht => k_is)
    (case a_InvalidName => k_is)
    (case xInvalidName => k_is)
    (case saInvalidName => k_is)
    (case exInvalidName => k_is)
    (case tyInvalidName => k_is)
    (case kpInvalidName => k_is)
    (case inInvalidName => k_is)
    (case tiInvalidName => k_is)
    (case gaInvalidName => k_is)
    (case ggInvalidName => k_is)
    (case hdInvalidName => k_is)
    (case clInvalidName => k_is)
    (case ssInvalidName => k_is)
    (case nvalueInvalidName => k_is)
    (case ncodeInvalidName => k_is)
    (case lInvalidName_init => k_is)
    (case cInvalidName_init => k_is)
    (case kInvalidName_init => k_is)
    (case iInvalidName_init => k_is)
    (case a_InvalidRule => k_is)
    (case xInvalidRule => k_is)
    (case saInvalidRule => k_is)
    (case exInvalidRule => k_is)
    (case tyInvalidRule => k_is)
    (case kpInvalidRule => k_is)
    (case inInvalidRule => k_is)
    (case tiInvalidRule => k_is)
    (case gaInvalidRule => k_is)
    (case ggInvalidRule => k_is)
    (case hdInvalidRule => k_is)
    (case clInvalidRule => k_is)
    (case ssInvalidRule => k_is)
    (case nvalueInvalidRule => k_is)
    (case ncodeInvalidRule => k_is)
    (case lInvalidRule_init => k_is)
    (case cInvalidRule_init => k_is)
    (case kInvalidRule_init => k_is)
    (case iInvalidRule_init => k_is)
    (case a_InvalidPlace => k_is)
    (case xInvalidPlace => k_is)
    (case saInvalidPlace => k_is)
    (case exInvalidPlace => k_is)
    (case tyInvalidPlace => k_is)
    (case kpInvalidPlace => k_is)
    (case inInvalidPlace => k_is)
    (case tiInvalidPlace => k_is)
    (case gaInvalidPlace => k_is)
    (case ggInvalidPlace => k_is)
    (case hdInvalidPlace => k_is)
    (case clInvalidPlace => k_is)
    (case ssInvalidPlace => k_is)
    (case natInvalidPlace => k_is)
    (case ncodeInvalidPlace => k_is)
    (case lInvalidPlace_init => k_is)
    (case cInvalidPlace_init => k_is)
    (case kInvalidPlace_init => k_is)
    (case iInvalidPlace_init => k_is)
    (case a_BadTree => k_is)
    (case xBadTree => k_is)
    (case saBadTree => k_is)
    (case exBadTree => k_is)
    (case tyBadTree => k_is)
    (case kpBadTree => k_is)
    (case inBadTree => k_is)
    (case tiBadTree => k_is)
    (case gaBadTree => k_is)
    (case ggBadTree => k_is)
    (case hdBadTree => k_is)
    (case clBadTree => k_is)
    (case ssBadTree => k_is)
    (case nplaceBadTree => k_is)
    (case ncodeBadTree => k_is)
    (case lBadTree_init => k_is)
    (case cBadTree_init => k_is)
    (case kBadTree_init => k_is)
    (case iBadTree_init => k_is)
    (case a_TooMany => k_is)
    (case xTooMany => k_is)
    (case saTooMany => k_is)
    (case exTooMany => k_is)
    (case tyTooMany => k_is)
    (case kpTooMany => k_is)
    (case inTooMany => k_is)
    (case tiTooMany => k_is)
    (case gaTooMany => k_is)
    (case ggTooMany => k_is)
    (case hdTooMany => k_is)
    (case clTooMany => k_is)
    (case ssTooMany => k_is)
    (case nwhatTooMany => k_is)
    (case ncountTooMany => k_is)
    (case ncodeTooMany => k_is)
    (case lTooMany_init => k_is)
    (case cTooMany_init => k_is)
    (case kTooMany_init => k_is)
    (case iTooMany_init => k_is)
    (case eruna => k_is)
    (case eplna => k_is)
    (case ebtna => k_is)
    (case etmna => k_is)
    (case eplru => k_is)
    (case ebtru => k_is)
    (case etmru => k_is)
    (case ebtpl => k_is)
    (case etmpl => k_is)
    (case etmbt => k_is)
    (case aSure => k_is)
    (case npt => decide)