import PyProof.Rows.All
import Wide.All
import OpenK.AllK
import Wide.FinOn
import HandS.ForMost
import HandS.IsInst
import HandS.Evl
import HandS.Zip
import HandS.ExcInit
import HandS.ExcIs
import HandS.Walk
import KE.KExcIs
import KE.KxText
import HandS.Nested
import HandS.Star
import HandS.More
import HandS.MethStar
import KE.KSuper
import HandS.FStr
import HandS.Gcd
import KE.KMathGC
import HandS.TupSets
import HandS.RaiseMore
import HandS.TupAny
import HandS.SetFor
import HandS.Deep
import HandS.Dict
import HandS.DictComp
import HandS.Property
import HandS.Finally
import HandS.TupLe
import KE.DataFind
import KE.DatumMoreOrd
import KE.KDictCopyH
import KE.KCallOwn
import HandS.SlotsOwn
import HandS.WordsDict
import HandS.Defaults
import PySem.Challenge.RW_surelet_k48_whole_fair_turns
set_option Elab.async false
set_option linter.all false
set_option maxRecDepth 100000
set_option maxHeartbeats 4000000
namespace LC
open PySem L2
/-- a def as it stands behind the top: its text, its name, how its arguments bind -/
structure Def (K : PySem.W.Frag) (mg : Str → Option Value) (x : Str) (st : Stmt) (ps : List Str) (f : Addr) (fd : FuncData) : Prop where
  F : Fun K x x st f fd
  g : mg x = some (.ref f)
  b : Binds K fd ps []
/-- all but the bag at g is as it was -/
def Kp (g : Addr) (H H' : Hp) : Prop := ∀ b o, b ≠ g → H b = some o → H' b = some o
theorem Kp.refl (g : Addr) (H : Hp) : Kp g H H := fun _ _ _ h => h
theorem Kp.trans {g : Addr} {H H1 H2 : Hp} (a : Kp g H H1) (b : Kp g H1 H2) : Kp g H H2 := fun c o n h => b c o n (a c o n h)
theorem Kp.upd {g : Addr} {H H1 : Hp} {p : Addr} {o : HO} (a : Kp g H H1) (h : H1 p = none) : Kp g H (upd H1 p o) := fun c u n e => by
  have q := a c u n e
  rw [upd_ne (ne_of_none q h)]
  exact q
theorem Kp.bag {g : Addr} {H H1 : Hp} {o : HO} (a : Kp g H H1) : Kp g H (L2.upd H1 g o) := fun c u n e => by
  rw [upd_ne n]
  exact a c u n e
theorem Kp.free {g : Addr} {H H' : Hp} (e : Kp g H H') {l : Addr} (hl : l ≠ g) (h : H' l = Option.none) : H l = Option.none := by
  cases q : H l with
  | none => rfl
  | some o =>
    rw [e l o hl q] at h
    cases h
/-- the bag of draws at g, the script's copy at l -/
def Bag (l : Addr) (H : Hp) (g : Addr) : Prop := ∃ (ns : List Int) (i d s c : Int), H g = some (.lst [.ref l, .int i, .int d, .int s, .int c]) ∧ l ≠ g ∧ H l = some (.lst (ns.map V.int)) ∧
  0 ≤ i ∧ i ≤ ns.length ∧ 0 ≤ d ∧ 0 ≤ s ∧ s < 2147483629
theorem Bag.there {l : Addr} {H : Hp} {g : Addr} (B : Bag l H g) : (∃ xs, H g = some (.lst xs)) ∧ ∃ xs, H l = some (.lst xs) := by
  obtain ⟨ns, i, d, s, c, h, _, h2, _⟩ := B
  exact ⟨⟨_, h⟩, ⟨_, h2⟩⟩
theorem Bag.ne {l : Addr} {H : Hp} {g p : Addr} (B : Bag l H g) (h : H p = none) : p ≠ g ∧ p ≠ l := by
  obtain ⟨⟨xs, q⟩, ⟨ys, r⟩⟩ := B.there
  refine ⟨fun e => ?_, fun e => ?_⟩
  · rw [e, q] at h
    cases h
  · rw [e, r] at h
    cases h
theorem Bag.mut {l : Addr} {H : Hp} {g p : Addr} {o : HO} (B : Bag l H g) (h : p ≠ g) (h' : p ≠ l) : Bag l (L2.upd H p o) g := by
  obtain ⟨ns, i, d, s, c, h1, h2, h3, r⟩ := B
  exact ⟨ns, i, d, s, c, by rw [upd_ne (Ne.symm h)]; exact h1, h2, by rw [upd_ne (Ne.symm h')]; exact h3, r⟩
/-- from H0 to H: all but the bag stands, things came beside it, the bag is one -/
structure Ok (g l : Addr) (H0 H : Hp) : Prop where
  b0 : Bag l H0 g
  kp : Kp g H0 H
  bag : Bag l H g
theorem Ok.refl {g l : Addr} {H : Hp} (B : Bag l H g) : Ok g l H H := ⟨B, Kp.refl g H, B⟩
theorem Ok.trans {g l : Addr} {H H1 H2 : Hp} (a : Ok g l H H1) (b : Ok g l H1 H2) : Ok g l H H2 := ⟨a.b0, a.kp.trans b.kp, b.bag⟩
theorem Ok.new {g l p : Addr} {H H1 : Hp} {o : HO} (a : Ok g l H H1) (h : H1 p = none) : Ok g l H (L2.upd H1 p o) := ⟨a.b0, a.kp.upd h, a.bag.mut (a.bag.ne h).1 (a.bag.ne h).2⟩
theorem Ok.free {g l p : Addr} {H H1 : Hp} (a : Ok g l H H1) (h : H1 p = none) : H p = none := a.kp.free (a.bag.ne h).1 h
theorem Ok.mut {g l p : Addr} {H H1 : Hp} {o : HO} (a : Ok g l H H1) (h : H p = none) : Ok g l H (L2.upd H1 p o) :=
  ⟨a.b0, fun b u n e => by rw [upd_ne (ne_of_none e h)]; exact a.kp b u n e, a.bag.mut (a.b0.ne h).1 (a.b0.ne h).2⟩
theorem Ok.at_ {g l p : Addr} {H H1 : Hp} {o : HO} (a : Ok g l H H1) (h : H p = some o) (n : p ≠ g) : H1 p = some o := a.kp p o n h
theorem SqL.kp {K : PySem.W.Frag} {g : Addr} {H H' : Hp} {a : Addr} {xs : List V} (e : Kp g H H') (n : a ≠ g) (h : SqL K H a xs) : SqL K H' a xs := by
  rcases h with (h | ⟨o, h⟩) | h
  · exact .inl (.inl (e _ _ n h))
  · exact .inl (.inr ⟨o, e _ _ n h⟩)
  · exact .inr h
theorem SqT.kp {K : PySem.W.Frag} {g : Addr} {H H' : Hp} {a : Addr} {xs : List V} (e : Kp g H H') (n : a ≠ g) (h : SqT K H a xs) : SqT K H' a xs := by
  rcases h with (h | ⟨o, h⟩) | h
  · exact .inl (.inl (e _ _ n h))
  · exact .inl (.inr ⟨o, e _ _ n h⟩)
  · exact .inr h
theorem ite_b {c : Bool} {A B : Prop} (h1 : c = true → A) (h2 : c = false → B) : if c = true then A else B := by
  cases c with
  | true => exact iteT (h1 rfl)
  | false => exact iteF (h2 rfl)
/-- a test of two ints -/
theorem ite_d {p : Prop} [Decidable p] {A B : Prop} (h1 : p → A) (h2 : ¬ p → B) : if decide p = true then A else B := by
  by_cases h : p
  · rw [decide_eq_true h]
    exact iteT (h1 h)
  · rw [decide_eq_false h]
    exact iteF (h2 h)
theorem ite_eq {i j : Int} {A B : Prop} (h1 : i = j → A) (h2 : i ≠ j → B) : if decide (V.int i = V.int j) = true then A else B :=
  ite_d (fun h => h1 (V.int.inj h)) fun h => h2 fun e => h (by rw [e])
section
variable {X : Cx} {CX : CXT} {k : Nat} {f : Addr} {fd : FuncData} {ps ks : List Str} {sp : Sp} {E : XK} {x : Str} {p pos : Pos} {kws : List Keyword} {tk : TA} {g : List Value → List Value → List Value} {gV : List V → List V → List V}
theorem pe_callK0 (F : FnOk X.prog X.w X.K X.mg X.base CX k f fd ps sp) (hr : Room k X.A) (hg : Gl X x) (hm : X.mg x = some (.ref f)) (hk : PySem.W.keepIn X.K (.ref f) = true) (hb : KBinds X.K fd ps ks g gV) (hx : Passes CX X E)
    (hkw : PK X kws tk) (hall : (backToKw pos (keywordEach kws X.env)).all (·.1.isSome) = true := by rfl) (hks : (backToKw pos (keywordEach kws X.env)).filterMap (·.1) = ks := by rfl)
    (hdb : (x == ("__debug__" : Str)) = false := by decide) (hpl : ((backTo pos (starEach [] X.env)).any (·.1) || (backToKw pos (keywordEach kws X.env)).any (·.1.isNone)) = false := by rfl) :
    PE X (.Call (.Name x p) [] kws pos) (tCallK sp gV E tNil tk) := by
  refine ⟨fun pins s σ H Q I h => ?_⟩
  refine wpAny_Call_Name_kw (ld_glob I hg hm ?_ hdb)
  refine PySem.W.callWith_KW0 (h₀ := X.base) I.ok.mod.kin hk hall ?_ hpl
  refine thn (hkw.run pos pins s σ H _ I h) fun ws s2 ⟨zs, H2, I2, rz, q2⟩ => ⟨I2.kIn, ?_⟩
  rw [hks]
  exact run_fnk (us := []) F hr hb hx I2 .nil rz q2
end
end LC
namespace LC
open PySem L2
theorem cut_ints (ns : List Int) (lo hi : Option Int) : ∃ ms : List Int, cutV (ns.map V.int) lo hi = ms.map V.int ∧ ms.length ≤ ns.length := by
  refine ⟨(ns.drop (HT.sIx ns.length 0 lo)).take (HT.sIx ns.length ns.length hi - HT.sIx ns.length 0 lo), ?_, ?_⟩
  · unfold cutV
    rw [List.length_map, ← List.map_drop, ← List.map_take]
  · rw [List.length_take, List.length_drop]
    omega
theorem same_new {H : Hp} {p : Addr} {o : HO} (h : H p = none) : Same H (upd H p o) := fun b u e => by
  rw [upd_ne (ne_of_none e h)]
  exact e
theorem int_of {ns : List Int} {i : Nat} {y : V} (h : (ns.map V.int)[i]? = some y) : ∃ u, y = V.int u := by
  rw [List.getElem?_map] at h
  cases e : ns[i]? with
  | none =>
    rw [e] at h
    cases h
  | some u =>
    rw [e] at h
    exact ⟨u, (Option.some.inj h).symm⟩
end LC

namespace LC
theorem fmod_nn (a : Int) {n : Int} (h : 0 < n) : 0 ≤ a.fmod n := by
  rw [Int.fmod_eq_emod_of_nonneg _ (Int.le_of_lt h)]
  exact Int.emod_nonneg _ (by omega)
theorem fmod_lt (a : Int) {n : Int} (h : 0 < n) : a.fmod n < n := by
  rw [Int.fmod_eq_emod_of_nonneg _ (Int.le_of_lt h)]
  exact Int.emod_lt_of_pos _ h
end LC

namespace LC
open PySem L2
/-- a value of any of the drawn kinds; C: the error's class -/
inductive Th (C g : Addr) (H : Hp) : V → Prop where
  | non : Th C g H .non
  | bl (b : Bool) : Th C g H (.bl b)
  | int (i : Int) : Th C g H (.int i)
  | str (z : Str) (h : z.length ≤ 1000000) : Th C g H (.str z)
  | lst {a : Addr} {xs : List V} (h : H a = some (.lst xs)) (n : a ≠ g) : Th C g H (.ref a)
  | tup {a : Addr} {xs : List V} (h : H a = some (.tup xs)) (n : a ≠ g) : Th C g H (.ref a)
  | dK {a : Addr} {kvs : List (Key × V)} (h : H a = some (.dK kvs)) (n : a ≠ g) : Th C g H (.ref a)
  | exo {a d : Addr} {fs : List (Str × V)} (h : H a = some (exo a C (some d))) (n : a ≠ g) (hd : H d = some (exd d fs)) (nd : d ≠ g) : Th C g H (.ref a)
theorem Th.kp {C g : Addr} {H H' : Hp} {v : V} (r : Kp g H H') (t : Th C g H v) : Th C g H' v := by
  cases t with
  | non => exact .non
  | bl b => exact .bl b
  | int i => exact .int i
  | str z h => exact .str z h
  | lst h n => exact .lst (r _ _ n h) n
  | tup h n => exact .tup (r _ _ n h) n
  | dK h n => exact .dK (r _ _ n h) n
  | exo h n hd nd => exact .exo (r _ _ n h) n (r _ _ nd hd) nd
theorem Th.list {C g l : Addr} {H0 H : Hp} {p : Addr} {xs : List V} (a : Ok g l H0 H) (h : H p = none) : Th C g (upd H p (.lst xs)) (.ref p) := .lst upd_same (a.bag.ne h).1
theorem Th.tupl {C g l : Addr} {H0 H : Hp} {p : Addr} {xs : List V} (a : Ok g l H0 H) (h : H p = none) : Th C g (upd H p (.tup xs)) (.ref p) := .tup upd_same (a.bag.ne h).1
theorem upd_kp {g l : Addr} {H0 H : Hp} {p : Addr} {o : HO} (a : Ok g l H0 H) (h : H p = none) : Kp g H (upd H p o) := (Ok.new (Ok.refl a.bag) h).kp
/-- a comprehension over a text whose element leaves the heap -/
theorem lc_text {z : Str} {j : Nat} {te : TE} {vs : List Nat} {σ : L2.St} {H1 : Hp} {D : Addr} {Qd : Hp → Prop} (f : Nat → V) (hD : H1 D = none) (hz : z.length ≤ 1000000) (hw : ∀ x, wipe ((wipe σ vs).set j (some x)) vs = wipe σ vs)
    (he : ∀ (c : Nat) (H : Hp) (Q : VK), c ∈ z.cps.toList → Q (f c) H → te ((wipe σ vs).set j (some (.str ⟨#[c]⟩))) H Q) (hd : Qd (upd H1 D (.lst (z.cps.toList.map f)))) :
    ∃ W : Nat → Nat → Hp → Prop, (∃ m, W 0 m (upd H1 D (.lst []))) ∧ ∀ i m H, W i m H →
      ((Its z).stop i H ∧ Qd H) ∨ ((Its z).go i H ∧ ∃ Nx : Hp → Prop, (∀ H', Nx H' → ∃ m', m' < m ∧ W (i + 1) m' H') ∧ ∀ x H', (Its z).yld i H x H' → gName j x (wipe σ vs) H' fun σ2 H2 => wipe σ2 vs = wipe σ vs ∧ tYes σ2 H2 fun b H3 =>
        if b = true then te σ2 H3 fun y H4 => ∃ acc, H4 D = some (.lst acc) ∧ acc.length < sizeLine ∧ Nx (upd H4 D (.lst (acc ++ [y]))) else Nx H3) := by
  have hn : z.cps.toList.length = z.cps.size := Array.length_toList
  refine lc_it (walk_str (z := z)) (fun i H => i ≤ z.cps.size ∧ H = upd H1 D (.lst ((z.cps.toList.take i).map f))) ⟨Nat.zero_le _, rfl⟩ (fun _ _ _ _ => trivial) ?_ ?_
  · rintro i x H H' hi ⟨_, rfl⟩ ⟨rfl, c, hc, rfl⟩
    refine ⟨hw _, ?_⟩
    have hc' : z.cps.toList[i]? = some c := by rw [Array.getElem?_toList]; exact hc
    refine he c _ _ (List.mem_of_getElem? hc') ?_
    refine ⟨_, upd_same, ?_, hi, ?_⟩
    · rw [List.length_map, List.length_take]
      have e1 : z.cps.size = z.length := rfl
      exact Nat.lt_of_le_of_lt (Nat.min_le_right _ _) (Nat.lt_of_le_of_lt (by rw [hn, e1]; exact hz) (by decide : 1000000 < sizeLine))
    · rw [upd_upd, List.take_add_one, hc', List.map_append]
      rfl
  · rintro H ⟨_, rfl⟩
    rw [← hn, List.take_length]
    exact hd
end LC
namespace LC
open PySem L2 PySem.Spec PyProof.Rows
/-- C(e, ..) as a value, C an own error class over ValueError with its own __init__, which keeps sp -/
def tMkV (C : Addr) (sp : Sp) (ta : TA) : TE := fun σ H Q => ta σ H fun vs H1 => vs.length ≤ 1000 ∧ ∀ a, H1 a = none → sp (.ref a :: vs) (upd H1 a (exo a C none)) (fun v H2 => v = .non ∧ Q (.ref a) H2) (fun _ _ _ => False)
section
variable {X : Cx} {e : Expr} {es : List Expr} {ta : TA} {p pos : Pos}
theorem pe_oexV {CX : CXT} {x : Str} {C fI : Addr} {k : Nat} {fd : FuncData} {ps : List Str} {sp : Sp} (T : OexC X.K C) (iC : PySem.W.findIn X.K (.ref C) "__init__" = some (some (.ref fI))) (tI : PySem.W.typeIn X.K (.ref fI) = some (.type "function"))
    (F1 : FnOk X.prog X.w X.K X.mg X.base CX k fI fd ps sp) (hr : Room (k + 1) X.A) (hb : Binds X.K fd ps []) (hx : Passes CX X (fun _ _ _ => False)) (hg : Gl X x) (hm : X.mg x = some (.ref C)) (ha : PA X (e :: es) ta)
    (hdb : (x == ("__debug__" : Str)) = false := by decide) (he : starEach (e :: es) X.env = (false, eval e X.env) :: starEach es X.env := by rfl) (hpl : (backTo pos (starEach es X.env)).any (·.1) = false := by rfl) :
    PE X (.Call (.Name x p) (e :: es) [] pos) (tMkV C sp ta) := by
  refine ⟨fun pins s σ H Q I h => ?_⟩
  obtain ⟨nm, q, N, bs, bm, sn, sub, ab, col, dd, k0, k1, k2, k3, k5, hC, hbm⟩ := T.cls
  refine wpAny_Call_Name_kw (ld_glob I hg hm ?_ hdb)
  refine PySem.W.callWith_K (h₀ := X.base) I.ok.mod.kin T.kC (thn (ha.run pos pins s σ H _ I h) fun us s1 ⟨vs, H1, I1, r1, hz, q1⟩ => ⟨I1.kIn, ?_⟩) he hpl
  show wpAny _ _ (call (.ref C) us) _ _ _
  obtain ⟨hp, g, dr, tk, os⟩ := s1
  have hsz : hp.objs.size ≤ hp.objs.size + 1 := Nat.le_succ _
  have hn : H1 (hp.objs.size + 1) = none := I1.hok.fresh hsz
  have hq := q1 (hp.objs.size + 1) hn
  have kk : ∀ b o, hp.get? b = some o → ((hp.push (PySem.W.kdv_tup us)).push (PySem.HandSPX.excO C hp.objs.size)).get? b = some o := fun b o e => Heap.get?_push_of_some _ (Heap.get?_push_of_some _ e)
  have hget : ((hp.push (PySem.W.kdv_tup us)).push (PySem.HandSPX.excO C hp.objs.size)).get? (hp.objs.size + 1) = some (PySem.HandSPX.excO C hp.objs.size) := by heap_get
  have I2 : L2.Inv X pins σ (upd H1 (hp.objs.size + 1) (exo (hp.objs.size + 1) C none)) ⟨(hp.push (PySem.W.kdv_tup us)).push (PySem.HandSPX.excO C hp.objs.size), g, dr, tk, os⟩ :=
    I1.laid (t' := tk) (a := hp.objs.size + 1) (o := exo (hp.objs.size + 1) C none) (h' := (hp.push (PySem.W.kdv_tup us)).push (PySem.HandSPX.excO C hp.objs.size)) kk hsz (exo_ok hget)
  have r2 : Vals (V.ref (hp.objs.size + 1) :: vs) (Value.ref (hp.objs.size + 1) :: us) := .cons rfl r1
  have hl : (Value.ref (hp.objs.size + 1) :: us ++ []).length = ps.length := by
    have e := r2.length
    rw [F1.len _ _ _ _ hq] at e
    rw [List.append_nil]
    exact e.symm
  have hus : us.length ≤ sizeLine := by
    rw [← Paired.length r1, sizeLine_eq]
    omega
  have hbb := hb _ (Value.ref (hp.objs.size + 1) :: us) I2.kIn hl
  rw [List.append_nil] at hbb
  refine wpAny_call (PySem.HandSPX.call_own F.excBase_ValueError (fun Y => PySem.HandSPX.refsVE_contains Y bm hbm) (I1.kIn _ _ hC) (PySem.W.looks_findIn I1.kIn iC) (fun self => PySem.W.bind_fn I1.kIn self tI) hus
    (codeAny_mono (F1.run _ X.stack _ _ ⟨Value.ref (hp.objs.size + 1) :: us, []⟩ (Value.ref (hp.objs.size + 1) :: us) _ _ (fun _ _ _ => False) (hr.make C us []) (I2.env0.make C us []) hbb r2 hq) fun r s' hq' => ?_))
  cases r with
  | error er => exact hx pins σ _ _ er s' I2 hq'
  | ok fl =>
    cases fl with
    | ret u =>
      obtain ⟨v, H2, os2, bare2, un2, hok2, rv, ev, q2⟩ := hq'
      subst ev
      exact ⟨rv, .ref (hp.objs.size + 1), H2, I2.call' (ch := []) os2 un2 hok2 bare2 (fun b hb => by cases hb), rfl, q2⟩
    | next => exact False.elim hq'
    | brk => exact False.elim hq'
    | cont => exact False.elim hq'
end
/-- what the written part says of an own error class, for isinstance -/
structure IsC (K : PySem.W.Frag) (C : Addr) : Prop where
  hcl : (PySem.W.clsIn K C).isSome = true
  hga : PySem.W.findIn K (.ref C) "__getattribute__" = some (some (.builtin "BaseException.__getattribute__"))
  hgt : PySem.W.findIn K (.ref C) "__getattr__" = some none
  hsub : PySem.W.subIn K (.ref C) (.type "BaseException") = some true
  ha : PySem.W.findIn K (.ref C) "__class__" = some (some (.builtin "object.__class__"))
  hn : PySem.W.specialIn K (.builtin "object.__class__") "__get__" = some (some (.builtin "getset_descriptor.__get__"))
  htk : PySem.W.takesIn K (.builtin "object.__class__") = some true
  hm : PySem.W.mroIn K C (.type "object") = some true
/-- isinstance(x, c), x an own error too -/
def rIsX (K : PySem.W.Frag) : List V → Hp → VK → Prop := fun xs H Q => rIsi K xs H Q ∨
  ∃ (a C d : Addr) (c : V) (cv : Value) (b : Bool) (fs : List (Str × V)), xs = [.ref a, c] ∧ IsC K C ∧ H a = some (exo a C (some d)) ∧ H d = some (exd d fs) ∧ ClsV c cv ∧ PySem.W.kitOne K (.ref C) cv = some b ∧ Q (.bl b) H
theorem call_isX {X : Cx} : CallR X (.builtin "isinstance") (rIsX X.K) := by
  intro pins s σ H xs us Q I r h
  rcases h with h | ⟨a, C, d, c, cv, b, fs, rfl, T, ha, hd, k, e, q⟩
  · exact call_isi pins s σ H xs us Q I r h
  · obtain ⟨u1, u2, rfl, r1, r2⟩ := vals2 r
    have e2 := k.eq r2
    subst e2
    obtain rfl : u1 = Value.ref a := r1
    obtain ⟨t1, ho⟩ := exo_at I.hok ha
    obtain ⟨od, hod⟩ : ∃ od, s.heap.get? d = some od := by
      obtain ⟨_, z, _⟩ := I.hok d _ hd
      exact z
    have J : PySem.W.InstAt s.heap a { cls := .ref C, dict := some d, data := .fields #[.ref t1, .none, .none, .none, .bool false, .none] } C (some od) := ⟨ho, rfl, rfl, hod⟩
    exact PySem.W.kia_one (PySem.W.kitx_exc T.hcl T.hga T.hgt T.hsub T.ha T.hn T.htk T.hm) I.kIn J e (fun z => nomatch z) fun tk => ⟨.bl b, H, I.tok tk, rfl, q⟩
end LC

namespace LC
open PySem L2
/-! the values of isinstance(x, int | bool | str) -/
def isI : V → Bool | .int _ => true | .bl _ => true | _ => false
def isB : V → Bool | .bl _ => true | _ => false
def isS : V → Bool | .str _ => true | _ => false
/-- what the error's class answers -/
structure NoB (K : PySem.W.Frag) (C : Addr) : Prop where
  is : IsC K C
  i : PySem.W.kitOne K (.ref C) (.type "int") = some false
  b : PySem.W.kitOne K (.ref C) (.type "bool") = some false
  s : PySem.W.kitOne K (.ref C) (.type "str") = some false
theorem isi_th {K : PySem.W.Frag} {C g : Addr} {H : Hp} {v : V} {Q : VK} (N : NoB K C) (t : Th C g H v) : (Q (.bl (isI v)) H → rIsX K [v, .ty "int"] H Q) ∧ (Q (.bl (isB v)) H → rIsX K [v, .ty "bool"] H Q) ∧ (Q (.bl (isS v)) H → rIsX K [v, .ty "str"] H Q) := by
  have go : ∀ {x : V} {T S : String} {b : Bool}, TyOf K H x (.type T) → kitB T S = some b → Q (.bl b) H → rIsX K [x, .ty S] H Q := fun ty e q => .inl ⟨_, _, _, _, _, rfl, .ty _, .base ty, kit_ty e, q⟩
  cases t with
  | non => exact ⟨go .non (show kitB "NoneType" "int" = some false by decide +kernel), go .non (show kitB "NoneType" "bool" = some false by decide +kernel), go .non (show kitB "NoneType" "str" = some false by decide +kernel)⟩
  | bl b => exact ⟨go (.bl b) (show kitB "bool" "int" = some true by decide +kernel), go (.bl b) (show kitB "bool" "bool" = some true by decide +kernel), go (.bl b) (show kitB "bool" "str" = some false by decide +kernel)⟩
  | int i => exact ⟨go (.int i) (show kitB "int" "int" = some true by decide +kernel), go (.int i) (show kitB "int" "bool" = some false by decide +kernel), go (.int i) (show kitB "int" "str" = some false by decide +kernel)⟩
  | str z h => exact ⟨go (.str z) (show kitB "str" "int" = some false by decide +kernel), go (.str z) (show kitB "str" "bool" = some false by decide +kernel), go (.str z) (show kitB "str" "str" = some true by decide +kernel)⟩
  | lst h n => exact ⟨go (.lst h) (show kitB "list" "int" = some false by decide +kernel), go (.lst h) (show kitB "list" "bool" = some false by decide +kernel), go (.lst h) (show kitB "list" "str" = some false by decide +kernel)⟩
  | tup h n => exact ⟨go (.tup h) (show kitB "tuple" "int" = some false by decide +kernel), go (.tup h) (show kitB "tuple" "bool" = some false by decide +kernel), go (.tup h) (show kitB "tuple" "str" = some false by decide +kernel)⟩
  | dK h n => exact ⟨go (.dK h) (show kitB "dict" "int" = some false by decide +kernel), go (.dK h) (show kitB "dict" "bool" = some false by decide +kernel), go (.dK h) (show kitB "dict" "str" = some false by decide +kernel)⟩
  | exo h n hd nd => exact ⟨fun q => .inr ⟨_, C, _, _, _, _, _, rfl, N.is, h, hd, .ty _, N.i, q⟩, fun q => .inr ⟨_, C, _, _, _, _, _, rfl, N.is, h, hd, .ty _, N.b, q⟩, fun q => .inr ⟨_, C, _, _, _, _, _, rfl, N.is, h, hd, .ty _, N.s, q⟩⟩
def isNum (v : V) (lo hi : Int) : Bool := match v with | .int i => decide (lo ≤ i) && decide (i ≤ hi) | _ => false
def chL (c : Nat) : Bool := decide (97 ≤ c) && decide (c ≤ 122)
def chD (c : Nat) : Bool := decide (48 ≤ c) && decide (c ≤ 57)
def isNam (v : V) : Bool := match v with | .str z => decide (1 ≤ z.length) && decide (z.length ≤ 8) && chL (z.cps.toList.getD 0 0) && z.cps.toList.all (fun c => chL c || chD c) | _ => false
theorem mem_low (c : Nat) : decide (c ∈ ("abcdefghijklmnopqrstuvwxyz" : Str).cps.toList) = chL c := by
  have e : ("abcdefghijklmnopqrstuvwxyz" : Str).cps.toList = List.range' 97 26 := by decide +kernel
  rw [e]
  unfold chL
  rw [← Bool.decide_and]
  refine decide_eq_decide.mpr ?_
  rw [List.mem_range'_1]
  omega
theorem mem_dig (c : Nat) : decide (c ∈ ("0123456789" : Str).cps.toList) = chD c := by
  have e : ("0123456789" : Str).cps.toList = List.range' 48 10 := by decide +kernel
  rw [e]
  unfold chD
  rw [← Bool.decide_and]
  refine decide_eq_decide.mpr ?_
  rw [List.mem_range'_1]
  omega
end LC
namespace LC
open PySem L2
theorem pe_ty {X : Cx} {x : Str} {pos : Pos} (n : String) (hg : Gl X x) (hm : X.mg x = none) (hv : bootBuiltins x = some (.type n)) (hn : x ≠ "__name__" := by decide) (hd : (x == ("__debug__" : Str)) = false := by decide) : PE X (.Name x pos) (tC (.ty n)) :=
  pe_bltn hg hm hv rfl hn hd
end LC
namespace LC
open PySem L2
theorem ite_nd {p : Prop} [Decidable p] {A B : Prop} (h1 : ¬ p → A) (h2 : p → B) : if (!decide p) = true then A else B := by
  by_cases h : p
  · rw [decide_eq_true h]
    exact iteF (h2 h)
  · rw [decide_eq_false h]
    exact iteT (h1 h)
theorem ite_nb {c : Bool} {A B : Prop} (h1 : c = false → A) (h2 : c = true → B) : if (!c) = true then A else B := by
  cases c with
  | true => exact iteF (h2 rfl)
  | false => exact iteT (h1 rfl)
theorem ite_is {a b : Bool} {A B : Prop} (e : a = b) (h1 : b = true → A) (h2 : b = false → B) : if a = true then A else B := by
  subst e
  exact ite_b h1 h2
theorem Ok.same {g l : Addr} {H0 H H' : Hp} (a : Ok g l H0 H) (s : Same H H') : Ok g l H0 H' := by
  refine ⟨a.b0, fun b o n e => s _ _ (a.kp b o n e), ?_⟩
  obtain ⟨ns, i, d, t, c, h1, h2, h3, r⟩ := a.bag
  exact ⟨ns, i, d, t, c, s _ _ h1, h2, s _ _ h3, r⟩
theorem Th.same {C g : Addr} {H H' : Hp} {v : V} (t : Th C g H v) (s : Same H H') : Th C g H' v := t.kp fun b o _ e => s b o e
theorem len1 {z : Str} (h : 1 ≤ z.length) : ∃ c, z.cps.toList[0]? = some c ∧ z.cps.toList.getD 0 0 = c := by
  have e : z.cps.toList.length = z.length := rfl
  have h0 : 0 < z.cps.toList.length := by omega
  refine ⟨z.cps.toList[0], List.getElem?_eq_getElem h0, ?_⟩
  rw [List.getD_eq_getElem?_getD, List.getElem?_eq_getElem h0]
  rfl
theorem sz_str {z : Str} (h : z.length ≤ 1000000) : z.length ≤ sizeLine := Nat.le_trans h (by decide)
theorem bls_map {α : Type} (l : List α) (f : α → Bool) : (l.map fun c => V.bl (f c)) = (l.map f).map V.bl := by
  rw [List.map_map]
  rfl
theorem all_id {α : Type} (l : List α) (f : α → Bool) : (l.map f).all id = l.all f := by
  rw [List.all_map]
  rfl
theorem isNam_str (z : Str) : isNam (.str z) = (decide (1 ≤ z.length) && decide (z.length ≤ 8) && chL (z.cps.toList.getD 0 0) && z.cps.toList.all (fun c => chL c || chD c)) := rfl
end LC
namespace LC
open PySem L2
theorem pe_gstr {X : Cx} {x z : Str} {t : Tok} {pos : Pos} (hg : Gl X x) (hm : X.mg x = some (.str z t)) (hd : (x == ("__debug__" : Str)) = false := by decide) : PE X (.Name x pos) (tC (.str z)) := pe_glob hg hm ⟨_, rfl⟩ hd
theorem pe_gint {X : Cx} {x : Str} {z : Int} {t : Tok} {pos : Pos} (hg : Gl X x) (hm : X.mg x = some (.int z t)) (hd : (x == ("__debug__" : Str)) = false := by decide) : PE X (.Name x pos) (tC (.int z)) := pe_glob hg hm ⟨_, rfl⟩ hd
end LC

namespace LC
open PySem L2
/-- ord('a') <= ord(sign) <= ord('z') as an element -/
theorem ord_in {a b : Str} {c i lo hi : Nat} {σ : L2.St} {H : Hp} {Q : VK} {f : Nat → Bool} (h1 : a.length = 1 ∧ a.cps.getD 0 0 = lo) (h2 : b.length = 1 ∧ b.cps.getD 0 0 = hi) (hf : f c = (decide (lo ≤ c) && decide (c ≤ hi))) (hs : σ[i]? = some (some (.str ⟨#[c]⟩))) (q : Q (.bl (f c)) H) :
    tChain (rI0 fun i j => .bl (decide (i ≤ j))) (rI0 fun i j => .bl (decide (i ≤ j))) (tCB (fun xs H Q => ∃ x, xs = [.str x] ∧ x.length = 1 ∧ Q (.int (x.cps.getD 0 0 : Nat)) H) (tCons (tC (.str a)) tNil))
      (tCB (fun xs H Q => ∃ x, xs = [.str x] ∧ x.length = 1 ∧ Q (.int (x.cps.getD 0 0 : Nat)) H) (tCons (tVar i) tNil)) (tCB (fun xs H Q => ∃ x, xs = [.str x] ∧ x.length = 1 ∧ Q (.int (x.cps.getD 0 0 : Nat)) H) (tCons (tC (.str b)) tNil)) σ H Q := by
  refine ⟨a, rfl, h1.1, _, hs, _, rfl, rfl, _, _, rfl, rfl, _, rfl, ?_⟩
  rw [h1.2]
  refine ite_d (fun e1 => ?_) (fun e1 => ?_)
  · refine ⟨b, rfl, h2.1, _, _, rfl, rfl, ?_⟩
    rw [h2.2]
    have e : f c = decide ((c : Int) ≤ (hi : Int)) := by
      rw [hf, decide_eq_true (show lo ≤ c by exact Int.ofNat_le.mp e1), Bool.true_and]
      exact decide_eq_decide.mpr Int.ofNat_le.symm
    rw [e] at q
    exact q
  · have e : f c = false := by
      rw [hf, decide_eq_false (show ¬ lo ≤ c from fun z => e1 (Int.ofNat_le.mpr z)), Bool.false_and]
    rw [e] at q
    exact q
end LC
namespace LC
open PySem L2
/-- a comprehension over range(n) whose element draws: the list's items all in F -/
theorem lc_draws {n : Nat} {j : Nat} {te : TE} {vs : List Nat} {σ : L2.St} {g l : Addr} {H0 H1 : Hp} {D : Addr} {Qd : Hp → Prop} (F : Hp → V → Prop) (R : Ok g l H0 H1) (hD : H1 D = none) (hn : n ≤ 1000000)
    (hw : ∀ x, wipe ((wipe σ vs).set j (some x)) vs = wipe σ vs) (hF : ∀ x H H', F H x → Kp g H H' → F H' x) (hG : ∀ x H xs ys, H D = some (.lst xs) → F H x → F (upd H D (.lst ys)) x)
    (he : ∀ (i : Nat) (H : Hp) (Q : VK), i < n → Ok g l H0 H → (∀ x H', F H' x → Ok g l H H' → Q x H') → te ((wipe σ vs).set j (some (.int (0 + (i : Int))))) H Q)
    (hd : ∀ H xs, Ok g l H0 H → Kp g H1 H → H D = some (.lst xs) → xs.length = n → (∀ x ∈ xs, F H x) → Qd H) :
    ∃ W : Nat → Nat → Hp → Prop, (∃ m, W 0 m (upd H1 D (.lst []))) ∧ ∀ i m H, W i m H →
      ((Itr 0 n).stop i H ∧ Qd H) ∨ ((Itr 0 n).go i H ∧ ∃ Nx : Hp → Prop, (∀ H', Nx H' → ∃ m', m' < m ∧ W (i + 1) m' H') ∧ ∀ x H', (Itr 0 n).yld i H x H' → gName j x (wipe σ vs) H' fun σ2 H2 => wipe σ2 vs = wipe σ vs ∧ tYes σ2 H2 fun b H3 =>
        if b = true then te σ2 H3 fun y H4 => ∃ acc, H4 D = some (.lst acc) ∧ acc.length < sizeLine ∧ Nx (upd H4 D (.lst (acc ++ [y]))) else Nx H3) := by
  have nD := R.bag.ne hD
  refine lc_it walk_range (fun i H => i ≤ n ∧ Ok g l H1 H ∧ ∃ xs, H D = some (.lst xs) ∧ xs.length = i ∧ ∀ x ∈ xs, F H x) ⟨Nat.zero_le _, Ok.new (Ok.refl R.bag) hD, [], upd_same, rfl, fun x hx => by cases hx⟩ (fun _ _ _ _ => trivial) ?_ ?_
  · rintro i x H H' hi ⟨_, r, xs, h1, h2, h3⟩ ⟨rfl, rfl⟩
    refine ⟨hw _, ?_⟩
    refine he i _ _ hi (R.trans r) fun x H2 fx r2 => ?_
    have h4 := r2.kp D _ nD.1 h1
    refine ⟨xs, h4, Nat.lt_of_lt_of_le (by omega : xs.length < 1000000 + 1) (by decide), hi, (r.trans r2).mut hD, xs ++ [x], upd_same, by rw [List.length_append, h2]; rfl, fun y hy => ?_⟩
    refine hG y H2 xs _ h4 ?_
    rcases List.mem_append.mp hy with hy | hy
    · exact hF y _ _ (h3 y hy) r2.kp
    · rw [List.mem_singleton] at hy
      rw [hy]
      exact fx
  · rintro H ⟨_, r, xs, h1, h2, h3⟩
    exact hd H xs (R.trans r) r.kp h1 h2 h3
end LC

namespace LC
open PySem L2
theorem Th.lstmut {C g : Addr} {H : Hp} {D : Addr} {v : V} {xs ys : List V} (h : H D = some (.lst xs)) (t : Th C g H v) : Th C g (upd H D (.lst ys)) v := by
  cases t with
  | non => exact .non
  | bl b => exact .bl b
  | int i => exact .int i
  | str z h => exact .str z h
  | @lst a xs' h' n =>
    by_cases e : a = D
    · subst e
      exact .lst upd_same n
    · exact .lst (by rw [upd_ne e]; exact h') n
  | tup h' n => exact .tup (by rw [upd_ne (ne_of h' h (by intro z; cases z))]; exact h') n
  | dK h' n => exact .dK (by rw [upd_ne (ne_of h' h (by intro z; cases z))]; exact h') n
  | exo h' n hd nd => exact .exo (by rw [upd_ne (ne_of h' h (by intro z; cases z))]; exact h') n (by rw [upd_ne (ne_of hd h (by intro z; cases z))]; exact hd) nd
end LC

namespace LC
open PySem L2
theorem Th.dKmut {C g : Addr} {H : Hp} {D : Addr} {v : V} {xs ys : List (Key × V)} (h : H D = some (.dK xs)) (t : Th C g H v) : Th C g (upd H D (.dK ys)) v := by
  cases t with
  | non => exact .non
  | bl b => exact .bl b
  | int i => exact .int i
  | str z h => exact .str z h
  | @dK a xs' h' n =>
    by_cases e : a = D
    · subst e
      exact .dK upd_same n
    · exact .dK (by rw [upd_ne e]; exact h') n
  | tup h' n => exact .tup (by rw [upd_ne (ne_of h' h (by intro z; cases z))]; exact h') n
  | lst h' n => exact .lst (by rw [upd_ne (ne_of h' h (by intro z; cases z))]; exact h') n
  | exo h' n hd nd => exact .exo (by rw [upd_ne (ne_of h' h (by intro z; cases z))]; exact h') n (by rw [upd_ne (ne_of hd h (by intro z; cases z))]; exact hd) nd
theorem Th.upd {C g l : Addr} {H0 H : Hp} {p : Addr} {o : HO} {v : V} (a : Ok g l H0 H) (h : H p = none) (t : Th C g H v) : Th C g (L2.upd H p o) v := t.kp (upd_kp a h)
theorem Th.dict {C g l : Addr} {H0 H : Hp} {p : Addr} {xs : List (Key × V)} (a : Ok g l H0 H) (h : H p = none) : Th C g (L2.upd H p (.dK xs)) (.ref p) := .dK upd_same (a.bag.ne h).1
end LC

namespace LC
open PySem L2
/-- a dict stands at p -/
def Dd (g : Addr) (H : Hp) (p : Addr) : Prop := p ≠ g ∧ ∃ kvs, H p = some (.dK kvs)
theorem Dd.new {g : Addr} {H : Hp} {p q : Addr} {o : HO} (d : Dd g H p) (h : H q = none) : Dd g (L2.upd H q o) p := by
  obtain ⟨n, kvs, e⟩ := d
  exact ⟨n, kvs, by rw [upd_ne (ne_of_none e h)]; exact e⟩
theorem Dd.dict {g : Addr} {H : Hp} {p q : Addr} {kvs : List (Key × V)} (d : Dd g H p) : Dd g (L2.upd H q (.dK kvs)) p := by
  obtain ⟨n, ks, e⟩ := d
  by_cases h : p = q
  · subst h
    exact ⟨n, kvs, upd_same⟩
  · exact ⟨n, ks, by rw [upd_ne h]; exact e⟩
theorem Dd.mk' {g l : Addr} {H0 H : Hp} {p : Addr} {kvs : List (Key × V)} (a : Ok g l H0 H) (h : H p = none) : Dd g (L2.upd H p (.dK kvs)) p := ⟨(a.bag.ne h).1, kvs, upd_same⟩
theorem Dd.th {C g : Addr} {H : Hp} {p : Addr} (d : Dd g H p) : Th C g H (.ref p) := by
  obtain ⟨n, kvs, e⟩ := d
  exact .dK e n
end LC
namespace LC
open PySem L2
theorem strs_of (z : Str) : ∀ xs : List V, (∀ x ∈ xs, ∃ c ∈ z.cps.toList, x = V.str ⟨#[c]⟩) → ∃ ys : List Str, xs = ys.map V.str ∧ (∀ y ∈ ys, y.length = 1) ∧ ys.length = xs.length
  | [], _ => ⟨[], rfl, (fun y hy => by cases hy), rfl⟩
  | x :: r, h => by
    obtain ⟨ys, e, h1, h2⟩ := strs_of z r fun y hy => h y (List.mem_cons_of_mem _ hy)
    obtain ⟨c, _, rfl⟩ := h x (List.mem_cons_self ..)
    refine ⟨⟨#[c]⟩ :: ys, by rw [e]; rfl, fun y hy => ?_, by rw [List.length_cons, h2]; rfl⟩
    rcases List.mem_cons.mp hy with rfl | hy
    · rfl
    · exact h1 y hy
theorem sum_ones : ∀ ys : List Str, (∀ y ∈ ys, y.length = 1) → (ys.map (·.length)).sum = ys.length
  | [], _ => rfl
  | y :: r, h => by
    have e := sum_ones r fun z hz => h z (List.mem_cons_of_mem _ hz)
    show (y.length :: r.map (·.length)).sum = r.length + 1
    rw [List.sum_cons, e, h y (List.mem_cons_self ..)]
    omega
theorem cutS_le (z : Str) (lo hi : Option Int) : (cutS z lo hi).length ≤ z.length := by
  show (cutS z lo hi).cps.size ≤ z.cps.size
  unfold cutS
  rw [List.size_toArray, List.length_take, List.length_drop, Array.length_toList]
  omega
end LC

namespace LC
open PySem L2
theorem kp_of {g : Addr} {H1 H2 : Hp} {a : Addr} {o : HO} (ha : H1 a = none) (k : ∀ b u, b ≠ a → L2.upd H1 a o b = some u → H2 b = some u) : Kp g H1 H2 := fun b u _ e => k b u (ne_of_none e ha) (by rw [upd_ne (ne_of_none e ha)]; exact e)
theorem log_small {i : Int} (h0 : -1000000 ≤ i) (h1 : i ≤ 1000000) : i.natAbs.log2 < 1920 := Nat.lt_trans (PySem.Flt.log2_lt_of (k := 20) (by decide) (Nat.lt_of_le_of_lt (show i.natAbs ≤ 1000000 by omega) (by decide))) (by decide)
end LC

namespace LC
theorem ite_same {c : Prop} [Decidable c] {A B C : Prop} (h : C) (h1 : C → A) (h2 : C → B) : if c then A else B := by
  by_cases q : c
  · rw [if_pos q]
    exact h1 h
  · rw [if_neg q]
    exact h2 h
theorem ite_nbeq {b : Bool} {A B : Prop} (h : B) : if (!(b == b)) = true then A else B := by
  rw [beq_self_eq_true]
  exact L2.iteF h
end LC

namespace LC
open PySem L2
theorem kit_sub {K : PySem.W.Frag} {C : Addr} {T : String} {b : Bool} (m : PySem.W.kitMeta T = true) (h : PySem.W.subIn K (.ref C) (.type T) = some b) : PySem.W.kitOne K (.ref C) (.type T) = some b := by
  have e : ((Value.ref C : Value) == Value.type T) = false := rfl
  unfold PySem.W.kitOne
  rw [e, if_neg Bool.false_ne_true]
  show (if PySem.W.kitMeta T = true then PySem.W.subIn K (.ref C) (.type T) else none) = some b
  rw [m, if_pos rfl]
  exact h
theorem cls_some {K : PySem.W.Frag} {C : Addr} {nm q : Str} {N : Addr} {bs bm : List Value} {sn : List Str} {sub : List Value} {ab : Bool} {col : Option Bool} {dd : Option Addr} {k0 k1 k2 k3 k5 : Option Value} {nw : String} (h : K.lookup C = some (excClassObj nm q C N bs bm true sn sub ab col dd k0 k1 k2 k3 k5 nw)) : (PySem.W.clsIn K C).isSome = true := by
  unfold PySem.W.clsIn
  rw [h] <;> rfl
theorem refs_ve (S : Addr) : PySem.HandSPX.refsVE [.ref S, .type "ValueError", .type "Exception", .type "BaseException", .type "object"] = true := by
  show PySem.HandSPX.refsVE [.type "ValueError", .type "Exception", .type "BaseException", .type "object"] = true
  decide +kernel
end LC

namespace RM
/-- the plan of a rest -/
inductive Pl where
  | win (w : Int)
  | days (bs : List Int) (e : Int)
  | lat (p q : Pl)
  | soo (p q : Pl)
  | nex (p q : Pl)
def lastOf (bs : List Int) : Int := bs.getLastD 0
def dayAt (bs : List Int) (e t : Int) : Int := match bs.find? (fun b => decide (b > t)) with
  | some b => b
  | none => lastOf bs + ((t - lastOf bs) / e + 1) * e
def Pl.at : Pl → Int → Int
  | .win w, t => t + w
  | .days bs e, t => dayAt bs e t
  | .lat p q, t => if q.at t > p.at t then q.at t else p.at t
  | .soo p q, t => if q.at t < p.at t then q.at t else p.at t
  | .nex p q, t => q.at (p.at t)
def Pl.leaves : Pl → Nat
  | .win _ => 1
  | .days _ _ => 1
  | .lat p q => p.leaves + q.leaves
  | .soo p q => p.leaves + q.leaves
  | .nex p q => p.leaves + q.leaves
def Pl.forms : Pl → Int
  | .win _ => 1
  | .days _ _ => 1
  | .lat p q => 1 + p.forms + q.forms
  | .soo p q => 1 + p.forms + q.forms
  | .nex p q => 1 + p.forms + q.forms
def lcmI (a b : Int) : Int := ((a.natAbs.lcm b.natAbs : Nat) : Int)
def Pl.per : Pl → Int
  | .win _ => 1
  | .days _ e => e
  | .lat p q => lcmI p.per q.per
  | .soo p q => lcmI p.per q.per
  | .nex p q => lcmI p.per q.per
def maxI (a b : Int) : Int := if b > a then b else a
def Pl.bend : Pl → Int
  | .win _ => 0
  | .days bs _ => lastOf bs
  | .lat p q => maxI p.bend q.bend
  | .soo p q => maxI p.bend q.bend
  | .nex p q => maxI p.bend q.bend
def Pl.h : Pl → Nat
  | .win _ => 0
  | .days _ _ => 0
  | .lat p q => 1 + max p.h q.h
  | .soo p q => 1 + max p.h q.h
  | .nex p q => 1 + max p.h q.h
/-- borders that rise from n on -/
def Asc : Int → List Int → Prop
  | _, [] => True
  | n, b :: r => n ≤ b ∧ b ≤ 1000 ∧ Asc (b + 1) r
def Pl.ok (L : Nat) : Pl → Prop
  | .win w => 1 ≤ w ∧ w ≤ 1000
  | .days bs e => 1 ≤ e ∧ e ≤ 2000 ∧ e.natAbs ∣ L ∧ bs.length ≤ 12 ∧ Asc 1 bs
  | .lat p q => p.ok L ∧ q.ok L
  | .soo p q => p.ok L ∧ q.ok L
  | .nex p q => p.ok L ∧ q.ok L
theorem Pl.leaves_pos : ∀ p : Pl, 1 ≤ p.leaves
  | .win _ => Nat.le_refl _
  | .days _ _ => Nat.le_refl _
  | .lat p q => Nat.le_trans p.leaves_pos (Nat.le_add_right _ _)
  | .soo p q => Nat.le_trans p.leaves_pos (Nat.le_add_right _ _)
  | .nex p q => Nat.le_trans p.leaves_pos (Nat.le_add_right _ _)
theorem Pl.h_lt : ∀ p : Pl, p.h + 1 ≤ p.leaves
  | .win _ => Nat.le_refl _
  | .days _ _ => Nat.le_refl _
  | .lat p q => by have := p.h_lt; have := q.h_lt; simp only [Pl.h, Pl.leaves]; omega
  | .soo p q => by have := p.h_lt; have := q.h_lt; simp only [Pl.h, Pl.leaves]; omega
  | .nex p q => by have := p.h_lt; have := q.h_lt; simp only [Pl.h, Pl.leaves]; omega
theorem Pl.forms_eq : ∀ p : Pl, p.forms = 2 * p.leaves - 1
  | .win _ => rfl
  | .days _ _ => rfl
  | .lat p q => by have := p.forms_eq; have := q.forms_eq; simp only [Pl.forms, Pl.leaves]; omega
  | .soo p q => by have := p.forms_eq; have := q.forms_eq; simp only [Pl.forms, Pl.leaves]; omega
  | .nex p q => by have := p.forms_eq; have := q.forms_eq; simp only [Pl.forms, Pl.leaves]; omega
theorem Pl.ok_mono {L M : Nat} (d : L ∣ M) : ∀ p : Pl, p.ok L → p.ok M
  | .win _, h => h
  | .days _ _, h => ⟨h.1, h.2.1, Nat.dvd_trans h.2.2.1 d, h.2.2.2⟩
  | .lat p q, h => ⟨p.ok_mono d h.1, q.ok_mono d h.2⟩
  | .soo p q, h => ⟨p.ok_mono d h.1, q.ok_mono d h.2⟩
  | .nex p q, h => ⟨p.ok_mono d h.1, q.ok_mono d h.2⟩
theorem lcmI_dvd {a b : Int} {L : Nat} (h1 : a.natAbs ∣ L) (h2 : b.natAbs ∣ L) : (lcmI a b).natAbs ∣ L := by
  unfold lcmI
  rw [Int.natAbs_natCast]
  exact Nat.lcm_dvd h1 h2
theorem lcmI_pos {a b : Int} (h1 : 0 < a) (h2 : 0 < b) : 0 < lcmI a b := by
  unfold lcmI
  have := Nat.lcm_pos (m := a.natAbs) (n := b.natAbs) (by omega) (by omega)
  omega
theorem Pl.per_ok {L : Nat} : ∀ p : Pl, p.ok L → p.per.natAbs ∣ L ∧ 0 < p.per
  | .win _, _ => ⟨Nat.one_dvd _, (show (0 : Int) < 1 by decide)⟩
  | .days _ e, h => ⟨h.2.2.1, by have := h.1; simp only [Pl.per]; omega⟩
  | .lat p q, h => ⟨lcmI_dvd (p.per_ok h.1).1 (q.per_ok h.2).1, lcmI_pos (p.per_ok h.1).2 (q.per_ok h.2).2⟩
  | .soo p q, h => ⟨lcmI_dvd (p.per_ok h.1).1 (q.per_ok h.2).1, lcmI_pos (p.per_ok h.1).2 (q.per_ok h.2).2⟩
  | .nex p q, h => ⟨lcmI_dvd (p.per_ok h.1).1 (q.per_ok h.2).1, lcmI_pos (p.per_ok h.1).2 (q.per_ok h.2).2⟩
theorem Pl.per_le {L : Nat} (p : Pl) (h : p.ok L) (h0 : 0 < L) (h1 : L ≤ 2000) : 1 ≤ p.per ∧ p.per ≤ 2000 := by
  obtain ⟨d, q⟩ := p.per_ok h
  have := Nat.le_of_dvd h0 d
  omega
theorem Asc.all : ∀ {n : Int} {bs : List Int}, Asc n bs → ∀ b ∈ bs, n ≤ b ∧ b ≤ 1000
  | _, [], _, b, hb => by cases hb
  | n, c :: r, h, b, hb => by
    rcases List.mem_cons.mp hb with rfl | hb
    · exact ⟨h.1, h.2.1⟩
    · have := Asc.all h.2.2 b hb
      have := h.1
      omega
theorem lastOf_nil : lastOf [] = 0 := rfl
theorem lastOf_mem : ∀ {bs : List Int}, bs ≠ [] → lastOf bs ∈ bs
  | [], h => absurd rfl h
  | [b], _ => List.mem_singleton.mpr rfl
  | b :: c :: r, _ => by
    have := lastOf_mem (bs := c :: r) (by simp)
    exact List.mem_cons_of_mem _ this
theorem Asc.last {n : Int} : ∀ {bs : List Int}, Asc n bs → ∀ b ∈ bs, b ≤ lastOf bs
  | [], _, b, hb => by cases hb
  | [c], _, b, hb => by
    rw [List.mem_singleton] at hb
    rw [hb]
    exact Int.le_refl _
  | c :: d :: r, h, b, hb => by
    have ih := Asc.last (bs := d :: r) h.2.2
    show b ≤ lastOf (d :: r)
    rcases List.mem_cons.mp hb with rfl | hb
    · have := ih d (by simp)
      have := h.2.2.1
      omega
    · exact ih b hb
theorem Asc.last_bd {bs : List Int} (h : Asc 1 bs) : 0 ≤ lastOf bs ∧ lastOf bs ≤ 1000 := by
  by_cases e : bs = []
  · subst e
    exact ⟨Int.le_refl _, by decide⟩
  · have := h.all _ (lastOf_mem e)
    omega
/-- the greatest of 0 and the borders -/
theorem Asc.max {bs : List Int} (h : Asc 1 bs) {m : Int} (hm : m ∈ 0 :: bs) (hu : ∀ y ∈ 0 :: bs, y ≤ m) : m = lastOf bs := by
  have l0 := h.last_bd
  rcases List.mem_cons.mp hm with rfl | hm
  · by_cases e : bs = []
    · subst e; rfl
    · have := h.all _ (lastOf_mem e)
      have := hu _ (List.mem_cons_of_mem _ (lastOf_mem e))
      omega
  · have e : bs ≠ [] := fun z => by rw [z] at hm; cases hm
    have := h.last m hm
    have := hu _ (List.mem_cons_of_mem _ (lastOf_mem e))
    omega
theorem dayAt_some {bs : List Int} {e t b : Int} (h : bs.find? (fun b => decide (b > t)) = some b) : dayAt bs e t = b := by unfold dayAt; rw [h]
theorem dayAt_none {bs : List Int} {e t : Int} (h : bs.find? (fun b => decide (b > t)) = none) : dayAt bs e t = lastOf bs + ((t - lastOf bs) / e + 1) * e := by unfold dayAt; rw [h]
theorem find_none {bs : List Int} {t : Int} (h : bs.find? (fun b => decide (b > t)) = none) : ∀ b ∈ bs, b ≤ t := by
  intro b hb
  have := List.find?_eq_none.mp h b hb
  simp at this
  exact this
theorem last_le {bs : List Int} {t : Int} (h0 : 0 ≤ t) (h : ∀ b ∈ bs, b ≤ t) : lastOf bs ≤ t := by
  by_cases e : bs = []
  · subst e; exact h0
  · exact h _ (lastOf_mem e)
theorem div_step (x e : Int) (he : 0 < e) : x < (x / e + 1) * e ∧ (x / e) * e ≤ x := by
  have h1 := Int.emod_nonneg x (by omega : e ≠ 0)
  have h2 := Int.emod_lt_of_pos x he
  have h3 := Int.mul_ediv_add_emod x e
  have h4 : (x / e + 1) * e = e * (x / e) + e := by rw [Int.add_mul, Int.one_mul, Int.mul_comm]
  have h5 : (x / e) * e = e * (x / e) := Int.mul_comm _ _
  omega
theorem dayAt_gt {bs : List Int} {e t : Int} (he : 0 < e) : t < dayAt bs e t := by
  cases q : bs.find? (fun b => decide (b > t)) with
  | some b =>
    rw [dayAt_some q]
    have := List.find?_some q
    simpa using this
  | none =>
    rw [dayAt_none q]
    have := (div_step (t - lastOf bs) e he).1
    omega
theorem dayAt_le {bs : List Int} {e t : Int} (he : 0 < e) (h1 : e ≤ 2000) (ha : Asc 1 bs) (h0 : 0 ≤ t) : dayAt bs e t ≤ t + 2000 := by
  cases q : bs.find? (fun b => decide (b > t)) with
  | some b =>
    rw [dayAt_some q]
    have := ha.all _ (List.mem_of_find?_eq_some q)
    omega
  | none =>
    rw [dayAt_none q]
    have := (div_step (t - lastOf bs) e he).2
    have h4 : ((t - lastOf bs) / e + 1) * e = (t - lastOf bs) / e * e + e := by rw [Int.add_mul, Int.one_mul]
    omega
theorem find_first {t t' : Int} (htt : t ≤ t') : ∀ {n : Int} {bs : List Int} {b b' : Int}, Asc n bs → bs.find? (fun b => decide (b > t)) = some b → bs.find? (fun b => decide (b > t')) = some b' → b ≤ b'
  | _, [], _, _, _, h, _ => by cases h
  | n, c :: r, b, b', ha, h, h' => by
    rw [List.find?_cons] at h h'
    by_cases q : c > t
    · rw [decide_eq_true q] at h
      cases h
      by_cases q' : c > t'
      · rw [decide_eq_true q'] at h'
        cases h'
        exact Int.le_refl _
      · rw [decide_eq_false q'] at h'
        have := ha.2.2.all _ (List.mem_of_find?_eq_some h')
        omega
    · rw [decide_eq_false q] at h
      rw [decide_eq_false (show ¬ c > t' by omega)] at h'
      exact find_first htt ha.2.2 h h'
theorem dayAt_mono {bs : List Int} {e t t' : Int} (he : 0 < e) (ha : Asc 1 bs) (htt : t ≤ t') : dayAt bs e t ≤ dayAt bs e t' := by
  cases q : bs.find? (fun b => decide (b > t)) with
  | some b =>
    rw [dayAt_some q]
    cases q' : bs.find? (fun b => decide (b > t')) with
    | some b' =>
      rw [dayAt_some q']
      exact find_first htt ha q q'
    | none =>
      have h1 := ha.last _ (List.mem_of_find?_eq_some q)
      have h2 := find_none q' _ (List.mem_of_find?_eq_some q)
      have := dayAt_gt (bs := bs) (t := t') he
      omega
  | none =>
    rw [dayAt_none q]
    have q2 : bs.find? (fun b => decide (b > t')) = none := by
      rw [List.find?_eq_none]
      intro b hb
      have := find_none q b hb
      simp
      omega
    rw [dayAt_none q2]
    have hd : (t - lastOf bs) / e ≤ (t' - lastOf bs) / e := Int.ediv_le_ediv he (by omega)
    have := Int.mul_le_mul_of_nonneg_right (show (t - lastOf bs) / e + 1 ≤ (t' - lastOf bs) / e + 1 by omega) (Int.le_of_lt he)
    omega
theorem dayAt_per {bs : List Int} {e t m : Int} (he : 0 < e) (ha : Asc 1 bs) (hb : lastOf bs ≤ t) (hm : 0 ≤ m) (hd : e ∣ m) : dayAt bs e (t + m) = dayAt bs e t + m := by
  have no : ∀ {u : Int}, lastOf bs ≤ u → bs.find? (fun b => decide (b > u)) = none := fun {u} hu => by
    rw [List.find?_eq_none]
    intro b hb
    have := ha.last b hb
    simp
    omega
  rw [dayAt_none (no hb), dayAt_none (no (show lastOf bs ≤ t + m by omega))]
  obtain ⟨c, rfl⟩ := hd
  have e1 : t + e * c - lastOf bs = (t - lastOf bs) + e * c := by omega
  rw [e1, Int.add_mul_ediv_left _ _ (by omega : e ≠ 0)]
  have e2 : ((t - lastOf bs) / e + c + 1) * e = ((t - lastOf bs) / e + 1) * e + e * c := by
    rw [Int.add_mul, Int.add_mul, Int.add_mul, Int.mul_comm c e]
    omega
  rw [e2]
  omega
theorem Pl.at_gt {L : Nat} : ∀ (p : Pl), p.ok L → ∀ t, t < p.at t
  | .win w, h, t => by have := h.1; simp only [Pl.at]; omega
  | .days bs e, h, t => dayAt_gt (by have := h.1; omega)
  | .lat p q, h, t => by
    have := p.at_gt h.1 t
    have := q.at_gt h.2 t
    simp only [Pl.at]
    split <;> omega
  | .soo p q, h, t => by
    have := p.at_gt h.1 t
    have := q.at_gt h.2 t
    simp only [Pl.at]
    split <;> omega
  | .nex p q, h, t => Int.lt_trans (p.at_gt h.1 t) (q.at_gt h.2 _)
theorem Pl.at_le {L : Nat} : ∀ (p : Pl), p.ok L → ∀ t, 0 ≤ t → p.at t ≤ t + 2000 * p.leaves
  | .win w, h, t, _ => by have := h.2; simp only [Pl.at, Pl.leaves]; omega
  | .days bs e, h, t, h0 => by
    have := dayAt_le (bs := bs) (by have := h.1; omega) h.2.1 h.2.2.2.2 h0
    simp only [Pl.at, Pl.leaves]
    omega
  | .lat p q, h, t, h0 => by
    have := p.at_le h.1 t h0
    have := q.at_le h.2 t h0
    simp only [Pl.at, Pl.leaves]
    split <;> omega
  | .soo p q, h, t, h0 => by
    have := p.at_le h.1 t h0
    have := q.at_le h.2 t h0
    simp only [Pl.at, Pl.leaves]
    split <;> omega
  | .nex p q, h, t, h0 => by
    have h1 := p.at_gt h.1 t
    have := p.at_le h.1 t h0
    have := q.at_le h.2 (p.at t) (by omega)
    simp only [Pl.at, Pl.leaves]
    omega
theorem Pl.at_mono {L : Nat} : ∀ (p : Pl), p.ok L → ∀ t t', t ≤ t' → p.at t ≤ p.at t'
  | .win w, h, t, t', ht => by simp only [Pl.at]; omega
  | .days bs e, h, t, t', ht => dayAt_mono (by have := h.1; omega) h.2.2.2.2 ht
  | .lat p q, h, t, t', ht => by
    have := p.at_mono h.1 t t' ht
    have := q.at_mono h.2 t t' ht
    simp only [Pl.at]
    split <;> split <;> omega
  | .soo p q, h, t, t', ht => by
    have := p.at_mono h.1 t t' ht
    have := q.at_mono h.2 t t' ht
    simp only [Pl.at]
    split <;> split <;> omega
  | .nex p q, h, t, t', ht => q.at_mono h.2 _ _ (p.at_mono h.1 t t' ht)
theorem maxI_le {a b t : Int} (h : maxI a b ≤ t) : a ≤ t ∧ b ≤ t := by
  unfold maxI at h
  split at h <;> omega
theorem dvd_l {a b m : Int} (h : lcmI a b ∣ m) : a ∣ m ∧ b ∣ m := by
  have h1 : a ∣ lcmI a b := Int.natAbs_dvd_natAbs.mp (by unfold lcmI; rw [Int.natAbs_natCast]; exact Nat.dvd_lcm_left _ _)
  have h2 : b ∣ lcmI a b := Int.natAbs_dvd_natAbs.mp (by unfold lcmI; rw [Int.natAbs_natCast]; exact Nat.dvd_lcm_right _ _)
  exact ⟨Int.dvd_trans h1 h, Int.dvd_trans h2 h⟩
theorem Pl.at_per {L : Nat} : ∀ (p : Pl), p.ok L → ∀ t m, p.bend ≤ t → 0 ≤ m → p.per ∣ m → p.at (t + m) = p.at t + m
  | .win w, h, t, m, _, _, _ => by simp only [Pl.at]; omega
  | .days bs e, h, t, m, hb, hm, hd => dayAt_per (by have := h.1; omega) h.2.2.2.2 hb hm hd
  | .lat p q, h, t, m, hb, hm, hd => by
    obtain ⟨d1, d2⟩ := dvd_l hd
    obtain ⟨b1, b2⟩ := maxI_le hb
    have h1 := p.at_per h.1 t m b1 hm d1
    have h2 := q.at_per h.2 t m b2 hm d2
    simp only [Pl.at, h1, h2]
    split <;> split <;> omega
  | .soo p q, h, t, m, hb, hm, hd => by
    obtain ⟨d1, d2⟩ := dvd_l hd
    obtain ⟨b1, b2⟩ := maxI_le hb
    have h1 := p.at_per h.1 t m b1 hm d1
    have h2 := q.at_per h.2 t m b2 hm d2
    simp only [Pl.at, h1, h2]
    split <;> split <;> omega
  | .nex p q, h, t, m, hb, hm, hd => by
    obtain ⟨d1, d2⟩ := dvd_l hd
    obtain ⟨b1, b2⟩ := maxI_le hb
    have h1 := p.at_per h.1 t m b1 hm d1
    have := p.at_gt h.1 t
    have h2 := q.at_per h.2 (p.at t) m (by omega) hm d2
    simp only [Pl.at, h1, h2]
theorem Pl.bend_bd {L : Nat} : ∀ p : Pl, p.ok L → 0 ≤ p.bend ∧ p.bend ≤ 1000
  | .win _, _ => ⟨Int.le_refl _, (show (0 : Int) ≤ 1000 by decide)⟩
  | .days _ _, h => h.2.2.2.2.last_bd
  | .lat p q, h => by have := p.bend_bd h.1; have := q.bend_bd h.2; simp only [Pl.bend, maxI]; split <;> omega
  | .soo p q, h => by have := p.bend_bd h.1; have := q.bend_bd h.2; simp only [Pl.bend, maxI]; split <;> omega
  | .nex p q, h => by have := p.bend_bd h.1; have := q.bend_bd h.2; simp only [Pl.bend, maxI]; split <;> omega
end RM
namespace RM
theorem fmod_nat (X Y : Nat) : (X : Int).fmod (Y : Int) = ((X % Y : Nat) : Int) := by
  rw [Int.fmod_eq_emod_of_nonneg _ (Int.natCast_nonneg _)]
  rfl
theorem fdiv_nat (X Y : Nat) : (X : Int).fdiv (Y : Int) = ((X / Y : Nat) : Int) := by
  rw [Int.fdiv_eq_ediv_of_nonneg _ (Int.natCast_nonneg _)]
  rfl
theorem lcm_by (A B : Nat) : ((A : Int).fdiv ((Nat.gcd A B : Nat) : Int)) * (B : Int) = lcmI A B := by
  rw [fdiv_nat]
  unfold lcmI
  rw [Int.natAbs_natCast, Int.natAbs_natCast, ← Int.natCast_mul]
  congr 1
  rw [Nat.div_mul_right_comm (Nat.gcd_dvd_left A B)]
  rfl
theorem gcd_step (X Y : Nat) : Nat.gcd Y (X % Y) = Nat.gcd X Y := by
  rw [Nat.gcd_comm X Y, Nat.gcd_rec Y X, Nat.gcd_comm]
end RM
namespace RM
theorem Asc.snoc {e c : Int} : ∀ {n : Int} {bs : List Int}, Asc n bs → (∀ b ∈ bs, b ≤ e) → n ≤ c → e < c → c ≤ 1000 → Asc n (bs ++ [c])
  | n, [], _, _, h1, _, h3 => ⟨h1, h3, True.intro⟩
  | n, b :: r, h, hb, h1, h2, h3 => ⟨h.1, h.2.1, Asc.snoc h.2.2 (fun x hx => hb x (List.mem_cons_of_mem _ hx)) (by have := hb b (by simp); omega) h2 h3⟩
theorem lcmI_one (B : Nat) : lcmI B 1 = B := by
  unfold lcmI
  rw [Int.natAbs_natCast]
  show ((B.lcm 1 : Nat) : Int) = B
  rw [Nat.lcm_one_right]
theorem lcmI_self (B : Nat) : lcmI B B = B := by
  unfold lcmI
  rw [Int.natAbs_natCast, Nat.lcm_self]
end RM
namespace RM
/-- a plan is as good with its own period -/
theorem Pl.ok_per {L : Nat} : ∀ p : Pl, p.ok L → p.ok p.per.natAbs
  | .win _, h => h
  | .days _ e, h => ⟨h.1, h.2.1, Nat.dvd_refl _, h.2.2.2⟩
  | .lat p q, h => ⟨Pl.ok_mono (by simp only [Pl.per, lcmI, Int.natAbs_natCast]; exact Nat.dvd_lcm_left _ _) p (p.ok_per h.1), Pl.ok_mono (by simp only [Pl.per, lcmI, Int.natAbs_natCast]; exact Nat.dvd_lcm_right _ _) q (q.ok_per h.2)⟩
  | .soo p q, h => ⟨Pl.ok_mono (by simp only [Pl.per, lcmI, Int.natAbs_natCast]; exact Nat.dvd_lcm_left _ _) p (p.ok_per h.1), Pl.ok_mono (by simp only [Pl.per, lcmI, Int.natAbs_natCast]; exact Nat.dvd_lcm_right _ _) q (q.ok_per h.2)⟩
  | .nex p q, h => ⟨Pl.ok_mono (by simp only [Pl.per, lcmI, Int.natAbs_natCast]; exact Nat.dvd_lcm_left _ _) p (p.ok_per h.1), Pl.ok_mono (by simp only [Pl.per, lcmI, Int.natAbs_natCast]; exact Nat.dvd_lcm_right _ _) q (q.ok_per h.2)⟩
theorem lcmI_comm (a b : Int) : lcmI a b = lcmI b a := by
  unfold lcmI
  rw [Nat.lcm_comm]
end RM

namespace LC
open PySem L2
section
variable {X : Cx} {st : Stmt} {ss : List Stmt}
/-- a statement that is never come to -/
theorem ps_never : PS X st (fun _ _ _ => False) := ⟨fun _ _ _ _ _ _ h => h.elim⟩
theorem pss_never : PSs X ss (fun _ _ _ => False) := ⟨fun _ _ _ _ _ _ h => h.elim⟩
def rLcm : List V → Hp → VK → Prop := fun vs H Q => ∃ a b : Int, vs = [.int a, .int b] ∧ a.natAbs < 2 ^ 64 ∧ b.natAbs < 2 ^ 64 ∧ Q (.int (RM.lcmI a b)) H
theorem cr_lcm : CallR X (.builtin "math.lcm") rLcm := by
  intro pins s σ H vs us Q I r h
  obtain ⟨a, b, rfl, h1, h2, q⟩ := h
  obtain ⟨t, u, rfl⟩ := Vals.int2 r
  exact PySem.W.mc_lcm h1 h2 fun _ => ⟨.int _, H, I.tok _, ⟨_, rfl⟩, q⟩
end
theorem fn_none {P : Program} {w : World} {K : PySem.W.Frag} {mg : Str → Option Value} {base : Heap} {CX : CXT} {k : Nat} {f : Addr} {fd : FuncData} {ps : List Str} {sp : Sp} (h : ∀ vs H Q E, ¬ sp vs H Q E) : FnOk P w K mg base CX k f fd ps sp :=
  ⟨fun vs H Q E q => (h _ _ _ _ q).elim, fun A outer s H args us vs Q E hr e0 hb r q => (h _ _ _ _ q).elim⟩
theorem raw0 {P : Program} {w : World} {K : PySem.W.Frag} {mg : Str → Option Value} {base : Heap} {CX : CXT} {k : Nat} {f : Addr} {fd : FuncData} {ps : List Str} {sp : Sp} (F : FnOk P w K mg base CX k f fd ps sp) (hb : Binds K fd ps []) : FnR P w K mg base CX k f sp :=
  (F.raw hb .nil).imp fun vs H Q E h => by
    rw [List.append_nil]
    exact h
theorem kLT_int {K : PySem.W.Frag} : PySem.W.kitAny K (.type "int") [.type "list", .type "tuple"] = some false := kitAny_cons (kit_ty (show kitB "int" "list" = some false by decide +kernel)) (fun _ => kitAny_cons (kit_ty (show kitB "int" "tuple" = some false by decide +kernel)) (fun _ => kitAny_nil) fun z => by cases z) (fun z => by cases z)
theorem kLT_lst {K : PySem.W.Frag} : PySem.W.kitAny K (.type "list") [.type "list", .type "tuple"] = some true := kitAny_cons (kit_ty (show kitB "list" "list" = some true by decide +kernel)) (fun z => by cases z) (fun _ => rfl)
end LC

namespace LE
open PySem L2 PySem.Spec PyProof.Rows
/-- the type of what stands on the right: an int, a text, an instance -/
inductive TyR (H : Hp) : V → Value → Prop where
  | int (i : Int) : TyR H (.int i) (.type "int")
  | str (z : Str) : TyR H (.str z) (.type "str")
  | ins {b C dx : Addr} {fs : List (Str × V)} (e : H b = some (.ins C dx fs)) : TyR H (.ref b) (.ref C)
/-- the class at C has the def at g, of the promise sp, under the name m -/
structure Own (X : Cx) (n : Nat) (m : Str) (C g : Addr) (sp : Sp) : Prop where
  at_ : PySem.W.findIn X.K (.ref C) m = some (some (.ref g))
  fn : PySem.W.isFn X.K (.ref g) = true
  F : FnR X.prog X.w X.K X.mg X.base CX0 n g sp
/-- x == y, x an instance of a class with an own == -/
def rEqI (X : Cx) (n : Nat) : R2 := fun x y H Q => ∃ (a C dx g : Addr) (fs : List (Str × V)) (sp : Sp) (tb : Value), x = .ref a ∧ H a = some (.ins C dx fs) ∧ Own X n "__eq__" C g sp ∧ TyR H y tb ∧ PySem.W.notFirst X.K C tb = true ∧ sp [x, y] H Q E0
section
variable {X : Cx} {n : Nat}
theorem op_eqI (hr : Room n X.A) : OpR X (compareOp .Eq) (rEqI X n) := by
  intro pins s σ H x y v u Q I rx ry h
  obtain ⟨a, C, dx, g, fs, sp, tb, rfl, ha, O, ty, hn, q⟩ := h
  cases (show v = Value.ref a from rx)
  obtain ⟨mA, J, _⟩ := ins_get I.hok ha
  obtain ⟨od, J, _⟩ := J.look
  obtain ⟨m, hF⟩ := I.fr
  have lk : PySem.W.Looks (model X.prog X.w) s.heap (typeOf u) tb := by
    cases ty with
    | int i => obtain ⟨t, e⟩ := (show ∃ t, u = Value.int i t from ry); cases e; exact PySem.W.Looks.of_pure rfl
    | str i => obtain ⟨t, e⟩ := (show ∃ t, u = Value.str i t from ry); cases e; exact PySem.W.Looks.of_pure rfl
    | ins e =>
      cases ry
      obtain ⟨mB, J', _⟩ := ins_get I.hok e
      obtain ⟨od', J', _⟩ := J'.look
      exact J'.type
  show wpAny (model X.prog X.w) X.A (richCompare .Eq (.ref a) u) (EP X pins σ Q) X.xe s
  refine PySem.W.cmp_K (op := .Eq) hr.units0 hF I.ok.mod.kin J lk hn O.at_ O.fn ?_
  refine wpAny_mono (wpAny_call (run_fnR (us := [.ref a, u]) (vs := [.ref a, y]) O.F hr (E := E0) pass0 I (.cons rfl (.cons ry .nil)) q)) (fun w s' z => ?_) fun _ _ x => x
  obtain ⟨z', H', I', rz, qz⟩ := z
  exact SlX.cmpback rz ⟨z', H', I', rz, qz⟩
/-- str(x) of an instance of a class with an own __str__ -/
def rStrI (X : Cx) (n : Nat) : List V → Hp → VK → Prop := fun xs H Q => ∃ (a C dx g : Addr) (fs : List (Str × V)) (sp : Sp), xs = [V.ref a] ∧ H a = some (.ins C dx fs) ∧ Own X n "__str__" C g sp ∧ sp [.ref a] H (fun z H' => ∃ t, z = .str t ∧ Q z H') E0
theorem run_in {A : Around} {pins : List (Addr × Obj)} {s : Shared} {σ : L2.St} {H : Hp} {g : Addr} {sp : Sp} {Q : VK} {us : List Value} {ws : List V} (F : FnR X.prog X.w X.K X.mg X.base CX0 n g sp) (hr : Room n A) (e0 : Env0 X.prog X.w X.K X.mg X.base A X.stack s H) (I : Inv X pins σ H s) (r : Vals ws us) (h : sp ws H Q E0) :
    codeAny (model X.prog X.w) A (.call (.ref g) ⟨us, []⟩) (fun r s' => match r with | .ok (.ret v) => EP X pins σ Q v s' | .ok _ => False | .error e => X.xe e s') s := by
  refine codeAny_mono (F A X.stack s H us ws Q E0 hr e0 r h) fun r s' hq => ?_
  cases r with
  | error e => exact pass0 pins σ H s e s' I hq
  | ok fl =>
    cases fl with
    | ret u => exact I.after hq
    | next => exact False.elim hq
    | brk => exact False.elim hq
    | cont => exact False.elim hq
theorem call_strI (hr : Room (n + 2) X.A) : CallR X (.type "str") (rStrI X n) := by
  intro pins s σ H xs us Q I r h
  obtain ⟨a, C, dx, g, fs, sp, rfl, ha, O, q⟩ := h
  obtain ⟨u, rfl, ru⟩ := r.one
  cases (show u = Value.ref a from ru)
  obtain ⟨mA, J, _⟩ := ins_get I.hok ha
  obtain ⟨od, J, _⟩ := J.look
  have hr2 : Room n X.A.in1.in1 := (show Room (n + 1) X.A.in1 from Room.in1 hr).in1
  refine PySem.W.kso_call hr2.units0 I.kIn J O.at_ O.fn (wpAny_mono (wpAny_call (run_in (us := [.ref a]) (ws := [.ref a]) O.F hr2 I.env0.in1.in1 I (.cons rfl .nil) q)) (fun w s' z => ?_) fun _ _ x => x)
  obtain ⟨z', H', I', rz, t, ez, qz⟩ := z
  subst ez
  obtain ⟨k, e⟩ := (show ∃ k, w = Value.str t k from rz)
  cases e
  exact ⟨.str t, H', I', ⟨k, rfl⟩, qz⟩
/-- f'{x}' of such an instance -/
def tFmtI (X : Cx) (n : Nat) (te : TE) : TE := fun σ H Q => te σ H fun x H1 => ∃ (a C dx g : Addr) (fs : List (Str × V)) (sp : Sp), x = V.ref a ∧ H1 a = some (.ins C dx fs) ∧ Own X n "__str__" C g sp ∧ PySem.W.findIn X.K (.ref C) "__format__" = some (some (.builtin "object.__format__")) ∧ PySem.W.mroIn X.K C (.type "object") = some true ∧
  sp [.ref a] H1 (fun z H' => ∃ t, z = .str t ∧ Q z H') E0
theorem pe_fmtI {e : Expr} {te : TE} {pos : Pos} (hr : Room (n + 1) X.A) (he : PE X e te) : PE X (.FormattedValue e (-1) none pos) (tFmtI X n te) := by
  refine ⟨fun pins s σ H Q I h => ?_⟩
  refine wpAny_FormattedValue_plain (thn (he.run pins s σ H _ I h) fun v s1 hv => ?_)
  obtain ⟨x, H1, I1, r1, a, C, dx, g, fs, sp, rfl, ha, O, hf, hm, q⟩ := hv
  cases (show v = Value.ref a from r1)
  obtain ⟨mA, J, _⟩ := ins_get I1.hok ha
  obtain ⟨od, J, _⟩ := J.look
  have hr1 : Room n X.A.in1 := Room.in1 hr
  have I2 := I1.tok (s1.toks + 1)
  refine PySem.W.kfo_fieldS hr1.units0 I1.kIn J hf hm O.at_ O.fn (wpAny_mono (wpAny_call (run_in (us := [.ref a]) (ws := [.ref a]) O.F hr1 I2.env0.in1 I2 (.cons rfl .nil) q)) (fun w s' z => ?_) fun _ _ x => x)
  obtain ⟨z', H', I', rz, t, ez, qz⟩ := z
  subst ez
  obtain ⟨k, e⟩ := (show ∃ k, w = Value.str t k from rz)
  cases e
  exact ⟨.str t, H', I', ⟨k, rfl⟩, qz⟩
end
end LE

namespace LD
open PySem PySem.Spec PyProof.Rows L2
theorem u65 {k : Nat} {A : Around} (r : Room k A) : A.units + 65 < cLine := by have := r.un; omega
section
variable {X : Cx}
/-- xs.remove(y), y is there: the first equal one goes -/
def rRemD (K : PySem.W.Frag) : V → List V → Hp → VK → Prop := fun x xs H Q => ∃ (a : Addr) (y : V) (d : PyData) (ys : List V) (ds : List PyData) (j : Nat) (z : PyData), x = V.ref a ∧ xs = [y] ∧ H a = some (.lst ys) ∧ DpAll K H ys ds ∧ Dp K H y d ∧
  SeqAt.shaped (.list ds) = true ∧ SeqAt.shaped d = true ∧ ds[j]? = some z ∧ PyData.eqv z d = true ∧ (∀ (m : Nat) (z' : PyData), m < j → ds[m]? = some z' → PyData.eqv z' d = false) ∧ Q .non (upd H a (.lst (ys.eraseIdx j)))
theorem mt_removeD (hu : X.A.units + 65 < cLine) : MtR X "list.remove" (rRemD X.K) := by
  intro pins s σ H x xs v us Q I rx rxs h
  obtain ⟨a, y, d, ys, ds, j, z, rfl, rfl, hH, hl, hy, sl, sd, hz, hzj, hno, q⟩ := h
  cases rx
  cases rxs with
  | cons ry rt =>
    rename_i uy ut
    cases rt
    obtain ⟨bs, r1⟩ := Dp.reads I d y uy hy ry
    have hxs : PyData.canLayAll0 ds = true := SeqAt.canLay_of_shaped sl
    have hroom : X.A.units + 1 + min (PyData.depthAll ds) d.depth < cLine := room_in_shaped sd hu
    obtain ⟨zl, its, n, rv, hlen, ho⟩ := I.lstM hH
    obtain ⟨as, h4⟩ := Dp.readsAll I ds _ its hl rv
    have hn : its.length = ds.length := SeqAt.ReadsAll.length ds its as h4
    have hmap : its.map (SeqAt.readOf s.heap) = ds := SeqAt.readsAll_map ds its as hxs h4
    have hvl := rv.length
    have hsl := sizeLine_eq
    obtain ⟨hjd, _⟩ := List.getElem?_eq_some_iff.mp hz
    have hjl : j < its.length := by omega
    have hj : j < its.toArray.size := by simpa using hjl
    have at_ : ∀ (m : Nat) (hm : m < its.toArray.size) (z' : PyData), ds[m]? = some z' → SeqAt.readOf s.heap its.toArray[m] = z' := by
      intro m hm z' hz'
      have hml : m < its.length := by simpa using hm
      rw [← hmap, List.getElem?_map, List.getElem?_eq_getElem hml] at hz'
      have e1 : SeqAt.readOf s.heap its[m] = z' := Option.some.inj (show some (SeqAt.readOf s.heap its[m]) = some z' from hz')
      simpa using e1
    refine call_meets PySem.F.slot_list_remove ⟨_, ho, rfl⟩ PySem.F.entry_list_remove (PySem.F.args_list_remove_2 _ _)
      (SeqAt.list_removeAt a its.toArray n none #[] uy (fun u => PyData.eqv (SeqAt.readOf s.heap u) d) j hj ?_ ?_ (by rw [List.size_toArray]; omega)) ⟨ho, SeqAt.items_eqAt (vs := its.toArray) (show ReadsAll s.heap its.toArray.toList ds as from h4) r1 hxs (SeqAt.canLay_of_shaped sd) hroom, ?_⟩
    · show PyData.eqv (SeqAt.readOf s.heap its.toArray[j]) d = true
      rw [at_ j hj z hz]
      exact hzj
    · intro m hm hmj
      have hmd : m < ds.length := by omega
      have hz' : ds[m]? = some ds[m] := List.getElem?_eq_getElem hmd
      show PyData.eqv (SeqAt.readOf s.heap its.toArray[m]) d = false
      rw [at_ m hm _ hz']
      exact hno m _ hmj hz'
    · have rr := rv.eraseIdx j
      refine ⟨.non, _, I.lset (its' := its.eraseIdx j) (t' := s.toks) hH ho ?_ rr ?_, rfl, q⟩
      · show its.toArray.eraseIdxIfInBounds j = (its.eraseIdx j).toArray
        rw [List.eraseIdxIfInBounds_toArray]
      · have := List.length_eraseIdx_le ys j
        omega
/-- the row of three at t -/
def Row3 (H : Hp) (t : Addr) (r : PySem.W.T3 Int Str Int) : Prop := H t = some (.tup [.int r.a, .str r.b, .int r.c])
/-- min(xs) of a list of tuples: the first least one itself -/
def rMinT (K : PySem.W.Frag) : List V → Hp → VK → Prop := fun vs H Q => ∃ (a : Addr) (ts : List Addr) (r0 : PySem.W.T3 Int Str Int) (rs : List (PySem.W.T3 Int Str Int)), vs = [V.ref a] ∧ SqL K H a (ts.map V.ref) ∧ Paired (Row3 H) ts (r0 :: rs) ∧
  ∀ (i : Nat) (t : Addr), ts[i]? = some t → (r0 :: rs)[i]? = some (PySem.W.minOf r0 rs) → Q (.ref t) H
theorem t3_inj {h : Heap} {v : Value} {p q : PySem.W.T3 Int Str Int} (H : PySem.W.Holds h v p) (H' : PySem.W.Holds h v q) : p = q := by
  obtain ⟨l, va, vb, vc, e, ⟨o, ho, hc, n, hd⟩, Ha, Hb, Hc⟩ := PySem.W.t3_of_holds H
  obtain ⟨l', va', vb', vc', e', ⟨o', ho', hc', n', hd'⟩, Ha', Hb', Hc'⟩ := PySem.W.t3_of_holds H'
  rw [e] at e'
  cases e'
  rw [ho] at ho'
  cases ho'
  rw [hd] at hd'
  cases hd'
  obtain ⟨t1, e1⟩ := PySem.W.int_of_holds Ha
  obtain ⟨t1', e1'⟩ := PySem.W.int_of_holds Ha'
  obtain ⟨t2, e2⟩ := PySem.W.str_of_holds Hb
  obtain ⟨t2', e2'⟩ := PySem.W.str_of_holds Hb'
  obtain ⟨t3, e3⟩ := PySem.W.int_of_holds Hc
  obtain ⟨t3', e3'⟩ := PySem.W.int_of_holds Hc'
  refine PySem.W.T3.same ?_ ?_ ?_
  · have := e1.symm.trans e1'
    injection this
  · have := e2.symm.trans e2'
    injection this
  · have := e3.symm.trans e3'
    injection this
theorem row_holds {pins : List (Addr × Obj)} {σ : L2.St} {H : Hp} {s : Shared} {t : Addr} {r : PySem.W.T3 Int Str Int} (I : Inv X pins σ H s) (h : Row3 H t r) : PySem.W.Holds s.heap (.ref t) r := by
  obtain ⟨_, its, r2, o, ho, hc, n, hd⟩ := I.hok _ _ h
  cases r2 with
  | cons q1 r2 =>
    cases r2 with
    | cons q2 r2 =>
      cases r2 with
      | cons q3 r2 =>
        cases r2
        obtain ⟨t1, rfl⟩ := q1
        obtain ⟨t2, rfl⟩ := q2
        obtain ⟨t3, rfl⟩ := q3
        exact PySem.W.holds_t3 ⟨o, ho, hc, n, hd⟩ (PySem.W.holds_int _ _) (PySem.W.holds_str _ _) (PySem.W.holds_int _ _)
theorem rows_hold {pins : List (Addr × Obj)} {σ : L2.St} {H : Hp} {s : Shared} (I : Inv X pins σ H s) : ∀ {ts : List Addr} {rs : List (PySem.W.T3 Int Str Int)} {us : List Value}, Paired (Row3 H) ts rs → Vals (ts.map V.ref) us → PySem.W.HoldAll s.heap us rs ∧ us = ts.map Value.ref
  | [], _, _, .nil, .nil => ⟨.nil, rfl⟩
  | t :: ts, _, _, .cons h p, .cons rv rvs => by
    obtain ⟨h1, h2⟩ := rows_hold I p rvs
    obtain rfl := rv
    exact ⟨.cons (row_holds I h) h1, by rw [h2]; rfl⟩
theorem cr_minT (hc : X.calm = true) (hu : X.A.units + 64 < cLine) : CallR X (.builtin "min") (rMinT X.K) := by
  intro pins s σ H vs us Q I r h
  obtain ⟨a, ts, r0, rs, rfl, hs, hp, q⟩ := h
  obtain ⟨its, rv, hl, _⟩ := I.list hs
  rw [Vals.ref1 r]
  obtain ⟨ha, rfl⟩ := rows_hold I hp rv
  refine PySem.W.min_list_datum (α := PySem.W.T3 Int Str Int) (I.ok.hd hc) hl.isList ha (by show X.A.units + 1 + 1 < cLine; omega) fun i v h' tk hi hv hk => ?_
  have hi' : (ts.map Value.ref)[i]? = some v := by simpa using hi
  rw [List.getElem?_map] at hi'
  cases e : ts[i]? with
  | none => rw [e] at hi'; cases hi'
  | some t =>
    rw [e] at hi'
    cases hi'
    obtain ⟨x, hx, hxv⟩ := ha.at (i := i) (v := .ref t) (by rw [List.getElem?_map, e]; rfl)
    have := t3_inj (hxv.keeps hk) hv
    subst this
    exact ⟨.ref t, H, I.kept hk, rfl, q i t e hx⟩
end
section
variable {X : Cx}
theorem vals_of_kv {κ : Type} {kvs : List (κ × V)} {vs : List (κ × Value)} (r : KV kvs vs) : Vals (kvs.map (·.2)) (vs.map (·.2)) := by
  induction r with
  | nil => exact .nil
  | cons h _ ih => exact .cons h.2 ih
/-- list(o.values()) -/
def tListVals (td : TE) : TE := fun σ H Q => td σ H fun x H1 => ∃ a kvs, x = V.ref a ∧ H1 a = some (.dK kvs) ∧ ∀ p, H1 p = none → Q (.ref p) (upd H1 p (.lst (kvs.map (·.2))))
variable {o : Expr} {p pos apos mpos : Pos} {td : TE}
theorem pe_listVals (hc : X.calm = true) (hg : Gl X "list") (hm : X.mg "list" = none) (hd : PE X o td) (hbase : attributeBase o "values" X.env (eval o X.env) = eval o X.env := by rfl) (hline : (apos.endLine == mpos.line) = true := by rfl)
    (hse : starEach [Expr.Call (.Attribute o "values" apos) [] [] mpos] X.env = [(false, eval (Expr.Call (.Attribute o "values" apos) [] [] mpos) X.env)] := by rfl) :
    PE X (.Call (.Name "list" p) [.Call (.Attribute o "values" apos) [] [] mpos] [] pos) (tListVals td) := by
  refine ⟨fun pins s σ H Q I h => ?_⟩
  refine wpAny_Call_Name_kw (ld_blt I hg hm (u := .type "list") (by first | rfl | decide +kernel) ?_ (by first | decide +kernel | decide) (by first | decide +kernel | decide))
  rw [hse]
  refine PySem.callWith_type1 (wpAny_Call_method0_late hbase hline (thn (hd.run pins s σ H _ I h) fun v s1 ⟨x, H1, I1, r1, a, kvs, ex, ha, q⟩ => ?_))
  subst ex
  obtain rfl : v = Value.ref a := r1
  obtain ⟨hz, hsys, vs, rel, dof⟩ := dk_of I1.hok ha
  obtain ⟨ep, dat⟩ := dof.dictAt
  have dat' := dat
  obtain ⟨ob, es, ho, ex, hdat, hko, hpr, hnd⟩ := dat'
  refine ⟨"dict", "dict.values", F.plainAttrs_dict, F.slot_dict_values, F.type_dict_values, ⟨ob, ho, ex.1⟩, fun b e => ?_, Calls.callWith_builtin rfl (PySem.evalArgs_none ?_)⟩
  · cases e
    exact ⟨ob, ho, ex.2.1⟩
  refine call_meetsIn F.slot_dict_values ⟨ob, ho, ex.1⟩ F.entry_dict_values (F.args_dict_values_1 _) (meets_dict_values (mixKind X.prog X.w) a hsys) ⟨⟨vs, dof⟩, ?_⟩
  have k1 : ∀ b u, s1.heap.get? b = some u → (s1.heap.push { cls := .type "dict_values", data := .fields #[.ref a] }).get? b = some u := fun b u e => Heap.get?_push_of_some _ e
  have dat1 : (s1.heap.push { cls := .type "dict_values", data := .fields #[.ref a] }).DictAt (mixKind X.prog X.w) a vs ep := dat.keep k1
  refine PySem.W.kdl_call (PySem.W.kdl_values (knd := mixKind X.prog X.w) (ep := ep)) (I.ok.hd hc) ⟨⟨_, Heap.get?_push_size _ rfl, rfl, rfl⟩, dat1⟩ (by rw [← KV.length rel]; exact hz) fun h' tk acc' c' hk hS' hacc => ?_
  have e1 : acc'.toList = vs.map (·.2) := PySem.W.kdl_vals_eq acc'.toList (by rw [Array.length_toList]; exact hacc.1) fun j v e => hacc.2 j v (by rw [← Array.getElem?_toList]; exact e)
  have kk : ∀ b u, s1.heap.get? b = some u → h'.get? b = some u := fun b u e => hk b u (k1 b u e)
  refine ⟨.ref _, _, I1.laid (t' := tk) (a := (s1.heap.push { cls := .type "dict_values", data := .fields #[.ref a] }).objs.size) (o := .lst (kvs.map (·.2))) kk (by rw [Heap.size_push]; exact Nat.le_succ _) ⟨?_, vs.map (·.2), c', vals_of_kv rel, ?_⟩, rfl, q _ (I1.hok.fresh (by rw [Heap.size_push]; exact Nat.le_succ _))⟩
  · rw [List.length_map]
    exact hz
  · rw [← e1]
    simpa using hS'
end
/-! ### len(x) and bool(x) of an instance -/
theorem kbo_call {prog : Program} {w : World} {A : Around} {E : Value → Shared → Prop} {s : Shared} {K : PySem.W.Frag} {h₀ : Heap} {L : Addr} {m : Str → Option Value} {x C f : Addr} {ox : Obj} {od : Option Obj} {Q : Value → Shared → Prop} (F : Fr h₀ L s.heap m) (X₀ : K.In h₀) (I : PySem.W.InstAt s.heap x ox C od)
    (hs : PySem.W.findIn K (.ref C) "__bool__" = some (some (.ref f))) (hf : PySem.W.isFn K (.ref f) = true) (h : wpAny (model prog w) A.in1.in1 (call (.ref f) [.ref x]) (PySem.W.BoolBack fun b s' => Q (.bool b) s') E s) : wpAny (model prog w) A (call (.type "bool") [.ref x]) Q E s := by
  refine callType_codes (T := "bool") (Bi := Builtin.«object.__init__») (Q₁ := fun r s₁ => ∃ y, r = .bool y ∧ Q r s₁) PySem.F.called_bool (PySem.F.typeCall_bool_1 _) PySem.F.entry_object_init ?_ ?_
  · refine codeAny_of_tree ?_
    show wpAny _ A.in1.in1 (do checkBuiltinCall "bool.__new__" ⟨[.type "bool", .ref x], []⟩; again (.builtin "bool.__new__" ⟨[.type "bool", .ref x], []⟩)) _ _ s
    refine wpAny_bind (wpAny_of_eq (PySem.F.newCall_bool_1 _) (wpAny_pure ⟨plainId_quiet (by decide +kernel) _, codeAny_builtin PySem.F.entry_bool_new ?_⟩))
    rw [Around.under_plainId (by decide +kernel) _]
    unfold Builtin.«bool.__new__»
    refine wpAny_bind (wpAny_pure ?_)
    refine wpAny_bind (wpAny_of_eq PySem.F.conv_sub_bool ?_)
    refine wpAny_bind (wpAny_pure ?_)
    refine wpAny_bind (PySem.W.truthy_K F X₀ I hs hf (wpAny_mono h (fun r s₁ hr => ?_) fun _ _ y => y))
    cases r <;> first | exact hr.elim | exact wpAny_pure ⟨_, rfl, hr⟩
  · rintro obj s₁ ⟨y, rfl, hq⟩
    exact ⟨rfl, PySem.F.args_object_init_2 _ _, object_init_meets PySem.F.called_bool.init.lookup PySem.F.called_bool.made (by decide) prog w A.in1 _ s₁ ⟨rfl, rfl, hq⟩⟩
section
variable {X : Cx} {n : Nat}
/-- len(x), x an instance of a class with an own __len__ -/
def rLenI (X : Cx) (n : Nat) : List V → Hp → VK → Prop := fun xs H Q => ∃ (a C dx g : Addr) (fs : List (Str × V)) (sp : Sp), xs = [V.ref a] ∧ H a = some (.ins C dx fs) ∧ LE.Own X n "__len__" C g sp ∧ sp [.ref a] H (fun z H' => ∃ k : Int, z = .int k ∧ 0 ≤ k ∧ k < 2 ^ 63 ∧ Q z H') E0
theorem call_lenI (hr : Room (n + 1) X.A) : CallR X (.builtin "len") (rLenI X n) := by
  intro pins s σ H xs us Q I r h
  obtain ⟨a, C, dx, g, fs, sp, rfl, ha, O, q⟩ := h
  obtain ⟨u, rfl, ru⟩ := r.one
  cases (show u = Value.ref a from ru)
  obtain ⟨mA, J, _⟩ := ins_get I.hok ha
  obtain ⟨od, J, _⟩ := J.look
  obtain ⟨m, hF⟩ := I.fr
  have hr1 : Room n X.A.in1 := Room.in1 hr
  refine PySem.W.len_K hF I.ok.mod.kin J O.at_ O.fn (wpAny_mono (wpAny_call (LE.run_in (us := [.ref a]) (ws := [.ref a]) O.F hr1 I.env0.in1 I (.cons rfl .nil) q)) (fun w s' z => ?_) fun _ _ x => x)
  obtain ⟨z', H', I', rz, k, ez, k0, k1, qz⟩ := z
  subst ez
  obtain ⟨t, e⟩ := (show ∃ t, w = Value.int k t from rz)
  cases e
  exact ⟨⟨k0, k1⟩, .int k, H', I'.tok _, ⟨_, rfl⟩, qz⟩
/-- bool(x), x an instance of a class with an own __bool__ -/
def rBoolI (X : Cx) (n : Nat) : List V → Hp → VK → Prop := fun xs H Q => ∃ (a C dx g : Addr) (fs : List (Str × V)) (sp : Sp), xs = [V.ref a] ∧ H a = some (.ins C dx fs) ∧ LE.Own X n "__bool__" C g sp ∧ sp [.ref a] H (fun z H' => ∃ k : Bool, z = .bl k ∧ Q z H') E0
theorem call_boolI (hr : Room (n + 2) X.A) : CallR X (.type "bool") (rBoolI X n) := by
  intro pins s σ H xs us Q I r h
  obtain ⟨a, C, dx, g, fs, sp, rfl, ha, O, q⟩ := h
  obtain ⟨u, rfl, ru⟩ := r.one
  cases (show u = Value.ref a from ru)
  obtain ⟨mA, J, _⟩ := ins_get I.hok ha
  obtain ⟨od, J, _⟩ := J.look
  obtain ⟨m, hF⟩ := I.fr
  have hr2 : Room n X.A.in1.in1 := (show Room (n + 1) X.A.in1 from Room.in1 hr).in1
  refine kbo_call hF I.ok.mod.kin J O.at_ O.fn (wpAny_mono (wpAny_call (LE.run_in (us := [.ref a]) (ws := [.ref a]) O.F hr2 I.env0.in1.in1 I (.cons rfl .nil) q)) (fun w s' z => ?_) fun _ _ x => x)
  obtain ⟨z', H', I', rz, k, ez, qz⟩ := z
  subst ez
  obtain rfl := (show w = Value.bool k from rz)
  exact ⟨.bl k, H', I', rfl, qz⟩
end
end LD

namespace LC
open PySem L2
section
variable {K : PySem.W.Frag} {a b : Addr} {xs ys : List V}
theorem walk_zipT {n : Nat} (hn : n = min xs.length ys.length) : Walk (RZ.ItzT K a b) n (fun H => SqT K H a xs ∧ SqT K H b ys) (YPair (fun i => xs[i]?) (fun i => ys[i]?)) := by
  have la : ∀ {i}, i < n → i < xs.length ∧ i < ys.length := fun h => by omega
  refine ⟨fun i _ hi q => ⟨xs, ys, xs[i]'(la hi).1, ys[i]'(la hi).2, q.1, q.2, List.getElem?_eq_getElem _, List.getElem?_eq_getElem _⟩, fun _ q => ⟨xs, ys, q.1, q.2, by omega⟩, fun i H v H' _ q y => ?_⟩
  obtain ⟨T, x, z, rest⟩ := y
  exact ⟨T, x, z, rest.1, rest.2.1, rest.2.2.1, rest.2.2.2.1 xs q.1, rest.2.2.2.2 ys q.2⟩
end
theorem kLT_non {K : PySem.W.Frag} : PySem.W.kitAny K (.type "NoneType") [.type "list", .type "tuple"] = some false := kitAny_cons (kit_ty (show kitB "NoneType" "list" = some false by decide +kernel)) (fun _ => kitAny_cons (kit_ty (show kitB "NoneType" "tuple" = some false by decide +kernel)) (fun _ => kitAny_nil) fun z => by cases z) (fun z => by cases z)
theorem kLT_str {K : PySem.W.Frag} : PySem.W.kitAny K (.type "str") [.type "list", .type "tuple"] = some false := kitAny_cons (kit_ty (show kitB "str" "list" = some false by decide +kernel)) (fun _ => kitAny_cons (kit_ty (show kitB "str" "tuple" = some false by decide +kernel)) (fun _ => kitAny_nil) fun z => by cases z) (fun z => by cases z)
theorem kLT_bool {K : PySem.W.Frag} : PySem.W.kitAny K (.type "bool") [.type "list", .type "tuple"] = some false := kitAny_cons (kit_ty (show kitB "bool" "list" = some false by decide +kernel)) (fun _ => kitAny_cons (kit_ty (show kitB "bool" "tuple" = some false by decide +kernel)) (fun _ => kitAny_nil) fun z => by cases z) (fun z => by cases z)
theorem kLT_tup {K : PySem.W.Frag} : PySem.W.kitAny K (.type "tuple") [.type "list", .type "tuple"] = some true := kitAny_cons (kit_ty (show kitB "tuple" "list" = some false by decide +kernel)) (fun _ => kitAny_cons (kit_ty (show kitB "tuple" "tuple" = some true by decide +kernel)) (fun z => by cases z) fun _ => rfl) (fun z => by cases z)
theorem sameT {K : PySem.W.Frag} {H H' : Hp} {a : Addr} {xs : List V} (e : L2.Same H H') (h : SqT K H a xs) : SqT K H' a xs := by
  rcases h with (h | ⟨o, h⟩) | h
  · exact .inl (.inl (e _ _ h))
  · exact .inl (.inr ⟨o, e _ _ h⟩)
  · exact .inr h
/-- both ways of a test go on alike -/
theorem ite_dc {p : Prop} [Decidable p] {A B C : Prop} (h : C) (h1 : p → C → A) (h2 : ¬ p → C → B) : if decide p = true then A else B := by
  by_cases q : p
  · rw [decide_eq_true q]
    exact L2.iteT (h1 q h)
  · rw [decide_eq_false q]
    exact L2.iteF (h2 q h)
theorem cut_lastV (xs : List V) (x : V) : cutV (xs ++ [x]) none (some (-1)) = xs := by
  have e : HT.sIx (xs ++ [x]).length (xs ++ [x]).length (some (-1)) = xs.length := by
    show (if (-1 : Int) < 0 then ((-1 : Int) + (((xs ++ [x]).length : Nat) : Int)).toNat else min (-1 : Int).toNat (xs ++ [x]).length) = xs.length
    rw [if_pos (by decide), List.length_append]
    show ((-1 : Int) + ((xs.length + 1 : Nat) : Int)).toNat = _
    omega
  unfold cutV
  rw [e, HT.sIx_none, Nat.sub_zero, List.drop_zero]
  exact List.take_left' rfl
/-- equal data, told and due -/
def Sc : V → Prop
  | .int _ => True
  | .non => True
  | .bl _ => True
  | .str _ => True
  | _ => False
def mkO (b : Bool) (xs : List V) : HO := if b = true then .lst xs else .tup xs
def Lk (H : Hp) : Nat → V → V → Prop
  | 0, x, y => x = y ∧ Sc x
  | n + 1, x, y => (x = y ∧ Sc x) ∨ ∃ (b : Bool) (p q : Addr) (xs ys : List V), x = .ref p ∧ y = .ref q ∧ H p = some (mkO b xs) ∧ H q = some (mkO b ys) ∧ xs.length = ys.length ∧ xs.length ≤ 1000000 ∧ ∀ (i : Nat) (u v : V), xs[i]? = some u → ys[i]? = some v → Lk H n u v
theorem Lk.same {H H' : Hp} (s : L2.Same H H') : ∀ {n : Nat} {x y : V}, Lk H n x y → Lk H' n x y
  | 0, _, _, h => h
  | n + 1, _, _, .inl h => .inl h
  | n + 1, _, _, .inr ⟨b, p, q, xs, ys, e1, e2, h1, h2, h3, h4, h5⟩ => .inr ⟨b, p, q, xs, ys, e1, e2, s _ _ h1, s _ _ h2, h3, h4, fun i u v a c => (h5 i u v a c).same s⟩
theorem Lk.sc {H : Hp} {x : V} (h : Sc x) : ∀ n, Lk H n x x
  | 0 => ⟨rfl, h⟩
  | _ + 1 => .inl ⟨rfl, h⟩
theorem Lk.cases {H : Hp} {m : Nat} {u v : V} (h : Lk H m u v) : (u = v ∧ Sc u) ∨ ∃ j, m = j + 1 ∧ ∃ (b : Bool) (p q : Addr) (xs ys : List V), u = .ref p ∧ v = .ref q ∧ H p = some (mkO b xs) ∧ H q = some (mkO b ys) ∧ xs.length = ys.length ∧ xs.length ≤ 1000000 ∧ ∀ (i : Nat) (s t : V), xs[i]? = some s → ys[i]? = some t → Lk H j s t := by
  cases m with
  | zero => exact .inl h
  | succ j =>
    rcases h with h | h
    · exact .inl h
    · exact .inr ⟨j, rfl, h⟩
end LC


namespace k48
open PySem L2 LC
def top (i : Nat) : Stmt := PySem.Challenge.pw_surelet_k48_whole_fair_turns.main.body.getD i (.Pass ⟨0, 0, 0, 0⟩)
abbrev scheck_count : Stmt := top 11
abbrev Nmcheck_count : List Str := ["what", "count", "most"]
abbrev Pcheck_count : List Str := ["what", "count", "most"]
theorem sccheck_count : FnScope Nmcheck_count Pcheck_count (defScope scheck_count) := ⟨rfl, rfl, rfl, by decide +kernel, rfl, by decide +kernel, by decide +kernel⟩
abbrev sis_whole : Stmt := top 15
abbrev Nmis_whole : List Str := ["value"]
abbrev Pis_whole : List Str := ["value"]
theorem scis_whole : FnScope Nmis_whole Pis_whole (defScope sis_whole) := ⟨rfl, rfl, rfl, by decide +kernel, rfl, by decide +kernel, by decide +kernel⟩
abbrev sis_number : Stmt := top 16
abbrev Nmis_number : List Str := ["value", "least", "most"]
abbrev Pis_number : List Str := ["value", "least", "most"]
theorem scis_number : FnScope Nmis_number Pis_number (defScope sis_number) := ⟨rfl, rfl, rfl, by decide +kernel, rfl, by decide +kernel, by decide +kernel⟩
abbrev sis_name : Stmt := top 17
abbrev Nmis_name : List Str := ["value", "sign"]
abbrev Pis_name : List Str := ["value"]
theorem scis_name : FnScope Nmis_name Pis_name (defScope sis_name) := ⟨rfl, rfl, rfl, by decide +kernel, rfl, by decide +kernel, by decide +kernel⟩
abbrev shas_name : Stmt := top 18
abbrev Nmhas_name : List Str := ["table", "value"]
abbrev Phas_name : List Str := ["table", "value"]
theorem schas_name : FnScope Nmhas_name Phas_name (defScope shas_name) := ⟨rfl, rfl, rfl, by decide +kernel, rfl, by decide +kernel, by decide +kernel⟩
abbrev slook_up : Stmt := top 19
abbrev Nmlook_up : List Str := ["table", "value"]
abbrev Plook_up : List Str := ["table", "value"]
theorem sclook_up : FnScope Nmlook_up Plook_up (defScope slook_up) := ⟨rfl, rfl, rfl, by decide +kernel, rfl, by decide +kernel, by decide +kernel⟩
abbrev sleast_multiple : Stmt := top 21
abbrev Nmleast_multiple : List Str := ["numbers", "found", "number"]
abbrev Pleast_multiple : List Str := ["numbers"]
theorem scleast_multiple : FnScope Nmleast_multiple Pleast_multiple (defScope sleast_multiple) := ⟨rfl, rfl, rfl, by decide +kernel, rfl, by decide +kernel, by decide +kernel⟩
abbrev scheck_cost : Stmt := top 23
abbrev Nmcheck_cost : List Str := ["cost"]
abbrev Pcheck_cost : List Str := ["cost"]
theorem sccheck_cost : FnScope Nmcheck_cost Pcheck_cost (defScope scheck_cost) := ⟨rfl, rfl, rfl, by decide +kernel, rfl, by decide +kernel, by decide +kernel⟩
abbrev sRoom_init : Stmt := inClass (top 24) 0
abbrev NmRoom_init : List Str := ["self", "weights", "customer"]
abbrev PRoom_init : List Str := ["self", "weights"]
theorem scRoom_init : FnScope NmRoom_init PRoom_init (defScope sRoom_init) := ⟨rfl, rfl, rfl, by decide +kernel, rfl, by decide +kernel, by decide +kernel⟩
abbrev sRoom_head : Stmt := inClass (top 24) 6
abbrev NmRoom_head : List Str := ["self", "turns", "at", "row"]
abbrev PRoom_head : List Str := ["self"]
theorem scRoom_head : FnScope NmRoom_head PRoom_head (defScope sRoom_head) := ⟨rfl, rfl, rfl, by decide +kernel, rfl, by decide +kernel, by decide +kernel⟩
abbrev sRoom_level : Stmt := inClass (top 24) 7
abbrev NmRoom_level : List Str := ["self"]
abbrev PRoom_level : List Str := ["self"]
theorem scRoom_level : FnScope NmRoom_level PRoom_level (defScope sRoom_level) := ⟨rfl, rfl, rfl, by decide +kernel, rfl, by decide +kernel, by decide +kernel⟩
abbrev sRoom_len : Stmt := inClass (top 24) 9
abbrev NmRoom_len : List Str := ["self"]
abbrev PRoom_len : List Str := ["self"]
theorem scRoom_len : FnScope NmRoom_len PRoom_len (defScope sRoom_len) := ⟨rfl, rfl, rfl, by decide +kernel, rfl, by decide +kernel, by decide +kernel⟩
abbrev sRoom_bool : Stmt := inClass (top 24) 10
abbrev NmRoom_bool : List Str := ["self"]
abbrev PRoom_bool : List Str := ["self"]
theorem scRoom_bool : FnScope NmRoom_bool PRoom_bool (defScope sRoom_bool) := ⟨rfl, rfl, rfl, by decide +kernel, rfl, by decide +kernel, by decide +kernel⟩
abbrev sRoom_mark_of : Stmt := inClass (top 24) 5
abbrev NmRoom_mark_of : List Str := ["self", "customer"]
abbrev PRoom_mark_of : List Str := ["self", "customer"]
theorem scRoom_mark_of : FnScope NmRoom_mark_of PRoom_mark_of (defScope sRoom_mark_of) := ⟨rfl, rfl, rfl, by decide +kernel, rfl, by decide +kernel, by decide +kernel⟩
abbrev sRoom_waiting : Stmt := inClass (top 24) 4
abbrev NmRoom_waiting : List Str := ["self"]
abbrev PRoom_waiting : List Str := ["self"]
theorem scRoom_waiting : FnScope NmRoom_waiting PRoom_waiting (defScope sRoom_waiting) := ⟨rfl, rfl, rfl, by decide +kernel, rfl, by decide +kernel, by decide +kernel⟩
abbrev sRoom_join : Stmt := inClass (top 24) 1
abbrev NmRoom_join : List Str := ["self", "customer", "cost", "until", "mark", "other", "_"]
abbrev PRoom_join : List Str := ["self", "customer", "cost", "until"]
theorem scRoom_join : FnScope NmRoom_join PRoom_join (defScope sRoom_join) := ⟨rfl, rfl, rfl, by decide +kernel, rfl, by decide +kernel, by decide +kernel⟩
abbrev sRoom_serve : Stmt := inClass (top 24) 2
abbrev NmRoom_serve : List Str := ["self", "head", "customer", "cost", "_"]
abbrev PRoom_serve : List Str := ["self"]
theorem scRoom_serve : FnScope NmRoom_serve PRoom_serve (defScope sRoom_serve) := ⟨rfl, rfl, rfl, by decide +kernel, rfl, by decide +kernel, by decide +kernel⟩
abbrev sRoom_leave : Stmt := inClass (top 24) 3
abbrev NmRoom_leave : List Str := ["self", "reading", "gone", "customer", "_", "until", "row"]
abbrev PRoom_leave : List Str := ["self", "reading"]
theorem scRoom_leave : FnScope NmRoom_leave PRoom_leave (defScope sRoom_leave) := ⟨rfl, rfl, rfl, by decide +kernel, rfl, by decide +kernel, by decide +kernel⟩
abbrev sbag : Stmt := top 26
abbrev Nmbag : List Str := ["_law_script", "_law_seed", "_law_item"]
abbrev Pbag : List Str := ["_law_script"]
theorem scbag : FnScope Nmbag Pbag (defScope sbag) := ⟨rfl, rfl, rfl, by decide +kernel, rfl, by decide +kernel, by decide +kernel⟩
abbrev sdraw : Stmt := top 27
abbrev Nmdraw : List Str := ["_law_bag_here", "_law_size", "_law_item", "_law_digit"]
abbrev Pdraw : List Str := ["_law_bag_here", "_law_size"]
theorem scdraw : FnScope Nmdraw Pdraw (defScope sdraw) := ⟨rfl, rfl, rfl, by decide +kernel, rfl, by decide +kernel, by decide +kernel⟩
abbrev sof : Stmt := top 28
abbrev Nmof : List Str := ["_law_bag_here", "_law_things"]
abbrev Pof : List Str := ["_law_bag_here", "_law_things"]
theorem scof : FnScope Nmof Pof (defScope sof) := ⟨rfl, rfl, rfl, by decide +kernel, rfl, by decide +kernel, by decide +kernel⟩
abbrev snames : Stmt := top 29
abbrev Nmnames : List Str := ["_law_bag_here", "_law_count", "_law_words", "_law_k", "_law_word", "_law_sign"]
abbrev Pnames : List Str := ["_law_bag_here", "_law_count"]
theorem scnames : FnScope Nmnames Pnames (defScope snames) := ⟨rfl, rfl, rfl, by decide +kernel, rfl, by decide +kernel, by decide +kernel⟩
abbrev sscale : Stmt := top 30
abbrev Nmscale : List Str := ["_law_weights", "_law_scale_here", "_law_weight", "_law_step"]
abbrev Pscale : List Str := ["_law_weights"]
theorem scscale : FnScope Nmscale Pscale (defScope sscale) := ⟨rfl, rfl, rfl, by decide +kernel, rfl, by decide +kernel, by decide +kernel⟩
abbrev sjoin : Stmt := top 31
abbrev Nmjoin : List Str := ["_law_bag_here", "_law_room", "_law_lines", "_law_name", "_law_most", "_law_limit", "_law_price", "_law_line"]
abbrev Pjoin : List Str := ["_law_bag_here", "_law_room", "_law_lines", "_law_name", "_law_most", "_law_limit"]
theorem scjoin : FnScope Nmjoin Pjoin (defScope sjoin) := ⟨rfl, rfl, rfl, by decide +kernel, rfl, by decide +kernel, by decide +kernel⟩
abbrev sserved : Stmt := top 32
abbrev Nmserved : List Str := ["_law_room", "_law_lines", "_law_weights", "_law_scale_here", "_law_marks", "_law_name", "_law_level", "_law_who", "_law_price", "_law_grown", "_law_mark"]
abbrev Pserved : List Str := ["_law_room", "_law_lines", "_law_weights", "_law_scale_here"]
theorem scserved : FnScope Nmserved Pserved (defScope sserved) := ⟨rfl, rfl, rfl, by decide +kernel, rfl, by decide +kernel, by decide +kernel⟩
abbrev slaw : Stmt := top 33
abbrev Nmlaw : List Str := ["_law_script", "_law_bag_here", "_law_names_here", "_law_weights", "_law_lines", "_law_most", "_law_grown", "_law_name", "_law_scale_here", "_law_room", "_law_costs", "_law_many", "_law_k", "_law_told", "_law_steady", "_law_others", "_law_spans", "_law_at", "_law_one", "_law_turn", "_law_kind", "_law_reading", "_law_span", "_law_apart", "_law_other", "_law_row"]
abbrev Plaw : List Str := ["_law_script"]
theorem sclaw : FnScope Nmlaw Plaw (defScope slaw) := ⟨rfl, rfl, rfl, by decide +kernel, rfl, by decide +kernel, by decide +kernel⟩
structure Txt (K : PySem.W.Frag) (mg : Str → Option Value) : Prop where
  n_all : mg "all" = none
  n_bool : mg "bool" = none
  n_dict : mg "dict" = none
  n_enumerate : mg "enumerate" = none
  n_int : mg "int" = none
  n_isinstance : mg "isinstance" = none
  n_len : mg "len" = none
  n_list : mg "list" = none
  n_max : mg "max" = none
  n_min : mg "min" = none
  n_range : mg "range" = none
  n_sorted : mg "sorted" = none
  n_str : mg "str" = none
  n_tuple : mg "tuple" = none
  n_zip : mg "zip" = none
  c_DIGITS : ∃ t, mg "DIGITS" = some (.str "0123456789" t)
  c_LETTERS : ∃ t, mg "LETTERS" = some (.str "abcdefghijklmnopqrstuvwxyz" t)
  c_MOST_COST : ∃ t, mg "MOST_COST" = some (.int 1000 t)
  c_MOST_WAITING : ∃ t, mg "MOST_WAITING" = some (.int 40 t)
open RM
/-- the addresses of what the program's top has made for the rooms -/
structure Ar where
  (c i fhead fjoin fserve fleave fwaiting fmark_of flevel fscale flen fbool fcopy phead plevel pscale : Addr)
structure Kr (K : PySem.W.Frag) (mg : Str → Option Value) (r : Ar) : Prop where
  cl : Cls K r.c
  nw : NoAttr K r.c "_weights"
  nm : NoAttr K r.c "_marks"
  nl : NoAttr K r.c "_level"
  ns : NoAttr K r.c "_scale"
  nq : NoAttr K r.c "_waiting"
  mjoin : Meth K r.c "join" r.fjoin
  mserve : Meth K r.c "serve" r.fserve
  mleave : Meth K r.c "leave" r.fleave
  mwaiting : Meth K r.c "waiting" r.fwaiting
  mmark_of : Meth K r.c "mark_of" r.fmark_of
  mcopy : Meth K r.c "copy" r.fcopy
  phead : PropOf K r.c "head" r.phead r.fhead
  plevel : PropOf K r.c "level" r.plevel r.flevel
  pscale : PropOf K r.c "scale" r.pscale r.fscale
  l1 : PySem.W.findIn K (.ref r.c) "__len__" = some (some (.ref r.flen))
  l2 : PySem.W.isFn K (.ref r.flen) = true
  b1 : PySem.W.findIn K (.ref r.c) "__bool__" = some (some (.ref r.fbool))
  b2 : PySem.W.isFn K (.ref r.fbool) = true
  m : Mk K r.c r.i
  g : mg "Room" = some (.ref r.c)
  gl : mg "lcm" = some (.builtin "math.lcm")
/-! ### frames -/
/-- all but what is in F is as it was -/
def KpF (F : Addr → Prop) (H H' : Hp) : Prop := ∀ b o, ¬ F b → H b = some o → H' b = some o
theorem KpF.refl (F : Addr → Prop) (H : Hp) : KpF F H H := fun _ _ _ e => e
theorem KpF.trans {F : Addr → Prop} {H H1 H2 : Hp} (a : KpF F H H1) (b : KpF F H1 H2) : KpF F H H2 := fun c o n e => b c o n (a c o n e)
theorem KpF.same {F : Addr → Prop} {H H' : Hp} (s : Same H H') : KpF F H H' := fun b o _ e => s b o e
theorem KpF.mono {F G : Addr → Prop} {H H' : Hp} (k : KpF F H H') (h : ∀ b, F b → G b) : KpF G H H' := fun b o n e => k b o (fun z => n (h b z)) e
theorem KpF.upd {F : Addr → Prop} {H H1 : Hp} {p : Addr} {o : HO} (k : KpF F H H1) (h : F p) : KpF F H (L2.upd H1 p o) := fun b u n e => by
  rw [upd_ne (fun z => n (by rw [z]; exact h))]
  exact k b u n e
theorem KpF.new {F : Addr → Prop} {H H1 : Hp} {p : Addr} {o : HO} (k : KpF F H H1) (h : H1 p = none) : KpF F H (L2.upd H1 p o) := fun b u n e => by
  have q := k b u n e
  rw [upd_ne (ne_of_none q h)]
  exact q
theorem KpF.kp {F : Addr → Prop} {g : Addr} {H H' : Hp} (hg : F g) (k : Kp g H H') : KpF F H H' := fun b o n e => k b o (fun z => n (z ▸ hg)) e
/-! ### rows of a line -/
abbrev Row := Str × Int × Option Int
def uV : Option Int → V
  | none => .non
  | some i => .int i
def rowV (q : Row) : List V := [.str q.1, .int q.2.1, uV q.2.2]
/-- the row stands at t, not in F -/
def RowAt (F : Addr → Prop) (H : Hp) (t : Addr) (q : Row) : Prop := ¬ F t ∧ H t = some (.tup (rowV q))
theorem RowAt.kp {F : Addr → Prop} {H H' : Hp} (k : KpF F H H') {t : Addr} {q : Row} (h : RowAt F H t q) : RowAt F H' t q := ⟨h.1, k _ _ h.1 h.2⟩
abbrev Lines (F : Addr → Prop) (H : Hp) (ts : List Addr) (ln : List Row) : Prop := Paired (RowAt F H) ts ln
theorem Lines.kp {F : Addr → Prop} {H H' : Hp} (k : KpF F H H') {ts : List Addr} {ln : List Row} (h : Lines F H ts ln) : Lines F H' ts ln := h.mono fun _ _ => RowAt.kp k
theorem Lines.at_ {F : Addr → Prop} {H : Hp} : ∀ {ts : List Addr} {ln : List Row}, Lines F H ts ln → ∀ {i : Nat} {t : Addr}, ts[i]? = some t → ∃ q, ln[i]? = some q ∧ RowAt F H t q
  | _, _, .nil, i, t, e => by simp at e
  | _, _, .cons h p, 0, t, e => by
    simp at e
    subst e
    exact ⟨_, rfl, h⟩
  | _, _, .cons h p, i + 1, t, e => by
    obtain ⟨q, e1, e2⟩ := Lines.at_ p (i := i) (t := t) (by simpa using e)
    exact ⟨q, by simpa using e1, e2⟩
/-! ### the state of a room -/
structure RS where
  kv : List (Key × V)
  lv : Int
  ln : List Row
def kS (z : Str) : Key := .inr z
/-- the mark of a name -/
def markOf (kv : List (Key × V)) (z : Str) : Int := match valV kv (kS z) with
  | some (.int i) => i
  | _ => 0
/-- each name of ns has an int in the dict, and has the form of a name -/
def Dic (ns : List Str) (kv : List (Key × V)) : Prop := kv.length ≤ 1000 ∧ ∀ z ∈ ns, valV kv (kS z) = some (.int (markOf kv z))
theorem mark_of {kv : List (Key × V)} {z : Str} {i : Int} (h : valV kv (kS z) = some (.int i)) : markOf kv z = i := by
  unfold markOf
  rw [h]
theorem len_putK {kv : List (Key × V)} {k : Key} {v u : V} (h : valV kv k = some u) : (putK kv k v).length = kv.length := by
  unfold putK
  rw [valV_any, h]
  simp
theorem Dic.put {ns : List Str} {kv : List (Key × V)} (d : Dic ns kv) {z : Str} (hz : z ∈ ns) (i : Int) : Dic ns (putK kv (kS z) (.int i)) ∧ markOf (putK kv (kS z) (.int i)) z = i ∧ ∀ y, y ≠ z → markOf (putK kv (kS z) (.int i)) y = markOf kv y := by
  have v0 : valV (putK kv (kS z) (.int i)) (kS z) = some (.int i) := by rw [valV_put, if_pos rfl]
  have v1 : ∀ y, y ≠ z → valV (putK kv (kS z) (.int i)) (kS y) = valV kv (kS y) := fun y n => by
    rw [valV_put, if_neg (show ¬ kS y = kS z from fun e => n (Sum.inr.inj e))]
  refine ⟨⟨by rw [len_putK (d.2 z hz)]; exact d.1, fun y hy => ?_⟩, mark_of v0, fun y n => ?_⟩
  · by_cases e : y = z
    · subst e
      rw [mark_of v0]
      exact v0
    · rw [v1 y e, d.2 y hy]
      unfold markOf
      rw [v1 y e, d.2 y hy]
  · unfold markOf
    rw [v1 y n]
/-- the ranks of a line's rows -/
abbrev Rank := PySem.W.T3 Int Str Int
def ranks (kv : List (Key × V)) (ln : List Row) : List Rank := ln.mapIdx fun i q => ⟨markOf kv q.1, q.1, (i : Int)⟩
/-- the place of the head -/
def headAt (kv : List (Key × V)) (ln : List Row) : Option Nat := match ranks kv ln with
  | [] => none
  | r0 :: rs => some (PySem.W.minOf r0 rs).c.toNat
theorem min_mem {α : Type} [DecidableEq α] [PySem.W.DatumOrd α] (x : α) : ∀ xs : List α, PySem.W.minOf x xs ∈ x :: xs := by
  intro xs
  unfold PySem.W.minOf
  induction xs generalizing x with
  | nil => exact List.mem_cons_self ..
  | cons y ys ih =>
    rw [List.foldl_cons]
    have h := ih (if PySem.W.DatumOrd.lt y x = true then y else x)
    rcases List.mem_cons.mp h with h | h
    · rw [h]
      split
      · exact List.mem_cons_of_mem _ (List.mem_cons_self ..)
      · exact List.mem_cons_self ..
    · exact List.mem_cons_of_mem _ (List.mem_cons_of_mem _ h)
theorem ranks_at {kv : List (Key × V)} {ln : List Row} {i : Nat} {a : Rank} (h : (ranks kv ln)[i]? = some a) : ∃ q, ln[i]? = some q ∧ a = ⟨markOf kv q.1, q.1, (i : Int)⟩ := by
  unfold ranks at h
  rw [List.getElem?_mapIdx] at h
  cases e : ln[i]? with
  | none => rw [e] at h; cases h
  | some q =>
    rw [e] at h
    cases h
    exact ⟨q, rfl, rfl⟩
theorem ranks_len (kv : List (Key × V)) (ln : List Row) : (ranks kv ln).length = ln.length := by
  unfold ranks
  rw [List.length_mapIdx]
/-- the head's place is a place, and its rank the least one -/
theorem headAt_cons {kv : List (Key × V)} {ln : List Row} {r0 : Rank} {rs : List Rank} (e : ranks kv ln = r0 :: rs) : ∃ (j : Nat) (q : Row), headAt kv ln = some j ∧ ln[j]? = some q ∧ j < ln.length ∧ PySem.W.minOf r0 rs = ⟨markOf kv q.1, q.1, (j : Int)⟩ := by
  have hm := min_mem r0 rs
  rw [← e] at hm
  obtain ⟨j, hj⟩ := List.mem_iff_getElem?.mp hm
  obtain ⟨q, hq, ea⟩ := ranks_at hj
  refine ⟨j, q, ?_, hq, (List.getElem?_eq_some_iff.mp hq).1, ea⟩
  unfold headAt
  rw [e]
  show some (PySem.W.minOf r0 rs).c.toNat = some j
  rw [ea]
  rfl
theorem headAt_nil {kv : List (Key × V)} : headAt kv [] = none := rfl
/-! ### a room in the heap -/
structure RF (fs : List (Str × V)) (W D L : Addr) (lv sc : Int) : Prop where
  w : fs.lookup ("_weights" : Str) = some (.ref W)
  m : fs.lookup ("_marks" : Str) = some (.ref D)
  l : fs.lookup ("_level" : Str) = some (.int lv)
  s : fs.lookup ("_scale" : Str) = some (.int sc)
  q : fs.lookup ("_waiting" : Str) = some (.ref L)
  join : fs.lookup ("join" : Str) = none
  serve : fs.lookup ("serve" : Str) = none
  leave : fs.lookup ("leave" : Str) = none
  waiting : fs.lookup ("waiting" : Str) = none
  mark_of : fs.lookup ("mark_of" : Str) = none
  copy : fs.lookup ("copy" : Str) = none
  len : fs.length ≤ 5
theorem len_putF {f : Str} {v u : V} : ∀ {fs : List (Str × V)}, fs.lookup f = some u → (putF f v fs).length = fs.length
  | [], h => by cases h
  | (k, x) :: r, h => by
    show (if k = f then (k, v) :: r else (k, x) :: putF f v r).length = _
    by_cases e : k = f
    · rw [if_pos e]
      rfl
    · rw [if_neg e, List.length_cons, List.length_cons, len_putF (fs := r) (u := u)]
      have hb : (f == k) = false := beq_eq_false_iff_ne.mpr (fun z => e z.symm)
      simpa [List.lookup, hb] using h
theorem lkp {f g : Str} {v : V} {fs : List (Str × V)} (h : decide (g = f) = false) : (putF f v fs).lookup g = fs.lookup g := by rw [lookup_putF, if_neg (of_decide_eq_false h)]
theorem lke {f : Str} {v : V} {fs : List (Str × V)} : (putF f v fs).lookup f = some v := by rw [lookup_putF, if_pos rfl]
theorem RF.level {fs : List (Str × V)} {W D L : Addr} {lv sc : Int} (h : RF fs W D L lv sc) (i : Int) : RF (putF "_level" (.int i) fs) W D L i sc :=
  ⟨(lkp (by decide +kernel)).trans h.w, (lkp (by decide +kernel)).trans h.m, lke, (lkp (by decide +kernel)).trans h.s, (lkp (by decide +kernel)).trans h.q, (lkp (by decide +kernel)).trans h.join, (lkp (by decide +kernel)).trans h.serve, (lkp (by decide +kernel)).trans h.leave, (lkp (by decide +kernel)).trans h.waiting, (lkp (by decide +kernel)).trans h.mark_of, (lkp (by decide +kernel)).trans h.copy, by rw [len_putF h.l]; exact h.len⟩
theorem RF.line {fs : List (Str × V)} {W D L : Addr} {lv sc : Int} (h : RF fs W D L lv sc) (M : Addr) : RF (putF "_waiting" (.ref M) fs) W D M lv sc :=
  ⟨(lkp (by decide +kernel)).trans h.w, (lkp (by decide +kernel)).trans h.m, (lkp (by decide +kernel)).trans h.l, (lkp (by decide +kernel)).trans h.s, lke, (lkp (by decide +kernel)).trans h.join, (lkp (by decide +kernel)).trans h.serve, (lkp (by decide +kernel)).trans h.leave, (lkp (by decide +kernel)).trans h.waiting, (lkp (by decide +kernel)).trans h.mark_of, (lkp (by decide +kernel)).trans h.copy, by rw [len_putF h.q]; exact h.len⟩
theorem RF.marks {fs : List (Str × V)} {W D L : Addr} {lv sc : Int} (h : RF fs W D L lv sc) (M : Addr) : RF (putF "_marks" (.ref M) fs) W M L lv sc :=
  ⟨(lkp (by decide +kernel)).trans h.w, lke, (lkp (by decide +kernel)).trans h.l, (lkp (by decide +kernel)).trans h.s, (lkp (by decide +kernel)).trans h.q, (lkp (by decide +kernel)).trans h.join, (lkp (by decide +kernel)).trans h.serve, (lkp (by decide +kernel)).trans h.leave, (lkp (by decide +kernel)).trans h.waiting, (lkp (by decide +kernel)).trans h.mark_of, (lkp (by decide +kernel)).trans h.copy, by rw [len_putF h.m]; exact h.len⟩
/-- the room at x: its dict of marks at D, its line at L; these three are in F, what else it holds is not -/
structure RoomAt (r : Ar) (F : Addr → Prop) (H : Hp) (x D L : Addr) (wv : List (Key × V)) (sc : Int) (s : RS) : Prop where
  ex : ∃ (dx W : Addr) (fs : List (Str × V)) (ts : List Addr), H x = some (.ins r.c dx fs) ∧ RF fs W D L s.lv sc ∧ H W = some (.dK wv) ∧ ¬ F W ∧ H D = some (.dK s.kv) ∧ H L = some (.lst (ts.map V.ref)) ∧ Lines F H ts s.ln
  fx : F x
  fD : F D
  fL : F L
/-- what is not of this room stays apart -/
theorem RoomAt.kp {r : Ar} {F G : Addr → Prop} {H H' : Hp} {x D L : Addr} {wv : List (Key × V)} {sc : Int} {s : RS} (R : RoomAt r F H x D L wv sc s) (k : KpF G H H') (sub : ∀ b, G b → F b) (nx : ¬ G x) (nD : ¬ G D) (nL : ¬ G L) : RoomAt r F H' x D L wv sc s := by
  obtain ⟨⟨dx, W, fs, ts, h1, h2, h3, h4, h5, h6, h7⟩, f1, f2, f3⟩ := R
  exact ⟨⟨dx, W, fs, ts, k _ _ nx h1, h2, k _ _ (fun z => h4 (sub _ z)) h3, h4, k _ _ nD h5, k _ _ nL h6, h7.kp (k.mono sub)⟩, f1, f2, f3⟩
theorem RoomAt.same {r : Ar} {F : Addr → Prop} {H H' : Hp} {x D L : Addr} {wv : List (Key × V)} {sc : Int} {s : RS} (R : RoomAt r F H x D L wv sc s) (k : Same H H') : RoomAt r F H' x D L wv sc s :=
  R.kp (G := fun _ => False) (KpF.same k) (fun _ z => z.elim) id id id
/-! ### least common multiples -/
theorem d27720 {w : Int} (h0 : 1 ≤ w) (h1 : w ≤ 12) : w.natAbs ∣ 27720 := by
  have q : ∀ n : Fin 13, n.val ≠ 0 → n.val ∣ 27720 := by decide
  exact q ⟨w.natAbs, by omega⟩ (by show w.natAbs ≠ 0; omega)
def lcmL (ws : List Int) : Int := ws.foldl lcmI 1
theorem lcm_fold : ∀ (ws : List Int) (f : Int), 1 ≤ f → f.natAbs ∣ 27720 → (∀ w ∈ ws, 1 ≤ w ∧ w ≤ 12) → 1 ≤ ws.foldl lcmI f ∧ (ws.foldl lcmI f).natAbs ∣ 27720
  | [], f, h0, h1, _ => ⟨h0, h1⟩
  | w :: ws, f, h0, h1, hw => by
    obtain ⟨w0, w1⟩ := hw w (List.mem_cons_self ..)
    exact lcm_fold ws _ (lcmI_pos (by omega) (by omega)) (lcmI_dvd h1 (d27720 w0 w1)) fun v hv => hw v (List.mem_cons_of_mem _ hv)
theorem lcm_le {ws : List Int} (hw : ∀ w ∈ ws, 1 ≤ w ∧ w ≤ 12) (i : Nat) : 1 ≤ lcmL (ws.take i) ∧ lcmL (ws.take i) ≤ 27720 := by
  obtain ⟨h1, h2⟩ := lcm_fold (ws.take i) 1 (by decide) (by decide) fun w hm => hw w (List.mem_of_mem_take hm)
  refine ⟨h1, ?_⟩
  have := Nat.le_of_dvd (by decide) h2
  show (ws.take i).foldl lcmI 1 ≤ 27720
  omega
theorem lcm_next {ws : List Int} {i : Nat} {w : Int} (h : ws[i]? = some w) : lcmL (ws.take (i + 1)) = lcmI (lcmL (ws.take i)) w := by
  unfold lcmL
  rw [List.take_add_one, h, List.foldl_append]
  rfl
/-- the first multiple -/
theorem first_mult {s w : Int} (hs : 1 ≤ s) (h0 : 1 ≤ w) (h1 : w ≤ 12) : ∃ k : Nat, k < 12 ∧ s * (1 + (k : Int)) = lcmI s w ∧ (s * (1 + (k : Int))).fmod w = 0 ∧ ∀ j : Nat, j < k → (s * (1 + (j : Int))).fmod w ≠ 0 := by
  obtain ⟨S, rfl⟩ : ∃ S : Nat, s = (S : Int) := ⟨s.toNat, by omega⟩
  obtain ⟨W, rfl⟩ : ∃ W : Nat, w = (W : Int) := ⟨w.toNat, by omega⟩
  have hS : 0 < S := by omega
  have hW : 0 < W := by omega
  have hg : 0 < Nat.gcd S W := Nat.gcd_pos_of_pos_left _ hS
  have hgW : Nat.gcd S W ∣ W := Nat.gcd_dvd_right S W
  obtain ⟨m, hm⟩ := hgW
  have hm0 : 0 < m := by
    rcases Nat.eq_zero_or_pos m with z | z
    · rw [z, Nat.mul_zero] at hm; omega
    · exact z
  have hmW : m ≤ W := by
    rw [hm]
    exact Nat.le_mul_of_pos_left _ hg
  have el : Nat.lcm S W = S * m := by
    have q : Nat.lcm S W = S * W / Nat.gcd S W := rfl
    rw [q]
    conv => lhs; rw [show S * W = S * (Nat.gcd S W * m) by rw [← hm]]
    rw [show S * (Nat.gcd S W * m) = Nat.gcd S W * (S * m) by rw [Nat.mul_left_comm]]
    exact Nat.mul_div_cancel_left _ hg
  have cast : ∀ j : Nat, (S : Int) * (1 + (j : Int)) = ((S * (j + 1) : Nat) : Int) := fun j => by
    rw [Int.natCast_mul, Int.natCast_add, Int.add_comm 1]
    rfl
  have fm : ∀ j : Nat, ((S : Int) * (1 + (j : Int))).fmod (W : Int) = ((S * (j + 1) % W : Nat) : Int) := fun j => by
    rw [cast, fmod_nat]
  refine ⟨m - 1, by omega, ?_, ?_, fun j hj e => ?_⟩
  · rw [cast, show m - 1 + 1 = m by omega, ← el]
    rfl
  · rw [fm, show m - 1 + 1 = m by omega, ← el]
    have := Nat.mod_eq_zero_of_dvd (Nat.dvd_lcm_right S W)
    omega
  · rw [fm] at e
    have d1 : W ∣ S * (j + 1) := Nat.dvd_of_mod_eq_zero (by omega)
    have d2 : S ∣ S * (j + 1) := Nat.dvd_mul_right _ _
    have d3 := Nat.lcm_dvd d2 d1
    rw [el] at d3
    have d4 := Nat.le_of_dvd (by omega) (Nat.dvd_of_mul_dvd_mul_left hS d3)
    omega
theorem same_upd {Hb H : Hp} {x : Addr} {o : HO} (hb : Hb x = none) (s : Same Hb H) : Same Hb (upd H x o) := fun c u e => by
  rw [upd_ne (ne_of_none e hb)]
  exact s c u e
theorem pair_at {α β : Type} {R : α → β → Prop} : ∀ {xs : List α} {ys : List β}, Paired R xs ys → ∀ {i : Nat} {x : α}, xs[i]? = some x → ∃ y, ys[i]? = some y ∧ R x y
  | _, _, .nil, i, t, e => by simp at e
  | _, _, .cons h p, 0, t, e => by
    simp at e
    subst e
    exact ⟨_, rfl, h⟩
  | _, _, .cons h p, i + 1, t, e => by
    obtain ⟨q, e1, e2⟩ := pair_at p (i := i) (x := t) (by simpa using e)
    exact ⟨q, by simpa using e1, e2⟩
theorem pair_at' {α β : Type} {R : α → β → Prop} : ∀ {xs : List α} {ys : List β}, Paired R xs ys → ∀ {i : Nat} {y : β}, ys[i]? = some y → ∃ x, xs[i]? = some x ∧ R x y
  | _, _, .nil, i, t, e => by simp at e
  | _, _, .cons h p, 0, t, e => by
    simp at e
    subst e
    exact ⟨_, rfl, h⟩
  | _, _, .cons h p, i + 1, t, e => by
    obtain ⟨q, e1, e2⟩ := pair_at' p (i := i) (y := t) (by simpa using e)
    exact ⟨q, by simpa using e1, e2⟩
theorem ranks_get {kv : List (Key × V)} {ln : List Row} {i : Nat} {q : Row} (h : ln[i]? = some q) : (ranks kv ln)[i]? = some ⟨markOf kv q.1, q.1, (i : Int)⟩ := by
  unfold ranks
  rw [List.getElem?_mapIdx, h]
  rfl
/-- one rank more -/
theorem ranks_step {kv : List (Key × V)} {ln : List Row} {i : Nat} {q : Row} {Ha Hb : Hp} {us : List Addr} {U : Addr} (h : ln[i]? = some q) (pr : Paired (LD.Row3 Ha) us ((ranks kv ln).take i)) (k : ∀ b xs, Ha b = some (.tup xs) → Hb b = some (.tup xs)) (hU : Hb U = some (.tup [.int (markOf kv q.1), .str q.1, .int (i : Nat)])) :
    Paired (LD.Row3 Hb) (us ++ [U]) ((ranks kv ln).take (i + 1)) := by
  rw [List.take_add_one, ranks_get h]
  exact Paired.snoc (pr.mono fun a b z => k _ _ z) hU
/-- a comprehension of a dict over it -/
theorem dc_it {J : It} {n : Nat} {G : Hp → Prop} {Y : Nat → Hp → V → Hp → Prop} (w : Walk J n G Y) {g : TG} {tt : TT} {tk tv : TE} {vs : List Nat} {σ : St} {H1 : Hp} {D : Addr} {Qd : Hp → Prop} (Pv : Nat → Hp → Prop) (h0 : Pv 0 (upd H1 D (.dK []))) (hG : ∀ i H, i ≤ n → Pv i H → G H)
    (hs : ∀ i x H H', i < n → Pv i H → Y i H x H' → g x (wipe σ vs) H' fun σ2 H2 => wipe σ2 vs = wipe σ vs ∧ tt σ2 H2 fun b H3 =>
      if b = true then tk σ2 H3 fun y H4 => tv σ2 H4 fun z H5 => ∃ kvs k, y = kV k ∧ H5 D = some (.dK kvs) ∧ kvs.length < sizeLine ∧ Pv (i + 1) (upd H5 D (.dK (putK kvs k z))) else Pv (i + 1) H3) (hd : ∀ H, Pv n H → Qd H) :
    ∃ W : Nat → Nat → Hp → Prop, (∃ m, W 0 m (upd H1 D (.dK []))) ∧ ∀ i m H, W i m H →
      (J.stop i H ∧ Qd H) ∨ (J.go i H ∧ ∃ Nx : Hp → Prop, (∀ H', Nx H' → ∃ m', m' < m ∧ W (i + 1) m' H') ∧ ∀ x H', J.yld i H x H' → g x (wipe σ vs) H' fun σ2 H2 => wipe σ2 vs = wipe σ vs ∧ tt σ2 H2 fun b H3 =>
        if b = true then tk σ2 H3 fun y H4 => tv σ2 H4 fun z H5 => ∃ kvs k, y = kV k ∧ H5 D = some (.dK kvs) ∧ kvs.length < sizeLine ∧ Nx (upd H5 D (.dK (putK kvs k z))) else Nx H3) := by
  refine ⟨fun i m H => m = n - i ∧ i ≤ n ∧ Pv i H, ⟨n, by simp, Nat.zero_le _, h0⟩, ?_⟩
  rintro i m H ⟨rfl, hi, p⟩
  have q := hG i H hi p
  by_cases hlt : i < n
  · refine .inr ⟨w.goes i H hlt q, Pv (i + 1), fun H' p' => ⟨n - (i + 1), by omega, rfl, hlt, p'⟩, fun x H' y => hs i x H H' hlt p (w.yields i H x H' hlt q y)⟩
  · have e : i = n := by omega
    subst e
    exact .inl ⟨w.stops H q, hd H p⟩
theorem valV_no {k : Key} : ∀ {l : List (Key × V)}, (∀ p ∈ l, p.1 ≠ k) → valV l k = none
  | [], _ => rfl
  | p :: l, h => by
    rw [valV_neg (h p (List.mem_cons_self ..))]
    exact valV_no fun q hq => h q (List.mem_cons_of_mem _ hq)
def zeroK (wv : List (Key × V)) : List (Key × V) := wv.map fun k => (k.1, .int 0)
theorem zero_step {wv : List (Key × V)} (nd : (wv.map (·.1)).Nodup) {i : Nat} {k : Key} {v : V} (h : wv[i]? = some (k, v)) : putK ((zeroK wv).take i) k (.int 0) = (zeroK wv).take (i + 1) := by
  have hz : (zeroK wv)[i]? = some (k, .int 0) := by
    unfold zeroK
    rw [List.getElem?_map, h]
    rfl
  rw [putK_new _ (valV_no fun p hp e => ?_), List.take_add_one, hz]
  · rfl
  · obtain ⟨j, hj⟩ := List.mem_iff_getElem?.mp hp
    rw [List.getElem?_take] at hj
    split at hj
    · rename_i ji
      unfold zeroK at hj
      rw [List.getElem?_map] at hj
      cases q : wv[j]? with
      | none => rw [q] at hj; cases hj
      | some u =>
        rw [q] at hj
        cases hj
        have a1 : (wv.map (·.1))[j]? = some k := by rw [List.getElem?_map, q]; exact congrArg some e
        have a2 : (wv.map (·.1))[i]? = some k := by rw [List.getElem?_map, h]; rfl
        have := (List.getElem?_inj (List.getElem?_eq_some_iff.mp a1).1 nd).mp (a1.trans a2.symm)
        omega
    · cases hj
/-- the dict of weights -/
structure WOk (wv : List (Key × V)) (ws : List Int) : Prop where
  len : wv.length ≤ 1000
  vals : wv.map (·.2) = ws.map V.int
  b12 : ∀ w ∈ ws, 1 ≤ w ∧ w ≤ 12
  nd : (wv.map (·.1)).Nodup
theorem rf5 (W D L : Addr) (sc : Int) : RF (putF "_waiting" (.ref L) (putF "_scale" (.int sc) (putF "_level" (.int 0) (putF "_marks" (.ref D) (putF "_weights" (.ref W) []))))) W D L 0 sc :=
  ⟨(lkp (by decide +kernel)).trans ((lkp (by decide +kernel)).trans ((lkp (by decide +kernel)).trans ((lkp (by decide +kernel)).trans lke))), (lkp (by decide +kernel)).trans ((lkp (by decide +kernel)).trans ((lkp (by decide +kernel)).trans lke)), (lkp (by decide +kernel)).trans ((lkp (by decide +kernel)).trans lke), (lkp (by decide +kernel)).trans lke, lke,
    (lkp (by decide +kernel)).trans ((lkp (by decide +kernel)).trans ((lkp (by decide +kernel)).trans ((lkp (by decide +kernel)).trans (lkp (by decide +kernel))))), (lkp (by decide +kernel)).trans ((lkp (by decide +kernel)).trans ((lkp (by decide +kernel)).trans ((lkp (by decide +kernel)).trans (lkp (by decide +kernel))))), (lkp (by decide +kernel)).trans ((lkp (by decide +kernel)).trans ((lkp (by decide +kernel)).trans ((lkp (by decide +kernel)).trans (lkp (by decide +kernel))))),
    (lkp (by decide +kernel)).trans ((lkp (by decide +kernel)).trans ((lkp (by decide +kernel)).trans ((lkp (by decide +kernel)).trans (lkp (by decide +kernel))))), (lkp (by decide +kernel)).trans ((lkp (by decide +kernel)).trans ((lkp (by decide +kernel)).trans ((lkp (by decide +kernel)).trans (lkp (by decide +kernel))))), (lkp (by decide +kernel)).trans ((lkp (by decide +kernel)).trans ((lkp (by decide +kernel)).trans ((lkp (by decide +kernel)).trans (lkp (by decide +kernel))))),
    by
      have h1 := length_putF "_weights" (.ref W) []
      have h2 := length_putF "_marks" (.ref D) (putF "_weights" (.ref W) [])
      have h3 := length_putF "_level" (.int 0) (putF "_marks" (.ref D) (putF "_weights" (.ref W) []))
      have h4 := length_putF "_scale" (.int sc) (putF "_level" (.int 0) (putF "_marks" (.ref D) (putF "_weights" (.ref W) [])))
      have h5 := length_putF "_waiting" (.ref L) (putF "_scale" (.int sc) (putF "_level" (.int 0) (putF "_marks" (.ref D) (putF "_weights" (.ref W) []))))
      simp only [List.length_nil] at h1
      omega⟩
/-! ### the deeds -/
def maxI (a b : Int) : Int := if b > a then b else a
def namesV (ln : List Row) : List V := ln.map fun q => .str q.1
def joinS (s : RS) (z : Str) (c : Int) (u : Option Int) : RS :=
  ⟨if inV (.str z) (namesV s.ln) = true then s.kv else putK s.kv (kS z) (.int (maxI (markOf s.kv z) s.lv)), s.lv, s.ln ++ [(z, c, u)]⟩
theorem names_flat (ln : List Row) : (namesV ln).all flatV = true := by
  unfold namesV
  rw [List.all_map]
  exact List.all_eq_true.mpr fun q _ => rfl
/-! ### the least rank -/
theorem rank_neg (a b c : Rank) (h : PySem.W.DatumOrd.lt a c = true) : PySem.W.DatumOrd.lt a b = true ∨ PySem.W.DatumOrd.lt b c = true := by
  rw [← PySem.W.DatumOrd.lt_eq] at h ⊢
  rw [← PySem.W.DatumOrd.lt_eq b c]
  exact PyProof.Rows.lex_negTrans _ _ _ h
theorem rank_trans {a b c : Rank} (h : PySem.W.DatumOrd.lt a b = true) (h' : PySem.W.DatumOrd.lt b c = true) : PySem.W.DatumOrd.lt a c = true := by
  rw [← PySem.W.DatumOrd.lt_eq] at h h' ⊢
  exact PyProof.Rows.lex_trans _ _ _ h h'
theorem rank_irr (a : Rank) : PySem.W.DatumOrd.lt a a = false := by
  rw [← PySem.W.DatumOrd.lt_eq]
  exact PySem.W.dataLt_self _
theorem min_le (x : Rank) : ∀ xs : List Rank, ∀ a ∈ x :: xs, PySem.W.DatumOrd.lt a (PySem.W.minOf x xs) = false := by
  intro xs
  induction xs generalizing x with
  | nil =>
    intro a ha
    rw [List.mem_singleton] at ha
    subst ha
    exact rank_irr _
  | cons y ys ih =>
    have em : PySem.W.minOf x (y :: ys) = PySem.W.minOf (if PySem.W.DatumOrd.lt y x = true then y else x) ys := by
      unfold PySem.W.minOf
      rw [List.foldl_cons]
    rw [em]
    have q := ih (if PySem.W.DatumOrd.lt y x = true then y else x)
    by_cases h : PySem.W.DatumOrd.lt y x = true
    · rw [if_pos h] at q ⊢
      intro a ha
      rcases List.mem_cons.mp ha with rfl | ha
      · cases e : PySem.W.DatumOrd.lt a (PySem.W.minOf y ys) with
        | false => rfl
        | true =>
          have z := rank_trans h e
          rw [q y (List.mem_cons_self ..)] at z
          cases z
      · exact q a ha
    · rw [if_neg h] at q ⊢
      intro a ha
      rcases List.mem_cons.mp ha with rfl | ha
      · exact q a (List.mem_cons_self ..)
      · rcases List.mem_cons.mp ha with rfl | ha
        · cases e : PySem.W.DatumOrd.lt a (PySem.W.minOf x ys) with
          | false => rfl
          | true =>
            rcases rank_neg a x _ e with z | z
            · exact absurd z h
            · rw [q x (List.mem_cons_self ..)] at z
              cases z
        · exact q a (List.mem_cons_of_mem _ ha)
/-- no row ahead of the head's is of its customer -/
theorem head_first {kv : List (Key × V)} {ln : List Row} {j m : Nat} {q q' : Row} (h : headAt kv ln = some j) (hq : ln[j]? = some q) (hm : m < j) (hq' : ln[m]? = some q') : q' ≠ q := fun e => by
  subst e
  cases er : ranks kv ln with
  | nil =>
    unfold headAt at h
    rw [er] at h
    cases h
  | cons r0 rs =>
    obtain ⟨j', q2, hj', hq2, _, em⟩ := headAt_cons er
    rw [h] at hj'
    cases hj'
    rw [hq] at hq2
    cases hq2
    have mm : (⟨markOf kv q'.1, q'.1, (m : Int)⟩ : Rank) ∈ r0 :: rs := by
      rw [← er]
      exact List.mem_of_getElem? (ranks_get hq')
    have z := min_le r0 rs _ mm
    rw [em] at z
    have z2 : PySem.W.DatumOrd.lt (⟨markOf kv q'.1, q'.1, (m : Int)⟩ : Rank) ⟨markOf kv q'.1, q'.1, (j : Int)⟩ = true := by
      show (if markOf kv q'.1 = markOf kv q'.1 then (if q'.1 = q'.1 then PySem.W.DatumOrd.lt (m : Int) (j : Int) else _) else _) = true
      rw [if_pos rfl, if_pos rfl]
      show decide ((m : Int) < (j : Int)) = true
      exact decide_eq_true (by omega)
    rw [z2] at z
    cases z
/-! ### rows as data -/
def uD : Option Int → PyData
  | none => .none
  | some i => .int i
def rowD (q : Row) : PyData := .tuple [.str q.1, .int q.2.1, uD q.2.2]
theorem uD_lay (u : Option Int) : (uD u).canLay0 = true ∧ (uD u).depth = 0 := by
  cases u <;> simp [uD, PyData.canLay0, PyData.depth]
theorem rowD_lay {q : Row} (h : PyData.strOk q.1 = true) : (rowD q).canLay0 = true := by simp [rowD, PyData.canLay0, PyData.canLayAll0, (uD_lay q.2.2).1, h]
theorem rowD_depth (q : Row) : (rowD q).depth = 1 := by simp [rowD, PyData.depth, PyData.depthAll, (uD_lay q.2.2).2]
theorem rowsD_lay : ∀ ln : List Row, (∀ q ∈ ln, PyData.strOk q.1 = true) → PyData.canLayAll0 (ln.map rowD) = true
  | [], _ => by simp [PyData.canLayAll0]
  | q :: ln, h => by simp [PyData.canLayAll0, rowD_lay (h q (List.mem_cons_self ..)), rowsD_lay ln fun p hp => h p (List.mem_cons_of_mem _ hp)]
theorem rowsD_depth : ∀ ln : List Row, PyData.depthAll (ln.map rowD) ≤ 1
  | [] => by simp [PyData.depthAll]
  | q :: ln => by
    have h1 := rowsD_depth ln
    have h2 := rowD_depth q
    simp only [List.map_cons, PyData.depthAll]
    omega
theorem rowD_shaped {q : Row} (hs : PyData.strOk q.1 = true) : SeqAt.shaped (rowD q) = true := by
  have h := rowD_depth q
  show ((rowD q).canLay0 && decide ((rowD q).depth ≤ 64)) = true
  rw [Bool.and_eq_true]
  exact ⟨rowD_lay hs, decide_eq_true (by omega)⟩
theorem rowsD_shaped {ln : List Row} (hs : ∀ q ∈ ln, PyData.strOk q.1 = true) : SeqAt.shaped (.list (ln.map rowD)) = true := by
  have h1 := rowsD_depth ln
  have h2 : PyData.depth (.list (ln.map rowD)) ≤ 64 := by
    simp only [PyData.depth]
    omega
  show (PyData.canLay0 (.list (ln.map rowD)) && decide (PyData.depth (.list (ln.map rowD)) ≤ 64)) = true
  rw [Bool.and_eq_true]
  exact ⟨by simp only [PyData.canLay0]; exact rowsD_lay ln hs, decide_eq_true h2⟩
theorem rowD_eqv (p q : Row) : PyData.eqv (rowD p) (rowD q) = decide (p = q) := by
  obtain ⟨a, b, c⟩ := p
  obtain ⟨a', b', c'⟩ := q
  have hc : PyData.eqv (uD c) (uD c') = decide (c = c') := by
    cases c <;> cases c' <;> simp [uD, PyData.eqv]
    rw [Bool.eq_iff_iff]
    simp
  have e : PyData.eqv (rowD (a, b, c)) (rowD (a', b', c')) = ((a == a') && ((b == b') && (decide (c = c') && true))) := by
    simp only [rowD, PyData.eqv, PyData.eqvAll, hc]
  rw [e]
  by_cases h : ((a, b, c) : Row) = (a', b', c')
  · cases h
    simp
  · rw [decide_eq_false h]
    cases e1 : (a == a') with
    | false => rfl
    | true =>
      cases e2 : (b == b') with
      | false => rfl
      | true =>
        have e1 := beq_iff_eq.mp e1
        have e2 := beq_iff_eq.mp e2
        subst e1
        subst e2
        have : ¬ c = c' := fun z => h (by rw [z])
        rw [decide_eq_false this]
        rfl
theorem uD_dp {K : PySem.W.Frag} {H : Hp} (u : Option Int) : Dp K H (uV u) (uD u) := by
  cases u with
  | none => exact .non
  | some i => exact .int i
theorem RowAt.dp {K : PySem.W.Frag} {F : Addr → Prop} {H : Hp} {t : Addr} {q : Row} (h : RowAt F H t q) : Dp K H (.ref t) (rowD q) := .tup (SqT.of h.2) (.cons (.str _) (.cons (.int _) (.cons (uD_dp _) .nil)))
theorem Lines.dp {K : PySem.W.Frag} {F : Addr → Prop} {H : Hp} : ∀ {ts : List Addr} {ln : List Row}, Lines F H ts ln → DpAll K H (ts.map V.ref) (ln.map rowD)
  | [], _, .nil => .nil
  | _ :: _, _, .cons h p => .cons h.dp (Lines.dp p)
theorem pair_erase {α β : Type} {R : α → β → Prop} : ∀ {xs : List α} {ys : List β}, Paired R xs ys → ∀ j : Nat, Paired R (xs.eraseIdx j) (ys.eraseIdx j)
  | _, _, .nil, j => by simp; exact .nil
  | _, _, .cons h p, 0 => p
  | _, _, .cons h p, j + 1 => .cons h (pair_erase p j)
theorem map_erase {α β : Type} (f : α → β) : ∀ (xs : List α) (j : Nat), (xs.map f).eraseIdx j = (xs.eraseIdx j).map f
  | [], j => by simp
  | x :: xs, 0 => rfl
  | x :: xs, j + 1 => by
    show f x :: (xs.map f).eraseIdx j = f x :: (xs.eraseIdx j).map f
    rw [map_erase f xs j]
/-- the head served: w is the weight of its customer -/
def serveS (s : RS) (sc w : Int) (j : Nat) (q : Row) : RS := ⟨putK s.kv (kS q.1) (.int (markOf s.kv q.1 + (q.2.1 * sc).fdiv w)), markOf s.kv q.1, s.ln.eraseIdx j⟩
def Nms (ns : List Str) : Prop := ∀ z ∈ ns, isNam (.str z) = true
theorem nam_ok {z : Str} (h : isNam (.str z) = true) : PyData.strOk z = true ∧ z.length ≤ 8 := by
  rw [isNam_str] at h
  simp only [Bool.and_eq_true, decide_eq_true_eq] at h
  obtain ⟨⟨⟨_, h2⟩, _⟩, h4⟩ := h
  refine ⟨?_, h2⟩
  show z.cps.all (fun c => decide (c < 0x110000)) = true
  rw [← Array.all_toList]
  refine List.all_eq_true.mpr fun c hc => ?_
  have q := List.all_eq_true.mp h4 c hc
  rw [Bool.or_eq_true] at q
  unfold chL chD at q
  simp only [Bool.and_eq_true, decide_eq_true_eq] at q
  rcases q with q | q <;> exact decide_eq_true (by omega)
/-- the weights: a dict in which each name has a number from 1 to 12 -/
structure WDic (ns : List Str) (wv : List (Key × V)) : Prop where
  d : Dic ns wv
  b : ∀ z ∈ ns, 1 ≤ markOf wv z ∧ markOf wv z ≤ 12
theorem same_two {H : Hp} {x dx : Addr} {o o' : HO} (hx : H x = none) (hdx : H dx = none) : Same H (upd (upd H dx o) x o') := same_upd hx (same_new hdx)
/-! ### the law's own room -/
structure MF (mv : List (Key × V)) (L D : Addr) (lv : Int) : Prop where
  l : valV mv (kS "line") = some (.ref L)
  m : valV mv (kS "marks") = some (.ref D)
  v : valV mv (kS "level") = some (.int lv)
  n : mv.length ≤ 1000
theorem MF.line {mv : List (Key × V)} {L D : Addr} {lv : Int} (h : MF mv L D lv) (M : Addr) : MF (putK mv (kS "line") (.ref M)) M D lv :=
  ⟨by rw [valV_put, if_pos rfl], by rw [valV_put, if_neg (by decide +kernel)]; exact h.m, by rw [valV_put, if_neg (by decide +kernel)]; exact h.v, by rw [len_putK h.l]; exact h.n⟩
theorem MF.level {mv : List (Key × V)} {L D : Addr} {lv : Int} (h : MF mv L D lv) (i : Int) : MF (putK mv (kS "level") (.int i)) L D i :=
  ⟨by rw [valV_put, if_neg (by decide +kernel)]; exact h.l, by rw [valV_put, if_neg (by decide +kernel)]; exact h.m, by rw [valV_put, if_pos rfl], by rw [len_putK h.v]; exact h.n⟩
theorem MF.marks {mv : List (Key × V)} {L D : Addr} {lv : Int} (h : MF mv L D lv) (M : Addr) : MF (putK mv (kS "marks") (.ref M)) L M lv :=
  ⟨by rw [valV_put, if_neg (by decide +kernel)]; exact h.l, by rw [valV_put, if_pos rfl], by rw [valV_put, if_neg (by decide +kernel)]; exact h.v, by rw [len_putK h.m]; exact h.n⟩
/-- the law's room at y: its dict of marks at D, both in F; its line at L, not in F -/
structure MineAt (F : Addr → Prop) (H : Hp) (y D L : Addr) (s : RS) : Prop where
  ex : ∃ (mv : List (Key × V)) (ts : List Addr), H y = some (.dK mv) ∧ MF mv L D s.lv ∧ H D = some (.dK s.kv) ∧ H L = some (.lst (ts.map V.ref)) ∧ Lines F H ts s.ln
  fy : F y
  fD : F D
  nL : ¬ F L
  ne : y ≠ D
theorem MineAt.kp {F G : Addr → Prop} {H H' : Hp} {y D L : Addr} {s : RS} (R : MineAt F H y D L s) (k : KpF G H H') (sub : ∀ b, G b → F b) (ny : ¬ G y) (nD : ¬ G D) : MineAt F H' y D L s := by
  obtain ⟨⟨mv, ts, h1, h2, h3, h4, h5⟩, f1, f2, f3, f4⟩ := R
  exact ⟨⟨mv, ts, k _ _ ny h1, h2, k _ _ nD h3, k _ _ (fun z => f3 (sub _ z)) h4, h5.kp (k.mono sub)⟩, f1, f2, f3, f4⟩
theorem MineAt.same {F : Addr → Prop} {H H' : Hp} {y D L : Addr} {s : RS} (R : MineAt F H y D L s) (k : Same H H') : MineAt F H' y D L s :=
  R.kp (G := fun _ => False) (KpF.same k) (fun _ z => z.elim) id id
/-- what is new behind a change of F' alone is new, and not in F -/
theorem fresh_of {G : Addr → Prop} {H H' : Hp} {p : Addr} (k : KpF G H H') (hG : ∀ b, G b → ∃ o, H' b = some o) (h : H' p = none) : H p = none ∧ ¬ G p := by
  have n : ¬ G p := fun z => by
    obtain ⟨o, e⟩ := hG p z
    rw [h] at e
    cases e
  refine ⟨?_, n⟩
  cases e : H p with
  | none => rfl
  | some o =>
    rw [k _ _ n e] at h
    cases h
theorem notF {F : Addr → Prop} {H : Hp} {p : Addr} (hF : ∀ b, F b → ∃ o, H b = some o) (h : H p = none) : ¬ F p := fun z => by
  obtain ⟨o, e⟩ := hF p z
  rw [h] at e
  cases e
theorem cut_to {xs : List V} {j : Nat} (h : j ≤ xs.length) : cutV xs none (some (j : Int)) = xs.take j := by
  unfold cutV
  rw [HT.sIx_none, HT.sIx_nat, Nat.min_eq_left h, List.drop_zero, Nat.sub_zero]
theorem cut_from {xs : List V} {j : Nat} (h : j ≤ xs.length) : cutV xs (some (j : Int)) none = xs.drop j := by
  unfold cutV
  rw [HT.sIx_none, HT.sIx_nat, Nat.min_eq_left h]
  exact List.take_of_length_le (by rw [List.length_drop]; exact Nat.le_refl _)
theorem cut_both {xs : List V} {j : Nat} (h : j < xs.length) : cutV xs none (some (j : Int)) ++ cutV xs (some ((j : Int) + 1)) none = xs.eraseIdx j := by
  have e : ((j : Int) + 1) = ((j + 1 : Nat) : Int) := rfl
  rw [e, cut_to (Nat.le_of_lt h), cut_from h, List.eraseIdx_eq_take_drop_succ]
/-! ### alike -/
theorem sc_row (q : Row) : ∀ u ∈ rowV q, Sc u := by
  intro u hu
  obtain ⟨z, c, o⟩ := q
  simp only [rowV, List.mem_cons, List.not_mem_nil, or_false] at hu
  rcases hu with rfl | rfl | rfl
  · exact True.intro
  · exact True.intro
  · cases o <;> exact True.intro
theorem lk_row {m : Nat} {H : Hp} {t t' : Addr} {q : Row} (h : H t = some (.tup (rowV q))) (h' : H t' = some (.tup (rowV q))) : Lk H (m + 1) (.ref t) (.ref t') :=
  .inr ⟨false, t, t', rowV q, rowV q, rfl, rfl, h, h', rfl, (by show 3 ≤ 1000000; decide), fun i u v a b => by
    rw [a] at b
    cases b
    exact Lk.sc (sc_row q u (List.mem_of_getElem? a)) m⟩
theorem lk_lines {F G : Addr → Prop} {H : Hp} {M L : Addr} {ts us : List Addr} {ln : List Row} (hM : H M = some (.lst (ts.map V.ref))) (hL : H L = some (.lst (us.map V.ref))) (l1 : Lines F H ts ln) (l2 : Lines G H us ln) (hl : ln.length ≤ 1000) : Lk H 2 (.ref M) (.ref L) := by
  have e1 := l1.length
  have e2 := l2.length
  refine .inr ⟨true, M, L, _, _, rfl, rfl, hM, hL, by rw [List.length_map, List.length_map, e1, e2], by rw [List.length_map]; omega, fun i u v a b => ?_⟩
  rw [List.getElem?_map] at a b
  cases ea : ts[i]? with
  | none => rw [ea] at a; cases a
  | some t =>
    cases eb : us[i]? with
    | none => rw [eb] at b; cases b
    | some t' =>
      rw [ea] at a
      rw [eb] at b
      cases a
      cases b
      obtain ⟨q, hq, _, rq⟩ := l1.at_ ea
      obtain ⟨q', hq', _, rq'⟩ := l2.at_ eb
      rw [hq] at hq'
      cases hq'
      exact lk_row rq rq'
theorem lk_ints {H : Hp} {p q : Addr} {f : Str → Int} {ns : List Str} (hp : H p = some (.lst (ns.map fun z => V.int (f z)))) (hq : H q = some (.lst (ns.map fun z => V.int (f z)))) (hl : ns.length ≤ 1000) : Lk H 1 (.ref p) (.ref q) :=
  .inr ⟨true, p, q, _, _, rfl, rfl, hp, hq, rfl, by rw [List.length_map]; omega, fun i u v a b => by
    rw [a] at b
    cases b
    rw [List.getElem?_map] at a
    cases e : ns[i]? with
    | none => rw [e] at a; cases a
    | some z =>
      rw [e] at a
      cases a
      exact Lk.sc (x := V.int (f z)) (by exact True.intro) 0⟩
theorem lk_five {n : Nat} {H : Hp} {T P : Addr} {a0 a1 a2 a3 a4 b0 b1 b2 b3 b4 : V} (hT : H T = some (.lst [a0, a1, a2, a3, a4])) (hP : H P = some (.lst [b0, b1, b2, b3, b4])) (h0 : Lk H n a0 b0) (h1 : Lk H n a1 b1) (h2 : Lk H n a2 b2) (h3 : Lk H n a3 b3) (h4 : Lk H n a4 b4) : Lk H (n + 1) (.ref T) (.ref P) := by
  refine .inr ⟨true, T, P, _, _, rfl, rfl, hT, hP, rfl, (by show 5 ≤ 1000000; decide), fun i u v a b => ?_⟩
  match i, a, b with
  | 0, a, b => cases Option.some.inj a; cases Option.some.inj b; exact h0
  | 1, a, b => cases Option.some.inj a; cases Option.some.inj b; exact h1
  | 2, a, b => cases Option.some.inj a; cases Option.some.inj b; exact h2
  | 3, a, b => cases Option.some.inj a; cases Option.some.inj b; exact h3
  | 4, a, b => cases Option.some.inj a; cases Option.some.inj b; exact h4
  | i + 5, a, b => simp at a
theorem lk_int {n : Nat} {H : Hp} (i : Int) : Lk H n (.int i) (.int i) := Lk.sc (x := V.int i) (by exact True.intro) n
/-! ### names -/
def signL : List Nat := ("bcdefghijklmnop" : Str).cps.toList
def one (c : Nat) : Str := ⟨#[c]⟩
def goodW (z : Str) : Prop := isNam (.str z) = true ∧ z.length ≤ 4
def headsL : List Nat := ("abcmnrz" : Str).cps.toList
def tailsL : List Str := ["", "0", "7", "a", "x", "10", "zz"]
theorem words_all : (headsL.all fun c => tailsL.all fun b => isNam (.str (one c ++ b)) && decide ((one c ++ b).length ≤ 3) && signL.all fun d => isNam (.str (one c ++ b ++ one d)) && decide ((one c ++ b ++ one d).length ≤ 4)) = true := by decide +kernel
theorem word_ok {c : Nat} {b : Str} (hc : c ∈ headsL) (hb : b ∈ tailsL) : goodW (one c ++ b) ∧ (one c ++ b).length ≤ 3 ∧ ∀ d ∈ signL, goodW (one c ++ b ++ one d) := by
  have q := List.all_eq_true.mp (List.all_eq_true.mp words_all c hc) b hb
  simp only [Bool.and_eq_true, decide_eq_true_eq] at q
  obtain ⟨⟨q1, q2⟩, q3⟩ := q
  refine ⟨⟨q1, by omega⟩, q2, fun d hd => ?_⟩
  have q4 := List.all_eq_true.mp q3 d hd
  simp only [Bool.and_eq_true, decide_eq_true_eq] at q4
  exact q4
theorem tail_len : ∀ b ∈ tailsL, b.length ≤ 2 := by decide +kernel
theorem strs_flat (ns : List Str) : (ns.map V.str).all flatV = true := by
  rw [List.all_map]
  exact List.all_eq_true.mpr fun q _ => rfl
theorem pigeon {α β : Type} [DecidableEq β] {f : α → β} (inj : ∀ a b, f a = f b → a = b) : ∀ (ds : List α) (ws : List β), ds.Nodup → (∀ d ∈ ds, f d ∈ ws) → ds.length ≤ ws.length
  | [], _, _, _ => Nat.zero_le _
  | d :: ds, ws, nd, h => by
    rw [List.nodup_cons] at nd
    have hd := h d (List.mem_cons_self ..)
    have ih := pigeon inj ds (ws.erase (f d)) nd.2 fun e he => (List.mem_erase_of_ne (fun z => nd.1 (by rw [← inj _ _ z]; exact he))).mpr (h e (List.mem_cons_of_mem _ he))
    rw [List.length_erase_of_mem hd] at ih
    have := List.length_pos_of_mem hd
    rw [List.length_cons]
    omega
theorem one_inj (w : Str) (a b : Nat) (h : w ++ one a = w ++ one b) : a = b := by
  have e : ∀ c, (w ++ one c).cps.toList = w.cps.toList ++ [c] := fun c => by
    show (w.cps ++ #[c]).toList = _
    rw [Array.toList_append]
  have q := congrArg (fun z : Str => z.cps.toList) h
  simp only [e] at q
  simpa using q
theorem in_of {w : Str} {ws : List Str} (h : inV (.str w) (ws.map V.str) = true) : w ∈ ws := by
  unfold inV at h
  rw [List.any_map, List.any_eq_true] at h
  obtain ⟨z, hz, e⟩ := h
  have : z = w := by simpa [eqV] using e
  rw [← this]
  exact hz
theorem some_free {w : Str} {ws : List Str} (hl : ws.length ≤ 5) : ∃ d ∈ signL, inV (.str (w ++ one d)) (ws.map V.str) = false := by
  refine Classical.byContradiction fun hn => ?_
  have all : ∀ d ∈ signL, (w ++ one d) ∈ ws := fun d hd => by
    cases e : inV (.str (w ++ one d)) (ws.map V.str) with
    | true => exact in_of e
    | false => exact absurd ⟨d, hd, e⟩ hn
  have q := pigeon (f := fun d => w ++ one d) (one_inj w) signL ws (by decide +kernel) all
  have l : signL.length = 15 := by decide +kernel
  omega
/-! ### the law's situation -/
structure RSok (ns : List Str) (s : RS) : Prop where
  dic : Dic ns s.kv
  rows : ∀ q ∈ s.ln, q.1 ∈ ns ∧ 1 ≤ q.2.1 ∧ q.2.1 ≤ 1000
  l40 : s.ln.length ≤ 40
structure Sit (F : Addr → Prop) (H : Hp) (g l N Wd : Addr) (wv : List (Key × V)) (sc : Int) (ns : List Str) : Prop where
  bag : Bag l H g
  fg : F g
  nl : ¬ F l
  ex : ∀ b, F b → ∃ o, H b = some o
  hN : H N = some (.lst (ns.map V.str))
  nN : ¬ F N
  hW : H Wd = some (.dK wv)
  nW : ¬ F Wd
  nms : Nms ns
  n6 : ns.length ≤ 6
  n1 : 1 ≤ ns.length
  wd : WDic ns wv
  sc0 : 1 ≤ sc
  sc1 : sc ≤ 27720
structure Pr (r : Ar) (F : Addr → Prop) (H : Hp) (g x D L y E M : Addr) (wv : List (Key × V)) (sc : Int) (s : RS) : Prop where
  room : RoomAt r F H x D L wv sc s
  mine : MineAt F H y E M s
  xg : x ≠ g
  Dg : D ≠ g
  Lg : L ≠ g
  yg : y ≠ g
  Eg : E ≠ g
  yx : y ≠ x
  yD : y ≠ D
  yL : y ≠ L
  Ex : E ≠ x
  ED : E ≠ D
  EL : E ≠ L
theorem ex_kp {F G : Addr → Prop} {H H' : Hp} (k : KpF G H H') (hG : ∀ b, G b → ∃ o, H' b = some o) (hF : ∀ b, F b → ∃ o, H b = some o) : ∀ b, F b → ∃ o, H' b = some o := fun b z => by
  by_cases c : G b
  · exact hG b c
  · obtain ⟨o, e⟩ := hF b z
    exact ⟨o, k _ _ c e⟩
theorem Sit.kp {F G : Addr → Prop} {H H' : Hp} {g l N Wd : Addr} {wv : List (Key × V)} {sc : Int} {ns : List Str} (S : Sit F H g l N Wd wv sc ns) (k : KpF G H H') (sub : ∀ b, G b → F b) (hG : ∀ b, G b → ∃ o, H' b = some o) (b : Bag l H' g) : Sit F H' g l N Wd wv sc ns :=
  ⟨b, S.fg, S.nl, ex_kp k hG S.ex, k _ _ (fun z => S.nN (sub _ z)) S.hN, S.nN, k _ _ (fun z => S.nW (sub _ z)) S.hW, S.nW, S.nms, S.n6, S.n1, S.wd, S.sc0, S.sc1⟩
theorem Sit.ok {F : Addr → Prop} {H H' : Hp} {g l N Wd : Addr} {wv : List (Key × V)} {sc : Int} {ns : List Str} (S : Sit F H g l N Wd wv sc ns) (o : Ok g l H H') : Sit F H' g l N Wd wv sc ns :=
  S.kp (G := fun b => b = g) (KpF.kp rfl o.kp) (fun b e => by rw [e]; exact S.fg) (fun b e => by rw [e]; obtain ⟨⟨xs, q⟩, _⟩ := o.bag.there; exact ⟨_, q⟩) o.bag
theorem bag_kp {G : Addr → Prop} {H H' : Hp} {g l : Addr} (B : Bag l H g) (k : KpF G H H') (ng : ¬ G g) (nl : ¬ G l) : Bag l H' g := by
  obtain ⟨ns, i, d, s, c, h1, h2, h3, r⟩ := B
  exact ⟨ns, i, d, s, c, k _ _ ng h1, h2, k _ _ nl h3, r⟩
theorem bag_same {H H' : Hp} {g l : Addr} (s : Same H H') (B : Bag l H g) : Bag l H' g := bag_kp (G := fun _ => False) B (KpF.same s) id id
theorem Pr.kp {r : Ar} {F G : Addr → Prop} {H H' : Hp} {g x D L y E M : Addr} {wv : List (Key × V)} {sc : Int} {s : RS} (P : Pr r F H g x D L y E M wv sc s) (k : KpF G H H') (sub : ∀ b, G b → F b) (n : ∀ b, G b → b ≠ x ∧ b ≠ D ∧ b ≠ L ∧ b ≠ y ∧ b ≠ E) : Pr r F H' g x D L y E M wv sc s :=
  ⟨P.room.kp k sub (fun z => (n _ z).1 rfl) (fun z => (n _ z).2.1 rfl) (fun z => (n _ z).2.2.1 rfl), P.mine.kp k sub (fun z => (n _ z).2.2.2.1 rfl) (fun z => (n _ z).2.2.2.2 rfl), P.xg, P.Dg, P.Lg, P.yg, P.Eg, P.yx, P.yD, P.yL, P.Ex, P.ED, P.EL⟩
theorem Pr.ok {r : Ar} {F : Addr → Prop} {H H' : Hp} {g x D L y E M : Addr} {wv : List (Key × V)} {sc : Int} {s : RS} (P : Pr r F H g x D L y E M wv sc s) (fg : F g) (k : Kp g H H') : Pr r F H' g x D L y E M wv sc s :=
  P.kp (G := fun b => b = g) (KpF.kp rfl k) (fun b e => by rw [e]; exact fg) fun b e => by
    subst e
    exact ⟨P.xg.symm, P.Dg.symm, P.Lg.symm, P.yg.symm, P.Eg.symm⟩
theorem Pr.same {r : Ar} {F : Addr → Prop} {H H' : Hp} {g x D L y E M : Addr} {wv : List (Key × V)} {sc : Int} {s : RS} (P : Pr r F H g x D L y E M wv sc s) (k : Same H H') : Pr r F H' g x D L y E M wv sc s :=
  P.kp (G := fun _ => False) (KpF.same k) (fun _ z => z.elim) fun _ z => z.elim
def Chg (g x D L y E : Addr) : Addr → Prop := fun b => b = g ∨ b = x ∨ b = D ∨ b = L ∨ b = y ∨ b = E
/-- F stays one when L, that is in it, is added -/
theorem Pr.keep {r : Ar} {F : Addr → Prop} {H : Hp} {g x D L y E M : Addr} {wv : List (Key × V)} {sc : Int} {s : RS} (P : Pr r F H g x D L y E M wv sc s) : Pr r (fun b => F b ∨ b = L) H g x D L y E M wv sc s := by
  have e : (fun b => F b ∨ b = L) = F := funext fun b => propext ⟨fun z => z.elim id fun e => by rw [e]; exact P.room.fL, .inl⟩
  rw [e]
  exact P
theorem MineAt.wide {F : Addr → Prop} {H : Hp} {y D L M : Addr} {s : RS} (R : MineAt F H y D L s) (h : H M = none) : MineAt (fun b => F b ∨ b = M) H y D L s := by
  have ne : ∀ b o, H b = some o → b ≠ M := fun b o e z => by rw [z, h] at e; cases e
  obtain ⟨⟨mv, ts, h1, h2, h3, h4, h5⟩, f1, f2, f3, f4⟩ := R
  exact ⟨⟨mv, ts, h1, h2, h3, h4, h5.mono fun t q ⟨n, e⟩ => ⟨fun z => z.elim n (ne _ _ e), e⟩⟩, .inl f1, .inl f2, fun z => z.elim f3 (ne _ _ h4), f4⟩
theorem RoomAt.wide {r : Ar} {F : Addr → Prop} {H : Hp} {x D L M : Addr} {wv : List (Key × V)} {sc : Int} {s : RS} (R : RoomAt r F H x D L wv sc s) (h : H M = none) : RoomAt r (fun b => F b ∨ b = M) H x D L wv sc s := by
  have ne : ∀ b o, H b = some o → b ≠ M := fun b o e z => by rw [z, h] at e; cases e
  obtain ⟨⟨dx, W, fs, ts, h1, h2, h3, h4, h5, h6, h7⟩, f1, f2, f3⟩ := R
  exact ⟨⟨dx, W, fs, ts, h1, h2, h3, fun z => z.elim h4 (ne _ _ h3), h5, h6, h7.mono fun t q ⟨n, e⟩ => ⟨fun z => z.elim n (ne _ _ e), e⟩⟩, .inl f1, .inl f2, .inl f3⟩
theorem lk_two {n : Nat} {H : Hp} {T P : Addr} {a0 a1 : V} (hT : H T = some (.tup [a0, a1])) (hP : H P = some (.tup [a0, a1])) (h0 : Sc a0) (h1 : Sc a1) : Lk H (n + 1) (.ref T) (.ref P) := by
  refine .inr ⟨false, T, P, _, _, rfl, rfl, hT, hP, rfl, (by show 2 ≤ 1000000; decide), fun i u v a b => ?_⟩
  match i, a, b with
  | 0, a, b => cases Option.some.inj a; cases Option.some.inj b; exact Lk.sc h0 n
  | 1, a, b => cases Option.some.inj a; cases Option.some.inj b; exact Lk.sc h1 n
  | i + 2, a, b => simp at a
theorem lk_names {H : Hp} {p q : Addr} {ln : List Row} (hp : H p = some (.lst (namesV ln))) (hq : H q = some (.lst (namesV ln))) (hl : ln.length ≤ 1000) : Lk H 1 (.ref p) (.ref q) :=
  .inr ⟨true, p, q, _, _, rfl, rfl, hp, hq, rfl, by unfold namesV; rw [List.length_map]; omega, fun i u v a b => by
    rw [a] at b
    cases b
    unfold namesV at a
    rw [List.getElem?_map] at a
    cases e : ln[i]? with
    | none => rw [e] at a; cases a
    | some z =>
      rw [e] at a
      cases a
      exact Lk.sc (x := V.str z.1) (by exact True.intro) 0⟩
theorem RSok.serve {ns : List Str} {s : RS} (h : RSok ns s) {sc w : Int} {j : Nat} {q : Row} (hq : s.ln[j]? = some q) : RSok ns (serveS s sc w j q) :=
  ⟨(h.dic.put (h.rows q (List.mem_of_getElem? hq)).1 _).1, fun p hp => h.rows p (List.mem_of_mem_eraseIdx hp), Nat.le_trans (List.length_eraseIdx_le _ _) h.l40⟩
theorem RSok.join {ns : List Str} {s : RS} (h : RSok ns s) {z : Str} {c : Int} {u : Option Int} (hz : z ∈ ns) (c0 : 1 ≤ c) (c1 : c ≤ 1000) (l : s.ln.length ≤ 39) : RSok ns (joinS s z c u) := by
  refine ⟨?_, fun p hp => ?_, ?_⟩
  · show Dic ns (if _ then _ else _)
    split
    · exact h.dic
    · exact (h.dic.put hz _).1
  · rcases List.mem_append.mp hp with a | a
    · exact h.rows p a
    · rw [List.mem_singleton] at a
      rw [a]
      exact ⟨hz, c0, c1⟩
  · show (s.ln ++ [(z, c, u)]).length ≤ 40
    rw [List.length_append]
    show s.ln.length + 1 ≤ 40
    omega
/-! ### weights -/
structure WK (wv : List (Key × V)) : Prop where
  v : ∀ p ∈ wv, ∃ w : Int, p.2 = .int w ∧ 1 ≤ w ∧ w ≤ 12
  nd : (wv.map (·.1)).Nodup
theorem WK.put {wv : List (Key × V)} (h : WK wv) {k : Key} {c : Int} (c0 : 1 ≤ c) (c1 : c ≤ 12) : WK (putK wv k (.int c)) ∧ (putK wv k (.int c)).length ≤ wv.length + 1 := by
  unfold putK
  split
  · rename_i a
    refine ⟨⟨fun p hp => ?_, ?_⟩, by rw [List.length_map]; omega⟩
    · obtain ⟨q, hq, rfl⟩ := List.mem_map.mp hp
      split
      · exact ⟨c, rfl, c0, c1⟩
      · exact h.v q hq
    · have e : (wv.map fun kv => if kv.1 = k then (kv.1, V.int c) else kv).map (·.1) = wv.map (·.1) := by
        rw [List.map_map]
        apply List.map_congr_left
        intro q _
        show (if q.1 = k then (q.1, V.int c) else q).1 = q.1
        split <;> rfl
      rw [e]
      exact h.nd
  · rename_i a
    refine ⟨⟨fun p hp => ?_, ?_⟩, by rw [List.length_append]; exact Nat.le_refl _⟩
    · rcases List.mem_append.mp hp with h' | h'
      · exact h.v p h'
      · rw [List.mem_singleton] at h'
        subst h'
        exact ⟨c, rfl, c0, c1⟩
    · rw [List.map_append, List.nodup_append]
      refine ⟨h.nd, by simp, fun x hx y hy e => ?_⟩
      simp only [List.map_cons, List.map_nil, List.mem_singleton] at hy
      subst hy
      subst e
      apply a
      rw [List.any_eq_true]
      obtain ⟨q, hq, eq⟩ := List.mem_map.mp hx
      exact ⟨q, hq, decide_eq_true eq⟩
theorem ws_of : ∀ {wv : List (Key × V)}, (∀ p ∈ wv, ∃ w : Int, p.2 = .int w ∧ 1 ≤ w ∧ w ≤ 12) → ∃ ws : List Int, wv.map (·.2) = ws.map V.int ∧ ∀ w ∈ ws, 1 ≤ w ∧ w ≤ 12
  | [], _ => ⟨[], rfl, fun _ h => by cases h⟩
  | p :: wv, h => by
    obtain ⟨ws, e, b⟩ := ws_of fun q hq => h q (List.mem_cons_of_mem _ hq)
    obtain ⟨w, e1, b0⟩ := h p (List.mem_cons_self ..)
    refine ⟨w :: ws, by rw [List.map_cons, List.map_cons, e, e1], fun u hu => ?_⟩
    rcases List.mem_cons.mp hu with rfl | hu
    · exact b0
    · exact b u hu
theorem zero_put {wv : List (Key × V)} {k : Key} {v : V} : zeroK (putK wv k v) = putK (zeroK wv) k (.int 0) := by
  unfold putK zeroK
  have e : (wv.map fun p => (p.1, V.int 0)).any (fun kv => decide (kv.1 = k)) = wv.any (fun kv => decide (kv.1 = k)) := by
    rw [List.any_map]
    rfl
  rw [e]
  split
  · rw [List.map_map, List.map_map]
    apply List.map_congr_left
    intro q _
    show ((if q.1 = k then (q.1, v) else q).1, V.int 0) = if q.1 = k then (q.1, V.int 0) else (q.1, V.int 0)
    split <;> rfl
  · rw [List.map_append]
    rfl
/-! ### the pairs -/
structure Pd where
  x : Addr
  D : Addr
  L : Addr
  y : Addr
  E : Addr
  M : Addr
  s : RS
def Own (p : Pd) (b : Addr) : Prop := b = p.x ∨ b = p.D ∨ b = p.L ∨ b = p.y ∨ b = p.E
abbrev PdAt (r : Ar) (F : Addr → Prop) (H : Hp) (g : Addr) (wv : List (Key × V)) (sc : Int) (p : Pd) : Prop := Pr r F H g p.x p.D p.L p.y p.E p.M wv sc p.s
theorem Pr.sub {r : Ar} {F : Addr → Prop} {H : Hp} {g : Addr} {wv : List (Key × V)} {sc : Int} {p : Pd} (P : PdAt r F H g wv sc p) {b : Addr} (h : Own p b) : F b := by
  rcases h with rfl | rfl | rfl | rfl | rfl
  · exact P.room.fx
  · exact P.room.fD
  · exact P.room.fL
  · exact P.mine.fy
  · exact P.mine.fD
theorem Pr.ng {r : Ar} {F : Addr → Prop} {H : Hp} {g : Addr} {wv : List (Key × V)} {sc : Int} {p : Pd} (P : PdAt r F H g wv sc p) : ¬ Own p g := by
  rintro (e | e | e | e | e)
  · exact P.xg e.symm
  · exact P.Dg e.symm
  · exact P.Lg e.symm
  · exact P.yg e.symm
  · exact P.Eg e.symm
theorem Pr.kpO {r : Ar} {F G : Addr → Prop} {H H' : Hp} {g : Addr} {wv : List (Key × V)} {sc : Int} {p : Pd} (P : PdAt r F H g wv sc p) (k : KpF G H H') (sub : ∀ b, G b → F b) (n : ∀ b, G b → ¬ Own p b) : PdAt r F H' g wv sc p :=
  P.kp k sub fun b z => ⟨fun e => n b z (.inl e), fun e => n b z (.inr (.inl e)), fun e => n b z (.inr (.inr (.inl e))), fun e => n b z (.inr (.inr (.inr (.inl e)))), fun e => n b z (.inr (.inr (.inr (.inr e))))⟩
theorem MineAt.add {F Z : Addr → Prop} {H : Hp} {y D L : Addr} {s : RS} (R : MineAt F H y D L s) (h : ∀ b, Z b → H b = none) : MineAt (fun b => F b ∨ Z b) H y D L s := by
  have ne : ∀ b o, H b = some o → ¬ Z b := fun b o e z => by rw [h b z] at e; cases e
  obtain ⟨⟨mv, ts, h1, h2, h3, h4, h5⟩, f1, f2, f3, f4⟩ := R
  exact ⟨⟨mv, ts, h1, h2, h3, h4, h5.mono fun t q ⟨n, e⟩ => ⟨fun z => z.elim n (ne _ _ e), e⟩⟩, .inl f1, .inl f2, fun z => z.elim f3 (ne _ _ h4), f4⟩
theorem RoomAt.add {r : Ar} {F Z : Addr → Prop} {H : Hp} {x D L : Addr} {wv : List (Key × V)} {sc : Int} {s : RS} (R : RoomAt r F H x D L wv sc s) (h : ∀ b, Z b → H b = none) : RoomAt r (fun b => F b ∨ Z b) H x D L wv sc s := by
  have ne : ∀ b o, H b = some o → ¬ Z b := fun b o e z => by rw [h b z] at e; cases e
  obtain ⟨⟨dx, W, fs, ts, h1, h2, h3, h4, h5, h6, h7⟩, f1, f2, f3⟩ := R
  exact ⟨⟨dx, W, fs, ts, h1, h2, h3, fun z => z.elim h4 (ne _ _ h3), h5, h6, h7.mono fun t q ⟨n, e⟩ => ⟨fun z => z.elim n (ne _ _ e), e⟩⟩, .inl f1, .inl f2, .inl f3⟩
theorem Pr.add {r : Ar} {F Z : Addr → Prop} {H : Hp} {g x D L y E M : Addr} {wv : List (Key × V)} {sc : Int} {s : RS} (P : Pr r F H g x D L y E M wv sc s) (h : ∀ b, Z b → H b = none) : Pr r (fun b => F b ∨ Z b) H g x D L y E M wv sc s :=
  ⟨P.room.add h, P.mine.add h, P.xg, P.Dg, P.Lg, P.yg, P.Eg, P.yx, P.yD, P.yL, P.Ex, P.ED, P.EL⟩
theorem Pr.addM {r : Ar} {F : Addr → Prop} {H : Hp} {g x D L y E M N : Addr} {wv : List (Key × V)} {sc : Int} {s : RS} (P : Pr r F H g x D L y E M wv sc s) (h : F N ∨ H N = none) : Pr r (fun b => F b ∨ b = N) H g x D L y E M wv sc s := by
  rcases h with h | h
  · have e : (fun b => F b ∨ b = N) = F := funext fun b => propext ⟨fun z => z.elim id fun e => by rw [e]; exact h, .inl⟩
    rw [e]
    exact P
  · exact P.add fun b e => by rw [e]; exact h
structure St (r : Ar) (F : Addr → Prop) (H : Hp) (g l N Wd : Addr) (wv : List (Key × V)) (sc : Int) (ns : List Str) (PL : Addr) (tps : List Addr) (f : Addr → Pd) : Prop where
  sit : Sit F H g l N Wd wv sc ns
  pl : H PL = some (.lst (tps.map V.ref))
  fP : F PL
  ne : PL ≠ g
  prs : ∀ t ∈ tps, PdAt r F H g wv sc (f t) ∧ RSok ns (f t).s ∧ H t = some (.tup [.ref (f t).x, .ref (f t).y]) ∧ ¬ F t ∧ ¬ Own (f t) PL
  ap : ∀ t ∈ tps, ∀ u ∈ tps, t ≠ u → ∀ b, Own (f t) b → ¬ Own (f u) b
  len : 1 ≤ tps.length ∧ tps.length ≤ 2
section
variable {r : Ar} {F G Z : Addr → Prop} {H H' : Hp} {g l N Wd PL t : Addr} {wv : List (Key × V)} {sc : Int} {ns : List Str} {tps : List Addr} {f : Addr → Pd}
theorem St.kp (S : St r F H g l N Wd wv sc ns PL tps f) (k : KpF G H H') (sub : ∀ b, G b → F b) (hG : ∀ b, G b → ∃ o, H' b = some o) (B : Bag l H' g) (nP : ¬ G PL) (n : ∀ t ∈ tps, ∀ b, G b → ¬ Own (f t) b) : St r F H' g l N Wd wv sc ns PL tps f :=
  ⟨S.sit.kp k sub hG B, k _ _ nP S.pl, S.fP, S.ne, fun t ht => by
    obtain ⟨a, b, c, d, e⟩ := S.prs t ht
    exact ⟨a.kpO k sub (n t ht), b, k _ _ (fun z => d (sub _ z)) c, d, e⟩, S.ap, S.len⟩
theorem St.same (S : St r F H g l N Wd wv sc ns PL tps f) (s : Same H H') : St r F H' g l N Wd wv sc ns PL tps f :=
  S.kp (G := fun _ => False) (KpF.same s) (fun _ z => z.elim) (fun _ z => z.elim) (bag_same s S.sit.bag) id fun _ _ _ z => z.elim
theorem St.ok (S : St r F H g l N Wd wv sc ns PL tps f) (o : Ok g l H H') : St r F H' g l N Wd wv sc ns PL tps f :=
  S.kp (G := fun b => b = g) (KpF.kp rfl o.kp) (fun b e => by rw [e]; exact S.sit.fg) (fun b e => by rw [e]; obtain ⟨⟨xs, q⟩, _⟩ := o.bag.there; exact ⟨_, q⟩) o.bag S.ne fun t ht b e z => (S.prs t ht).1.ng (by rw [← e]; exact z)
/-- new things are added to F -/
theorem St.wide (S : St r F H g l N Wd wv sc ns PL tps f) (hZ : ∀ b, Z b → H b = none) (s : Same H H') (al : ∀ b, Z b → ∃ o, H' b = some o) : St r (fun b => F b ∨ Z b) H' g l N Wd wv sc ns PL tps f := by
  have ne : ∀ b o, H b = some o → ¬ Z b := fun b o e z => by rw [hZ b z] at e; cases e
  have S' := S.same s
  refine ⟨⟨S'.sit.bag, .inl S.sit.fg, fun z => z.elim S.sit.nl ?_, fun b z => z.elim (S'.sit.ex b) (al b), S'.sit.hN, fun z => z.elim S.sit.nN (ne _ _ S.sit.hN), S'.sit.hW, fun z => z.elim S.sit.nW (ne _ _ S.sit.hW), S.sit.nms, S.sit.n6, S.sit.n1, S.sit.wd, S.sit.sc0, S.sit.sc1⟩, S'.pl, .inl S.fP, S.ne, fun t ht => ?_, S.ap, S.len⟩
  · obtain ⟨_, ⟨xs, q⟩⟩ := S.sit.bag.there
    exact ne _ _ q
  · obtain ⟨a, b, c, d, e⟩ := S.prs t ht
    exact ⟨(a.add hZ).same s, b, s _ _ c, fun z => z.elim d (ne _ _ c), e⟩
/-- a deed on the pair at t -/
theorem St.deed (S : St r F H g l N Wd wv sc ns PL tps f) (ht : t ∈ tps) {M M2 : Addr} {s' : RS} (hM : M = (f t).L ∨ H M = none) (k : KpF (Chg g (f t).x (f t).D (f t).L (f t).y (f t).E) H H') (B : Bag l H' g) (P : Pr r (fun b => F b ∨ b = M) H' g (f t).x (f t).D M (f t).y (f t).E M2 wv sc s') (ok : RSok ns s') (ex : ∀ b, F b → ∃ o, H' b = some o) :
    St r (fun b => F b ∨ b = M) H' g l N Wd wv sc ns PL tps (fun u => if u = t then ⟨(f t).x, (f t).D, M, (f t).y, (f t).E, M2, s'⟩ else f u) := by
  obtain ⟨P0, ok0, ht0, nt, oP⟩ := S.prs t ht
  have hFM : F M ∨ H M = none := hM.imp (fun e => by rw [e]; exact P0.room.fL) id
  have neM : ∀ b o, H b = some o → ¬ F b → b ≠ M := fun b o e n z => hFM.elim (fun h => n (by rw [z]; exact h)) fun h => by rw [z, h] at e; cases e
  have chO : ∀ b, Chg g (f t).x (f t).D (f t).L (f t).y (f t).E b → b = g ∨ Own (f t) b := fun b z => z
  have sub : ∀ b, Chg g (f t).x (f t).D (f t).L (f t).y (f t).E b → F b := fun b z => (chO b z).elim (fun e => by rw [e]; exact S.sit.fg) fun z => P0.sub z
  have nS := S.sit
  have lal : ∃ o, H l = some o := by
    obtain ⟨_, ⟨xs, q⟩⟩ := nS.bag.there
    exact ⟨_, q⟩
  have oM : ∀ b, Own ⟨(f t).x, (f t).D, M, (f t).y, (f t).E, M2, s'⟩ b → Own (f t) b ∨ H b = none := fun b z => by
    rcases z with e | e | e | e | e
    · exact .inl (.inl e)
    · exact .inl (.inr (.inl e))
    · rcases hM with h | h
      · exact .inl (.inr (.inr (.inl (by rw [← h]; exact e))))
      · exact .inr (by rw [show b = M from e]; exact h)
    · exact .inl (.inr (.inr (.inr (.inl e))))
    · exact .inl (.inr (.inr (.inr (.inr e))))
  refine ⟨⟨B, .inl nS.fg, fun z => z.elim nS.nl ?_, fun b z => z.elim (ex b) fun e => ?_, k _ _ (fun z => nS.nN (sub _ z)) nS.hN, fun z => z.elim nS.nN (neM _ _ nS.hN nS.nN), k _ _ (fun z => nS.nW (sub _ z)) nS.hW, fun z => z.elim nS.nW (neM _ _ nS.hW nS.nW), nS.nms, nS.n6, nS.n1, nS.wd, nS.sc0, nS.sc1⟩, k _ _ (fun z => (chO _ z).elim S.ne oP) S.pl, .inl S.fP, S.ne, fun u hu => ?_, fun u hu v hv huv b => ?_, S.len⟩
  · obtain ⟨o, q⟩ := lal
    exact neM _ _ q nS.nl
  · obtain ⟨⟨_, _, _, _, _, _, _, _, _, q, _⟩, _⟩ := P.room
    rw [e]
    exact ⟨_, q⟩
  · by_cases e : u = t
    · subst e
      rw [if_pos rfl]
      refine ⟨P, ok, k _ _ (fun z => nt (sub _ z)) ht0, fun z => z.elim nt (neM _ _ ht0 nt), fun z => (oM _ z).elim oP fun h => ?_⟩
      rw [S.pl] at h
      cases h
    · rw [if_neg e]
      obtain ⟨a, b, c, d, o⟩ := S.prs u hu
      have n : ∀ b, Chg g (f t).x (f t).D (f t).L (f t).y (f t).E b → ¬ Own (f u) b := fun b z w => (chO b z).elim (fun e => a.ng (by rw [← e]; exact w)) fun z => S.ap t ht u hu (fun h => e h.symm) b z w
      exact ⟨(a.addM hFM).kpO k (fun b z => .inl (sub b z)) n, b, k _ _ (fun z => d (sub _ z)) c, fun z => z.elim d (neM _ _ c d), o⟩
  · have fresh : ∀ w ∈ tps, ∀ b, H b = none → ¬ Own (f w) b := fun w hw b h z => by
      obtain ⟨o, q⟩ := nS.ex b ((S.prs w hw).1.sub z)
      rw [h] at q
      cases q
    by_cases e : u = t
    · rw [if_pos e, if_neg (fun z => huv (e.trans z.symm))]
      subst e
      exact fun z => (oM b z).elim (S.ap u hu v hv huv b) (fresh v hv b)
    · rw [if_neg e]
      by_cases e2 : v = t
      · rw [if_pos e2]
        subst e2
        exact fun z w => (oM b w).elim (fun w => S.ap u hu v hv huv b z w) fun h => fresh u hu b h z
      · rw [if_neg e2]
        exact S.ap u hu v hv huv b
/-- one more pair -/
theorem St.push (S : St r F H g l N Wd wv sc ns PL tps f) (h1 : tps.length = 1) {T : Addr} {p : Pd} (hT : H T = some (.tup [.ref p.x, .ref p.y])) (nT : ¬ F T) (tT : T ∉ tps) (P : PdAt r F H g wv sc p) (ok : RSok ns p.s) (oP : ¬ Own p PL) (ap : ∀ t ∈ tps, ∀ b, Own (f t) b → ¬ Own p b) :
    St r F (upd H PL (.lst (tps.map V.ref ++ [.ref T]))) g l N Wd wv sc ns PL (tps ++ [T]) (fun u => if u = T then p else f u) := by
  have k : KpF (fun b => b = PL) H (upd H PL (.lst (tps.map V.ref ++ [.ref T]))) := (KpF.refl _ _).upd rfl
  have sub : ∀ b, b = PL → F b := fun b e => by rw [e]; exact S.fP
  have nl : l ≠ PL := fun e => S.sit.nl (by rw [e]; exact S.fP)
  have al : ∀ b, b = PL → ∃ o, upd H PL (.lst (tps.map V.ref ++ [.ref T])) b = some o := fun b e => by
    subst e
    exact ⟨_, upd_same⟩
  refine ⟨S.sit.kp k sub al (bag_kp S.sit.bag k (fun e => S.ne e.symm) nl), by rw [upd_same, List.map_append]; rfl, S.fP, S.ne, fun t ht => ?_, fun t ht u hu htu b => ?_, by rw [List.length_append, h1]; exact ⟨(show 1 ≤ 1 + 1 by decide), (show 1 + 1 ≤ 2 by decide)⟩⟩
  · by_cases e : t = T
    · rw [if_pos e, e]
      exact ⟨P.kpO k sub (fun b e z => oP (by rw [← e]; exact z)), ok, k _ _ (fun z => nT (sub _ z)) hT, nT, oP⟩
    · rw [if_neg e]
      rcases List.mem_append.mp ht with ht | ht
      · obtain ⟨a, b, c, d, o⟩ := S.prs t ht
        exact ⟨a.kpO k sub (fun b e z => o (by rw [← e]; exact z)), b, k _ _ (fun z => d (sub _ z)) c, d, o⟩
      · exact absurd (List.mem_singleton.mp ht) e
  · by_cases e : t = T
    · rw [if_pos e]
      have eu : u ≠ T := fun z => htu (e.trans z.symm)
      rw [if_neg eu]
      rcases List.mem_append.mp hu with hu | hu
      · exact fun z w => ap u hu b w z
      · exact absurd (List.mem_singleton.mp hu) eu
    · rw [if_neg e]
      rcases List.mem_append.mp ht with ht | ht
      · by_cases e2 : u = T
        · rw [if_pos e2]
          exact ap t ht b
        · rw [if_neg e2]
          rcases List.mem_append.mp hu with hu | hu
          · exact S.ap t ht u hu htu b
          · exact absurd (List.mem_singleton.mp hu) e2
      · exact absurd (List.mem_singleton.mp ht) e
end
theorem len_put_le {kv : List (Key × V)} {k : Key} {v : V} : (putK kv k v).length ≤ kv.length + 1 := by
  unfold putK
  split
  · rw [List.length_map]
    omega
  · rw [List.length_append]
    exact Nat.le_refl _
theorem MF.new (L D : Addr) : MF (putK (putK (putK [] (kS "line") (.ref L)) (kS "marks") (.ref D)) (kS "level") (.int 0)) L D 0 :=
  ⟨by rw [valV_put, if_neg (by decide +kernel), valV_put, if_neg (by decide +kernel), valV_put, if_pos rfl], by rw [valV_put, if_neg (by decide +kernel), valV_put, if_pos rfl], by rw [valV_put, if_pos rfl], by
    have a := len_put_le (kv := []) (k := kS "line") (v := .ref L)
    have b := len_put_le (kv := putK [] (kS "line") (.ref L)) (k := kS "marks") (v := .ref D)
    have c := len_put_le (kv := putK (putK [] (kS "line") (.ref L)) (kS "marks") (.ref D)) (k := kS "level") (v := .int 0)
    simp only [List.length_nil] at a
    omega⟩
section
variable {P : Program} {w : World} {K : PySem.W.Frag} {mg : Str → Option Value} {base : Heap}
/-- a def with defaults, by its body -/
theorem okD {x qual : Str} {st : Stmt} {f : Addr} {fd : FuncData} {N ps : List Str} {k : Nat} {sp : Sp} {dvs : List V} {kws : List (Str × V)} (F : FunD K x qual (defArgs st) (defBody st) (defScope st) dvs kws f fd) (S : FnScope N ps (defScope st)) (len : ∀ vs H Q E, sp vs H Q E → vs.length = ps.length)
    (hbody : ∀ (cdv : Value) (A : Around) (outer : List Env) (s : Shared) (H : Hp) (vs : List V) (Q : VK) (E : XK), Room k (A.deeper (PyProof.Rows.envOfC qual (defScope st) s.heap.objs.size f cdv)) → sp vs H Q E →
      ∃ t, PSs (cxOf CX0 P w K mg base N qual (defScope st) f cdv A outer s H E).nox (defBody st) t ∧ t { nx := fun _ H' => Q .non H', rt := Q } (start N vs) H) : FnOk P w K mg base CX0 (k + 1) f fd ps sp := by
  obtain ⟨oc, od, dV, kV, doc, pm, an, cdv, ct, osl, rfl, lk, hcd, _, _⟩ := F.ex
  refine fn_of lk hcd S len fun A outer s H vs Q E hr hsp => ?_
  obtain ⟨t, h, q⟩ := hbody cdv A outer s H vs Q E hr hsp
  exact ⟨t, h.nox, q⟩
end
/-! ### the law's own lines -/
/-- a row of a customer's own line: the price and the limit -/
def row2 (q : Row) : List V := [.int q.2.1, uV q.2.2]
def Row2At (F : Addr → Prop) (H : Hp) (t : Addr) (q : Row) : Prop := ¬ F t ∧ H t = some (.tup (row2 q))
/-- the rows of one customer -/
def mineOf (z : Str) (ln : List Row) : List Row := ln.filter fun q => decide (q.1 = z)
structure Own2 (F : Addr → Prop) (H : Hp) (la : Addr) (rows : List Row) : Prop where
  ex : ∃ ts : List Addr, H la = some (.lst (ts.map V.ref)) ∧ Paired (Row2At F H) ts rows
  f : F la
/-- the dict of lines at Ld: a line for each name, at la -/
structure LinesAt (F : Addr → Prop) (H : Hp) (Ld : Addr) (la : Str → Addr) (ns : List Str) (ln : List Row) : Prop where
  ex : ∃ lv : List (Key × V), H Ld = some (.dK lv) ∧ lv.length ≤ 1000 ∧ ∀ z ∈ ns, valV lv (kS z) = some (.ref (la z))
  own : ∀ z ∈ ns, Own2 F H (la z) (mineOf z ln)
  ne : ∀ z ∈ ns, ∀ y ∈ ns, z ≠ y → la z ≠ la y
  nd : ¬ F Ld
theorem mineOf_snoc (z : Str) (ln : List Row) (q : Row) : mineOf z (ln ++ [q]) = if q.1 = z then mineOf z ln ++ [q] else mineOf z ln := by
  unfold mineOf
  rw [List.filter_append]
  by_cases h : q.1 = z <;> simp [h]
theorem Own2.kp {F G : Addr → Prop} {H H' : Hp} {la : Addr} {rows : List Row} (h : Own2 F H la rows) (k : KpF G H H') (sub : ∀ b, G b → F b) (n : ¬ G la) : Own2 F H' la rows := by
  obtain ⟨⟨ts, h1, h2⟩, f⟩ := h
  exact ⟨⟨ts, k _ _ n h1, h2.mono fun t q ⟨a, b⟩ => ⟨a, k _ _ (fun z => a (sub _ z)) b⟩⟩, f⟩
theorem head_first1 {kv : List (Key × V)} {ln : List Row} {j m : Nat} {q q' : Row} (h : headAt kv ln = some j) (hq : ln[j]? = some q) (hm : m < j) (hq' : ln[m]? = some q') : q'.1 ≠ q.1 := fun e => by
  cases er : ranks kv ln with
  | nil =>
    unfold headAt at h
    rw [er] at h
    cases h
  | cons r0 rs =>
    obtain ⟨j', q2, hj', hq2, _, em⟩ := headAt_cons er
    rw [h] at hj'
    cases hj'
    rw [hq] at hq2
    cases hq2
    have mm : (⟨markOf kv q'.1, q'.1, (m : Int)⟩ : Rank) ∈ r0 :: rs := by
      rw [← er]
      exact List.mem_of_getElem? (ranks_get hq')
    have z := min_le r0 rs _ mm
    rw [em, e] at z
    have z2 : PySem.W.DatumOrd.lt (⟨markOf kv q.1, q.1, (m : Int)⟩ : Rank) ⟨markOf kv q.1, q.1, (j : Int)⟩ = true := by
      show (if markOf kv q.1 = markOf kv q.1 then (if q.1 = q.1 then PySem.W.DatumOrd.lt (m : Int) (j : Int) else _) else _) = true
      rw [if_pos rfl, if_pos rfl]
      show decide ((m : Int) < (j : Int)) = true
      exact decide_eq_true (by omega)
    rw [z2] at z
    cases z
theorem mineOf_cons (z : Str) (p : Row) (ln : List Row) : mineOf z (p :: ln) = if p.1 = z then p :: mineOf z ln else mineOf z ln := by
  unfold mineOf
  rw [List.filter_cons]
  by_cases h : p.1 = z <;> simp [h]
theorem mineOf_head : ∀ {ln : List Row} {j : Nat} {q : Row}, ln[j]? = some q → (∀ m q', m < j → ln[m]? = some q' → q'.1 ≠ q.1) → mineOf q.1 ln = q :: mineOf q.1 (ln.eraseIdx j)
  | [], j, q, h, _ => by simp at h
  | p :: ln, 0, q, h, _ => by
    simp at h
    subst h
    rw [mineOf_cons, if_pos rfl]
    rfl
  | p :: ln, j + 1, q, h, hf => by
    have h' : ln[j]? = some q := by simpa using h
    have hp : p.1 ≠ q.1 := hf 0 p (Nat.succ_pos _) (by simp)
    rw [mineOf_cons, if_neg hp, List.eraseIdx_cons_succ, mineOf_cons, if_neg hp]
    exact mineOf_head h' fun m q' hm hq' => hf (m + 1) q' (Nat.succ_lt_succ hm) (by simpa using hq')
theorem mineOf_other {z : Str} : ∀ {ln : List Row} {j : Nat} {q : Row}, ln[j]? = some q → z ≠ q.1 → mineOf z (ln.eraseIdx j) = mineOf z ln
  | [], j, q, h, _ => by simp at h
  | p :: ln, 0, q, h, n => by
    simp at h
    subst h
    rw [mineOf_cons, if_neg (Ne.symm n)]
    rfl
  | p :: ln, j + 1, q, h, n => by
    rw [List.eraseIdx_cons_succ, mineOf_cons, mineOf_cons, mineOf_other (by simpa using h) n]
/-- a steady level: no waiting customer's mark lies below it -/
def Lev (s : RS) : Prop := ∀ q ∈ s.ln, s.lv ≤ markOf s.kv q.1
/-- the head's mark is the least of those that wait -/
theorem head_least {kv : List (Key × V)} {ln : List Row} {j : Nat} {q p : Row} (h : headAt kv ln = some j) (hq : ln[j]? = some q) (hp : p ∈ ln) : markOf kv q.1 ≤ markOf kv p.1 := by
  obtain ⟨m, hm⟩ := List.mem_iff_getElem?.mp hp
  cases er : ranks kv ln with
  | nil =>
    unfold headAt at h
    rw [er] at h
    cases h
  | cons r0 rs =>
    obtain ⟨j', q2, hj', hq2, _, em⟩ := headAt_cons er
    rw [h] at hj'
    cases hj'
    rw [hq] at hq2
    cases hq2
    have mm : (⟨markOf kv p.1, p.1, (m : Int)⟩ : Rank) ∈ r0 :: rs := by
      rw [← er]
      exact List.mem_of_getElem? (ranks_get hm)
    have z := min_le r0 rs _ mm
    rw [em] at z
    rcases Int.lt_or_le (markOf kv p.1) (markOf kv q.1) with c | c
    · have z2 : PySem.W.DatumOrd.lt (⟨markOf kv p.1, p.1, (m : Int)⟩ : Rank) ⟨markOf kv q.1, q.1, (j : Int)⟩ = true := by
        show (if markOf kv p.1 = markOf kv q.1 then _ else PySem.W.DatumOrd.lt (markOf kv p.1) (markOf kv q.1)) = true
        rw [if_neg (by omega)]
        show decide (markOf kv p.1 < markOf kv q.1) = true
        exact decide_eq_true c
      rw [z2] at z
      cases z
    · exact c
/-! ### sorted names are told alike -/
theorem rise_pair : ∀ (l : List Str) (p : Str), PyProof.Rows.risingS p l = true → (p :: l).Pairwise fun a b => a.cps.toList ≤ b.cps.toList
  | [], p, _ => List.pairwise_singleton _ _
  | x :: r, p, h => by
    have h' : (!PySem.Spec.ltCps x.cps.toList p.cps.toList && PyProof.Rows.risingS x r) = true := h
    rw [Bool.and_eq_true] at h'
    have ih := rise_pair r x h'.2
    have hx : p.cps.toList ≤ x.cps.toList := by
      have q := h'.1
      rw [PyProof.Rows.ltCps_eq] at q
      simp only [Bool.not_eq_true', decide_eq_false_iff_not] at q
      exact q
    refine List.pairwise_cons.mpr ⟨fun y hy => ?_, ih⟩
    rcases List.mem_cons.mp hy with rfl | hy
    · exact hx
    · exact List.le_trans hx ((List.pairwise_cons.mp ih).1 y hy)
theorem sorted_pair {l : List Str} (h : PyProof.Rows.sortedS l = true) : l.Pairwise fun a b => a.cps.toList ≤ b.cps.toList := by
  cases l with
  | nil => exact List.Pairwise.nil
  | cons x r => exact rise_pair r x h
theorem sorted_one {xs ys : List Str} (p : xs.Perm ys) (hx : PyProof.Rows.sortedS xs = true) (hy : PyProof.Rows.sortedS ys = true) : xs = ys :=
  List.Perm.eq_of_pairwise (le := fun a b : Str => a.cps.toList ≤ b.cps.toList) (fun a b _ _ h h' => by
    have e := List.le_antisymm h h'
    exact PySem.Str.ext' (Array.toList_inj.mp e)) (sorted_pair hx) (sorted_pair hy) p
/-! ### the marks stay within a step of the level -/
structure Bd (ns : List Str) (s : RS) (mo : Str → Int) : Prop where
  lev : Lev s
  up : ∀ z ∈ ns, markOf s.kv z ≤ s.lv + mo z
  mo0 : ∀ z ∈ ns, 0 ≤ mo z
theorem max_ge (a b : Int) : a ≤ maxI a b ∧ b ≤ maxI a b ∧ (maxI a b = a ∨ maxI a b = b) := by
  unfold maxI
  split
  · exact ⟨by omega, by omega, .inr rfl⟩
  · exact ⟨by omega, by omega, .inl rfl⟩
theorem in_names {z : Str} {ln : List Row} (h : inV (.str z) (namesV ln) = true) : ∃ q ∈ ln, q.1 = z := by
  unfold inV namesV at h
  rw [List.any_map, List.any_eq_true] at h
  obtain ⟨q, hq, e⟩ := h
  exact ⟨q, hq, by simpa [eqV] using e⟩
theorem Bd.join {ns : List Str} {s : RS} {mo : Str → Int} (b : Bd ns s mo) (dic : Dic ns s.kv) {z : Str} {c : Int} {u : Option Int} (hz : z ∈ ns) : Bd ns (joinS s z c u) mo := by
  cases e : inV (.str z) (namesV s.ln) with
  | true =>
    obtain ⟨p, hp, ep⟩ := in_names e
    have kv : (joinS s z c u).kv = s.kv := by
      show (if inV (.str z) (namesV s.ln) = true then s.kv else _) = _
      rw [if_pos e]
    refine ⟨fun q hq => ?_, fun y hy => by rw [kv]; exact b.up y hy, b.mo0⟩
    rw [kv]
    rcases List.mem_append.mp hq with h | h
    · exact b.lev q h
    · rw [List.mem_singleton] at h
      rw [h]
      show s.lv ≤ markOf s.kv z
      rw [← ep]
      exact b.lev p hp
  | false =>
    obtain ⟨d1, d2, d3⟩ := dic.put hz (maxI (markOf s.kv z) s.lv)
    obtain ⟨m1, m2, m3⟩ := max_ge (markOf s.kv z) s.lv
    have kv : (joinS s z c u).kv = putK s.kv (kS z) (.int (maxI (markOf s.kv z) s.lv)) := by
      show (if inV (.str z) (namesV s.ln) = true then s.kv else _) = _
      rw [if_neg (by rw [e]; decide)]
    have uz := b.up z hz
    have oz := b.mo0 z hz
    refine ⟨fun q hq => ?_, fun y hy => ?_, b.mo0⟩
    · rw [kv]
      show s.lv ≤ _
      by_cases f : q.1 = z
      · rw [f, d2]
        exact m2
      · rw [d3 _ f]
        rcases List.mem_append.mp hq with h | h
        · exact b.lev q h
        · rw [List.mem_singleton] at h
          exact absurd (by rw [h]) f
    · rw [kv]
      show _ ≤ s.lv + mo y
      by_cases f : y = z
      · rw [f, d2]
        rcases m3 with m3 | m3 <;> omega
      · rw [d3 _ f]
        exact b.up y hy
theorem Bd.serve {ns : List Str} {s : RS} {mo : Str → Int} (b : Bd ns s mo) (dic : Dic ns s.kv) {sc w : Int} {j : Nat} {q : Row} (hj : headAt s.kv s.ln = some j) (hq : s.ln[j]? = some q) (hqn : q.1 ∈ ns) (i0 : 0 ≤ (q.2.1 * sc).fdiv w) :
    Bd ns (serveS s sc w j q) (fun z => if z = q.1 then maxI (mo q.1) ((q.2.1 * sc).fdiv w) else mo z) := by
  obtain ⟨d1, d2, d3⟩ := dic.put hqn (markOf s.kv q.1 + (q.2.1 * sc).fdiv w)
  obtain ⟨m1, m2, m3⟩ := max_ge (mo q.1) ((q.2.1 * sc).fdiv w)
  have lq := b.lev q (List.mem_of_getElem? hq)
  have oq := b.mo0 q.1 hqn
  refine ⟨fun p hp => ?_, fun z hz => ?_, fun z hz => ?_⟩
  · show markOf s.kv q.1 ≤ markOf (putK s.kv (kS q.1) _) p.1
    by_cases f : p.1 = q.1
    · rw [f, d2]
      omega
    · rw [d3 _ f]
      exact head_least hj hq (List.mem_of_mem_eraseIdx hp)
  · show markOf (putK s.kv (kS q.1) _) z ≤ markOf s.kv q.1 + (if z = q.1 then _ else mo z)
    by_cases f : z = q.1
    · rw [f, d2, if_pos rfl]
      omega
    · rw [d3 _ f, if_neg f]
      have := b.up z hz
      omega
  · show 0 ≤ (if z = q.1 then _ else mo z)
    split
    · omega
    · exact b.mo0 z hz
/-- of a customer that waits no other one is further ahead than its largest step -/
theorem Bd.diff {ns : List Str} {s : RS} {mo : Str → Int} (b : Bd ns s mo) {a c : Str} (ha : a ∈ ns) {q : Row} (hq : q ∈ s.ln) (hc : q.1 = c) : markOf s.kv a - markOf s.kv c ≤ mo a := by
  have h1 := b.up a ha
  have h2 := b.lev q hq
  rw [hc] at h2
  omega
/-! ### the law's things -/
/-- what the deeds on the room and on the lines may change -/
def Rm (g x D L : Addr) (la : Str → Addr) (ns : List Str) : Addr → Prop := fun b => b = g ∨ b = x ∨ b = D ∨ b = L ∨ ∃ y ∈ ns, b = la y
structure LinesR (F : Addr → Prop) (H : Hp) (Ld : Addr) (la : Str → Addr) (ns : List Str) (rows : Str → List Row) : Prop where
  ex : ∃ lv : List (Key × V), H Ld = some (.dK lv) ∧ lv.length ≤ 1000 ∧ (∀ z ∈ ns, valV lv (kS z) = some (.ref (la z))) ∧ ∃ ks : List Str, lv.map (·.1) = ks.map kS ∧ (∀ z ∈ ks, z ∈ ns) ∧ (∀ z ∈ ns, z ∈ ks) ∧ ks.Nodup ∧ ks.length ≤ 60
  own : ∀ z ∈ ns, Own2 F H (la z) (rows z)
  ne : ∀ z ∈ ns, ∀ y ∈ ns, z ≠ y → la z ≠ la y
  nd : ¬ F Ld
structure LawA (r : Ar) (F : Addr → Prop) (H : Hp) (g l N Wd Ld : Addr) (wv : List (Key × V)) (sc : Int) (ns : List Str) (x D L : Addr) (s : RS) (la : Str → Addr) (rows : Str → List Row) : Prop where
  sit : Sit F H g l N Wd wv sc ns
  room : RoomAt r F H x D L wv sc s
  lines : LinesR F H Ld la ns rows
  ok : RSok ns s
  ap : x ≠ g ∧ D ≠ g ∧ L ≠ g
  lan : ∀ y ∈ ns, la y ≠ g ∧ la y ≠ D ∧ la y ≠ L ∧ la y ≠ x
def mine (s : RS) : Str → List Row := fun z => mineOf z s.ln
section
variable {r : Ar} {F G : Addr → Prop} {H H' : Hp} {g l N Wd Ld x D L : Addr} {wv : List (Key × V)} {sc : Int} {ns : List Str} {s : RS} {la : Str → Addr} {rows : Str → List Row}
theorem LawA.kp (A : LawA r F H g l N Wd Ld wv sc ns x D L s la rows) (k : KpF G H H') (sub : ∀ b, G b → F b) (hG : ∀ b, G b → ∃ o, H' b = some o) (n : ∀ b, G b → ¬ Rm g x D L la ns b) : LawA r F H' g l N Wd Ld wv sc ns x D L s la rows := by
  have ng : ¬ G g := fun z => n _ z (.inl rfl)
  obtain ⟨lv, h1, h2, h3, h4⟩ := A.lines.ex
  exact ⟨A.sit.kp k sub hG (bag_kp A.sit.bag k ng fun z => A.sit.nl (sub _ z)), A.room.kp k sub (fun z => n _ z (.inr (.inl rfl))) (fun z => n _ z (.inr (.inr (.inl rfl)))) (fun z => n _ z (.inr (.inr (.inr (.inl rfl))))), ⟨⟨lv, k _ _ (fun z => A.lines.nd (sub _ z)) h1, h2, h3, h4⟩, fun z hz => (A.lines.own z hz).kp k sub fun w => n _ w (.inr (.inr (.inr (.inr ⟨z, hz, rfl⟩)))), A.lines.ne, A.lines.nd⟩, A.ok, A.ap, A.lan⟩
theorem LawA.draw (A : LawA r F H g l N Wd Ld wv sc ns x D L s la rows) (o : Ok g l H H') : LawA r F H' g l N Wd Ld wv sc ns x D L s la rows := by
  obtain ⟨lv, h1, h2, h3, h4⟩ := A.lines.ex
  obtain ⟨a1, a2, a3⟩ := A.ap
  have k : KpF (fun b => b = g) H H' := KpF.kp rfl o.kp
  have sub : ∀ b, b = g → F b := fun b e => by rw [e]; exact A.sit.fg
  exact ⟨A.sit.ok o, A.room.kp k sub a1 a2 a3, ⟨⟨lv, k _ _ (fun z => A.lines.nd (sub _ z)) h1, h2, h3, h4⟩, fun z hz => (A.lines.own z hz).kp k sub (A.lan z hz).1, A.lines.ne, A.lines.nd⟩, A.ok, A.ap, A.lan⟩
theorem LawA.same (A : LawA r F H g l N Wd Ld wv sc ns x D L s la rows) (k : Same H H') : LawA r F H' g l N Wd Ld wv sc ns x D L s la rows :=
  A.kp (G := fun _ => False) (KpF.same k) (fun _ z => z.elim) (fun _ z => z.elim) fun _ z => z.elim
theorem LawA.at_ (A : LawA r F H g l N Wd Ld wv sc ns x D L s la (mine s)) : LinesAt F H Ld la ns s.ln := by
  obtain ⟨lv, h1, h2, h3, h4⟩ := A.lines.ex
  exact ⟨⟨lv, h1, h2, h3⟩, A.lines.own, A.lines.ne, A.lines.nd⟩
theorem LawA.alive (A : LawA r F H g l N Wd Ld wv sc ns x D L s la rows) {b : Addr} (h : Rm g x D L la ns b) : F b ∧ ∃ o, H b = some o := by
  rcases h with e | e | e | e | ⟨y, hy, e⟩
  · rw [e]; exact ⟨A.sit.fg, A.sit.ex _ A.sit.fg⟩
  · rw [e]; exact ⟨A.room.fx, A.sit.ex _ A.room.fx⟩
  · rw [e]; exact ⟨A.room.fD, A.sit.ex _ A.room.fD⟩
  · rw [e]; exact ⟨A.room.fL, A.sit.ex _ A.room.fL⟩
  · rw [e]; exact ⟨(A.lines.own y hy).f, A.sit.ex _ (A.lines.own y hy).f⟩
theorem LawA.step (A : LawA r F H g l N Wd Ld wv sc ns x D L s la (mine s)) {s' : RS} (k : KpF G H H') (sub : ∀ b, G b → Rm g x D L la ns b) (B : Bag l H' g) (R : RoomAt r F H' x D L wv sc s') (LA : LinesAt F H' Ld la ns s'.ln) (ok : RSok ns s') :
    LawA r F H' g l N Wd Ld wv sc ns x D L s' la (mine s') := by
  obtain ⟨lv, h1, h2, h3, h4⟩ := A.lines.ex
  have subF : ∀ b, G b → F b := fun b z => (A.alive (sub b z)).1
  have hG : ∀ b, G b → ∃ o, H' b = some o := fun b z => by
    obtain ⟨⟨_, _, _, _, q1, _, _, _, q2, q3, _⟩, _⟩ := id R
    rcases sub b z with e | e | e | e | ⟨y, hy, e⟩
    · obtain ⟨⟨xs, q⟩, _⟩ := B.there
      rw [e]; exact ⟨_, q⟩
    · rw [e]; exact ⟨_, q1⟩
    · rw [e]; exact ⟨_, q2⟩
    · rw [e]; exact ⟨_, q3⟩
    · obtain ⟨⟨ts, q, _⟩, _⟩ := LA.own y hy
      rw [e]; exact ⟨_, q⟩
  exact ⟨A.sit.kp k subF hG B, R, ⟨⟨lv, k _ _ (fun z => A.lines.nd (subF _ z)) h1, h2, h3, h4⟩, LA.own, LA.ne, LA.nd⟩, ok, A.ap, A.lan⟩
end
/-! ### what is the law's alone -/
structure Spn where
  a : Str
  b : Str
  lo : Int
  hi : Int
def spanV (p : Spn) : List V := [.str p.a, .str p.b, .int p.lo, .int p.hi]
structure Pm (F : Addr → Prop) (H : Hp) (R : Addr → Prop) (Md Gd : Addr) (ns : List Str) (mo gr : Str → Int) : Prop where
  md : ∃ mv : List (Key × V), H Md = some (.dK mv) ∧ mv.length ≤ 1000 ∧ ∀ z ∈ ns, valV mv (kS z) = some (.int (mo z))
  gd : ∃ mv : List (Key × V), H Gd = some (.dK mv) ∧ mv.length ≤ 1000 ∧ ∀ z ∈ ns, valV mv (kS z) = some (.int (gr z))
  fM : F Md ∧ ¬ R Md
  fG : F Gd ∧ ¬ R Gd
  MG : Md ≠ Gd
structure Ps (F : Addr → Prop) (H : Hp) (R : Addr → Prop) (SP : Addr) (sps : List Addr) (sd : Addr → Spn) : Prop where
  sp : H SP = some (.lst (sps.map V.ref))
  each : ∀ t ∈ sps, H t = some (.lst (spanV (sd t))) ∧ F t ∧ ¬ R t ∧ t ≠ SP
  fS : F SP ∧ ¬ R SP
section
variable {F F' G R R' : Addr → Prop} {H H' : Hp} {Md Gd SP : Addr} {sps : List Addr} {sd : Addr → Spn} {ns : List Str} {mo gr : Str → Int}
theorem Pm.kp (p : Pm F H R Md Gd ns mo gr) (k : KpF G H H') (n : ∀ b, G b → R b ∨ ∃ xs, H b = some (.lst xs)) : Pm F H' R Md Gd ns mo gr := by
  obtain ⟨⟨mv, a1, a2, a3⟩, ⟨gv, b1, b2, b3⟩, e, f, i⟩ := p
  exact ⟨⟨mv, k _ _ (fun z => (n _ z).elim e.2 fun ⟨xs, q⟩ => by rw [a1] at q; cases q) a1, a2, a3⟩, ⟨gv, k _ _ (fun z => (n _ z).elim f.2 fun ⟨xs, q⟩ => by rw [b1] at q; cases q) b1, b2, b3⟩, e, f, i⟩
theorem Pm.same (p : Pm F H R Md Gd ns mo gr) (k : Same H H') : Pm F H' R Md Gd ns mo gr := p.kp (G := fun _ => False) (KpF.same k) fun _ z => z.elim
theorem Pm.re (p : Pm F H R Md Gd ns mo gr) (hF : ∀ b, F b → F' b) (hR : ∀ b, R' b → R b ∨ H b = none) : Pm F' H R' Md Gd ns mo gr := by
  obtain ⟨⟨mv, a1, a2, a3⟩, ⟨gv, b1, b2, b3⟩, e, f, i⟩ := p
  have n : ∀ b o, H b = some o → F b ∧ ¬ R b → F' b ∧ ¬ R' b := fun b o q w => ⟨hF _ w.1, fun z => (hR _ z).elim w.2 fun u => by rw [q] at u; cases u⟩
  exact ⟨⟨mv, a1, a2, a3⟩, ⟨gv, b1, b2, b3⟩, n _ _ a1 e, n _ _ b1 f, i⟩
theorem Ps.kp (p : Ps F H R SP sps sd) (k : KpF G H H') (n : ∀ b, G b → R b ∨ ∃ xs, H b = some (.dK xs)) : Ps F H' R SP sps sd := by
  obtain ⟨c, d, h⟩ := p
  exact ⟨k _ _ (fun z => (n _ z).elim h.2 fun ⟨xs, q⟩ => by rw [c] at q; cases q) c, fun t ht => ⟨k _ _ (fun z => (n _ z).elim (d t ht).2.2.1 fun ⟨xs, q⟩ => by rw [(d t ht).1] at q; cases q) (d t ht).1, (d t ht).2⟩, h⟩
theorem Ps.same (p : Ps F H R SP sps sd) (k : Same H H') : Ps F H' R SP sps sd := p.kp (G := fun _ => False) (KpF.same k) fun _ z => z.elim
theorem Ps.re (p : Ps F H R SP sps sd) (hF : ∀ b, F b → F' b) (hR : ∀ b, R' b → R b ∨ H b = none) : Ps F' H R' SP sps sd := by
  obtain ⟨c, d, h⟩ := p
  have n : ∀ b o, H b = some o → F b ∧ ¬ R b → F' b ∧ ¬ R' b := fun b o q w => ⟨hF _ w.1, fun z => (hR _ z).elim w.2 fun u => by rw [q] at u; cases u⟩
  exact ⟨c, fun t ht => by
    obtain ⟨q1, q2, q3, q4⟩ := d t ht
    obtain ⟨w1, w2⟩ := n _ _ q1 ⟨q2, q3⟩
    exact ⟨q1, w1, w2, q4⟩, n _ _ c h⟩
theorem put_vals {mv : List (Key × V)} {f : Str → Int} (h2 : mv.length ≤ 1000) (h3 : ∀ z ∈ ns, valV mv (kS z) = some (.int (f z))) {z : Str} (hz : z ∈ ns) (i : Int) :
    (putK mv (kS z) (.int i)).length ≤ 1000 ∧ ∀ y ∈ ns, valV (putK mv (kS z) (.int i)) (kS y) = some (.int (if y = z then i else f y)) := by
  refine ⟨by rw [len_putK (h3 z hz)]; exact h2, fun y hy => ?_⟩
  rw [valV_put]
  by_cases e : y = z
  · rw [e, if_pos rfl, if_pos rfl]
  · rw [if_neg (show ¬ kS y = kS z from fun q => e (Sum.inr.inj q)), if_neg e]
    exact h3 y hy
theorem Pm.setM (p : Pm F H R Md Gd ns mo gr) {mv : List (Key × V)} (hm : H Md = some (.dK mv)) {z : Str} (hz : z ∈ ns) (i : Int) :
    Pm F (upd H Md (.dK (putK mv (kS z) (.int i)))) R Md Gd ns (fun y => if y = z then i else mo y) gr := by
  obtain ⟨⟨mv', a1, a2, a3⟩, ⟨gv, b1, b2, b3⟩, e, f, j⟩ := p
  rw [hm] at a1
  cases a1
  obtain ⟨l1, l2⟩ := put_vals a2 a3 hz i
  exact ⟨⟨_, upd_same, l1, l2⟩, ⟨gv, by rw [upd_ne (Ne.symm j)]; exact b1, b2, b3⟩, e, f, j⟩
theorem Pm.setG (p : Pm F H R Md Gd ns mo gr) {mv : List (Key × V)} (hm : H Gd = some (.dK mv)) {z : Str} (hz : z ∈ ns) (i : Int) :
    Pm F (upd H Gd (.dK (putK mv (kS z) (.int i)))) R Md Gd ns mo (fun y => if y = z then i else gr y) := by
  obtain ⟨⟨mv', a1, a2, a3⟩, ⟨gv, b1, b2, b3⟩, e, f, j⟩ := p
  rw [hm] at b1
  cases b1
  obtain ⟨l1, l2⟩ := put_vals b2 b3 hz i
  exact ⟨⟨mv', by rw [upd_ne j]; exact a1, a2, a3⟩, ⟨_, upd_same, l1, l2⟩, e, f, j⟩
theorem Ps.setT (p : Ps F H R SP sps sd) {t : Addr} (ht : t ∈ sps) (q : Spn) :
    Ps F (upd H t (.lst (spanV q))) R SP sps (fun u => if u = t then q else sd u) := by
  obtain ⟨c, d, h⟩ := p
  refine ⟨by rw [upd_ne (Ne.symm (d t ht).2.2.2)]; exact c, fun u hu => ⟨?_, (d u hu).2⟩, h⟩
  by_cases w : u = t
  · rw [w, if_pos rfl, upd_same]
  · rw [if_neg w, upd_ne w]
    exact (d u hu).1
end
theorem keys_put {lv : List (Key × V)} {ks : List Str} (h : lv.map (·.1) = ks.map kS) (nd : ks.Nodup) (z : Str) (v : V) :
    ∃ ks' : List Str, (putK lv (kS z) v).map (·.1) = ks'.map kS ∧ ks'.Nodup ∧ ks'.length ≤ ks.length + 1 ∧ ∀ y, y ∈ ks' ↔ y ∈ ks ∨ y = z := by
  have ea : lv.any (fun kv => decide (kv.1 = kS z)) = decide (z ∈ ks) := by
    have e1 : lv.any (fun kv => decide (kv.1 = kS z)) = (lv.map (·.1)).any (fun k => decide (k = kS z)) := by rw [List.any_map]; rfl
    rw [e1, h, List.any_map, Bool.eq_iff_iff, List.any_eq_true, decide_eq_true_eq]
    refine ⟨fun ⟨y, hy, e⟩ => ?_, fun hz => ⟨z, hz, decide_eq_true rfl⟩⟩
    have e := of_decide_eq_true e
    rw [← Sum.inr.inj e]
    exact hy
  unfold putK
  rw [ea]
  by_cases hz : z ∈ ks
  · rw [decide_eq_true hz, if_pos rfl]
    refine ⟨ks, ?_, nd, Nat.le_succ _, fun y => ⟨.inl, fun w => w.elim id fun e => by rw [e]; exact hz⟩⟩
    rw [← h, List.map_map]
    apply List.map_congr_left
    intro q _
    show (if q.1 = kS z then (q.1, v) else q).1 = q.1
    split <;> rfl
  · rw [decide_eq_false hz, if_neg (by decide)]
    refine ⟨ks ++ [z], by rw [List.map_append, List.map_append, h]; rfl, ?_, by rw [List.length_append]; exact Nat.le_refl _, fun y => by rw [List.mem_append, List.mem_singleton]⟩
    rw [List.nodup_append]
    refine ⟨nd, by simp, fun a ha b hb e => ?_⟩
    rw [List.mem_singleton] at hb
    rw [e, hb] at ha
    exact hz ha
/-! ### the law's balance -/
structure Bal (ns ste : List Str) (s : RS) (mo gr m0 : Str → Int) (sps : List Addr) (sd : Addr → Spn) : Prop where
  bd : Bd ns s mo
  gr : ∀ z ∈ ste, gr z = markOf s.kv z - m0 z
  wt : ∀ z ∈ ste, ∃ q ∈ s.ln, q.1 = z
  un : ∀ q ∈ s.ln, q.1 ∈ ste → q.2.2 = none
  sp : ∀ t ∈ sps, (sd t).a ∈ ste ∧ (sd t).b ∈ ste ∧ -(mo (sd t).b) ≤ (sd t).lo + (m0 (sd t).a - m0 (sd t).b) ∧ (sd t).hi + (m0 (sd t).a - m0 (sd t).b) ≤ mo (sd t).a
theorem join_marks {ns : List Str} {s : RS} (dic : Dic ns s.kv) {z : Str} {c : Int} {u : Option Int} (hz : z ∈ ns) (h : s.lv ≤ markOf s.kv z) (y : Str) : markOf (joinS s z c u).kv y = markOf s.kv y := by
  show markOf (if inV (.str z) (namesV s.ln) = true then s.kv else putK s.kv (kS z) (.int (maxI (markOf s.kv z) s.lv))) y = _
  split
  · rfl
  · obtain ⟨_, d2, d3⟩ := dic.put hz (maxI (markOf s.kv z) s.lv)
    by_cases e : y = z
    · rw [e, d2]
      unfold maxI
      rw [if_neg (by omega)]
    · exact d3 y e
theorem join_other {ns : List Str} {s : RS} (dic : Dic ns s.kv) {z : Str} {c : Int} {u : Option Int} (hz : z ∈ ns) {y : Str} (e : y ≠ z) : markOf (joinS s z c u).kv y = markOf s.kv y := by
  show markOf (if inV (.str z) (namesV s.ln) = true then s.kv else putK s.kv (kS z) (.int (maxI (markOf s.kv z) s.lv))) y = _
  split
  · rfl
  · exact (dic.put hz _).2.2 y e
section
variable {ns ste : List Str} {s : RS} {mo gr m0 : Str → Int} {sps : List Addr} {sd : Addr → Spn}
theorem Bal.join (b : Bal ns ste s mo gr m0 sps sd) (dic : Dic ns s.kv) {z : Str} {c : Int} {u : Option Int} (hz : z ∈ ns) (n : z ∉ ste) : Bal ns ste (joinS s z c u) mo gr m0 sps sd := by
  refine ⟨b.bd.join dic hz, fun y hy => ?_, fun y hy => ?_, fun q hq w => ?_, b.sp⟩
  · rw [join_other dic hz (fun e => n (by rw [← e]; exact hy))]
    exact b.gr y hy
  · obtain ⟨q, hq, e⟩ := b.wt y hy
    exact ⟨q, List.mem_append_left _ hq, e⟩
  · rcases List.mem_append.mp hq with h | h
    · exact b.un q h w
    · rw [List.mem_singleton] at h
      rw [h] at w
      exact absurd w n
def mo' (mo : Str → Int) (z : Str) (inc : Int) : Str → Int := fun y => if y = z then maxI (mo z) inc else mo y
theorem mo_le (z y : Str) (inc : Int) : mo y ≤ mo' mo z inc y := by
  unfold mo'
  split
  · rename_i e
    rw [e]
    exact (max_ge _ _).1
  · exact Int.le_refl _
theorem sp_up (b : Bal ns ste s mo gr m0 sps sd) (z : Str) (inc : Int) : ∀ t ∈ sps, (sd t).a ∈ ste ∧ (sd t).b ∈ ste ∧ -(mo' mo z inc (sd t).b) ≤ (sd t).lo + (m0 (sd t).a - m0 (sd t).b) ∧ (sd t).hi + (m0 (sd t).a - m0 (sd t).b) ≤ mo' mo z inc (sd t).a := fun t ht => by
  obtain ⟨h1, h2, h3, h4⟩ := b.sp t ht
  have e1 := mo_le (mo := mo) z (sd t).a inc
  have e2 := mo_le (mo := mo) z (sd t).b inc
  exact ⟨h1, h2, by omega, by omega⟩
theorem Bal.serve (b : Bal ns ste s mo gr m0 sps sd) (dic : Dic ns s.kv) {sc w : Int} {j : Nat} {q : Row} (hj : headAt s.kv s.ln = some j) (hq : s.ln[j]? = some q) (hqn : q.1 ∈ ns) (i0 : 0 ≤ (q.2.1 * sc).fdiv w) (n : q.1 ∉ ste) :
    Bal ns ste (serveS s sc w j q) (mo' mo q.1 ((q.2.1 * sc).fdiv w)) gr m0 sps sd := by
  obtain ⟨d1, d2, d3⟩ := dic.put hqn (markOf s.kv q.1 + (q.2.1 * sc).fdiv w)
  refine ⟨b.bd.serve dic hj hq hqn i0, fun y hy => ?_, fun y hy => ?_, fun p hp w => b.un p (List.mem_of_mem_eraseIdx hp) w, sp_up b _ _⟩
  · show _ = markOf (putK s.kv (kS q.1) _) y - m0 y
    rw [d3 y (fun e => n (by rw [← e]; exact hy))]
    exact b.gr y hy
  · obtain ⟨p, hp, e⟩ := b.wt y hy
    refine ⟨p, ?_, e⟩
    have ne : p ≠ q := fun z => n (by rw [← z, e]; exact hy)
    obtain ⟨m, hm⟩ := List.mem_iff_getElem?.mp hp
    have nm : m ≠ j := fun z => ne (by rw [z, hq] at hm; exact (Option.some.inj hm).symm)
    show p ∈ s.ln.eraseIdx j
    rw [List.mem_eraseIdx_iff_getElem?]
    exact ⟨m, nm, hm⟩
theorem Bal.served (b : Bal ns ste s mo gr m0 sps sd) (dic : Dic ns s.kv) {sc w : Int} {j : Nat} {q : Row} {c : Int} (hj : headAt s.kv s.ln = some j) (hq : s.ln[j]? = some q) (hqn : q.1 ∈ ns) (i0 : 0 ≤ (q.2.1 * sc).fdiv w) (dic2 : Dic ns (serveS s sc w j q).kv) :
    Bal ns ste (joinS (serveS s sc w j q) q.1 c none) (mo' mo q.1 ((q.2.1 * sc).fdiv w)) (fun y => if y = q.1 then gr q.1 + (q.2.1 * sc).fdiv w else gr y) m0 sps sd := by
  obtain ⟨d1, d2, d3⟩ := dic.put hqn (markOf s.kv q.1 + (q.2.1 * sc).fdiv w)
  have hm : ∀ y, markOf (joinS (serveS s sc w j q) q.1 c none).kv y = markOf (serveS s sc w j q).kv y := join_marks dic2 hqn (by show markOf s.kv q.1 ≤ markOf (putK s.kv (kS q.1) _) q.1; rw [d2]; omega)
  refine ⟨(b.bd.serve dic hj hq hqn i0).join dic2 hqn, fun y hy => ?_, fun y hy => ?_, fun p hp w => ?_, sp_up b _ _⟩
  · rw [hm]
    show (if y = q.1 then _ else _) = markOf (putK s.kv (kS q.1) _) y - m0 y
    by_cases e : y = q.1
    · rw [if_pos e, e, d2, b.gr q.1 (by rw [← e]; exact hy)]
      omega
    · rw [if_neg e, d3 y e]
      exact b.gr y hy
  · by_cases e : y = q.1
    · exact ⟨_, List.mem_append_right _ (List.mem_singleton.mpr rfl), e.symm⟩
    · obtain ⟨p, hp, e2⟩ := b.wt y hy
      refine ⟨p, List.mem_append_left _ ?_, e2⟩
      have ne : p ≠ q := fun z => e (by rw [← z, e2])
      obtain ⟨m, hm⟩ := List.mem_iff_getElem?.mp hp
      have nm : m ≠ j := fun z => ne (by rw [z, hq] at hm; exact (Option.some.inj hm).symm)
      show p ∈ s.ln.eraseIdx j
      rw [List.mem_eraseIdx_iff_getElem?]
      exact ⟨m, nm, hm⟩
  · rcases List.mem_append.mp hp with h | h
    · exact b.un p (List.mem_of_mem_eraseIdx h) w
    · rw [List.mem_singleton] at h
      rw [h]
def minI (a b : Int) : Int := if b < a then b else a
/-- one span looked at -/
theorem Bal.span (b : Bal ns ste s mo gr m0 sps sd) (sn : ∀ z ∈ ste, z ∈ ns) {t : Addr} (ht : t ∈ sps) {lo hi : Int} (el : lo = minI (sd t).lo (gr (sd t).a - gr (sd t).b)) (eh : hi = maxI (sd t).hi (gr (sd t).a - gr (sd t).b)) :
    ¬ (hi - lo > mo (sd t).a + mo (sd t).b) ∧ Bal ns ste s mo gr m0 sps (fun u => if u = t then ⟨(sd t).a, (sd t).b, lo, hi⟩ else sd u) := by
  obtain ⟨h1, h2, h3, h4⟩ := b.sp t ht
  obtain ⟨qa, hqa, ea⟩ := b.wt _ h1
  obtain ⟨qb, hqb, eb⟩ := b.wt _ h2
  have f1 := b.bd.diff (sn _ h1) hqb eb
  have f2 := b.bd.diff (sn _ h2) hqa ea
  have g1 := b.gr _ h1
  have g2 := b.gr _ h2
  have l1 : -(mo (sd t).b) ≤ lo + (m0 (sd t).a - m0 (sd t).b) := by
    rw [el]
    unfold minI
    split <;> omega
  have l2 : hi + (m0 (sd t).a - m0 (sd t).b) ≤ mo (sd t).a := by
    rw [eh]
    unfold maxI
    split <;> omega
  refine ⟨by omega, b.bd, b.gr, b.wt, b.un, fun u hu => ?_⟩
  by_cases e : u = t
  · rw [if_pos e]
    exact ⟨h1, h2, l1, l2⟩
  · rw [if_neg e]
    exact b.sp u hu
end
/-! ### the law's first loop -/
structure Ini (H7 H : Hp) (g l N W Ld Md Gd : Addr) (ns done : List Str) (i : Nat) (wv lv mv gv : List (Key × V)) (ks : List Str) (la : Str → Addr) : Prop where
  bag : Bag l H g
  kp : KpF (fun b => b = g ∨ b = W ∨ b = Ld ∨ b = Md ∨ b = Gd) H7 H
  hN : H N = some (.lst (ns.map V.str))
  hW : H W = some (.dK wv)
  hL : H Ld = some (.dK lv)
  hM : H Md = some (.dK mv)
  hG : H Gd = some (.dK gv)
  wk : WK wv
  len : wv.length ≤ i ∧ lv.length ≤ i ∧ mv.length ≤ i ∧ gv.length ≤ i
  ke : lv.map (·.1) = ks.map kS
  kn : ks.Nodup
  kl : ks.length ≤ i
  km : ∀ z, z ∈ ks ↔ z ∈ done
  each : ∀ z ∈ done, (∃ w : Int, valV wv (kS z) = some (.int w) ∧ 1 ≤ w ∧ w ≤ 12) ∧ valV lv (kS z) = some (.ref (la z)) ∧ H7 (la z) = none ∧ H (la z) = some (.lst []) ∧ valV mv (kS z) = some (.int 0) ∧ valV gv (kS z) = some (.int 0)
  ne : ∀ z ∈ done, ∀ y ∈ done, z ≠ y → la z ≠ la y
section
variable {H7 H H' : Hp} {g l N W Ld Md Gd : Addr} {ns done : List Str} {i : Nat} {wv lv mv gv : List (Key × V)} {ks : List Str} {la : Str → Addr}
theorem Ini.draw (I : Ini H7 H g l N W Ld Md Gd ns done i wv lv mv gv ks la) (r : Ok g l H H') (Ng : N ≠ g) (g7 : ∃ o, H7 g = some o) : Ini H7 H' g l N W Ld Md Gd ns done i wv lv mv gv ks la := by
  obtain ⟨⟨xs, q⟩, _⟩ := I.bag.there
  have nd : ∀ {b kv}, H b = some (.dK kv) → b ≠ g := fun e z => by rw [z, q] at e; cases e
  obtain ⟨o7, q7⟩ := g7
  refine ⟨r.bag, fun b o n e => r.kp _ _ (fun z => n (.inl z)) (I.kp b o n e), r.kp _ _ Ng I.hN, r.kp _ _ (nd I.hW) I.hW, r.kp _ _ (nd I.hL) I.hL, r.kp _ _ (nd I.hM) I.hM, r.kp _ _ (nd I.hG) I.hG, I.wk, I.len, I.ke, I.kn, I.kl, I.km, fun z hz => ?_, I.ne⟩
  obtain ⟨a, b, c, d, e⟩ := I.each z hz
  exact ⟨a, b, c, r.kp _ _ (fun w => by rw [w, q7] at c; cases c) d, e⟩
theorem Ini.put (I : Ini H7 H g l N W Ld Md Gd ns done i wv lv mv gv ks la) (g7 : ∃ o, H7 g = some o) (l7 : ∃ o, H7 l = some o) (d7 : ∀ b, b = W ∨ b = Ld ∨ b = Md ∨ b = Gd → ∃ kv, H7 b = some (.dK kv)) (nWL : W ≠ Ld) (nWM : W ≠ Md) (nWG : W ≠ Gd) (nLM : Ld ≠ Md) (nLG : Ld ≠ Gd) (nMG : Md ≠ Gd) {z : Str} {c : Int} (c0 : 1 ≤ c) (c1 : c ≤ 12) {q : Addr} (hq : upd H W (.dK (putK wv (kS z) (.int c))) q = none) :
    ∃ ks', Ini H7 (upd (upd (upd (upd (upd H W (.dK (putK wv (kS z) (.int c)))) q (.lst [])) Ld (.dK (putK lv (kS z) (.ref q)))) Md (.dK (putK mv (kS z) (.int 0)))) Gd (.dK (putK gv (kS z) (.int 0)))) g l N W Ld Md Gd ns (done ++ [z]) (i + 1) (putK wv (kS z) (.int c)) (putK lv (kS z) (.ref q)) (putK mv (kS z) (.int 0)) (putK gv (kS z) (.int 0)) ks' (fun y => if y = z then q else la y) := by
  obtain ⟨ks', k1, k2, k3, k4⟩ := keys_put I.ke I.kn z (.ref q)
  obtain ⟨wk', wl'⟩ := I.wk.put (k := kS z) c0 c1
  obtain ⟨e1, e2, e3, e4⟩ := I.len
  have nqW : q ≠ W := fun e => by rw [e, upd_same] at hq; cases hq
  have hq0 : H q = none := by rw [upd_ne nqW] at hq; exact hq
  obtain ⟨⟨xs, qg⟩, ⟨ys, ql⟩⟩ := I.bag.there
  have ndg : ∀ {b kv}, H b = some (.dK kv) → b ≠ g := fun e z => by rw [z, qg] at e; cases e
  have ndl : ∀ {b kv}, H b = some (.dK kv) → b ≠ l := fun e z => by rw [z, ql] at e; cases e
  have ndN : ∀ {b kv}, H b = some (.dK kv) → N ≠ b := fun e z => by rw [← z, I.hN] at e; cases e
  have nq : ∀ {b o}, H b = some o → b ≠ q := fun e z => by rw [z, hq0] at e; cases e
  have al : ∀ {b o}, H7 b = some o → ∃ o', H b = some o' := fun {b o} e => by
    by_cases h : b = g ∨ b = W ∨ b = Ld ∨ b = Md ∨ b = Gd
    · rcases h with h | h | h | h | h
      · rw [h]; exact ⟨_, qg⟩
      · rw [h]; exact ⟨_, I.hW⟩
      · rw [h]; exact ⟨_, I.hL⟩
      · rw [h]; exact ⟨_, I.hM⟩
      · rw [h]; exact ⟨_, I.hG⟩
    · exact ⟨_, I.kp _ _ h e⟩
  have hq7 : H7 q = none := by
    cases e : H7 q with
    | none => rfl
    | some o =>
      obtain ⟨o', e'⟩ := al e
      rw [hq0] at e'
      cases e'
  refine ⟨ks', ((((I.bag.mut (ndg I.hW) (ndl I.hW)).mut (fun e => nq qg e.symm) (fun e => nq ql e.symm)).mut (ndg I.hL) (ndl I.hL)).mut (ndg I.hM) (ndl I.hM)).mut (ndg I.hG) (ndl I.hG), fun b o n e => ?_, ?_, ?_, ?_, ?_, upd_same, wk', ⟨?_, ?_, ?_, ?_⟩, k1, k2, ?_, fun y => ?_, fun y hy => ?_, fun y hy u hu yu => ?_⟩
  · have nb := I.kp b o n e
    rw [upd_ne (fun w => n (.inr (.inr (.inr (.inr w))))), upd_ne (fun w => n (.inr (.inr (.inr (.inl w))))), upd_ne (fun w => n (.inr (.inr (.inl w)))), upd_ne (nq nb), upd_ne (fun w => n (.inr (.inl w)))]
    exact nb
  · rw [upd_ne (ndN I.hG), upd_ne (ndN I.hM), upd_ne (ndN I.hL), upd_ne (nq I.hN), upd_ne (ndN I.hW)]
    exact I.hN
  · rw [upd_ne nWG, upd_ne nWM, upd_ne nWL, upd_ne (nq I.hW), upd_same]
  · rw [upd_ne nLG, upd_ne nLM, upd_same]
  · rw [upd_ne nMG, upd_same]
  · exact Nat.le_trans wl' (Nat.succ_le_succ e1)
  · exact Nat.le_trans len_put_le (Nat.succ_le_succ e2)
  · exact Nat.le_trans len_put_le (Nat.succ_le_succ e3)
  · exact Nat.le_trans len_put_le (Nat.succ_le_succ e4)
  · exact Nat.le_trans k3 (Nat.succ_le_succ I.kl)
  · rw [k4, I.km, List.mem_append, List.mem_singleton]
  · have ls : ∀ {b xs}, H b = some (.lst xs) → b ≠ W ∧ b ≠ Ld ∧ b ≠ Md ∧ b ≠ Gd := fun e => ⟨fun w => (by rw [w, I.hW] at e; cases e), fun w => (by rw [w, I.hL] at e; cases e), fun w => (by rw [w, I.hM] at e; cases e), fun w => (by rw [w, I.hG] at e; cases e)⟩
    by_cases e : y = z
    · subst e
      rw [if_pos rfl]
      have nqs : q ≠ Ld ∧ q ≠ Md ∧ q ≠ Gd := ⟨fun w => nq I.hL w.symm, fun w => nq I.hM w.symm, fun w => nq I.hG w.symm⟩
      exact ⟨⟨c, by rw [valV_put, if_pos rfl], c0, c1⟩, by rw [valV_put, if_pos rfl], hq7, by rw [upd_ne nqs.2.2, upd_ne nqs.2.1, upd_ne nqs.1, upd_same], by rw [valV_put, if_pos rfl], by rw [valV_put, if_pos rfl]⟩
    · have hy' : y ∈ done := (List.mem_append.mp hy).elim id fun w => absurd (List.mem_singleton.mp w) e
      have nk : ¬ kS y = kS z := fun h => e (Sum.inr.inj h)
      rw [if_neg e]
      obtain ⟨a1, a2, a3, a4, a5, a6⟩ := I.each y hy'
      obtain ⟨b1, b2, b3, b4⟩ := ls a4
      exact ⟨by rw [valV_put, if_neg nk]; exact a1, by rw [valV_put, if_neg nk]; exact a2, a3, by rw [upd_ne b4, upd_ne b3, upd_ne b2, upd_ne (nq a4), upd_ne b1]; exact a4, by rw [valV_put, if_neg nk]; exact a5, by rw [valV_put, if_neg nk]; exact a6⟩
  · have old : ∀ {y}, y ∈ done ++ [z] → y ≠ z → y ∈ done := fun hy e => (List.mem_append.mp hy).elim id fun w => absurd (List.mem_singleton.mp w) e
    by_cases e : y = z
    · rw [if_pos e, if_neg (fun h => yu (e.trans h.symm))]
      obtain ⟨_, _, _, a4, _⟩ := I.each u (old hu fun h => yu (e.trans h.symm))
      exact fun w => nq a4 w.symm
    · rw [if_neg e]
      by_cases e2 : u = z
      · rw [if_pos e2]
        obtain ⟨_, _, _, a4, _⟩ := I.each y (old hy e)
        exact nq a4
      · rw [if_neg e2]
        exact I.ne y (old hy e) u (old hu e2) yu
end
theorem zero_val {k : Key} : ∀ {l : List (Key × V)} {v : V}, valV l k = some v → valV (zeroK l) k = some (.int 0)
  | [], v, h => by cases h
  | p :: l, v, h => by
    show valV ((p.1, V.int 0) :: zeroK l) k = _
    by_cases e : p.1 = k
    · exact valV_pos (p := (p.1, V.int 0)) e
    · rw [valV_neg e] at h
      rw [valV_neg (p := (p.1, V.int 0)) e]
      exact zero_val h
theorem Own2.nil {F : Addr → Prop} {H : Hp} {la : Addr} (h : H la = some (.lst [])) (f : F la) : Own2 F H la [] := ⟨⟨[], h, .nil⟩, f⟩
theorem inV_mem {z : Str} {ws : List Str} (h : z ∈ ws) : inV (.str z) (ws.map V.str) = true := by
  unfold inV
  rw [List.any_map, List.any_eq_true]
  exact ⟨z, h, by simp [eqV]⟩
section
variable {r : Ar} {F Z : Addr → Prop} {H H' : Hp} {g l N Wd Ld x D L : Addr} {wv : List (Key × V)} {sc : Int} {ns : List Str} {s : RS} {la : Str → Addr} {rows : Str → List Row}
theorem Own2.add {a : Addr} {rs : List Row} (h : Own2 F H a rs) (hZ : ∀ b, Z b → H b = none) : Own2 (fun b => F b ∨ Z b) H a rs := by
  obtain ⟨⟨ts, h1, h2⟩, f⟩ := h
  exact ⟨⟨ts, h1, h2.mono fun t q ⟨n, e⟩ => ⟨fun z => z.elim n fun w => (by rw [hZ _ w] at e; cases e), e⟩⟩, .inl f⟩
theorem Own2.same {a : Addr} {rs : List Row} (h : Own2 F H a rs) (k : Same H H') : Own2 F H' a rs := h.kp (G := fun _ => False) (KpF.same k) (fun _ z => z.elim) id
/-- new things are added to F -/
theorem LawA.wide (A : LawA r F H g l N Wd Ld wv sc ns x D L s la rows) (hZ : ∀ b, Z b → H b = none) (k : Same H H') (al : ∀ b, Z b → ∃ o, H' b = some o) : LawA r (fun b => F b ∨ Z b) H' g l N Wd Ld wv sc ns x D L s la rows := by
  have ne : ∀ {b o}, H b = some o → ¬ Z b := fun e z => by rw [hZ _ z] at e; cases e
  obtain ⟨lv, h1, h2, h3, h4⟩ := A.lines.ex
  have S := A.sit
  obtain ⟨_, ⟨xs, ql⟩⟩ := S.bag.there
  exact ⟨⟨bag_same k S.bag, .inl S.fg, fun z => z.elim S.nl (ne ql), fun b z => z.elim (fun w => by obtain ⟨o, q⟩ := S.ex b w; exact ⟨o, k _ _ q⟩) (al b), k _ _ S.hN, fun z => z.elim S.nN (ne S.hN), k _ _ S.hW, fun z => z.elim S.nW (ne S.hW), S.nms, S.n6, S.n1, S.wd, S.sc0, S.sc1⟩, (A.room.add hZ).same k, ⟨⟨lv, k _ _ h1, h2, h3, h4⟩, fun z hz => ((A.lines.own z hz).add hZ).same k, A.lines.ne, fun z => z.elim A.lines.nd (ne h1)⟩, A.ok, A.ap, A.lan⟩
end
/-- a list of names that stands aside -/
def Aside (F : Addr → Prop) (H : Hp) (S : Addr) (zs : List Str) : Prop := H S = some (.lst (zs.map V.str)) ∧ ¬ F S
theorem Aside.kp {F G : Addr → Prop} {H H' : Hp} {S : Addr} {zs : List Str} (h : Aside F H S zs) (k : KpF G H H') (sub : ∀ b, G b → F b) : Aside F H' S zs := ⟨k _ _ (fun z => h.2 (sub _ z)) h.1, h.2⟩
theorem Aside.same {F : Addr → Prop} {H H' : Hp} {S : Addr} {zs : List Str} (h : Aside F H S zs) (k : Same H H') : Aside F H' S zs := ⟨k _ _ h.1, h.2⟩
theorem Aside.wide {F Z : Addr → Prop} {H : Hp} {S : Addr} {zs : List Str} (h : Aside F H S zs) (hZ : ∀ b, Z b → H b = none) : Aside (fun b => F b ∨ Z b) H S zs := ⟨h.1, fun z => z.elim h.2 fun w => by have e := h.1; rw [hZ _ w] at e; cases e⟩
/-- all that stands in the law's main loop -/
structure Mn (r : Ar) (F : Addr → Prop) (H : Hp) (g l N Wd Ld Md Gd SP S OT : Addr) (wv : List (Key × V)) (sc : Int) (ns ste os : List Str) (x D L : Addr) (s : RS) (la : Str → Addr) (rows : Str → List Row) (sps : List Addr) (sd : Addr → Spn) (mo gr : Str → Int) : Prop where
  A : LawA r F H g l N Wd Ld wv sc ns x D L s la rows
  M : Pm F H (Rm g x D L la ns) Md Gd ns mo gr
  P : Ps F H (Rm g x D L la ns) SP sps sd
  S1 : Aside F H S ste
  O1 : Aside F H OT os
section
variable {r : Ar} {F Z G : Addr → Prop} {H H' : Hp} {g l N Wd Ld Md Gd SP S OT x D L : Addr} {wv : List (Key × V)} {sc : Int} {ns ste os : List Str} {s : RS} {la : Str → Addr} {rows : Str → List Row} {sps : List Addr} {sd : Addr → Spn} {mo gr : Str → Int}
theorem Mn.draw (m : Mn r F H g l N Wd Ld Md Gd SP S OT wv sc ns ste os x D L s la rows sps sd mo gr) (o : Ok g l H H') : Mn r F H' g l N Wd Ld Md Gd SP S OT wv sc ns ste os x D L s la rows sps sd mo gr := by
  have k : KpF (fun b => b = g) H H' := KpF.kp rfl o.kp
  have sub : ∀ b, b = g → F b := fun b e => by rw [e]; exact m.A.sit.fg
  exact ⟨m.A.draw o, m.M.kp k fun b e => .inl (.inl e), m.P.kp k fun b e => .inl (.inl e), m.S1.kp k sub, m.O1.kp k sub⟩
theorem Mn.same (m : Mn r F H g l N Wd Ld Md Gd SP S OT wv sc ns ste os x D L s la rows sps sd mo gr) (k : Same H H') : Mn r F H' g l N Wd Ld Md Gd SP S OT wv sc ns ste os x D L s la rows sps sd mo gr :=
  ⟨m.A.same k, m.M.same k, m.P.same k, m.S1.same k, m.O1.same k⟩
theorem Mn.step (m : Mn r F H g l N Wd Ld Md Gd SP S OT wv sc ns ste os x D L s la rows sps sd mo gr) (k : KpF G H H') (sub : ∀ b, G b → Rm g x D L la ns b) {s' : RS} {rows' : Str → List Row} (A' : LawA r F H' g l N Wd Ld wv sc ns x D L s' la rows') : Mn r F H' g l N Wd Ld Md Gd SP S OT wv sc ns ste os x D L s' la rows' sps sd mo gr := by
  have subF : ∀ b, G b → F b := fun b z => (m.A.alive (sub b z)).1
  exact ⟨A', m.M.kp k fun b z => .inl (sub b z), m.P.kp k fun b z => .inl (sub b z), m.S1.kp k subF, m.O1.kp k subF⟩
theorem Mn.setM (m : Mn r F H g l N Wd Ld Md Gd SP S OT wv sc ns ste os x D L s la rows sps sd mo gr) {mv : List (Key × V)} (hm : H Md = some (.dK mv)) {z : Str} (hz : z ∈ ns) (i : Int) :
    Mn r F (upd H Md (.dK (putK mv (kS z) (.int i)))) g l N Wd Ld Md Gd SP S OT wv sc ns ste os x D L s la rows sps sd (fun y => if y = z then i else mo y) gr := by
  have k : KpF (fun b => b = Md) H (upd H Md (.dK (putK mv (kS z) (.int i)))) := (KpF.refl _ _).upd rfl
  have sub : ∀ b, b = Md → F b := fun b e => by rw [e]; exact m.M.fM.1
  exact ⟨m.A.kp k sub (fun b e => by rw [e]; exact ⟨_, upd_same⟩) (fun b e => by rw [e]; exact m.M.fM.2), m.M.setM hm hz i, m.P.kp k (fun b e => .inr (by rw [e]; exact ⟨_, hm⟩)), m.S1.kp k sub, m.O1.kp k sub⟩
theorem Mn.setG (m : Mn r F H g l N Wd Ld Md Gd SP S OT wv sc ns ste os x D L s la rows sps sd mo gr) {mv : List (Key × V)} (hm : H Gd = some (.dK mv)) {z : Str} (hz : z ∈ ns) (i : Int) :
    Mn r F (upd H Gd (.dK (putK mv (kS z) (.int i)))) g l N Wd Ld Md Gd SP S OT wv sc ns ste os x D L s la rows sps sd mo (fun y => if y = z then i else gr y) := by
  have k : KpF (fun b => b = Gd) H (upd H Gd (.dK (putK mv (kS z) (.int i)))) := (KpF.refl _ _).upd rfl
  have sub : ∀ b, b = Gd → F b := fun b e => by rw [e]; exact m.M.fG.1
  exact ⟨m.A.kp k sub (fun b e => by rw [e]; exact ⟨_, upd_same⟩) (fun b e => by rw [e]; exact m.M.fG.2), m.M.setG hm hz i, m.P.kp k (fun b e => .inr (by rw [e]; exact ⟨_, hm⟩)), m.S1.kp k sub, m.O1.kp k sub⟩
theorem Mn.setT (m : Mn r F H g l N Wd Ld Md Gd SP S OT wv sc ns ste os x D L s la rows sps sd mo gr) {t : Addr} (ht : t ∈ sps) (q : Spn) :
    Mn r F (upd H t (.lst (spanV q))) g l N Wd Ld Md Gd SP S OT wv sc ns ste os x D L s la rows sps (fun u => if u = t then q else sd u) mo gr := by
  have k : KpF (fun b => b = t) H (upd H t (.lst (spanV q))) := (KpF.refl _ _).upd rfl
  obtain ⟨hT, fT, nT, _⟩ := m.P.each t ht
  have sub : ∀ b, b = t → F b := fun b e => by rw [e]; exact fT
  exact ⟨m.A.kp k sub (fun b e => by rw [e]; exact ⟨_, upd_same⟩) (fun b e => by rw [e]; exact nT), m.M.kp k (fun b e => .inr (by rw [e]; exact ⟨_, hT⟩)), m.P.setT ht q, m.S1.kp k sub, m.O1.kp k sub⟩
/-- the room's line gives way to a new one at M -/
theorem Mn.line (m : Mn r F H g l N Wd Ld Md Gd SP S OT wv sc ns ste os x D L s la rows sps sd mo gr) {M : Addr} {s' : RS} (hM : H M = none) (k : KpF (fun b => b = x) H H') (R : RoomAt r (fun b => F b ∨ b = M) H' x D M wv sc s') (ok : RSok ns s') :
    Mn r (fun b => F b ∨ b = M) H' g l N Wd Ld Md Gd SP S OT wv sc ns ste os x D M s' la rows sps sd mo gr := by
  have A := m.A
  have S0 := A.sit
  have ne : ∀ {b o}, H b = some o → b ≠ M := fun e z => by rw [z, hM] at e; cases e
  have nx : ∀ {b}, ¬ F b → b ≠ x := fun n z => n (by rw [z]; exact A.room.fx)
  obtain ⟨a1, a2, a3⟩ := A.ap
  obtain ⟨lv, h1, h2, h3, h4⟩ := A.lines.ex
  obtain ⟨⟨xs, qg⟩, ⟨ys, ql⟩⟩ := S0.bag.there
  obtain ⟨⟨_, _, _, _, q1, _, _, _, q2, q3, _⟩, _⟩ := id R
  have sub : ∀ b, b = x → F b := fun b e => by rw [e]; exact A.room.fx
  have alx : ∀ b, b = x → ∃ o, H' b = some o := fun b e => by rw [e]; exact ⟨_, q1⟩
  have hR : ∀ b, Rm g x D M la ns b → Rm g x D L la ns b ∨ H b = none := fun b w => by
    rcases w with e | e | e | e | e
    · exact .inl (.inl e)
    · exact .inl (.inr (.inl e))
    · exact .inl (.inr (.inr (.inl e)))
    · exact .inr (by rw [e]; exact hM)
    · exact .inl (.inr (.inr (.inr (.inr e))))
  have sx : ∀ b, b = x → Rm g x D M la ns b := fun b e => .inr (.inl e)
  refine ⟨⟨⟨bag_kp S0.bag k (fun e => a1 e.symm) (fun e => S0.nl (sub _ e)), .inl S0.fg, fun z => z.elim S0.nl (ne ql), fun b z => z.elim (ex_kp k alx S0.ex b) (fun e => by rw [e]; exact ⟨_, q3⟩), k _ _ (nx S0.nN) S0.hN, fun z => z.elim S0.nN (ne S0.hN), k _ _ (nx S0.nW) S0.hW, fun z => z.elim S0.nW (ne S0.hW), S0.nms, S0.n6, S0.n1, S0.wd, S0.sc0, S0.sc1⟩, R, ⟨⟨lv, k _ _ (nx A.lines.nd) h1, h2, h3, h4⟩, fun z hz => ?_, A.lines.ne, fun z => z.elim A.lines.nd (ne h1)⟩, ok, ⟨a1, a2, fun e => ne qg e.symm⟩, fun y hy => ?_⟩, (m.M.re (fun b => .inl) hR).kp k fun b e => .inl (sx b e), (m.P.re (fun b => .inl) hR).kp k fun b e => .inl (sx b e), (m.S1.wide (fun b e => by rw [e]; exact hM)).kp k (fun b e => .inl (sub b e)), (m.O1.wide (fun b e => by rw [e]; exact hM)).kp k (fun b e => .inl (sub b e))⟩
  · exact ((A.lines.own z hz).add (Z := fun b => b = M) fun b e => by rw [e]; exact hM).kp k (fun b e => .inl (sub b e)) (A.lan z hz).2.2.2
  · obtain ⟨b1, b2, b3, b4⟩ := A.lan y hy
    obtain ⟨⟨ts, q, _⟩, _⟩ := A.lines.own y hy
    exact ⟨b1, b2, ne q, b4⟩
theorem Mn.rows_eq (m : Mn r F H g l N Wd Ld Md Gd SP S OT wv sc ns ste os x D L s la rows sps sd mo gr) {rows' : Str → List Row} (e : ∀ z ∈ ns, rows z = rows' z) : Mn r F H g l N Wd Ld Md Gd SP S OT wv sc ns ste os x D L s la rows' sps sd mo gr :=
  ⟨⟨m.A.sit, m.A.room, ⟨m.A.lines.ex, fun z hz => by rw [← e z hz]; exact m.A.lines.own z hz, m.A.lines.ne, m.A.lines.nd⟩, m.A.ok, m.A.ap, m.A.lan⟩, m.M, m.P, m.S1, m.O1⟩
/-- a line of one name gives way to a new one at T -/
theorem Mn.relist (m : Mn r F H g l N Wd Ld Md Gd SP S OT wv sc ns ste os x D L s la rows sps sd mo gr) {H1 : Hp} {T : Addr} {us : List Addr} {rs : List Row} {z : Str} {lv : List (Key × V)} (hz : z ∈ ns) (hT : H T = none) (k1 : Same H H1) (eT : H1 T = some (.lst (us.map V.ref))) (pr : Paired (Row2At F H) us rs) (hL : H Ld = some (.dK lv)) :
    Mn r (fun b => F b ∨ b = T) (upd H1 Ld (.dK (putK lv (kS z) (.ref T)))) g l N Wd Ld Md Gd SP S OT wv sc ns ste os x D L s (fun y => if y = z then T else la y) (fun y => if y = z then rs else rows y) sps sd mo gr := by
  have A := m.A
  have S0 := A.sit
  obtain ⟨lv', h1, h2, h3, ks, h4, h5, h6, h7, h8⟩ := A.lines.ex
  rw [hL] at h1
  cases h1
  have hZ : ∀ b, b = T → H b = none := fun b e => by rw [e]; exact hT
  have ne : ∀ {b o}, H b = some o → b ≠ T := fun e w => by rw [w, hT] at e; cases e
  have hL1 := k1 _ _ hL
  obtain ⟨⟨xs, qg⟩, ⟨ys, ql⟩⟩ := S0.bag.there
  have wl : wv ≠ lv := fun e => by
    have q1 := (S0.wd.d.2 z hz)
    rw [e, h3 z hz] at q1
    cases q1
  -- only Ld changes
  have k2 : KpF (fun b => b = Ld) H (upd H1 Ld (.dK (putK lv (kS z) (.ref T)))) := (KpF.same k1).upd rfl
  have nD : ∀ {b xs}, H b = some (.lst xs) → b ≠ Ld := fun e w => by rw [w, hL] at e; cases e
  have nT : ∀ {b xs}, H b = some (.tup xs) → b ≠ Ld := fun e w => by rw [w, hL] at e; cases e
  have nF : ∀ {b}, F b → b ≠ Ld := fun f w => A.lines.nd (by rw [← w]; exact f)
  have eT2 : upd H1 Ld (.dK (putK lv (kS z) (.ref T))) T = some (.lst (us.map V.ref)) := by rw [upd_ne (Ne.symm (ne hL))]; exact eT
  have row : ∀ t q, Row2At F H t q → Row2At (fun b => F b ∨ b = T) (upd H1 Ld (.dK (putK lv (kS z) (.ref T)))) t q := fun t q ⟨a, b⟩ => ⟨fun w => w.elim a (ne b), k2 _ _ (nT b) b⟩
  have own : ∀ y ∈ ns, Own2 (fun b => F b ∨ b = T) (upd H1 Ld (.dK (putK lv (kS z) (.ref T)))) (if y = z then T else la y) (if y = z then rs else rows y) := fun y hy => by
    by_cases e : y = z
    · rw [if_pos e, if_pos e]
      exact ⟨⟨us, eT2, pr.mono row⟩, .inr rfl⟩
    · rw [if_neg e, if_neg e]
      obtain ⟨⟨ts, q1, q2⟩, f⟩ := A.lines.own y hy
      exact ⟨⟨ts, k2 _ _ (nD q1) q1, q2.mono row⟩, .inl f⟩
  have hR : ∀ b, Rm g x D L (fun y => if y = z then T else la y) ns b → Rm g x D L la ns b ∨ H b = none := fun b w => by
    rcases w with e | e | e | e | ⟨y, hy, e⟩
    · exact .inl (.inl e)
    · exact .inl (.inr (.inl e))
    · exact .inl (.inr (.inr (.inl e)))
    · exact .inl (.inr (.inr (.inr (.inl e))))
    · have e : b = if y = z then T else la y := e
      by_cases h : y = z
      · rw [if_pos h] at e
        exact .inr (by rw [e]; exact hT)
      · rw [if_neg h] at e
        exact .inl (.inr (.inr (.inr (.inr ⟨y, hy, e⟩))))
  have room : RoomAt r (fun b => F b ∨ b = T) (upd H1 Ld (.dK (putK lv (kS z) (.ref T)))) x D L wv sc s := by
    obtain ⟨⟨dx, W, fs, ts, r1, r2, r3, r4, r5, r6, r7⟩, f1, f2, f3⟩ := A.room
    refine ⟨⟨dx, W, fs, ts, k2 _ _ (nF f1) r1, r2, k2 _ _ (fun w => wl ?_) r3, fun w => w.elim r4 (ne r3), k2 _ _ (nF f2) r5, k2 _ _ (nF f3) r6, r7.mono fun t q ⟨a, b⟩ => ⟨fun w => w.elim a (ne b), k2 _ _ (nT b) b⟩⟩, .inl f1, .inl f2, .inl f3⟩
    rw [w, hL] at r3
    cases r3
    rfl
  have nW : Wd ≠ Ld := fun w => wl (by
    have q := S0.hW
    rw [w, hL] at q
    cases q
    rfl)
  have ex' : ∀ b, F b ∨ b = T → ∃ o, upd H1 Ld (.dK (putK lv (kS z) (.ref T))) b = some o := fun b w => w.elim (fun f => by
    obtain ⟨o, q⟩ := S0.ex b f
    exact ⟨o, k2 _ _ (nF f) q⟩) fun e => by rw [e]; exact ⟨_, eT2⟩
  obtain ⟨⟨mv, m1, m2, m3⟩, ⟨gv, g1, g2, g3⟩, fM, fG, MG⟩ := m.M.re (F' := fun b => F b ∨ b = T) (fun b => .inl) hR
  obtain ⟨p1, p2, p3⟩ := m.P.re (F' := fun b => F b ∨ b = T) (fun b => .inl) hR
  refine ⟨⟨⟨bag_kp S0.bag k2 (nD qg) (nD ql), .inl S0.fg, fun w => w.elim S0.nl (ne ql), ex', k2 _ _ (nD S0.hN) S0.hN, fun w => w.elim S0.nN (ne S0.hN), k2 _ _ nW S0.hW, fun w => w.elim S0.nW (ne S0.hW), S0.nms, S0.n6, S0.n1, S0.wd, S0.sc0, S0.sc1⟩, room, ⟨⟨_, upd_same, by rw [len_putK (h3 z hz)]; exact h2, fun y hy => ?_, ks, ?_, h5, h6, h7, h8⟩, own, fun y hy u hu yu => ?_, fun w => w.elim A.lines.nd (ne hL)⟩, A.ok, A.ap, fun y hy => ?_⟩,
    ⟨⟨mv, k2 _ _ (nF m.M.fM.1) m1, m2, m3⟩, ⟨gv, k2 _ _ (nF m.M.fG.1) g1, g2, g3⟩, fM, fG, MG⟩, ⟨k2 _ _ (nD p1) p1, fun t ht => ⟨k2 _ _ (nD (p2 t ht).1) (p2 t ht).1, (p2 t ht).2⟩, p3⟩, ⟨k2 _ _ (nD m.S1.1) m.S1.1, fun w => w.elim m.S1.2 (ne m.S1.1)⟩, ⟨k2 _ _ (nD m.O1.1) m.O1.1, fun w => w.elim m.O1.2 (ne m.O1.1)⟩⟩
  · show valV (putK lv (kS z) (.ref T)) (kS y) = some (.ref (if y = z then T else la y))
    rw [valV_put]
    by_cases e : y = z
    · rw [e, if_pos rfl, if_pos rfl]
    · rw [if_neg (show ¬ kS y = kS z from fun w => e (Sum.inr.inj w)), if_neg e]
      exact h3 y hy
  · rw [← h4]
    unfold putK
    rw [valV_any, h3 z hz]
    show (lv.map fun kv => if kv.1 = kS z then (kv.1, V.ref T) else kv).map (·.1) = _
    rw [List.map_map]
    apply List.map_congr_left
    intro q _
    show (if q.1 = kS z then (q.1, V.ref T) else q).1 = q.1
    split <;> rfl
  · show (if y = z then T else la y) ≠ (if u = z then T else la u)
    by_cases e : y = z
    · rw [if_pos e, if_neg (fun w => yu (e.trans w.symm))]
      obtain ⟨⟨_, q, _⟩, _⟩ := A.lines.own u hu
      exact fun w => ne q w.symm
    · rw [if_neg e]
      by_cases e2 : u = z
      · rw [if_pos e2]
        obtain ⟨⟨_, q, _⟩, _⟩ := A.lines.own y hy
        exact ne q
      · rw [if_neg e2]
        exact A.lines.ne y hy u hu yu
  · show (if y = z then T else la y) ≠ g ∧ (if y = z then T else la y) ≠ D ∧ (if y = z then T else la y) ≠ L ∧ (if y = z then T else la y) ≠ x
    by_cases e : y = z
    · rw [if_pos e]
      obtain ⟨ox, qx⟩ := S0.ex _ A.room.fx
      obtain ⟨oD, qD⟩ := S0.ex _ A.room.fD
      obtain ⟨oL, qL⟩ := S0.ex _ A.room.fL
      exact ⟨fun w => ne qg w.symm, fun w => ne qD w.symm, fun w => ne qL w.symm, fun w => ne qx w.symm⟩
    · rw [if_neg e]
      exact A.lan y hy
end

end k48
namespace k48
open PySem L2 LC RM
def spcheck_count : Sp := fun vs H Q _ => ∃ (z : Str) (c m : Int), vs = [.str z, .int c, .int m] ∧ c ≤ m ∧ Q .non H
theorem ok_check_count {P : Program} {w : World} {K : PySem.W.Frag} {mg : Str → Option Value} {base : Heap} {f : Addr} {fd : FuncData} (D : Def K mg "check_count" scheck_count Pcheck_count f fd) (T : Txt K mg) :
    FnOk P w K mg base CX0 1 f fd Pcheck_count (spcheck_count) := by
  refine D.F.ok sccheck_count (fun vs H Q E h => ?_) (fun cdv A outer s H vs Q E hr h => ?_)
  · obtain ⟨z, c, m, rfl, hc, k⟩ := h
    rfl
  · obtain ⟨z, c, m, rfl, hc, k⟩ := h
    refine ⟨_, (pss_one (ps_if (pt_cmpR op_gt (pv 1) (pv 2) (nomark _)) (pss_one LC.ps_never) pss_nil)), ?_⟩
    exact ⟨_, rfl, _, rfl, _, _, rfl, rfl, _, rfl, ite_d (fun h => absurd h (by omega)) (fun _ => k)⟩
end k48
namespace k48
open PySem L2 LC RM
def spis_whole : Sp := fun vs H Q _ => ∃ v : Int, vs = [.int v] ∧ Q (.bl true) H
theorem ok_is_whole {P : Program} {w : World} {K : PySem.W.Frag} {mg : Str → Option Value} {base : Heap} {f : Addr} {fd : FuncData} (D : Def K mg "is_whole" sis_whole Pis_whole f fd) (T : Txt K mg) :
    FnOk P w K mg base CX0 1 f fd Pis_whole (spis_whole) := by
  refine D.F.ok scis_whole (fun vs H Q E h => ?_) (fun cdv A outer s H vs Q E hr h => ?_)
  · obtain ⟨v, rfl, k⟩ := h
    rfl
  · obtain ⟨v, rfl, k⟩ := h
    refine ⟨_, (pss_one (ps_ret (pe_and (pe_callB call_isi (by rfl) T.n_isinstance (by decide +kernel) (pa_cons (pv 0) (pa_cons (pe_ty "int" (by rfl) T.n_int (by decide +kernel)) pa_nil))) (pe_one (pe_not (pe_callB call_isi (by rfl) T.n_isinstance (by decide +kernel) (pa_cons (pv 0) (pa_cons (pe_ty "bool" (by rfl) T.n_bool (by decide +kernel)) pa_nil)))))))), ?_⟩
    refine ⟨_, rfl, _, _, _, _, _, rfl, .ty _, .base (.int v), kit_ty (show kitB "int" "int" = some true by decide +kernel), _, rfl, ?_⟩
    exact iteT ⟨_, rfl, _, _, _, _, _, rfl, .ty _, .base (.int v), kit_ty (show kitB "int" "bool" = some false by decide +kernel), _, rfl, k⟩
end k48
namespace k48
open PySem L2 LC RM
def spis_number : Sp := fun vs H Q _ => ∃ (v lo hi : Int), vs = [.int v, .int lo, .int hi] ∧ lo ≤ v ∧ v ≤ hi ∧ Q (.bl true) H
theorem ok_is_number {P : Program} {w : World} {K : PySem.W.Frag} {mg : Str → Option Value} {base : Heap} {f : Addr} {fd : FuncData} (D : Def K mg "is_number" sis_number Pis_number f fd) (T : Txt K mg) {fis_whole : Addr} {fdis_whole : FuncData} (Dis_whole : Def K mg "is_whole" sis_whole Pis_whole fis_whole fdis_whole) (Gis_whole : FnOk P w K mg base CX0 1 fis_whole fdis_whole Pis_whole (spis_whole)) :
    FnOk P w K mg base CX0 2 f fd Pis_number (spis_number) := by
  refine D.F.ok scis_number (fun vs H Q E h => ?_) (fun cdv A outer s H vs Q E hr h => ?_)
  · obtain ⟨v, lo, hi, rfl, h1, h2, k⟩ := h
    rfl
  · obtain ⟨v, lo, hi, rfl, h1, h2, k⟩ := h
    have hris_whole : Room 1 _ := hr.mono (by decide)
    refine ⟨_, (pss_one (ps_ret (pe_and (pe_call Gis_whole hris_whole rfl Dis_whole.g Dis_whole.F.kp Dis_whole.b .nil pass0 (pa_cons (pv 0) pa_nil)) (pe_one (pe_chain op_le op_le (pv 1) (pv 0) (pv 2)))))), ?_⟩
    refine ⟨_, rfl, v, rfl, _, rfl, iteT ?_⟩
    refine ⟨_, rfl, _, rfl, _, _, rfl, rfl, _, rfl, ite_d (fun _ => ?_) (fun h => absurd h1 h)⟩
    refine ⟨_, rfl, _, _, rfl, rfl, ?_⟩
    show Q (.bl (decide (v ≤ hi))) H
    rw [decide_eq_true h2]
    exact k
end k48
namespace k48
open PySem L2 LC RM
def spis_name : Sp := fun vs H Q _ => ∃ (z : Str), vs = [.str z] ∧ z.length ≤ 1000000 ∧ ∀ H', Same H H' → Q (.bl (isNam (.str z))) H'
theorem ok_is_name {P : Program} {w : World} {K : PySem.W.Frag} {mg : Str → Option Value} {base : Heap} {f : Addr} {fd : FuncData} (D : Def K mg "is_name" sis_name Pis_name f fd) (T : Txt K mg) :
    FnOk P w K mg base CX0 1 f fd Pis_name (spis_name) := by
  refine D.F.ok scis_name (fun vs H Q E h => ?_) (fun cdv A outer s H vs Q E hr h => ?_)
  · obtain ⟨z, rfl, hz, k⟩ := h
    rfl
  · obtain ⟨z, rfl, hz, k⟩ := h
    obtain ⟨tc_DIGITS, hc_DIGITS⟩ := T.c_DIGITS
    obtain ⟨tc_LETTERS, hc_LETTERS⟩ := T.c_LETTERS
    refine ⟨_, (pss_cons (ps_if (PW.pt (pw_or (pt_not (pt_val (pe_callB call_isi (by rfl) T.n_isinstance (by decide +kernel) (pa_cons (pv 0) (pa_cons (pe_ty "str" (by rfl) T.n_str (by decide +kernel)) pa_nil))))) (pw_or1 (pt_not (pt_chain op_le op_le pe_int (pe_callB call_len_str (by rfl) T.n_len PySem.boot_len (pa_cons (pv 0) pa_nil)) pe_int))))) (pss_one (ps_ret pe_bl)) pss_nil)
        (pss_one (ps_ret (pe_and (pe_cmpR op_in_sign (pe_ix ix_str (pv 0) pe_int (fun _ _ => rfl)) (pe_gstr rfl hc_LETTERS) (by rfl)) (pe_one (pe_callB (cr_all rfl) (by rfl) T.n_all (by decide +kernel) (pa_cons (pe_lc (own := [("sign", 1)]) (g := gName 1) (tt := tYes) rfl scis_name.nd (pi_str (pv 0)) (blkOk_by (own := [("sign", 1)]) (N := Nmis_name) (sc := defScope sis_name) (by decide +kernel)) (fun _ _ _ _ _ => pg_name (i := 1) scis_name.nd rfl (Or.inl rfl)) (fun _ _ _ _ _ => pts_nil) (fun _ _ _ _ _ => (pe_or (pe_cmpR op_in_sign (pv 1) (pe_gstr rfl hc_LETTERS) (by rfl)) (pe_one (pe_cmpR op_in_sign (pv 1) (pe_gstr rfl hc_DIGITS) (by rfl)))))) pa_nil))))))), ?_⟩
    refine ⟨_, rfl, _, _, _, _, _, rfl, .ty _, .base (.str z), kit_ty (show kitB "str" "str" = some true by decide +kernel), _, rfl, iteF ?_⟩
    refine ⟨_, rfl, _, rfl, sz_str hz, _, _, rfl, rfl, _, rfl, ?_⟩
    refine ite_d (fun h1 => ?_) (fun h1 => ?_)
    · refine ⟨_, _, rfl, rfl, _, rfl, ?_⟩
      refine ite_nd (fun h8 => ?_) (fun h8 => ?_)
      · have q := k H (Same.refl H)
        rw [isNam_str, decide_eq_false (show ¬ z.length ≤ 8 by omega), Bool.and_false, Bool.false_and, Bool.false_and] at q
        exact q
      · have h1' : 1 ≤ z.length := by omega
        obtain ⟨c0, hc0, e0⟩ := len1 h1'
        have e : isNam (.str z) = (chL c0 && z.cps.toList.all (fun c => chL c || chD c)) := by
          rw [isNam_str, decide_eq_true h1', decide_eq_true (show z.length ≤ 8 by omega), e0]
          rfl
        refine ⟨_, rfl, _, _, c0, rfl, rfl, sz_str hz, atI_nat (j := 0) hc0, _, _, rfl, rfl, _, rfl, ?_⟩
        refine ite_is (mem_low c0) (fun eL => ?_) (fun eL => ?_)
        · refine ⟨_, rfl, _, rfl, fun D hD => lc_text (fun c => .bl (chL c || chD c)) hD hz (fun _ => rfl) (fun c H Q hc q => ?_) ?_⟩
          · refine ⟨_, rfl, _, _, rfl, rfl, _, rfl, ?_⟩
            refine ite_is (mem_low c) (fun e1 => ?_) (fun e1 => ?_)
            · rw [e1, Bool.true_or] at q
              exact q
            · refine ⟨_, rfl, _, _, rfl, rfl, ?_⟩
              rw [e1, Bool.false_or] at q
              rw [mem_dig]
              exact q
          · refine ⟨D, z.cps.toList.map fun c => chL c || chD c, rfl, by rw [← bls_map]; exact SqL.of upd_same, ?_⟩
            rw [all_id]
            have q := k _ (same_new (o := .lst (z.cps.toList.map fun c => V.bl (chL c || chD c))) hD)
            rw [e, eL, Bool.true_and] at q
            exact q
        · have q := k H (Same.refl H)
          rw [e, eL, Bool.false_and] at q
          exact q
    · have q := k H (Same.refl H)
      rw [isNam_str, decide_eq_false (show ¬ 1 ≤ z.length by omega), Bool.false_and, Bool.false_and, Bool.false_and] at q
      refine ⟨_, rfl, ite_nb (fun _ => q) fun z => Bool.noConfusion z⟩
end k48
namespace k48
open PySem L2 LC RM
def sphas_name : Sp := fun vs H Q _ => ∃ (z : Str) (D : Addr) (kv : List (Key × V)) (v : V), vs = [.ref D, .str z] ∧ H D = some (.dK kv) ∧ isNam (.str z) = true ∧ z.length ≤ 1000000 ∧ valV kv (kS z) = some v ∧ ∀ H', Same H H' → Q (.bl true) H'
theorem ok_has_name {P : Program} {w : World} {K : PySem.W.Frag} {mg : Str → Option Value} {base : Heap} {f : Addr} {fd : FuncData} (D : Def K mg "has_name" shas_name Phas_name f fd) (T : Txt K mg) {fis_name : Addr} {fdis_name : FuncData} (Dis_name : Def K mg "is_name" sis_name Pis_name fis_name fdis_name) (Gis_name : FnOk P w K mg base CX0 1 fis_name fdis_name Pis_name (spis_name)) :
    FnOk P w K mg base CX0 2 f fd Phas_name (sphas_name) := by
  refine D.F.ok schas_name (fun vs H Q E h => ?_) (fun cdv A outer s H vs Q E hr h => ?_)
  · obtain ⟨z, D, kv, v, rfl, hD, hz, hl, hv, k⟩ := h
    rfl
  · obtain ⟨z, D, kv, v, rfl, hD, hz, hl, hv, k⟩ := h
    have hris_name : Room 1 _ := hr.mono (by decide)
    refine ⟨_, (pss_one (ps_ret (pe_and (pe_call Gis_name hris_name rfl Dis_name.g Dis_name.F.kp Dis_name.b .nil pass0 (pa_cons (pv 1) pa_nil)) (pe_one (pe_cmp (pc_din (hu_of hr) (pv 1) (pv 0))))))), ?_⟩
    refine ⟨_, rfl, z, rfl, hl, fun H1 s1 => ?_⟩
    rw [hz]
    refine ⟨_, rfl, iteT ⟨_, rfl, _, rfl, D, _, rfl, DGet.k (k := kS z) (s1 _ _ hD), ?_⟩⟩
    rw [hv]
    exact k H1 s1
end k48
namespace k48
open PySem L2 LC RM
def splook_up : Sp := fun vs H Q _ => ∃ (z : Str) (D : Addr) (kv : List (Key × V)) (v : V), vs = [.ref D, .str z] ∧ H D = some (.dK kv) ∧ isNam (.str z) = true ∧ z.length ≤ 1000000 ∧ valV kv (kS z) = some v ∧ ∀ H', Same H H' → Q v H'
theorem ok_look_up {P : Program} {w : World} {K : PySem.W.Frag} {mg : Str → Option Value} {base : Heap} {f : Addr} {fd : FuncData} (D : Def K mg "look_up" slook_up Plook_up f fd) (T : Txt K mg) {fhas_name : Addr} {fdhas_name : FuncData} (Dhas_name : Def K mg "has_name" shas_name Phas_name fhas_name fdhas_name) (Ghas_name : FnOk P w K mg base CX0 2 fhas_name fdhas_name Phas_name (sphas_name)) :
    FnOk P w K mg base CX0 3 f fd Plook_up (splook_up) := by
  refine D.F.ok sclook_up (fun vs H Q E h => ?_) (fun cdv A outer s H vs Q E hr h => ?_)
  · obtain ⟨z, D, kv, v, rfl, hD, hz, hl, hv, k⟩ := h
    rfl
  · obtain ⟨z, D, kv, v, rfl, hD, hz, hl, hv, k⟩ := h
    have hrhas_name : Room 2 _ := hr.mono (by decide)
    refine ⟨_, (pss_cons (ps_if (pt_not (pt_val (pe_call Ghas_name hrhas_name rfl Dhas_name.g Dhas_name.F.kp Dhas_name.b .nil pass0 (pa_cons (pv 0) (pa_cons (pv 1) pa_nil))))) (pss_one LC.ps_never) pss_nil)
        (pss_one (ps_ret (pe_dget (hu_of hr) (pv 0) (pv 1) (fun _ _ => rfl))))), ?_⟩
    refine ⟨_, rfl, _, rfl, z, D, kv, v, rfl, hD, hz, hl, hv, fun H1 s1 => ⟨_, rfl, iteF ?_⟩⟩
    refine ⟨_, rfl, _, rfl, D, v, rfl, ?_, k H1 s1⟩
    rw [← hv]
    exact DGet.k (k := kS z) (s1 _ _ hD)
end k48
namespace k48
open PySem L2 LC RM
def spleast_multiple : Sp := fun vs H Q _ => ∃ (p : Addr) (ws : List Int), vs = [.ref p] ∧ H p = some (.lst (ws.map V.int)) ∧ (∀ w ∈ ws, 1 ≤ w ∧ w ≤ 12) ∧ Q (.int (lcmL ws)) H
theorem ok_least_multiple {P : Program} {w : World} {K : PySem.W.Frag} {mg : Str → Option Value} {base : Heap} {f : Addr} {fd : FuncData} (D : Def K mg "least_multiple" sleast_multiple Pleast_multiple f fd) (T : Txt K mg) {r : Ar} (KR : Kr K mg r) :
    FnOk P w K mg base CX0 1 f fd Pleast_multiple (spleast_multiple) := by
  refine D.F.ok scleast_multiple (fun vs H Q E h => ?_) (fun cdv A outer s H vs Q E hr h => ?_)
  · obtain ⟨p, ws, rfl, hp, hw, k⟩ := h
    rfl
  · obtain ⟨p, ws, rfl, hp, hw, k⟩ := h
    refine ⟨_, (pss_cons (ps_set (i := 1) scleast_multiple.nd rfl (Or.inl rfl) pe_int)
        (pss_cons (ps_for PassesOwn.never rfl (pi_list (pv 0)) (pg_name (i := 2) scleast_multiple.nd rfl (Or.inl rfl))
          (pss_one (ps_set (i := 1) scleast_multiple.nd rfl (Or.inl rfl) (pe_callBfun LC.cr_lcm (by rfl) KR.gl (pa_cons (pv 1) (pa_cons (pv 2) pa_nil))))))
        (pss_one (ps_ret (pv 1))))), ?_⟩
    refine ⟨_, rfl, p, rfl, ⟨_, SqL.of hp⟩, for_it (walk_list (K := K) (a := p) (xs := ws.map V.int)) (fun i σ H' => ∃ v : Option V, σ = [some (.ref p), some (.int (lcmL (ws.take i))), v] ∧ H = H') ⟨none, rfl, rfl⟩ (fun i σ H' _ ⟨_, _, e⟩ => e ▸ SqL.of hp) ?_ ?_⟩
    · rintro i x σ H1 H2 hi ⟨v, rfl, rfl⟩ ⟨rfl, hx⟩
      rw [List.length_map] at hi
      rw [List.getElem?_map, List.getElem?_eq_getElem hi] at hx
      cases hx
      obtain ⟨w0, w1⟩ := hw _ (List.getElem_mem hi)
      obtain ⟨l0, l1⟩ := lcm_le hw i
      refine ⟨_, rfl, _, rfl, _, _, rfl, by omega, by omega, some (.int ws[i]), ?_, rfl⟩
      rw [lcm_next (List.getElem?_eq_getElem hi)]
      rfl
    · rintro σ H1 ⟨v, rfl, rfl⟩
      rw [List.length_map, List.take_length]
      exact ⟨_, rfl, k⟩
end k48
namespace k48
open PySem L2 LC RM
def spcheck_cost : Sp := fun vs H Q _ => ∃ c : Int, vs = [.int c] ∧ 1 ≤ c ∧ c ≤ 1000 ∧ Q .non H
theorem ok_check_cost {P : Program} {w : World} {K : PySem.W.Frag} {mg : Str → Option Value} {base : Heap} {f : Addr} {fd : FuncData} (D : Def K mg "check_cost" scheck_cost Pcheck_cost f fd) (T : Txt K mg) {fis_number : Addr} {fdis_number : FuncData} (Dis_number : Def K mg "is_number" sis_number Pis_number fis_number fdis_number) (Gis_number : FnOk P w K mg base CX0 2 fis_number fdis_number Pis_number (spis_number)) :
    FnOk P w K mg base CX0 3 f fd Pcheck_cost (spcheck_cost) := by
  refine D.F.ok sccheck_cost (fun vs H Q E h => ?_) (fun cdv A outer s H vs Q E hr h => ?_)
  · obtain ⟨c, rfl, c0, c1, k⟩ := h
    rfl
  · obtain ⟨c, rfl, c0, c1, k⟩ := h
    have hris_number : Room 2 _ := hr.mono (by decide)
    obtain ⟨tc_MOST_COST, hc_MOST_COST⟩ := T.c_MOST_COST
    refine ⟨_, (pss_one (ps_if (pt_not (pt_val (pe_call Gis_number hris_number rfl Dis_number.g Dis_number.F.kp Dis_number.b .nil pass0 (pa_cons (pv 0) (pa_cons pe_int (pa_cons (pe_gint rfl hc_MOST_COST) pa_nil)))))) (pss_one LC.ps_never) pss_nil)), ?_⟩
    exact ⟨_, rfl, _, _, _, rfl, c0, c1, _, rfl, iteF k⟩
end k48
namespace k48
open PySem L2 LC RM
def spRoom_init (r : Ar) : Sp := fun vs H Q _ => ∃ (F : Addr → Prop) (x dx p : Addr) (wv : List (Key × V)) (ws : List Int) (Hb : Hp), vs = [.ref x, .ref p] ∧ H x = some (.ins r.c dx []) ∧ Hb x = none ∧ Same Hb H ∧ (∀ b, F b → ∃ o, Hb b = some o) ∧ H p = some (.dK wv) ∧ WOk wv ws ∧
  ∀ (D L : Addr) H', Same Hb H' → Hb D = none → Hb L = none → x ≠ D → RoomAt r (fun b => F b ∨ b = x ∨ b = D ∨ b = L) H' x D L wv (lcmL ws) ⟨zeroK wv, 0, []⟩ → Q .non H'
theorem ok_Room_init {P : Program} {w : World} {K : PySem.W.Frag} {mg : Str → Option Value} {base : Heap} {f : Addr} {fd : FuncData} (F0 : Fun K "__init__" "Room.__init__" sRoom_init f fd) (T : Txt K mg) {r : Ar} (KR : Kr K mg r) {fleast_multiple : Addr} {fdleast_multiple : FuncData} (Dleast_multiple : Def K mg "least_multiple" sleast_multiple Pleast_multiple fleast_multiple fdleast_multiple) (Gleast_multiple : FnOk P w K mg base CX0 1 fleast_multiple fdleast_multiple Pleast_multiple (spleast_multiple)) :
    FnOk P w K mg base CX0 2 f fd PRoom_init (spRoom_init r) := by
  refine F0.ok scRoom_init (fun vs H Q E h => ?_) (fun cdv A outer s H vs Q E hr h => ?_)
  · obtain ⟨F, x, dx, p, wv, ws, Hb, rfl, hx, hb, sb, hF, hp, wk, k⟩ := h
    rfl
  · obtain ⟨F, x, dx, p, wv, ws, Hb, rfl, hx, hb, sb, hF, hp, wk, k⟩ := h
    have hrleast_multiple : Room 1 _ := hr.mono (by decide)
    refine ⟨_, (pss_cons (ps_fld (pv 0) (pe_callTy call_dictD (by rfl) T.n_dict (by decide +kernel) (pa_cons (pv 1) pa_nil)) rfl)
        (pss_cons (ps_fld (pv 0) (pe_lock (pe_dc (own := [("customer", 2)]) (g := gName 2) (tt := tYes) rfl scRoom_init.nd (pi_keys (pv 1)) (blkOk_by (own := [("customer", 2)]) (N := NmRoom_init) (sc := defScope sRoom_init) (by decide +kernel)) (fun _ _ _ _ _ => pg_name (i := 2) scRoom_init.nd rfl (Or.inl rfl)) (fun _ _ _ _ _ => pts_nil) (fun _ _ _ _ _ => (pv 2)) (fun _ _ _ _ _ => pe_int))) rfl)
        (pss_cons (ps_fld (pv 0) pe_int rfl)
        (pss_cons (ps_fld (pv 0) (pe_call Gleast_multiple hrleast_multiple rfl Dleast_multiple.g Dleast_multiple.F.kp Dleast_multiple.b .nil pass0 (pa_cons (LD.pe_listVals rfl (by rfl) T.n_list (pv 1)) pa_nil)) rfl)
        (pss_one (ps_fld (pv 0) (pe_lst pa_nil) rfl)))))), ?_⟩
    refine ⟨_, rfl, p, wv, rfl, .inl hp, fun W hW => ?_⟩
    have nWx : W ≠ x := fun z => by rw [z, hx] at hW; cases hW
    have nWp : W ≠ p := fun z => by rw [z, hp] at hW; cases hW
    have nxp : x ≠ p := fun z => by rw [z, hp] at hx; cases hx
    refine ⟨_, rfl, x, r.c, dx, _, rfl, by rw [upd_ne (Ne.symm nWx)]; exact hx, KR.cl, KR.nw, (by show 0 < 1000; decide), ?_⟩
    have s1 : Same Hb (upd (upd H W (.dK wv)) x (.ins r.c dx (putF "_weights" (.ref W) []))) := same_upd hb (sb.trans (same_new hW))
    have x1 : upd (upd H W (.dK wv)) x (.ins r.c dx (putF "_weights" (.ref W) [])) x = some (.ins r.c dx (putF "_weights" (.ref W) [])) := upd_same
    have p1 : upd (upd H W (.dK wv)) x (.ins r.c dx (putF "_weights" (.ref W) [])) p = some (.dK wv) := by rw [upd_ne (Ne.symm nxp), upd_ne (Ne.symm nWp)]; exact hp
    have w1 : upd (upd H W (.dK wv)) x (.ins r.c dx (putF "_weights" (.ref W) [])) W = some (.dK wv) := by rw [upd_ne nWx]; exact upd_same
    have bW : Hb W = none := sb.free hW
    show tSeq _ _ _ _ (upd (upd H W (.dK wv)) x (.ins r.c dx (putF "_weights" (.ref W) [])))
    generalize upd (upd H W (.dK wv)) x (.ins r.c dx (putF "_weights" (.ref W) [])) = H1 at s1 x1 p1 w1 ⊢
    refine ⟨p, .dK wv, p1, True.intro, fun od => ⟨_, rfl, p, od, rfl, .inl ⟨wv, upd_same, fun D hD => ?_⟩⟩⟩
    have nDp : p ≠ D := fun z => by rw [← z, upd_same] at hD; cases hD
    have hD1 : H1 D = none := by rw [upd_ne (Ne.symm nDp)] at hD; exact hD
    refine dc_it (walk_keys (d := p) (o := od) (kvs := wv)) (fun i H' => H' D = some (.dK ((zeroK wv).take i)) ∧ ∀ b, b ≠ D → H' b = upd H1 p (.frz od (.dK wv)) b) ⟨upd_same, fun b n => upd_ne n⟩ (fun i H' _ ⟨_, e⟩ => by rw [e p nDp]; exact upd_same) ?_ ?_
    · rintro i y H2 H3 hi ⟨d2, e2⟩ ⟨rfl, kk, v, hk, rfl⟩
      refine ⟨rfl, _, rfl, _, kk, rfl, d2, ?_, ?_, fun b n => ?_⟩
      · rw [List.length_take]
        exact Nat.lt_of_le_of_lt (Nat.min_le_left _ _) (Nat.lt_of_lt_of_le hi (Nat.le_trans wk.len (by decide)))
      · rw [upd_same, zero_step wk.nd hk]
      · rw [upd_ne n]
        exact e2 b n
    · rintro H2 ⟨d2, e2⟩
      rw [List.take_of_length_le (by unfold zeroK; rw [List.length_map]; exact Nat.le_refl _)] at d2
      have nxD : x ≠ D := fun z => by rw [z, hD1] at x1; cases x1
      have nWD : W ≠ D := fun z => by rw [z, hD1] at w1; cases w1
      have g2 : ∀ b, b ≠ D → upd H2 p (.dK wv) b = H1 b := fun b n => by
        by_cases e : b = p
        · rw [e, upd_same, p1]
        · rw [upd_ne e, e2 b n, upd_ne e]
      have d3 : upd H2 p (.dK wv) D = some (.dK (zeroK wv)) := by rw [upd_ne (Ne.symm nDp)]; exact d2
      have bD : Hb D = none := s1.free hD1
      have s2 : Same Hb (upd H2 p (.dK wv)) := fun b o e => by
        rw [g2 b (ne_of_none e bD)]
        exact s1 b o e
      refine ⟨by rw [e2 p nDp]; exact upd_same, _, rfl, x, r.c, dx, _, rfl, by rw [g2 x nxD]; exact x1, KR.cl, KR.nm, (by show 1 < 1000; decide), ?_⟩
      refine ⟨_, rfl, x, r.c, dx, _, rfl, upd_same, KR.cl, KR.nl, (by show 2 < 1000; decide), ?_⟩
      have f1 : ∀ (o o' : HO) (b : Addr), b ≠ x → upd (upd (upd H2 p (.dK wv)) x o) x o' b = upd H2 p (.dK wv) b := fun o o' b n => by rw [upd_ne n, upd_ne n]
      refine ⟨_, rfl, p, wv, rfl, by rw [f1 _ _ _ (Ne.symm nxp), upd_same], fun M hM => ?_⟩
      have nMx : x ≠ M := fun z => by rw [← z, upd_same] at hM; cases hM
      have hM' : upd H2 p (.dK wv) M = none := by rw [f1 _ _ _ (Ne.symm nMx)] at hM; exact hM
      have bM : Hb M = none := s2.free hM'
      have nMD : D ≠ M := fun z => by rw [← z, d3] at hM'; cases hM'
      have nMW : W ≠ M := fun z => by rw [← z, g2 W nWD, w1] at hM'; cases hM'
      refine ⟨M, ws, rfl, by rw [upd_same, wk.vals], wk.b12, _, rfl, x, r.c, dx, _, rfl, by rw [upd_ne nMx]; exact upd_same, KR.cl, KR.ns, (by show 3 < 1000; decide), ?_⟩
      refine ⟨(by show 0 ≤ sizeLine; decide), fun L hL => ?_⟩
      have nLx : x ≠ L := fun z => by rw [← z, upd_same] at hL; cases hL
      rw [upd_ne (Ne.symm nLx)] at hL
      have nLM : M ≠ L := fun z => by rw [← z, upd_same] at hL; cases hL
      rw [upd_ne (Ne.symm nLM), f1 _ _ _ (Ne.symm nLx)] at hL
      have bL : Hb L = none := s2.free hL
      have nLD : D ≠ L := fun z => by rw [← z, d3] at hL; cases hL
      have nLW : W ≠ L := fun z => by rw [← z, g2 W nWD, w1] at hL; cases hL
      refine ⟨_, rfl, x, r.c, dx, _, rfl, by rw [upd_ne nLx]; exact upd_same, KR.cl, KR.nq, (by show 4 < 1000; decide), ?_⟩
      refine k D L _ ?_ bD bL nxD ⟨⟨dx, W, _, [], upd_same, rf5 W D L (lcmL ws), ?_, ?_, ?_, ?_, .nil⟩, .inr (.inl rfl), .inr (.inr (.inl rfl)), .inr (.inr (.inr rfl))⟩
      · refine same_upd hb (same_upd bL (same_upd hb (same_upd bM (same_upd hb (same_upd hb s2)))))
      · rw [upd_ne nWx, upd_ne nLW, upd_ne nWx, upd_ne nMW, f1 _ _ _ nWx, g2 W nWD]
        exact w1
      · rintro (z | z | z | z)
        · obtain ⟨o, e⟩ := hF _ z
          rw [bW] at e
          cases e
        · exact nWx z
        · exact nWD z
        · exact nLW z
      · rw [upd_ne (Ne.symm nxD), upd_ne nLD, upd_ne (Ne.symm nxD), upd_ne nMD, f1 _ _ _ (Ne.symm nxD)]
        exact d3
      · rw [upd_ne (Ne.symm nLx)]
        exact upd_same
end k48
namespace k48
open PySem L2 LC RM
def spRoom_head (r : Ar) : Sp := fun vs H Q _ => ∃ (F : Addr → Prop) (x D L : Addr) (wv : List (Key × V)) (sc : Int) (s : RS) (ns : List Str), vs = [.ref x] ∧ RoomAt r F H x D L wv sc s ∧ Dic ns s.kv ∧ (∀ q ∈ s.ln, q.1 ∈ ns) ∧ s.ln.length ≤ 1000 ∧
  (∀ H', s.ln = [] → Same H H' → Q .non H') ∧ ∀ (j : Nat) (q : Row) (t : Addr) H', headAt s.kv s.ln = some j → s.ln[j]? = some q → Same H H' → (∀ ts : List Addr, H L = some (.lst (ts.map V.ref)) → ts[j]? = some t) → RowAt F H' t q → Q (.ref t) H'
theorem ok_Room_head {P : Program} {w : World} {K : PySem.W.Frag} {mg : Str → Option Value} {base : Heap} {f : Addr} {fd : FuncData} (F0 : Fun K "head" "Room.head" sRoom_head f fd) (T : Txt K mg) {r : Ar} (KR : Kr K mg r) :
    FnOk P w K mg base CX0 1 f fd PRoom_head (spRoom_head r) := by
  refine F0.ok scRoom_head (fun vs H Q E h => ?_) (fun cdv A outer s H vs Q E hr h => ?_)
  · obtain ⟨F, x, D, L, wv, sc, s, ns, rfl, ⟨⟨dx, W, fs, ts, hx, rf, hW, nW, hD, hL, ln⟩, fx, fD, fL⟩, dic, hn, hl, k0, k1⟩ := h
    rfl
  · obtain ⟨F, x, D, L, wv, sc, s, ns, rfl, ⟨⟨dx, W, fs, ts, hx, rf, hW, nW, hD, hL, ln⟩, fx, fD, fL⟩, dic, hn, hl, k0, k1⟩ := h
    refine ⟨_, (pss_cons (ps_setLc (i := 1) (own := [("at", 2), ("row", 3)]) (g := gTup _ 2 (gCons (gName 2) (gCons (gName 3) gNil))) (tt := tYes) rfl scRoom_head.nd rfl rfl (sw_true rfl rfl rfl (by decide +kernel)) (pi_enum (by rfl) T.n_enumerate (pa_cons (pe_fld (pv 0) rfl) pa_nil)) (blkOk_by (own := [("at", 2), ("row", 3)]) (N := NmRoom_head) (sc := defScope sRoom_head) (by decide +kernel)) (fun _ _ _ _ _ => by exact (pg_tup rfl (pgs_cons (pg_name (i := 2) scRoom_head.nd rfl (Or.inl rfl)) (pgs_cons (pg_name (i := 3) scRoom_head.nd rfl (Or.inl rfl)) pgs_nil)))) (fun _ _ _ _ _ => pts_nil) (fun _ _ _ _ _ => (pe_tup (pa_cons (pe_dget (hu_of hr) (show PE _ _ (tFld K _ "_marks") from pe_fld (pv 0) rfl) (pe_ix (show IxR _ (rIxT K) from ix_tup) (pv 3) pe_int (fun _ _ => rfl)) (fun _ _ => rfl)) (pa_cons (pe_ix (show IxR _ (rIxT K) from ix_tup) (pv 3) pe_int (fun _ _ => rfl)) (pa_cons (pv 2) pa_nil))))))
        (pss_one (ps_ret (pe_ifExp (pt_cmpR op_gt (pe_callB call_len_seq (by rfl) T.n_len PySem.boot_len (pa_cons (pv 1) pa_nil)) pe_int (nomark _)) (pe_ix ix_list (pe_fld (pv 0) rfl) (pe_ix ix_tup (pe_callB (LD.cr_minT rfl hr.units) (by rfl) T.n_min (by decide +kernel) (pa_cons (pv 1) pa_nil)) pe_int (fun _ _ => rfl)) (fun _ _ => rfl)) pe_non)))), ?_⟩
    have tl : ts.length = s.ln.length := ln.length
    refine ⟨_, rfl, x, r.c, dx, fs, _, rfl, hx, KR.cl, KR.nq, rf.q, L, _, rfl, SqL.of hL, fun T hT => lc_it (walk_enum (K := K) (a := L) (xs := ts.map V.ref)) (fun i H' => Same H H' ∧ ∃ us : List Addr, H' T = some (.lst (us.map V.ref)) ∧ us.length = i ∧ Paired (LD.Row3 H') us ((ranks s.kv s.ln).take i)) ⟨same_new hT, [], upd_same, rfl, .nil⟩ (fun i H' _ ⟨sm, _⟩ => sm.seq (SqL.of hL)) ?_ ?_⟩
    · rintro i v H1 H2 hi ⟨sm, us, hT1, hul, pr⟩ ⟨E, v1, v2, rfl, hE, rfl, e1, e2⟩
      rw [List.length_map] at hi
      have e2' : (ts.map V.ref)[i]? = some v2 := e2
      have e1' : some (V.int (i : Nat)) = some v1 := e1
      cases e1'
      obtain ⟨t, ht⟩ : ∃ t, ts[i]? = some t := ⟨_, List.getElem?_eq_getElem hi⟩
      rw [List.getElem?_map, ht] at e2'
      cases e2'
      obtain ⟨q, hq, nt, rq⟩ := ln.at_ ht
      have hqn : q.1 ∈ ns := hn q (List.mem_of_getElem? hq)
      have smE : Same H1 (upd H1 E (.tup [.int (i : Nat), .ref t])) := same_new hE
      have sE := sm.trans smE
      have hTE := smE _ _ hT1
      refine ⟨E, _, rfl, SqT.of upd_same, rfl, _, _, rfl, _, _, rfl, rfl, rfl, ?_⟩
      generalize upd H1 E (.tup [.int (i : Nat), .ref t]) = H3 at smE sE hTE ⊢
      have hqq : SqT K H3 t (rowV q) := SqT.of (sE _ _ rq)
      refine ⟨_, rfl, x, r.c, dx, fs, _, rfl, sE _ _ hx, KR.cl, KR.nm, rf.m, _, rfl, _, _, _, _, rfl, rfl, hqq, rfl, D, .int (markOf s.kv q.1), rfl, (by rw [← dic.2 _ hqn]; exact DGet.k (k := kS q.1) (sE _ _ hD)), ?_⟩
      refine ⟨_, rfl, _, _, _, _, rfl, rfl, hqq, rfl, _, rfl, (by show 3 ≤ sizeLine; decide), fun U hU => ?_⟩
      have sU := sE.trans (same_new (o := .tup [.int (markOf s.kv q.1), .str q.1, .int (i : Nat)]) hU)
      have hTU : upd H3 U (.tup [.int (markOf s.kv q.1), .str q.1, .int (i : Nat)]) T = some (.lst (us.map V.ref)) := same_new hU _ _ hTE
      have nUT : U ≠ T := fun z => by
        rw [z, hTE] at hU
        cases hU
      refine ⟨_, hTU, by rw [List.length_map, hul]; exact Nat.lt_of_lt_of_le hi (by rw [tl]; exact Nat.le_trans hl (by decide)), same_upd hT sU, us ++ [U], ?_, by rw [List.length_append, hul]; rfl, ranks_step hq pr (fun b xs e => ?_) ?_⟩
      · rw [upd_same, List.map_append]
        rfl
      · have q1 := smE _ _ e
        have q2 := same_new (o := .tup [.int (markOf s.kv q.1), .str q.1, .int (i : Nat)]) hU _ _ q1
        rw [upd_ne (fun z => by rw [z, hTU] at q2; cases q2)]
        exact q2
      · rw [upd_ne nUT]
        exact upd_same
    · rintro H1 ⟨sm, us, hT1, hul, pr⟩
      rw [List.length_map] at hul pr
      rw [List.take_of_length_le (by rw [ranks_len, tl]; exact Nat.le_refl _)] at pr
      refine ⟨_, rfl, _, _, rfl, .inl (SqL.of hT1), _, _, rfl, rfl, _, rfl, ite_d (fun hp => ?_) (fun hp => ?_)⟩
      · rw [List.length_map] at hp
        cases er : ranks s.kv s.ln with
        | nil =>
          have := congrArg List.length er
          rw [ranks_len] at this
          simp only [List.length_nil] at this
          omega
        | cons r0 rs =>
          obtain ⟨j, q, hj, hq, jl, em⟩ := headAt_cons er
          rw [er] at pr
          obtain ⟨t, ht, rt⟩ := pair_at' ln hq
          have ht' : (ts.map V.ref)[j]? = some (V.ref t) := by rw [List.getElem?_map, ht]; rfl
          refine ⟨_, rfl, x, r.c, dx, fs, _, rfl, sm _ _ hx, KR.cl, KR.nq, rf.q, _, rfl, T, us, r0, rs, rfl, SqL.of hT1, pr, fun i u hu hm => ?_⟩
          obtain ⟨ru, e1, e2⟩ := pair_at pr hu
          rw [hm] at e1
          cases e1
          have e3 : H1 u = some (.tup [.int (markOf s.kv q.1), .str q.1, .int (j : Nat)]) := by
            have e4 := e2
            rw [em] at e4
            exact e4
          refine ⟨_, _, _, _, rfl, rfl, SqT.of e3, rfl, _, _, _, _, rfl, rfl, SqL.of (sm _ _ hL), atI_nat ht', ?_⟩
          exact k1 j q t H1 hj hq sm (fun ts' e => by rw [hL] at e; cases List.map_inj_right (fun a b z => V.ref.inj z) |>.mp (HO.lst.inj (Option.some.inj e)); exact ht) (rt.kp (KpF.same sm))
      · rw [List.length_map] at hp
        have e0 : s.ln = [] := List.length_eq_zero_iff.mp (by omega)
        exact k0 H1 e0 sm
end k48
namespace k48
open PySem L2 LC RM
def spRoom_level (r : Ar) : Sp := fun vs H Q _ => ∃ (F : Addr → Prop) (x D L : Addr) (wv : List (Key × V)) (sc : Int) (s : RS), vs = [.ref x] ∧ RoomAt r F H x D L wv sc s ∧ Q (.int s.lv) H
theorem ok_Room_level {P : Program} {w : World} {K : PySem.W.Frag} {mg : Str → Option Value} {base : Heap} {f : Addr} {fd : FuncData} (F0 : Fun K "level" "Room.level" sRoom_level f fd) (T : Txt K mg) {r : Ar} (KR : Kr K mg r) :
    FnOk P w K mg base CX0 1 f fd PRoom_level (spRoom_level r) := by
  refine F0.ok scRoom_level (fun vs H Q E h => ?_) (fun cdv A outer s H vs Q E hr h => ?_)
  · obtain ⟨F, x, D, L, wv, sc, s, rfl, ⟨⟨dx, W, fs, ts, hx, rf, hW, nW, hD, hL, ln⟩, fx, fD, fL⟩, k⟩ := h
    rfl
  · obtain ⟨F, x, D, L, wv, sc, s, rfl, ⟨⟨dx, W, fs, ts, hx, rf, hW, nW, hD, hL, ln⟩, fx, fD, fL⟩, k⟩ := h
    refine ⟨_, (pss_one (ps_ret (pe_fld (pv 0) rfl))), ?_⟩
    exact ⟨_, rfl, x, r.c, dx, fs, _, rfl, hx, KR.cl, KR.nl, rf.l, k⟩
end k48
namespace k48
open PySem L2 LC RM
def spRoom_len (r : Ar) : Sp := fun vs H Q _ => ∃ (F : Addr → Prop) (x D L : Addr) (wv : List (Key × V)) (sc : Int) (s : RS), vs = [.ref x] ∧ RoomAt r F H x D L wv sc s ∧ Q (.int s.ln.length) H
theorem ok_Room_len {P : Program} {w : World} {K : PySem.W.Frag} {mg : Str → Option Value} {base : Heap} {f : Addr} {fd : FuncData} (F0 : Fun K "__len__" "Room.__len__" sRoom_len f fd) (T : Txt K mg) {r : Ar} (KR : Kr K mg r) :
    FnOk P w K mg base CX0 1 f fd PRoom_len (spRoom_len r) := by
  refine F0.ok scRoom_len (fun vs H Q E h => ?_) (fun cdv A outer s H vs Q E hr h => ?_)
  · obtain ⟨F, x, D, L, wv, sc, s, rfl, ⟨⟨dx, W, fs, ts, hx, rf, hW, nW, hD, hL, ln⟩, fx, fD, fL⟩, k⟩ := h
    rfl
  · obtain ⟨F, x, D, L, wv, sc, s, rfl, ⟨⟨dx, W, fs, ts, hx, rf, hW, nW, hD, hL, ln⟩, fx, fD, fL⟩, k⟩ := h
    refine ⟨_, (pss_one (ps_ret (pe_callB call_len_seq (by rfl) T.n_len PySem.boot_len (pa_cons (pe_fld (pv 0) rfl) pa_nil)))), ?_⟩
    refine ⟨_, rfl, x, r.c, dx, fs, _, rfl, hx, KR.cl, KR.nq, rf.q, _, _, rfl, .inl (SqL.of hL), ?_⟩
    rw [List.length_map, ln.length]
    exact k
end k48
namespace k48
open PySem L2 LC RM
def spRoom_bool (r : Ar) : Sp := fun vs H Q _ => ∃ (x : Addr), vs = [.ref x] ∧ Q (.bl true) H
theorem ok_Room_bool {P : Program} {w : World} {K : PySem.W.Frag} {mg : Str → Option Value} {base : Heap} {f : Addr} {fd : FuncData} (F0 : Fun K "__bool__" "Room.__bool__" sRoom_bool f fd) (T : Txt K mg) {r : Ar} (KR : Kr K mg r) :
    FnOk P w K mg base CX0 1 f fd PRoom_bool (spRoom_bool r) := by
  refine F0.ok scRoom_bool (fun vs H Q E h => ?_) (fun cdv A outer s H vs Q E hr h => ?_)
  · obtain ⟨x, rfl, k⟩ := h
    rfl
  · obtain ⟨x, rfl, k⟩ := h
    refine ⟨_, (pss_one (ps_ret pe_bl)), ?_⟩
    exact k
end k48
namespace k48
open PySem L2 LC RM
def spRoom_mark_of (r : Ar) : Sp := fun vs H Q _ => ∃ (F : Addr → Prop) (x D L : Addr) (wv : List (Key × V)) (sc : Int) (s : RS) (z : Str) (v : V), vs = [.ref x, .str z] ∧ RoomAt r F H x D L wv sc s ∧ isNam (.str z) = true ∧ z.length ≤ 1000000 ∧ valV s.kv (kS z) = some v ∧ ∀ H', Same H H' → Q v H'
theorem ok_Room_mark_of {P : Program} {w : World} {K : PySem.W.Frag} {mg : Str → Option Value} {base : Heap} {f : Addr} {fd : FuncData} (F0 : Fun K "mark_of" "Room.mark_of" sRoom_mark_of f fd) (T : Txt K mg) {r : Ar} (KR : Kr K mg r) {flook_up : Addr} {fdlook_up : FuncData} (Dlook_up : Def K mg "look_up" slook_up Plook_up flook_up fdlook_up) (Glook_up : FnOk P w K mg base CX0 3 flook_up fdlook_up Plook_up (splook_up)) :
    FnOk P w K mg base CX0 4 f fd PRoom_mark_of (spRoom_mark_of r) := by
  refine F0.ok scRoom_mark_of (fun vs H Q E h => ?_) (fun cdv A outer s H vs Q E hr h => ?_)
  · obtain ⟨F, x, D, L, wv, sc, s, z, v, rfl, ⟨⟨dx, W, fs, ts, hx, rf, hW, nW, hD, hL, ln⟩, fx, fD, fL⟩, hz, hl, hv, k⟩ := h
    rfl
  · obtain ⟨F, x, D, L, wv, sc, s, z, v, rfl, ⟨⟨dx, W, fs, ts, hx, rf, hW, nW, hD, hL, ln⟩, fx, fD, fL⟩, hz, hl, hv, k⟩ := h
    have hrlook_up : Room 3 _ := hr.mono (by decide)
    refine ⟨_, (pss_one (ps_ret (pe_call Glook_up hrlook_up rfl Dlook_up.g Dlook_up.F.kp Dlook_up.b .nil pass0 (pa_cons (pe_fld (pv 0) rfl) (pa_cons (pv 1) pa_nil))))), ?_⟩
    exact ⟨_, rfl, x, r.c, dx, fs, _, rfl, hx, KR.cl, KR.nm, rf.m, _, rfl, z, D, _, v, rfl, hD, hz, hl, hv, k⟩
end k48
namespace k48
open PySem L2 LC RM
def spRoom_waiting (r : Ar) : Sp := fun vs H Q _ => ∃ (F : Addr → Prop) (x D L : Addr) (wv : List (Key × V)) (sc : Int) (s : RS), vs = [.ref x] ∧ RoomAt r F H x D L wv sc s ∧ ∀ (M : Addr) (ts : List Addr) H', H M = none → Same H H' → H' M = some (.lst (ts.map V.ref)) → Lines F H' ts s.ln → Q (.ref M) H'
theorem ok_Room_waiting {P : Program} {w : World} {K : PySem.W.Frag} {mg : Str → Option Value} {base : Heap} {f : Addr} {fd : FuncData} (F0 : Fun K "waiting" "Room.waiting" sRoom_waiting f fd) (T : Txt K mg) {r : Ar} (KR : Kr K mg r) :
    FnOk P w K mg base CX0 1 f fd PRoom_waiting (spRoom_waiting r) := by
  refine F0.ok scRoom_waiting (fun vs H Q E h => ?_) (fun cdv A outer s H vs Q E hr h => ?_)
  · obtain ⟨F, x, D, L, wv, sc, s, rfl, ⟨⟨dx, W, fs, ts, hx, rf, hW, nW, hD, hL, ln⟩, fx, fD, fL⟩, k⟩ := h
    rfl
  · obtain ⟨F, x, D, L, wv, sc, s, rfl, ⟨⟨dx, W, fs, ts, hx, rf, hW, nW, hD, hL, ln⟩, fx, fD, fL⟩, k⟩ := h
    refine ⟨_, (pss_one (ps_ret (pe_callTy call_list_of (by rfl) T.n_list (by decide +kernel) (pa_cons (pe_fld (pv 0) rfl) pa_nil)))), ?_⟩
    exact ⟨_, rfl, x, r.c, dx, fs, _, rfl, hx, KR.cl, KR.nq, rf.q, L, _, rfl, .inl (SqL.of hL), fun M hM => k M ts _ hM (same_new hM) upd_same (ln.kp (KpF.same (same_new hM)))⟩
end k48
namespace k48
open PySem L2 LC RM
def spRoom_join (r : Ar) : Sp := fun vs H Q _ => ∃ (F : Addr → Prop) (x D L : Addr) (wv : List (Key × V)) (sc : Int) (s : RS) (ns : List Str) (z : Str) (c : Int) (u : Option Int), vs = [.ref x, .str z, .int c, uV u] ∧ RoomAt r F H x D L wv sc s ∧ Dic ns s.kv ∧ z ∈ ns ∧ isNam (.str z) = true ∧ z.length ≤ 1000000 ∧ 1 ≤ c ∧ c ≤ 1000 ∧ s.ln.length ≤ 39 ∧ (∀ b, F b → ∃ o, H b = some o) ∧
  ∀ H', KpF (fun b => b = D ∨ b = L) H H' → RoomAt r F H' x D L wv sc (joinS s z c u) → Q .non H'
theorem ok_Room_join {P : Program} {w : World} {K : PySem.W.Frag} {mg : Str → Option Value} {base : Heap} {f : Addr} {fd : FuncData} (F0 : FunD K "join" "Room.join" (defArgs sRoom_join) (defBody sRoom_join) (defScope sRoom_join) [V.non] [] f fd) (T : Txt K mg) {r : Ar} (KR : Kr K mg r) {fcheck_count : Addr} {fdcheck_count : FuncData} (Dcheck_count : Def K mg "check_count" scheck_count Pcheck_count fcheck_count fdcheck_count) (Gcheck_count : FnOk P w K mg base CX0 1 fcheck_count fdcheck_count Pcheck_count (spcheck_count)) {flook_up : Addr} {fdlook_up : FuncData} (Dlook_up : Def K mg "look_up" slook_up Plook_up flook_up fdlook_up) (Glook_up : FnOk P w K mg base CX0 3 flook_up fdlook_up Plook_up (splook_up)) {fcheck_cost : Addr} {fdcheck_cost : FuncData} (Dcheck_cost : Def K mg "check_cost" scheck_cost Pcheck_cost fcheck_cost fdcheck_cost) (Gcheck_cost : FnOk P w K mg base CX0 3 fcheck_cost fdcheck_cost Pcheck_cost (spcheck_cost)) :
    FnOk P w K mg base CX0 4 f fd PRoom_join (spRoom_join r) := by
  refine okD F0 scRoom_join (fun vs H Q E h => ?_) (fun cdv A outer s H vs Q E hr h => ?_)
  · obtain ⟨F, x, D, L, wv, sc, s, ns, z, c, u, rfl, ⟨⟨dx, W, fs, ts, hx, rf, hW, nW, hD, hL, ln⟩, fx, fD, fL⟩, dic, hzn, hz, hl, c0, c1, l39, hF, k⟩ := h
    rfl
  · obtain ⟨F, x, D, L, wv, sc, s, ns, z, c, u, rfl, ⟨⟨dx, W, fs, ts, hx, rf, hW, nW, hD, hL, ln⟩, fx, fD, fL⟩, dic, hzn, hz, hl, c0, c1, l39, hF, k⟩ := h
    have hrcheck_count : Room 1 _ := hr.mono (by decide)
    have hrlook_up : Room 3 _ := hr.mono (by decide)
    have hrcheck_cost : Room 3 _ := hr.mono (by decide)
    obtain ⟨tc_MOST_WAITING, hc_MOST_WAITING⟩ := T.c_MOST_WAITING
    refine ⟨_, (pss_cons (ps_set (i := 4) scRoom_join.nd rfl (Or.inl rfl) (pe_call Glook_up hrlook_up rfl Dlook_up.g Dlook_up.F.kp Dlook_up.b .nil pass0 (pa_cons (pe_fld (pv 0) rfl) (pa_cons (pv 1) pa_nil))))
        (pss_cons (ps_expr (pe_call Gcheck_cost hrcheck_cost rfl Dcheck_cost.g Dcheck_cost.F.kp Dcheck_cost.b .nil pass0 (pa_cons (pv 2) pa_nil)))
        (pss_cons (ps_expr (pe_call Gcheck_count hrcheck_count rfl Dcheck_count.g Dcheck_count.F.kp Dcheck_count.b .nil pass0 (pa_cons pe_str (pa_cons (pe_op op_add (pe_callB call_len_seq (by rfl) T.n_len PySem.boot_len (pa_cons (pe_fld (pv 0) rfl) pa_nil)) pe_int) (pa_cons (pe_gint rfl hc_MOST_WAITING) pa_nil)))))
        (Evl.pss_cut (ps_if (pt_cmpR op_notIn_seq (pv 1) (pe_lc (own := [("other", 5), ("_", 6)]) (g := gTup _ 3 (gCons (gName 5) (gCons (gName 6) (gCons (gName 6) gNil)))) (tt := tYes) rfl scRoom_join.nd (pi_list (pe_fld (pv 0) rfl)) (blkOk_by (own := [("other", 5), ("_", 6)]) (N := NmRoom_join) (sc := defScope sRoom_join) (by decide +kernel)) (fun _ _ _ _ _ => by exact (pg_tup rfl (pgs_cons (pg_name (i := 5) scRoom_join.nd rfl (Or.inl rfl)) (pgs_cons (pg_name (i := 6) scRoom_join.nd rfl (Or.inl rfl)) (pgs_cons (pg_name (i := 6) scRoom_join.nd rfl (Or.inl rfl)) pgs_nil))))) (fun _ _ _ _ _ => pts_nil) (fun _ _ _ _ _ => (pv 5))) (by rfl)) (pss_one (ps_dput (hu_of hr) (pe_fld (pv 0) rfl) (pv 1) (pe_callB (call_max2 rfl) (by rfl) T.n_max (by decide +kernel) (pa_cons (pv 4) (pa_cons (pe_fld (pv 0) rfl) pa_nil))) (by rfl))) pss_nil)
        (pss_one (ps_expr (pe_bm PySem.F.plainAttrs_list PySem.F.slot_list_append PySem.F.type_list_append mt_append (pe_fld (pv 0) rfl) (pa_cons (pe_tup (pa_cons (pv 1) (pa_cons (pv 2) (pa_cons (pv 3) pa_nil)))) pa_nil)))))))), ?_⟩
    have tl : ts.length = s.ln.length := ln.length
    refine ⟨_, rfl, x, r.c, dx, fs, _, rfl, hx, KR.cl, KR.nm, rf.m, _, rfl, z, D, s.kv, _, rfl, hD, hz, hl, dic.2 z hzn, fun H1 s1 => ?_⟩
    have hx1 := s1 _ _ hx
    have hD1 := s1 _ _ hD
    have hL1 := s1 _ _ hL
    refine ⟨_, rfl, c, rfl, c0, c1, ?_⟩
    refine ⟨_, rfl, x, r.c, dx, fs, _, rfl, hx1, KR.cl, KR.nq, rf.q, _, _, rfl, .inl (SqL.of hL1), _, _, rfl, rfl, _, _, _, rfl, by rw [List.length_map, tl]; omega, ?_⟩
    refine ⟨fun σ H' => ∃ v5 v6 : Option V, σ = [some (.ref x), some (.str z), some (.int c), some (uV u), some (.int (markOf s.kv z)), v5, v6] ∧ KpF (fun b => b = D) H H' ∧ H' D = some (.dK (joinS s z c u).kv), ?_, ?_⟩
    · refine ⟨_, rfl, _, rfl, x, r.c, dx, fs, _, rfl, hx1, KR.cl, KR.nq, rf.q, L, rfl, ⟨_, SqL.of hL1⟩, fun T hT => lc_it (walk_list (K := K) (a := L) (xs := ts.map V.ref)) (fun i H' => Same H1 H' ∧ H' T = some (.lst (namesV (s.ln.take i)))) ⟨same_new hT, upd_same⟩ (fun i H' _ ⟨sm, _⟩ => SqL.of (sm _ _ hL1)) ?_ ?_⟩
      · rintro i v H2 H3 hi ⟨sm, hT2⟩ ⟨rfl, e2⟩
        rw [List.length_map] at hi
        obtain ⟨t, ht⟩ : ∃ t, ts[i]? = some t := ⟨_, List.getElem?_eq_getElem hi⟩
        rw [List.getElem?_map, ht] at e2
        cases e2
        obtain ⟨q, hq, nt, rq⟩ := ln.at_ ht
        refine ⟨_, _, rfl, SqT.of (sm _ _ (s1 _ _ rq)), rfl, _, _, rfl, _, _, rfl, _, _, rfl, rfl, rfl, _, rfl, _, hT2, ?_, same_upd hT sm, ?_⟩
        · unfold namesV
          rw [List.length_map, List.length_take]
          exact Nat.lt_of_le_of_lt (Nat.min_le_right _ _) (Nat.lt_of_le_of_lt l39 (by decide))
        · rw [upd_same, List.take_add_one, hq]
          unfold namesV
          rw [List.map_append]
          rfl
      · rintro H2 ⟨sm, hT2⟩
        rw [List.length_map, tl, List.take_length] at hT2
        have s2 := s1.trans sm
        refine ⟨T, _, rfl, .inl (SqL.of hT2), rfl, names_flat _, _, rfl, ?_⟩
        show if (!inV (.str z) (namesV s.ln)) = true then _ else _
        refine ite_nb (fun e => ?_) (fun e => ?_)
        · refine ⟨_, rfl, _, rfl, x, r.c, dx, fs, _, rfl, s2 _ _ hx, KR.cl, KR.nl, rf.l, _, _, rfl, ?_⟩
          refine ⟨_, rfl, x, r.c, dx, fs, _, rfl, s2 _ _ hx, KR.cl, KR.nm, rf.m, _, rfl, D, _, rfl, DPut.k (k := kS z) (s2 _ _ hD) (Nat.lt_of_le_of_lt dic.1 (by decide)), _, _, rfl, (KpF.same s2).upd rfl, ?_⟩
          rw [upd_same]
          show some (HO.dK (putK s.kv (kS z) (.int (maxI (markOf s.kv z) s.lv)))) = some (.dK (if inV (.str z) (namesV s.ln) = true then s.kv else _))
          rw [if_neg (by rw [e]; decide)]
        · refine ⟨_, _, rfl, KpF.same s2, ?_⟩
          show H2 D = some (.dK (if inV (.str z) (namesV s.ln) = true then s.kv else _))
          rw [if_pos e]
          exact s2 _ _ hD
    · rintro σ H2 ⟨v5, v6, rfl, k2, hD2⟩
      have nxD : x ≠ D := fun e => by rw [e, hD] at hx; cases hx
      have nLD : L ≠ D := fun e => by rw [e, hD] at hL; cases hL
      have nxL : x ≠ L := fun e => by rw [e, hL] at hx; cases hx
      have hx2 := k2 _ _ nxD hx
      have hL2 := k2 _ _ nLD hL
      refine ⟨_, rfl, x, r.c, dx, fs, _, rfl, hx2, KR.cl, KR.nq, rf.q, .inl ⟨rfl, _, SqL.of hL2⟩, _, rfl, _, rfl, _, rfl, (by show 3 ≤ sizeLine; decide), fun U hU => ?_⟩
      have kU : KpF (fun b => b = D) H (upd H2 U (.tup [.str z, .int c, uV u])) := k2.new hU
      have sU := same_new (o := .tup [.str z, .int c, uV u]) hU
      have hL3 := sU _ _ hL2
      have nUL : U ≠ L := fun e => by rw [← e, hU] at hL2; cases hL2
      have bU : H U = none ∨ U = D := by
        cases e : H U with
        | none => exact .inl rfl
        | some o =>
          by_cases ed : U = D
          · exact .inr ed
          · rw [k2 _ _ ed e] at hU
            cases hU
      have nUD : U ≠ D := fun e => by rw [← e, hU] at hD2; cases hD2
      have bU := bU.resolve_right nUD
      have nFU : ¬ F U → RowAt F (upd (upd H2 U (.tup [.str z, .int c, uV u])) L (.lst (ts.map V.ref ++ [.ref U]))) U (z, c, u) := fun n => ⟨n, by rw [upd_ne nUL]; exact upd_same⟩
      refine ⟨L, _, .ref U, rfl, rfl, hL3, by rw [List.length_map, tl]; exact Nat.lt_of_le_of_lt l39 (by decide), ?_⟩
      have kf : KpF (fun b => b = D ∨ b = L) H (upd (upd H2 U (.tup [.str z, .int c, uV u])) L (.lst (ts.map V.ref ++ [.ref U]))) := (kU.mono fun b e => .inl e).upd (.inr rfl)
      have fU : ¬ F U := fun e => by
        obtain ⟨o, q⟩ := hF U e
        rw [bU] at q
        cases q
      refine k _ kf ⟨⟨dx, W, fs, ts ++ [U], kf _ _ (fun e => e.elim nxD nxL) hx, rf, kf _ _ (fun e => e.elim (fun e => nW (by rw [e]; exact fD)) fun e => nW (by rw [e]; exact fL)) hW, nW, ?_, ?_, ?_⟩, fx, fD, fL⟩
      · rw [upd_ne (Ne.symm nLD), upd_ne (Ne.symm nUD)]
        exact hD2
      · rw [upd_same, List.map_append]
        rfl
      · exact Paired.snoc (Lines.kp (kf.mono fun b e => e.elim (fun e => by rw [e]; exact fD) fun e => by rw [e]; exact fL) ln) (nFU fU)
end k48
namespace k48
open PySem L2 LC RM
def spRoom_serve (r : Ar) : Sp := fun vs H Q _ => ∃ (F : Addr → Prop) (x D L : Addr) (wv : List (Key × V)) (sc : Int) (s : RS) (ns : List Str), vs = [.ref x] ∧ RoomAt r F H x D L wv sc s ∧ Dic ns s.kv ∧ WDic ns wv ∧ Nms ns ∧ (∀ q ∈ s.ln, q.1 ∈ ns ∧ 1 ≤ q.2.1 ∧ q.2.1 ≤ 1000) ∧ s.ln.length ≤ 40 ∧ 1 ≤ sc ∧ sc ≤ 27720 ∧ s.ln ≠ [] ∧ (∀ b, F b → ∃ o, H b = some o) ∧
  ∀ (j : Nat) (q : Row) (T : Addr) H', headAt s.kv s.ln = some j → s.ln[j]? = some q → KpF (fun b => b = x ∨ b = D ∨ b = L) H H' → RoomAt r F H' x D L wv sc (serveS s sc (markOf wv q.1) j q) → H T = none → H' T = some (.tup [.str q.1, .int q.2.1]) → Q (.ref T) H'
theorem ok_Room_serve {P : Program} {w : World} {K : PySem.W.Frag} {mg : Str → Option Value} {base : Heap} {f : Addr} {fd : FuncData} (F0 : Fun K "serve" "Room.serve" sRoom_serve f fd) (T : Txt K mg) {r : Ar} (KR : Kr K mg r) {fdRhead : FuncData} (GRoom_head : FnOk P w K mg base CX0 1 r.fhead fdRhead PRoom_head (spRoom_head r)) (BRoom_head : Binds K fdRhead PRoom_head []) :
    FnOk P w K mg base CX0 3 f fd PRoom_serve (spRoom_serve r) := by
  refine F0.ok scRoom_serve (fun vs H Q E h => ?_) (fun cdv A outer s H vs Q E hr h => ?_)
  · obtain ⟨F, x, D, L, wv, sc, s, ns, rfl, R, dic, wd, hnm, hn, l40, sc0, sc1, hne, hF, k⟩ := h
    rfl
  · obtain ⟨F, x, D, L, wv, sc, s, ns, rfl, R, dic, wd, hnm, hn, l40, sc0, sc1, hne, hF, k⟩ := h
    have hrP : Room (1 + 1) _ := hr.mono (by decide)
    refine ⟨_, (pss_cons (ps_set (i := 1) scRoom_serve.nd rfl (Or.inl rfl) (pe_prop (pv 0) KR.cl KR.phead GRoom_head hrP BRoom_head .nil pass0 (by rfl)))
        (pss_cons (ps_if (pt_cmpR op_isN (pv 1) pe_non (nomark _)) (pss_one LC.ps_never) pss_nil)
        (pss_cons (ps_asg (pv 1) (pg_tup rfl (pgs_cons (pg_name (i := 2) scRoom_serve.nd rfl (Or.inl rfl)) (pgs_cons (pg_name (i := 3) scRoom_serve.nd rfl (Or.inl rfl)) (pgs_cons (pg_name (i := 4) scRoom_serve.nd rfl (Or.inl rfl)) pgs_nil)))))
        (pss_cons (ps_expr (pe_bm PySem.F.plainAttrs_list PySem.F.slot_list_remove PySem.F.type_list_remove (LD.mt_removeD (LD.u65 hr)) (pe_fld (pv 0) rfl) (pa_cons (pv 1) pa_nil)))
        (pss_cons (ps_fld (pv 0) (pe_dget (hu_of hr) (pe_fld (pv 0) rfl) (pv 2) (fun _ _ => rfl)) rfl)
        (pss_cons (ps_daug (hu_of hr) (pe_fld (pv 0) rfl) (pv 2) (pe_op op_fdivN (pe_op op_mul (pv 3) (pe_fld (pv 0) rfl)) (pe_dget (hu_of hr) (pe_fld (pv 0) rfl) (pv 2) (fun _ _ => rfl))) in_add (fun _ _ _ => rfl))
        (pss_one (ps_ret (pe_tup (pa_cons (pv 2) (pa_cons (pv 3) pa_nil))))))))))), ?_⟩
    obtain ⟨⟨dx, W, fs, ts, hx, rf, hW, nW, hD, hL, ln⟩, fx, fD, fL⟩ := id R
    have tl : ts.length = s.ln.length := ln.length
    refine ⟨_, rfl, x, dx, fs, rfl, hx, F, x, D, L, wv, sc, s, ns, rfl, R, dic, fun q hq => (hn q hq).1, by omega, fun H' e _ => absurd e hne, fun j q t H1 hj hq s1 hts rt => ?_⟩
    have ht := hts ts hL
    obtain ⟨hqn, p0, p1⟩ := hn q (List.mem_of_getElem? hq)
    obtain ⟨w0, w1⟩ := wd.b _ hqn
    have hx1 := s1 _ _ hx
    have hD1 := s1 _ _ hD
    have hL1 := s1 _ _ hL
    have hW1 := s1 _ _ hW
    have ln1 : Lines F H1 ts s.ln := ln.kp (KpF.same s1)
    refine ⟨_, rfl, rfl, _, rfl, iteF ?_⟩
    refine ⟨_, rfl, t, _, rfl, SqT.of rt.2, rfl, _, _, rfl, _, _, rfl, _, _, rfl, rfl, ?_⟩
    have hok : ∀ p ∈ s.ln, PyData.strOk p.1 = true := fun p hp => (nam_ok (hnm _ (hn p hp).1)).1
    refine ⟨_, rfl, x, r.c, dx, fs, _, rfl, hx1, KR.cl, KR.nq, rf.q, .inl ⟨rfl, _, SqL.of hL1⟩, _, rfl, L, _, rowD q, ts.map V.ref, s.ln.map rowD, j, rowD q, rfl, rfl, hL1, ln1.dp, rt.dp, rowsD_shaped hok, rowD_shaped (hok q (List.mem_of_getElem? hq)), by rw [List.getElem?_map, hq]; rfl, by rw [rowD_eqv, decide_eq_true rfl], fun m z' hm hz => ?_, ?_⟩
    · rw [List.getElem?_map] at hz
      cases e : s.ln[m]? with
      | none => rw [e] at hz; cases hz
      | some q' =>
        rw [e] at hz
        cases hz
        rw [rowD_eqv, decide_eq_false (head_first hj hq hm e)]
    have nxD : x ≠ D := fun e => by rw [e, hD] at hx; cases hx
    have nLD : L ≠ D := fun e => by rw [e, hD] at hL; cases hL
    have nxL : x ≠ L := fun e => by rw [e, hL] at hx; cases hx
    have nWF : ∀ b, F b → W ≠ b := fun b fb e => nW (by rw [e]; exact fb)
    rw [map_erase]
    -- the level
    refine ⟨_, rfl, x, r.c, dx, fs, _, rfl, by rw [upd_ne nxL]; exact hx1, KR.cl, KR.nm, rf.m, _, rfl, D, .int (markOf s.kv q.1), rfl, (by rw [← dic.2 _ hqn]; exact DGet.k (k := kS q.1) (by rw [upd_ne (Ne.symm nLD)]; exact hD1)), _, rfl, x, r.c, dx, fs, rfl, by rw [upd_ne nxL]; exact hx1, KR.cl, KR.nl, Nat.lt_of_le_of_lt rf.len (by decide), ?_⟩
    have rf2 := rf.level (markOf s.kv q.1)
    -- the mark
    have eD : upd (upd H1 L (.lst ((ts.eraseIdx j).map V.ref))) x (.ins r.c dx (putF "_level" (.int (markOf s.kv q.1)) fs)) D = some (.dK s.kv) := by rw [upd_ne (Ne.symm nxD), upd_ne (Ne.symm nLD)]; exact hD1
    have eW : upd (upd H1 L (.lst ((ts.eraseIdx j).map V.ref))) x (.ins r.c dx (putF "_level" (.int (markOf s.kv q.1)) fs)) W = some (.dK wv) := by rw [upd_ne (nWF x fx), upd_ne (nWF L fL)]; exact hW1
    have eL : upd (upd H1 L (.lst ((ts.eraseIdx j).map V.ref))) x (.ins r.c dx (putF "_level" (.int (markOf s.kv q.1)) fs)) L = some (.lst ((ts.eraseIdx j).map V.ref)) := by rw [upd_ne (Ne.symm nxL)]; exact upd_same
    have ex : upd (upd H1 L (.lst ((ts.eraseIdx j).map V.ref))) x (.ins r.c dx (putF "_level" (.int (markOf s.kv q.1)) fs)) x = some (.ins r.c dx (putF "_level" (.int (markOf s.kv q.1)) fs)) := upd_same
    have kf : KpF (fun b => b = x ∨ b = D ∨ b = L) H (upd (upd H1 L (.lst ((ts.eraseIdx j).map V.ref))) x (.ins r.c dx (putF "_level" (.int (markOf s.kv q.1)) fs))) := ((KpF.same s1).upd (.inr (.inr rfl))).upd (.inl rfl)
    generalize upd (upd H1 L (.lst ((ts.eraseIdx j).map V.ref))) x (.ins r.c dx (putF "_level" (.int (markOf s.kv q.1)) fs)) = H2 at eD eW eL ex kf ⊢
    refine ⟨_, rfl, x, r.c, dx, _, _, rfl, ex, KR.cl, KR.nm, rf2.m, _, rfl, D, .int (markOf s.kv q.1), rfl, (by rw [← dic.2 _ hqn]; exact DGet.k (k := kS q.1) eD), ?_⟩
    refine ⟨_, rfl, _, rfl, x, r.c, dx, _, _, rfl, ex, KR.cl, KR.ns, rf2.s, _, _, rfl, rfl, .inl ⟨by omega, by omega⟩, _, rfl, x, r.c, dx, _, _, rfl, ex, KR.cl, KR.nw, rf2.w, _, rfl, W, .int (markOf wv q.1), rfl, (by rw [← wd.d.2 _ hqn]; exact DGet.k (k := kS q.1) eW), _, _, rfl, rfl, ?_⟩
    refine ⟨⟨by omega, by omega⟩, _, _, rfl, rfl, ?_⟩
    refine ⟨_, DPut.k (k := kS q.1) eD (Nat.lt_of_le_of_lt dic.1 (by decide)), ?_⟩
    refine ⟨_, rfl, _, rfl, (by show 2 ≤ sizeLine; decide), fun T hT => ?_⟩
    have kD : KpF (fun b => b = x ∨ b = D ∨ b = L) H (upd H2 D (.dK (putK s.kv (kS q.1) (.int (markOf s.kv q.1 + (q.2.1 * sc).fdiv (markOf wv q.1)))))) := kf.upd (.inr (.inl rfl))
    have exD : upd H2 D (.dK (putK s.kv (kS q.1) (.int (markOf s.kv q.1 + (q.2.1 * sc).fdiv (markOf wv q.1))))) x = some (.ins r.c dx (putF "_level" (.int (markOf s.kv q.1)) fs)) := by rw [upd_ne nxD]; exact ex
    have eLD : upd H2 D (.dK (putK s.kv (kS q.1) (.int (markOf s.kv q.1 + (q.2.1 * sc).fdiv (markOf wv q.1))))) L = some (.lst ((ts.eraseIdx j).map V.ref)) := by rw [upd_ne nLD]; exact eL
    have eDD : upd H2 D (.dK (putK s.kv (kS q.1) (.int (markOf s.kv q.1 + (q.2.1 * sc).fdiv (markOf wv q.1))))) D = some (.dK (putK s.kv (kS q.1) (.int (markOf s.kv q.1 + (q.2.1 * sc).fdiv (markOf wv q.1))))) := upd_same
    generalize upd H2 D (.dK (putK s.kv (kS q.1) (.int (markOf s.kv q.1 + (q.2.1 * sc).fdiv (markOf wv q.1))))) = H3 at kD exD eLD eDD hT ⊢
    have sT := same_new (o := .tup [.str q.1, .int q.2.1]) hT
    have kT : KpF (fun b => b = x ∨ b = D ∨ b = L) H (upd H3 T (.tup [.str q.1, .int q.2.1])) := kD.new hT
    have sub : ∀ b, (b = x ∨ b = D ∨ b = L) → F b := fun b z => by
      rcases z with z | z | z <;> rw [z]
      · exact fx
      · exact fD
      · exact fL
    have hT0 : H T = none := by
      cases e : H T with
      | none => rfl
      | some o =>
        by_cases eT : T = x ∨ T = D ∨ T = L
        · rcases eT with z | z | z
          · rw [z, exD] at hT; cases hT
          · rw [z, eDD] at hT; cases hT
          · rw [z, eLD] at hT; cases hT
        · rw [kD _ _ eT e] at hT
          cases hT
    refine k j q T _ hj hq kT ⟨⟨dx, W, _, ts.eraseIdx j, sT _ _ exD, rf2, kT _ _ (fun z => nW (sub W z)) hW, nW, sT _ _ eDD, sT _ _ eLD, (Lines.kp (kT.mono sub) (pair_erase ln j))⟩, fx, fD, fL⟩ hT0 upd_same
end k48
namespace k48
open PySem L2 LC RM
def stays (rd : Int) (q : Row) : Bool := match q.2.2 with
  | none => true
  | some u => decide (rd ≤ u)
def leaveS (s : RS) (rd : Int) : RS := ⟨s.kv, s.lv, s.ln.filter (stays rd)⟩
def goneV (s : RS) (rd : Int) : List V := namesV (s.ln.filter fun q => !stays rd q)
def spRoom_leave (r : Ar) : Sp := fun vs H Q _ => ∃ (F : Addr → Prop) (x D L : Addr) (wv : List (Key × V)) (sc : Int) (s : RS) (rd : Int), vs = [.ref x, .int rd] ∧ RoomAt r F H x D L wv sc s ∧ s.ln.length ≤ 40 ∧ (∀ b, F b → ∃ o, H b = some o) ∧
  ∀ (M T : Addr) H', H M = none → H T = none → M ≠ T → KpF (fun b => b = x) H H' → RoomAt r (fun b => F b ∨ b = M) H' x D M wv sc (leaveS s rd) → H' T = some (.lst (goneV s rd)) → Q (.ref T) H'
theorem ok_Room_leave {P : Program} {w : World} {K : PySem.W.Frag} {mg : Str → Option Value} {base : Heap} {f : Addr} {fd : FuncData} (F0 : Fun K "leave" "Room.leave" sRoom_leave f fd) (T : Txt K mg) {r : Ar} (KR : Kr K mg r) :
    FnOk P w K mg base CX0 1 f fd PRoom_leave (spRoom_leave r) := by
  refine F0.ok scRoom_leave (fun vs H Q E h => ?_) (fun cdv A outer s H vs Q E hr h => ?_)
  · obtain ⟨F, x, D, L, wv, sc, s, rd, rfl, ⟨⟨dx, W, fs, ts, hx, rf, hW, nW, hD, hL, ln⟩, fx, fD, fL⟩, l40, hF, k⟩ := h
    rfl
  · obtain ⟨F, x, D, L, wv, sc, s, rd, rfl, ⟨⟨dx, W, fs, ts, hx, rf, hW, nW, hD, hL, ln⟩, fx, fD, fL⟩, l40, hF, k⟩ := h
    refine ⟨_, (pss_cons (ps_setLc (i := 2) (own := [("customer", 3), ("_", 4), ("until", 5)]) (g := gTup _ 3 (gCons (gName 3) (gCons (gName 4) (gCons (gName 5) gNil)))) rfl scRoom_leave.nd rfl rfl (sw_true rfl rfl rfl (by decide +kernel)) (pi_list (pe_fld (pv 0) rfl)) (blkOk_by (own := [("customer", 3), ("_", 4), ("until", 5)]) (N := NmRoom_leave) (sc := defScope sRoom_leave) (by decide +kernel)) (fun _ _ _ _ _ => by exact (pg_tup rfl (pgs_cons (pg_name (i := 3) scRoom_leave.nd rfl (Or.inl rfl)) (pgs_cons (pg_name (i := 4) scRoom_leave.nd rfl (Or.inl rfl)) (pgs_cons (pg_name (i := 5) scRoom_leave.nd rfl (Or.inl rfl)) pgs_nil))))) (fun _ _ _ _ _ => pts_one (PW.pt (pw_and (pt_cmpR op_notN (pv 5) pe_non (nomark _)) (pw_and1 (pt_cmpR op_lt (pv 5) (pv 1) (nomark _)))))) (fun _ _ _ _ _ => (pv 3)))
        (pss_cons (ps_fld (pv 0) (pe_lc (own := [("row", 6)]) (g := gName 6) rfl scRoom_leave.nd (pi_list (pe_fld (pv 0) rfl)) (blkOk_by (own := [("row", 6)]) (N := NmRoom_leave) (sc := defScope sRoom_leave) (by decide +kernel)) (fun _ _ _ _ _ => pg_name (i := 6) scRoom_leave.nd rfl (Or.inl rfl)) (fun _ _ _ _ _ => pts_one (PW.pt (pw_or (pt_cmpR op_isN (pe_ix (show IxR _ (rIxT K) from ix_tup) (pv 6) pe_int (fun _ _ => rfl)) pe_non (nomark _)) (pw_or1 (pt_cmpR op_ge (pe_ix (show IxR _ (rIxT K) from ix_tup) (pv 6) pe_int (fun _ _ => rfl)) (pv 1) (nomark _)))))) (fun _ _ _ _ _ => (pv 6))) rfl)
        (pss_one (ps_ret (pv 2))))), ?_⟩
    have tl : ts.length = s.ln.length := ln.length
    refine ⟨_, rfl, x, r.c, dx, fs, _, rfl, hx, KR.cl, KR.nq, rf.q, L, rfl, ⟨_, SqL.of hL⟩, fun T hT => lc_it (walk_list (K := K) (a := L) (xs := ts.map V.ref)) (fun i H' => Same H H' ∧ H' T = some (.lst (namesV ((s.ln.take i).filter fun q => !stays rd q)))) ⟨same_new hT, upd_same⟩ (fun i H' _ ⟨sm, _⟩ => SqL.of (sm _ _ hL)) ?_ ?_⟩
    · rintro i v H2 H3 hi ⟨sm, hT2⟩ ⟨rfl, e2⟩
      rw [List.length_map] at hi
      obtain ⟨t, ht⟩ : ∃ t, ts[i]? = some t := ⟨_, List.getElem?_eq_getElem hi⟩
      rw [List.getElem?_map, ht] at e2
      cases e2
      obtain ⟨q, hq, nt, rq⟩ := ln.at_ ht
      have et : (s.ln.take (i + 1)).filter (fun q => !stays rd q) = (s.ln.take i).filter (fun q => !stays rd q) ++ (if stays rd q = false then [q] else []) := by
        rw [List.take_add_one, hq, List.filter_append]
        cases e : stays rd q <;> simp [e]
      refine ⟨_, _, rfl, SqT.of (sm _ _ rq), rfl, _, _, rfl, _, _, rfl, _, _, rfl, rfl, rfl, ?_⟩
      have ln' : (namesV ((s.ln.take i).filter fun q => !stays rd q)).length < sizeLine := by
        unfold namesV
        rw [List.length_map]
        have a1 := List.length_filter_le (fun q => !stays rd q) (s.ln.take i)
        rw [List.length_take] at a1
        exact Nat.lt_of_le_of_lt (show _ ≤ 40 by omega) (by decide)
      have yes : stays rd q = false → ∃ acc, H3 T = some (.lst acc) ∧ acc.length < sizeLine ∧ Same H (upd H3 T (.lst (acc ++ [.str q.1]))) ∧ upd H3 T (.lst (acc ++ [.str q.1])) T = some (.lst (namesV ((s.ln.take (i + 1)).filter fun q => !stays rd q))) := fun e =>
        ⟨_, hT2, ln', same_upd hT sm, by rw [upd_same, et, if_pos e]; unfold namesV; rw [List.map_append]; rfl⟩
      have no : stays rd q = true → Same H H3 ∧ H3 T = some (.lst (namesV ((s.ln.take (i + 1)).filter fun q => !stays rd q))) := fun e =>
        ⟨sm, by rw [et, if_neg (by rw [e]; decide), List.append_nil]; exact hT2⟩
      obtain ⟨z, c, u⟩ := q
      cases u with
      | none => exact ⟨_, rfl, rfl, _, rfl, iteF (iteF (no rfl))⟩
      | some u =>
        refine ⟨_, rfl, rfl, _, rfl, iteT ⟨_, rfl, _, rfl, _, _, rfl, rfl, _, rfl, ?_⟩⟩
        refine ite_d (fun h => ?_) (fun h => ?_)
        · exact ⟨_, rfl, yes (decide_eq_false (by omega))⟩
        · exact no (decide_eq_true (by omega))
    · rintro H1 ⟨s1, hT1⟩
      rw [List.length_map, tl, List.take_length] at hT1
      have hx1 := s1 _ _ hx
      have hL1 := s1 _ _ hL
      have nxT : x ≠ T := fun e => by rw [← e, hx] at hT; cases hT
      refine ⟨_, rfl, x, r.c, dx, fs, _, rfl, hx1, KR.cl, KR.nq, rf.q, L, rfl, ⟨_, SqL.of hL1⟩, fun M hM => lc_it (walk_list (K := K) (a := L) (xs := ts.map V.ref)) (fun i H' => Same H1 H' ∧ ∃ us : List Addr, H' M = some (.lst (us.map V.ref)) ∧ us.length ≤ i ∧ Lines F H us ((s.ln.take i).filter (stays rd))) ⟨same_new hM, [], upd_same, Nat.le_refl _, .nil⟩ (fun i H' _ ⟨sm, _⟩ => SqL.of (sm _ _ hL1)) ?_ ?_⟩
      · rintro i v H2 H3 hi ⟨sm, us, hM2, ul, us2⟩ ⟨rfl, e2⟩
        rw [List.length_map] at hi
        obtain ⟨t, ht⟩ : ∃ t, ts[i]? = some t := ⟨_, List.getElem?_eq_getElem hi⟩
        rw [List.getElem?_map, ht] at e2
        cases e2
        obtain ⟨q, hq, nt, rq⟩ := ln.at_ ht
        have et : (s.ln.take (i + 1)).filter (stays rd) = (s.ln.take i).filter (stays rd) ++ (if stays rd q = true then [q] else []) := by
          rw [List.take_add_one, hq, List.filter_append]
          cases e : stays rd q <;> simp [e]
        have hr : SqT K H3 t (rowV q) := SqT.of (sm _ _ (s1 _ _ rq))
        have yes : stays rd q = true → ∃ acc, H3 M = some (.lst acc) ∧ acc.length < sizeLine ∧ Same H1 (upd H3 M (.lst (acc ++ [.ref t]))) ∧ ∃ us : List Addr, upd H3 M (.lst (acc ++ [.ref t])) M = some (.lst (us.map V.ref)) ∧ us.length ≤ i + 1 ∧ Lines F H us ((s.ln.take (i + 1)).filter (stays rd)) := fun e =>
          ⟨_, hM2, by rw [List.length_map]; exact Nat.lt_of_le_of_lt (show _ ≤ 40 by omega) (by decide), same_upd hM sm, us ++ [t], by rw [upd_same, List.map_append]; rfl, by rw [List.length_append]; exact Nat.succ_le_succ ul, by rw [et, if_pos e]; exact Paired.snoc us2 ⟨nt, rq⟩⟩
        have no : stays rd q = false → Same H1 H3 ∧ ∃ us : List Addr, H3 M = some (.lst (us.map V.ref)) ∧ us.length ≤ i + 1 ∧ Lines F H us ((s.ln.take (i + 1)).filter (stays rd)) := fun e =>
          ⟨sm, us, hM2, Nat.le_succ_of_le ul, by rw [et, if_neg (by rw [e]; decide), List.append_nil]; exact us2⟩
        obtain ⟨z, c, u⟩ := q
        cases u with
        | none => exact ⟨rfl, _, rfl, _, _, _, _, rfl, rfl, hr, rfl, rfl, _, rfl, iteT (iteT ⟨_, rfl, yes rfl⟩)⟩
        | some u =>
          refine ⟨rfl, _, rfl, _, _, _, _, rfl, rfl, hr, rfl, rfl, _, rfl, iteF ⟨_, rfl, _, _, _, _, rfl, rfl, hr, rfl, _, rfl, _, _, rfl, rfl, _, rfl, ?_⟩⟩
          refine ite_d (fun h => ?_) (fun h => ?_)
          · exact ⟨_, rfl, yes (decide_eq_true h)⟩
          · exact no (decide_eq_false h)
      · rintro H2 ⟨s2, us, hM2, ul, us2⟩
        rw [List.length_map, tl, List.take_length] at us2
        have s12 := s1.trans s2
        have hM0 : H M = none := s1.free hM
        have nMT : M ≠ T := fun e => by rw [e, hT1] at hM; cases hM
        have nxM : x ≠ M := fun e => by rw [← e, hx1] at hM; cases hM
        have nWx : W ≠ x := fun e => nW (by rw [e]; exact fx)
        have nDx : D ≠ x := fun e => by rw [e, hx] at hD; cases hD
        refine ⟨_, rfl, x, r.c, dx, fs, rfl, s12 _ _ hx, KR.cl, KR.nq, Nat.lt_of_le_of_lt rf.len (by decide), _, rfl, ?_⟩
        have kf : KpF (fun b => b = x) H (upd H2 x (.ins r.c dx (putF "_waiting" (.ref M) fs))) := (KpF.same s12).upd rfl
        have nFM : ∀ b o, H b = some o → b ≠ M := fun b o e z => by rw [z, hM0] at e; cases e
        refine k M T _ hM0 hT nMT kf ⟨⟨dx, W, _, us, upd_same, rf.line M, kf _ _ nWx hW, fun z => z.elim nW (nFM _ _ hW), kf _ _ nDx hD, by rw [upd_ne (Ne.symm nxM)]; exact hM2, ?_⟩, .inl fx, .inl fD, .inr rfl⟩ (by rw [upd_ne (Ne.symm nxT)]; exact s2 _ _ hT1)
        refine us2.mono fun t q ⟨n, h⟩ => ⟨fun z => z.elim n (nFM _ _ h), kf _ _ (fun z => by rw [z, hx] at h; cases h) h⟩
end k48
namespace k48
open PySem L2 LC RM
def spbag (K : PySem.W.Frag) : Sp := fun vs H Q _ => ∃ (a : Addr) (ns : List Int), vs = [.ref a] ∧ SqL K H a (ns.map V.int) ∧ ns.length ≤ 63 ∧ ∀ g H', H g = none → Same H H' → (∃ l, Bag l H' g) → Q (.ref g) H'
theorem ok_bag {P : Program} {w : World} {K : PySem.W.Frag} {mg : Str → Option Value} {base : Heap} {f : Addr} {fd : FuncData} (D : Def K mg "_law_bag" sbag Pbag f fd) (T : Txt K mg) :
    FnOk P w K mg base CX0 1 f fd Pbag (spbag K) := by
  refine D.F.ok scbag (fun vs H Q E h => ?_) (fun cdv A outer s H vs Q E hr h => ?_)
  · obtain ⟨a, ns, rfl, hS, hl, k⟩ := h
    rfl
  · obtain ⟨a, ns, rfl, hS, hl, k⟩ := h
    refine ⟨_, (pss_cons (ps_set (i := 1) scbag.nd rfl (Or.inl rfl) pe_int)
        (pss_cons (ps_for PassesOwn.never rfl (pi_list (pe_slice sl_list (pv 0) po_none (po_some pe_int))) (pg_name (i := 2) scbag.nd rfl (Or.inl rfl))
          (pss_one (ps_set (i := 1) scbag.nd rfl (Or.inl rfl) (pe_op op_mod (pe_callTy call_int1 (by rfl) T.n_int (by decide +kernel) (pa_cons (pe_op op_add (pe_op op_add (pe_op op_mul (pv 1) pe_int) (pe_op op_mod (pe_callTy call_int1 (by rfl) T.n_int (by decide +kernel) (pa_cons (pv 2) pa_nil)) pe_int)) pe_int) pa_nil)) pe_int))))
        (pss_one (ps_ret (pe_lst (pa_cons (pe_callTy call_list_of (by rfl) T.n_list (by decide +kernel) (pa_cons (pe_slice sl_list (pv 0) po_none (po_some pe_int)) pa_nil)) (pa_cons pe_int (pa_cons pe_int (pa_cons (pv 1) (pa_cons pe_int pa_nil)))))))))), ?_⟩
    obtain ⟨ms, hms, hml⟩ := cut_ints ns none (some 63)
    refine ⟨_, rfl, _, rfl, a, _, rfl, hS, fun p hp => ?_⟩
    rw [hms]
    have s1 : Same H (upd H p (.lst (ms.map V.int))) := same_new hp
    refine ⟨p, rfl, ⟨_, SqL.of upd_same⟩, for_list (K := K) (a := p) (xs := ms.map V.int) (fun i σ H' => ∃ (s : Int) (v : Option V), σ = [some (.ref a), some (.int s), v] ∧ 0 ≤ s ∧ s < 2147483629 ∧ Same (upd H p (.lst (ms.map V.int))) H')
      ⟨13398, none, rfl, by decide, by decide, Same.refl _⟩ (fun i σ H' _ ⟨_, _, _, _, _, R⟩ => R.seq (SqL.of upd_same)) ?_ ?_⟩
    · rintro i y σ H' hi ⟨s, v, rfl, h1, h2, R⟩
      obtain ⟨u, rfl⟩ := int_of hi
      refine ⟨_, rfl, _, _, rfl, rfl, .inr ⟨by decide, by decide⟩, _, rfl, .inl ⟨_, rfl, _, _, rfl, rfl, (by show (0 : Int) < 2147483587; decide), _, _, rfl, rfl, _, _, rfl, rfl, .inl ⟨_, rfl, _, _, rfl, rfl, (by show (0 : Int) < 2147483629; decide), ?_⟩⟩⟩
      refine ⟨_, _, rfl, Int.emod_nonneg _ (by decide), Int.emod_lt_of_pos _ (by decide), R⟩
    · rintro σ H' ⟨s, v, rfl, h1, h2, R⟩
      refine ⟨_, rfl, _, rfl, a, _, rfl, (s1.trans R).seq hS, fun q hq => ?_⟩
      rw [hms]
      refine ⟨q, _, rfl, .inl (SqL.of upd_same), fun l hl' => ?_⟩
      refine ⟨_, rfl, (by show 5 ≤ sizeLine; decide), fun g hg => ?_⟩
      have r1 : Same H' (upd H' q (.lst (ms.map V.int))) := same_new hq
      have r2 := same_new (o := .lst (ms.map V.int)) hl'
      have r3 := same_new (o := .lst [V.ref l, V.int 0, V.int 0, V.int s, V.int 0]) hg
      refine k g _ (s1.free (R.free (r1.free (r2.free hg)))) (s1.trans (R.trans (r1.trans (r2.trans r3)))) ?_
      have ne : l ≠ g := fun e => by
        rw [← e, upd_same] at hg
        cases hg
      exact ⟨l, ms, 0, 0, s, 0, upd_same, ne, by rw [upd_ne ne]; exact upd_same, Int.le_refl _, Int.natCast_nonneg _, Int.le_refl _, h1, h2⟩
end k48
namespace k48
open PySem L2 LC RM
def spdraw : Sp := fun vs H Q _ => ∃ (g l : Addr) (n : Int), vs = [.ref g, .int n] ∧ Bag l H g ∧ 0 < n ∧ n < 1073741824 ∧ ∀ (d : Int) (H' : Hp), 0 ≤ d → d < n → Ok g l H H' → Q (.int d) H'
theorem ok_draw {P : Program} {w : World} {K : PySem.W.Frag} {mg : Str → Option Value} {base : Heap} {f : Addr} {fd : FuncData} (D : Def K mg "_law_draw" sdraw Pdraw f fd) (T : Txt K mg) :
    FnOk P w K mg base CX0 1 f fd Pdraw (spdraw) := by
  refine D.F.ok scdraw (fun vs H Q E h => ?_) (fun cdv A outer s H vs Q E hr h => ?_)
  · obtain ⟨g, l, n, rfl, B, n0, n1, k⟩ := h
    rfl
  · obtain ⟨g, l, n, rfl, B, n0, n1, k⟩ := h
    refine ⟨_, (pss_cons (ps_asg (pe_op op_add (pe_ix ix_list (pv 0) pe_int (fun _ _ => rfl)) pe_int) (pg_sub (pv 0) pe_int set_list))
        (Evl.pss_cut (ps_if (PW.pt (pw_and (pt_cmpR op_eq (pe_ix ix_list (pv 0) pe_int (fun _ _ => rfl)) pe_int (nomark _)) (pw_and1 (pt_cmpR op_lt (pe_ix ix_list (pv 0) pe_int (fun _ _ => rfl)) (pe_callB call_len (by rfl) T.n_len PySem.boot_len (pa_cons (pe_ix ix_list (pv 0) pe_int (fun _ _ => rfl)) pa_nil)) (nomark _))))) (pss_cons (ps_set (i := 2) scdraw.nd rfl (Or.inl rfl) (pe_ix ix_list (pe_ix ix_list (pv 0) pe_int (fun _ _ => rfl)) (pe_ix ix_list (pv 0) pe_int (fun _ _ => rfl)) (fun _ _ => rfl)))
        (pss_cons (ps_asg (pe_op op_add (pe_ix ix_list (pv 0) pe_int (fun _ _ => rfl)) pe_int) (pg_sub (pv 0) pe_int set_list))
        (pss_one (ps_if (pt_cmpR op_ge (pv 2) (pe_op op_pow pe_int pe_int) (nomark _)) (pss_one (ps_asg (pv 2) (pg_sub (pv 0) pe_int set_list))) (pss_one (ps_asg (pe_op op_mod (pe_callTy call_int1 (by rfl) T.n_int (by decide +kernel) (pa_cons (pe_op op_add (pe_op op_add (pe_op op_mul (pe_ix ix_list (pv 0) pe_int (fun _ _ => rfl)) pe_int) (pe_op op_mul (pe_op op_mod (pe_callTy call_int1 (by rfl) T.n_int (by decide +kernel) (pa_cons (pv 2) pa_nil)) pe_int) pe_int)) pe_int) pa_nil)) pe_int) (pg_sub (pv 0) pe_int set_list))))))) pss_nil)
        (pss_cons (ps_if (pt_cmpR op_gt (pe_ix ix_list (pv 0) pe_int (fun _ _ => rfl)) pe_int (nomark _)) (pss_cons (ps_set (i := 3) scdraw.nd rfl (Or.inl rfl) (pe_op op_modN (pe_callTy call_int1 (by rfl) T.n_int (by decide +kernel) (pa_cons (pe_ix ix_list (pv 0) pe_int (fun _ _ => rfl)) pa_nil)) (pv 1)))
        (pss_cons (ps_asg (pe_op op_fdivN (pe_ix ix_list (pv 0) pe_int (fun _ _ => rfl)) (pv 1)) (pg_sub (pv 0) pe_int set_list))
        (pss_one (ps_ret (pv 3))))) pss_nil)
        (pss_cons (ps_asg (pe_op op_mod (pe_callTy call_int1 (by rfl) T.n_int (by decide +kernel) (pa_cons (pe_op op_add (pe_op op_add (pe_op op_pow (pe_ix ix_list (pv 0) pe_int (fun _ _ => rfl)) pe_int) (pe_op op_mul (pe_ix ix_list (pv 0) pe_int (fun _ _ => rfl)) pe_int)) pe_int) pa_nil)) pe_int) (pg_sub (pv 0) pe_int set_list))
        (pss_one (ps_ret (pe_op op_modN (pe_callTy call_int1 (by rfl) T.n_int (by decide +kernel) (pa_cons (pe_op op_add (pe_op op_fdiv (pe_ix ix_list (pv 0) pe_int (fun _ _ => rfl)) pe_int) (pe_op op_mul (pe_op op_mod (pe_callTy call_int1 (by rfl) T.n_int (by decide +kernel) (pa_cons (pe_ix ix_list (pv 0) pe_int (fun _ _ => rfl)) pa_nil)) pe_int) pe_int)) pa_nil)) (pv 1)))))))), ?_⟩
    obtain ⟨ns, i, d, s, c, hg, lg, hl, i0, i1, d0, s0, s1⟩ := id B
    have up : ∀ (i' d' s' c' : Int) (H1 : Hp), Kp g H H1 → H1 l = some (.lst (ns.map V.int)) → Kp g H (upd H1 g (.lst [.ref l, .int i', .int d', .int s', .int c'])) ∧ upd H1 g (.lst [.ref l, .int i', .int d', .int s', .int c']) l = some (.lst (ns.map V.int)) :=
      fun i' d' s' c' H1 r q => ⟨r.bag, by rw [upd_ne lg]; exact q⟩
    -- b[4] = b[4] + 1
    refine ⟨_, rfl, _, _, _, _, rfl, rfl, SqL.of hg, rfl, _, _, rfl, rfl, _, rfl, g, _, _, 4, rfl, rfl, hg, rfl, ?_⟩
    obtain ⟨K1, L1⟩ := up i d s (c + 1) H (Kp.refl g H) hl
    -- the joined ways
    refine ⟨fun σ H' => ∃ (i' d' s' : Int) (v w : Option V), σ = [some (.ref g), some (.int n), v, w] ∧ H' g = some (.lst [.ref l, .int i', .int d', .int s', .int (c + 1)]) ∧ Kp g H H' ∧ H' l = some (.lst (ns.map V.int)) ∧ 0 ≤ i' ∧ i' ≤ ns.length ∧ 0 ≤ d' ∧ 0 ≤ s' ∧ s' < 2147483629, ?_, ?_⟩
    · refine ⟨_, rfl, _, _, _, _, rfl, rfl, SqL.of upd_same, rfl, rfl, _, rfl, ?_⟩
      refine ite_eq (fun e1 => ?_) (fun e1 => ?_)
      · refine ⟨_, rfl, _, _, _, _, rfl, rfl, SqL.of upd_same, rfl, _, rfl, _, _, _, _, rfl, rfl, SqL.of upd_same, rfl, _, _, rfl, .inl ⟨_, SqL.of L1, rfl⟩, _, _, rfl, rfl, _, rfl, ?_⟩
        refine ite_d (fun e2 => ?_) (fun e2 => ?_)
        · rw [List.length_map] at e2
          obtain ⟨j, rfl⟩ : ∃ j : Nat, i = (j : Int) := ⟨i.toNat, by omega⟩
          have hj : j < ns.length := by omega
          have hx : (ns.map V.int)[j]? = some (V.int ns[j]) := by rw [List.getElem?_map, List.getElem?_eq_getElem hj]; rfl
          -- item = b[0][b[1]]; b[1] = b[1] + 1
          refine ⟨_, rfl, _, _, _, _, rfl, rfl, SqL.of upd_same, rfl, _, rfl, _, _, _, _, rfl, rfl, SqL.of upd_same, rfl, _, _, _, _, rfl, rfl, SqL.of L1, atI_nat hx, ?_⟩
          refine ⟨_, rfl, _, _, _, _, rfl, rfl, SqL.of upd_same, rfl, _, _, rfl, rfl, _, rfl, g, _, _, 1, rfl, rfl, upd_same, rfl, ?_⟩
          obtain ⟨K2, L2⟩ := up ((j : Int) + 1) d s (c + 1) _ K1 L1
          refine ⟨_, rfl, _, _, rfl, rfl, ⟨by decide, by decide, by decide⟩, _, _, rfl, rfl, _, rfl, ?_⟩
          refine ite_d (fun e3 => ?_) (fun e3 => ?_)
          · refine ⟨_, rfl, _, rfl, g, _, _, 2, rfl, rfl, upd_same, rfl, ?_⟩
            obtain ⟨K3, L3⟩ := up ((j : Int) + 1) ns[j] s (c + 1) _ K2 L2
            exact ⟨_, _, _, _, _, rfl, upd_same, K3, L3, by omega, by omega, Int.le_trans (by decide) e3, s0, s1⟩
          · refine ⟨_, rfl, _, _, _, _, rfl, rfl, SqL.of upd_same, rfl, _, _, rfl, rfl, .inr ⟨by decide, by decide⟩, _, rfl, .inl ⟨_, rfl, _, _, rfl, rfl, (by show (0 : Int) < 2147483549; decide), _, _, rfl, rfl, .inr ⟨by decide, by decide⟩, _, _, rfl, rfl, _, _, rfl, rfl, .inl ⟨_, rfl, _, _, rfl, rfl, (by show (0 : Int) < 2147483629; decide), ?_⟩⟩⟩
            refine ⟨_, rfl, g, _, _, 3, rfl, rfl, upd_same, rfl, ?_⟩
            obtain ⟨K3, L3⟩ := up ((j : Int) + 1) d ((s * 69621 + ns[j] % 2147483549 * 30103 + 89) % 2147483629) (c + 1) _ K2 L2
            exact ⟨_, _, _, _, _, rfl, upd_same, K3, L3, by omega, by omega, d0, Int.emod_nonneg _ (by decide), Int.emod_lt_of_pos _ (by decide)⟩
        · exact ⟨_, _, _, _, _, rfl, upd_same, K1, L1, i0, i1, d0, s0, s1⟩
      · refine iteF ?_
        exact ⟨_, _, _, _, _, rfl, upd_same, K1, L1, i0, i1, d0, s0, s1⟩
    · rintro σ H' ⟨i', d', s', v, w, rfl, hg', K1, L1, i0, i1, d0, s0, s1⟩
      have bag : ∀ (d'' s'' : Int), 0 ≤ d'' → 0 ≤ s'' → s'' < 2147483629 → Bag l (upd H' g (.lst [.ref l, .int i', .int d'', .int s'', .int (c + 1)])) g := fun d'' s'' h1 h2 h3 =>
        ⟨ns, i', d'', s'', c + 1, upd_same, lg, by rw [upd_ne lg]; exact L1, i0, i1, h1, h2, h3⟩
      refine ⟨_, rfl, _, _, _, _, rfl, rfl, SqL.of hg', rfl, _, _, rfl, rfl, _, rfl, ?_⟩
      refine ite_d (fun e1 => ?_) (fun e1 => ?_)
      · refine ⟨_, rfl, _, _, _, _, rfl, rfl, SqL.of hg', rfl, .inl ⟨_, rfl, _, rfl, _, _, rfl, rfl, (by omega), ?_⟩⟩
        refine ⟨_, rfl, _, _, _, _, rfl, rfl, SqL.of hg', rfl, _, rfl, _, _, rfl, rfl, ⟨by omega, by omega⟩, _, rfl, g, _, _, 2, rfl, rfl, hg', rfl, _, rfl, ?_⟩
        refine k _ _ (fmod_nn _ n0) (fmod_lt _ n0) ⟨B, K1.bag, bag _ s' ?_ s0 s1⟩
        rw [Int.fdiv_eq_ediv_of_nonneg _ (Int.le_of_lt n0)]
        exact Int.ediv_nonneg d0 (Int.le_of_lt n0)
      · refine ⟨_, rfl, _, _, _, _, rfl, rfl, SqL.of hg', rfl, _, _, rfl, rfl, ⟨by decide, by decide, by omega⟩, _, rfl, _, _, _, _, rfl, rfl, SqL.of hg', rfl, _, _, rfl, rfl, .inr ⟨by decide, by decide⟩, _, _, rfl, rfl, _, _, rfl, rfl, .inl ⟨_, rfl, _, _, rfl, rfl, (by show (0 : Int) < 2147483629; decide), ?_⟩⟩
        refine ⟨_, rfl, g, _, _, 3, rfl, rfl, hg', rfl, ?_⟩
        refine ⟨_, rfl, _, _, _, _, rfl, rfl, SqL.of upd_same, rfl, _, _, rfl, rfl, ⟨by decide, by decide⟩, _, rfl, _, _, _, _, rfl, rfl, SqL.of upd_same, rfl, .inl ⟨_, rfl, _, _, rfl, rfl, (by show (0 : Int) < 7901; decide), _, _, rfl, rfl, .inr ⟨by decide, by decide⟩, _, _, rfl, rfl, .inl ⟨_, rfl, _, rfl, _, _, rfl, rfl, (by omega), ?_⟩⟩⟩
        exact k _ _ (fmod_nn _ n0) (fmod_lt _ n0) ⟨B, K1.bag, bag d' _ d0 (Int.emod_nonneg _ (by decide)) (Int.emod_lt_of_pos _ (by decide))⟩
end k48
namespace k48
open PySem L2 LC RM
inductive Src (K : PySem.W.Frag) (g : Addr) (H : Hp) : V → (V → Prop) → Prop where
  | lst {a : Addr} {xs : List V} (h : SqL K H a xs) (n : a ≠ g) (h0 : 0 < xs.length) (h1 : xs.length ≤ 1000000) : Src K g H (.ref a) fun x => x ∈ xs
  | tup {a : Addr} {xs : List V} (h : SqT K H a xs) (n : a ≠ g) (h0 : 0 < xs.length) (h1 : xs.length ≤ 1000000) : Src K g H (.ref a) fun x => x ∈ xs
  | str {z : Str} (h0 : 0 < z.length) (h1 : z.length ≤ 1000000) : Src K g H (.str z) fun x => ∃ c ∈ z.cps.toList, x = .str ⟨#[c]⟩
def spof (K : PySem.W.Frag) : Sp := fun vs H Q _ => ∃ (g l : Addr) (t : V) (F : V → Prop), vs = [.ref g, t] ∧ Bag l H g ∧ Src K g H t F ∧ ∀ x H', F x → Ok g l H H' → Q x H'
theorem ok_of {P : Program} {w : World} {K : PySem.W.Frag} {mg : Str → Option Value} {base : Heap} {f : Addr} {fd : FuncData} (D : Def K mg "_law_of" sof Pof f fd) (T : Txt K mg) {fdraw : Addr} {fddraw : FuncData} (Ddraw : Def K mg "_law_draw" sdraw Pdraw fdraw fddraw) (Gdraw : FnOk P w K mg base CX0 1 fdraw fddraw Pdraw (spdraw)) :
    FnOk P w K mg base CX0 2 f fd Pof (spof K) := by
  refine D.F.ok scof (fun vs H Q E h => ?_) (fun cdv A outer s H vs Q E hr h => ?_)
  · obtain ⟨g, l, t, F, rfl, B, S, k⟩ := h
    rfl
  · obtain ⟨g, l, t, F, rfl, B, S, k⟩ := h
    have hrdraw : Room 1 _ := hr.mono (by decide)
    refine ⟨_, (pss_one (ps_ret (pe_ix ix_seq (pv 1) (pe_call Gdraw hrdraw rfl Ddraw.g Ddraw.F.kp Ddraw.b .nil pass0 (pa_cons (pv 0) (pa_cons (pe_callB call_len (by rfl) T.n_len PySem.boot_len (pa_cons (pv 1) pa_nil)) pa_nil))) (fun _ _ => rfl)))), ?_⟩
    cases S with
    | @lst a xs h n h0 h1 =>
      refine ⟨_, rfl, _, rfl, _, rfl, _, _, rfl, .inl ⟨xs, h, rfl⟩, g, l, _, rfl, B, by omega, by omega, fun d H' d0 d1 r => ?_⟩
      obtain ⟨j, rfl⟩ : ∃ j : Nat, d = (j : Int) := ⟨d.toNat, by omega⟩
      have hj : j < xs.length := by omega
      exact .inl ⟨_, _, _, _, rfl, rfl, SqL.kp r.kp n h, atI_nat (List.getElem?_eq_getElem hj), k _ _ (List.getElem_mem hj) r⟩
    | @tup a xs h n h0 h1 =>
      refine ⟨_, rfl, _, rfl, _, rfl, _, _, rfl, .inr ⟨xs, h, rfl⟩, g, l, _, rfl, B, by omega, by omega, fun d H' d0 d1 r => ?_⟩
      obtain ⟨j, rfl⟩ : ∃ j : Nat, d = (j : Int) := ⟨d.toNat, by omega⟩
      have hj : j < xs.length := by omega
      exact .inr (.inl ⟨_, _, _, _, rfl, rfl, SqT.kp r.kp n h, atI_nat (List.getElem?_eq_getElem hj), k _ _ (List.getElem_mem hj) r⟩)
    | @str z h0 h1 =>
      have hz : z.length ≤ sizeLine := Nat.le_trans h1 (by decide)
      refine ⟨_, rfl, _, rfl, _, rfl, _, _, rfl, ⟨hz, rfl⟩, g, l, _, rfl, B, by omega, by omega, fun d H' d0 d1 r => ?_⟩
      obtain ⟨j, rfl⟩ : ∃ j : Nat, d = (j : Int) := ⟨d.toNat, by omega⟩
      have hj : j < z.cps.toList.length := by
        have e : z.cps.toList.length = z.length := rfl
        omega
      exact .inr (.inr ⟨_, _, _, rfl, rfl, hz, atI_nat (List.getElem?_eq_getElem hj), k _ _ ⟨_, List.getElem_mem hj, rfl⟩ r⟩)
/-- one of the things of a new list -/
theorem of_disp {K : PySem.W.Frag} {g l p : Addr} {H0 H : Hp} {xs : List V} {Q : VK} {E : XK} (R : Ok g l H0 H) (hp : H p = none) (h0 : 0 < xs.length) (h1 : xs.length ≤ 1000000) (k : ∀ x H', x ∈ xs → Kp g H H' → Ok g l H0 H' → Q x H') :
    spof K [.ref g, .ref p] (upd H p (.lst xs)) Q E := by
  refine ⟨g, l, .ref p, _, rfl, (R.new hp).bag, .lst (SqL.of upd_same) (R.bag.ne hp).1 h0 h1, fun x H' hx r => ?_⟩
  exact k x H' hx ((Ok.new (Ok.refl R.bag) hp).kp.trans r.kp) ((R.new hp).trans r)
end k48
namespace k48
open PySem L2 LC RM
def spnames : Sp := fun vs H Q _ => ∃ (g l : Addr) (n : Nat), vs = [.ref g, .int n] ∧ Bag l H g ∧ 1 ≤ n ∧ n ≤ 6 ∧ ∀ (N : Addr) (ns : List Str) H', H N = none → Ok g l H H' → H' N = some (.lst (ns.map V.str)) → ns.length = n → (∀ z ∈ ns, goodW z) → Q (.ref N) H'
theorem ok_names {P : Program} {w : World} {K : PySem.W.Frag} {mg : Str → Option Value} {base : Heap} {f : Addr} {fd : FuncData} (D : Def K mg "_law_names" snames Pnames f fd) (T : Txt K mg) {fof : Addr} {fdof : FuncData} (Dof : Def K mg "_law_of" sof Pof fof fdof) (Gof : FnOk P w K mg base CX0 2 fof fdof Pof (spof K)) :
    FnOk P w K mg base CX0 3 f fd Pnames (spnames) := by
  refine D.F.ok scnames (fun vs H Q E h => ?_) (fun cdv A outer s H vs Q E hr h => ?_)
  · obtain ⟨g, l, n, rfl, B, n1, n6, k⟩ := h
    rfl
  · obtain ⟨g, l, n, rfl, B, n1, n6, k⟩ := h
    have hrof : Room 2 _ := hr.mono (by decide)
    refine ⟨_, (pss_cons (ps_set (i := 2) scnames.nd rfl (Or.inr rfl) (pe_lst pa_nil))
        (pss_cons (ps_for PassesOwn.never rfl (pi_range1 rfl T.n_range (pa_cons (pv 1) pa_nil)) (pg_name (i := 3) scnames.nd rfl (Or.inl rfl))
          (pss_cons (ps_set (i := 4) scnames.nd rfl (Or.inr rfl) (pe_op op_add_str (pe_call Gof hrof rfl Dof.g Dof.F.kp Dof.b .nil pass0 (pa_cons (pv 0) (pa_cons pe_str pa_nil))) (pe_call Gof hrof rfl Dof.g Dof.F.kp Dof.b .nil pass0 (pa_cons (pv 0) (pa_cons (pe_lst (pa_cons pe_str (pa_cons pe_str (pa_cons pe_str (pa_cons pe_str (pa_cons pe_str (pa_cons pe_str (pa_cons pe_str pa_nil)))))))) pa_nil)))))
        (Evl.pss_cut (ps_if (pt_cmpR op_in_seq (pv 4) (pv 2) (by rfl)) (pss_one (ps_set (i := 4) scnames.nd rfl (Or.inr rfl) (pe_ix ix_list (pe_lc (own := [("_law_sign", 5)]) (g := gName 5) rfl scnames.nd (pi_str pe_str) (blkOk_by (own := [("_law_sign", 5)]) (N := Nmnames) (sc := defScope snames) (by decide +kernel)) (fun _ _ _ _ _ => pg_name (i := 5) scnames.nd rfl (Or.inl rfl)) (fun _ _ _ _ _ => pts_one (pt_cmpR (show OpR _ (compareOp .NotIn) (rIn K true) from op_notIn_seq) (pe_op op_add_str (pv 4) (pv 5)) (pv 2) (by rfl))) (fun _ _ _ _ _ => (pe_op op_add_str (pv 4) (pv 5)))) pe_int (fun _ _ => rfl)))) pss_nil)
        (pss_one (ps_expr (pe_bm PySem.F.plainAttrs_list PySem.F.slot_list_append PySem.F.type_list_append mt_append (pv 2) (pa_cons (pv 4) pa_nil)))))))
        (pss_one (ps_ret (pv 2))))), ?_⟩
    refine ⟨(by show 0 ≤ sizeLine; decide), fun N hN => ?_⟩
    refine ⟨_, rfl, (n : Int), rfl, by omega, by omega, for_it (walk_range (lo := 0) (n := n)) (fun i σ H' => ∃ (ns : List Str) (v3 v4 v5 : Option V), σ = [some (.ref g), some (.int n), some (.ref N), v3, v4, v5] ∧ Ok g l H H' ∧ H' N = some (.lst (ns.map V.str)) ∧ ns.length = i ∧ ∀ z ∈ ns, goodW z) ⟨[], none, none, none, rfl, (Ok.refl B).new hN, upd_same, rfl, fun _ h => by cases h⟩ (fun _ _ _ _ _ => True.intro) ?_ ?_⟩
    · rintro i x σ H1 H2 hi ⟨ns, v3, v4, v5, rfl, r, hN1, len, good⟩ ⟨rfl, rfl⟩
      have nNg : N ≠ g := (B.ne hN).1
      refine ⟨_, rfl, g, l, _, _, rfl, r.bag, .str (by decide +kernel) (by decide +kernel), fun x H3 hx r3 => ?_⟩
      obtain ⟨c, hc, rfl⟩ := hx
      refine ⟨_, rfl, (by show 7 ≤ sizeLine; decide), fun p hp => ?_⟩
      refine of_disp (E := E0) (Ok.refl r3.bag) hp (by decide +kernel) (by decide +kernel) fun y H4 hy kp4 r4 => ?_
      obtain ⟨b, hb, rfl⟩ : ∃ b ∈ tailsL, V.str b = y := List.mem_map.mp hy
      obtain ⟨g0, l0, g1⟩ := word_ok hc hb
      have tl := tail_len b hb
      have R4 := r.trans (r3.trans r4)
      have hN4 := (r3.trans r4).kp _ _ nNg hN1
      refine ⟨_, _, rfl, rfl, Nat.le_trans (show 1 + b.length ≤ 3 by omega) (by decide), ?_⟩
      refine ⟨fun σ H' => ∃ (wd : Str) (v5 : Option V), σ = [some (.ref g), some (.int n), some (.ref N), some (.int (0 + (i : Nat))), some (.str wd), v5] ∧ Ok g l H H' ∧ H' N = some (.lst (ns.map V.str)) ∧ goodW wd, ?_, ?_⟩
      · refine ⟨_, rfl, _, rfl, N, _, rfl, .inl (SqL.of hN4), rfl, strs_flat _, _, rfl, ?_⟩
        show if inV (.str (one c ++ b)) (ns.map V.str) = true then _ else _
        split
        · refine ⟨_, rfl, fun D hD => lc_it walk_str (fun j H' => H' N = some (.lst (ns.map V.str)) ∧ Ok g l H H' ∧ ∃ acc : List V, H' D = some (.lst acc) ∧ acc.length ≤ j ∧ (∀ u ∈ acc, ∃ d ∈ signL, u = .str (one c ++ b ++ one d)) ∧ ∀ m d, m < j → signL[m]? = some d → inV (.str (one c ++ b ++ one d)) (ns.map V.str) = false → acc ≠ []) ⟨same_new hD _ _ hN4, R4.new hD, [], upd_same, Nat.le_refl _, fun _ h => (by cases h), fun m d z => absurd z (Nat.not_lt_zero _)⟩ (fun _ _ _ _ => True.intro) ?_ ?_⟩
          · rintro j v H5 H6 hj ⟨hN5, r5, acc, hA, al, a1, a2⟩ ⟨rfl, d, hd, rfl⟩
            have nND : N ≠ D := fun e => by rw [← e, hN4] at hD; cases hD
            have hd' : signL[j]? = some d := by
              show ("bcdefghijklmnop" : Str).cps.toList[j]? = some d
              rw [Array.getElem?_toList]
              exact hd
            have hdm : d ∈ signL := List.mem_of_getElem? hd'
            have j15 : j < 15 := hj
            have lw : (one c ++ b).length + (one d).length ≤ sizeLine := Nat.le_trans (show _ ≤ 4 by show (one c ++ b).length + 1 ≤ 4; omega) (by decide)
            refine ⟨rfl, _, rfl, _, rfl, _, _, rfl, rfl, lw, _, rfl, N, _, rfl, .inl (SqL.of hN5), rfl, strs_flat _, _, rfl, ?_⟩
            show if (!inV (.str (one c ++ b ++ one d)) (ns.map V.str)) = true then _ else _
            refine ite_nb (fun e => ?_) (fun e => ?_)
            · refine ⟨_, rfl, _, rfl, _, _, rfl, rfl, lw, acc, hA, Nat.lt_of_le_of_lt al (Nat.lt_of_lt_of_le j15 (by decide)), by rw [upd_ne nND]; exact hN5, r5.mut (R4.free hD), _, upd_same, by rw [List.length_append]; exact Nat.succ_le_succ al, fun u hu => ?_, fun m d' _ _ _ => by simp⟩
              rcases List.mem_append.mp hu with h | h
              · exact a1 u h
              · rw [List.mem_singleton] at h
                exact ⟨d, hdm, h⟩
            · refine ⟨hN5, r5, acc, hA, Nat.le_succ_of_le al, a1, fun m d' hm hd2 e2 => ?_⟩
              rcases Nat.lt_or_ge m j with z | z
              · exact a2 m d' z hd2 e2
              · have : m = j := by omega
                subst this
                rw [hd'] at hd2
                cases hd2
                rw [e] at e2
                cases e2
          · rintro H5 ⟨hN5, r5, acc, hA, al, a1, a2⟩
            obtain ⟨d, hd, ed⟩ := some_free (w := one c ++ b) (ws := ns) (by omega)
            obtain ⟨m, hm⟩ := List.mem_iff_getElem?.mp hd
            have ne := a2 m d (List.getElem?_eq_some_iff.mp hm).1 hm ed
            cases acc with
            | nil => exact absurd rfl ne
            | cons u acc =>
              obtain ⟨d', hd', rfl⟩ := a1 u (List.mem_cons_self ..)
              exact ⟨_, _, _, _, rfl, rfl, SqL.of hA, atI_nat (j := 0) rfl, _, _, rfl, r5, hN5, g1 d' hd'⟩
        · exact ⟨_, _, rfl, R4, hN4, g0⟩
      · rintro σ H5 ⟨wd, v5', rfl, r5, hN5, gw⟩
        refine ⟨_, rfl, .inl ⟨rfl, _, SqL.of hN5⟩, _, rfl, N, _, _, rfl, rfl, hN5, ?_, ns ++ [wd], _, _, _, rfl, r5.mut hN, ?_, ?_, ?_⟩
        · rw [List.length_map, len]
          exact Nat.lt_of_lt_of_le (show i < 6 by omega) (by decide)
        · rw [upd_same, List.map_append]
          rfl
        · rw [List.length_append, len]
          rfl
        · intro z hz
          rcases List.mem_append.mp hz with h | h
          · exact good z h
          · rw [List.mem_singleton] at h
            rw [h]
            exact gw
    · rintro σ H1 ⟨ns, v3, v4, v5, rfl, r, hN1, len, good⟩
      exact ⟨_, rfl, k N ns H1 hN r hN1 len good⟩
end k48
namespace k48
open PySem L2 LC RM
def spscale : Sp := fun vs H Q _ => ∃ (p : Addr) (ws : List Int), vs = [.ref p] ∧ H p = some (.lst (ws.map V.int)) ∧ (∀ w ∈ ws, 1 ≤ w ∧ w ≤ 12) ∧ ∀ H', Same H H' → Q (.int (lcmL ws)) H'
theorem ok_scale {P : Program} {w : World} {K : PySem.W.Frag} {mg : Str → Option Value} {base : Heap} {f : Addr} {fd : FuncData} (D : Def K mg "_law_scale" sscale Pscale f fd) (T : Txt K mg) :
    FnOk P w K mg base CX0 1 f fd Pscale (spscale) := by
  refine D.F.ok scscale (fun vs H Q E h => ?_) (fun cdv A outer s H vs Q E hr h => ?_)
  · obtain ⟨p, ws, rfl, hp, hw, k⟩ := h
    rfl
  · obtain ⟨p, ws, rfl, hp, hw, k⟩ := h
    refine ⟨_, (pss_cons (ps_set (i := 1) scscale.nd rfl (Or.inr rfl) pe_int)
        (pss_cons (ps_for PassesOwn.never rfl (pi_list (pv 0)) (pg_name (i := 2) scscale.nd rfl (Or.inr rfl))
          (pss_one (ps_set (i := 1) scscale.nd rfl (Or.inr rfl) (pe_ix ix_list (pe_lc (own := [("_law_step", 3)]) (g := gName 3) rfl scscale.nd (pi_range2 rfl T.n_range (pa_cons pe_int (pa_cons pe_int pa_nil))) (blkOk_by (own := [("_law_step", 3)]) (N := Nmscale) (sc := defScope sscale) (by decide +kernel)) (fun _ _ _ _ _ => pg_name (i := 3) scscale.nd rfl (Or.inl rfl)) (fun _ _ _ _ _ => pts_one (pt_cmpR op_eq (pe_op op_modN (pe_callTy call_int1 (by rfl) T.n_int (by decide +kernel) (pa_cons (pe_op op_mul (pv 1) (pv 3)) pa_nil)) (pv 2)) pe_int (nomark _))) (fun _ _ _ _ _ => (pe_op op_mul (pv 1) (pv 3)))) pe_int (fun _ _ => rfl)))))
        (pss_one (ps_ret (pv 1))))), ?_⟩
    refine ⟨_, rfl, p, rfl, ⟨_, SqL.of hp⟩, for_it (walk_list (K := K) (a := p) (xs := ws.map V.int)) (fun i σ H' => ∃ v w : Option V, σ = [some (.ref p), some (.int (lcmL (ws.take i))), v, w] ∧ Same H H') ⟨none, none, rfl, Same.refl H⟩ (fun i σ H' _ ⟨_, _, _, e⟩ => SqL.of (e _ _ hp)) ?_ ?_⟩
    · rintro i x σ H1 H2 hi ⟨v, v3, rfl, sm⟩ ⟨rfl, hx⟩
      rw [List.length_map] at hi
      rw [List.getElem?_map, List.getElem?_eq_getElem hi] at hx
      cases hx
      obtain ⟨w0, w1⟩ := hw _ (List.getElem_mem hi)
      obtain ⟨l0, l1⟩ := lcm_le hw i
      obtain ⟨kk, k12, ek, ez, en⟩ := first_mult l0 w0 w1
      refine ⟨_, _, rfl, ⟨by decide, by decide, by decide, by decide⟩, fun D hD => lc_it (walk_range (lo := 1) (n := 12)) (fun j H' => Same H2 H' ∧ ∃ acc : List V, H' D = some (.lst acc) ∧ acc.length ≤ j ∧ (j ≤ kk → acc = []) ∧ (kk < j → acc[0]? = some (.int (lcmL (ws.take (i + 1)))))) ⟨same_new hD, [], upd_same, Nat.le_refl _, fun _ => rfl, fun z => absurd z (Nat.not_lt_zero _)⟩ (fun _ _ _ _ => True.intro) ?_ ?_⟩
      · rintro j y H3 H4 hj ⟨s3, acc, hA, al, a1, a2⟩ ⟨rfl, rfl⟩
        refine ⟨rfl, _, rfl, _, rfl, _, _, rfl, rfl, .inr ⟨by omega, by omega⟩, .inl ⟨_, rfl, _, rfl, _, _, rfl, rfl, by omega, rfl, _, rfl, ite_d (fun ez' => ?_) (fun ez' => ?_)⟩⟩
        · have jk : kk ≤ j := by
            rcases Nat.lt_or_ge j kk with z | z
            · exact absurd (V.int.inj ez') (en j z)
            · exact z
          refine ⟨_, rfl, _, rfl, _, _, rfl, rfl, .inr ⟨by omega, by omega⟩, acc, hA, Nat.lt_of_le_of_lt al (Nat.lt_trans hj (by decide)), same_upd hD s3, _, upd_same, by rw [List.length_append]; exact Nat.succ_le_succ al, fun z => absurd z (by omega), fun _ => ?_⟩
          by_cases e : j = kk
          · subst e
            rw [a1 (Nat.le_refl _), lcm_next (List.getElem?_eq_getElem hi), ← ek]
            rfl
          · have q := a2 (by omega)
            rw [List.getElem?_append_left (List.getElem?_eq_some_iff.mp q).1]
            exact q
        · have jk : j ≠ kk := fun e => by
            subst e
            exact ez' (show V.int ((lcmL (ws.take i) * (1 + (j : Int))).fmod ws[i]) = .int 0 by rw [ez])
          exact ⟨s3, acc, hA, Nat.le_succ_of_le al, fun z => a1 (by omega), fun z => a2 (by omega)⟩
      · rintro H3 ⟨s3, acc, hA, al, a1, a2⟩
        have q := a2 k12
        obtain ⟨h0, _⟩ := List.getElem?_eq_some_iff.mp q
        refine ⟨_, _, _, _, rfl, rfl, SqL.of hA, atI_nat (j := 0) q, _, _, rfl, sm.trans s3⟩
    · rintro σ H1 ⟨v, w, rfl, sm⟩
      rw [List.length_map, List.take_length]
      exact ⟨_, rfl, k _ sm⟩
end k48
namespace k48
open PySem L2 LC RM
def spjoin (r : Ar) : Sp := fun vs H Q _ => ∃ (F : Addr → Prop) (g l x D L Ld : Addr) (wv : List (Key × V)) (sc : Int) (s : RS) (ns : List Str) (la : Str → Addr) (z : Str) (m : Int) (u : Option Int), vs = [.ref g, .ref x, .ref Ld, .str z, .int m, uV u] ∧ Bag l H g ∧ F g ∧ ¬ F l ∧ (∀ b, F b → ∃ o, H b = some o) ∧ x ≠ g ∧ D ≠ g ∧ L ≠ g ∧ RoomAt r F H x D L wv sc s ∧ LinesAt F H Ld la ns s.ln ∧ (∀ y ∈ ns, la y ≠ g ∧ la y ≠ D ∧ la y ≠ L ∧ la y ≠ x) ∧ Dic ns s.kv ∧ Nms ns ∧ z ∈ ns ∧ 1 ≤ m ∧ m ≤ 999 ∧ s.ln.length ≤ 39 ∧
  ∀ (c : Int) H', 1 ≤ c → c ≤ m → KpF (fun b => b = g ∨ b = D ∨ b = L ∨ b = la z) H H' → Bag l H' g → RoomAt r F H' x D L wv sc (joinS s z c u) → LinesAt F H' Ld la ns (joinS s z c u).ln → Q .non H'
theorem ok_join {P : Program} {w : World} {K : PySem.W.Frag} {mg : Str → Option Value} {base : Heap} {f : Addr} {fd : FuncData} (D : Def K mg "_law_join" sjoin Pjoin f fd) (T : Txt K mg) {r : Ar} (KR : Kr K mg r) {fdRjoin : FuncData} (GRoom_join : FnOk P w K mg base CX0 4 r.fjoin fdRjoin PRoom_join (spRoom_join r)) (BRoom_join : Binds K fdRjoin PRoom_join []) {fdraw : Addr} {fddraw : FuncData} (Ddraw : Def K mg "_law_draw" sdraw Pdraw fdraw fddraw) (Gdraw : FnOk P w K mg base CX0 1 fdraw fddraw Pdraw (spdraw)) :
    FnOk P w K mg base CX0 5 f fd Pjoin (spjoin r) := by
  refine D.F.ok scjoin (fun vs H Q E h => ?_) (fun cdv A outer s H vs Q E hr h => ?_)
  · obtain ⟨F, g, l, x, D, L, Ld, wv, sc, s, ns, la, z, m, u, rfl, B, fg, nl, ex, xg, Dg, Lg, R, LA, nla, dic, nms, hz, m0, m1, l39, k⟩ := h
    rfl
  · obtain ⟨F, g, l, x, D, L, Ld, wv, sc, s, ns, la, z, m, u, rfl, B, fg, nl, ex, xg, Dg, Lg, R, LA, nla, dic, nms, hz, m0, m1, l39, k⟩ := h
    have hrdraw : Room 1 _ := hr.mono (by decide)
    have hrRoom_join : Room 4 _ := hr.mono (by decide)
    refine ⟨_, (pss_cons (ps_set (i := 6) scjoin.nd rfl (Or.inl rfl) (pe_op op_add pe_int (pe_call Gdraw hrdraw rfl Ddraw.g Ddraw.F.kp Ddraw.b .nil pass0 (pa_cons (pv 0) (pa_cons (pv 4) pa_nil)))))
        (pss_cons (ps_expr (pe_meth (pv 1) KR.cl KR.mjoin GRoom_join hrRoom_join BRoom_join .nil pass0 (pa_cons (pv 3) (pa_cons (pv 6) (pa_cons (pv 5) pa_nil)))))
        (pss_cons (ps_set (i := 7) scjoin.nd rfl (Or.inl rfl) (pe_dget (hu_of hr) (pv 2) (pv 3) (fun _ _ => rfl)))
        (pss_one (ps_expr (pe_bm PySem.F.plainAttrs_list PySem.F.slot_list_append PySem.F.type_list_append mt_append (pv 7) (pa_cons (pe_tup (pa_cons (pv 6) (pa_cons (pv 5) pa_nil))) pa_nil))))))), ?_⟩
    obtain ⟨⟨dx, W, fs, ts, hx, rf, hW, nW, hD, hL, ln⟩, fx, fD, fL⟩ := id R
    obtain ⟨lv, hLd, lvl, hlv⟩ := LA.ex
    obtain ⟨⟨ts2, hla, pr⟩, fla⟩ := LA.own z hz
    obtain ⟨nlg, nlD, nlL, nlx⟩ := nla z hz
    have Ldg : Ld ≠ g := fun e => LA.nd (by rw [e]; exact fg)
    refine ⟨_, rfl, _, rfl, g, l, m, rfl, B, by omega, by omega, fun d H1 d0 d1 r1 => ⟨_, _, rfl, rfl, ?_⟩⟩
    have k1 : KpF (fun b => b = g) H H1 := KpF.kp rfl r1.kp
    have R1 := R.kp k1 (fun b e => by rw [e]; exact fg) xg Dg Lg
    have ex1 : ∀ b, F b → ∃ o, H1 b = some o := ex_kp k1 (fun b e => by rw [e]; obtain ⟨⟨xs, q⟩, _⟩ := r1.bag.there; exact ⟨_, q⟩) ex
    refine ⟨_, rfl, x, dx, fs, rfl, r1.kp _ _ xg hx, rf.join, _, rfl, _, rfl, _, rfl, ?_⟩
    show tNil _ _ _
    unfold tNil
    show spRoom_join r [V.ref x, V.str z, V.int (1 + d), uV u] H1 _ _
    have hlen : z.length ≤ 1000000 := by
      have := (nam_ok (nms z hz)).2
      omega
    refine ⟨F, x, D, L, wv, sc, s, ns, z, 1 + d, u, rfl, R1, dic, hz, nms z hz, hlen, by omega, by omega, l39, ex1, fun H2 k2 R2 => ?_⟩
    have ex2 : ∀ b, F b → ∃ o, H2 b = some o := ex_kp k2 (fun b z => by
      obtain ⟨⟨_, _, _, _, _, _, _, _, a2, a3, _⟩, _⟩ := id R2
      exact z.elim (fun e => by rw [e]; exact ⟨_, a2⟩) (fun e => by rw [e]; exact ⟨_, a3⟩)) ex1
    have subDL : ∀ b, (b = D ∨ b = L) → F b := fun b z => z.elim (fun e => by rw [e]; exact fD) fun e => by rw [e]; exact fL
    have hLd2 := k2 _ _ (fun z => LA.nd (subDL _ z)) (r1.kp _ _ Ldg hLd)
    have hla2 := k2 _ _ (fun z => z.elim nlD nlL) (r1.kp _ _ nlg hla)
    have k12 : KpF (fun b => b = g ∨ b = D ∨ b = L) H H2 := (k1.mono fun b e => .inl e).trans (k2.mono fun b z => .inr z)
    have pr2 : Paired (Row2At F H2) ts2 (mineOf z s.ln) := pr.mono fun t q ⟨a, b⟩ => ⟨a, k12 _ _ (fun e => a (e.elim (fun e => by rw [e]; exact fg) (subDL t))) b⟩
    refine ⟨_, rfl, _, rfl, Ld, .ref (la z), rfl, (by rw [← hlv z hz]; exact DGet.k (k := kS z) hLd2), ?_⟩
    refine ⟨_, rfl, .inl ⟨rfl, _, SqL.of hla2⟩, _, rfl, _, rfl, (by show 2 ≤ sizeLine; decide), fun T hT => ?_⟩
    have tl : ts2.length ≤ 39 := by
      have a := pr.length
      have b := List.length_filter_le (fun q : Row => decide (q.1 = z)) s.ln
      unfold mineOf at a
      omega
    have s23 := same_new (o := .tup [.int (1 + d), uV u]) hT
    have eT3 : upd H2 T (.tup [.int (1 + d), uV u]) T = some (.tup [.int (1 + d), uV u]) := upd_same
    have nFT : ¬ F T := notF ex2 hT
    have nTl : T ≠ la z := fun e => nFT (by rw [e]; exact fla)
    refine ⟨la z, _, _, rfl, rfl, s23 _ _ hla2, by rw [List.length_map]; exact Nat.lt_of_le_of_lt tl (by decide), ?_⟩
    have k24 : KpF (fun b => b = la z) H2 (upd (upd H2 T (.tup [.int (1 + d), uV u])) (la z) (.lst (ts2.map V.ref ++ [.ref T]))) := (KpF.same s23).upd rfl
    have eT4 : upd (upd H2 T (.tup [.int (1 + d), uV u])) (la z) (.lst (ts2.map V.ref ++ [.ref T])) T = some (.tup [.int (1 + d), uV u]) := by rw [upd_ne nTl]; exact eT3
    have el4 : upd (upd H2 T (.tup [.int (1 + d), uV u])) (la z) (.lst (ts2.map V.ref ++ [.ref T])) (la z) = some (.lst (ts2.map V.ref ++ [.ref T])) := upd_same
    generalize upd (upd H2 T (.tup [.int (1 + d), uV u])) (la z) (.lst (ts2.map V.ref ++ [.ref T])) = H4 at k24 eT4 el4 ⊢
    have sub4 : ∀ b, b = la z → F b := fun b e => by rw [e]; exact fla
    have k14 : KpF (fun b => b = g ∨ b = D ∨ b = L ∨ b = la z) H H4 := (k12.mono fun b e => e.elim .inl fun e => .inr (e.elim .inl fun e => .inr (.inl e))).trans (k24.mono fun b e => .inr (.inr (.inr e)))
    have B4 : Bag l H4 g := bag_kp (bag_kp r1.bag k2 (fun z => z.elim (fun e => Dg e.symm) fun e => Lg e.symm) (fun z => nl (subDL _ z))) k24 (fun e => nlg e.symm) (fun e => nl (sub4 _ e))
    refine k (1 + d) H4 (by omega) (by omega) k14 B4 (R2.kp k24 sub4 (fun e => nlx e.symm) (fun e => nlD e.symm) (fun e => nlL e.symm)) ⟨⟨lv, k24 _ _ (fun e => LA.nd (sub4 _ e)) hLd2, lvl, hlv⟩, fun y hy => ?_, LA.ne, LA.nd⟩
    show Own2 F H4 (la y) (mineOf y (s.ln ++ [(z, 1 + d, u)]))
    rw [mineOf_snoc]
    by_cases e : z = y
    · subst e
      rw [if_pos rfl]
      refine ⟨⟨ts2 ++ [T], by rw [el4, List.map_append]; rfl, Paired.snoc (pr2.mono fun t q ⟨a, b⟩ => ⟨a, k24 _ _ (fun e => a (sub4 _ e)) b⟩) ⟨nFT, eT4⟩⟩, fla⟩
    · rw [if_neg e]
      obtain ⟨n1, n2, n3, n4⟩ := nla y hy
      exact (LA.own y hy).kp k14 (fun b z => z.elim (fun e => by rw [e]; exact fg) fun z => z.elim (fun e => by rw [e]; exact fD) fun z => z.elim (fun e => by rw [e]; exact fL) (sub4 b)) fun z => z.elim n1 fun z => z.elim n2 fun z => z.elim n3 (LA.ne y hy _ hz (Ne.symm e))
end k48
namespace k48
open PySem L2 LC RM
def spserved (r : Ar) : Sp := fun vs H Q _ => ∃ (F : Addr → Prop) (x D L Ld Wd : Addr) (wv : List (Key × V)) (sc : Int) (s : RS) (ns ks : List Str) (la : Str → Addr), vs = [.ref x, .ref Ld, .ref Wd, .int sc] ∧ (∀ b, F b → ∃ o, H b = some o) ∧ RoomAt r F H x D L wv sc s ∧ LinesAt F H Ld la ns s.ln ∧ (∀ y ∈ ns, la y ≠ D ∧ la y ≠ L ∧ la y ≠ x) ∧ Dic ns s.kv ∧ WDic ns wv ∧ Nms ns ∧ (∀ q ∈ s.ln, q.1 ∈ ns ∧ 1 ≤ q.2.1 ∧ q.2.1 ≤ 1000) ∧ s.ln.length ≤ 40 ∧ 1 ≤ sc ∧ sc ≤ 27720 ∧ s.ln ≠ [] ∧ Lev s ∧ H Wd = some (.dK wv) ∧ ¬ F Wd ∧ (∃ lv : List (Key × V), H Ld = some (.dK lv) ∧ lv.map (·.1) = ks.map kS) ∧ (∀ z ∈ ks, z ∈ ns) ∧ (∀ z ∈ ns, z ∈ ks) ∧ ks.Nodup ∧ ks.length ≤ 60 ∧
  ∀ (j : Nat) (q : Row) (T : Addr) H', headAt s.kv s.ln = some j → s.ln[j]? = some q → KpF (fun b => b = x ∨ b = D ∨ b = L ∨ b = la q.1) H H' → RoomAt r F H' x D L wv sc (serveS s sc (markOf wv q.1) j q) → LinesAt F H' Ld la ns (s.ln.eraseIdx j) → H T = none → H' T = some (.tup [.str q.1, .int ((q.2.1 * sc).fdiv (markOf wv q.1))]) → Q (.ref T) H'
theorem ok_served {P : Program} {w : World} {K : PySem.W.Frag} {mg : Str → Option Value} {base : Heap} {f : Addr} {fd : FuncData} (D : Def K mg "_law_served" sserved Pserved f fd) (T : Txt K mg) {r : Ar} (KR : Kr K mg r) {fdRmark_of : FuncData} (GRoom_mark_of : FnOk P w K mg base CX0 4 r.fmark_of fdRmark_of PRoom_mark_of (spRoom_mark_of r)) (BRoom_mark_of : Binds K fdRmark_of PRoom_mark_of []) {fdRlevel : FuncData} (GRoom_level : FnOk P w K mg base CX0 1 r.flevel fdRlevel PRoom_level (spRoom_level r)) (BRoom_level : Binds K fdRlevel PRoom_level []) {fdRserve : FuncData} (GRoom_serve : FnOk P w K mg base CX0 3 r.fserve fdRserve PRoom_serve (spRoom_serve r)) (BRoom_serve : Binds K fdRserve PRoom_serve []) :
    FnOk P w K mg base CX0 5 f fd Pserved (spserved r) := by
  refine D.F.ok scserved (fun vs H Q E h => ?_) (fun cdv A outer s H vs Q E hr h => ?_)
  · obtain ⟨F, x, D, L, Ld, Wd, wv, sc, s, ns, ks, la, rfl, ex, R, LA, nla, dic, wd, nms, rows, l40, sc0, sc1, hne, lev, hWd, nWd, ⟨lv, hLd, elv⟩, ksn, nsk, ksd, kl, k⟩ := h
    rfl
  · obtain ⟨F, x, D, L, Ld, Wd, wv, sc, s, ns, ks, la, rfl, ex, R, LA, nla, dic, wd, nms, rows, l40, sc0, sc1, hne, lev, hWd, nWd, ⟨lv, hLd, elv⟩, ksn, nsk, ksd, kl, k⟩ := h
    have hrP : Room (1 + 1) _ := hr.mono (by decide)
    have hrRoom_mark_of : Room 4 _ := hr.mono (by decide)
    have hrRoom_serve : Room 3 _ := hr.mono (by decide)
    refine ⟨_, (pss_cons (ps_setLc (i := 4) (own := [("_law_name", 5)]) (g := gName 5) (tt := tYes) rfl scserved.nd rfl rfl (sw_true rfl rfl rfl (by decide +kernel)) (pi_list (pe_callB cr_sortedS (by rfl) T.n_sorted (by decide +kernel) (pa_cons (pe_callTy (call_listD rfl) (by rfl) T.n_list (by decide +kernel) (pa_cons (pv 1) pa_nil)) pa_nil))) (blkOk_by (own := [("_law_name", 5)]) (N := Nmserved) (sc := defScope sserved) (by decide +kernel)) (fun _ _ _ _ _ => pg_name (i := 5) scserved.nd rfl (Or.inl rfl)) (fun _ _ _ _ _ => pts_nil) (fun _ _ _ _ _ => (pe_meth (pv 0) KR.cl KR.mmark_of GRoom_mark_of hrRoom_mark_of BRoom_mark_of .nil pass0 (pa_cons (pv 5) pa_nil))))
        (pss_cons (ps_set (i := 6) scserved.nd rfl (Or.inl rfl) (pe_prop (pv 0) KR.cl KR.plevel GRoom_level hrP BRoom_level .nil pass0 (by rfl)))
        (pss_cons (ps_asg (pe_meth0 (pv 0) KR.cl KR.mserve GRoom_serve hrRoom_serve BRoom_serve .nil pass0) (pg_tup rfl (pgs_cons (pg_name (i := 7) scserved.nd rfl (Or.inl rfl)) (pgs_cons (pg_name (i := 8) scserved.nd rfl (Or.inl rfl)) pgs_nil))))
        (pss_cons (ps_if (PW.pt (pw_or (pt_cmp (pc_dnotin (hu_of hr) (pv 7) (pv 1))) (pw_or (pt_not (pt_truth (pe_dget (hu_of hr) (pv 1) (pv 7) (fun _ _ => rfl)) (by intro _; rfl))) (pw_or1 (pt_cmpR op_ne (pe_ix ix_tup (pe_bm PySem.F.plainAttrs_list PySem.F.slot_list_pop PySem.F.type_list_pop mt_popAt (pe_dget (hu_of hr) (pv 1) (pv 7) (fun _ _ => rfl)) (pa_cons pe_int pa_nil)) pe_int (fun _ _ => rfl)) (pv 8) (nomark _)))))) (pss_one (ps_ret pe_non)) pss_nil)
        (pss_cons (ps_set (i := 9) scserved.nd rfl (Or.inl rfl) (pe_op op_fdivN (pe_op op_mul (pv 8) (pv 3)) (pe_dget (hu_of hr) (pv 2) (pv 7) (fun _ _ => rfl))))
        (pss_cons (ps_for PassesOwn.never rfl (RZ.pi_zipA (by rfl) T.n_zip (pa_cons (pe_callB cr_sortedS (by rfl) T.n_sorted (by decide +kernel) (pa_cons (pe_callTy (call_listD rfl) (by rfl) T.n_list (by decide +kernel) (pa_cons (pv 1) pa_nil)) pa_nil)) (pa_cons (pv 4) pa_nil))) ((pg_tup rfl (pgs_cons (pg_name (i := 5) scserved.nd rfl (Or.inl rfl)) (pgs_cons (pg_name (i := 10) scserved.nd rfl (Or.inl rfl)) pgs_nil))))
          (pss_cons (ps_if (pt_cmpR op_ne (pe_meth (pv 0) KR.cl KR.mmark_of GRoom_mark_of hrRoom_mark_of BRoom_mark_of .nil pass0 (pa_cons (pv 5) pa_nil)) (pe_op op_add (pv 10) (pe_op op_mul (pv 9) (pe_callTy call_int1 (by rfl) T.n_int (by decide +kernel) (pa_cons (pe_cmpR op_eq (pv 5) (pv 7) (nomark _)) pa_nil)))) (nomark _)) (pss_one (ps_ret pe_non)) pss_nil)
        (pss_one (ps_if (PW.pt (pw_and (pt_cmpR op_eq (pv 5) (pv 7) (nomark _)) (pw_and1 (PW.pt (pw_or (pt_cmpR op_ne (pe_prop (pv 0) KR.cl KR.plevel GRoom_level hrP BRoom_level .nil pass0 (by rfl)) (pv 10) (nomark _)) (pw_or1 (pt_cmpR op_lt (pe_prop (pv 0) KR.cl KR.plevel GRoom_level hrP BRoom_level .nil pass0 (by rfl)) (pv 6) (nomark _)))))))) (pss_one (ps_ret pe_non)) pss_nil))))
        (pss_one (ps_ret (pe_tup (pa_cons (pv 7) (pa_cons (pv 9) pa_nil))))))))))), ?_⟩
    obtain ⟨⟨dx, W, fs, ts, hx, rf, hW, nW, hD, hL, ln⟩, fx, fD, fL⟩ := id R
    refine ⟨_, rfl, Ld, lv, rfl, .inl hLd, fun p1 hp1 => ?_⟩
    have s1 := same_new (o := .lst (lv.map fun kv => kV kv.1)) hp1
    have ek : (lv.map fun kv => kV kv.1) = ks.map V.str := by
      have e := congrArg (List.map kV) elv
      rw [List.map_map, List.map_map] at e
      exact e
    have e1 : upd H p1 (.lst (lv.map fun kv => kV kv.1)) p1 = some (.lst (ks.map V.str)) := by rw [upd_same, ek]
    generalize upd H p1 (.lst (lv.map fun kv => kV kv.1)) = H1 at s1 e1 ⊢
    show tNil _ _ _
    unfold tNil
    show rSortedS K [V.ref p1] H1 _
    refine ⟨p1, ks, rfl, SqL.of e1, by omega, fun ys p2 hperm hsort hp2 => ⟨p2, rfl, ⟨_, SqL.of upd_same⟩, ?_⟩⟩
    have s12 := same_new (o := .lst (ys.map V.str)) hp2
    have e2 : upd H1 p2 (.lst (ys.map V.str)) p2 = some (.lst (ys.map V.str)) := upd_same
    have s2 := s1.trans s12
    generalize upd H1 p2 (.lst (ys.map V.str)) = H2 at s2 e2 ⊢
    have ysn : ∀ z ∈ ys, z ∈ ns := fun z hz => ksn z (hperm.mem_iff.mp hz)
    have yl : ys.length ≤ 60 := by rw [hperm.length_eq]; exact kl
    refine fun D4 hD4 => lc_it (walk_list (K := K) (a := p2) (xs := ys.map V.str)) (fun i H' => Same H2 H' ∧ H' D4 = some (.lst ((ys.take i).map fun z => V.int (markOf s.kv z)))) ⟨same_new hD4, upd_same⟩ (fun i H' _ ⟨sm, _⟩ => SqL.of (sm _ _ e2)) ?_ ?_
    · rintro i v H6 H7 hi ⟨sm, hU6⟩ ⟨rfl, e2⟩
      rw [List.length_map] at hi
      obtain ⟨z, hz⟩ : ∃ z, ys[i]? = some z := ⟨_, List.getElem?_eq_getElem hi⟩
      rw [List.getElem?_map, hz] at e2
      cases e2
      have hzn : z ∈ ns := ysn _ (List.mem_of_getElem? hz)
      have sa := s2.trans sm
      refine ⟨rfl, _, rfl, x, dx, fs, rfl, sa _ _ hx, rf.mark_of, _, rfl, F, x, D, L, wv, sc, s, z, _, rfl, R.same sa, nms _ hzn, (by have := (nam_ok (nms _ hzn)).2; omega), dic.2 _ hzn, fun H8 s78 => ⟨_, s78 _ _ hU6, ?_, same_upd hD4 (sm.trans s78), ?_⟩⟩
      · rw [List.length_map, List.length_take]
        exact Nat.lt_of_le_of_lt (Nat.min_le_right _ _) (Nat.lt_of_le_of_lt yl (by decide))
      · rw [upd_same, List.take_add_one, hz, List.map_append]
        rfl
    rintro H3 ⟨s23, eD3⟩
    rw [List.length_map, List.take_length] at eD3
    have s3 := s2.trans s23
    have ex3 : ∀ b, F b → ∃ o, H3 b = some o := fun b z => by
      obtain ⟨o, q⟩ := ex b z
      exact ⟨o, s3 _ _ q⟩
    refine ⟨_, rfl, x, dx, fs, rfl, s3 _ _ hx, F, x, D, L, wv, sc, s, rfl, R.same s3, ?_⟩
    refine ⟨_, rfl, x, dx, fs, rfl, s3 _ _ hx, rf.serve, F, x, D, L, wv, sc, s, ns, rfl, R.same s3, dic, wd, nms, rows, l40, sc0, sc1, hne, ex3, fun j q T1 H4 hj hq k4 R4 hT1 eT1 => ⟨T1, _, rfl, SqT.of eT1, rfl, _, _, rfl, _, _, rfl, rfl, ?_⟩⟩
    obtain ⟨hqn, p0, pp1⟩ := rows q (List.mem_of_getElem? hq)
    obtain ⟨w0, w1⟩ := wd.b _ hqn
    have subR : ∀ b, (b = x ∨ b = D ∨ b = L) → F b := fun b z => z.elim (fun e => by rw [e]; exact fx) fun z => z.elim (fun e => by rw [e]; exact fD) fun e => by rw [e]; exact fL
    obtain ⟨lv', hLd', lvl, hlv⟩ := LA.ex
    rw [hLd] at hLd'
    cases hLd'
    have hLd4 : H4 Ld = some (.dK lv) := k4 _ _ (fun z => LA.nd (subR _ z)) (s3 _ _ hLd)
    have gLd : ∀ {H' : Hp}, H' Ld = some (.dK lv) → DGet H' Ld (.str q.1) (some (.ref (la q.1))) := fun e => by rw [← hlv q.1 hqn]; exact DGet.k (k := kS q.1) e
    obtain ⟨⟨ts2, hla, pr⟩, fla⟩ := LA.own q.1 hqn
    obtain ⟨nlD, nlL, nlx⟩ := nla q.1 hqn
    have nlR : ¬ (la q.1 = x ∨ la q.1 = D ∨ la q.1 = L) := fun z => z.elim nlx fun z => z.elim nlD nlL
    have hla4 := k4 _ _ nlR (s3 _ _ hla)
    have k04 : KpF (fun b => b = x ∨ b = D ∨ b = L) H H4 := (KpF.same s3).trans k4
    have pr4 : Paired (Row2At F H4) ts2 (mineOf q.1 s.ln) := pr.mono fun t q ⟨a, b⟩ => ⟨a, k04 _ _ (fun z => a (subR _ z)) b⟩
    rw [mineOf_head hq fun m q' hm hq' => head_first1 hj hq hm hq'] at pr4
    cases pr4 with
    | @cons t0 _ tr _ h0 pr4 =>
      refine ⟨_, rfl, _, rfl, Ld, _, rfl, gLd hLd4, ?_⟩
      refine ⟨_, rfl, iteF ?_⟩
      refine ⟨_, rfl, _, rfl, Ld, _, rfl, gLd hLd4, true, .inl ⟨_, SqL.of hla4, rfl⟩, iteF ?_⟩
      refine ⟨_, rfl, _, rfl, Ld, _, rfl, gLd hLd4, .inl ⟨rfl, _, SqL.of hla4⟩, la q.1, _, 0, 0, _, rfl, rfl, hla4, by decide, by decide, (by unfold seqIndex?; simp), rfl, ?_⟩
      have k45 : KpF (fun b => b = la q.1) H4 (upd H4 (la q.1) (.lst (((t0 :: tr).map V.ref).eraseIdx 0))) := (KpF.refl _ _).upd rfl
      have sub5 : ∀ b, b = la q.1 → F b := fun b e => by rw [e]; exact fla
      have e5 : upd H4 (la q.1) (.lst (((t0 :: tr).map V.ref).eraseIdx 0)) (la q.1) = some (.lst (tr.map V.ref)) := upd_same
      generalize upd H4 (la q.1) (.lst (((t0 :: tr).map V.ref).eraseIdx 0)) = H5 at k45 e5 ⊢
      have h05 : H5 t0 = some (.tup (row2 q)) := k45 _ _ (fun e => h0.1 (sub5 _ e)) h0.2
      refine ⟨_, _, _, _, rfl, rfl, SqT.of h05, rfl, _, rfl, rfl, _, rfl, ite_nd (fun h => absurd rfl h) (fun _ => ?_)⟩
      have hWd5 : H5 Wd = some (.dK wv) := k45 _ _ (fun e => nWd (sub5 _ e)) (k4 _ _ (fun z => nWd (subR _ z)) (s3 _ _ hWd))
      have hLd5 := k45 _ _ (fun e => LA.nd (sub5 _ e)) hLd4
      have R5 := R4.kp k45 sub5 (fun e => nlx e.symm) (fun e => nlD e.symm) (fun e => nlL e.symm)
      refine ⟨_, rfl, _, rfl, _, _, rfl, rfl, .inl ⟨by omega, by omega⟩, _, rfl, _, rfl, Wd, .int (markOf wv q.1), rfl, (by rw [← wd.d.2 _ hqn]; exact DGet.k (k := kS q.1) hWd5), _, _, rfl, rfl, ⟨by omega, by omega⟩, ?_⟩
      refine ⟨_, rfl, Ld, lv, rfl, .inl hLd5, fun p3 hp3 => ?_⟩
      have s56 := same_new (o := .lst (lv.map fun kv => kV kv.1)) hp3
      have e6 : upd H5 p3 (.lst (lv.map fun kv => kV kv.1)) p3 = some (.lst (ks.map V.str)) := by rw [upd_same, ek]
      generalize upd H5 p3 (.lst (lv.map fun kv => kV kv.1)) = H6 at s56 e6 ⊢
      show rSortedS K [V.ref p3] H6 _
      refine ⟨p3, ks, rfl, SqL.of e6, by omega, fun ys2 p4 perm2 sort2 hp4 => ?_⟩
      obtain rfl : ys2 = ys := sorted_one (perm2.trans hperm.symm) sort2 hsort
      have s67 := same_new (o := .lst (ys2.map V.str)) hp4
      have e7 : upd H6 p4 (.lst (ys2.map V.str)) p4 = some (.lst (ys2.map V.str)) := upd_same
      generalize upd H6 p4 (.lst (ys2.map V.str)) = H7 at s67 e7 ⊢
      have s57 := s56.trans s67
      have R7 := R5.same s57
      obtain ⟨⟨dx7, W7, fs7, ts7, hx7, rf7, _, _, _, _, _⟩, _, _, _⟩ := id R7
      have eD7 : H7 D4 = some (.lst (ys2.map fun z => V.int (markOf s.kv z))) := s57 _ _ (k45 _ _ (fun e => by
        obtain ⟨o, qo⟩ := ex _ (sub5 _ e)
        have := s2 _ _ qo
        rw [hD4] at this
        cases this) (k4 _ _ (fun z => by
        obtain ⟨o, qo⟩ := ex _ (subR _ z)
        have := s2 _ _ qo
        rw [hD4] at this
        cases this) eD3))
      obtain ⟨dic', dm, dn⟩ := dic.put hqn (markOf s.kv q.1 + (q.2.1 * sc).fdiv (markOf wv q.1))
      refine ⟨_, rfl, p4, D4, _, _, rfl, .inl ⟨SqL.of e7, SqL.of eD7, for_it (walk_zip (K := K) (a := p4) (b := D4) (xs := ys2.map V.str) (ys := ys2.map fun z => V.int (markOf s.kv z)) (n := ys2.length) (by simp)) (fun i σ H' => ∃ v5 v10 : Option V, σ = [some (.ref x), some (.ref Ld), some (.ref Wd), some (.int sc), some (.ref D4), v5, some (.int s.lv), some (.str q.1), some (.int q.2.1), some (.int ((q.2.1 * sc).fdiv (markOf wv q.1))), v10] ∧ Same H7 H') ⟨_, _, rfl, Same.refl H7⟩ (fun i σ H' _ ⟨_, _, _, sm⟩ => ⟨SqL.of (sm _ _ e7), SqL.of (sm _ _ eD7)⟩) ?_ ?_⟩⟩
      · rintro i v σ H8 H9 hi ⟨v5, v10, rfl, sm⟩ ⟨E9, a1, a2, rfl, hE, rfl, q1, q2⟩
        have q1' : (ys2.map V.str)[i]? = some a1 := q1
        have q2' : (ys2.map fun z => V.int (markOf s.kv z))[i]? = some a2 := q2
        obtain ⟨z, hz⟩ : ∃ z, ys2[i]? = some z := ⟨_, List.getElem?_eq_getElem hi⟩
        rw [List.getElem?_map, hz] at q1' q2'
        cases q1'
        cases q2'
        have hzn : z ∈ ns := ysn _ (List.mem_of_getElem? hz)
        refine ⟨E9, _, rfl, SqT.of upd_same, rfl, _, _, rfl, _, _, rfl, rfl, ?_⟩
        have sE := sm.trans (same_new (o := .tup [V.str z, V.int (markOf s.kv z)]) hE)
        generalize upd H8 E9 (.tup [V.str z, V.int (markOf s.kv z)]) = H10 at sE ⊢
        refine ⟨_, rfl, x, dx7, fs7, rfl, sE _ _ hx7, rf7.mark_of, _, rfl, F, x, D, L, wv, sc, _, z, _, rfl, R7.same sE, nms _ hzn, (by have := (nam_ok (nms _ hzn)).2; omega), dic'.2 _ hzn, fun H11 s11 => ?_⟩
        have sF := sE.trans s11
        obtain ⟨inc, ei⟩ : ∃ inc : Int, inc = (q.2.1 * sc).fdiv (markOf wv q.1) := ⟨_, rfl⟩
        have i0 : 0 ≤ inc := by
          rw [ei]
          exact Int.fdiv_nonneg (Int.mul_nonneg (by omega) (by omega)) (by omega)
        refine ⟨_, rfl, _, rfl, _, rfl, _, rfl, rfl, .inr ⟨_, rfl, ?_⟩⟩
        rw [← ei] at dm dn ⊢
        have lq := lev q (List.mem_of_getElem? hq)
        have hxF := sF _ _ hx7
        have RF := R7.same sF
        by_cases e : z = q.1
        · subst e
          rw [decide_eq_true (rfl : V.str q.1 = V.str q.1), if_pos rfl]
          refine ⟨_, _, rfl, rfl, .inr ⟨by omega, by omega⟩, _, _, rfl, rfl, rfl, _, rfl, ite_nd (fun h => absurd (congrArg V.int (by rw [dm, Int.mul_one])) h) (fun _ => ?_)⟩
          refine ⟨_, rfl, _, rfl, rfl, _, rfl, ite_d (fun _ => ?_) (fun h => absurd rfl h)⟩
          refine ⟨_, rfl, x, dx7, fs7, rfl, hxF, F, x, D, L, wv, sc, _, rfl, RF, _, rfl, rfl, _, rfl, ite_nd (fun h => absurd rfl h) (fun _ => ?_)⟩
          refine ⟨_, rfl, x, dx7, fs7, rfl, hxF, F, x, D, L, wv, sc, _, rfl, RF, _, rfl, _, _, rfl, rfl, _, rfl, ite_d (fun h => absurd (show markOf s.kv q.1 < s.lv from h) (by omega)) (fun _ => ⟨_, _, rfl, sF⟩)⟩
        · rw [decide_eq_false (fun h => e (V.str.inj h)), if_neg (by decide)]
          refine ⟨_, _, rfl, rfl, .inr ⟨by omega, by omega⟩, _, _, rfl, rfl, rfl, _, rfl, ite_nd (fun h => absurd (congrArg V.int (by rw [dn z e, Int.mul_zero, Int.add_zero])) h) (fun _ => ?_)⟩
          exact ⟨_, rfl, _, rfl, rfl, _, rfl, ite_d (fun h => absurd (V.str.inj h) e) (fun _ => iteF ⟨_, _, rfl, sF⟩)⟩
      · rintro σ H8 ⟨v5, v10, rfl, sm⟩
        refine ⟨_, rfl, _, rfl, (by show 2 ≤ sizeLine; decide), fun T hT => ?_⟩
        have s78 := sm.trans (same_new (o := .tup [V.str q.1, V.int ((q.2.1 * sc).fdiv (markOf wv q.1))]) hT)
        have s58 := s57.trans s78
        have k05 : KpF (fun b => b = x ∨ b = D ∨ b = L ∨ b = la q.1) H H5 := (k04.mono fun b z => z.elim .inl fun z => z.elim (fun e => .inr (.inl e)) fun e => .inr (.inr (.inl e))).trans (k45.mono fun b e => .inr (.inr (.inr e)))
        have k08 := k05.trans (KpF.same s58)
        have sub8 : ∀ b, (b = x ∨ b = D ∨ b = L ∨ b = la q.1) → F b := fun b z => z.elim (fun e => by rw [e]; exact fx) fun z => z.elim (fun e => by rw [e]; exact fD) fun z => z.elim (fun e => by rw [e]; exact fL) (sub5 b)
        have hT0 : H T = none := (fresh_of k05 (fun b z => by
          obtain ⟨⟨_, _, _, _, a1, _, _, _, a2, a3, _⟩, _⟩ := id R5
          rcases z with e | e | e | e
          · exact ⟨_, by rw [e]; exact a1⟩
          · exact ⟨_, by rw [e]; exact a2⟩
          · exact ⟨_, by rw [e]; exact a3⟩
          · exact ⟨_, by rw [e]; exact e5⟩) ((s57.trans sm).free hT)).1
        refine k j q T _ hj hq k08 (R5.same s58) ⟨⟨lv, s58 _ _ hLd5, lvl, hlv⟩, fun y hy => ?_, LA.ne, LA.nd⟩ hT0 upd_same
        by_cases e : y = q.1
        · subst e
          exact ⟨⟨tr, s58 _ _ e5, pr4.mono fun t p ⟨a, b⟩ => ⟨a, s58 _ _ (k45 _ _ (fun e => a (sub5 _ e)) b)⟩⟩, fla⟩
        · rw [mineOf_other hq e]
          obtain ⟨n2, n3, n4⟩ := nla y hy
          exact (LA.own y hy).kp k08 sub8 fun z => z.elim n4 fun z => z.elim n2 fun z => z.elim n3 (LA.ne y hy _ hqn e)
end k48
namespace k48
open PySem L2 LC RM
section
variable {ns ste : List Str} {s : RS} {mo gr m0 : Str → Int} {sps : List Addr} {sd : Addr → Spn}
theorem stays_none {rd : Int} {q : Row} (h : q.2.2 = none) : stays rd q = true := by
  unfold stays
  rw [h]
theorem Bal.leave (b : Bal ns ste s mo gr m0 sps sd) (rd : Int) : Bal ns ste (leaveS s rd) mo gr m0 sps sd := by
  refine ⟨⟨fun q hq => b.bd.lev q (List.mem_filter.mp hq).1, b.bd.up, b.bd.mo0⟩, b.gr, fun y hy => ?_, fun q hq w => b.un q (List.mem_filter.mp hq).1 w, b.sp⟩
  obtain ⟨q, hq, e⟩ := b.wt y hy
  exact ⟨q, List.mem_filter.mpr ⟨hq, stays_none (b.un q hq (by rw [e]; exact hy))⟩, e⟩
end
section
variable {r : Ar} {F : Addr → Prop} {H : Hp} {g l N Wd Ld x D L : Addr} {wv : List (Key × V)} {sc : Int} {ns : List Str} {s : RS} {la : Str → Addr}
theorem LawA.join_call {Q : VK} {E : XK} (A : LawA r F H g l N Wd Ld wv sc ns x D L s la (mine s)) {z : Str} {m : Int} {u : Option Int} (hz : z ∈ ns) (m0 : 1 ≤ m) (m1 : m ≤ 999) (l39 : s.ln.length ≤ 39)
    (k : ∀ c H', KpF (fun b => b = g ∨ b = D ∨ b = L ∨ b = la z) H H' → LawA r F H' g l N Wd Ld wv sc ns x D L (joinS s z c u) la (mine (joinS s z c u)) → Q .non H') : spjoin r [.ref g, .ref x, .ref Ld, .str z, .int m, uV u] H Q E := by
  obtain ⟨a1, a2, a3⟩ := A.ap
  refine ⟨F, g, l, x, D, L, Ld, wv, sc, s, ns, la, z, m, u, rfl, A.sit.bag, A.sit.fg, A.sit.nl, A.sit.ex, a1, a2, a3, A.room, A.at_, fun y hy => ⟨(A.lan y hy).1, (A.lan y hy).2.1, (A.lan y hy).2.2.1, (A.lan y hy).2.2.2⟩, A.ok.dic, A.sit.nms, hz, m0, m1, l39, fun c H' c0 c1 kp B R LA => ?_⟩
  exact k c H' kp (A.step kp (fun b w => w.elim .inl fun w => w.elim (fun e => .inr (.inr (.inl e))) fun w => w.elim (fun e => .inr (.inr (.inr (.inl e)))) fun e => .inr (.inr (.inr (.inr ⟨z, hz, e⟩)))) B R LA (A.ok.join hz c0 (by omega) l39))
theorem LawA.served_call {Q : VK} {E : XK} {mo : Str → Int} (A : LawA r F H g l N Wd Ld wv sc ns x D L s la (mine s)) (bd : Bd ns s mo) (hne : s.ln ≠ [])
    (k : ∀ (j : Nat) (q : Row) (T : Addr) H', headAt s.kv s.ln = some j → s.ln[j]? = some q → q.1 ∈ ns → 0 ≤ (q.2.1 * sc).fdiv (markOf wv q.1) → KpF (fun b => b = x ∨ b = D ∨ b = L ∨ b = la q.1) H H' → LawA r F H' g l N Wd Ld wv sc ns x D L (serveS s sc (markOf wv q.1) j q) la (mine (serveS s sc (markOf wv q.1) j q)) → H' T = some (.tup [.str q.1, .int ((q.2.1 * sc).fdiv (markOf wv q.1))]) → Q (.ref T) H') :
    spserved r [.ref x, .ref Ld, .ref Wd, .int sc] H Q E := by
  obtain ⟨a1, a2, a3⟩ := A.ap
  obtain ⟨lv, h1, h2, h3, ks, h4, h5, h6, h7, h8⟩ := A.lines.ex
  refine ⟨F, x, D, L, Ld, Wd, wv, sc, s, ns, ks, la, rfl, A.sit.ex, A.room, A.at_, fun y hy => ⟨(A.lan y hy).2.1, (A.lan y hy).2.2.1, (A.lan y hy).2.2.2⟩, A.ok.dic, A.sit.wd, A.sit.nms, A.ok.rows, A.ok.l40, A.sit.sc0, A.sit.sc1, hne, bd.lev, A.sit.hW, A.sit.nW, ⟨lv, h1, h4⟩, h5, h6, h7, h8, fun j q T H' hj hq kp R LA hT eT => ?_⟩
  obtain ⟨hqn, q0, q1⟩ := A.ok.rows q (List.mem_of_getElem? hq)
  obtain ⟨w0, w1⟩ := A.sit.wd.b _ hqn
  have i0 : 0 ≤ (q.2.1 * sc).fdiv (markOf wv q.1) := Int.fdiv_nonneg (Int.mul_nonneg (by omega) (by have := A.sit.sc0; omega)) (by omega)
  have sub : ∀ b, (b = x ∨ b = D ∨ b = L ∨ b = la q.1) → Rm g x D L la ns b := fun b w => w.elim (fun e => .inr (.inl e)) fun w => w.elim (fun e => .inr (.inr (.inl e))) fun w => w.elim (fun e => .inr (.inr (.inr (.inl e)))) fun e => .inr (.inr (.inr (.inr ⟨_, hqn, e⟩)))
  have B : Bag l H' g := bag_kp A.sit.bag kp (fun w => w.elim (fun e => a1 e.symm) fun w => w.elim (fun e => a2 e.symm) fun w => w.elim (fun e => a3 e.symm) fun e => (A.lan _ hqn).1 e.symm) fun w => A.sit.nl (A.alive (sub _ w)).1
  exact k j q T H' hj hq hqn i0 kp (A.step kp sub B R LA (A.ok.serve hq)) eT
theorem join_sub {z : Str} (hz : z ∈ ns) : ∀ b, (b = g ∨ b = D ∨ b = L ∨ b = la z) → Rm g x D L la ns b := fun b w => w.elim .inl fun w => w.elim (fun e => .inr (.inr (.inl e))) fun w => w.elim (fun e => .inr (.inr (.inr (.inl e)))) fun e => .inr (.inr (.inr (.inr ⟨z, hz, e⟩)))
theorem serve_sub {z : Str} (hz : z ∈ ns) : ∀ b, (b = x ∨ b = D ∨ b = L ∨ b = la z) → Rm g x D L la ns b := fun b w => w.elim (fun e => .inr (.inl e)) fun w => w.elim (fun e => .inr (.inr (.inl e))) fun w => w.elim (fun e => .inr (.inr (.inr (.inl e)))) fun e => .inr (.inr (.inr (.inr ⟨z, hz, e⟩)))
end
def splaw (K : PySem.W.Frag) : Sp := fun vs H Q _ => ∃ (a : Addr) (ns : List Int), vs = [.ref a] ∧ SqL K H a (ns.map V.int) ∧ ns.length ≤ 63 ∧ ∀ H', Q (.bl true) H'
theorem ok_law {P : Program} {w : World} {K : PySem.W.Frag} {mg : Str → Option Value} {base : Heap} {f : Addr} {fd : FuncData} (D : Def K mg "law" slaw Plaw f fd) (T : Txt K mg) {r : Ar} (KR : Kr K mg r) (IRoom : FnR P w K mg base CX0 2 r.i (spRoom_init r)) {fdRjoin : FuncData} (GRoom_join : FnOk P w K mg base CX0 4 r.fjoin fdRjoin PRoom_join (spRoom_join r)) (BRoom_join : Binds K fdRjoin PRoom_join []) {fdRmark_of : FuncData} (GRoom_mark_of : FnOk P w K mg base CX0 4 r.fmark_of fdRmark_of PRoom_mark_of (spRoom_mark_of r)) (BRoom_mark_of : Binds K fdRmark_of PRoom_mark_of []) {fdRlevel : FuncData} (GRoom_level : FnOk P w K mg base CX0 1 r.flevel fdRlevel PRoom_level (spRoom_level r)) (BRoom_level : Binds K fdRlevel PRoom_level []) {fdRserve : FuncData} (GRoom_serve : FnOk P w K mg base CX0 3 r.fserve fdRserve PRoom_serve (spRoom_serve r)) (BRoom_serve : Binds K fdRserve PRoom_serve []) {fdRhead : FuncData} (GRoom_head : FnOk P w K mg base CX0 1 r.fhead fdRhead PRoom_head (spRoom_head r)) (BRoom_head : Binds K fdRhead PRoom_head []) {fdRleave : FuncData} (GRoom_leave : FnOk P w K mg base CX0 1 r.fleave fdRleave PRoom_leave (spRoom_leave r)) (BRoom_leave : Binds K fdRleave PRoom_leave []) (Glen : FnR P w K mg base CX0 1 r.flen (spRoom_len r)) {fbag : Addr} {fdbag : FuncData} (Dbag : Def K mg "_law_bag" sbag Pbag fbag fdbag) (Gbag : FnOk P w K mg base CX0 1 fbag fdbag Pbag (spbag K)) {fdraw : Addr} {fddraw : FuncData} (Ddraw : Def K mg "_law_draw" sdraw Pdraw fdraw fddraw) (Gdraw : FnOk P w K mg base CX0 1 fdraw fddraw Pdraw (spdraw)) {fof : Addr} {fdof : FuncData} (Dof : Def K mg "_law_of" sof Pof fof fdof) (Gof : FnOk P w K mg base CX0 2 fof fdof Pof (spof K)) {fnames : Addr} {fdnames : FuncData} (Dnames : Def K mg "_law_names" snames Pnames fnames fdnames) (Gnames : FnOk P w K mg base CX0 3 fnames fdnames Pnames (spnames)) {fscale : Addr} {fdscale : FuncData} (Dscale : Def K mg "_law_scale" sscale Pscale fscale fdscale) (Gscale : FnOk P w K mg base CX0 1 fscale fdscale Pscale (spscale)) {fjoin : Addr} {fdjoin : FuncData} (Djoin : Def K mg "_law_join" sjoin Pjoin fjoin fdjoin) (Gjoin : FnOk P w K mg base CX0 5 fjoin fdjoin Pjoin (spjoin r)) {fserved : Addr} {fdserved : FuncData} (Dserved : Def K mg "_law_served" sserved Pserved fserved fdserved) (Gserved : FnOk P w K mg base CX0 5 fserved fdserved Pserved (spserved r)) :
    FnOk P w K mg base CX0 6 f fd Plaw (splaw K) := by
  refine D.F.ok sclaw (fun vs H Q E h => ?_) (fun cdv A outer s H vs Q E hr h => ?_)
  · obtain ⟨sc, ms, rfl, hS, hl, k⟩ := h
    rfl
  · obtain ⟨sc, ms, rfl, hS, hl, k⟩ := h
    have hrbag : Room 1 _ := hr.mono (by decide)
    have hrdraw : Room 1 _ := hr.mono (by decide)
    have hrof : Room 2 _ := hr.mono (by decide)
    have hrnames : Room 3 _ := hr.mono (by decide)
    have hrscale : Room 1 _ := hr.mono (by decide)
    have hrjoin : Room 5 _ := hr.mono (by decide)
    have hrserved : Room 5 _ := hr.mono (by decide)
    have hrI : Room 3 _ := hr.mono (by decide)
    have hrP : Room (1 + 1) _ := hr.mono (by decide)
    have hrQ : Room (1 + 1) _ := hr.mono (by decide)
    have hrRoom_leave : Room 1 _ := hr.mono (by decide)
    refine ⟨_, (pss_cons (ps_set (i := 1) sclaw.nd rfl (Or.inl rfl) (pe_call Gbag hrbag rfl Dbag.g Dbag.F.kp Dbag.b .nil pass0 (pa_cons (pv 0) pa_nil)))
        (pss_cons (ps_set (i := 2) sclaw.nd rfl (Or.inl rfl) (pe_call Gnames hrnames rfl Dnames.g Dnames.F.kp Dnames.b .nil pass0 (pa_cons (pv 1) (pa_cons (pe_op op_add pe_int (pe_call Gdraw hrdraw rfl Ddraw.g Ddraw.F.kp Ddraw.b .nil pass0 (pa_cons (pv 1) (pa_cons pe_int pa_nil)))) pa_nil))))
        (pss_cons (ps_set (i := 3) sclaw.nd rfl (Or.inl rfl) pe_dnewK)
        (pss_cons (ps_set (i := 4) sclaw.nd rfl (Or.inl rfl) pe_dnewK)
        (pss_cons (ps_set (i := 5) sclaw.nd rfl (Or.inl rfl) pe_dnewK)
        (pss_cons (ps_set (i := 6) sclaw.nd rfl (Or.inl rfl) pe_dnewK)
        (pss_cons (ps_for PassesOwn.never rfl (pi_list (pv 2)) (pg_name (i := 7) sclaw.nd rfl (Or.inl rfl))
          (pss_cons (ps_dput (hu_of hr) (pv 3) (pv 7) (pe_op op_add pe_int (pe_call Gdraw hrdraw rfl Ddraw.g Ddraw.F.kp Ddraw.b .nil pass0 (pa_cons (pv 1) (pa_cons (pe_call Gof hrof rfl Dof.g Dof.F.kp Dof.b .nil pass0 (pa_cons (pv 1) (pa_cons (pe_lst (pa_cons pe_int (pa_cons pe_int pa_nil))) pa_nil))) pa_nil)))) (by rfl))
        (pss_cons (ps_dput (hu_of hr) (pv 4) (pv 7) (pe_lst pa_nil) (by rfl))
        (pss_cons (ps_dput (hu_of hr) (pv 5) (pv 7) pe_int (by rfl))
        (pss_one (ps_dput (hu_of hr) (pv 6) (pv 7) pe_int (by rfl)))))))
        (pss_cons (ps_set (i := 8) sclaw.nd rfl (Or.inl rfl) (pe_call Gscale hrscale rfl Dscale.g Dscale.F.kp Dscale.b .nil pass0 (pa_cons (LD.pe_listVals rfl (by rfl) T.n_list (pv 3)) pa_nil)))
        (pss_cons (ps_set (i := 9) sclaw.nd rfl (Or.inl rfl) (StX.pe_makeR KR.m IRoom hrI rfl KR.g pass0 (pa_cons (pe_callTy call_dictD (by rfl) T.n_dict (by decide +kernel) (pa_cons (pv 3) pa_nil)) pa_nil)))
        (pss_cons (ps_set (i := 10) sclaw.nd rfl (Or.inl rfl) (pe_call Gof hrof rfl Dof.g Dof.F.kp Dof.b .nil pass0 (pa_cons (pv 1) (pa_cons (pe_lst (pa_cons pe_int (pa_cons pe_int (pa_cons pe_int (pa_cons pe_int pa_nil))))) pa_nil))))
        (pss_cons (ps_set (i := 11) sclaw.nd rfl (Or.inl rfl) (pe_call Gdraw hrdraw rfl Ddraw.g Ddraw.F.kp Ddraw.b .nil pass0 (pa_cons (pv 1) (pa_cons pe_int pa_nil))))
        (pss_cons (ps_for PassesOwn.never rfl (pi_range1 rfl T.n_range (pa_cons (pv 11) pa_nil)) (pg_name (i := 12) sclaw.nd rfl (Or.inl rfl))
          (pss_one (ps_expr (pe_call Gjoin hrjoin rfl Djoin.g Djoin.F.kp Djoin.b .nil pass0 (pa_cons (pv 1) (pa_cons (pv 9) (pa_cons (pv 4) (pa_cons (pe_call Gof hrof rfl Dof.g Dof.F.kp Dof.b .nil pass0 (pa_cons (pv 1) (pa_cons (pv 2) pa_nil))) (pa_cons (pv 10) (pa_cons pe_non pa_nil))))))))))
        (pss_cons (ps_for PassesOwn.never rfl (pi_range1 rfl T.n_range (pa_cons (pv 11) pa_nil)) (pg_name (i := 12) sclaw.nd rfl (Or.inl rfl))
          (pss_cons (ps_set (i := 13) sclaw.nd rfl (Or.inl rfl) (pe_call Gserved hrserved rfl Dserved.g Dserved.F.kp Dserved.b .nil pass0 (pa_cons (pv 9) (pa_cons (pv 4) (pa_cons (pv 3) (pa_cons (pv 8) pa_nil))))))
        (pss_cons (ps_if (pt_cmpR op_isN (pv 13) pe_non (nomark _)) (pss_one (ps_ret pe_bl)) pss_nil)
        (pss_one (ps_dput (hu_of hr) (pv 5) (pe_ix ix_tup (pv 13) pe_int (fun _ _ => rfl)) (pe_callB (call_max2 rfl) (by rfl) T.n_max (by decide +kernel) (pa_cons (pe_dget (hu_of hr) (pv 5) (pe_ix ix_tup (pv 13) pe_int (fun _ _ => rfl)) (fun _ _ => rfl)) (pa_cons (pe_ix ix_tup (pv 13) pe_int (fun _ _ => rfl)) pa_nil))) (by rfl))))))
        (pss_cons (ps_if (PW.pt (pw_or (pt_cmpR op_ne (pe_callB (LD.call_lenI (n := 1) hrQ) (by rfl) T.n_len PySem.boot_len (pa_cons (pv 9) pa_nil)) pe_int (nomark _)) (pw_or1 (pt_cmpR op_notN (pe_prop (pv 9) KR.cl KR.phead GRoom_head hrP BRoom_head .nil pass0 (by rfl)) pe_non (nomark _))))) (pss_one (ps_ret pe_bl)) pss_nil)
        (pss_cons (ps_set (i := 14) sclaw.nd rfl (Or.inr rfl) (pe_slice sl_list (pv 2) po_none (po_some (pe_op op_add pe_int (pe_call Gdraw hrdraw rfl Ddraw.g Ddraw.F.kp Ddraw.b .nil pass0 (pa_cons (pv 1) (pa_cons pe_int pa_nil)))))))
        (pss_cons (ps_for PassesOwn.never rfl (pi_list (pe_op op_cat (pv 14) (pv 14))) (pg_name (i := 7) sclaw.nd rfl (Or.inl rfl))
          (pss_one (ps_expr (pe_call Gjoin hrjoin rfl Djoin.g Djoin.F.kp Djoin.b .nil pass0 (pa_cons (pv 1) (pa_cons (pv 9) (pa_cons (pv 4) (pa_cons (pv 7) (pa_cons (pv 10) (pa_cons pe_non pa_nil))))))))))
        (pss_cons (ps_setLc (i := 15) (own := [("_law_name", 7)]) (g := gName 7) rfl sclaw.nd rfl rfl (sw_true rfl rfl rfl (by decide +kernel)) (pi_list (pv 2)) (blkOk_by (own := [("_law_name", 7)]) (N := Nmlaw) (sc := defScope slaw) (by decide +kernel)) (fun _ _ _ _ _ => pg_name (i := 7) sclaw.nd rfl (Or.inl rfl)) (fun _ _ _ _ _ => pts_one (pt_cmpR (show OpR _ (compareOp .NotIn) (rIn K true) from op_notIn_seq) (pv 7) (pv 14) (by rfl))) (fun _ _ _ _ _ => (pv 7)))
        (pss_cons (ps_set (i := 16) sclaw.nd rfl (Or.inl rfl) (pe_lst pa_nil))
        (pss_cons (ps_for PassesOwn.never rfl (pi_enum (by rfl) T.n_enumerate (pa_cons (pv 14) pa_nil)) ((pg_tup rfl (pgs_cons (pg_name (i := 17) sclaw.nd rfl (Or.inl rfl)) (pgs_cons (pg_name (i := 18) sclaw.nd rfl (Or.inr rfl)) pgs_nil))))
          (pss_one (ps_expr (pe_bm PySem.F.plainAttrs_list PySem.F.slot_list_extend PySem.F.type_list_extend mt_extend (pv 16) (pa_cons (pe_lc (own := [("_law_other", 24)]) (g := gName 24) (tt := tYes) rfl sclaw.nd (pi_list (pe_slice sl_list (pv 14) (po_some (pe_op op_add (pv 17) pe_int)) po_none)) (blkOk_by (own := [("_law_other", 24)]) (N := Nmlaw) (sc := defScope slaw) (by decide +kernel)) (fun _ _ _ _ _ => pg_name (i := 24) sclaw.nd rfl (Or.inl rfl)) (fun _ _ _ _ _ => pts_nil) (fun _ _ _ _ _ => (pe_lst (pa_cons (pv 18) (pa_cons (pv 24) (pa_cons pe_int (pa_cons pe_int pa_nil))))))) pa_nil)))))
        (pss_cons (ps_for PassesOwn.never rfl (pi_range1 rfl T.n_range (pa_cons (pe_op op_add pe_int (pe_call Gdraw hrdraw rfl Ddraw.g Ddraw.F.kp Ddraw.b .nil pass0 (pa_cons (pv 1) (pa_cons pe_int pa_nil)))) pa_nil)) (pg_name (i := 19) sclaw.nd rfl (Or.inl rfl))
          (pss_cons (ps_set (i := 20) sclaw.nd rfl (Or.inl rfl) (pe_call Gdraw hrdraw rfl Ddraw.g Ddraw.F.kp Ddraw.b .nil pass0 (pa_cons (pv 1) (pa_cons pe_int pa_nil))))
        (Evl.pss_cut (ps_if (PW.pt (pw_and (pt_cmpR op_eq (pv 20) pe_int (nomark _)) (pw_and (pt_truth (pv 15) (by intro _; rfl)) (pw_and1 (pt_cmpR op_lt (pe_callB (LD.call_lenI (n := 1) hrQ) (by rfl) T.n_len PySem.boot_len (pa_cons (pv 9) pa_nil)) pe_int (nomark _)))))) (pss_one (ps_expr (pe_call Gjoin hrjoin rfl Djoin.g Djoin.F.kp Djoin.b .nil pass0 (pa_cons (pv 1) (pa_cons (pv 9) (pa_cons (pv 4) (pa_cons (pe_call Gof hrof rfl Dof.g Dof.F.kp Dof.b .nil pass0 (pa_cons (pv 1) (pa_cons (pv 15) pa_nil))) (pa_cons (pv 10) (pa_cons (pe_call Gof hrof rfl Dof.g Dof.F.kp Dof.b .nil pass0 (pa_cons (pv 1) (pa_cons (pe_lst (pa_cons pe_non (pa_cons (pe_call Gdraw hrdraw rfl Ddraw.g Ddraw.F.kp Ddraw.b .nil pass0 (pa_cons (pv 1) (pa_cons pe_int pa_nil))) pa_nil))) pa_nil))) pa_nil))))))))) pss_nil)
        (Evl.pss_cut (ps_if (pt_cmpR op_eq (pv 20) pe_int (nomark _)) (pss_cons (ps_set (i := 21) sclaw.nd rfl (Or.inr rfl) (pe_call Gdraw hrdraw rfl Ddraw.g Ddraw.F.kp Ddraw.b .nil pass0 (pa_cons (pv 1) (pa_cons pe_int pa_nil))))
        (pss_cons (ps_expr (pe_meth (pv 9) KR.cl KR.mleave GRoom_leave hrRoom_leave BRoom_leave .nil pass0 (pa_cons (pv 21) pa_nil)))
        (pss_one (ps_for PassesOwn.never rfl (pi_list (pv 15)) (pg_name (i := 7) sclaw.nd rfl (Or.inl rfl))
          (pss_one (ps_dput (hu_of hr) (pv 4) (pv 7) (pe_lc (own := [("_law_row", 25)]) (g := gName 25) rfl sclaw.nd (pi_list (pe_dget (hu_of hr) (pv 4) (pv 7) (fun _ _ => rfl))) (blkOk_by (own := [("_law_row", 25)]) (N := Nmlaw) (sc := defScope slaw) (by decide +kernel)) (fun _ _ _ _ _ => pg_name (i := 25) sclaw.nd rfl (Or.inl rfl)) (fun _ _ _ _ _ => pts_one (PW.pt (pw_or (pt_cmpR op_isN (pe_ix (show IxR _ (rIxT K) from ix_tup) (pv 25) pe_int (fun _ _ => rfl)) pe_non (nomark _)) (pw_or1 (pt_cmpR op_ge (pe_ix (show IxR _ (rIxT K) from ix_tup) (pv 25) pe_int (fun _ _ => rfl)) (pv 21) (nomark _)))))) (fun _ _ _ _ _ => (pv 25))) (by rfl))))))) pss_nil)
        (pss_cons (ps_set (i := 13) sclaw.nd rfl (Or.inl rfl) (pe_call Gserved hrserved rfl Dserved.g Dserved.F.kp Dserved.b .nil pass0 (pa_cons (pv 9) (pa_cons (pv 4) (pa_cons (pv 3) (pa_cons (pv 8) pa_nil))))))
        (pss_cons (ps_if (pt_cmpR op_isN (pv 13) pe_non (nomark _)) (pss_one (ps_ret pe_bl)) pss_nil)
        (pss_cons (ps_dput (hu_of hr) (pv 5) (pe_ix ix_tup (pv 13) pe_int (fun _ _ => rfl)) (pe_callB (call_max2 rfl) (by rfl) T.n_max (by decide +kernel) (pa_cons (pe_dget (hu_of hr) (pv 5) (pe_ix ix_tup (pv 13) pe_int (fun _ _ => rfl)) (fun _ _ => rfl)) (pa_cons (pe_ix ix_tup (pv 13) pe_int (fun _ _ => rfl)) pa_nil))) (by rfl))
        (Evl.pss_cut (ps_if (pt_cmpR op_in_seq (pe_ix ix_tup (pv 13) pe_int (fun _ _ => rfl)) (pv 14) (by rfl)) (pss_cons (ps_dput (hu_of hr) (pv 6) (pe_ix ix_tup (pv 13) pe_int (fun _ _ => rfl)) (pe_op op_add (pe_dget (hu_of hr) (pv 6) (pe_ix ix_tup (pv 13) pe_int (fun _ _ => rfl)) (fun _ _ => rfl)) (pe_ix ix_tup (pv 13) pe_int (fun _ _ => rfl))) (by rfl))
        (pss_one (ps_expr (pe_call Gjoin hrjoin rfl Djoin.g Djoin.F.kp Djoin.b .nil pass0 (pa_cons (pv 1) (pa_cons (pv 9) (pa_cons (pv 4) (pa_cons (pe_ix ix_tup (pv 13) pe_int (fun _ _ => rfl)) (pa_cons (pv 10) (pa_cons pe_non pa_nil)))))))))) pss_nil)
        (pss_one (ps_for PassesOwn.never rfl (pi_list (pv 16)) (pg_name (i := 22) sclaw.nd rfl (Or.inl rfl))
          (pss_cons (ps_set (i := 23) sclaw.nd rfl (Or.inl rfl) (pe_op op_sub (pe_dget (hu_of hr) (pv 6) (pe_ix ix_list (pv 22) pe_int (fun _ _ => rfl)) (fun _ _ => rfl)) (pe_dget (hu_of hr) (pv 6) (pe_ix ix_list (pv 22) pe_int (fun _ _ => rfl)) (fun _ _ => rfl))))
        (pss_cons (ps_asg (pe_tup (pa_cons (pe_callB (call_min2 rfl) (by rfl) T.n_min (by decide +kernel) (pa_cons (pe_ix ix_list (pv 22) pe_int (fun _ _ => rfl)) (pa_cons (pv 23) pa_nil))) (pa_cons (pe_callB (call_max2 rfl) (by rfl) T.n_max (by decide +kernel) (pa_cons (pe_ix ix_list (pv 22) pe_int (fun _ _ => rfl)) (pa_cons (pv 23) pa_nil))) pa_nil))) (pg_tup rfl (pgs_cons (pg_sub (pv 22) pe_int set_list) (pgs_cons (pg_sub (pv 22) pe_int set_list) pgs_nil))))
        (pss_one (ps_if (pt_cmpR op_gt (pe_op op_sub (pe_ix ix_list (pv 22) pe_int (fun _ _ => rfl)) (pe_ix ix_list (pv 22) pe_int (fun _ _ => rfl))) (pe_op op_add (pe_dget (hu_of hr) (pv 5) (pe_ix ix_list (pv 22) pe_int (fun _ _ => rfl)) (fun _ _ => rfl)) (pe_dget (hu_of hr) (pv 5) (pe_ix ix_list (pv 22) pe_int (fun _ _ => rfl)) (fun _ _ => rfl))) (nomark _)) (pss_one (ps_ret pe_bl)) pss_nil))))))))))))))
        (pss_one (ps_ret pe_bl)))))))))))))))))))))), ?_⟩
    refine ⟨_, rfl, sc, ms, rfl, hS, hl, fun g H1 ng s1 ⟨l, B⟩ => ?_⟩
    refine ⟨_, rfl, _, rfl, g, l, 3, rfl, B, by decide, by decide, fun d H2 d0 d1 r2 => ⟨_, _, rfl, rfl, ?_⟩⟩
    obtain ⟨n, rfl⟩ : ∃ n : Nat, d = (n : Int) := ⟨d.toNat, by omega⟩
    refine ⟨g, l, 4 + n, rfl, r2.bag, by omega, by omega, fun N ns H3 hN r3 eN len good => ?_⟩
    have Ng : N ≠ g := (r2.bag.ne hN).1
    have n6 : ns.length ≤ 6 := by omega
    -- the four dicts
    refine fun W hW => ?_
    have sW := same_new (o := .dK []) hW
    have r4 := (Ok.refl r3.bag).new (o := .dK []) hW
    have eW4 : upd H3 W (.dK []) W = some (.dK []) := upd_same
    generalize upd H3 W (.dK []) = H4 at sW r4 eW4 ⊢
    refine fun Ld hLd => ?_
    have sL := same_new (o := .dK []) hLd
    have r5 := (Ok.refl r4.bag).new (o := .dK []) hLd
    have eL5 : upd H4 Ld (.dK []) Ld = some (.dK []) := upd_same
    have eW5 := sL _ _ eW4
    have nWL : W ≠ Ld := fun e => by rw [← e, eW4] at hLd; cases hLd
    generalize upd H4 Ld (.dK []) = H5 at sL r5 eL5 eW5 ⊢
    refine fun Md hMd => ?_
    have sM := same_new (o := .dK []) hMd
    have r6 := (Ok.refl r5.bag).new (o := .dK []) hMd
    have eM6 : upd H5 Md (.dK []) Md = some (.dK []) := upd_same
    have eW6 := sM _ _ eW5
    have eL6 := sM _ _ eL5
    have nWM : W ≠ Md := fun e => by rw [← e, eW5] at hMd; cases hMd
    have nLM : Ld ≠ Md := fun e => by rw [← e, eL5] at hMd; cases hMd
    generalize upd H5 Md (.dK []) = H6 at sM r6 eM6 eW6 eL6 ⊢
    refine fun Gd hGd => ?_
    have sG := same_new (o := .dK []) hGd
    have r7 := (Ok.refl r6.bag).new (o := .dK []) hGd
    have eG7 : upd H6 Gd (.dK []) Gd = some (.dK []) := upd_same
    have eW7 := sG _ _ eW6
    have eL7 := sG _ _ eL6
    have eM7 := sG _ _ eM6
    have nWG : W ≠ Gd := fun e => by rw [← e, eW6] at hGd; cases hGd
    have nLG : Ld ≠ Gd := fun e => by rw [← e, eL6] at hGd; cases hGd
    have nMG : Md ≠ Gd := fun e => by rw [← e, eM6] at hGd; cases hGd
    have eN7 := sG _ _ (sM _ _ (sL _ _ (sW _ _ eN)))
    generalize upd H6 Gd (.dK []) = H7 at sG r7 eG7 eW7 eL7 eM7 eN7 ⊢
    have B7 := r7.bag
    have al7 : ∀ {b o}, H7 b = some o → ∀ {q : Addr}, H7 q = none → q ≠ b := fun e q h z => by rw [z, e] at h; cases h
    have hg7 : ∃ o, H7 g = some o := by
      obtain ⟨⟨xs, q⟩, _⟩ := B7.there
      exact ⟨_, q⟩
    have hl7 : ∃ o, H7 l = some o := by
      obtain ⟨_, ⟨xs, q⟩⟩ := B7.there
      exact ⟨_, q⟩
    have hd7 : ∀ b, b = W ∨ b = Ld ∨ b = Md ∨ b = Gd → ∃ kv, H7 b = some (.dK kv) := fun b z => z.elim (fun e => by rw [e]; exact ⟨_, eW7⟩) fun z => z.elim (fun e => by rw [e]; exact ⟨_, eL7⟩) fun z => z.elim (fun e => by rw [e]; exact ⟨_, eM7⟩) fun e => by rw [e]; exact ⟨_, eG7⟩
    refine ⟨_, rfl, N, rfl, ⟨_, SqL.of eN7⟩, for_it (walk_list (K := K) (a := N) (xs := ns.map V.str)) (fun i σ H' => ∃ (wv lv mv gv : List (Key × V)) (ks : List Str) (la : Str → Addr) (v7 : Option V), σ = [some (.ref sc), some (.ref g), some (.ref N), some (.ref W), some (.ref Ld), some (.ref Md), some (.ref Gd), v7, none, none, none, none, none, none, none, none, none, none, none, none, none, none, none, none, none, none] ∧
      Ini H7 H' g l N W Ld Md Gd ns (ns.take i) i wv lv mv gv ks la) ⟨[], [], [], [], [], fun _ => g, none, rfl, ⟨B7, fun b o _ e => e, eN7, eW7, eL7, eM7, eG7, ⟨fun p h => (by cases h), List.nodup_nil⟩, ⟨Nat.le_refl _, Nat.le_refl _, Nat.le_refl _, Nat.le_refl _⟩, rfl, List.nodup_nil, Nat.le_refl _, fun z => Iff.rfl, fun z h => (by cases h), fun z h => (by cases h)⟩⟩ (fun i σ H' _ ⟨_, _, _, _, _, _, _, _, I⟩ => SqL.of I.hN) ?_ ?_⟩
    · rintro i v σ H8 H9 hi ⟨wv, lv, mv, gv, ks, la, v7, rfl, I⟩ ⟨rfl, e2⟩
      rw [List.length_map] at hi
      obtain ⟨z, hz⟩ : ∃ z, ns[i]? = some z := ⟨_, List.getElem?_eq_getElem hi⟩
      rw [List.getElem?_map, hz] at e2
      cases e2
      refine ⟨_, rfl, _, rfl, (by show 2 ≤ sizeLine; decide), fun p hp => of_disp (E := E0) (Ok.refl I.bag) hp (by decide +kernel) (by decide +kernel) fun x H9 hx kk r9 => ?_⟩
      obtain ⟨c, rfl, c0, c1⟩ : ∃ c : Int, x = .int c ∧ 2 ≤ c ∧ c ≤ 12 := by
        simp only [List.mem_cons, List.not_mem_nil, or_false] at hx
        rcases hx with rfl | rfl
        · exact ⟨2, rfl, by decide, by decide⟩
        · exact ⟨12, rfl, by decide, by decide⟩
      refine ⟨g, l, c, rfl, r9.bag, by omega, by omega, fun d H10 d0 d1 r10 => ⟨_, _, rfl, rfl, ?_⟩⟩
      have I10 := I.draw (r9.trans r10) Ng hg7
      obtain ⟨e1, e2, e3, e4⟩ := I10.len
      have lt : ∀ {k : Nat}, k ≤ i → k < sizeLine := fun h => Nat.lt_of_le_of_lt h (Nat.lt_of_lt_of_le (show i < 6 by omega) (by decide))
      refine ⟨_, rfl, _, rfl, W, _, rfl, DPut.k (k := kS z) I10.hW (lt e1), ?_⟩
      refine ⟨(by show 0 ≤ sizeLine; decide), fun q hq => ?_⟩
      have nqL : ∀ {b kv}, H10 b = some (.dK kv) → b ≠ W → upd H10 W (.dK (putK wv (kS z) (.int (1 + d)))) b = some (.dK kv) := fun e n => by rw [upd_ne n]; exact e
      have nq : ∀ {b o}, upd H10 W (.dK (putK wv (kS z) (.int (1 + d)))) b = some o → b ≠ q := fun e w => by rw [w, hq] at e; cases e
      have f1 := nqL I10.hL (Ne.symm nWL)
      have f2 := nqL I10.hM (Ne.symm nWM)
      have f3 := nqL I10.hG (Ne.symm nWG)
      refine ⟨_, rfl, _, rfl, Ld, _, rfl, DPut.k (k := kS z) (by rw [upd_ne (nq f1)]; exact f1) (lt e2), ?_⟩
      refine ⟨_, rfl, _, rfl, Md, _, rfl, DPut.k (k := kS z) (by rw [upd_ne (Ne.symm nLM), upd_ne (nq f2)]; exact f2) (lt e3), ?_⟩
      refine ⟨_, rfl, _, rfl, Gd, _, rfl, DPut.k (k := kS z) (by rw [upd_ne (Ne.symm nMG), upd_ne (Ne.symm nLG), upd_ne (nq f3)]; exact f3) (lt e4), ?_⟩
      obtain ⟨ks', I'⟩ := I10.put hg7 hl7 hd7 nWL nWM nWG nLM nLG nMG (z := z) (c := 1 + d) (by omega) (by omega) hq
      have et : ns.take i ++ [z] = ns.take (i + 1) := by rw [List.take_add_one, hz]; rfl
      rw [et] at I'
      exact ⟨_, _, _, _, ks', _, _, rfl, I'⟩
    rintro σ H8 ⟨wv, lv, mv, gv, ks, la, v7, rfl, I⟩
    rw [List.length_map, List.take_length] at I
    obtain ⟨ws, ews, w12⟩ := ws_of I.wk.v
    obtain ⟨wl, ll, ml, gl'⟩ := I.len
    have kn : ∀ z, z ∈ ks ↔ z ∈ ns := I.km
    have wok : WOk wv ws := ⟨by omega, ews, w12, I.wk.nd⟩
    have wdic : WDic ns wv := ⟨⟨by omega, fun z hz => by
      obtain ⟨⟨w, e, _⟩, _⟩ := I.each z hz
      rw [mark_of e]
      exact e⟩, fun z hz => by
      obtain ⟨⟨w, e, b⟩, _⟩ := I.each z hz
      rw [mark_of e]
      exact b⟩
    have zval : ∀ z ∈ ns, valV (zeroK wv) (kS z) = some (.int 0) := fun z hz => by
      obtain ⟨⟨w, e, _⟩, _⟩ := I.each z hz
      exact zero_val e
    have zdic : Dic ns (zeroK wv) := ⟨by unfold zeroK; rw [List.length_map]; omega, fun z hz => by
      rw [mark_of (zval z hz)]
      exact zval z hz⟩
    refine ⟨_, rfl, W, wv, rfl, I.hW, fun p hp => ⟨p, ws, rfl, by rw [upd_same, ews], w12, fun H9 s9 => ?_⟩⟩
    have s89 := (same_new (o := .lst (wv.map (·.2))) hp).trans s9
    refine ⟨_, rfl, W, wv, rfl, .inl (s89 _ _ I.hW), fun Gv hGv => ?_⟩
    have s910 := same_new (o := .dK wv) hGv
    have eG10 : upd H9 Gv (.dK wv) Gv = some (.dK wv) := upd_same
    generalize upd H9 Gv (.dK wv) = H10 at s910 eG10 ⊢
    have s8 := s89.trans s910
    have B10 := bag_same s8 I.bag
    obtain ⟨gx, hg10⟩ : ∃ o, H10 g = some o := by
      obtain ⟨⟨xs, q⟩, _⟩ := B10.there
      exact ⟨_, q⟩
    obtain ⟨lx, hl10⟩ : ∃ o, H10 l = some o := by
      obtain ⟨_, ⟨xs, q⟩⟩ := B10.there
      exact ⟨_, q⟩
    refine fun x dx hx hdx nx => ⟨(fun b => b = g ∨ b = Md ∨ b = Gd ∨ ∃ y ∈ ns, b = la y), x, dx, Gv, wv, ws, H10, rfl, upd_same, hx, same_two hx hdx, ?_, same_two hx hdx _ _ eG10, wok, fun D L H11 s11 bD bL nxD R11 => ⟨rfl, ?_⟩⟩
    · rintro b (e | e | e | ⟨y, hy, e⟩)
      · rw [e]; exact ⟨_, hg10⟩
      · rw [e]; exact ⟨_, s8 _ _ I.hM⟩
      · rw [e]; exact ⟨_, s8 _ _ I.hG⟩
      · rw [e]; exact ⟨_, s8 _ _ (I.each y hy).2.2.2.1⟩
    have fr : ∀ {b o}, H10 b = some o → b ≠ x ∧ b ≠ D ∧ b ≠ L := fun e => ⟨fun z => (by rw [z, hx] at e; cases e), fun z => (by rw [z, bD] at e; cases e), fun z => (by rw [z, bL] at e; cases e)⟩
    have lag : ∀ y ∈ ns, la y ≠ g := fun y hy => by
      obtain ⟨o, q⟩ := hg7
      exact al7 q (I.each y hy).2.2.1
    have lg : l ≠ g := by
      obtain ⟨_, _, _, _, _, _, h2, _⟩ := B10
      exact h2
    have lal : ∀ y ∈ ns, la y ≠ l := fun y hy => by
      obtain ⟨o, q⟩ := hl7
      exact al7 q (I.each y hy).2.2.1
    have dg : ∀ {b kv}, H8 b = some (.dK kv) → b ≠ g ∧ b ≠ l := fun e => ⟨fun z => (by
      obtain ⟨⟨xs, q⟩, _⟩ := I.bag.there
      rw [z, q] at e
      cases e), fun z => (by
      obtain ⟨_, ⟨xs, q⟩⟩ := I.bag.there
      rw [z, q] at e
      cases e)⟩
    have dla : ∀ {b kv}, H8 b = some (.dK kv) → ∀ y ∈ ns, b ≠ la y := fun e y hy z => by
      rw [z, (I.each y hy).2.2.2.1] at e
      cases e
    have dN : ∀ {b kv}, H8 b = some (.dK kv) → N ≠ b := fun e z => by
      rw [← z, I.hN] at e
      cases e
    obtain ⟨lc0, lc1⟩ := lcm_le w12 ws.length
    rw [List.take_length] at lc0 lc1
    have A : LawA r (fun b => (b = g ∨ b = Md ∨ b = Gd ∨ ∃ y ∈ ns, b = la y) ∨ b = x ∨ b = D ∨ b = L) H11 g l N W Ld wv (lcmL ws) ns x D L ⟨zeroK wv, 0, []⟩ la (mine ⟨zeroK wv, 0, []⟩) := by
      obtain ⟨g1, g2, g3⟩ := fr hg10
      refine ⟨⟨bag_same s11 B10, .inl (.inl rfl), ?_, ?_, s11 _ _ (s8 _ _ I.hN), ?_, s11 _ _ (s8 _ _ I.hW), ?_, fun z hz => (good z hz).1, n6, by omega, wdic, lc0, lc1⟩, R11, ⟨⟨lv, s11 _ _ (s8 _ _ I.hL), by omega, fun z hz => (I.each z hz).2.1, ks, I.ke, fun z hz => (kn z).mp hz, fun z hz => (kn z).mpr hz, I.kn, by have := I.kl; omega⟩, fun z hz => Own2.nil (s11 _ _ (s8 _ _ (I.each z hz).2.2.2.1)) (.inl (.inr (.inr (.inr ⟨z, hz, rfl⟩)))), fun z hz y hy => I.ne z hz y hy, ?_⟩, ⟨zdic, (fun q h => by cases h), (by show 0 ≤ 40; decide)⟩, ⟨Ne.symm g1, Ne.symm g2, Ne.symm g3⟩, fun y hy => ?_⟩
      · obtain ⟨l1, l2, l3⟩ := fr hl10
        rintro ((e | e | e | ⟨y, hy, e⟩) | e | e | e)
        · exact lg e
        · exact (dg I.hM).2 e.symm
        · exact (dg I.hG).2 e.symm
        · exact lal y hy e.symm
        · exact l1 e
        · exact l2 e
        · exact l3 e
      · obtain ⟨⟨_, _, _, _, q1, _, _, _, q2, q3, _⟩, _⟩ := id R11
        rintro b ((e | e | e | ⟨y, hy, e⟩) | e | e | e)
        · rw [e]; exact ⟨_, s11 _ _ hg10⟩
        · rw [e]; exact ⟨_, s11 _ _ (s8 _ _ I.hM)⟩
        · rw [e]; exact ⟨_, s11 _ _ (s8 _ _ I.hG)⟩
        · rw [e]; exact ⟨_, s11 _ _ (s8 _ _ (I.each y hy).2.2.2.1)⟩
        · rw [e]; exact ⟨_, q1⟩
        · rw [e]; exact ⟨_, q2⟩
        · rw [e]; exact ⟨_, q3⟩
      · obtain ⟨l1, l2, l3⟩ := fr (s8 _ _ I.hN)
        rintro ((e | e | e | ⟨y, hy, e⟩) | e | e | e)
        · exact Ng e
        · exact dN I.hM e
        · exact dN I.hG e
        · have q := (I.each y hy).2.2.1
          rw [← e, eN7] at q
          cases q
        · exact l1 e
        · exact l2 e
        · exact l3 e
      · obtain ⟨l1, l2, l3⟩ := fr (s8 _ _ I.hW)
        rintro ((e | e | e | ⟨y, hy, e⟩) | e | e | e)
        · exact (dg I.hW).1 e
        · exact nWM e
        · exact nWG e
        · exact dla I.hW y hy e
        · exact l1 e
        · exact l2 e
        · exact l3 e
      · obtain ⟨l1, l2, l3⟩ := fr (s8 _ _ I.hL)
        rintro ((e | e | e | ⟨y, hy, e⟩) | e | e | e)
        · exact (dg I.hL).1 e
        · exact nLM e
        · exact nLG e
        · exact dla I.hL y hy e
        · exact l1 e
        · exact l2 e
        · exact l3 e
      · obtain ⟨l1, l2, l3⟩ := fr (s8 _ _ (I.each y hy).2.2.2.1)
        exact ⟨lag y hy, l2, l3, l1⟩
    have M : Pm (fun b => (b = g ∨ b = Md ∨ b = Gd ∨ ∃ y ∈ ns, b = la y) ∨ b = x ∨ b = D ∨ b = L) H11 (Rm g x D L la ns) Md Gd ns (fun _ => 0) (fun _ => 0) := by
      refine ⟨⟨mv, s11 _ _ (s8 _ _ I.hM), by omega, fun z hz => (I.each z hz).2.2.2.2.1⟩, ⟨gv, s11 _ _ (s8 _ _ I.hG), by omega, fun z hz => (I.each z hz).2.2.2.2.2⟩, ⟨.inl (.inr (.inl rfl)), ?_⟩, ⟨.inl (.inr (.inr (.inl rfl))), ?_⟩, nMG⟩
      · obtain ⟨l1, l2, l3⟩ := fr (s8 _ _ I.hM)
        rintro (e | e | e | e | ⟨y, hy, e⟩)
        · exact (dg I.hM).1 e
        · exact l1 e
        · exact l2 e
        · exact l3 e
        · exact dla I.hM y hy e
      · obtain ⟨l1, l2, l3⟩ := fr (s8 _ _ I.hG)
        rintro (e | e | e | e | ⟨y, hy, e⟩)
        · exact (dg I.hG).1 e
        · exact l1 e
        · exact l2 e
        · exact l3 e
        · exact dla I.hG y hy e
    have bd0 : Bd ns ⟨zeroK wv, 0, []⟩ (fun _ => 0) := ⟨(fun q h => by cases h), fun z hz => by rw [mark_of (zval z hz)]; exact Int.le_refl _, fun _ _ => Int.le_refl _⟩
    generalize (fun b => (b = g ∨ b = Md ∨ b = Gd ∨ ∃ y ∈ ns, b = la y) ∨ b = x ∨ b = D ∨ b = L) = F at A M
    clear R11 fr lag lal dg dla dN I al7 hd7
    obtain ⟨Sc, eSc⟩ : ∃ Sc : Int, Sc = lcmL ws := ⟨_, rfl⟩
    rw [← eSc] at A ⊢
    -- the costs
    refine ⟨_, rfl, (by show 4 ≤ sizeLine; decide), fun p2 hp2 => of_disp (E := E0) (Ok.refl A.sit.bag) hp2 (by decide +kernel) (by decide +kernel) fun cx H12 hcx kk12 r12 => ?_⟩
    obtain ⟨cm, rfl, cm0, cm1⟩ : ∃ c : Int, cx = .int c ∧ 3 ≤ c ∧ c ≤ 500 := by
      simp only [List.mem_cons, List.not_mem_nil, or_false] at hcx
      rcases hcx with rfl | rfl | rfl | rfl
      · exact ⟨3, rfl, by decide, by decide⟩
      · exact ⟨12, rfl, by decide, by decide⟩
      · exact ⟨12, rfl, by decide, by decide⟩
      · exact ⟨500, rfl, by decide, by decide⟩
    refine ⟨_, rfl, g, l, 9, rfl, r12.bag, by decide, by decide, fun d2 H13 d20 d21 r13 => ?_⟩
    obtain ⟨m, rfl⟩ : ∃ m : Nat, d2 = (m : Int) := ⟨d2.toNat, by omega⟩
    have A13 := A.draw (r12.trans r13)
    have M13 : Pm F H13 (Rm g x D L la ns) Md Gd ns (fun _ => 0) (fun _ => 0) := M.kp (KpF.kp (F := fun b => b = g) rfl (r12.trans r13).kp) fun b e => .inl (.inl e)
    refine ⟨_, rfl, _, rfl, by omega, by omega, for_it (walk_range (lo := 0) (n := ((m : Int)).toNat)) (fun i σ H' => ∃ (s : RS) (v12 : Option V), σ = [some (.ref sc), some (.ref g), some (.ref N), some (.ref W), some (.ref Ld), some (.ref Md), some (.ref Gd), v7, some (.int Sc), some (.ref x), some (.int cm), some (.int m), v12, none, none, none, none, none, none, none, none, none, none, none, none, none] ∧
      LawA r F H' g l N W Ld wv Sc ns x D L s la (mine s) ∧ Pm F H' (Rm g x D L la ns) Md Gd ns (fun _ => 0) (fun _ => 0) ∧ Bd ns s (fun _ => 0) ∧ s.ln.length = i) ⟨_, none, rfl, A13, M13, bd0, rfl⟩ (fun _ _ _ _ _ => True.intro) ?_ ?_⟩
    · rintro i xi σ H14 H15 hi ⟨s, v12, rfl, A, M, bd, sl⟩ ⟨rfl, rfl⟩
      refine ⟨_, rfl, _, rfl, _, rfl, _, rfl, _, rfl, g, l, _, _, rfl, A.sit.bag, .lst (SqL.of A.sit.hN) Ng (by rw [List.length_map]; omega) (by rw [List.length_map]; omega), fun u H16 hu r16 => ?_⟩
      obtain ⟨z, hz, rfl⟩ : ∃ z ∈ ns, V.str z = u := List.mem_map.mp hu
      refine ⟨_, rfl, ?_⟩
      show tCons (tC V.non) tNil _ _ _
      unfold tCons tC tNil
      show spjoin r [V.ref g, V.ref x, V.ref Ld, V.str z, V.int cm, uV none] _ _ _
      refine (A.draw r16).join_call (u := none) hz (show 1 ≤ cm by omega) (show cm ≤ 999 by omega) (show s.ln.length ≤ 39 by omega) fun c H17 kp A17 => ?_
      refine ⟨_, _, rfl, A17, (M.kp (KpF.kp (F := fun b => b = g) rfl r16.kp) fun b e => .inl (.inl e)).kp kp fun b w => .inl (join_sub hz b w), bd.join A.ok.dic hz, ?_⟩
      show (s.ln ++ [_]).length = i + 1
      rw [List.length_append, sl]
      rfl
    rintro σ H14 ⟨s, v12, rfl, A14, M14, bd14, sl14⟩
    refine ⟨_, rfl, _, rfl, by omega, by omega, for_it (walk_range (lo := 0) (n := ((m : Int)).toNat)) (fun i σ H' => ∃ (s : RS) (mo : Str → Int) (v12 v13 : Option V), σ = [some (.ref sc), some (.ref g), some (.ref N), some (.ref W), some (.ref Ld), some (.ref Md), some (.ref Gd), v7, some (.int Sc), some (.ref x), some (.int cm), some (.int m), v12, v13, none, none, none, none, none, none, none, none, none, none, none, none] ∧
      LawA r F H' g l N W Ld wv Sc ns x D L s la (mine s) ∧ Pm F H' (Rm g x D L la ns) Md Gd ns mo (fun _ => 0) ∧ Bd ns s mo ∧ s.ln.length + i = m) ⟨s, _, _, none, rfl, A14, M14, bd14, by omega⟩ (fun _ _ _ _ _ => True.intro) ?_ ?_⟩
    · rintro i xi σ H15 H16 hi ⟨s, mo, v12, v13, rfl, A, M, bd, sl⟩ ⟨rfl, rfl⟩
      refine ⟨_, rfl, _, rfl, _, rfl, _, rfl, ?_⟩
      show tNil _ _ _
      unfold tNil
      show spserved r [V.ref x, V.ref Ld, V.ref W, V.int Sc] _ _ _
      refine A.served_call bd (fun e => by rw [e] at sl; simp only [List.length_nil] at sl; omega) fun j q T H17 hj hq hqn i0 kp A17 eT => ?_
      refine ⟨_, rfl, rfl, _, rfl, ite_d (fun h => by cases h) (fun _ => ?_)⟩
      have M17 := M.kp kp fun b w => .inl (serve_sub hqn b w)
      obtain ⟨mv, m1, m2, m3⟩ := M17.md
      refine ⟨_, rfl, _, rfl, _, _, _, _, rfl, rfl, SqT.of eT, rfl, Md, _, rfl, (by rw [← m3 _ hqn]; exact DGet.k (k := kS q.1) m1), ?_⟩
      refine ⟨_, rfl, _, _, _, _, rfl, rfl, SqT.of eT, rfl, _, _, rfl, ?_⟩
      refine ⟨_, rfl, _, rfl, _, _, _, _, rfl, rfl, SqT.of eT, rfl, Md, _, rfl, DPut.k (k := kS q.1) m1 (Nat.lt_of_le_of_lt m2 (by decide)), ?_⟩
      refine ⟨_, mo' mo q.1 ((q.2.1 * Sc).fdiv (markOf wv q.1)), _, _, rfl, A17.kp (G := fun b => b = Md) ((KpF.refl _ _).upd rfl) (fun b e => by rw [e]; exact M17.fM.1) (fun b e => by rw [e]; exact ⟨_, upd_same⟩) (fun b e => by rw [e]; exact M17.fM.2), M17.setM m1 hqn _, bd.serve A.ok.dic hj hq hqn i0, ?_⟩
      show (s.ln.eraseIdx j).length + (i + 1) = m
      have hj2 : j < s.ln.length := (List.getElem?_eq_some_iff.mp hq).1
      rw [List.length_eraseIdx_of_lt hj2]
      omega
    rintro σ H15 ⟨s2, mo, v12, v13, rfl, A15, M15, bd15, sl15⟩
    have e15 : s2.ln = [] := List.eq_nil_of_length_eq_zero (by omega)
    obtain ⟨⟨dx15, W15, fs15, ts15, hx15, rf15, hW15, nW15, hD15, hL15, ln15⟩, _⟩ := id A15.room
    have e15l : s2.ln.length = 0 := by rw [e15]; rfl
    refine ⟨_, rfl, x, r.c, dx15, _, fs15, _, rfl, hx15, ⟨KR.l1, KR.l2, Glen⟩, F, x, D, L, wv, Sc, s2, rfl, A15.room, _, rfl, by omega, by omega, rfl, _, rfl, ite_nd (fun h => absurd (by rw [e15l]; rfl) h) (fun _ => ?_)⟩
    refine ⟨_, rfl, x, dx15, fs15, rfl, hx15, F, x, D, L, wv, Sc, s2, ns, rfl, A15.room, A15.ok.dic, fun q hq => (A15.ok.rows q hq).1, by omega, fun H16 _ s16 => ⟨rfl, _, rfl, ite_nd (fun h => absurd rfl h) (fun _ => ?_)⟩, fun j q t H' hj hq => by rw [e15] at hq; simp at hq⟩
    have A16 := A15.same s16
    refine ⟨_, rfl, _, rfl, g, l, 3, rfl, A16.sit.bag, by decide, by decide, fun d3 H17 d30 d31 r17 => ⟨_, _, rfl, rfl, _, rfl, N, _, rfl, SqL.of (r17.kp _ _ Ng A16.sit.hN), fun S hS => ?_⟩⟩
    obtain ⟨n3, rfl⟩ : ∃ n : Nat, d3 = (n : Int) := ⟨d3.toNat, by omega⟩
    have ecut : cutV (ns.map V.str) none (some (2 + (n3 : Int))) = (ns.take (2 + n3)).map V.str := by
      have e := cut_to (xs := ns.map V.str) (j := 2 + n3) (by rw [List.length_map]; omega)
      rw [List.map_take]
      exact e
    rw [ecut]
    obtain ⟨ste, este⟩ : ∃ ste : List Str, ste = ns.take (2 + n3) := ⟨_, rfl⟩
    rw [← este]
    have stn : ∀ z ∈ ste, z ∈ ns := fun z hz => List.mem_of_mem_take (by rw [este] at hz; exact hz)
    have stl : ste.length = 2 + n3 := by rw [este, List.length_take]; omega
    have A17 := A16.draw r17
    have M17 := ((M15.same s16).kp (KpF.kp (F := fun b => b = g) rfl r17.kp) fun b e => .inl (.inl e))
    have s18 := same_new (o := .lst (ste.map V.str)) hS
    have A18 := A17.same s18
    have M18 := M17.same s18
    have eS18 : upd H17 S (.lst (ste.map V.str)) S = some (.lst (ste.map V.str)) := upd_same
    have nFS : ¬ F S := notF A17.sit.ex hS
    generalize upd H17 S (.lst (ste.map V.str)) = H18 at s18 A18 M18 eS18 ⊢
    refine ⟨_, rfl, _, rfl, S, S, _, _, rfl, rfl, eS18, eS18, (by rw [List.length_map]; exact Nat.le_trans (show ste.length + ste.length ≤ 8 by omega) (by decide)), fun p3 hp3 => ?_⟩
    have e33 : ste.map V.str ++ ste.map V.str = (ste ++ ste).map V.str := by rw [List.map_append]
    rw [e33]
    have s19 := same_new (o := .lst ((ste ++ ste).map V.str)) hp3
    have A19 := A18.same s19
    have M19 := M18.same s19
    have O19 : Aside F (upd H18 p3 (.lst ((ste ++ ste).map V.str))) p3 (ste ++ ste) := ⟨upd_same, notF A18.sit.ex hp3⟩
    have S19 : Aside F (upd H18 p3 (.lst ((ste ++ ste).map V.str))) S ste := ⟨s19 _ _ eS18, nFS⟩
    generalize upd H18 p3 (.lst ((ste ++ ste).map V.str)) = H19 at s19 A19 M19 O19 S19 ⊢
    refine ⟨p3, rfl, ⟨_, SqL.of O19.1⟩, for_it (walk_list (K := K) (a := p3) (xs := (ste ++ ste).map V.str)) (fun i σ H' => ∃ (s : RS) (v7 : Option V), σ = [some (.ref sc), some (.ref g), some (.ref N), some (.ref W), some (.ref Ld), some (.ref Md), some (.ref Gd), v7, some (.int Sc), some (.ref x), some (.int cm), some (.int m), v12, v13, some (.ref S), none, none, none, none, none, none, none, none, none, none, none] ∧
      LawA r F H' g l N W Ld wv Sc ns x D L s la (mine s) ∧ Pm F H' (Rm g x D L la ns) Md Gd ns mo (fun _ => 0) ∧ Aside F H' p3 (ste ++ ste) ∧ Aside F H' S ste ∧ Bd ns s mo ∧ s.ln.length = i ∧ (∀ q ∈ s.ln, q.2.2 = none) ∧ ∀ z ∈ (ste ++ ste).take i, ∃ q ∈ s.ln, q.1 = z) ⟨s2, v7, rfl, A19, M19, O19, S19, bd15, e15l, (by rw [e15]; exact fun q h => (by cases h)), (fun z h => by cases h)⟩ (fun _ _ _ _ ⟨_, _, _, _, _, O, _⟩ => SqL.of O.1) ?_ ?_⟩
    · rintro i v σ H20 H21 hi ⟨s, v7, rfl, A, M, O, S1, bd, sl, un, wt⟩ ⟨rfl, e2⟩
      rw [List.length_map] at hi
      obtain ⟨z, hz⟩ : ∃ z, (ste ++ ste)[i]? = some z := ⟨_, List.getElem?_eq_getElem hi⟩
      rw [List.getElem?_map, hz] at e2
      cases e2
      have hzn : z ∈ ns := (List.mem_append.mp (List.mem_of_getElem? hz)).elim (stn z) (stn z)
      rw [List.length_append] at hi
      refine ⟨_, rfl, _, rfl, _, rfl, _, rfl, _, rfl, ?_⟩
      show tCons (tC V.non) tNil _ _ _
      unfold tCons tC tNil
      show spjoin r [V.ref g, V.ref x, V.ref Ld, V.str z, V.int cm, uV none] _ _ _
      refine A.join_call (u := none) hzn (show 1 ≤ cm by omega) (show cm ≤ 999 by omega) (show s.ln.length ≤ 39 by omega) fun c H17 kp A17 => ?_
      have subF : ∀ b, (b = g ∨ b = D ∨ b = L ∨ b = la z) → F b := fun b w => (A.alive (join_sub hzn b w)).1
      refine ⟨_, _, rfl, A17, M.kp kp fun b w => .inl (join_sub hzn b w), O.kp kp subF, S1.kp kp subF, bd.join A.ok.dic hzn, ?_, fun q hq => ?_, fun y hy => ?_⟩
      · show (s.ln ++ [_]).length = i + 1
        rw [List.length_append, sl]
        rfl
      · rcases List.mem_append.mp hq with h | h
        · exact un q h
        · rw [List.mem_singleton] at h
          rw [h]
      · rw [List.take_add_one, hz] at hy
        rcases List.mem_append.mp hy with h | h
        · obtain ⟨q, hq, e⟩ := wt y h
          exact ⟨q, List.mem_append_left _ hq, e⟩
        · exact ⟨_, List.mem_append_right _ (List.mem_singleton.mpr rfl), (List.mem_singleton.mp h).symm⟩
    rintro σ H20 ⟨s3, v7, rfl, A20, M20, _, S20, bd20, sl20, un20, wt20⟩
    rw [List.length_map, List.take_length] at wt20
    rw [List.length_map, List.length_append] at sl20
    -- the others
    refine ⟨_, rfl, N, rfl, ⟨_, SqL.of A20.sit.hN⟩, fun OT hOT => lc_it (walk_list (K := K) (a := N) (xs := ns.map V.str)) (fun i H' => Same H20 H' ∧ H' OT = some (.lst (((ns.take i).filter fun z => !inV (.str z) (ste.map V.str)).map V.str))) ⟨same_new hOT, upd_same⟩ (fun i H' _ ⟨sm, _⟩ => SqL.of (sm _ _ A20.sit.hN)) ?_ ?_⟩
    · rintro i v H21 H22 hi ⟨sm, hT⟩ ⟨rfl, e2⟩
      rw [List.length_map] at hi
      obtain ⟨z, hz⟩ : ∃ z, ns[i]? = some z := ⟨_, List.getElem?_eq_getElem hi⟩
      rw [List.getElem?_map, hz] at e2
      cases e2
      have et : (ns.take (i + 1)).filter (fun z => !inV (.str z) (ste.map V.str)) = (ns.take i).filter (fun z => !inV (.str z) (ste.map V.str)) ++ (if (!inV (.str z) (ste.map V.str)) = true then [z] else []) := by
        rw [List.take_add_one, hz, List.filter_append]
        cases e : inV (.str z) (ste.map V.str) <;> simp [e]
      refine ⟨rfl, _, rfl, _, rfl, S, _, rfl, .inl (SqL.of (sm _ _ S20.1)), rfl, strs_flat _, _, rfl, ?_⟩
      cases e : inV (.str z) (ste.map V.str) with
      | true =>
        refine iteF ⟨sm, ?_⟩
        rw [et, e, if_neg (by decide), List.append_nil]
        exact hT
      | false =>
        refine iteT ⟨_, rfl, _, hT, ?_, same_upd hOT sm, ?_⟩
        · rw [List.length_map]
          exact Nat.lt_of_le_of_lt (Nat.le_trans (List.length_filter_le _ _) (Nat.le_trans (by rw [List.length_take]; exact Nat.min_le_right _ _) n6)) (by decide)
        · rw [upd_same, et, e, if_pos (by decide), List.map_append]
          rfl
    rintro H21 ⟨s2021, hOT21⟩
    rw [List.length_map, List.take_length] at hOT21
    obtain ⟨os, eos⟩ : ∃ os : List Str, os = ns.filter fun z => !inV (.str z) (ste.map V.str) := ⟨_, rfl⟩
    rw [← eos] at hOT21
    have osn : ∀ z ∈ os, z ∈ ns ∧ z ∉ ste := fun z hz => by
      rw [eos] at hz
      obtain ⟨a, b⟩ := List.mem_filter.mp hz
      exact ⟨a, fun w => by rw [inV_mem w] at b; cases b⟩
    have osl : os.length ≤ 6 := by
      rw [eos]
      exact Nat.le_trans (List.length_filter_le _ _) n6
    have os_or : ∀ z ∈ ns, z ∈ ste ∨ z ∈ os := fun z hz => by
      by_cases h : z ∈ ste
      · exact .inl h
      · refine .inr ?_
        rw [eos, List.mem_filter]
        refine ⟨hz, ?_⟩
        cases e : inV (.str z) (ste.map V.str) with
        | true => exact absurd (in_of e) h
        | false => rfl
    have nFO : ¬ F OT := notF A20.sit.ex hOT
    have A21 := A20.same s2021
    have M21 := M20.same s2021
    have S21 := S20.same s2021
    have O21 : Aside F H21 OT os := ⟨hOT21, nFO⟩
    -- the spans
    refine ⟨(by show 0 ≤ sizeLine; decide), fun SP hSP => ?_⟩
    refine ⟨_, rfl, S, _, rfl, SqL.of (same_new hSP _ _ S21.1), for_it (walk_enum (K := K) (a := S) (xs := ste.map V.str)) (fun i σ H' => ∃ (v17 v18 : Option V) (sps : List Addr), σ = [some (.ref sc), some (.ref g), some (.ref N), some (.ref W), some (.ref Ld), some (.ref Md), some (.ref Gd), v7, some (.int Sc), some (.ref x), some (.int cm), some (.int m), v12, v13, some (.ref S), some (.ref OT), some (.ref SP), v17, v18, none, none, none, none, none, none, none] ∧
      Same H21 H' ∧ H' SP = some (.lst (sps.map V.ref)) ∧ sps.length ≤ 6 * i ∧ ∀ t ∈ sps, t ≠ SP ∧ H21 t = none ∧ ∃ p : Spn, H' t = some (.lst (spanV p)) ∧ p.a ∈ ste ∧ p.b ∈ ste ∧ p.lo = 0 ∧ p.hi = 0) ⟨none, none, [], rfl, same_new hSP, upd_same, Nat.le_refl _, fun t h => (by cases h)⟩ (fun _ _ _ _ ⟨_, _, _, _, sm, _⟩ => SqL.of (sm _ _ S21.1)) ?_ ?_⟩
    · rintro i v σ H22 H23 hi ⟨v17, v18, sps, rfl, sm, hSP2, spl, each⟩ ⟨E9, a1, a2, rfl, hE, rfl, q1, q2⟩
      rw [List.length_map] at hi
      have q2' : (ste.map V.str)[i]? = some a2 := q2
      cases q1
      obtain ⟨z, hz⟩ : ∃ z, ste[i]? = some z := ⟨_, List.getElem?_eq_getElem hi⟩
      rw [List.getElem?_map, hz] at q2'
      cases q2'
      refine ⟨E9, _, rfl, SqT.of upd_same, rfl, _, _, rfl, _, _, rfl, rfl, ?_⟩
      have s23 := same_new (o := .tup [V.int (i : Nat), V.str z]) hE
      have hSP3 := s23 _ _ hSP2
      have sm3 := sm.trans s23
      generalize upd H22 E9 (.tup [V.int (i : Nat), V.str z]) = H23 at s23 hSP3 sm3 ⊢
      refine ⟨_, rfl, .inl ⟨rfl, _, SqL.of hSP3⟩, ?_⟩
      refine ⟨_, rfl, _, rfl, _, _, rfl, rfl, _, rfl, S, _, rfl, SqL.of (sm3 _ _ S21.1), fun p4 hp4 => ?_⟩
      have ecut2 : cutV (ste.map V.str) (some ((i : Nat) + 1 : Int)) none = (ste.drop (i + 1)).map V.str := by
        have e := cut_from (xs := ste.map V.str) (j := i + 1) (by rw [List.length_map]; omega)
        rw [List.map_drop]
        exact e
      rw [ecut2]
      have s34 := same_new (o := .lst ((ste.drop (i + 1)).map V.str)) hp4
      have eP4 : upd H23 p4 (.lst ((ste.drop (i + 1)).map V.str)) p4 = some (.lst ((ste.drop (i + 1)).map V.str)) := upd_same
      have sm4 := sm3.trans s34
      have hSP4 := s34 _ _ hSP3
      generalize upd H23 p4 (.lst ((ste.drop (i + 1)).map V.str)) = H24 at s34 eP4 sm4 hSP4 ⊢
      refine ⟨p4, rfl, ⟨_, SqL.of eP4⟩, fun Dl hDl => lc_it (walk_list (K := K) (a := p4) (xs := (ste.drop (i + 1)).map V.str)) (fun j H' => Same H24 H' ∧ ∃ us : List Addr, H' Dl = some (.lst (us.map V.ref)) ∧ us.length = j ∧ ∀ t ∈ us, t ≠ Dl ∧ H24 t = none ∧ ∃ p : Spn, H' t = some (.lst (spanV p)) ∧ p.a ∈ ste ∧ p.b ∈ ste ∧ p.lo = 0 ∧ p.hi = 0) ⟨same_new hDl, [], upd_same, rfl, fun t h => (by cases h)⟩ (fun _ _ _ ⟨sm, _⟩ => SqL.of (sm _ _ eP4)) ?_ ?_⟩
      · rintro j v H25 H26 hj ⟨sm5, us, hD5, ul, each5⟩ ⟨rfl, e2⟩
        rw [List.length_map] at hj
        obtain ⟨y, hy⟩ : ∃ y, (ste.drop (i + 1))[j]? = some y := ⟨_, List.getElem?_eq_getElem hj⟩
        rw [List.getElem?_map, hy] at e2
        cases e2
        rw [List.length_drop] at hj
        refine ⟨rfl, _, rfl, _, rfl, (by show 4 ≤ sizeLine; decide), fun t ht => ?_⟩
        have nDt : Dl ≠ t := fun e => by rw [← e, hD5] at ht; cases ht
        have s56 := same_new (o := .lst [.str z, .str y, .int 0, .int 0]) ht
        refine ⟨_, s56 _ _ hD5, ?_, same_upd hDl (sm5.trans s56), us ++ [t], by rw [upd_same, List.map_append]; rfl, by rw [List.length_append, ul]; rfl, fun u hu => ?_⟩
        · rw [List.length_map, ul]
          exact Nat.lt_of_lt_of_le (show j < 6 by omega) (by decide)
        · rcases List.mem_append.mp hu with h | h
          · obtain ⟨w1, w2, p, w3, w4⟩ := each5 u h
            exact ⟨w1, w2, p, by rw [upd_ne w1]; exact s56 _ _ w3, w4⟩
          · rw [List.mem_singleton] at h
            subst h
            exact ⟨Ne.symm nDt, sm5.free ht, ⟨z, y, 0, 0⟩, by rw [upd_ne (Ne.symm nDt)]; exact upd_same, List.mem_of_getElem? hz, List.mem_of_mem_drop (List.mem_of_getElem? hy), rfl, rfl⟩
      · rintro H25 ⟨sm5, us, hD5, ul, each5⟩
        rw [List.length_map, List.length_drop] at ul
        have hSP5 := sm5 _ _ hSP4
        have al : ∀ {b o}, H24 b = some o → ∀ {q : Addr}, H24 q = none → q ≠ b := fun e q h w => by rw [w, e] at h; cases h
        refine ⟨SP, Dl, _, _, rfl, rfl, hSP5, hD5, ?_, _, _, sps ++ us, rfl, ?_, ?_, ?_, fun t ht => ?_⟩
        · rw [List.length_map, List.length_map]
          exact Nat.le_trans (show sps.length + us.length ≤ 60 by omega) (by decide)
        · exact same_upd hSP (sm4.trans sm5)
        · rw [upd_same, List.map_append]
        · rw [List.length_append]
          omega
        · rcases List.mem_append.mp ht with h | h
          · obtain ⟨w1, w2, p, w3, w4⟩ := each t h
            exact ⟨w1, w2, p, by rw [upd_ne w1]; exact sm5 _ _ (s34 _ _ (s23 _ _ w3)), w4⟩
          · obtain ⟨w1, w2, p, w3, w4⟩ := each5 t h
            have w5 := al hSP4 w2
            exact ⟨w5, sm4.free w2, p, by rw [upd_ne w5]; exact w3, w4⟩
    rintro σ H22 ⟨v17, v18, sps, rfl, s2122, hSP22, spl, each⟩
    rw [List.length_map] at spl
    obtain ⟨sd, hsd⟩ := Classical.axiomOfChoice (r := fun (t : Addr) (p : Spn) => t ∈ sps → H22 t = some (.lst (spanV p)) ∧ p.a ∈ ste ∧ p.b ∈ ste ∧ p.lo = 0 ∧ p.hi = 0) fun t => by
      by_cases h : t ∈ sps
      · obtain ⟨_, _, p, hp⟩ := each t h
        exact ⟨p, fun _ => hp⟩
      · exact ⟨⟨"", "", 0, 0⟩, fun w => absurd w h⟩
    have hZ : ∀ b, (b = SP ∨ b ∈ sps) → H21 b = none := fun b w => w.elim (fun e => by rw [e]; exact hSP) fun h => (each b h).2.1
    have nR : ∀ b, H21 b = none → ¬ Rm g x D L la ns b := fun b h w => by
      obtain ⟨_, o, q⟩ := A21.alive w
      rw [h] at q
      cases q
    have A22 := A21.wide hZ s2122 (fun b w => w.elim (fun e => by rw [e]; exact ⟨_, hSP22⟩) fun h => ⟨_, (hsd b h).1⟩)
    have M22 := (M21.same s2122).re (F' := fun b => F b ∨ b = SP ∨ b ∈ sps) (fun b => .inl) fun b w => .inl w
    have S22 := (S21.wide hZ).same s2122
    have O22 := (O21.wide hZ).same s2122
    have P22 : Ps (fun b => F b ∨ b = SP ∨ b ∈ sps) H22 (Rm g x D L la ns) SP sps sd := ⟨hSP22, fun t ht => ⟨(hsd t ht).1, .inr (.inr ht), nR t (each t ht).2.1, (each t ht).1⟩, .inr (.inl rfl), nR SP hSP⟩
    have L22 : Bal ns ste s3 mo (fun _ => 0) (markOf s3.kv) sps sd := by
      have wt : ∀ z ∈ ste, ∃ q ∈ s3.ln, q.1 = z := fun z hz => wt20 z (List.mem_append_left _ hz)
      refine ⟨bd20, fun z hz => (by omega), wt, fun q hq _ => un20 q hq, fun t ht => ?_⟩
      obtain ⟨_, w1, w2, w3, w4⟩ := hsd t ht
      obtain ⟨qa, hqa, ea⟩ := wt _ w1
      obtain ⟨qb, hqb, eb⟩ := wt _ w2
      have f1 := bd20.diff (stn _ w1) hqb eb
      have f2 := bd20.diff (stn _ w2) hqa ea
      exact ⟨w1, w2, by omega, by omega⟩
    generalize (fun b => F b ∨ b = SP ∨ b ∈ sps) = F2 at A22 M22 S22 O22 P22
    generalize markOf s3.kv = m0 at L22
    refine ⟨_, rfl, g, l, 29, rfl, A22.sit.bag, by decide, by decide, fun dt H23 dt0 dt1 r23 => ⟨_, _, rfl, rfl, _, rfl, by omega, by omega, for_it (walk_range (lo := 0) (n := (20 + dt).toNat)) (fun i σ H' => ∃ (F : Addr → Prop) (L : Addr) (la : Str → Addr) (s : RS) (mo gr : Str → Int) (sd : Addr → Spn) (v7 v12 v13 v17 v18 v19 v20 v21 v22 v23 : Option V), σ = [some (.ref sc), some (.ref g), some (.ref N), some (.ref W), some (.ref Ld), some (.ref Md), some (.ref Gd), v7, some (.int Sc), some (.ref x), some (.int cm), some (.int m), v12, v13, some (.ref S), some (.ref OT), some (.ref SP), v17, v18, v19, v20, v21, v22, v23, none, none] ∧
      Mn r F H' g l N W Ld Md Gd SP S OT wv Sc ns ste os x D L s la (mine s) sps sd mo gr ∧ Bal ns ste s mo gr m0 sps sd ∧ s.ln.length ≤ 30) ⟨F2, L, la, s3, mo, fun _ => 0, sd, v7, v12, v13, v17, v18, none, none, none, none, none, rfl, Mn.draw ⟨A22, M22, P22, S22, O22⟩ r23, L22, by omega⟩ (fun _ _ _ _ _ => True.intro) ?_ (fun σ H' _ => k _)⟩⟩
    clear A22 M22 P22 S22 O22 L22 A21 M21 S21 O21 hsd each hSP22 A20 M20 S20 bd20 wt20 un20 A19 M19 O19 S19 A18 M18 A17 M17 A16 A15 M15 bd15 A14 M14 bd14 A13 M13
    rintro i xi σ H24 H25 hi ⟨F, L, la, s, mo, gr, sd, v7, v12, v13, v17, v18, v19, v20, v21, v22, v23, rfl, mn, b, sl⟩ ⟨rfl, rfl⟩
    refine ⟨_, rfl, g, l, 4, rfl, mn.A.sit.bag, by decide, by decide, fun kd H26 kd0 kd1 r26 => ?_⟩
    replace mn := mn.draw r26
    refine ⟨fun σ H' => ∃ (s : RS) (v7 v12 v13 v17 v18 v19 v21 v22 v23 : Option V), σ = [some (.ref sc), some (.ref g), some (.ref N), some (.ref W), some (.ref Ld), some (.ref Md), some (.ref Gd), v7, some (.int Sc), some (.ref x), some (.int cm), some (.int m), v12, v13, some (.ref S), some (.ref OT), some (.ref SP), v17, v18, v19, some (.int kd), v21, v22, v23, none, none] ∧
      Mn r F H' g l N W Ld Md Gd SP S OT wv Sc ns ste os x D L s la (mine s) sps sd mo gr ∧ Bal ns ste s mo gr m0 sps sd ∧ s.ln.length ≤ 30, ?_, ?_⟩
    · refine ⟨_, rfl, rfl, _, rfl, ite_eq (fun e1 => ?_) (fun _ => iteF ⟨s, _, _, _, _, _, _, _, _, _, rfl, mn, b, sl⟩)⟩
      refine ⟨_, rfl, _, .inl ⟨_, SqL.of mn.O1.1, rfl⟩, ?_⟩
      have ek : (!(os.map V.str).isEmpty) = decide (0 < os.length) := by cases os <;> rfl
      rw [ek]
      refine ite_d (fun ho => ?_) (fun _ => iteF ⟨s, _, _, _, _, _, _, _, _, _, rfl, mn, b, sl⟩)
      obtain ⟨⟨dx, Wx, fs, ts, hx, rf, _⟩, _⟩ := id mn.A.room
      refine ⟨_, rfl, x, r.c, dx, _, fs, _, rfl, hx, ⟨KR.l1, KR.l2, Glen⟩, F, x, D, L, wv, Sc, s, rfl, mn.A.room, _, rfl, by omega, by omega, _, _, rfl, rfl, _, rfl, ite_d (fun hlt => ?_) (fun _ => ⟨s, _, _, _, _, _, _, _, _, _, rfl, mn, b, sl⟩)⟩
      have OTg : OT ≠ g := fun e => mn.O1.2 (by rw [e]; exact mn.A.sit.fg)
      refine ⟨_, rfl, _, rfl, _, rfl, _, rfl, _, rfl, g, l, _, _, rfl, mn.A.sit.bag, .lst (SqL.of mn.O1.1) OTg (by rw [List.length_map]; exact ho) (by rw [List.length_map]; omega), fun u H27 hu r27 => ?_⟩
      obtain ⟨z, hz, rfl⟩ : ∃ z ∈ os, V.str z = u := List.mem_map.mp hu
      refine ⟨_, rfl, _, rfl, _, rfl, g, l, 30, rfl, r27.bag, by decide, by decide, fun dl H28 dl0 dl1 r28 => ⟨(by show 2 ≤ sizeLine; decide), fun pl hpl => of_disp (E := E0) (Ok.refl r28.bag) hpl (by show 0 < 2; decide) (by show 2 ≤ 1000000; decide) fun ul H29 hul kk r29 => ?_⟩⟩
      obtain ⟨u, rfl⟩ : ∃ u : Option Int, uV u = ul := by
        simp only [List.mem_cons, List.not_mem_nil, or_false] at hul
        rcases hul with rfl | rfl
        · exact ⟨none, rfl⟩
        · exact ⟨some dl, rfl⟩
      show tNil _ _ _
      unfold tNil
      show spjoin r [V.ref g, V.ref x, V.ref Ld, V.str z, V.int cm, uV u] _ _ _
      replace mn := mn.draw (r27.trans (r28.trans r29))
      obtain ⟨zn, zs⟩ := osn z hz
      refine mn.A.join_call (u := u) zn (show 1 ≤ cm by omega) (show cm ≤ 999 by omega) (show s.ln.length ≤ 39 by omega) fun c H30 kp A30 => ?_
      refine ⟨_, _, _, _, _, _, _, _, _, _, rfl, mn.step kp (join_sub zn) A30, b.join mn.A.ok.dic zn zs, ?_⟩
      show (s.ln ++ [_]).length ≤ 30
      rw [List.length_append]
      show s.ln.length + 1 ≤ 30
      have : (s.ln.length : Int) < 30 := hlt
      omega
    clear mn b sl
    rintro σ H27 ⟨s, v7, v12, v13, v17, v18, v19, v21, v22, v23, rfl, mn, b, sl⟩
    refine ⟨fun σ H' => ∃ (F : Addr → Prop) (L : Addr) (la : Str → Addr) (s : RS) (v7 v12 v13 v17 v18 v19 v20 v21 v22 v23 : Option V), σ = [some (.ref sc), some (.ref g), some (.ref N), some (.ref W), some (.ref Ld), some (.ref Md), some (.ref Gd), v7, some (.int Sc), some (.ref x), some (.int cm), some (.int m), v12, v13, some (.ref S), some (.ref OT), some (.ref SP), v17, v18, v19, v20, v21, v22, v23, none, none] ∧
      Mn r F H' g l N W Ld Md Gd SP S OT wv Sc ns ste os x D L s la (mine s) sps sd mo gr ∧ Bal ns ste s mo gr m0 sps sd ∧ s.ln.length ≤ 30, ?_, ?_⟩
    · refine ⟨_, rfl, rfl, _, rfl, ite_eq (fun e1 => ?_) (fun _ => ⟨F, L, la, s, _, _, _, _, _, _, _, _, _, _, rfl, mn, b, sl⟩)⟩
      refine ⟨_, rfl, g, l, 30, rfl, mn.A.sit.bag, by decide, by decide, fun rd H28 rd0 rd1 r28 => ?_⟩
      replace mn := mn.draw r28
      obtain ⟨⟨dx, Wx, fs, ts, hx, rf, _⟩, _⟩ := id mn.A.room
      refine ⟨_, rfl, x, dx, fs, rfl, hx, rf.leave, _, rfl, F, x, D, L, wv, Sc, s, rd, rfl, mn.A.room, mn.A.ok.l40, mn.A.sit.ex, fun M T H29 hM hT nMT kp R eT => ?_⟩
      have ok' : RSok ns (leaveS s rd) := ⟨mn.A.ok.dic, fun p hp => mn.A.ok.rows p (List.mem_filter.mp hp).1, Nat.le_trans (List.length_filter_le _ _) mn.A.ok.l40⟩
      have mn2 := mn.line hM kp R ok'
      have b2 := b.leave rd
      refine ⟨_, rfl, OT, rfl, ⟨_, SqL.of mn2.O1.1⟩, for_it (walk_list (K := K) (a := OT) (xs := os.map V.str)) (fun i σ H' => ∃ (F : Addr → Prop) (la : Str → Addr) (v7 : Option V), σ = [some (.ref sc), some (.ref g), some (.ref N), some (.ref W), some (.ref Ld), some (.ref Md), some (.ref Gd), v7, some (.int Sc), some (.ref x), some (.int cm), some (.int m), v12, v13, some (.ref S), some (.ref OT), some (.ref SP), v17, v18, v19, some (.int kd), some (.int rd), v22, v23, none, none] ∧
        Mn r F H' g l N W Ld Md Gd SP S OT wv Sc ns ste os x D M (leaveS s rd) la (fun y => if y ∈ os.take i then (mineOf y s.ln).filter (stays rd) else mineOf y s.ln) sps sd mo gr) ⟨_, la, v7, rfl, mn2.rows_eq fun z hz => rfl⟩ (fun _ _ _ _ ⟨_, _, _, _, q⟩ => SqL.of q.O1.1) ?_ ?_⟩
      · rintro j v σ H30 H31 hj ⟨F3, la3, v7, rfl, mn3⟩ ⟨rfl, e2⟩
        rw [List.length_map] at hj
        obtain ⟨z, hz⟩ : ∃ z, os[j]? = some z := ⟨_, List.getElem?_eq_getElem hj⟩
        rw [List.getElem?_map, hz] at e2
        cases e2
        obtain ⟨zn, zs⟩ := osn z (List.mem_of_getElem? hz)
        obtain ⟨lv, h1, h2, h3, _⟩ := mn3.A.lines.ex
        obtain ⟨⟨ts3, q1, pr⟩, f1⟩ := mn3.A.lines.own z zn
        obtain ⟨rz, erz, rzf, rzl⟩ : ∃ rz : List Row, rz = (if z ∈ os.take j then (mineOf z s.ln).filter (stays rd) else mineOf z s.ln) ∧ rz.filter (stays rd) = (mineOf z s.ln).filter (stays rd) ∧ rz.length ≤ 40 := by
          have l1 : (mineOf z s.ln).length ≤ 40 := Nat.le_trans (List.length_filter_le _ _) (by omega)
          refine ⟨_, rfl, ?_, ?_⟩
          · split
            · rw [List.filter_filter]
              simp
            · rfl
          · split
            · exact Nat.le_trans (List.length_filter_le _ _) l1
            · exact l1
        replace pr : Paired (Row2At F3 H31) ts3 rz := by rw [erz]; exact pr
        have tl := pr.length
        refine ⟨_, rfl, _, rfl, Ld, _, rfl, (by rw [← h3 z zn]; exact DGet.k (k := kS z) h1), la3 z, rfl, ⟨_, SqL.of q1⟩, fun T3 hT3 => lc_it (walk_list (K := K) (a := la3 z) (xs := ts3.map V.ref)) (fun n H' => Same H31 H' ∧ ∃ us : List Addr, H' T3 = some (.lst (us.map V.ref)) ∧ us.length ≤ n ∧ Paired (Row2At F3 H31) us ((rz.take n).filter (stays rd))) ⟨same_new hT3, [], upd_same, Nat.le_refl _, .nil⟩ (fun _ _ _ ⟨sm, _⟩ => SqL.of (sm _ _ q1)) ?_ ?_⟩
        · rintro n v H32 H33 hn ⟨sm, us, hT2, ul, us2⟩ ⟨rfl, e2⟩
          rw [List.length_map] at hn
          obtain ⟨t, ht⟩ : ∃ t, ts3[n]? = some t := ⟨_, List.getElem?_eq_getElem hn⟩
          rw [List.getElem?_map, ht] at e2
          cases e2
          obtain ⟨q, hq, nt, rq⟩ := pair_at pr ht
          have et : (rz.take (n + 1)).filter (stays rd) = (rz.take n).filter (stays rd) ++ (if stays rd q = true then [q] else []) := by
            rw [List.take_add_one, hq, List.filter_append]
            cases e : stays rd q <;> simp [e]
          have hr : SqT K H33 t (row2 q) := SqT.of (sm _ _ rq)
          have yes : stays rd q = true → ∃ acc, H33 T3 = some (.lst acc) ∧ acc.length < sizeLine ∧ Same H31 (upd H33 T3 (.lst (acc ++ [.ref t]))) ∧ ∃ us : List Addr, upd H33 T3 (.lst (acc ++ [.ref t])) T3 = some (.lst (us.map V.ref)) ∧ us.length ≤ n + 1 ∧ Paired (Row2At F3 H31) us ((rz.take (n + 1)).filter (stays rd)) := fun e =>
            ⟨_, hT2, by rw [List.length_map]; exact Nat.lt_of_le_of_lt (show _ ≤ 40 by omega) (by decide), same_upd hT3 sm, us ++ [t], by rw [upd_same, List.map_append]; rfl, by rw [List.length_append]; exact Nat.succ_le_succ ul, by rw [et, if_pos e]; exact Paired.snoc us2 ⟨nt, rq⟩⟩
          have no : stays rd q = false → Same H31 H33 ∧ ∃ us : List Addr, H33 T3 = some (.lst (us.map V.ref)) ∧ us.length ≤ n + 1 ∧ Paired (Row2At F3 H31) us ((rz.take (n + 1)).filter (stays rd)) := fun e =>
            ⟨sm, us, hT2, Nat.le_succ_of_le ul, by rw [et, if_neg (by rw [e]; decide), List.append_nil]; exact us2⟩
          obtain ⟨y, c, u⟩ := q
          cases u with
          | none => exact ⟨rfl, _, rfl, _, _, _, _, rfl, rfl, hr, rfl, rfl, _, rfl, iteT (iteT ⟨_, rfl, yes rfl⟩)⟩
          | some u =>
            refine ⟨rfl, _, rfl, _, _, _, _, rfl, rfl, hr, rfl, rfl, _, rfl, iteF ⟨_, rfl, _, _, _, _, rfl, rfl, hr, rfl, _, rfl, _, _, rfl, rfl, _, rfl, ?_⟩⟩
            refine ite_d (fun h => ?_) (fun h => ?_)
            · exact ⟨_, rfl, yes (decide_eq_true h)⟩
            · exact no (decide_eq_false h)
        · rintro H32 ⟨sm, us, hT2, ul, us2⟩
          rw [List.length_map, tl, List.take_length, rzf] at us2
          refine ⟨_, rfl, _, rfl, Ld, _, rfl, DPut.k (k := kS z) (sm _ _ h1) (Nat.lt_of_le_of_lt h2 (by decide)), ?_⟩
          refine ⟨_, _, _, rfl, (mn3.relist zn hT3 sm hT2 us2 h1).rows_eq fun y hy => ?_⟩
          have et : ∀ y, y ∈ os.take (j + 1) ↔ y ∈ os.take j ∨ y = z := fun y => by
            rw [List.take_add_one, hz, List.mem_append]
            simp
          show (if y = z then (mineOf z s.ln).filter (stays rd) else if y ∈ os.take j then (mineOf y s.ln).filter (stays rd) else mineOf y s.ln) = if y ∈ os.take (j + 1) then (mineOf y s.ln).filter (stays rd) else mineOf y s.ln
          by_cases e : y = z
          · rw [if_pos e, if_pos ((et y).mpr (.inr e)), e]
          · rw [if_neg e]
            by_cases e2 : y ∈ os.take j
            · rw [if_pos e2, if_pos ((et y).mpr (.inl e2))]
            · rw [if_neg e2, if_neg (fun w => ((et y).mp w).elim e2 e)]
      · rintro σ H30 ⟨F3, la3, v7, rfl, mn3⟩
        rw [List.length_map, List.take_length] at mn3
        refine ⟨F3, M, la3, leaveS s rd, _, _, _, _, _, _, _, _, _, _, rfl, mn3.rows_eq fun y hy => ?_, b2, Nat.le_trans (List.length_filter_le _ _) sl⟩
        have em : mine (leaveS s rd) y = (mineOf y s.ln).filter (stays rd) := by
          show (s.ln.filter (stays rd)).filter (fun q => decide (q.1 = y)) = (s.ln.filter fun q => decide (q.1 = y)).filter (stays rd)
          rw [List.filter_filter, List.filter_filter]
          congr 1
          funext q
          exact Bool.and_comm _ _
        rw [em]
        by_cases ho : y ∈ os
        · rw [if_pos ho]
        · rw [if_neg ho]
          have hs := (os_or y hy).resolve_right ho
          symm
          rw [List.filter_eq_self]
          intro q hq
          obtain ⟨h1, h2⟩ := List.mem_filter.mp hq
          exact stays_none (b.un q h1 (by rw [of_decide_eq_true h2]; exact hs))
    clear mn b sl
    rintro σ H28 ⟨F, L, la, s, v7, v12, v13, v17, v18, v19, v20, v21, v22, v23, rfl, mn, b, sl⟩
    refine ⟨_, rfl, _, rfl, _, rfl, _, rfl, ?_⟩
    show tNil _ _ _
    unfold tNil
    show spserved r [V.ref x, V.ref Ld, V.ref W, V.int Sc] _ _ _
    have hne : s.ln ≠ [] := by
      obtain ⟨z, hz⟩ : ∃ z, z ∈ ste := List.exists_mem_of_length_pos (by omega)
      obtain ⟨q, hq, _⟩ := b.wt z hz
      intro e
      rw [e] at hq
      cases hq
    refine mn.A.served_call b.bd hne fun j q T H29 hj hq hqn i0 kp A29 eT => ?_
    have dic := mn.A.ok.dic
    replace mn := mn.step kp (serve_sub hqn) A29
    refine ⟨_, rfl, rfl, _, rfl, ite_d (fun h => by cases h) (fun _ => ?_)⟩
    obtain ⟨mv, m1, m2, m3⟩ := mn.M.md
    refine ⟨_, rfl, _, rfl, _, _, _, _, rfl, rfl, SqT.of eT, rfl, Md, _, rfl, (by rw [← m3 _ hqn]; exact DGet.k (k := kS q.1) m1), ?_⟩
    refine ⟨_, rfl, _, _, _, _, rfl, rfl, SqT.of eT, rfl, _, _, rfl, ?_⟩
    refine ⟨_, rfl, _, rfl, _, _, _, _, rfl, rfl, SqT.of eT, rfl, Md, _, rfl, DPut.k (k := kS q.1) m1 (Nat.lt_of_le_of_lt m2 (by decide)), ?_⟩
    have dic2 := mn.A.ok.dic
    obtain ⟨inc, einc⟩ : ∃ inc : Int, inc = (q.2.1 * Sc).fdiv (markOf wv q.1) := ⟨_, rfl⟩
    have bs := b.serve dic hj hq hqn i0
    have bsd := fun c => b.served (c := c) dic hj hq hqn i0 dic2
    rw [← einc] at eT bs bsd ⊢
    have mn2 := mn.setM m1 hqn (if inc > mo q.1 then inc else mo q.1)
    have eT2 : upd H29 Md (.dK (putK mv (kS q.1) (.int (if inc > mo q.1 then inc else mo q.1)))) T = some (.tup [.str q.1, .int inc]) := by
      rw [upd_ne (fun e => by rw [e, m1] at eT; cases eT)]
      exact eT
    generalize upd H29 Md (.dK (putK mv (kS q.1) (.int (if inc > mo q.1 then inc else mo q.1)))) = H30 at mn2 eT2 ⊢
    refine ⟨fun σ H' => ∃ (s : RS) (mo gr : Str → Int) (v7 v12 v13 v17 v18 v19 v20 v21 v22 v23 : Option V), σ = [some (.ref sc), some (.ref g), some (.ref N), some (.ref W), some (.ref Ld), some (.ref Md), some (.ref Gd), v7, some (.int Sc), some (.ref x), some (.int cm), some (.int m), v12, v13, some (.ref S), some (.ref OT), some (.ref SP), v17, v18, v19, v20, v21, v22, v23, none, none] ∧
      Mn r F H' g l N W Ld Md Gd SP S OT wv Sc ns ste os x D L s la (mine s) sps sd mo gr ∧ Bal ns ste s mo gr m0 sps sd ∧ s.ln.length ≤ 30, ?_, ?_⟩
    · refine ⟨_, rfl, _, _, _, _, rfl, rfl, SqT.of eT2, rfl, _, rfl, S, _, rfl, .inl (SqL.of mn2.S1.1), rfl, strs_flat _, _, rfl, ?_⟩
      cases e : inV (.str q.1) (ste.map V.str) with
      | false =>
        have nq : q.1 ∉ ste := fun w => by rw [inV_mem w] at e; cases e
        exact iteF ⟨_, _, _, _, _, _, _, _, _, _, _, _, _, rfl, mn2, bs nq, Nat.le_trans (List.length_eraseIdx_le _ _) sl⟩
      | true =>
        refine iteT ?_
        obtain ⟨gv, g1, g2, g3⟩ := mn2.M.gd
        refine ⟨_, rfl, _, rfl, _, _, _, _, rfl, rfl, SqT.of eT2, rfl, Gd, _, rfl, (by rw [← g3 _ hqn]; exact DGet.k (k := kS q.1) g1), _, rfl, _, _, _, _, rfl, rfl, SqT.of eT2, rfl, _, _, rfl, rfl, ?_⟩
        refine ⟨_, rfl, _, rfl, _, _, _, _, rfl, rfl, SqT.of eT2, rfl, Gd, _, rfl, DPut.k (k := kS q.1) g1 (Nat.lt_of_le_of_lt g2 (by decide)), ?_⟩
        have mn3 := mn2.setG g1 hqn (gr q.1 + inc)
        have eT3 : upd H30 Gd (.dK (putK gv (kS q.1) (.int (gr q.1 + inc)))) T = some (.tup [.str q.1, .int inc]) := by
          rw [upd_ne (fun e => by rw [e, g1] at eT2; cases eT2)]
          exact eT2
        refine ⟨_, rfl, _, rfl, _, rfl, _, rfl, _, _, _, _, rfl, rfl, SqT.of eT3, rfl, _, rfl, ?_⟩
        show tCons (tC V.non) tNil _ _ _
        unfold tCons tC tNil
        show spjoin r [V.ref g, V.ref x, V.ref Ld, V.str q.1, V.int cm, uV none] _ _ _
        have jl : j < s.ln.length := (List.getElem?_eq_some_iff.mp hq).1
        have el : (s.ln.eraseIdx j).length + 1 ≤ 30 := by rw [List.length_eraseIdx_of_lt jl]; omega
        refine mn3.A.join_call (u := none) hqn (show 1 ≤ cm by omega) (show cm ≤ 999 by omega) (show (s.ln.eraseIdx j).length ≤ 39 by omega) fun c H31 kp2 A31 => ?_
        refine ⟨_, _, _, _, _, _, _, _, _, _, _, _, _, rfl, mn3.step kp2 (join_sub hqn) A31, bsd c, ?_⟩
        show (s.ln.eraseIdx j ++ [_]).length ≤ 30
        rw [List.length_append]
        exact el
    clear mn mn2 b bs bsd sl
    rintro σ H31 ⟨s, mo, gr, v7, v12, v13, v17, v18, v19, v20, v21, v22, v23, rfl, mn, b, sl⟩
    refine ⟨_, rfl, SP, rfl, ⟨_, SqL.of mn.P.sp⟩, for_it (walk_list (K := K) (a := SP) (xs := sps.map V.ref)) (fun j σ H' => ∃ (sd : Addr → Spn) (v22 v23 : Option V), σ = [some (.ref sc), some (.ref g), some (.ref N), some (.ref W), some (.ref Ld), some (.ref Md), some (.ref Gd), v7, some (.int Sc), some (.ref x), some (.int cm), some (.int m), v12, v13, some (.ref S), some (.ref OT), some (.ref SP), v17, v18, v19, v20, v21, v22, v23, none, none] ∧
      Mn r F H' g l N W Ld Md Gd SP S OT wv Sc ns ste os x D L s la (mine s) sps sd mo gr ∧ Bal ns ste s mo gr m0 sps sd) ⟨sd, _, _, rfl, mn, b⟩ (fun _ _ _ _ ⟨_, _, _, _, q, _⟩ => SqL.of q.P.sp) ?_ (fun σ H' ⟨sd, v22, v23, e, mn, b⟩ => by rw [e]; exact ⟨F, L, la, s, mo, gr, sd, _, _, _, _, _, _, _, _, _, _, rfl, mn, b, sl⟩)⟩
    rintro j v σ H32 H33 hj ⟨sd, v22, v23, rfl, mn, b⟩ ⟨rfl, e2⟩
    rw [List.length_map] at hj
    obtain ⟨t, ht⟩ : ∃ t, sps[j]? = some t := ⟨_, List.getElem?_eq_getElem hj⟩
    rw [List.getElem?_map, ht] at e2
    cases e2
    have htm := List.mem_of_getElem? ht
    obtain ⟨hT, fT, nT, _⟩ := mn.P.each t htm
    obtain ⟨w1, w2, _, _⟩ := b.sp t htm
    obtain ⟨gv, g1, g2, g3⟩ := mn.M.gd
    refine ⟨_, rfl, _, rfl, _, _, _, _, rfl, rfl, SqL.of hT, rfl, Gd, _, rfl, (by rw [← g3 _ (stn _ w1)]; exact DGet.k (k := kS (sd t).a) g1), _, rfl, _, rfl, _, _, _, _, rfl, rfl, SqL.of hT, rfl, Gd, _, rfl, (by rw [← g3 _ (stn _ w2)]; exact DGet.k (k := kS (sd t).b) g1), _, _, rfl, rfl, ?_⟩
    refine ⟨_, rfl, _, _, _, _, rfl, rfl, SqL.of hT, rfl, _, rfl, _, _, rfl, _, rfl, _, _, _, _, rfl, rfl, SqL.of hT, rfl, _, rfl, _, _, rfl, (by show 2 ≤ sizeLine; decide), fun T hT2 => ?_⟩
    obtain ⟨lo, elo⟩ : ∃ lo : Int, lo = (if gr (sd t).a - gr (sd t).b < (sd t).lo then gr (sd t).a - gr (sd t).b else (sd t).lo) := ⟨_, rfl⟩
    obtain ⟨hi', ehi⟩ : ∃ hi : Int, hi = (if gr (sd t).a - gr (sd t).b > (sd t).hi then gr (sd t).a - gr (sd t).b else (sd t).hi) := ⟨_, rfl⟩
    rw [← elo, ← ehi]
    obtain ⟨hno, b2⟩ := b.span stn htm (lo := lo) (hi := hi') elo ehi
    refine ⟨T, _, rfl, SqT.of upd_same, rfl, ?_⟩
    have s34 := same_new (o := .tup [.int lo, .int hi']) hT2
    replace mn := mn.same s34
    replace hT := s34 _ _ hT
    generalize upd H33 T (.tup [.int lo, .int hi']) = H34 at s34 mn hT ⊢
    refine ⟨_, _, rfl, _, rfl, t, _, _, 2, rfl, rfl, hT, rfl, _, _, rfl, _, rfl, t, _, _, 3, rfl, rfl, upd_same, rfl, rfl, ?_⟩
    rw [upd_upd]
    replace mn := mn.setT htm ⟨(sd t).a, (sd t).b, lo, hi'⟩
    have hT5 : upd H34 t (.lst (spanV ⟨(sd t).a, (sd t).b, lo, hi'⟩)) t = some (.lst (spanV ⟨(sd t).a, (sd t).b, lo, hi'⟩)) := upd_same
    have eh : upd H34 t (.lst (((spanV (sd t)).set 2 (.int lo)).set 3 (.int hi'))) = upd H34 t (.lst (spanV ⟨(sd t).a, (sd t).b, lo, hi'⟩)) := rfl
    rw [eh]
    generalize upd H34 t (.lst (spanV ⟨(sd t).a, (sd t).b, lo, hi'⟩)) = H35 at mn hT5 ⊢
    obtain ⟨mv, m1, m2, m3⟩ := mn.M.md
    refine ⟨_, rfl, _, _, _, _, rfl, rfl, SqL.of hT5, rfl, _, rfl, _, _, _, _, rfl, rfl, SqL.of hT5, rfl, _, _, rfl, rfl, ?_⟩
    refine ⟨_, rfl, _, rfl, _, _, _, _, rfl, rfl, SqL.of hT5, rfl, Md, _, rfl, (by rw [← m3 _ (stn _ w1)]; exact DGet.k (k := kS (sd t).a) m1), ?_⟩
    refine ⟨_, rfl, _, rfl, _, _, _, _, rfl, rfl, SqL.of hT5, rfl, Md, _, rfl, (by rw [← m3 _ (stn _ w2)]; exact DGet.k (k := kS (sd t).b) m1), ?_⟩
    exact ⟨_, _, rfl, rfl, _, _, rfl, rfl, _, rfl, ite_d (fun h => absurd h hno) (fun _ => ⟨_, _, _, rfl, mn, b2⟩)⟩
end k48
namespace k48
open PySem L2 LC RM
theorem all_mk {l : PySem.W.OpenLaw} {w : World} {K : PySem.W.Frag} {h : Heap} {mg : Str → Option Value} {fa : Addr} (X : K.In h) (G : h.Ns mainGlobals mg) (hfa : mg "law" = some (.ref fa))
    {fcheck_count : Addr} {odcheck_count ancheck_count : Option Addr} {slcheck_count : Array (Option Value)} {occheck_count kVcheck_count dccheck_count pmcheck_count cdcheck_count ctcheck_count : Value}
    (acheck_count : PySem.W.nsIn K mainGlobals "check_count" = some (some (.ref fcheck_count)))
    (lcheck_count : K.lookup fcheck_count = some ⟨occheck_count, odcheck_count, .func (PySem.W.fnOf "check_count" "check_count" (defArgs scheck_count) (defBody scheck_count) (defScope scheck_count) .none kVcheck_count dccheck_count pmcheck_count ancheck_count cdcheck_count ctcheck_count), slcheck_count⟩)
    (ccheck_count : PySem.W.codeIn K cdcheck_count "check_count" = true)
    (kcheck_count : PySem.W.keepIn K (.ref fcheck_count) = true)
    {fis_whole : Addr} {odis_whole anis_whole : Option Addr} {slis_whole : Array (Option Value)} {ocis_whole kVis_whole dcis_whole pmis_whole cdis_whole ctis_whole : Value}
    (ais_whole : PySem.W.nsIn K mainGlobals "is_whole" = some (some (.ref fis_whole)))
    (lis_whole : K.lookup fis_whole = some ⟨ocis_whole, odis_whole, .func (PySem.W.fnOf "is_whole" "is_whole" (defArgs sis_whole) (defBody sis_whole) (defScope sis_whole) .none kVis_whole dcis_whole pmis_whole anis_whole cdis_whole ctis_whole), slis_whole⟩)
    (cis_whole : PySem.W.codeIn K cdis_whole "is_whole" = true)
    (kis_whole : PySem.W.keepIn K (.ref fis_whole) = true)
    {fis_number : Addr} {odis_number anis_number : Option Addr} {slis_number : Array (Option Value)} {ocis_number kVis_number dcis_number pmis_number cdis_number ctis_number : Value}
    (ais_number : PySem.W.nsIn K mainGlobals "is_number" = some (some (.ref fis_number)))
    (lis_number : K.lookup fis_number = some ⟨ocis_number, odis_number, .func (PySem.W.fnOf "is_number" "is_number" (defArgs sis_number) (defBody sis_number) (defScope sis_number) .none kVis_number dcis_number pmis_number anis_number cdis_number ctis_number), slis_number⟩)
    (cis_number : PySem.W.codeIn K cdis_number "is_number" = true)
    (kis_number : PySem.W.keepIn K (.ref fis_number) = true)
    {fis_name : Addr} {odis_name anis_name : Option Addr} {slis_name : Array (Option Value)} {ocis_name kVis_name dcis_name pmis_name cdis_name ctis_name : Value}
    (ais_name : PySem.W.nsIn K mainGlobals "is_name" = some (some (.ref fis_name)))
    (lis_name : K.lookup fis_name = some ⟨ocis_name, odis_name, .func (PySem.W.fnOf "is_name" "is_name" (defArgs sis_name) (defBody sis_name) (defScope sis_name) .none kVis_name dcis_name pmis_name anis_name cdis_name ctis_name), slis_name⟩)
    (cis_name : PySem.W.codeIn K cdis_name "is_name" = true)
    (kis_name : PySem.W.keepIn K (.ref fis_name) = true)
    {fhas_name : Addr} {odhas_name anhas_name : Option Addr} {slhas_name : Array (Option Value)} {ochas_name kVhas_name dchas_name pmhas_name cdhas_name cthas_name : Value}
    (ahas_name : PySem.W.nsIn K mainGlobals "has_name" = some (some (.ref fhas_name)))
    (lhas_name : K.lookup fhas_name = some ⟨ochas_name, odhas_name, .func (PySem.W.fnOf "has_name" "has_name" (defArgs shas_name) (defBody shas_name) (defScope shas_name) .none kVhas_name dchas_name pmhas_name anhas_name cdhas_name cthas_name), slhas_name⟩)
    (chas_name : PySem.W.codeIn K cdhas_name "has_name" = true)
    (khas_name : PySem.W.keepIn K (.ref fhas_name) = true)
    {flook_up : Addr} {odlook_up anlook_up : Option Addr} {sllook_up : Array (Option Value)} {oclook_up kVlook_up dclook_up pmlook_up cdlook_up ctlook_up : Value}
    (alook_up : PySem.W.nsIn K mainGlobals "look_up" = some (some (.ref flook_up)))
    (llook_up : K.lookup flook_up = some ⟨oclook_up, odlook_up, .func (PySem.W.fnOf "look_up" "look_up" (defArgs slook_up) (defBody slook_up) (defScope slook_up) .none kVlook_up dclook_up pmlook_up anlook_up cdlook_up ctlook_up), sllook_up⟩)
    (clook_up : PySem.W.codeIn K cdlook_up "look_up" = true)
    (klook_up : PySem.W.keepIn K (.ref flook_up) = true)
    {fleast_multiple : Addr} {odleast_multiple anleast_multiple : Option Addr} {slleast_multiple : Array (Option Value)} {ocleast_multiple kVleast_multiple dcleast_multiple pmleast_multiple cdleast_multiple ctleast_multiple : Value}
    (aleast_multiple : PySem.W.nsIn K mainGlobals "least_multiple" = some (some (.ref fleast_multiple)))
    (lleast_multiple : K.lookup fleast_multiple = some ⟨ocleast_multiple, odleast_multiple, .func (PySem.W.fnOf "least_multiple" "least_multiple" (defArgs sleast_multiple) (defBody sleast_multiple) (defScope sleast_multiple) .none kVleast_multiple dcleast_multiple pmleast_multiple anleast_multiple cdleast_multiple ctleast_multiple), slleast_multiple⟩)
    (cleast_multiple : PySem.W.codeIn K cdleast_multiple "least_multiple" = true)
    (kleast_multiple : PySem.W.keepIn K (.ref fleast_multiple) = true)
    {fcheck_cost : Addr} {odcheck_cost ancheck_cost : Option Addr} {slcheck_cost : Array (Option Value)} {occheck_cost kVcheck_cost dccheck_cost pmcheck_cost cdcheck_cost ctcheck_cost : Value}
    (acheck_cost : PySem.W.nsIn K mainGlobals "check_cost" = some (some (.ref fcheck_cost)))
    (lcheck_cost : K.lookup fcheck_cost = some ⟨occheck_cost, odcheck_cost, .func (PySem.W.fnOf "check_cost" "check_cost" (defArgs scheck_cost) (defBody scheck_cost) (defScope scheck_cost) .none kVcheck_cost dccheck_cost pmcheck_cost ancheck_cost cdcheck_cost ctcheck_cost), slcheck_cost⟩)
    (ccheck_cost : PySem.W.codeIn K cdcheck_cost "check_cost" = true)
    (kcheck_cost : PySem.W.keepIn K (.ref fcheck_cost) = true)
    {fbag : Addr} {odbag anbag : Option Addr} {slbag : Array (Option Value)} {ocbag kVbag dcbag pmbag cdbag ctbag : Value}
    (abag : PySem.W.nsIn K mainGlobals "_law_bag" = some (some (.ref fbag)))
    (lbag : K.lookup fbag = some ⟨ocbag, odbag, .func (PySem.W.fnOf "_law_bag" "_law_bag" (defArgs sbag) (defBody sbag) (defScope sbag) .none kVbag dcbag pmbag anbag cdbag ctbag), slbag⟩)
    (cbag : PySem.W.codeIn K cdbag "_law_bag" = true)
    (kbag : PySem.W.keepIn K (.ref fbag) = true)
    {fdraw : Addr} {oddraw andraw : Option Addr} {sldraw : Array (Option Value)} {ocdraw kVdraw dcdraw pmdraw cddraw ctdraw : Value}
    (adraw : PySem.W.nsIn K mainGlobals "_law_draw" = some (some (.ref fdraw)))
    (ldraw : K.lookup fdraw = some ⟨ocdraw, oddraw, .func (PySem.W.fnOf "_law_draw" "_law_draw" (defArgs sdraw) (defBody sdraw) (defScope sdraw) .none kVdraw dcdraw pmdraw andraw cddraw ctdraw), sldraw⟩)
    (cdraw : PySem.W.codeIn K cddraw "_law_draw" = true)
    (kdraw : PySem.W.keepIn K (.ref fdraw) = true)
    {fof : Addr} {odof anof : Option Addr} {slof : Array (Option Value)} {ocof kVof dcof pmof cdof ctof : Value}
    (aof : PySem.W.nsIn K mainGlobals "_law_of" = some (some (.ref fof)))
    (lof : K.lookup fof = some ⟨ocof, odof, .func (PySem.W.fnOf "_law_of" "_law_of" (defArgs sof) (defBody sof) (defScope sof) .none kVof dcof pmof anof cdof ctof), slof⟩)
    (cof : PySem.W.codeIn K cdof "_law_of" = true)
    (kof : PySem.W.keepIn K (.ref fof) = true)
    {fnames : Addr} {odnames annames : Option Addr} {slnames : Array (Option Value)} {ocnames kVnames dcnames pmnames cdnames ctnames : Value}
    (anames : PySem.W.nsIn K mainGlobals "_law_names" = some (some (.ref fnames)))
    (lnames : K.lookup fnames = some ⟨ocnames, odnames, .func (PySem.W.fnOf "_law_names" "_law_names" (defArgs snames) (defBody snames) (defScope snames) .none kVnames dcnames pmnames annames cdnames ctnames), slnames⟩)
    (cnames : PySem.W.codeIn K cdnames "_law_names" = true)
    (knames : PySem.W.keepIn K (.ref fnames) = true)
    {fscale : Addr} {odscale anscale : Option Addr} {slscale : Array (Option Value)} {ocscale kVscale dcscale pmscale cdscale ctscale : Value}
    (ascale : PySem.W.nsIn K mainGlobals "_law_scale" = some (some (.ref fscale)))
    (lscale : K.lookup fscale = some ⟨ocscale, odscale, .func (PySem.W.fnOf "_law_scale" "_law_scale" (defArgs sscale) (defBody sscale) (defScope sscale) .none kVscale dcscale pmscale anscale cdscale ctscale), slscale⟩)
    (cscale : PySem.W.codeIn K cdscale "_law_scale" = true)
    (kscale : PySem.W.keepIn K (.ref fscale) = true)
    {fjoin : Addr} {odjoin anjoin : Option Addr} {sljoin : Array (Option Value)} {ocjoin kVjoin dcjoin pmjoin cdjoin ctjoin : Value}
    (ajoin : PySem.W.nsIn K mainGlobals "_law_join" = some (some (.ref fjoin)))
    (ljoin : K.lookup fjoin = some ⟨ocjoin, odjoin, .func (PySem.W.fnOf "_law_join" "_law_join" (defArgs sjoin) (defBody sjoin) (defScope sjoin) .none kVjoin dcjoin pmjoin anjoin cdjoin ctjoin), sljoin⟩)
    (cjoin : PySem.W.codeIn K cdjoin "_law_join" = true)
    (kjoin : PySem.W.keepIn K (.ref fjoin) = true)
    {fserved : Addr} {odserved anserved : Option Addr} {slserved : Array (Option Value)} {ocserved kVserved dcserved pmserved cdserved ctserved : Value}
    (aserved : PySem.W.nsIn K mainGlobals "_law_served" = some (some (.ref fserved)))
    (lserved : K.lookup fserved = some ⟨ocserved, odserved, .func (PySem.W.fnOf "_law_served" "_law_served" (defArgs sserved) (defBody sserved) (defScope sserved) .none kVserved dcserved pmserved anserved cdserved ctserved), slserved⟩)
    (cserved : PySem.W.codeIn K cdserved "_law_served" = true)
    (kserved : PySem.W.keepIn K (.ref fserved) = true)
    {flaw : Addr} {odlaw anlaw : Option Addr} {sllaw : Array (Option Value)} {oclaw kVlaw dclaw pmlaw cdlaw ctlaw : Value}
    (alaw : PySem.W.nsIn K mainGlobals "law" = some (some (.ref flaw)))
    (llaw : K.lookup flaw = some ⟨oclaw, odlaw, .func (PySem.W.fnOf "law" "law" (defArgs slaw) (defBody slaw) (defScope slaw) .none kVlaw dclaw pmlaw anlaw cdlaw ctlaw), sllaw⟩)
    (claw : PySem.W.codeIn K cdlaw "law" = true)
    (klaw : PySem.W.keepIn K (.ref flaw) = true)
    (zall : PySem.W.nsIn K mainGlobals "all" = some none)
    (zbool : PySem.W.nsIn K mainGlobals "bool" = some none)
    (zdict : PySem.W.nsIn K mainGlobals "dict" = some none)
    (zenumerate : PySem.W.nsIn K mainGlobals "enumerate" = some none)
    (zint : PySem.W.nsIn K mainGlobals "int" = some none)
    (zisinstance : PySem.W.nsIn K mainGlobals "isinstance" = some none)
    (zlen : PySem.W.nsIn K mainGlobals "len" = some none)
    (zlist : PySem.W.nsIn K mainGlobals "list" = some none)
    (zmax : PySem.W.nsIn K mainGlobals "max" = some none)
    (zmin : PySem.W.nsIn K mainGlobals "min" = some none)
    (zrange : PySem.W.nsIn K mainGlobals "range" = some none)
    (zsorted : PySem.W.nsIn K mainGlobals "sorted" = some none)
    (zstr : PySem.W.nsIn K mainGlobals "str" = some none)
    (ztuple : PySem.W.nsIn K mainGlobals "tuple" = some none)
    (zzip : PySem.W.nsIn K mainGlobals "zip" = some none)
    {tkDIGITS : Tok} (yDIGITS : PySem.W.nsIn K mainGlobals "DIGITS" = some (some (.str "0123456789" tkDIGITS)))
    {tkLETTERS : Tok} (yLETTERS : PySem.W.nsIn K mainGlobals "LETTERS" = some (some (.str "abcdefghijklmnopqrstuvwxyz" tkLETTERS)))
    {tkMOST_COST : Tok} (yMOST_COST : PySem.W.nsIn K mainGlobals "MOST_COST" = some (some (.int 1000 tkMOST_COST)))
    {tkMOST_WAITING : Tok} (yMOST_WAITING : PySem.W.nsIn K mainGlobals "MOST_WAITING" = some (some (.int 40 tkMOST_WAITING)))
        {aRoom fRoom_init fRoom_head fRoom_join fRoom_serve fRoom_leave fRoom_waiting fRoom_mark_of fRoom_level fRoom_scale fRoom_len fRoom_bool fRoom_copy : Addr}
    (aRoomG : PySem.W.nsIn K mainGlobals "Room" = some (some (.ref aRoom)))
    (pgRoom : PySem.W.plainGet K aRoom Str.empty = true)
    (hdRoom : PySem.W.hasDictIn K aRoom = true)
    (poRoom : PySem.W.plainOver K aRoom = true)
    (saRoom : PySem.W.findIn K (.ref aRoom) "__setattr__" = some (some (.builtin "object.__setattr__")))
    (mkRoom : PySem.W.makesIn K aRoom = true)
    (kpRoom : PySem.W.keepIn K (.ref aRoom) = true)
    (nRoom_weights : PySem.W.findIn K (.ref aRoom) "_weights" = some none)
    (nRoom_marks : PySem.W.findIn K (.ref aRoom) "_marks" = some none)
    (nRoom_level : PySem.W.findIn K (.ref aRoom) "_level" = some none)
    (nRoom_scale : PySem.W.findIn K (.ref aRoom) "_scale" = some none)
    (nRoom_waiting : PySem.W.findIn K (.ref aRoom) "_waiting" = some none)
    (atRoom_init : PySem.W.findIn K (.ref aRoom) "__init__" = some (some (.ref fRoom_init)))
    {odRoom_init anRoom_init : Option Addr} {slRoom_init : Array (Option Value)} {ocRoom_init kVRoom_init dcRoom_init pmRoom_init cdRoom_init ctRoom_init : Value}
    (lRoom_init : K.lookup fRoom_init = some ⟨ocRoom_init, odRoom_init, .func (PySem.W.fnOf "__init__" "Room.__init__" (defArgs sRoom_init) (defBody sRoom_init) (defScope sRoom_init) .none kVRoom_init dcRoom_init pmRoom_init anRoom_init cdRoom_init ctRoom_init), slRoom_init⟩)
    (cRoom_init : PySem.W.codeIn K cdRoom_init "Room.__init__" = true)
    (kRoom_init : PySem.W.keepIn K (.ref fRoom_init) = true)
    (iRoom_init : PySem.W.isFn K (.ref fRoom_init) = true)
    {pRoom_head : Addr} {reRoom_head : List Value}
    (atRoom_head : PySem.W.findIn K (.ref aRoom) "head" = some (some (.ref pRoom_head)))
    (geRoom_head : PySem.W.specialIn K (.ref pRoom_head) "__get__" = some (some (.builtin "property.__get__")))
    (taRoom_head : PySem.W.takesIn K (.ref pRoom_head) = some true)
    (rcRoom_head : PySem.W.recIn K pRoom_head "property" = some (.ref fRoom_head :: reRoom_head))
    {odRoom_head anRoom_head : Option Addr} {slRoom_head : Array (Option Value)} {ocRoom_head kVRoom_head dcRoom_head pmRoom_head cdRoom_head ctRoom_head : Value}
    (lRoom_head : K.lookup fRoom_head = some ⟨ocRoom_head, odRoom_head, .func (PySem.W.fnOf "head" "Room.head" (defArgs sRoom_head) (defBody sRoom_head) (defScope sRoom_head) .none kVRoom_head dcRoom_head pmRoom_head anRoom_head cdRoom_head ctRoom_head), slRoom_head⟩)
    (cRoom_head : PySem.W.codeIn K cdRoom_head "Room.head" = true)
    (kRoom_head : PySem.W.keepIn K (.ref fRoom_head) = true)
    (iRoom_head : PySem.W.isFn K (.ref fRoom_head) = true)
    (atRoom_join : PySem.W.findIn K (.ref aRoom) "join" = some (some (.ref fRoom_join)))
    {Tj : Addr} {ocTj : Value} {odTj : Option Addr} {itTj : Array Value} {nTj : Nat} {slTj : Array (Option Value)}
    {odRoom_join anRoom_join : Option Addr} {slRoom_join : Array (Option Value)} {ocRoom_join kVRoom_join dcRoom_join pmRoom_join cdRoom_join ctRoom_join : Value}
    (lRoom_join : K.lookup fRoom_join = some ⟨ocRoom_join, odRoom_join, .func (PySem.W.fnOf "join" "Room.join" (defArgs sRoom_join) (defBody sRoom_join) (defScope sRoom_join) (.ref Tj) kVRoom_join dcRoom_join pmRoom_join anRoom_join cdRoom_join ctRoom_join), slRoom_join⟩)
    (cRoom_join : PySem.W.codeIn K cdRoom_join "Room.join" = true)
    (kRoom_join : PySem.W.keepIn K (.ref fRoom_join) = true)
    (iRoom_join : PySem.W.isFn K (.ref fRoom_join) = true)
    (lTj : K.lookup Tj = some ⟨ocTj, odTj, .seq itTj nTj, slTj⟩)
    (vTj : itTj = #[.none])
    (atRoom_serve : PySem.W.findIn K (.ref aRoom) "serve" = some (some (.ref fRoom_serve)))
    {odRoom_serve anRoom_serve : Option Addr} {slRoom_serve : Array (Option Value)} {ocRoom_serve kVRoom_serve dcRoom_serve pmRoom_serve cdRoom_serve ctRoom_serve : Value}
    (lRoom_serve : K.lookup fRoom_serve = some ⟨ocRoom_serve, odRoom_serve, .func (PySem.W.fnOf "serve" "Room.serve" (defArgs sRoom_serve) (defBody sRoom_serve) (defScope sRoom_serve) .none kVRoom_serve dcRoom_serve pmRoom_serve anRoom_serve cdRoom_serve ctRoom_serve), slRoom_serve⟩)
    (cRoom_serve : PySem.W.codeIn K cdRoom_serve "Room.serve" = true)
    (kRoom_serve : PySem.W.keepIn K (.ref fRoom_serve) = true)
    (iRoom_serve : PySem.W.isFn K (.ref fRoom_serve) = true)
    (atRoom_leave : PySem.W.findIn K (.ref aRoom) "leave" = some (some (.ref fRoom_leave)))
    {odRoom_leave anRoom_leave : Option Addr} {slRoom_leave : Array (Option Value)} {ocRoom_leave kVRoom_leave dcRoom_leave pmRoom_leave cdRoom_leave ctRoom_leave : Value}
    (lRoom_leave : K.lookup fRoom_leave = some ⟨ocRoom_leave, odRoom_leave, .func (PySem.W.fnOf "leave" "Room.leave" (defArgs sRoom_leave) (defBody sRoom_leave) (defScope sRoom_leave) .none kVRoom_leave dcRoom_leave pmRoom_leave anRoom_leave cdRoom_leave ctRoom_leave), slRoom_leave⟩)
    (cRoom_leave : PySem.W.codeIn K cdRoom_leave "Room.leave" = true)
    (kRoom_leave : PySem.W.keepIn K (.ref fRoom_leave) = true)
    (iRoom_leave : PySem.W.isFn K (.ref fRoom_leave) = true)
    (atRoom_waiting : PySem.W.findIn K (.ref aRoom) "waiting" = some (some (.ref fRoom_waiting)))
    {odRoom_waiting anRoom_waiting : Option Addr} {slRoom_waiting : Array (Option Value)} {ocRoom_waiting kVRoom_waiting dcRoom_waiting pmRoom_waiting cdRoom_waiting ctRoom_waiting : Value}
    (lRoom_waiting : K.lookup fRoom_waiting = some ⟨ocRoom_waiting, odRoom_waiting, .func (PySem.W.fnOf "waiting" "Room.waiting" (defArgs sRoom_waiting) (defBody sRoom_waiting) (defScope sRoom_waiting) .none kVRoom_waiting dcRoom_waiting pmRoom_waiting anRoom_waiting cdRoom_waiting ctRoom_waiting), slRoom_waiting⟩)
    (cRoom_waiting : PySem.W.codeIn K cdRoom_waiting "Room.waiting" = true)
    (kRoom_waiting : PySem.W.keepIn K (.ref fRoom_waiting) = true)
    (iRoom_waiting : PySem.W.isFn K (.ref fRoom_waiting) = true)
    (atRoom_mark_of : PySem.W.findIn K (.ref aRoom) "mark_of" = some (some (.ref fRoom_mark_of)))
    {odRoom_mark_of anRoom_mark_of : Option Addr} {slRoom_mark_of : Array (Option Value)} {ocRoom_mark_of kVRoom_mark_of dcRoom_mark_of pmRoom_mark_of cdRoom_mark_of ctRoom_mark_of : Value}
    (lRoom_mark_of : K.lookup fRoom_mark_of = some ⟨ocRoom_mark_of, odRoom_mark_of, .func (PySem.W.fnOf "mark_of" "Room.mark_of" (defArgs sRoom_mark_of) (defBody sRoom_mark_of) (defScope sRoom_mark_of) .none kVRoom_mark_of dcRoom_mark_of pmRoom_mark_of anRoom_mark_of cdRoom_mark_of ctRoom_mark_of), slRoom_mark_of⟩)
    (cRoom_mark_of : PySem.W.codeIn K cdRoom_mark_of "Room.mark_of" = true)
    (kRoom_mark_of : PySem.W.keepIn K (.ref fRoom_mark_of) = true)
    (iRoom_mark_of : PySem.W.isFn K (.ref fRoom_mark_of) = true)
    {pRoom_level : Addr} {reRoom_level : List Value}
    (atRoom_level : PySem.W.findIn K (.ref aRoom) "level" = some (some (.ref pRoom_level)))
    (geRoom_level : PySem.W.specialIn K (.ref pRoom_level) "__get__" = some (some (.builtin "property.__get__")))
    (taRoom_level : PySem.W.takesIn K (.ref pRoom_level) = some true)
    (rcRoom_level : PySem.W.recIn K pRoom_level "property" = some (.ref fRoom_level :: reRoom_level))
    {odRoom_level anRoom_level : Option Addr} {slRoom_level : Array (Option Value)} {ocRoom_level kVRoom_level dcRoom_level pmRoom_level cdRoom_level ctRoom_level : Value}
    (lRoom_level : K.lookup fRoom_level = some ⟨ocRoom_level, odRoom_level, .func (PySem.W.fnOf "level" "Room.level" (defArgs sRoom_level) (defBody sRoom_level) (defScope sRoom_level) .none kVRoom_level dcRoom_level pmRoom_level anRoom_level cdRoom_level ctRoom_level), slRoom_level⟩)
    (cRoom_level : PySem.W.codeIn K cdRoom_level "Room.level" = true)
    (kRoom_level : PySem.W.keepIn K (.ref fRoom_level) = true)
    (iRoom_level : PySem.W.isFn K (.ref fRoom_level) = true)
    {pRoom_scale : Addr} {reRoom_scale : List Value}
    (atRoom_scale : PySem.W.findIn K (.ref aRoom) "scale" = some (some (.ref pRoom_scale)))
    (geRoom_scale : PySem.W.specialIn K (.ref pRoom_scale) "__get__" = some (some (.builtin "property.__get__")))
    (taRoom_scale : PySem.W.takesIn K (.ref pRoom_scale) = some true)
    (rcRoom_scale : PySem.W.recIn K pRoom_scale "property" = some (.ref fRoom_scale :: reRoom_scale))
    (atRoom_len : PySem.W.findIn K (.ref aRoom) "__len__" = some (some (.ref fRoom_len)))
    {odRoom_len anRoom_len : Option Addr} {slRoom_len : Array (Option Value)} {ocRoom_len kVRoom_len dcRoom_len pmRoom_len cdRoom_len ctRoom_len : Value}
    (lRoom_len : K.lookup fRoom_len = some ⟨ocRoom_len, odRoom_len, .func (PySem.W.fnOf "__len__" "Room.__len__" (defArgs sRoom_len) (defBody sRoom_len) (defScope sRoom_len) .none kVRoom_len dcRoom_len pmRoom_len anRoom_len cdRoom_len ctRoom_len), slRoom_len⟩)
    (cRoom_len : PySem.W.codeIn K cdRoom_len "Room.__len__" = true)
    (kRoom_len : PySem.W.keepIn K (.ref fRoom_len) = true)
    (iRoom_len : PySem.W.isFn K (.ref fRoom_len) = true)
    (atRoom_bool : PySem.W.findIn K (.ref aRoom) "__bool__" = some (some (.ref fRoom_bool)))
    {odRoom_bool anRoom_bool : Option Addr} {slRoom_bool : Array (Option Value)} {ocRoom_bool kVRoom_bool dcRoom_bool pmRoom_bool cdRoom_bool ctRoom_bool : Value}
    (lRoom_bool : K.lookup fRoom_bool = some ⟨ocRoom_bool, odRoom_bool, .func (PySem.W.fnOf "__bool__" "Room.__bool__" (defArgs sRoom_bool) (defBody sRoom_bool) (defScope sRoom_bool) .none kVRoom_bool dcRoom_bool pmRoom_bool anRoom_bool cdRoom_bool ctRoom_bool), slRoom_bool⟩)
    (cRoom_bool : PySem.W.codeIn K cdRoom_bool "Room.__bool__" = true)
    (kRoom_bool : PySem.W.keepIn K (.ref fRoom_bool) = true)
    (iRoom_bool : PySem.W.isFn K (.ref fRoom_bool) = true)
    (atRoom_copy : PySem.W.findIn K (.ref aRoom) "copy" = some (some (.ref fRoom_copy)))
    (kRoom_copy : PySem.W.keepIn K (.ref fRoom_copy) = true)
    (iRoom_copy : PySem.W.isFn K (.ref fRoom_copy) = true)
    (xlcm : PySem.W.nsIn K mainGlobals "lcm" = some (some (.builtin "math.lcm"))) :
    ∃ fd : FuncData, (∀ (s : Shared) (v : Value), BindsTo s fd ⟨[v], []⟩ [("_law_script", v)]) ∧ ∀ base : Heap, K.In base → base.Ns mainGlobals mg → FnOk l.prog w K mg base CX0 6 fa fd ["_law_script"] (splaw K) := by
  have e := hfa.symm.trans (PySem.W.mg_of X G alaw)
  cases e
  have T : Txt K mg := ⟨PySem.W.mg_none_of X G zall, PySem.W.mg_none_of X G zbool, PySem.W.mg_none_of X G zdict, PySem.W.mg_none_of X G zenumerate, PySem.W.mg_none_of X G zint, PySem.W.mg_none_of X G zisinstance, PySem.W.mg_none_of X G zlen, PySem.W.mg_none_of X G zlist, PySem.W.mg_none_of X G zmax, PySem.W.mg_none_of X G zmin, PySem.W.mg_none_of X G zrange, PySem.W.mg_none_of X G zsorted, PySem.W.mg_none_of X G zstr, PySem.W.mg_none_of X G ztuple, PySem.W.mg_none_of X G zzip, ⟨_, PySem.W.mg_of X G yDIGITS⟩, ⟨_, PySem.W.mg_of X G yLETTERS⟩, ⟨_, PySem.W.mg_of X G yMOST_COST⟩, ⟨_, PySem.W.mg_of X G yMOST_WAITING⟩⟩
  have Fcheck_count := fun_mk (st := scheck_count) lcheck_count ccheck_count kcheck_count
  have Dcheck_count : Def K mg "check_count" scheck_count Pcheck_count _ _ := ⟨Fcheck_count, PySem.W.mg_of X G acheck_count, Fcheck_count.binds (ps := Pcheck_count) fun _ _ _ _ _ _ us hl => match us, hl with | [_, _, _], _ => rfl⟩
  have Fis_whole := fun_mk (st := sis_whole) lis_whole cis_whole kis_whole
  have Dis_whole : Def K mg "is_whole" sis_whole Pis_whole _ _ := ⟨Fis_whole, PySem.W.mg_of X G ais_whole, Fis_whole.binds (ps := Pis_whole) fun _ _ _ _ _ _ us hl => match us, hl with | [_], _ => rfl⟩
  have Fis_number := fun_mk (st := sis_number) lis_number cis_number kis_number
  have Dis_number : Def K mg "is_number" sis_number Pis_number _ _ := ⟨Fis_number, PySem.W.mg_of X G ais_number, Fis_number.binds (ps := Pis_number) fun _ _ _ _ _ _ us hl => match us, hl with | [_, _, _], _ => rfl⟩
  have Fis_name := fun_mk (st := sis_name) lis_name cis_name kis_name
  have Dis_name : Def K mg "is_name" sis_name Pis_name _ _ := ⟨Fis_name, PySem.W.mg_of X G ais_name, Fis_name.binds (ps := Pis_name) fun _ _ _ _ _ _ us hl => match us, hl with | [_], _ => rfl⟩
  have Fhas_name := fun_mk (st := shas_name) lhas_name chas_name khas_name
  have Dhas_name : Def K mg "has_name" shas_name Phas_name _ _ := ⟨Fhas_name, PySem.W.mg_of X G ahas_name, Fhas_name.binds (ps := Phas_name) fun _ _ _ _ _ _ us hl => match us, hl with | [_, _], _ => rfl⟩
  have Flook_up := fun_mk (st := slook_up) llook_up clook_up klook_up
  have Dlook_up : Def K mg "look_up" slook_up Plook_up _ _ := ⟨Flook_up, PySem.W.mg_of X G alook_up, Flook_up.binds (ps := Plook_up) fun _ _ _ _ _ _ us hl => match us, hl with | [_, _], _ => rfl⟩
  have Fleast_multiple := fun_mk (st := sleast_multiple) lleast_multiple cleast_multiple kleast_multiple
  have Dleast_multiple : Def K mg "least_multiple" sleast_multiple Pleast_multiple _ _ := ⟨Fleast_multiple, PySem.W.mg_of X G aleast_multiple, Fleast_multiple.binds (ps := Pleast_multiple) fun _ _ _ _ _ _ us hl => match us, hl with | [_], _ => rfl⟩
  have Fcheck_cost := fun_mk (st := scheck_cost) lcheck_cost ccheck_cost kcheck_cost
  have Dcheck_cost : Def K mg "check_cost" scheck_cost Pcheck_cost _ _ := ⟨Fcheck_cost, PySem.W.mg_of X G acheck_cost, Fcheck_cost.binds (ps := Pcheck_cost) fun _ _ _ _ _ _ us hl => match us, hl with | [_], _ => rfl⟩
  have Fbag := fun_mk (st := sbag) lbag cbag kbag
  have Dbag : Def K mg "_law_bag" sbag Pbag _ _ := ⟨Fbag, PySem.W.mg_of X G abag, Fbag.binds (ps := Pbag) fun _ _ _ _ _ _ us hl => match us, hl with | [_], _ => rfl⟩
  have Fdraw := fun_mk (st := sdraw) ldraw cdraw kdraw
  have Ddraw : Def K mg "_law_draw" sdraw Pdraw _ _ := ⟨Fdraw, PySem.W.mg_of X G adraw, Fdraw.binds (ps := Pdraw) fun _ _ _ _ _ _ us hl => match us, hl with | [_, _], _ => rfl⟩
  have Fof := fun_mk (st := sof) lof cof kof
  have Dof : Def K mg "_law_of" sof Pof _ _ := ⟨Fof, PySem.W.mg_of X G aof, Fof.binds (ps := Pof) fun _ _ _ _ _ _ us hl => match us, hl with | [_, _], _ => rfl⟩
  have Fnames := fun_mk (st := snames) lnames cnames knames
  have Dnames : Def K mg "_law_names" snames Pnames _ _ := ⟨Fnames, PySem.W.mg_of X G anames, Fnames.binds (ps := Pnames) fun _ _ _ _ _ _ us hl => match us, hl with | [_, _], _ => rfl⟩
  have Fscale := fun_mk (st := sscale) lscale cscale kscale
  have Dscale : Def K mg "_law_scale" sscale Pscale _ _ := ⟨Fscale, PySem.W.mg_of X G ascale, Fscale.binds (ps := Pscale) fun _ _ _ _ _ _ us hl => match us, hl with | [_], _ => rfl⟩
  have Fjoin := fun_mk (st := sjoin) ljoin cjoin kjoin
  have Djoin : Def K mg "_law_join" sjoin Pjoin _ _ := ⟨Fjoin, PySem.W.mg_of X G ajoin, Fjoin.binds (ps := Pjoin) fun _ _ _ _ _ _ us hl => match us, hl with | [_, _, _, _, _, _], _ => rfl⟩
  have Fserved := fun_mk (st := sserved) lserved cserved kserved
  have Dserved : Def K mg "_law_served" sserved Pserved _ _ := ⟨Fserved, PySem.W.mg_of X G aserved, Fserved.binds (ps := Pserved) fun _ _ _ _ _ _ us hl => match us, hl with | [_, _, _, _], _ => rfl⟩
  have Flaw := fun_mk (st := slaw) llaw claw klaw
  have Dlaw : Def K mg "law" slaw Plaw _ _ := ⟨Flaw, PySem.W.mg_of X G alaw, Flaw.binds (ps := Plaw) fun _ _ _ _ _ _ us hl => match us, hl with | [_], _ => rfl⟩
  let r : Ar := ⟨aRoom, fRoom_init, fRoom_head, fRoom_join, fRoom_serve, fRoom_leave, fRoom_waiting, fRoom_mark_of, fRoom_level, fRoom_scale, fRoom_len, fRoom_bool, fRoom_copy, pRoom_head, pRoom_level, pRoom_scale⟩
  have KR : Kr K mg r := ⟨⟨pgRoom, hdRoom, poRoom, saRoom⟩, nRoom_weights, nRoom_marks, nRoom_level, nRoom_scale, nRoom_waiting, ⟨atRoom_join, iRoom_join, kRoom_join⟩, ⟨atRoom_serve, iRoom_serve, kRoom_serve⟩, ⟨atRoom_leave, iRoom_leave, kRoom_leave⟩, ⟨atRoom_waiting, iRoom_waiting, kRoom_waiting⟩, ⟨atRoom_mark_of, iRoom_mark_of, kRoom_mark_of⟩, ⟨atRoom_copy, iRoom_copy, kRoom_copy⟩, ⟨atRoom_head, geRoom_head, taRoom_head, ⟨_, rcRoom_head⟩⟩, ⟨atRoom_level, geRoom_level, taRoom_level, ⟨_, rcRoom_level⟩⟩, ⟨atRoom_scale, geRoom_scale, taRoom_scale, ⟨_, rcRoom_scale⟩⟩, atRoom_len, iRoom_len, atRoom_bool, iRoom_bool, ⟨mkRoom, atRoom_init, iRoom_init, kpRoom⟩, PySem.W.mg_of X G aRoomG, PySem.W.mg_of X G xlcm⟩
  refine ⟨PySem.W.fnOf "law" "law" (defArgs slaw) (defBody slaw) (defScope slaw) .none kVlaw dclaw pmlaw anlaw cdlaw ctlaw, fun s v => .of_eq rfl, fun base _ _ => ?_⟩
  have Gcheck_count := ok_check_count (P := l.prog) (w := w) (base := base) Dcheck_count T
  have Gis_whole := ok_is_whole (P := l.prog) (w := w) (base := base) Dis_whole T
  have Gis_number := ok_is_number (P := l.prog) (w := w) (base := base) Dis_number T Dis_whole Gis_whole
  have Gis_name := ok_is_name (P := l.prog) (w := w) (base := base) Dis_name T
  have Ghas_name := ok_has_name (P := l.prog) (w := w) (base := base) Dhas_name T Dis_name Gis_name
  have Glook_up := ok_look_up (P := l.prog) (w := w) (base := base) Dlook_up T Dhas_name Ghas_name
  have Gleast_multiple := ok_least_multiple (P := l.prog) (w := w) (base := base) Dleast_multiple T KR
  have Gcheck_cost := ok_check_cost (P := l.prog) (w := w) (base := base) Dcheck_cost T Dis_number Gis_number
  have FRoom_init := fun_mk (st := sRoom_init) lRoom_init cRoom_init kRoom_init
  have BRoom_init := FRoom_init.binds (ps := PRoom_init) fun _ _ _ _ _ _ us hl => match us, hl with | [_, _], _ => rfl
  have GRoom_init := ok_Room_init (P := l.prog) (w := w) (base := base) FRoom_init T KR Dleast_multiple Gleast_multiple
  have IRoom : FnR l.prog w K mg base CX0 2 fRoom_init (spRoom_init r) := LC.raw0 GRoom_init BRoom_init
  have FRoom_head := fun_mk (st := sRoom_head) lRoom_head cRoom_head kRoom_head
  have BRoom_head := FRoom_head.binds (ps := PRoom_head) fun _ _ _ _ _ _ us hl => match us, hl with | [_], _ => rfl
  have GRoom_head := ok_Room_head (P := l.prog) (w := w) (base := base) FRoom_head T KR
  have FRoom_level := fun_mk (st := sRoom_level) lRoom_level cRoom_level kRoom_level
  have BRoom_level := FRoom_level.binds (ps := PRoom_level) fun _ _ _ _ _ _ us hl => match us, hl with | [_], _ => rfl
  have GRoom_level := ok_Room_level (P := l.prog) (w := w) (base := base) FRoom_level T KR
  have FRoom_len := fun_mk (st := sRoom_len) lRoom_len cRoom_len kRoom_len
  have BRoom_len := FRoom_len.binds (ps := PRoom_len) fun _ _ _ _ _ _ us hl => match us, hl with | [_], _ => rfl
  have GRoom_len := ok_Room_len (P := l.prog) (w := w) (base := base) FRoom_len T KR
  have Glen : FnR l.prog w K mg base CX0 1 fRoom_len (spRoom_len r) := LC.raw0 GRoom_len BRoom_len
  have FRoom_bool := fun_mk (st := sRoom_bool) lRoom_bool cRoom_bool kRoom_bool
  have BRoom_bool := FRoom_bool.binds (ps := PRoom_bool) fun _ _ _ _ _ _ us hl => match us, hl with | [_], _ => rfl
  have GRoom_bool := ok_Room_bool (P := l.prog) (w := w) (base := base) FRoom_bool T KR
  have Gbool : FnR l.prog w K mg base CX0 1 fRoom_bool (spRoom_bool r) := LC.raw0 GRoom_bool BRoom_bool
  have FRoom_mark_of := fun_mk (st := sRoom_mark_of) lRoom_mark_of cRoom_mark_of kRoom_mark_of
  have BRoom_mark_of := FRoom_mark_of.binds (ps := PRoom_mark_of) fun _ _ _ _ _ _ us hl => match us, hl with | [_, _], _ => rfl
  have GRoom_mark_of := ok_Room_mark_of (P := l.prog) (w := w) (base := base) FRoom_mark_of T KR Dlook_up Glook_up
  have FRoom_waiting := fun_mk (st := sRoom_waiting) lRoom_waiting cRoom_waiting kRoom_waiting
  have BRoom_waiting := FRoom_waiting.binds (ps := PRoom_waiting) fun _ _ _ _ _ _ us hl => match us, hl with | [_], _ => rfl
  have GRoom_waiting := ok_Room_waiting (P := l.prog) (w := w) (base := base) FRoom_waiting T KR
  have FRoom_join : FunD K "join" "Room.join" (defArgs sRoom_join) (defBody sRoom_join) (defScope sRoom_join) [V.non] [] fRoom_join _ := ⟨⟨_, _, _, _, _, _, _, _, _, _, rfl, lRoom_join, cRoom_join, .inr ⟨List.cons_ne_nil _ _, Tj, _, [.none], nTj, rfl, lTj, by rw [vTj], .cons rfl .nil⟩, .inl rfl⟩, kRoom_join⟩
  obtain ⟨ds0, hv0, BRoom_join⟩ := FRoom_join.binds1 (ps := PRoom_join) 4 1 (List.cons_ne_nil _ _) rfl fun _ _ _ _ _ _ _ us its hl hi => match us, its, hl, hi with | [_, _, _, _], [_], _, _ => ⟨_, rfl, rfl⟩
  cases hv0
  obtain ⟨ds1, hv1, hb1⟩ := FRoom_join.binds1 (ps := PRoom_join) 3 0 (List.cons_ne_nil _ _) rfl fun _ _ _ _ _ _ _ us its hl hi => match us, its, hl, hi with | [_, _, _], [_], _, _ => ⟨_, rfl, rfl⟩
  obtain ⟨u1, rfl, ru1⟩ := hv1.one
  have GRoom_join := ok_Room_join (P := l.prog) (w := w) (base := base) FRoom_join T KR Dcheck_count Gcheck_count Dlook_up Glook_up Dcheck_cost Gcheck_cost
  have FRoom_serve := fun_mk (st := sRoom_serve) lRoom_serve cRoom_serve kRoom_serve
  have BRoom_serve := FRoom_serve.binds (ps := PRoom_serve) fun _ _ _ _ _ _ us hl => match us, hl with | [_], _ => rfl
  have GRoom_serve := ok_Room_serve (P := l.prog) (w := w) (base := base) FRoom_serve T KR GRoom_head BRoom_head
  have FRoom_leave := fun_mk (st := sRoom_leave) lRoom_leave cRoom_leave kRoom_leave
  have BRoom_leave := FRoom_leave.binds (ps := PRoom_leave) fun _ _ _ _ _ _ us hl => match us, hl with | [_, _], _ => rfl
  have GRoom_leave := ok_Room_leave (P := l.prog) (w := w) (base := base) FRoom_leave T KR
  have Gbag := ok_bag (P := l.prog) (w := w) (base := base) Dbag T
  have Gdraw := ok_draw (P := l.prog) (w := w) (base := base) Ddraw T
  have Gof := ok_of (P := l.prog) (w := w) (base := base) Dof T Ddraw Gdraw
  have Gnames := ok_names (P := l.prog) (w := w) (base := base) Dnames T Dof Gof
  have Gscale := ok_scale (P := l.prog) (w := w) (base := base) Dscale T
  have Gjoin := ok_join (P := l.prog) (w := w) (base := base) Djoin T KR GRoom_join BRoom_join Ddraw Gdraw
  have Gserved := ok_served (P := l.prog) (w := w) (base := base) Dserved T KR GRoom_mark_of BRoom_mark_of GRoom_level BRoom_level GRoom_serve BRoom_serve
  have Glaw := ok_law (P := l.prog) (w := w) (base := base) Dlaw T KR IRoom GRoom_join BRoom_join GRoom_mark_of BRoom_mark_of GRoom_level BRoom_level GRoom_serve BRoom_serve GRoom_head BRoom_head GRoom_leave BRoom_leave Glen Dbag Gbag Ddraw Gdraw Dof Gof Dnames Gnames Dscale Gscale Djoin Gjoin Dserved Gserved
  exact Glaw
theorem walk {l : PySem.W.OpenLaw} {q : Program} {loose : List Str} {XP : (Str → Option Value) → Heap → Prop} {YP : World → Heap → Prop} {d : DefRec} {K : Params → PySem.W.Frag} (hn : l.most = some 63) (hdf : d.params.defaults = [])
    (hY : ∀ (w : World) (h : Heap), YP w h → (K w.params).In h)
    (F : ∀ (w : World) (mg : Str → Option Value) (fa : Addr) (h : Heap), (K w.params).In h → h.Ns mainGlobals mg → mg d.name = some (.ref fa) →
      ∃ fd : FuncData, (∀ (s : Shared) (u : Value), BindsTo s fd ⟨[u], []⟩ [("_law_script", u)]) ∧ ∀ base : Heap, (K w.params).In base → base.Ns mainGlobals mg → FnOk l.prog w (K w.params) mg base CX0 6 fa fd ["_law_script"] (splaw (K w.params))) :
    PySem.W.WalkO q loose XP YP l.row.toRowW d [] (fun f vs => PySem.call f vs) :=
  L2.walk_of (n := 63) (k := 6) (x := "_law_script") (CX := fun _ => CX0) (sp := fun w => splaw (K w.params)) hn (by decide) hdf ⟨rfl, by decide, by decide⟩ hY F (fun _ _ a ns hl _ hS => ⟨a, ns, rfl, hS, hl, fun _ => rfl⟩) fun _ _ _ _ _ z => z
end k48
open PySem PySem.W PyProof.Rows
set_option maxRecDepth 100000 in
set_option maxHeartbeats 0 in
theorem PySem.Challenge.cw_surelet_k48_whole_fair_turns_holds : PySem.Challenge.rw_surelet_k48_whole_fair_turns.Holds := by
  w_on; o_law; k_head; (case hw => w_witness2)
  k_fill
  refine k48.walk (l := PySem.Challenge.rw_surelet_k48_whole_fair_turns) rfl rfl (fun w h Y => PySem.W.kIn_of Y) ?F
  case F =>
    intro w mg fa h KX G hmg
    refine' k48.all_mk KX G hmg ?acheck_count ?lcheck_count ?ccheck_count ?kcheck_count ?ais_whole ?lis_whole ?cis_whole ?kis_whole ?ais_number ?lis_number ?cis_number ?kis_number ?ais_name ?lis_name ?cis_name ?kis_name ?ahas_name ?lhas_name ?chas_name ?khas_name ?alook_up ?llook_up ?clook_up ?klook_up ?aleast_multiple ?lleast_multiple ?cleast_multiple ?kleast_multiple ?acheck_cost ?lcheck_cost ?ccheck_cost ?kcheck_cost ?abag ?lbag ?cbag ?kbag ?adraw ?ldraw ?cdraw ?kdraw ?aof ?lof ?cof ?kof ?anames ?lnames ?cnames ?knames ?ascale ?lscale ?cscale ?kscale ?ajoin ?ljoin ?cjoin ?kjoin ?aserved ?lserved ?cserved ?kserved ?alaw ?llaw ?claw ?klaw ?zall ?zbool ?zdict ?zenumerate ?zint ?zisinstance ?zlen ?zlist ?zmax ?zmin ?zrange ?zsorted ?zstr ?ztuple ?zzip ?yDIGITS ?yLETTERS ?yMOST_COST ?yMOST_WAITING ?aRoomG ?pgRoom ?hdRoom ?poRoom ?saRoom ?mkRoom ?kpRoom ?nRoom_weights ?nRoom_marks ?nRoom_level ?nRoom_scale ?nRoom_waiting ?atRoom_init ?lRoom_init ?cRoom_init ?kRoom_init ?iRoom_init ?atRoom_head ?geRoom_head ?taRoom_head ?rcRoom_head ?lRoom_head ?cRoom_head ?kRoom_head ?iRoom_head ?atRoom_join ?lRoom_join ?cRoom_join ?kRoom_join ?iRoom_join ?lTj ?vTj ?atRoom_serve ?lRoom_serve ?cRoom_serve ?kRoom_serve ?iRoom_serve ?atRoom_leave ?lRoom_leave ?cRoom_leave ?kRoom_leave ?iRoom_leave ?atRoom_waiting ?lRoom_waiting ?cRoom_waiting ?kRoom_waiting ?iRoom_waiting ?atRoom_mark_of ?lRoom_mark_of ?cRoom_mark_of ?kRoom_mark_of ?iRoom_mark_of ?atRoom_level ?geRoom_level ?taRoom_level ?rcRoom_level ?lRoom_level ?cRoom_level ?kRoom_level ?iRoom_level ?atRoom_scale ?geRoom_scale ?taRoom_scale ?rcRoom_scale ?atRoom_len ?lRoom_len ?cRoom_len ?kRoom_len ?iRoom_len ?atRoom_bool ?lRoom_bool ?cRoom_bool ?kRoom_bool ?iRoom_bool ?atRoom_copy ?kRoom_copy ?iRoom_copy ?xlcm
    (case acheck_count => k_is)
    (case lcheck_count => k_is)
    (case ccheck_count => k_is)
    (case kcheck_count => k_is)
    (case ais_whole => k_is)
    (case lis_whole => k_is)
    (case cis_whole => k_is)
    (case kis_whole => k_is)
    (case ais_number => k_is)
    (case lis_number => k_is)
    (case cis_number => k_is)
    (case kis_number => k_is)
    (case ais_name => k_is)
    (case lis_name => k_is)
    (case cis_name => k_is)
    (case kis_name => k_is)
    (case ahas_name => k_is)
    (case lhas_name => k_is)
    (case chas_name => k_is)
    (case khas_name => k_is)
    (case alook_up => k_is)
    (case llook_up => k_is)
    (case clook_up => k_is)
    (case klook_up => k_is)
    (case aleast_multiple => k_is)
    (case lleast_multiple => k_is)
    (case cleast_multiple => k_is)
    (case kleast_multiple => k_is)
    (case acheck_cost => k_is)
    (case lcheck_cost => k_is)
    (case ccheck_cost => k_is)
    (case kcheck_cost => k_is)
    (case abag => k_is)
    (case lbag => k_is)
    (case cbag => k_is)
    (case kbag => k_is)
    (case adraw => k_is)
    (case ldraw => k_is)
    (case cdraw => k_is)
    (case kdraw => k_is)
    (case aof => k_is)
    (case lof => k_is)
    (case cof => k_is)
    (case kof => k_is)
    (case anames => k_is)
    (case lnames => k_is)
    (case cnames => k_is)
    (case knames => k_is)
    (case ascale => k_is)
    (case lscale => k_is)
    (case cscale => k_is)
    (case kscale => k_is)
    (case ajoin => k_is)
    (case ljoin => k_is)
    (case cjoin => k_is)
    (case kjoin => k_is)
    (case aserved => k_is)
    (case lserved => k_is)
    (case cserved => k_is)
    (case kserved => k_is)
    (case alaw => k_is)
    (case llaw => k_is)
    (case claw => k_is)
    (case klaw => k_is)
    (case zall => k_is)
    (case zbool => k_is)
    (case zdict => k_is)
    (case zenumerate => k_is)
    (case zint => k_is)
    (case zisinstance => k_is)
    (case zlen => k_is)
    (case zlist => k_is)
    (case zmax => k_is)
    (case zmin => k_is)
    (case zrange => k_is)
    (case zsorted => k_is)
    (case zstr => k_is)
    (case ztuple => k_is)
    (case zzip => k_is)
    (case yDIGITS => k_is)
    (case yLETTERS => k_is)
    (case yMOST_COST => k_is)
    (case yMOST_WAITING => k_is)
    (case aRoomG => k_is)
    (case pgRoom => k_is)
    (case hdRoom => k_is)
    (case poRoom => k_is)
    (case saRoom => k_is)
    (case mkRoom => k_is)
    (case kpRoom => k_is)
    (case nRoom_weights => k_is)
    (case nRoom_marks => k_is)
    (case nRoom_level => k_is)
    (case nRoom_scale => k_is)
    (case nRoom_waiting => k_is)
    (case atRoom_init => k_is)
    (case lRoom_init => k_is)
    (case cRoom_init => k_is)
    (case kRoom_init => k_is)
    (case iRoom_init => k_is)
    (case atRoom_head => k_is)
    (case geRoom_head => k_is)
    (case taRoom_head => k_is)
    (case rcRoom_head => k_is)
    (case lRoom_head => k_is)
    (case cRoom_head => k_is)
    (case kRoom_head => k_is)
    (case iRoom_head => k_is)
    (case atRoom_join => k_is)
    (case lRoom_join => k_is)
    (case cRoom_join => k_is)
    (case kRoom_join => k_is)
    (case iRoom_join => k_is)
    (case lTj => k_is)
    (case vTj => rfl)
    (case atRoom_serve => k_is)
    (case lRoom_serve => k_is)
    (case cRoom_serve => k_is)
    (case kRoom_serve => k_is)
    (case iRoom_serve => k_is)
    (case atRoom_leave => k_is)
    (case lRoom_leave => k_is)
    (case cRoom_leave => k_is)
    (case kRoom_leave => k_is)
    (case iRoom_leave => k_is)
    (case atRoom_waiting => k_is)
    (case lRoom_waiting => k_is)
    (case cRoom_waiting => k_is)
    (case kRoom_waiting => k_is)
    (case iRoom_waiting => k_is)
    (case atRoom_mark_of => k_is)
    (case lRoom_mark_of => k_is)
    (case cRoom_mark_of => k_is)
    (case kRoom_mark_of => k_is)
    (case iRoom_mark_of => k_is)
    (case atRoom_level => k_is)
    (case geRoom_level => k_is)
    (case taRoom_level => k_is)
    (case rcRoom_level => k_is)
    (case lRoom_level => k_is)
    (case cRoom_level => k_is)
    (case kRoom_level => k_is)
    (case iRoom_level => k_is)
    (case atRoom_scale => k_is)
    (case geRoom_scale => k_is)
    (case taRoom_scale => k_is)
    (case rcRoom_scale => k_is)
    (case atRoom_len => k_is)
    (case lRoom_len => k_is)
    (case cRoom_len => k_is)
    (case kRoom_len => k_is)
    (case iRoom_len => k_is)
    (case atRoom_bool => k_is)
    (case lRoom_bool => k_is)
    (case cRoom_bool => k_is)
    (case kRoom_bool => k_is)
    (case iRoom_bool => k_is)
    (case atRoom_copy => k_is)
    (case kRoom_copy => k_is)
    (case iRoom_copy => k_is)
    (case xlcm => k_is)