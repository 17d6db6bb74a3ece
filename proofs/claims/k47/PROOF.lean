import PyProof.Rows.All
import Wide.All
import OpenK.AllK
import Wide.FinOn
import HandS.ForMost
import HandS.IsInst
import HandS.Evl
import HandS.Zip
import HandS.ExcInit
import HandS.ExcIs
import HandS.Walk
import KE.KExcIs
import KE.KxText
import HandS.Nested
import HandS.Star
import HandS.More
import HandS.MethStar
import KE.KSuper
import HandS.FStr
import HandS.Gcd
import KE.KMathGC
import HandS.TupSets
import HandS.RaiseMore
import HandS.TupAny
import HandS.SetFor
import HandS.Deep
import HandS.Dict
import HandS.DictComp
import HandS.Property
import HandS.Finally
import HandS.TupLe
import KE.DataFind
import KE.DatumMoreOrd
import KE.KDictCopyH
import KE.KCallOwn
import HandS.SlotsOwn
import HandS.WordsDict
import HandS.Defaults
import PySem.Challenge.RW_surelet_k47_whole_marks_of_a_room
set_option Elab.async false
set_option linter.all false
set_option maxRecDepth 100000
set_option maxHeartbeats 4000000
namespace LC
open PySem L2
/-- a def as it stands behind the top: its text, its name, how its arguments bind -/
structure Def (K : PySem.W.Frag) (mg : Str → Option Value) (x : Str) (st : Stmt) (ps : List Str) (f : Addr) (fd : FuncData) : Prop where
  F : Fun K x x st f fd
  g : mg x = some (.ref f)
  b : Binds K fd ps []
/-- all but the bag at g is as it was -/
def Kp (g : Addr) (H H' : Hp) : Prop := ∀ b o, b ≠ g → H b = some o → H' b = some o
theorem Kp.refl (g : Addr) (H : Hp) : Kp g H H := fun _ _ _ h => h
theorem Kp.trans {g : Addr} {H H1 H2 : Hp} (a : Kp g H H1) (b : Kp g H1 H2) : Kp g H H2 := fun c o n h => b c o n (a c o n h)
theorem Kp.upd {g : Addr} {H H1 : Hp} {p : Addr} {o : HO} (a : Kp g H H1) (h : H1 p = none) : Kp g H (upd H1 p o) := fun c u n e => by
  have q := a c u n e
  rw [upd_ne (ne_of_none q h)]
  exact q
theorem Kp.bag {g : Addr} {H H1 : Hp} {o : HO} (a : Kp g H H1) : Kp g H (L2.upd H1 g o) := fun c u n e => by
  rw [upd_ne n]
  exact a c u n e
theorem Kp.free {g : Addr} {H H' : Hp} (e : Kp g H H') {l : Addr} (hl : l ≠ g) (h : H' l = Option.none) : H l = Option.none := by
  cases q : H l with
  | none => rfl
  | some o =>
    rw [e l o hl q] at h
    cases h
/-- the bag of draws at g, the script's copy at l -/
def Bag (l : Addr) (H : Hp) (g : Addr) : Prop := ∃ (ns : List Int) (i d s c : Int), H g = some (.lst [.ref l, .int i, .int d, .int s, .int c]) ∧ l ≠ g ∧ H l = some (.lst (ns.map V.int)) ∧
  0 ≤ i ∧ i ≤ ns.length ∧ 0 ≤ d ∧ 0 ≤ s ∧ s < 2147483629
theorem Bag.there {l : Addr} {H : Hp} {g : Addr} (B : Bag l H g) : (∃ xs, H g = some (.lst xs)) ∧ ∃ xs, H l = some (.lst xs) := by
  obtain ⟨ns, i, d, s, c, h, _, h2, _⟩ := B
  exact ⟨⟨_, h⟩, ⟨_, h2⟩⟩
theorem Bag.ne {l : Addr} {H : Hp} {g p : Addr} (B : Bag l H g) (h : H p = none) : p ≠ g ∧ p ≠ l := by
  obtain ⟨⟨xs, q⟩, ⟨ys, r⟩⟩ := B.there
  refine ⟨fun e => ?_, fun e => ?_⟩
  · rw [e, q] at h
    cases h
  · rw [e, r] at h
    cases h
theorem Bag.mut {l : Addr} {H : Hp} {g p : Addr} {o : HO} (B : Bag l H g) (h : p ≠ g) (h' : p ≠ l) : Bag l (L2.upd H p o) g := by
  obtain ⟨ns, i, d, s, c, h1, h2, h3, r⟩ := B
  exact ⟨ns, i, d, s, c, by rw [upd_ne (Ne.symm h)]; exact h1, h2, by rw [upd_ne (Ne.symm h')]; exact h3, r⟩
/-- from H0 to H: all but the bag stands, things came beside it, the bag is one -/
structure Ok (g l : Addr) (H0 H : Hp) : Prop where
  b0 : Bag l H0 g
  kp : Kp g H0 H
  bag : Bag l H g
theorem Ok.refl {g l : Addr} {H : Hp} (B : Bag l H g) : Ok g l H H := ⟨B, Kp.refl g H, B⟩
theorem Ok.trans {g l : Addr} {H H1 H2 : Hp} (a : Ok g l H H1) (b : Ok g l H1 H2) : Ok g l H H2 := ⟨a.b0, a.kp.trans b.kp, b.bag⟩
theorem Ok.new {g l p : Addr} {H H1 : Hp} {o : HO} (a : Ok g l H H1) (h : H1 p = none) : Ok g l H (L2.upd H1 p o) := ⟨a.b0, a.kp.upd h, a.bag.mut (a.bag.ne h).1 (a.bag.ne h).2⟩
theorem Ok.free {g l p : Addr} {H H1 : Hp} (a : Ok g l H H1) (h : H1 p = none) : H p = none := a.kp.free (a.bag.ne h).1 h
theorem Ok.mut {g l p : Addr} {H H1 : Hp} {o : HO} (a : Ok g l H H1) (h : H p = none) : Ok g l H (L2.upd H1 p o) :=
  ⟨a.b0, fun b u n e => by rw [upd_ne (ne_of_none e h)]; exact a.kp b u n e, a.bag.mut (a.b0.ne h).1 (a.b0.ne h).2⟩
theorem Ok.at_ {g l p : Addr} {H H1 : Hp} {o : HO} (a : Ok g l H H1) (h : H p = some o) (n : p ≠ g) : H1 p = some o := a.kp p o n h
theorem SqL.kp {K : PySem.W.Frag} {g : Addr} {H H' : Hp} {a : Addr} {xs : List V} (e : Kp g H H') (n : a ≠ g) (h : SqL K H a xs) : SqL K H' a xs := by
  rcases h with (h | ⟨o, h⟩) | h
  · exact .inl (.inl (e _ _ n h))
  · exact .inl (.inr ⟨o, e _ _ n h⟩)
  · exact .inr h
theorem SqT.kp {K : PySem.W.Frag} {g : Addr} {H H' : Hp} {a : Addr} {xs : List V} (e : Kp g H H') (n : a ≠ g) (h : SqT K H a xs) : SqT K H' a xs := by
  rcases h with (h | ⟨o, h⟩) | h
  · exact .inl (.inl (e _ _ n h))
  · exact .inl (.inr ⟨o, e _ _ n h⟩)
  · exact .inr h
theorem ite_b {c : Bool} {A B : Prop} (h1 : c = true → A) (h2 : c = false → B) : if c = true then A else B := by
  cases c with
  | true => exact iteT (h1 rfl)
  | false => exact iteF (h2 rfl)
/-- a test of two ints -/
theorem ite_d {p : Prop} [Decidable p] {A B : Prop} (h1 : p → A) (h2 : ¬ p → B) : if decide p = true then A else B := by
  by_cases h : p
  · rw [decide_eq_true h]
    exact iteT (h1 h)
  · rw [decide_eq_false h]
    exact iteF (h2 h)
theorem ite_eq {i j : Int} {A B : Prop} (h1 : i = j → A) (h2 : i ≠ j → B) : if decide (V.int i = V.int j) = true then A else B :=
  ite_d (fun h => h1 (V.int.inj h)) fun h => h2 fun e => h (by rw [e])
section
variable {X : Cx} {CX : CXT} {k : Nat} {f : Addr} {fd : FuncData} {ps ks : List Str} {sp : Sp} {E : XK} {x : Str} {p pos : Pos} {kws : List Keyword} {tk : TA} {g : List Value → List Value → List Value} {gV : List V → List V → List V}
theorem pe_callK0 (F : FnOk X.prog X.w X.K X.mg X.base CX k f fd ps sp) (hr : Room k X.A) (hg : Gl X x) (hm : X.mg x = some (.ref f)) (hk : PySem.W.keepIn X.K (.ref f) = true) (hb : KBinds X.K fd ps ks g gV) (hx : Passes CX X E)
    (hkw : PK X kws tk) (hall : (backToKw pos (keywordEach kws X.env)).all (·.1.isSome) = true := by rfl) (hks : (backToKw pos (keywordEach kws X.env)).filterMap (·.1) = ks := by rfl)
    (hdb : (x == ("__debug__" : Str)) = false := by decide) (hpl : ((backTo pos (starEach [] X.env)).any (·.1) || (backToKw pos (keywordEach kws X.env)).any (·.1.isNone)) = false := by rfl) :
    PE X (.Call (.Name x p) [] kws pos) (tCallK sp gV E tNil tk) := by
  refine ⟨fun pins s σ H Q I h => ?_⟩
  refine wpAny_Call_Name_kw (ld_glob I hg hm ?_ hdb)
  refine PySem.W.callWith_KW0 (h₀ := X.base) I.ok.mod.kin hk hall ?_ hpl
  refine thn (hkw.run pos pins s σ H _ I h) fun ws s2 ⟨zs, H2, I2, rz, q2⟩ => ⟨I2.kIn, ?_⟩
  rw [hks]
  exact run_fnk (us := []) F hr hb hx I2 .nil rz q2
end
end LC
namespace LC
open PySem L2
theorem cut_ints (ns : List Int) (lo hi : Option Int) : ∃ ms : List Int, cutV (ns.map V.int) lo hi = ms.map V.int ∧ ms.length ≤ ns.length := by
  refine ⟨(ns.drop (HT.sIx ns.length 0 lo)).take (HT.sIx ns.length ns.length hi - HT.sIx ns.length 0 lo), ?_, ?_⟩
  · unfold cutV
    rw [List.length_map, ← List.map_drop, ← List.map_take]
  · rw [List.length_take, List.length_drop]
    omega
theorem same_new {H : Hp} {p : Addr} {o : HO} (h : H p = none) : Same H (upd H p o) := fun b u e => by
  rw [upd_ne (ne_of_none e h)]
  exact e
theorem int_of {ns : List Int} {i : Nat} {y : V} (h : (ns.map V.int)[i]? = some y) : ∃ u, y = V.int u := by
  rw [List.getElem?_map] at h
  cases e : ns[i]? with
  | none =>
    rw [e] at h
    cases h
  | some u =>
    rw [e] at h
    exact ⟨u, (Option.some.inj h).symm⟩
end LC

namespace LC
theorem fmod_nn (a : Int) {n : Int} (h : 0 < n) : 0 ≤ a.fmod n := by
  rw [Int.fmod_eq_emod_of_nonneg _ (Int.le_of_lt h)]
  exact Int.emod_nonneg _ (by omega)
theorem fmod_lt (a : Int) {n : Int} (h : 0 < n) : a.fmod n < n := by
  rw [Int.fmod_eq_emod_of_nonneg _ (Int.le_of_lt h)]
  exact Int.emod_lt_of_pos _ h
end LC

namespace LC
open PySem L2
/-- a value of any of the drawn kinds; C: the error's class -/
inductive Th (C g : Addr) (H : Hp) : V → Prop where
  | non : Th C g H .non
  | bl (b : Bool) : Th C g H (.bl b)
  | int (i : Int) : Th C g H (.int i)
  | str (z : Str) (h : z.length ≤ 1000000) : Th C g H (.str z)
  | lst {a : Addr} {xs : List V} (h : H a = some (.lst xs)) (n : a ≠ g) : Th C g H (.ref a)
  | tup {a : Addr} {xs : List V} (h : H a = some (.tup xs)) (n : a ≠ g) : Th C g H (.ref a)
  | dK {a : Addr} {kvs : List (Key × V)} (h : H a = some (.dK kvs)) (n : a ≠ g) : Th C g H (.ref a)
  | exo {a d : Addr} {fs : List (Str × V)} (h : H a = some (exo a C (some d))) (n : a ≠ g) (hd : H d = some (exd d fs)) (nd : d ≠ g) : Th C g H (.ref a)
theorem Th.kp {C g : Addr} {H H' : Hp} {v : V} (r : Kp g H H') (t : Th C g H v) : Th C g H' v := by
  cases t with
  | non => exact .non
  | bl b => exact .bl b
  | int i => exact .int i
  | str z h => exact .str z h
  | lst h n => exact .lst (r _ _ n h) n
  | tup h n => exact .tup (r _ _ n h) n
  | dK h n => exact .dK (r _ _ n h) n
  | exo h n hd nd => exact .exo (r _ _ n h) n (r _ _ nd hd) nd
theorem Th.list {C g l : Addr} {H0 H : Hp} {p : Addr} {xs : List V} (a : Ok g l H0 H) (h : H p = none) : Th C g (upd H p (.lst xs)) (.ref p) := .lst upd_same (a.bag.ne h).1
theorem Th.tupl {C g l : Addr} {H0 H : Hp} {p : Addr} {xs : List V} (a : Ok g l H0 H) (h : H p = none) : Th C g (upd H p (.tup xs)) (.ref p) := .tup upd_same (a.bag.ne h).1
theorem upd_kp {g l : Addr} {H0 H : Hp} {p : Addr} {o : HO} (a : Ok g l H0 H) (h : H p = none) : Kp g H (upd H p o) := (Ok.new (Ok.refl a.bag) h).kp
/-- a comprehension over a text whose element leaves the heap -/
theorem lc_text {z : Str} {j : Nat} {te : TE} {vs : List Nat} {σ : L2.St} {H1 : Hp} {D : Addr} {Qd : Hp → Prop} (f : Nat → V) (hD : H1 D = none) (hz : z.length ≤ 1000000) (hw : ∀ x, wipe ((wipe σ vs).set j (some x)) vs = wipe σ vs)
    (he : ∀ (c : Nat) (H : Hp) (Q : VK), c ∈ z.cps.toList → Q (f c) H → te ((wipe σ vs).set j (some (.str ⟨#[c]⟩))) H Q) (hd : Qd (upd H1 D (.lst (z.cps.toList.map f)))) :
    ∃ W : Nat → Nat → Hp → Prop, (∃ m, W 0 m (upd H1 D (.lst []))) ∧ ∀ i m H, W i m H →
      ((Its z).stop i H ∧ Qd H) ∨ ((Its z).go i H ∧ ∃ Nx : Hp → Prop, (∀ H', Nx H' → ∃ m', m' < m ∧ W (i + 1) m' H') ∧ ∀ x H', (Its z).yld i H x H' → gName j x (wipe σ vs) H' fun σ2 H2 => wipe σ2 vs = wipe σ vs ∧ tYes σ2 H2 fun b H3 =>
        if b = true then te σ2 H3 fun y H4 => ∃ acc, H4 D = some (.lst acc) ∧ acc.length < sizeLine ∧ Nx (upd H4 D (.lst (acc ++ [y]))) else Nx H3) := by
  have hn : z.cps.toList.length = z.cps.size := Array.length_toList
  refine lc_it (walk_str (z := z)) (fun i H => i ≤ z.cps.size ∧ H = upd H1 D (.lst ((z.cps.toList.take i).map f))) ⟨Nat.zero_le _, rfl⟩ (fun _ _ _ _ => trivial) ?_ ?_
  · rintro i x H H' hi ⟨_, rfl⟩ ⟨rfl, c, hc, rfl⟩
    refine ⟨hw _, ?_⟩
    have hc' : z.cps.toList[i]? = some c := by rw [Array.getElem?_toList]; exact hc
    refine he c _ _ (List.mem_of_getElem? hc') ?_
    refine ⟨_, upd_same, ?_, hi, ?_⟩
    · rw [List.length_map, List.length_take]
      have e1 : z.cps.size = z.length := rfl
      exact Nat.lt_of_le_of_lt (Nat.min_le_right _ _) (Nat.lt_of_le_of_lt (by rw [hn, e1]; exact hz) (by decide : 1000000 < sizeLine))
    · rw [upd_upd, List.take_add_one, hc', List.map_append]
      rfl
  · rintro H ⟨_, rfl⟩
    rw [← hn, List.take_length]
    exact hd
end LC
namespace LC
open PySem L2 PySem.Spec PyProof.Rows
/-- C(e, ..) as a value, C an own error class over ValueError with its own __init__, which keeps sp -/
def tMkV (C : Addr) (sp : Sp) (ta : TA) : TE := fun σ H Q => ta σ H fun vs H1 => vs.length ≤ 1000 ∧ ∀ a, H1 a = none → sp (.ref a :: vs) (upd H1 a (exo a C none)) (fun v H2 => v = .non ∧ Q (.ref a) H2) (fun _ _ _ => False)
section
variable {X : Cx} {e : Expr} {es : List Expr} {ta : TA} {p pos : Pos}
theorem pe_oexV {CX : CXT} {x : Str} {C fI : Addr} {k : Nat} {fd : FuncData} {ps : List Str} {sp : Sp} (T : OexC X.K C) (iC : PySem.W.findIn X.K (.ref C) "__init__" = some (some (.ref fI))) (tI : PySem.W.typeIn X.K (.ref fI) = some (.type "function"))
    (F1 : FnOk X.prog X.w X.K X.mg X.base CX k fI fd ps sp) (hr : Room (k + 1) X.A) (hb : Binds X.K fd ps []) (hx : Passes CX X (fun _ _ _ => False)) (hg : Gl X x) (hm : X.mg x = some (.ref C)) (ha : PA X (e :: es) ta)
    (hdb : (x == ("__debug__" : Str)) = false := by decide) (he : starEach (e :: es) X.env = (false, eval e X.env) :: starEach es X.env := by rfl) (hpl : (backTo pos (starEach es X.env)).any (·.1) = false := by rfl) :
    PE X (.Call (.Name x p) (e :: es) [] pos) (tMkV C sp ta) := by
  refine ⟨fun pins s σ H Q I h => ?_⟩
  obtain ⟨nm, q, N, bs, bm, sn, sub, ab, col, dd, k0, k1, k2, k3, k5, hC, hbm⟩ := T.cls
  refine wpAny_Call_Name_kw (ld_glob I hg hm ?_ hdb)
  refine PySem.W.callWith_K (h₀ := X.base) I.ok.mod.kin T.kC (thn (ha.run pos pins s σ H _ I h) fun us s1 ⟨vs, H1, I1, r1, hz, q1⟩ => ⟨I1.kIn, ?_⟩) he hpl
  show wpAny _ _ (call (.ref C) us) _ _ _
  obtain ⟨hp, g, dr, tk, os⟩ := s1
  have hsz : hp.objs.size ≤ hp.objs.size + 1 := Nat.le_succ _
  have hn : H1 (hp.objs.size + 1) = none := I1.hok.fresh hsz
  have hq := q1 (hp.objs.size + 1) hn
  have kk : ∀ b o, hp.get? b = some o → ((hp.push (PySem.W.kdv_tup us)).push (PySem.HandSPX.excO C hp.objs.size)).get? b = some o := fun b o e => Heap.get?_push_of_some _ (Heap.get?_push_of_some _ e)
  have hget : ((hp.push (PySem.W.kdv_tup us)).push (PySem.HandSPX.excO C hp.objs.size)).get? (hp.objs.size + 1) = some (PySem.HandSPX.excO C hp.objs.size) := by heap_get
  have I2 : L2.Inv X pins σ (upd H1 (hp.objs.size + 1) (exo (hp.objs.size + 1) C none)) ⟨(hp.push (PySem.W.kdv_tup us)).push (PySem.HandSPX.excO C hp.objs.size), g, dr, tk, os⟩ :=
    I1.laid (t' := tk) (a := hp.objs.size + 1) (o := exo (hp.objs.size + 1) C none) (h' := (hp.push (PySem.W.kdv_tup us)).push (PySem.HandSPX.excO C hp.objs.size)) kk hsz (exo_ok hget)
  have r2 : Vals (V.ref (hp.objs.size + 1) :: vs) (Value.ref (hp.objs.size + 1) :: us) := .cons rfl r1
  have hl : (Value.ref (hp.objs.size + 1) :: us ++ []).length = ps.length := by
    have e := r2.length
    rw [F1.len _ _ _ _ hq] at e
    rw [List.append_nil]
    exact e.symm
  have hus : us.length ≤ sizeLine := by
    rw [← Paired.length r1, sizeLine_eq]
    omega
  have hbb := hb _ (Value.ref (hp.objs.size + 1) :: us) I2.kIn hl
  rw [List.append_nil] at hbb
  refine wpAny_call (PySem.HandSPX.call_own F.excBase_ValueError (fun Y => PySem.HandSPX.refsVE_contains Y bm hbm) (I1.kIn _ _ hC) (PySem.W.looks_findIn I1.kIn iC) (fun self => PySem.W.bind_fn I1.kIn self tI) hus
    (codeAny_mono (F1.run _ X.stack _ _ ⟨Value.ref (hp.objs.size + 1) :: us, []⟩ (Value.ref (hp.objs.size + 1) :: us) _ _ (fun _ _ _ => False) (hr.make C us []) (I2.env0.make C us []) hbb r2 hq) fun r s' hq' => ?_))
  cases r with
  | error er => exact hx pins σ _ _ er s' I2 hq'
  | ok fl =>
    cases fl with
    | ret u =>
      obtain ⟨v, H2, os2, bare2, un2, hok2, rv, ev, q2⟩ := hq'
      subst ev
      exact ⟨rv, .ref (hp.objs.size + 1), H2, I2.call' (ch := []) os2 un2 hok2 bare2 (fun b hb => by cases hb), rfl, q2⟩
    | next => exact False.elim hq'
    | brk => exact False.elim hq'
    | cont => exact False.elim hq'
end
/-- what the written part says of an own error class, for isinstance -/
structure IsC (K : PySem.W.Frag) (C : Addr) : Prop where
  hcl : (PySem.W.clsIn K C).isSome = true
  hga : PySem.W.findIn K (.ref C) "__getattribute__" = some (some (.builtin "BaseException.__getattribute__"))
  hgt : PySem.W.findIn K (.ref C) "__getattr__" = some none
  hsub : PySem.W.subIn K (.ref C) (.type "BaseException") = some true
  ha : PySem.W.findIn K (.ref C) "__class__" = some (some (.builtin "object.__class__"))
  hn : PySem.W.specialIn K (.builtin "object.__class__") "__get__" = some (some (.builtin "getset_descriptor.__get__"))
  htk : PySem.W.takesIn K (.builtin "object.__class__") = some true
  hm : PySem.W.mroIn K C (.type "object") = some true
/-- isinstance(x, c), x an own error too -/
def rIsX (K : PySem.W.Frag) : List V → Hp → VK → Prop := fun xs H Q => rIsi K xs H Q ∨
  ∃ (a C d : Addr) (c : V) (cv : Value) (b : Bool) (fs : List (Str × V)), xs = [.ref a, c] ∧ IsC K C ∧ H a = some (exo a C (some d)) ∧ H d = some (exd d fs) ∧ ClsV c cv ∧ PySem.W.kitOne K (.ref C) cv = some b ∧ Q (.bl b) H
theorem call_isX {X : Cx} : CallR X (.builtin "isinstance") (rIsX X.K) := by
  intro pins s σ H xs us Q I r h
  rcases h with h | ⟨a, C, d, c, cv, b, fs, rfl, T, ha, hd, k, e, q⟩
  · exact call_isi pins s σ H xs us Q I r h
  · obtain ⟨u1, u2, rfl, r1, r2⟩ := vals2 r
    have e2 := k.eq r2
    subst e2
    obtain rfl : u1 = Value.ref a := r1
    obtain ⟨t1, ho⟩ := exo_at I.hok ha
    obtain ⟨od, hod⟩ : ∃ od, s.heap.get? d = some od := by
      obtain ⟨_, z, _⟩ := I.hok d _ hd
      exact z
    have J : PySem.W.InstAt s.heap a { cls := .ref C, dict := some d, data := .fields #[.ref t1, .none, .none, .none, .bool false, .none] } C (some od) := ⟨ho, rfl, rfl, hod⟩
    exact PySem.W.kia_one (PySem.W.kitx_exc T.hcl T.hga T.hgt T.hsub T.ha T.hn T.htk T.hm) I.kIn J e (fun z => nomatch z) fun tk => ⟨.bl b, H, I.tok tk, rfl, q⟩
end LC

namespace LC
open PySem L2
/-! the values of isinstance(x, int | bool | str) -/
def isI : V → Bool | .int _ => true | .bl _ => true | _ => false
def isB : V → Bool | .bl _ => true | _ => false
def isS : V → Bool | .str _ => true | _ => false
/-- what the error's class answers -/
structure NoB (K : PySem.W.Frag) (C : Addr) : Prop where
  is : IsC K C
  i : PySem.W.kitOne K (.ref C) (.type "int") = some false
  b : PySem.W.kitOne K (.ref C) (.type "bool") = some false
  s : PySem.W.kitOne K (.ref C) (.type "str") = some false
theorem isi_th {K : PySem.W.Frag} {C g : Addr} {H : Hp} {v : V} {Q : VK} (N : NoB K C) (t : Th C g H v) : (Q (.bl (isI v)) H → rIsX K [v, .ty "int"] H Q) ∧ (Q (.bl (isB v)) H → rIsX K [v, .ty "bool"] H Q) ∧ (Q (.bl (isS v)) H → rIsX K [v, .ty "str"] H Q) := by
  have go : ∀ {x : V} {T S : String} {b : Bool}, TyOf K H x (.type T) → kitB T S = some b → Q (.bl b) H → rIsX K [x, .ty S] H Q := fun ty e q => .inl ⟨_, _, _, _, _, rfl, .ty _, .base ty, kit_ty e, q⟩
  cases t with
  | non => exact ⟨go .non (show kitB "NoneType" "int" = some false by decide +kernel), go .non (show kitB "NoneType" "bool" = some false by decide +kernel), go .non (show kitB "NoneType" "str" = some false by decide +kernel)⟩
  | bl b => exact ⟨go (.bl b) (show kitB "bool" "int" = some true by decide +kernel), go (.bl b) (show kitB "bool" "bool" = some true by decide +kernel), go (.bl b) (show kitB "bool" "str" = some false by decide +kernel)⟩
  | int i => exact ⟨go (.int i) (show kitB "int" "int" = some true by decide +kernel), go (.int i) (show kitB "int" "bool" = some false by decide +kernel), go (.int i) (show kitB "int" "str" = some false by decide +kernel)⟩
  | str z h => exact ⟨go (.str z) (show kitB "str" "int" = some false by decide +kernel), go (.str z) (show kitB "str" "bool" = some false by decide +kernel), go (.str z) (show kitB "str" "str" = some true by decide +kernel)⟩
  | lst h n => exact ⟨go (.lst h) (show kitB "list" "int" = some false by decide +kernel), go (.lst h) (show kitB "list" "bool" = some false by decide +kernel), go (.lst h) (show kitB "list" "str" = some false by decide +kernel)⟩
  | tup h n => exact ⟨go (.tup h) (show kitB "tuple" "int" = some false by decide +kernel), go (.tup h) (show kitB "tuple" "bool" = some false by decide +kernel), go (.tup h) (show kitB "tuple" "str" = some false by decide +kernel)⟩
  | dK h n => exact ⟨go (.dK h) (show kitB "dict" "int" = some false by decide +kernel), go (.dK h) (show kitB "dict" "bool" = some false by decide +kernel), go (.dK h) (show kitB "dict" "str" = some false by decide +kernel)⟩
  | exo h n hd nd => exact ⟨fun q => .inr ⟨_, C, _, _, _, _, _, rfl, N.is, h, hd, .ty _, N.i, q⟩, fun q => .inr ⟨_, C, _, _, _, _, _, rfl, N.is, h, hd, .ty _, N.b, q⟩, fun q => .inr ⟨_, C, _, _, _, _, _, rfl, N.is, h, hd, .ty _, N.s, q⟩⟩
def isNum (v : V) (lo hi : Int) : Bool := match v with | .int i => decide (lo ≤ i) && decide (i ≤ hi) | _ => false
def chL (c : Nat) : Bool := decide (97 ≤ c) && decide (c ≤ 122)
def chD (c : Nat) : Bool := decide (48 ≤ c) && decide (c ≤ 57)
def isNam (v : V) : Bool := match v with | .str z => decide (1 ≤ z.length) && decide (z.length ≤ 8) && chL (z.cps.toList.getD 0 0) && z.cps.toList.all (fun c => chL c || chD c) | _ => false
theorem mem_low (c : Nat) : decide (c ∈ ("abcdefghijklmnopqrstuvwxyz" : Str).cps.toList) = chL c := by
  have e : ("abcdefghijklmnopqrstuvwxyz" : Str).cps.toList = List.range' 97 26 := by decide +kernel
  rw [e]
  unfold chL
  rw [← Bool.decide_and]
  refine decide_eq_decide.mpr ?_
  rw [List.mem_range'_1]
  omega
theorem mem_dig (c : Nat) : decide (c ∈ ("0123456789" : Str).cps.toList) = chD c := by
  have e : ("0123456789" : Str).cps.toList = List.range' 48 10 := by decide +kernel
  rw [e]
  unfold chD
  rw [← Bool.decide_and]
  refine decide_eq_decide.mpr ?_
  rw [List.mem_range'_1]
  omega
end LC
namespace LC
open PySem L2
theorem pe_ty {X : Cx} {x : Str} {pos : Pos} (n : String) (hg : Gl X x) (hm : X.mg x = none) (hv : bootBuiltins x = some (.type n)) (hn : x ≠ "__name__" := by decide) (hd : (x == ("__debug__" : Str)) = false := by decide) : PE X (.Name x pos) (tC (.ty n)) :=
  pe_bltn hg hm hv rfl hn hd
end LC
namespace LC
open PySem L2
theorem ite_nd {p : Prop} [Decidable p] {A B : Prop} (h1 : ¬ p → A) (h2 : p → B) : if (!decide p) = true then A else B := by
  by_cases h : p
  · rw [decide_eq_true h]
    exact iteF (h2 h)
  · rw [decide_eq_false h]
    exact iteT (h1 h)
theorem ite_nb {c : Bool} {A B : Prop} (h1 : c = false → A) (h2 : c = true → B) : if (!c) = true then A else B := by
  cases c with
  | true => exact iteF (h2 rfl)
  | false => exact iteT (h1 rfl)
theorem ite_is {a b : Bool} {A B : Prop} (e : a = b) (h1 : b = true → A) (h2 : b = false → B) : if a = true then A else B := by
  subst e
  exact ite_b h1 h2
theorem Ok.same {g l : Addr} {H0 H H' : Hp} (a : Ok g l H0 H) (s : Same H H') : Ok g l H0 H' := by
  refine ⟨a.b0, fun b o n e => s _ _ (a.kp b o n e), ?_⟩
  obtain ⟨ns, i, d, t, c, h1, h2, h3, r⟩ := a.bag
  exact ⟨ns, i, d, t, c, s _ _ h1, h2, s _ _ h3, r⟩
theorem Th.same {C g : Addr} {H H' : Hp} {v : V} (t : Th C g H v) (s : Same H H') : Th C g H' v := t.kp fun b o _ e => s b o e
theorem len1 {z : Str} (h : 1 ≤ z.length) : ∃ c, z.cps.toList[0]? = some c ∧ z.cps.toList.getD 0 0 = c := by
  have e : z.cps.toList.length = z.length := rfl
  have h0 : 0 < z.cps.toList.length := by omega
  refine ⟨z.cps.toList[0], List.getElem?_eq_getElem h0, ?_⟩
  rw [List.getD_eq_getElem?_getD, List.getElem?_eq_getElem h0]
  rfl
theorem sz_str {z : Str} (h : z.length ≤ 1000000) : z.length ≤ sizeLine := Nat.le_trans h (by decide)
theorem bls_map {α : Type} (l : List α) (f : α → Bool) : (l.map fun c => V.bl (f c)) = (l.map f).map V.bl := by
  rw [List.map_map]
  rfl
theorem all_id {α : Type} (l : List α) (f : α → Bool) : (l.map f).all id = l.all f := by
  rw [List.all_map]
  rfl
theorem isNam_str (z : Str) : isNam (.str z) = (decide (1 ≤ z.length) && decide (z.length ≤ 8) && chL (z.cps.toList.getD 0 0) && z.cps.toList.all (fun c => chL c || chD c)) := rfl
end LC
namespace LC
open PySem L2
theorem pe_gstr {X : Cx} {x z : Str} {t : Tok} {pos : Pos} (hg : Gl X x) (hm : X.mg x = some (.str z t)) (hd : (x == ("__debug__" : Str)) = false := by decide) : PE X (.Name x pos) (tC (.str z)) := pe_glob hg hm ⟨_, rfl⟩ hd
theorem pe_gint {X : Cx} {x : Str} {z : Int} {t : Tok} {pos : Pos} (hg : Gl X x) (hm : X.mg x = some (.int z t)) (hd : (x == ("__debug__" : Str)) = false := by decide) : PE X (.Name x pos) (tC (.int z)) := pe_glob hg hm ⟨_, rfl⟩ hd
end LC

namespace LC
open PySem L2
/-- ord('a') <= ord(sign) <= ord('z') as an element -/
theorem ord_in {a b : Str} {c i lo hi : Nat} {σ : L2.St} {H : Hp} {Q : VK} {f : Nat → Bool} (h1 : a.length = 1 ∧ a.cps.getD 0 0 = lo) (h2 : b.length = 1 ∧ b.cps.getD 0 0 = hi) (hf : f c = (decide (lo ≤ c) && decide (c ≤ hi))) (hs : σ[i]? = some (some (.str ⟨#[c]⟩))) (q : Q (.bl (f c)) H) :
    tChain (rI0 fun i j => .bl (decide (i ≤ j))) (rI0 fun i j => .bl (decide (i ≤ j))) (tCB (fun xs H Q => ∃ x, xs = [.str x] ∧ x.length = 1 ∧ Q (.int (x.cps.getD 0 0 : Nat)) H) (tCons (tC (.str a)) tNil))
      (tCB (fun xs H Q => ∃ x, xs = [.str x] ∧ x.length = 1 ∧ Q (.int (x.cps.getD 0 0 : Nat)) H) (tCons (tVar i) tNil)) (tCB (fun xs H Q => ∃ x, xs = [.str x] ∧ x.length = 1 ∧ Q (.int (x.cps.getD 0 0 : Nat)) H) (tCons (tC (.str b)) tNil)) σ H Q := by
  refine ⟨a, rfl, h1.1, _, hs, _, rfl, rfl, _, _, rfl, rfl, _, rfl, ?_⟩
  rw [h1.2]
  refine ite_d (fun e1 => ?_) (fun e1 => ?_)
  · refine ⟨b, rfl, h2.1, _, _, rfl, rfl, ?_⟩
    rw [h2.2]
    have e : f c = decide ((c : Int) ≤ (hi : Int)) := by
      rw [hf, decide_eq_true (show lo ≤ c by exact Int.ofNat_le.mp e1), Bool.true_and]
      exact decide_eq_decide.mpr Int.ofNat_le.symm
    rw [e] at q
    exact q
  · have e : f c = false := by
      rw [hf, decide_eq_false (show ¬ lo ≤ c from fun z => e1 (Int.ofNat_le.mpr z)), Bool.false_and]
    rw [e] at q
    exact q
end LC
namespace LC
open PySem L2
/-- a comprehension over range(n) whose element draws: the list's items all in F -/
theorem lc_draws {n : Nat} {j : Nat} {te : TE} {vs : List Nat} {σ : L2.St} {g l : Addr} {H0 H1 : Hp} {D : Addr} {Qd : Hp → Prop} (F : Hp → V → Prop) (R : Ok g l H0 H1) (hD : H1 D = none) (hn : n ≤ 1000000)
    (hw : ∀ x, wipe ((wipe σ vs).set j (some x)) vs = wipe σ vs) (hF : ∀ x H H', F H x → Kp g H H' → F H' x) (hG : ∀ x H xs ys, H D = some (.lst xs) → F H x → F (upd H D (.lst ys)) x)
    (he : ∀ (i : Nat) (H : Hp) (Q : VK), i < n → Ok g l H0 H → (∀ x H', F H' x → Ok g l H H' → Q x H') → te ((wipe σ vs).set j (some (.int (0 + (i : Int))))) H Q)
    (hd : ∀ H xs, Ok g l H0 H → Kp g H1 H → H D = some (.lst xs) → xs.length = n → (∀ x ∈ xs, F H x) → Qd H) :
    ∃ W : Nat → Nat → Hp → Prop, (∃ m, W 0 m (upd H1 D (.lst []))) ∧ ∀ i m H, W i m H →
      ((Itr 0 n).stop i H ∧ Qd H) ∨ ((Itr 0 n).go i H ∧ ∃ Nx : Hp → Prop, (∀ H', Nx H' → ∃ m', m' < m ∧ W (i + 1) m' H') ∧ ∀ x H', (Itr 0 n).yld i H x H' → gName j x (wipe σ vs) H' fun σ2 H2 => wipe σ2 vs = wipe σ vs ∧ tYes σ2 H2 fun b H3 =>
        if b = true then te σ2 H3 fun y H4 => ∃ acc, H4 D = some (.lst acc) ∧ acc.length < sizeLine ∧ Nx (upd H4 D (.lst (acc ++ [y]))) else Nx H3) := by
  have nD := R.bag.ne hD
  refine lc_it walk_range (fun i H => i ≤ n ∧ Ok g l H1 H ∧ ∃ xs, H D = some (.lst xs) ∧ xs.length = i ∧ ∀ x ∈ xs, F H x) ⟨Nat.zero_le _, Ok.new (Ok.refl R.bag) hD, [], upd_same, rfl, fun x hx => by cases hx⟩ (fun _ _ _ _ => trivial) ?_ ?_
  · rintro i x H H' hi ⟨_, r, xs, h1, h2, h3⟩ ⟨rfl, rfl⟩
    refine ⟨hw _, ?_⟩
    refine he i _ _ hi (R.trans r) fun x H2 fx r2 => ?_
    have h4 := r2.kp D _ nD.1 h1
    refine ⟨xs, h4, Nat.lt_of_lt_of_le (by omega : xs.length < 1000000 + 1) (by decide), hi, (r.trans r2).mut hD, xs ++ [x], upd_same, by rw [List.length_append, h2]; rfl, fun y hy => ?_⟩
    refine hG y H2 xs _ h4 ?_
    rcases List.mem_append.mp hy with hy | hy
    · exact hF y _ _ (h3 y hy) r2.kp
    · rw [List.mem_singleton] at hy
      rw [hy]
      exact fx
  · rintro H ⟨_, r, xs, h1, h2, h3⟩
    exact hd H xs (R.trans r) r.kp h1 h2 h3
end LC

namespace LC
open PySem L2
theorem Th.lstmut {C g : Addr} {H : Hp} {D : Addr} {v : V} {xs ys : List V} (h : H D = some (.lst xs)) (t : Th C g H v) : Th C g (upd H D (.lst ys)) v := by
  cases t with
  | non => exact .non
  | bl b => exact .bl b
  | int i => exact .int i
  | str z h => exact .str z h
  | @lst a xs' h' n =>
    by_cases e : a = D
    · subst e
      exact .lst upd_same n
    · exact .lst (by rw [upd_ne e]; exact h') n
  | tup h' n => exact .tup (by rw [upd_ne (ne_of h' h (by intro z; cases z))]; exact h') n
  | dK h' n => exact .dK (by rw [upd_ne (ne_of h' h (by intro z; cases z))]; exact h') n
  | exo h' n hd nd => exact .exo (by rw [upd_ne (ne_of h' h (by intro z; cases z))]; exact h') n (by rw [upd_ne (ne_of hd h (by intro z; cases z))]; exact hd) nd
end LC

namespace LC
open PySem L2
theorem Th.dKmut {C g : Addr} {H : Hp} {D : Addr} {v : V} {xs ys : List (Key × V)} (h : H D = some (.dK xs)) (t : Th C g H v) : Th C g (upd H D (.dK ys)) v := by
  cases t with
  | non => exact .non
  | bl b => exact .bl b
  | int i => exact .int i
  | str z h => exact .str z h
  | @dK a xs' h' n =>
    by_cases e : a = D
    · subst e
      exact .dK upd_same n
    · exact .dK (by rw [upd_ne e]; exact h') n
  | tup h' n => exact .tup (by rw [upd_ne (ne_of h' h (by intro z; cases z))]; exact h') n
  | lst h' n => exact .lst (by rw [upd_ne (ne_of h' h (by intro z; cases z))]; exact h') n
  | exo h' n hd nd => exact .exo (by rw [upd_ne (ne_of h' h (by intro z; cases z))]; exact h') n (by rw [upd_ne (ne_of hd h (by intro z; cases z))]; exact hd) nd
theorem Th.upd {C g l : Addr} {H0 H : Hp} {p : Addr} {o : HO} {v : V} (a : Ok g l H0 H) (h : H p = none) (t : Th C g H v) : Th C g (L2.upd H p o) v := t.kp (upd_kp a h)
theorem Th.dict {C g l : Addr} {H0 H : Hp} {p : Addr} {xs : List (Key × V)} (a : Ok g l H0 H) (h : H p = none) : Th C g (L2.upd H p (.dK xs)) (.ref p) := .dK upd_same (a.bag.ne h).1
end LC

namespace LC
open PySem L2
/-- a dict stands at p -/
def Dd (g : Addr) (H : Hp) (p : Addr) : Prop := p ≠ g ∧ ∃ kvs, H p = some (.dK kvs)
theorem Dd.new {g : Addr} {H : Hp} {p q : Addr} {o : HO} (d : Dd g H p) (h : H q = none) : Dd g (L2.upd H q o) p := by
  obtain ⟨n, kvs, e⟩ := d
  exact ⟨n, kvs, by rw [upd_ne (ne_of_none e h)]; exact e⟩
theorem Dd.dict {g : Addr} {H : Hp} {p q : Addr} {kvs : List (Key × V)} (d : Dd g H p) : Dd g (L2.upd H q (.dK kvs)) p := by
  obtain ⟨n, ks, e⟩ := d
  by_cases h : p = q
  · subst h
    exact ⟨n, kvs, upd_same⟩
  · exact ⟨n, ks, by rw [upd_ne h]; exact e⟩
theorem Dd.mk' {g l : Addr} {H0 H : Hp} {p : Addr} {kvs : List (Key × V)} (a : Ok g l H0 H) (h : H p = none) : Dd g (L2.upd H p (.dK kvs)) p := ⟨(a.bag.ne h).1, kvs, upd_same⟩
theorem Dd.th {C g : Addr} {H : Hp} {p : Addr} (d : Dd g H p) : Th C g H (.ref p) := by
  obtain ⟨n, kvs, e⟩ := d
  exact .dK e n
end LC
namespace LC
open PySem L2
theorem strs_of (z : Str) : ∀ xs : List V, (∀ x ∈ xs, ∃ c ∈ z.cps.toList, x = V.str ⟨#[c]⟩) → ∃ ys : List Str, xs = ys.map V.str ∧ (∀ y ∈ ys, y.length = 1) ∧ ys.length = xs.length
  | [], _ => ⟨[], rfl, (fun y hy => by cases hy), rfl⟩
  | x :: r, h => by
    obtain ⟨ys, e, h1, h2⟩ := strs_of z r fun y hy => h y (List.mem_cons_of_mem _ hy)
    obtain ⟨c, _, rfl⟩ := h x (List.mem_cons_self ..)
    refine ⟨⟨#[c]⟩ :: ys, by rw [e]; rfl, fun y hy => ?_, by rw [List.length_cons, h2]; rfl⟩
    rcases List.mem_cons.mp hy with rfl | hy
    · rfl
    · exact h1 y hy
theorem sum_ones : ∀ ys : List Str, (∀ y ∈ ys, y.length = 1) → (ys.map (·.length)).sum = ys.length
  | [], _ => rfl
  | y :: r, h => by
    have e := sum_ones r fun z hz => h z (List.mem_cons_of_mem _ hz)
    show (y.length :: r.map (·.length)).sum = r.length + 1
    rw [List.sum_cons, e, h y (List.mem_cons_self ..)]
    omega
theorem cutS_le (z : Str) (lo hi : Option Int) : (cutS z lo hi).length ≤ z.length := by
  show (cutS z lo hi).cps.size ≤ z.cps.size
  unfold cutS
  rw [List.size_toArray, List.length_take, List.length_drop, Array.length_toList]
  omega
end LC

namespace LC
open PySem L2
theorem kp_of {g : Addr} {H1 H2 : Hp} {a : Addr} {o : HO} (ha : H1 a = none) (k : ∀ b u, b ≠ a → L2.upd H1 a o b = some u → H2 b = some u) : Kp g H1 H2 := fun b u _ e => k b u (ne_of_none e ha) (by rw [upd_ne (ne_of_none e ha)]; exact e)
theorem log_small {i : Int} (h0 : -1000000 ≤ i) (h1 : i ≤ 1000000) : i.natAbs.log2 < 1920 := Nat.lt_trans (PySem.Flt.log2_lt_of (k := 20) (by decide) (Nat.lt_of_le_of_lt (show i.natAbs ≤ 1000000 by omega) (by decide))) (by decide)
end LC

namespace LC
theorem ite_same {c : Prop} [Decidable c] {A B C : Prop} (h : C) (h1 : C → A) (h2 : C → B) : if c then A else B := by
  by_cases q : c
  · rw [if_pos q]
    exact h1 h
  · rw [if_neg q]
    exact h2 h
theorem ite_nbeq {b : Bool} {A B : Prop} (h : B) : if (!(b == b)) = true then A else B := by
  rw [beq_self_eq_true]
  exact L2.iteF h
end LC

namespace LC
open PySem L2
theorem kit_sub {K : PySem.W.Frag} {C : Addr} {T : String} {b : Bool} (m : PySem.W.kitMeta T = true) (h : PySem.W.subIn K (.ref C) (.type T) = some b) : PySem.W.kitOne K (.ref C) (.type T) = some b := by
  have e : ((Value.ref C : Value) == Value.type T) = false := rfl
  unfold PySem.W.kitOne
  rw [e, if_neg Bool.false_ne_true]
  show (if PySem.W.kitMeta T = true then PySem.W.subIn K (.ref C) (.type T) else none) = some b
  rw [m, if_pos rfl]
  exact h
theorem cls_some {K : PySem.W.Frag} {C : Addr} {nm q : Str} {N : Addr} {bs bm : List Value} {sn : List Str} {sub : List Value} {ab : Bool} {col : Option Bool} {dd : Option Addr} {k0 k1 k2 k3 k5 : Option Value} {nw : String} (h : K.lookup C = some (excClassObj nm q C N bs bm true sn sub ab col dd k0 k1 k2 k3 k5 nw)) : (PySem.W.clsIn K C).isSome = true := by
  unfold PySem.W.clsIn
  rw [h] <;> rfl
theorem refs_ve (S : Addr) : PySem.HandSPX.refsVE [.ref S, .type "ValueError", .type "Exception", .type "BaseException", .type "object"] = true := by
  show PySem.HandSPX.refsVE [.type "ValueError", .type "Exception", .type "BaseException", .type "object"] = true
  decide +kernel
end LC

namespace RM
/-- the plan of a rest -/
inductive Pl where
  | win (w : Int)
  | days (bs : List Int) (e : Int)
  | lat (p q : Pl)
  | soo (p q : Pl)
  | nex (p q : Pl)
def lastOf (bs : List Int) : Int := bs.getLastD 0
def dayAt (bs : List Int) (e t : Int) : Int := match bs.find? (fun b => decide (b > t)) with
  | some b => b
  | none => lastOf bs + ((t - lastOf bs) / e + 1) * e
def Pl.at : Pl → Int → Int
  | .win w, t => t + w
  | .days bs e, t => dayAt bs e t
  | .lat p q, t => if q.at t > p.at t then q.at t else p.at t
  | .soo p q, t => if q.at t < p.at t then q.at t else p.at t
  | .nex p q, t => q.at (p.at t)
def Pl.leaves : Pl → Nat
  | .win _ => 1
  | .days _ _ => 1
  | .lat p q => p.leaves + q.leaves
  | .soo p q => p.leaves + q.leaves
  | .nex p q => p.leaves + q.leaves
def Pl.forms : Pl → Int
  | .win _ => 1
  | .days _ _ => 1
  | .lat p q => 1 + p.forms + q.forms
  | .soo p q => 1 + p.forms + q.forms
  | .nex p q => 1 + p.forms + q.forms
def lcmI (a b : Int) : Int := ((a.natAbs.lcm b.natAbs : Nat) : Int)
def Pl.per : Pl → Int
  | .win _ => 1
  | .days _ e => e
  | .lat p q => lcmI p.per q.per
  | .soo p q => lcmI p.per q.per
  | .nex p q => lcmI p.per q.per
def maxI (a b : Int) : Int := if b > a then b else a
def Pl.bend : Pl → Int
  | .win _ => 0
  | .days bs _ => lastOf bs
  | .lat p q => maxI p.bend q.bend
  | .soo p q => maxI p.bend q.bend
  | .nex p q => maxI p.bend q.bend
def Pl.h : Pl → Nat
  | .win _ => 0
  | .days _ _ => 0
  | .lat p q => 1 + max p.h q.h
  | .soo p q => 1 + max p.h q.h
  | .nex p q => 1 + max p.h q.h
/-- borders that rise from n on -/
def Asc : Int → List Int → Prop
  | _, [] => True
  | n, b :: r => n ≤ b ∧ b ≤ 1000 ∧ Asc (b + 1) r
def Pl.ok (L : Nat) : Pl → Prop
  | .win w => 1 ≤ w ∧ w ≤ 1000
  | .days bs e => 1 ≤ e ∧ e ≤ 2000 ∧ e.natAbs ∣ L ∧ bs.length ≤ 12 ∧ Asc 1 bs
  | .lat p q => p.ok L ∧ q.ok L
  | .soo p q => p.ok L ∧ q.ok L
  | .nex p q => p.ok L ∧ q.ok L
theorem Pl.leaves_pos : ∀ p : Pl, 1 ≤ p.leaves
  | .win _ => Nat.le_refl _
  | .days _ _ => Nat.le_refl _
  | .lat p q => Nat.le_trans p.leaves_pos (Nat.le_add_right _ _)
  | .soo p q => Nat.le_trans p.leaves_pos (Nat.le_add_right _ _)
  | .nex p q => Nat.le_trans p.leaves_pos (Nat.le_add_right _ _)
theorem Pl.h_lt : ∀ p : Pl, p.h + 1 ≤ p.leaves
  | .win _ => Nat.le_refl _
  | .days _ _ => Nat.le_refl _
  | .lat p q => by have := p.h_lt; have := q.h_lt; simp only [Pl.h, Pl.leaves]; omega
  | .soo p q => by have := p.h_lt; have := q.h_lt; simp only [Pl.h, Pl.leaves]; omega
  | .nex p q => by have := p.h_lt; have := q.h_lt; simp only [Pl.h, Pl.leaves]; omega
theorem Pl.forms_eq : ∀ p : Pl, p.forms = 2 * p.leaves - 1
  | .win _ => rfl
  | .days _ _ => rfl
  | .lat p q => by have := p.forms_eq; have := q.forms_eq; simp only [Pl.forms, Pl.leaves]; omega
  | .soo p q => by have := p.forms_eq; have := q.forms_eq; simp only [Pl.forms, Pl.leaves]; omega
  | .nex p q => by have := p.forms_eq; have := q.forms_eq; simp only [Pl.forms, Pl.leaves]; omega
theorem Pl.ok_mono {L M : Nat} (d : L ∣ M) : ∀ p : Pl, p.ok L → p.ok M
  | .win _, h => h
  | .days _ _, h => ⟨h.1, h.2.1, Nat.dvd_trans h.2.2.1 d, h.2.2.2⟩
  | .lat p q, h => ⟨p.ok_mono d h.1, q.ok_mono d h.2⟩
  | .soo p q, h => ⟨p.ok_mono d h.1, q.ok_mono d h.2⟩
  | .nex p q, h => ⟨p.ok_mono d h.1, q.ok_mono d h.2⟩
theorem lcmI_dvd {a b : Int} {L : Nat} (h1 : a.natAbs ∣ L) (h2 : b.natAbs ∣ L) : (lcmI a b).natAbs ∣ L := by
  unfold lcmI
  rw [Int.natAbs_natCast]
  exact Nat.lcm_dvd h1 h2
theorem lcmI_pos {a b : Int} (h1 : 0 < a) (h2 : 0 < b) : 0 < lcmI a b := by
  unfold lcmI
  have := Nat.lcm_pos (m := a.natAbs) (n := b.natAbs) (by omega) (by omega)
  omega
theorem Pl.per_ok {L : Nat} : ∀ p : Pl, p.ok L → p.per.natAbs ∣ L ∧ 0 < p.per
  | .win _, _ => ⟨Nat.one_dvd _, (show (0 : Int) < 1 by decide)⟩
  | .days _ e, h => ⟨h.2.2.1, by have := h.1; simp only [Pl.per]; omega⟩
  | .lat p q, h => ⟨lcmI_dvd (p.per_ok h.1).1 (q.per_ok h.2).1, lcmI_pos (p.per_ok h.1).2 (q.per_ok h.2).2⟩
  | .soo p q, h => ⟨lcmI_dvd (p.per_ok h.1).1 (q.per_ok h.2).1, lcmI_pos (p.per_ok h.1).2 (q.per_ok h.2).2⟩
  | .nex p q, h => ⟨lcmI_dvd (p.per_ok h.1).1 (q.per_ok h.2).1, lcmI_pos (p.per_ok h.1).2 (q.per_ok h.2).2⟩
theorem Pl.per_le {L : Nat} (p : Pl) (h : p.ok L) (h0 : 0 < L) (h1 : L ≤ 2000) : 1 ≤ p.per ∧ p.per ≤ 2000 := by
  obtain ⟨d, q⟩ := p.per_ok h
  have := Nat.le_of_dvd h0 d
  omega
theorem Asc.all : ∀ {n : Int} {bs : List Int}, Asc n bs → ∀ b ∈ bs, n ≤ b ∧ b ≤ 1000
  | _, [], _, b, hb => by cases hb
  | n, c :: r, h, b, hb => by
    rcases List.mem_cons.mp hb with rfl | hb
    · exact ⟨h.1, h.2.1⟩
    · have := Asc.all h.2.2 b hb
      have := h.1
      omega
theorem lastOf_nil : lastOf [] = 0 := rfl
theorem lastOf_mem : ∀ {bs : List Int}, bs ≠ [] → lastOf bs ∈ bs
  | [], h => absurd rfl h
  | [b], _ => List.mem_singleton.mpr rfl
  | b :: c :: r, _ => by
    have := lastOf_mem (bs := c :: r) (by simp)
    exact List.mem_cons_of_mem _ this
theorem Asc.last {n : Int} : ∀ {bs : List Int}, Asc n bs → ∀ b ∈ bs, b ≤ lastOf bs
  | [], _, b, hb => by cases hb
  | [c], _, b, hb => by
    rw [List.mem_singleton] at hb
    rw [hb]
    exact Int.le_refl _
  | c :: d :: r, h, b, hb => by
    have ih := Asc.last (bs := d :: r) h.2.2
    show b ≤ lastOf (d :: r)
    rcases List.mem_cons.mp hb with rfl | hb
    · have := ih d (by simp)
      have := h.2.2.1
      omega
    · exact ih b hb
theorem Asc.last_bd {bs : List Int} (h : Asc 1 bs) : 0 ≤ lastOf bs ∧ lastOf bs ≤ 1000 := by
  by_cases e : bs = []
  · subst e
    exact ⟨Int.le_refl _, by decide⟩
  · have := h.all _ (lastOf_mem e)
    omega
/-- the greatest of 0 and the borders -/
theorem Asc.max {bs : List Int} (h : Asc 1 bs) {m : Int} (hm : m ∈ 0 :: bs) (hu : ∀ y ∈ 0 :: bs, y ≤ m) : m = lastOf bs := by
  have l0 := h.last_bd
  rcases List.mem_cons.mp hm with rfl | hm
  · by_cases e : bs = []
    · subst e; rfl
    · have := h.all _ (lastOf_mem e)
      have := hu _ (List.mem_cons_of_mem _ (lastOf_mem e))
      omega
  · have e : bs ≠ [] := fun z => by rw [z] at hm; cases hm
    have := h.last m hm
    have := hu _ (List.mem_cons_of_mem _ (lastOf_mem e))
    omega
theorem dayAt_some {bs : List Int} {e t b : Int} (h : bs.find? (fun b => decide (b > t)) = some b) : dayAt bs e t = b := by unfold dayAt; rw [h]
theorem dayAt_none {bs : List Int} {e t : Int} (h : bs.find? (fun b => decide (b > t)) = none) : dayAt bs e t = lastOf bs + ((t - lastOf bs) / e + 1) * e := by unfold dayAt; rw [h]
theorem find_none {bs : List Int} {t : Int} (h : bs.find? (fun b => decide (b > t)) = none) : ∀ b ∈ bs, b ≤ t := by
  intro b hb
  have := List.find?_eq_none.mp h b hb
  simp at this
  exact this
theorem last_le {bs : List Int} {t : Int} (h0 : 0 ≤ t) (h : ∀ b ∈ bs, b ≤ t) : lastOf bs ≤ t := by
  by_cases e : bs = []
  · subst e; exact h0
  · exact h _ (lastOf_mem e)
theorem div_step (x e : Int) (he : 0 < e) : x < (x / e + 1) * e ∧ (x / e) * e ≤ x := by
  have h1 := Int.emod_nonneg x (by omega : e ≠ 0)
  have h2 := Int.emod_lt_of_pos x he
  have h3 := Int.mul_ediv_add_emod x e
  have h4 : (x / e + 1) * e = e * (x / e) + e := by rw [Int.add_mul, Int.one_mul, Int.mul_comm]
  have h5 : (x / e) * e = e * (x / e) := Int.mul_comm _ _
  omega
theorem dayAt_gt {bs : List Int} {e t : Int} (he : 0 < e) : t < dayAt bs e t := by
  cases q : bs.find? (fun b => decide (b > t)) with
  | some b =>
    rw [dayAt_some q]
    have := List.find?_some q
    simpa using this
  | none =>
    rw [dayAt_none q]
    have := (div_step (t - lastOf bs) e he).1
    omega
theorem dayAt_le {bs : List Int} {e t : Int} (he : 0 < e) (h1 : e ≤ 2000) (ha : Asc 1 bs) (h0 : 0 ≤ t) : dayAt bs e t ≤ t + 2000 := by
  cases q : bs.find? (fun b => decide (b > t)) with
  | some b =>
    rw [dayAt_some q]
    have := ha.all _ (List.mem_of_find?_eq_some q)
    omega
  | none =>
    rw [dayAt_none q]
    have := (div_step (t - lastOf bs) e he).2
    have h4 : ((t - lastOf bs) / e + 1) * e = (t - lastOf bs) / e * e + e := by rw [Int.add_mul, Int.one_mul]
    omega
theorem find_first {t t' : Int} (htt : t ≤ t') : ∀ {n : Int} {bs : List Int} {b b' : Int}, Asc n bs → bs.find? (fun b => decide (b > t)) = some b → bs.find? (fun b => decide (b > t')) = some b' → b ≤ b'
  | _, [], _, _, _, h, _ => by cases h
  | n, c :: r, b, b', ha, h, h' => by
    rw [List.find?_cons] at h h'
    by_cases q : c > t
    · rw [decide_eq_true q] at h
      cases h
      by_cases q' : c > t'
      · rw [decide_eq_true q'] at h'
        cases h'
        exact Int.le_refl _
      · rw [decide_eq_false q'] at h'
        have := ha.2.2.all _ (List.mem_of_find?_eq_some h')
        omega
    · rw [decide_eq_false q] at h
      rw [decide_eq_false (show ¬ c > t' by omega)] at h'
      exact find_first htt ha.2.2 h h'
theorem dayAt_mono {bs : List Int} {e t t' : Int} (he : 0 < e) (ha : Asc 1 bs) (htt : t ≤ t') : dayAt bs e t ≤ dayAt bs e t' := by
  cases q : bs.find? (fun b => decide (b > t)) with
  | some b =>
    rw [dayAt_some q]
    cases q' : bs.find? (fun b => decide (b > t')) with
    | some b' =>
      rw [dayAt_some q']
      exact find_first htt ha q q'
    | none =>
      have h1 := ha.last _ (List.mem_of_find?_eq_some q)
      have h2 := find_none q' _ (List.mem_of_find?_eq_some q)
      have := dayAt_gt (bs := bs) (t := t') he
      omega
  | none =>
    rw [dayAt_none q]
    have q2 : bs.find? (fun b => decide (b > t')) = none := by
      rw [List.find?_eq_none]
      intro b hb
      have := find_none q b hb
      simp
      omega
    rw [dayAt_none q2]
    have hd : (t - lastOf bs) / e ≤ (t' - lastOf bs) / e := Int.ediv_le_ediv he (by omega)
    have := Int.mul_le_mul_of_nonneg_right (show (t - lastOf bs) / e + 1 ≤ (t' - lastOf bs) / e + 1 by omega) (Int.le_of_lt he)
    omega
theorem dayAt_per {bs : List Int} {e t m : Int} (he : 0 < e) (ha : Asc 1 bs) (hb : lastOf bs ≤ t) (hm : 0 ≤ m) (hd : e ∣ m) : dayAt bs e (t + m) = dayAt bs e t + m := by
  have no : ∀ {u : Int}, lastOf bs ≤ u → bs.find? (fun b => decide (b > u)) = none := fun {u} hu => by
    rw [List.find?_eq_none]
    intro b hb
    have := ha.last b hb
    simp
    omega
  rw [dayAt_none (no hb), dayAt_none (no (show lastOf bs ≤ t + m by omega))]
  obtain ⟨c, rfl⟩ := hd
  have e1 : t + e * c - lastOf bs = (t - lastOf bs) + e * c := by omega
  rw [e1, Int.add_mul_ediv_left _ _ (by omega : e ≠ 0)]
  have e2 : ((t - lastOf bs) / e + c + 1) * e = ((t - lastOf bs) / e + 1) * e + e * c := by
    rw [Int.add_mul, Int.add_mul, Int.add_mul, Int.mul_comm c e]
    omega
  rw [e2]
  omega
theorem Pl.at_gt {L : Nat} : ∀ (p : Pl), p.ok L → ∀ t, t < p.at t
  | .win w, h, t => by have := h.1; simp only [Pl.at]; omega
  | .days bs e, h, t => dayAt_gt (by have := h.1; omega)
  | .lat p q, h, t => by
    have := p.at_gt h.1 t
    have := q.at_gt h.2 t
    simp only [Pl.at]
    split <;> omega
  | .soo p q, h, t => by
    have := p.at_gt h.1 t
    have := q.at_gt h.2 t
    simp only [Pl.at]
    split <;> omega
  | .nex p q, h, t => Int.lt_trans (p.at_gt h.1 t) (q.at_gt h.2 _)
theorem Pl.at_le {L : Nat} : ∀ (p : Pl), p.ok L → ∀ t, 0 ≤ t → p.at t ≤ t + 2000 * p.leaves
  | .win w, h, t, _ => by have := h.2; simp only [Pl.at, Pl.leaves]; omega
  | .days bs e, h, t, h0 => by
    have := dayAt_le (bs := bs) (by have := h.1; omega) h.2.1 h.2.2.2.2 h0
    simp only [Pl.at, Pl.leaves]
    omega
  | .lat p q, h, t, h0 => by
    have := p.at_le h.1 t h0
    have := q.at_le h.2 t h0
    simp only [Pl.at, Pl.leaves]
    split <;> omega
  | .soo p q, h, t, h0 => by
    have := p.at_le h.1 t h0
    have := q.at_le h.2 t h0
    simp only [Pl.at, Pl.leaves]
    split <;> omega
  | .nex p q, h, t, h0 => by
    have h1 := p.at_gt h.1 t
    have := p.at_le h.1 t h0
    have := q.at_le h.2 (p.at t) (by omega)
    simp only [Pl.at, Pl.leaves]
    omega
theorem Pl.at_mono {L : Nat} : ∀ (p : Pl), p.ok L → ∀ t t', t ≤ t' → p.at t ≤ p.at t'
  | .win w, h, t, t', ht => by simp only [Pl.at]; omega
  | .days bs e, h, t, t', ht => dayAt_mono (by have := h.1; omega) h.2.2.2.2 ht
  | .lat p q, h, t, t', ht => by
    have := p.at_mono h.1 t t' ht
    have := q.at_mono h.2 t t' ht
    simp only [Pl.at]
    split <;> split <;> omega
  | .soo p q, h, t, t', ht => by
    have := p.at_mono h.1 t t' ht
    have := q.at_mono h.2 t t' ht
    simp only [Pl.at]
    split <;> split <;> omega
  | .nex p q, h, t, t', ht => q.at_mono h.2 _ _ (p.at_mono h.1 t t' ht)
theorem maxI_le {a b t : Int} (h : maxI a b ≤ t) : a ≤ t ∧ b ≤ t := by
  unfold maxI at h
  split at h <;> omega
theorem dvd_l {a b m : Int} (h : lcmI a b ∣ m) : a ∣ m ∧ b ∣ m := by
  have h1 : a ∣ lcmI a b := Int.natAbs_dvd_natAbs.mp (by unfold lcmI; rw [Int.natAbs_natCast]; exact Nat.dvd_lcm_left _ _)
  have h2 : b ∣ lcmI a b := Int.natAbs_dvd_natAbs.mp (by unfold lcmI; rw [Int.natAbs_natCast]; exact Nat.dvd_lcm_right _ _)
  exact ⟨Int.dvd_trans h1 h, Int.dvd_trans h2 h⟩
theorem Pl.at_per {L : Nat} : ∀ (p : Pl), p.ok L → ∀ t m, p.bend ≤ t → 0 ≤ m → p.per ∣ m → p.at (t + m) = p.at t + m
  | .win w, h, t, m, _, _, _ => by simp only [Pl.at]; omega
  | .days bs e, h, t, m, hb, hm, hd => dayAt_per (by have := h.1; omega) h.2.2.2.2 hb hm hd
  | .lat p q, h, t, m, hb, hm, hd => by
    obtain ⟨d1, d2⟩ := dvd_l hd
    obtain ⟨b1, b2⟩ := maxI_le hb
    have h1 := p.at_per h.1 t m b1 hm d1
    have h2 := q.at_per h.2 t m b2 hm d2
    simp only [Pl.at, h1, h2]
    split <;> split <;> omega
  | .soo p q, h, t, m, hb, hm, hd => by
    obtain ⟨d1, d2⟩ := dvd_l hd
    obtain ⟨b1, b2⟩ := maxI_le hb
    have h1 := p.at_per h.1 t m b1 hm d1
    have h2 := q.at_per h.2 t m b2 hm d2
    simp only [Pl.at, h1, h2]
    split <;> split <;> omega
  | .nex p q, h, t, m, hb, hm, hd => by
    obtain ⟨d1, d2⟩ := dvd_l hd
    obtain ⟨b1, b2⟩ := maxI_le hb
    have h1 := p.at_per h.1 t m b1 hm d1
    have := p.at_gt h.1 t
    have h2 := q.at_per h.2 (p.at t) m (by omega) hm d2
    simp only [Pl.at, h1, h2]
theorem Pl.bend_bd {L : Nat} : ∀ p : Pl, p.ok L → 0 ≤ p.bend ∧ p.bend ≤ 1000
  | .win _, _ => ⟨Int.le_refl _, (show (0 : Int) ≤ 1000 by decide)⟩
  | .days _ _, h => h.2.2.2.2.last_bd
  | .lat p q, h => by have := p.bend_bd h.1; have := q.bend_bd h.2; simp only [Pl.bend, maxI]; split <;> omega
  | .soo p q, h => by have := p.bend_bd h.1; have := q.bend_bd h.2; simp only [Pl.bend, maxI]; split <;> omega
  | .nex p q, h => by have := p.bend_bd h.1; have := q.bend_bd h.2; simp only [Pl.bend, maxI]; split <;> omega
end RM
namespace RM
theorem fmod_nat (X Y : Nat) : (X : Int).fmod (Y : Int) = ((X % Y : Nat) : Int) := by
  rw [Int.fmod_eq_emod_of_nonneg _ (Int.natCast_nonneg _)]
  rfl
theorem fdiv_nat (X Y : Nat) : (X : Int).fdiv (Y : Int) = ((X / Y : Nat) : Int) := by
  rw [Int.fdiv_eq_ediv_of_nonneg _ (Int.natCast_nonneg _)]
  rfl
theorem lcm_by (A B : Nat) : ((A : Int).fdiv ((Nat.gcd A B : Nat) : Int)) * (B : Int) = lcmI A B := by
  rw [fdiv_nat]
  unfold lcmI
  rw [Int.natAbs_natCast, Int.natAbs_natCast, ← Int.natCast_mul]
  congr 1
  rw [Nat.div_mul_right_comm (Nat.gcd_dvd_left A B)]
  rfl
theorem gcd_step (X Y : Nat) : Nat.gcd Y (X % Y) = Nat.gcd X Y := by
  rw [Nat.gcd_comm X Y, Nat.gcd_rec Y X, Nat.gcd_comm]
end RM
namespace RM
theorem Asc.snoc {e c : Int} : ∀ {n : Int} {bs : List Int}, Asc n bs → (∀ b ∈ bs, b ≤ e) → n ≤ c → e < c → c ≤ 1000 → Asc n (bs ++ [c])
  | n, [], _, _, h1, _, h3 => ⟨h1, h3, True.intro⟩
  | n, b :: r, h, hb, h1, h2, h3 => ⟨h.1, h.2.1, Asc.snoc h.2.2 (fun x hx => hb x (List.mem_cons_of_mem _ hx)) (by have := hb b (by simp); omega) h2 h3⟩
theorem lcmI_one (B : Nat) : lcmI B 1 = B := by
  unfold lcmI
  rw [Int.natAbs_natCast]
  show ((B.lcm 1 : Nat) : Int) = B
  rw [Nat.lcm_one_right]
theorem lcmI_self (B : Nat) : lcmI B B = B := by
  unfold lcmI
  rw [Int.natAbs_natCast, Nat.lcm_self]
end RM
namespace RM
/-- a plan is as good with its own period -/
theorem Pl.ok_per {L : Nat} : ∀ p : Pl, p.ok L → p.ok p.per.natAbs
  | .win _, h => h
  | .days _ e, h => ⟨h.1, h.2.1, Nat.dvd_refl _, h.2.2.2⟩
  | .lat p q, h => ⟨Pl.ok_mono (by simp only [Pl.per, lcmI, Int.natAbs_natCast]; exact Nat.dvd_lcm_left _ _) p (p.ok_per h.1), Pl.ok_mono (by simp only [Pl.per, lcmI, Int.natAbs_natCast]; exact Nat.dvd_lcm_right _ _) q (q.ok_per h.2)⟩
  | .soo p q, h => ⟨Pl.ok_mono (by simp only [Pl.per, lcmI, Int.natAbs_natCast]; exact Nat.dvd_lcm_left _ _) p (p.ok_per h.1), Pl.ok_mono (by simp only [Pl.per, lcmI, Int.natAbs_natCast]; exact Nat.dvd_lcm_right _ _) q (q.ok_per h.2)⟩
  | .nex p q, h => ⟨Pl.ok_mono (by simp only [Pl.per, lcmI, Int.natAbs_natCast]; exact Nat.dvd_lcm_left _ _) p (p.ok_per h.1), Pl.ok_mono (by simp only [Pl.per, lcmI, Int.natAbs_natCast]; exact Nat.dvd_lcm_right _ _) q (q.ok_per h.2)⟩
theorem lcmI_comm (a b : Int) : lcmI a b = lcmI b a := by
  unfold lcmI
  rw [Nat.lcm_comm]
end RM

namespace LC
open PySem L2
section
variable {X : Cx} {st : Stmt} {ss : List Stmt}
/-- a statement that is never come to -/
theorem ps_never : PS X st (fun _ _ _ => False) := ⟨fun _ _ _ _ _ _ h => h.elim⟩
theorem pss_never : PSs X ss (fun _ _ _ => False) := ⟨fun _ _ _ _ _ _ h => h.elim⟩
def rLcm : List V → Hp → VK → Prop := fun vs H Q => ∃ a b : Int, vs = [.int a, .int b] ∧ a.natAbs < 2 ^ 64 ∧ b.natAbs < 2 ^ 64 ∧ Q (.int (RM.lcmI a b)) H
theorem cr_lcm : CallR X (.builtin "math.lcm") rLcm := by
  intro pins s σ H vs us Q I r h
  obtain ⟨a, b, rfl, h1, h2, q⟩ := h
  obtain ⟨t, u, rfl⟩ := Vals.int2 r
  exact PySem.W.mc_lcm h1 h2 fun _ => ⟨.int _, H, I.tok _, ⟨_, rfl⟩, q⟩
end
theorem fn_none {P : Program} {w : World} {K : PySem.W.Frag} {mg : Str → Option Value} {base : Heap} {CX : CXT} {k : Nat} {f : Addr} {fd : FuncData} {ps : List Str} {sp : Sp} (h : ∀ vs H Q E, ¬ sp vs H Q E) : FnOk P w K mg base CX k f fd ps sp :=
  ⟨fun vs H Q E q => (h _ _ _ _ q).elim, fun A outer s H args us vs Q E hr e0 hb r q => (h _ _ _ _ q).elim⟩
theorem raw0 {P : Program} {w : World} {K : PySem.W.Frag} {mg : Str → Option Value} {base : Heap} {CX : CXT} {k : Nat} {f : Addr} {fd : FuncData} {ps : List Str} {sp : Sp} (F : FnOk P w K mg base CX k f fd ps sp) (hb : Binds K fd ps []) : FnR P w K mg base CX k f sp :=
  (F.raw hb .nil).imp fun vs H Q E h => by
    rw [List.append_nil]
    exact h
theorem kLT_int {K : PySem.W.Frag} : PySem.W.kitAny K (.type "int") [.type "list", .type "tuple"] = some false := kitAny_cons (kit_ty (show kitB "int" "list" = some false by decide +kernel)) (fun _ => kitAny_cons (kit_ty (show kitB "int" "tuple" = some false by decide +kernel)) (fun _ => kitAny_nil) fun z => by cases z) (fun z => by cases z)
theorem kLT_lst {K : PySem.W.Frag} : PySem.W.kitAny K (.type "list") [.type "list", .type "tuple"] = some true := kitAny_cons (kit_ty (show kitB "list" "list" = some true by decide +kernel)) (fun z => by cases z) (fun _ => rfl)
end LC

namespace LE
open PySem L2 PySem.Spec PyProof.Rows
/-- the type of what stands on the right: an int, a text, an instance -/
inductive TyR (H : Hp) : V → Value → Prop where
  | int (i : Int) : TyR H (.int i) (.type "int")
  | str (z : Str) : TyR H (.str z) (.type "str")
  | ins {b C dx : Addr} {fs : List (Str × V)} (e : H b = some (.ins C dx fs)) : TyR H (.ref b) (.ref C)
/-- the class at C has the def at g, of the promise sp, under the name m -/
structure Own (X : Cx) (n : Nat) (m : Str) (C g : Addr) (sp : Sp) : Prop where
  at_ : PySem.W.findIn X.K (.ref C) m = some (some (.ref g))
  fn : PySem.W.isFn X.K (.ref g) = true
  F : FnR X.prog X.w X.K X.mg X.base CX0 n g sp
/-- x == y, x an instance of a class with an own == -/
def rEqI (X : Cx) (n : Nat) : R2 := fun x y H Q => ∃ (a C dx g : Addr) (fs : List (Str × V)) (sp : Sp) (tb : Value), x = .ref a ∧ H a = some (.ins C dx fs) ∧ Own X n "__eq__" C g sp ∧ TyR H y tb ∧ PySem.W.notFirst X.K C tb = true ∧ sp [x, y] H Q E0
section
variable {X : Cx} {n : Nat}
theorem op_eqI (hr : Room n X.A) : OpR X (compareOp .Eq) (rEqI X n) := by
  intro pins s σ H x y v u Q I rx ry h
  obtain ⟨a, C, dx, g, fs, sp, tb, rfl, ha, O, ty, hn, q⟩ := h
  cases (show v = Value.ref a from rx)
  obtain ⟨mA, J, _⟩ := ins_get I.hok ha
  obtain ⟨od, J, _⟩ := J.look
  obtain ⟨m, hF⟩ := I.fr
  have lk : PySem.W.Looks (model X.prog X.w) s.heap (typeOf u) tb := by
    cases ty with
    | int i => obtain ⟨t, e⟩ := (show ∃ t, u = Value.int i t from ry); cases e; exact PySem.W.Looks.of_pure rfl
    | str i => obtain ⟨t, e⟩ := (show ∃ t, u = Value.str i t from ry); cases e; exact PySem.W.Looks.of_pure rfl
    | ins e =>
      cases ry
      obtain ⟨mB, J', _⟩ := ins_get I.hok e
      obtain ⟨od', J', _⟩ := J'.look
      exact J'.type
  show wpAny (model X.prog X.w) X.A (richCompare .Eq (.ref a) u) (EP X pins σ Q) X.xe s
  refine PySem.W.cmp_K (op := .Eq) hr.units0 hF I.ok.mod.kin J lk hn O.at_ O.fn ?_
  refine wpAny_mono (wpAny_call (run_fnR (us := [.ref a, u]) (vs := [.ref a, y]) O.F hr (E := E0) pass0 I (.cons rfl (.cons ry .nil)) q)) (fun w s' z => ?_) fun _ _ x => x
  obtain ⟨z', H', I', rz, qz⟩ := z
  exact SlX.cmpback rz ⟨z', H', I', rz, qz⟩
/-- str(x) of an instance of a class with an own __str__ -/
def rStrI (X : Cx) (n : Nat) : List V → Hp → VK → Prop := fun xs H Q => ∃ (a C dx g : Addr) (fs : List (Str × V)) (sp : Sp), xs = [V.ref a] ∧ H a = some (.ins C dx fs) ∧ Own X n "__str__" C g sp ∧ sp [.ref a] H (fun z H' => ∃ t, z = .str t ∧ Q z H') E0
theorem run_in {A : Around} {pins : List (Addr × Obj)} {s : Shared} {σ : L2.St} {H : Hp} {g : Addr} {sp : Sp} {Q : VK} {us : List Value} {ws : List V} (F : FnR X.prog X.w X.K X.mg X.base CX0 n g sp) (hr : Room n A) (e0 : Env0 X.prog X.w X.K X.mg X.base A X.stack s H) (I : Inv X pins σ H s) (r : Vals ws us) (h : sp ws H Q E0) :
    codeAny (model X.prog X.w) A (.call (.ref g) ⟨us, []⟩) (fun r s' => match r with | .ok (.ret v) => EP X pins σ Q v s' | .ok _ => False | .error e => X.xe e s') s := by
  refine codeAny_mono (F A X.stack s H us ws Q E0 hr e0 r h) fun r s' hq => ?_
  cases r with
  | error e => exact pass0 pins σ H s e s' I hq
  | ok fl =>
    cases fl with
    | ret u => exact I.after hq
    | next => exact False.elim hq
    | brk => exact False.elim hq
    | cont => exact False.elim hq
theorem call_strI (hr : Room (n + 2) X.A) : CallR X (.type "str") (rStrI X n) := by
  intro pins s σ H xs us Q I r h
  obtain ⟨a, C, dx, g, fs, sp, rfl, ha, O, q⟩ := h
  obtain ⟨u, rfl, ru⟩ := r.one
  cases (show u = Value.ref a from ru)
  obtain ⟨mA, J, _⟩ := ins_get I.hok ha
  obtain ⟨od, J, _⟩ := J.look
  have hr2 : Room n X.A.in1.in1 := (show Room (n + 1) X.A.in1 from Room.in1 hr).in1
  refine PySem.W.kso_call hr2.units0 I.kIn J O.at_ O.fn (wpAny_mono (wpAny_call (run_in (us := [.ref a]) (ws := [.ref a]) O.F hr2 I.env0.in1.in1 I (.cons rfl .nil) q)) (fun w s' z => ?_) fun _ _ x => x)
  obtain ⟨z', H', I', rz, t, ez, qz⟩ := z
  subst ez
  obtain ⟨k, e⟩ := (show ∃ k, w = Value.str t k from rz)
  cases e
  exact ⟨.str t, H', I', ⟨k, rfl⟩, qz⟩
/-- f'{x}' of such an instance -/
def tFmtI (X : Cx) (n : Nat) (te : TE) : TE := fun σ H Q => te σ H fun x H1 => ∃ (a C dx g : Addr) (fs : List (Str × V)) (sp : Sp), x = V.ref a ∧ H1 a = some (.ins C dx fs) ∧ Own X n "__str__" C g sp ∧ PySem.W.findIn X.K (.ref C) "__format__" = some (some (.builtin "object.__format__")) ∧ PySem.W.mroIn X.K C (.type "object") = some true ∧
  sp [.ref a] H1 (fun z H' => ∃ t, z = .str t ∧ Q z H') E0
theorem pe_fmtI {e : Expr} {te : TE} {pos : Pos} (hr : Room (n + 1) X.A) (he : PE X e te) : PE X (.FormattedValue e (-1) none pos) (tFmtI X n te) := by
  refine ⟨fun pins s σ H Q I h => ?_⟩
  refine wpAny_FormattedValue_plain (thn (he.run pins s σ H _ I h) fun v s1 hv => ?_)
  obtain ⟨x, H1, I1, r1, a, C, dx, g, fs, sp, rfl, ha, O, hf, hm, q⟩ := hv
  cases (show v = Value.ref a from r1)
  obtain ⟨mA, J, _⟩ := ins_get I1.hok ha
  obtain ⟨od, J, _⟩ := J.look
  have hr1 : Room n X.A.in1 := Room.in1 hr
  have I2 := I1.tok (s1.toks + 1)
  refine PySem.W.kfo_fieldS hr1.units0 I1.kIn J hf hm O.at_ O.fn (wpAny_mono (wpAny_call (run_in (us := [.ref a]) (ws := [.ref a]) O.F hr1 I2.env0.in1 I2 (.cons rfl .nil) q)) (fun w s' z => ?_) fun _ _ x => x)
  obtain ⟨z', H', I', rz, t, ez, qz⟩ := z
  subst ez
  obtain ⟨k, e⟩ := (show ∃ k, w = Value.str t k from rz)
  cases e
  exact ⟨.str t, H', I', ⟨k, rfl⟩, qz⟩
end
end LE

namespace LD
open PySem PySem.Spec PyProof.Rows L2
theorem u65 {k : Nat} {A : Around} (r : Room k A) : A.units + 65 < cLine := by have := r.un; omega
section
variable {X : Cx}
/-- xs.remove(y), y is there: the first equal one goes -/
def rRemD (K : PySem.W.Frag) : V → List V → Hp → VK → Prop := fun x xs H Q => ∃ (a : Addr) (y : V) (d : PyData) (ys : List V) (ds : List PyData) (j : Nat) (z : PyData), x = V.ref a ∧ xs = [y] ∧ H a = some (.lst ys) ∧ DpAll K H ys ds ∧ Dp K H y d ∧
  SeqAt.shaped (.list ds) = true ∧ SeqAt.shaped d = true ∧ ds[j]? = some z ∧ PyData.eqv z d = true ∧ (∀ (m : Nat) (z' : PyData), m < j → ds[m]? = some z' → PyData.eqv z' d = false) ∧ Q .non (upd H a (.lst (ys.eraseIdx j)))
theorem mt_removeD (hu : X.A.units + 65 < cLine) : MtR X "list.remove" (rRemD X.K) := by
  intro pins s σ H x xs v us Q I rx rxs h
  obtain ⟨a, y, d, ys, ds, j, z, rfl, rfl, hH, hl, hy, sl, sd, hz, hzj, hno, q⟩ := h
  cases rx
  cases rxs with
  | cons ry rt =>
    rename_i uy ut
    cases rt
    obtain ⟨bs, r1⟩ := Dp.reads I d y uy hy ry
    have hxs : PyData.canLayAll0 ds = true := SeqAt.canLay_of_shaped sl
    have hroom : X.A.units + 1 + min (PyData.depthAll ds) d.depth < cLine := room_in_shaped sd hu
    obtain ⟨zl, its, n, rv, hlen, ho⟩ := I.lstM hH
    obtain ⟨as, h4⟩ := Dp.readsAll I ds _ its hl rv
    have hn : its.length = ds.length := SeqAt.ReadsAll.length ds its as h4
    have hmap : its.map (SeqAt.readOf s.heap) = ds := SeqAt.readsAll_map ds its as hxs h4
    have hvl := rv.length
    have hsl := sizeLine_eq
    obtain ⟨hjd, _⟩ := List.getElem?_eq_some_iff.mp hz
    have hjl : j < its.length := by omega
    have hj : j < its.toArray.size := by simpa using hjl
    have at_ : ∀ (m : Nat) (hm : m < its.toArray.size) (z' : PyData), ds[m]? = some z' → SeqAt.readOf s.heap its.toArray[m] = z' := by
      intro m hm z' hz'
      have hml : m < its.length := by simpa using hm
      rw [← hmap, List.getElem?_map, List.getElem?_eq_getElem hml] at hz'
      have e1 : SeqAt.readOf s.heap its[m] = z' := Option.some.inj (show some (SeqAt.readOf s.heap its[m]) = some z' from hz')
      simpa using e1
    refine call_meets PySem.F.slot_list_remove ⟨_, ho, rfl⟩ PySem.F.entry_list_remove (PySem.F.args_list_remove_2 _ _)
      (SeqAt.list_removeAt a its.toArray n none #[] uy (fun u => PyData.eqv (SeqAt.readOf s.heap u) d) j hj ?_ ?_ (by rw [List.size_toArray]; omega)) ⟨ho, SeqAt.items_eqAt (vs := its.toArray) (show ReadsAll s.heap its.toArray.toList ds as from h4) r1 hxs (SeqAt.canLay_of_shaped sd) hroom, ?_⟩
    · show PyData.eqv (SeqAt.readOf s.heap its.toArray[j]) d = true
      rw [at_ j hj z hz]
      exact hzj
    · intro m hm hmj
      have hmd : m < ds.length := by omega
      have hz' : ds[m]? = some ds[m] := List.getElem?_eq_getElem hmd
      show PyData.eqv (SeqAt.readOf s.heap its.toArray[m]) d = false
      rw [at_ m hm _ hz']
      exact hno m _ hmj hz'
    · have rr := rv.eraseIdx j
      refine ⟨.non, _, I.lset (its' := its.eraseIdx j) (t' := s.toks) hH ho ?_ rr ?_, rfl, q⟩
      · show its.toArray.eraseIdxIfInBounds j = (its.eraseIdx j).toArray
        rw [List.eraseIdxIfInBounds_toArray]
      · have := List.length_eraseIdx_le ys j
        omega
/-- the row of three at t -/
def Row3 (H : Hp) (t : Addr) (r : PySem.W.T3 Int Str Int) : Prop := H t = some (.tup [.int r.a, .str r.b, .int r.c])
/-- min(xs) of a list of tuples: the first least one itself -/
def rMinT (K : PySem.W.Frag) : List V → Hp → VK → Prop := fun vs H Q => ∃ (a : Addr) (ts : List Addr) (r0 : PySem.W.T3 Int Str Int) (rs : List (PySem.W.T3 Int Str Int)), vs = [V.ref a] ∧ SqL K H a (ts.map V.ref) ∧ Paired (Row3 H) ts (r0 :: rs) ∧
  ∀ (i : Nat) (t : Addr), ts[i]? = some t → (r0 :: rs)[i]? = some (PySem.W.minOf r0 rs) → Q (.ref t) H
theorem t3_inj {h : Heap} {v : Value} {p q : PySem.W.T3 Int Str Int} (H : PySem.W.Holds h v p) (H' : PySem.W.Holds h v q) : p = q := by
  obtain ⟨l, va, vb, vc, e, ⟨o, ho, hc, n, hd⟩, Ha, Hb, Hc⟩ := PySem.W.t3_of_holds H
  obtain ⟨l', va', vb', vc', e', ⟨o', ho', hc', n', hd'⟩, Ha', Hb', Hc'⟩ := PySem.W.t3_of_holds H'
  rw [e] at e'
  cases e'
  rw [ho] at ho'
  cases ho'
  rw [hd] at hd'
  cases hd'
  obtain ⟨t1, e1⟩ := PySem.W.int_of_holds Ha
  obtain ⟨t1', e1'⟩ := PySem.W.int_of_holds Ha'
  obtain ⟨t2, e2⟩ := PySem.W.str_of_holds Hb
  obtain ⟨t2', e2'⟩ := PySem.W.str_of_holds Hb'
  obtain ⟨t3, e3⟩ := PySem.W.int_of_holds Hc
  obtain ⟨t3', e3'⟩ := PySem.W.int_of_holds Hc'
  refine PySem.W.T3.same ?_ ?_ ?_
  · have := e1.symm.trans e1'
    injection this
  · have := e2.symm.trans e2'
    injection this
  · have := e3.symm.trans e3'
    injection this
theorem row_holds {pins : List (Addr × Obj)} {σ : L2.St} {H : Hp} {s : Shared} {t : Addr} {r : PySem.W.T3 Int Str Int} (I : Inv X pins σ H s) (h : Row3 H t r) : PySem.W.Holds s.heap (.ref t) r := by
  obtain ⟨_, its, r2, o, ho, hc, n, hd⟩ := I.hok _ _ h
  cases r2 with
  | cons q1 r2 =>
    cases r2 with
    | cons q2 r2 =>
      cases r2 with
      | cons q3 r2 =>
        cases r2
        obtain ⟨t1, rfl⟩ := q1
        obtain ⟨t2, rfl⟩ := q2
        obtain ⟨t3, rfl⟩ := q3
        exact PySem.W.holds_t3 ⟨o, ho, hc, n, hd⟩ (PySem.W.holds_int _ _) (PySem.W.holds_str _ _) (PySem.W.holds_int _ _)
theorem rows_hold {pins : List (Addr × Obj)} {σ : L2.St} {H : Hp} {s : Shared} (I : Inv X pins σ H s) : ∀ {ts : List Addr} {rs : List (PySem.W.T3 Int Str Int)} {us : List Value}, Paired (Row3 H) ts rs → Vals (ts.map V.ref) us → PySem.W.HoldAll s.heap us rs ∧ us = ts.map Value.ref
  | [], _, _, .nil, .nil => ⟨.nil, rfl⟩
  | t :: ts, _, _, .cons h p, .cons rv rvs => by
    obtain ⟨h1, h2⟩ := rows_hold I p rvs
    obtain rfl := rv
    exact ⟨.cons (row_holds I h) h1, by rw [h2]; rfl⟩
theorem cr_minT (hc : X.calm = true) (hu : X.A.units + 64 < cLine) : CallR X (.builtin "min") (rMinT X.K) := by
  intro pins s σ H vs us Q I r h
  obtain ⟨a, ts, r0, rs, rfl, hs, hp, q⟩ := h
  obtain ⟨its, rv, hl, _⟩ := I.list hs
  rw [Vals.ref1 r]
  obtain ⟨ha, rfl⟩ := rows_hold I hp rv
  refine PySem.W.min_list_datum (α := PySem.W.T3 Int Str Int) (I.ok.hd hc) hl.isList ha (by show X.A.units + 1 + 1 < cLine; omega) fun i v h' tk hi hv hk => ?_
  have hi' : (ts.map Value.ref)[i]? = some v := by simpa using hi
  rw [List.getElem?_map] at hi'
  cases e : ts[i]? with
  | none => rw [e] at hi'; cases hi'
  | some t =>
    rw [e] at hi'
    cases hi'
    obtain ⟨x, hx, hxv⟩ := ha.at (i := i) (v := .ref t) (by rw [List.getElem?_map, e]; rfl)
    have := t3_inj (hxv.keeps hk) hv
    subst this
    exact ⟨.ref t, H, I.kept hk, rfl, q i t e hx⟩
end
section
variable {X : Cx}
theorem vals_of_kv {κ : Type} {kvs : List (κ × V)} {vs : List (κ × Value)} (r : KV kvs vs) : Vals (kvs.map (·.2)) (vs.map (·.2)) := by
  induction r with
  | nil => exact .nil
  | cons h _ ih => exact .cons h.2 ih
/-- list(o.values()) -/
def tListVals (td : TE) : TE := fun σ H Q => td σ H fun x H1 => ∃ a kvs, x = V.ref a ∧ H1 a = some (.dK kvs) ∧ ∀ p, H1 p = none → Q (.ref p) (upd H1 p (.lst (kvs.map (·.2))))
variable {o : Expr} {p pos apos mpos : Pos} {td : TE}
theorem pe_listVals (hc : X.calm = true) (hg : Gl X "list") (hm : X.mg "list" = none) (hd : PE X o td) (hbase : attributeBase o "values" X.env (eval o X.env) = eval o X.env := by rfl) (hline : (apos.endLine == mpos.line) = true := by rfl)
    (hse : starEach [Expr.Call (.Attribute o "values" apos) [] [] mpos] X.env = [(false, eval (Expr.Call (.Attribute o "values" apos) [] [] mpos) X.env)] := by rfl) :
    PE X (.Call (.Name "list" p) [.Call (.Attribute o "values" apos) [] [] mpos] [] pos) (tListVals td) := by
  refine ⟨fun pins s σ H Q I h => ?_⟩
  refine wpAny_Call_Name_kw (ld_blt I hg hm (u := .type "list") (by first | rfl | decide +kernel) ?_ (by first | decide +kernel | decide) (by first | decide +kernel | decide))
  rw [hse]
  refine PySem.callWith_type1 (wpAny_Call_method0_late hbase hline (thn (hd.run pins s σ H _ I h) fun v s1 ⟨x, H1, I1, r1, a, kvs, ex, ha, q⟩ => ?_))
  subst ex
  obtain rfl : v = Value.ref a := r1
  obtain ⟨hz, hsys, vs, rel, dof⟩ := dk_of I1.hok ha
  obtain ⟨ep, dat⟩ := dof.dictAt
  have dat' := dat
  obtain ⟨ob, es, ho, ex, hdat, hko, hpr, hnd⟩ := dat'
  refine ⟨"dict", "dict.values", F.plainAttrs_dict, F.slot_dict_values, F.type_dict_values, ⟨ob, ho, ex.1⟩, fun b e => ?_, Calls.callWith_builtin rfl (PySem.evalArgs_none ?_)⟩
  · cases e
    exact ⟨ob, ho, ex.2.1⟩
  refine call_meetsIn F.slot_dict_values ⟨ob, ho, ex.1⟩ F.entry_dict_values (F.args_dict_values_1 _) (meets_dict_values (mixKind X.prog X.w) a hsys) ⟨⟨vs, dof⟩, ?_⟩
  have k1 : ∀ b u, s1.heap.get? b = some u → (s1.heap.push { cls := .type "dict_values", data := .fields #[.ref a] }).get? b = some u := fun b u e => Heap.get?_push_of_some _ e
  have dat1 : (s1.heap.push { cls := .type "dict_values", data := .fields #[.ref a] }).DictAt (mixKind X.prog X.w) a vs ep := dat.keep k1
  refine PySem.W.kdl_call (PySem.W.kdl_values (knd := mixKind X.prog X.w) (ep := ep)) (I.ok.hd hc) ⟨⟨_, Heap.get?_push_size _ rfl, rfl, rfl⟩, dat1⟩ (by rw [← KV.length rel]; exact hz) fun h' tk acc' c' hk hS' hacc => ?_
  have e1 : acc'.toList = vs.map (·.2) := PySem.W.kdl_vals_eq acc'.toList (by rw [Array.length_toList]; exact hacc.1) fun j v e => hacc.2 j v (by rw [← Array.getElem?_toList]; exact e)
  have kk : ∀ b u, s1.heap.get? b = some u → h'.get? b = some u := fun b u e => hk b u (k1 b u e)
  refine ⟨.ref _, _, I1.laid (t' := tk) (a := (s1.heap.push { cls := .type "dict_values", data := .fields #[.ref a] }).objs.size) (o := .lst (kvs.map (·.2))) kk (by rw [Heap.size_push]; exact Nat.le_succ _) ⟨?_, vs.map (·.2), c', vals_of_kv rel, ?_⟩, rfl, q _ (I1.hok.fresh (by rw [Heap.size_push]; exact Nat.le_succ _))⟩
  · rw [List.length_map]
    exact hz
  · rw [← e1]
    simpa using hS'
end
/-! ### len(x) and bool(x) of an instance -/
theorem kbo_call {prog : Program} {w : World} {A : Around} {E : Value → Shared → Prop} {s : Shared} {K : PySem.W.Frag} {h₀ : Heap} {L : Addr} {m : Str → Option Value} {x C f : Addr} {ox : Obj} {od : Option Obj} {Q : Value → Shared → Prop} (F : Fr h₀ L s.heap m) (X₀ : K.In h₀) (I : PySem.W.InstAt s.heap x ox C od)
    (hs : PySem.W.findIn K (.ref C) "__bool__" = some (some (.ref f))) (hf : PySem.W.isFn K (.ref f) = true) (h : wpAny (model prog w) A.in1.in1 (call (.ref f) [.ref x]) (PySem.W.BoolBack fun b s' => Q (.bool b) s') E s) : wpAny (model prog w) A (call (.type "bool") [.ref x]) Q E s := by
  refine callType_codes (T := "bool") (Bi := Builtin.«object.__init__») (Q₁ := fun r s₁ => ∃ y, r = .bool y ∧ Q r s₁) PySem.F.called_bool (PySem.F.typeCall_bool_1 _) PySem.F.entry_object_init ?_ ?_
  · refine codeAny_of_tree ?_
    show wpAny _ A.in1.in1 (do checkBuiltinCall "bool.__new__" ⟨[.type "bool", .ref x], []⟩; again (.builtin "bool.__new__" ⟨[.type "bool", .ref x], []⟩)) _ _ s
    refine wpAny_bind (wpAny_of_eq (PySem.F.newCall_bool_1 _) (wpAny_pure ⟨plainId_quiet (by decide +kernel) _, codeAny_builtin PySem.F.entry_bool_new ?_⟩))
    rw [Around.under_plainId (by decide +kernel) _]
    unfold Builtin.«bool.__new__»
    refine wpAny_bind (wpAny_pure ?_)
    refine wpAny_bind (wpAny_of_eq PySem.F.conv_sub_bool ?_)
    refine wpAny_bind (wpAny_pure ?_)
    refine wpAny_bind (PySem.W.truthy_K F X₀ I hs hf (wpAny_mono h (fun r s₁ hr => ?_) fun _ _ y => y))
    cases r <;> first | exact hr.elim | exact wpAny_pure ⟨_, rfl, hr⟩
  · rintro obj s₁ ⟨y, rfl, hq⟩
    exact ⟨rfl, PySem.F.args_object_init_2 _ _, object_init_meets PySem.F.called_bool.init.lookup PySem.F.called_bool.made (by decide) prog w A.in1 _ s₁ ⟨rfl, rfl, hq⟩⟩
section
variable {X : Cx} {n : Nat}
/-- len(x), x an instance of a class with an own __len__ -/
def rLenI (X : Cx) (n : Nat) : List V → Hp → VK → Prop := fun xs H Q => ∃ (a C dx g : Addr) (fs : List (Str × V)) (sp : Sp), xs = [V.ref a] ∧ H a = some (.ins C dx fs) ∧ LE.Own X n "__len__" C g sp ∧ sp [.ref a] H (fun z H' => ∃ k : Int, z = .int k ∧ 0 ≤ k ∧ k < 2 ^ 63 ∧ Q z H') E0
theorem call_lenI (hr : Room (n + 1) X.A) : CallR X (.builtin "len") (rLenI X n) := by
  intro pins s σ H xs us Q I r h
  obtain ⟨a, C, dx, g, fs, sp, rfl, ha, O, q⟩ := h
  obtain ⟨u, rfl, ru⟩ := r.one
  cases (show u = Value.ref a from ru)
  obtain ⟨mA, J, _⟩ := ins_get I.hok ha
  obtain ⟨od, J, _⟩ := J.look
  obtain ⟨m, hF⟩ := I.fr
  have hr1 : Room n X.A.in1 := Room.in1 hr
  refine PySem.W.len_K hF I.ok.mod.kin J O.at_ O.fn (wpAny_mono (wpAny_call (LE.run_in (us := [.ref a]) (ws := [.ref a]) O.F hr1 I.env0.in1 I (.cons rfl .nil) q)) (fun w s' z => ?_) fun _ _ x => x)
  obtain ⟨z', H', I', rz, k, ez, k0, k1, qz⟩ := z
  subst ez
  obtain ⟨t, e⟩ := (show ∃ t, w = Value.int k t from rz)
  cases e
  exact ⟨⟨k0, k1⟩, .int k, H', I'.tok _, ⟨_, rfl⟩, qz⟩
/-- bool(x), x an instance of a class with an own __bool__ -/
def rBoolI (X : Cx) (n : Nat) : List V → Hp → VK → Prop := fun xs H Q => ∃ (a C dx g : Addr) (fs : List (Str × V)) (sp : Sp), xs = [V.ref a] ∧ H a = some (.ins C dx fs) ∧ LE.Own X n "__bool__" C g sp ∧ sp [.ref a] H (fun z H' => ∃ k : Bool, z = .bl k ∧ Q z H') E0
theorem call_boolI (hr : Room (n + 2) X.A) : CallR X (.type "bool") (rBoolI X n) := by
  intro pins s σ H xs us Q I r h
  obtain ⟨a, C, dx, g, fs, sp, rfl, ha, O, q⟩ := h
  obtain ⟨u, rfl, ru⟩ := r.one
  cases (show u = Value.ref a from ru)
  obtain ⟨mA, J, _⟩ := ins_get I.hok ha
  obtain ⟨od, J, _⟩ := J.look
  obtain ⟨m, hF⟩ := I.fr
  have hr2 : Room n X.A.in1.in1 := (show Room (n + 1) X.A.in1 from Room.in1 hr).in1
  refine kbo_call hF I.ok.mod.kin J O.at_ O.fn (wpAny_mono (wpAny_call (LE.run_in (us := [.ref a]) (ws := [.ref a]) O.F hr2 I.env0.in1.in1 I (.cons rfl .nil) q)) (fun w s' z => ?_) fun _ _ x => x)
  obtain ⟨z', H', I', rz, k, ez, qz⟩ := z
  subst ez
  obtain rfl := (show w = Value.bool k from rz)
  exact ⟨.bl k, H', I', rfl, qz⟩
end
end LD

namespace LC
open PySem L2
section
variable {K : PySem.W.Frag} {a b : Addr} {xs ys : List V}
theorem walk_zipT {n : Nat} (hn : n = min xs.length ys.length) : Walk (RZ.ItzT K a b) n (fun H => SqT K H a xs ∧ SqT K H b ys) (YPair (fun i => xs[i]?) (fun i => ys[i]?)) := by
  have la : ∀ {i}, i < n → i < xs.length ∧ i < ys.length := fun h => by omega
  refine ⟨fun i _ hi q => ⟨xs, ys, xs[i]'(la hi).1, ys[i]'(la hi).2, q.1, q.2, List.getElem?_eq_getElem _, List.getElem?_eq_getElem _⟩, fun _ q => ⟨xs, ys, q.1, q.2, by omega⟩, fun i H v H' _ q y => ?_⟩
  obtain ⟨T, x, z, rest⟩ := y
  exact ⟨T, x, z, rest.1, rest.2.1, rest.2.2.1, rest.2.2.2.1 xs q.1, rest.2.2.2.2 ys q.2⟩
end
theorem kLT_non {K : PySem.W.Frag} : PySem.W.kitAny K (.type "NoneType") [.type "list", .type "tuple"] = some false := kitAny_cons (kit_ty (show kitB "NoneType" "list" = some false by decide +kernel)) (fun _ => kitAny_cons (kit_ty (show kitB "NoneType" "tuple" = some false by decide +kernel)) (fun _ => kitAny_nil) fun z => by cases z) (fun z => by cases z)
theorem kLT_str {K : PySem.W.Frag} : PySem.W.kitAny K (.type "str") [.type "list", .type "tuple"] = some false := kitAny_cons (kit_ty (show kitB "str" "list" = some false by decide +kernel)) (fun _ => kitAny_cons (kit_ty (show kitB "str" "tuple" = some false by decide +kernel)) (fun _ => kitAny_nil) fun z => by cases z) (fun z => by cases z)
theorem kLT_bool {K : PySem.W.Frag} : PySem.W.kitAny K (.type "bool") [.type "list", .type "tuple"] = some false := kitAny_cons (kit_ty (show kitB "bool" "list" = some false by decide +kernel)) (fun _ => kitAny_cons (kit_ty (show kitB "bool" "tuple" = some false by decide +kernel)) (fun _ => kitAny_nil) fun z => by cases z) (fun z => by cases z)
theorem kLT_tup {K : PySem.W.Frag} : PySem.W.kitAny K (.type "tuple") [.type "list", .type "tuple"] = some true := kitAny_cons (kit_ty (show kitB "tuple" "list" = some false by decide +kernel)) (fun _ => kitAny_cons (kit_ty (show kitB "tuple" "tuple" = some true by decide +kernel)) (fun z => by cases z) fun _ => rfl) (fun z => by cases z)
theorem sameT {K : PySem.W.Frag} {H H' : Hp} {a : Addr} {xs : List V} (e : L2.Same H H') (h : SqT K H a xs) : SqT K H' a xs := by
  rcases h with (h | ⟨o, h⟩) | h
  · exact .inl (.inl (e _ _ h))
  · exact .inl (.inr ⟨o, e _ _ h⟩)
  · exact .inr h
/-- both ways of a test go on alike -/
theorem ite_dc {p : Prop} [Decidable p] {A B C : Prop} (h : C) (h1 : p → C → A) (h2 : ¬ p → C → B) : if decide p = true then A else B := by
  by_cases q : p
  · rw [decide_eq_true q]
    exact L2.iteT (h1 q h)
  · rw [decide_eq_false q]
    exact L2.iteF (h2 q h)
theorem cut_lastV (xs : List V) (x : V) : cutV (xs ++ [x]) none (some (-1)) = xs := by
  have e : HT.sIx (xs ++ [x]).length (xs ++ [x]).length (some (-1)) = xs.length := by
    show (if (-1 : Int) < 0 then ((-1 : Int) + (((xs ++ [x]).length : Nat) : Int)).toNat else min (-1 : Int).toNat (xs ++ [x]).length) = xs.length
    rw [if_pos (by decide), List.length_append]
    show ((-1 : Int) + ((xs.length + 1 : Nat) : Int)).toNat = _
    omega
  unfold cutV
  rw [e, HT.sIx_none, Nat.sub_zero, List.drop_zero]
  exact List.take_left' rfl
/-- equal data, told and due -/
def Sc : V → Prop
  | .int _ => True
  | .non => True
  | .bl _ => True
  | .str _ => True
  | _ => False
def mkO (b : Bool) (xs : List V) : HO := if b = true then .lst xs else .tup xs
def Lk (H : Hp) : Nat → V → V → Prop
  | 0, x, y => x = y ∧ Sc x
  | n + 1, x, y => (x = y ∧ Sc x) ∨ ∃ (b : Bool) (p q : Addr) (xs ys : List V), x = .ref p ∧ y = .ref q ∧ H p = some (mkO b xs) ∧ H q = some (mkO b ys) ∧ xs.length = ys.length ∧ xs.length ≤ 1000000 ∧ ∀ (i : Nat) (u v : V), xs[i]? = some u → ys[i]? = some v → Lk H n u v
theorem Lk.same {H H' : Hp} (s : L2.Same H H') : ∀ {n : Nat} {x y : V}, Lk H n x y → Lk H' n x y
  | 0, _, _, h => h
  | n + 1, _, _, .inl h => .inl h
  | n + 1, _, _, .inr ⟨b, p, q, xs, ys, e1, e2, h1, h2, h3, h4, h5⟩ => .inr ⟨b, p, q, xs, ys, e1, e2, s _ _ h1, s _ _ h2, h3, h4, fun i u v a c => (h5 i u v a c).same s⟩
theorem Lk.sc {H : Hp} {x : V} (h : Sc x) : ∀ n, Lk H n x x
  | 0 => ⟨rfl, h⟩
  | _ + 1 => .inl ⟨rfl, h⟩
theorem Lk.cases {H : Hp} {m : Nat} {u v : V} (h : Lk H m u v) : (u = v ∧ Sc u) ∨ ∃ j, m = j + 1 ∧ ∃ (b : Bool) (p q : Addr) (xs ys : List V), u = .ref p ∧ v = .ref q ∧ H p = some (mkO b xs) ∧ H q = some (mkO b ys) ∧ xs.length = ys.length ∧ xs.length ≤ 1000000 ∧ ∀ (i : Nat) (s t : V), xs[i]? = some s → ys[i]? = some t → Lk H j s t := by
  cases m with
  | zero => exact .inl h
  | succ j =>
    rcases h with h | h
    · exact .inl h
    · exact .inr ⟨j, rfl, h⟩
end LC


namespace k47
open PySem L2 LC
def top (i : Nat) : Stmt := PySem.Challenge.pw_surelet_k47_whole_marks_of_a_room.main.body.getD i (.Pass ⟨0, 0, 0, 0⟩)
abbrev scheck_count : Stmt := top 10
abbrev Nmcheck_count : List Str := ["what", "count", "most"]
abbrev Pcheck_count : List Str := ["what", "count", "most"]
theorem sccheck_count : FnScope Nmcheck_count Pcheck_count (defScope scheck_count) := ⟨rfl, rfl, rfl, by decide +kernel, rfl, by decide +kernel, by decide +kernel⟩
abbrev sis_whole : Stmt := top 14
abbrev Nmis_whole : List Str := ["value"]
abbrev Pis_whole : List Str := ["value"]
theorem scis_whole : FnScope Nmis_whole Pis_whole (defScope sis_whole) := ⟨rfl, rfl, rfl, by decide +kernel, rfl, by decide +kernel, by decide +kernel⟩
abbrev sis_number : Stmt := top 15
abbrev Nmis_number : List Str := ["value", "least", "most"]
abbrev Pis_number : List Str := ["value", "least", "most"]
theorem scis_number : FnScope Nmis_number Pis_number (defScope sis_number) := ⟨rfl, rfl, rfl, by decide +kernel, rfl, by decide +kernel, by decide +kernel⟩
abbrev sis_name : Stmt := top 16
abbrev Nmis_name : List Str := ["value", "sign"]
abbrev Pis_name : List Str := ["value"]
theorem scis_name : FnScope Nmis_name Pis_name (defScope sis_name) := ⟨rfl, rfl, rfl, by decide +kernel, rfl, by decide +kernel, by decide +kernel⟩
abbrev shas_name : Stmt := top 17
abbrev Nmhas_name : List Str := ["table", "value"]
abbrev Phas_name : List Str := ["table", "value"]
theorem schas_name : FnScope Nmhas_name Phas_name (defScope shas_name) := ⟨rfl, rfl, rfl, by decide +kernel, rfl, by decide +kernel, by decide +kernel⟩
abbrev slook_up : Stmt := top 18
abbrev Nmlook_up : List Str := ["table", "value"]
abbrev Plook_up : List Str := ["table", "value"]
theorem sclook_up : FnScope Nmlook_up Plook_up (defScope slook_up) := ⟨rfl, rfl, rfl, by decide +kernel, rfl, by decide +kernel, by decide +kernel⟩
abbrev sleast_multiple : Stmt := top 20
abbrev Nmleast_multiple : List Str := ["numbers", "found", "number"]
abbrev Pleast_multiple : List Str := ["numbers"]
theorem scleast_multiple : FnScope Nmleast_multiple Pleast_multiple (defScope sleast_multiple) := ⟨rfl, rfl, rfl, by decide +kernel, rfl, by decide +kernel, by decide +kernel⟩
abbrev scheck_cost : Stmt := top 22
abbrev Nmcheck_cost : List Str := ["cost"]
abbrev Pcheck_cost : List Str := ["cost"]
theorem sccheck_cost : FnScope Nmcheck_cost Pcheck_cost (defScope scheck_cost) := ⟨rfl, rfl, rfl, by decide +kernel, rfl, by decide +kernel, by decide +kernel⟩
abbrev sRoom_init : Stmt := inClass (top 23) 0
abbrev NmRoom_init : List Str := ["self", "weights", "customer"]
abbrev PRoom_init : List Str := ["self", "weights"]
theorem scRoom_init : FnScope NmRoom_init PRoom_init (defScope sRoom_init) := ⟨rfl, rfl, rfl, by decide +kernel, rfl, by decide +kernel, by decide +kernel⟩
abbrev sRoom_head : Stmt := inClass (top 23) 6
abbrev NmRoom_head : List Str := ["self", "turns", "at", "row"]
abbrev PRoom_head : List Str := ["self"]
theorem scRoom_head : FnScope NmRoom_head PRoom_head (defScope sRoom_head) := ⟨rfl, rfl, rfl, by decide +kernel, rfl, by decide +kernel, by decide +kernel⟩
abbrev sRoom_level : Stmt := inClass (top 23) 7
abbrev NmRoom_level : List Str := ["self"]
abbrev PRoom_level : List Str := ["self"]
theorem scRoom_level : FnScope NmRoom_level PRoom_level (defScope sRoom_level) := ⟨rfl, rfl, rfl, by decide +kernel, rfl, by decide +kernel, by decide +kernel⟩
abbrev sRoom_scale : Stmt := inClass (top 23) 8
abbrev NmRoom_scale : List Str := ["self"]
abbrev PRoom_scale : List Str := ["self"]
theorem scRoom_scale : FnScope NmRoom_scale PRoom_scale (defScope sRoom_scale) := ⟨rfl, rfl, rfl, by decide +kernel, rfl, by decide +kernel, by decide +kernel⟩
abbrev sRoom_len : Stmt := inClass (top 23) 9
abbrev NmRoom_len : List Str := ["self"]
abbrev PRoom_len : List Str := ["self"]
theorem scRoom_len : FnScope NmRoom_len PRoom_len (defScope sRoom_len) := ⟨rfl, rfl, rfl, by decide +kernel, rfl, by decide +kernel, by decide +kernel⟩
abbrev sRoom_bool : Stmt := inClass (top 23) 10
abbrev NmRoom_bool : List Str := ["self"]
abbrev PRoom_bool : List Str := ["self"]
theorem scRoom_bool : FnScope NmRoom_bool PRoom_bool (defScope sRoom_bool) := ⟨rfl, rfl, rfl, by decide +kernel, rfl, by decide +kernel, by decide +kernel⟩
abbrev sRoom_mark_of : Stmt := inClass (top 23) 5
abbrev NmRoom_mark_of : List Str := ["self", "customer"]
abbrev PRoom_mark_of : List Str := ["self", "customer"]
theorem scRoom_mark_of : FnScope NmRoom_mark_of PRoom_mark_of (defScope sRoom_mark_of) := ⟨rfl, rfl, rfl, by decide +kernel, rfl, by decide +kernel, by decide +kernel⟩
abbrev sRoom_waiting : Stmt := inClass (top 23) 4
abbrev NmRoom_waiting : List Str := ["self"]
abbrev PRoom_waiting : List Str := ["self"]
theorem scRoom_waiting : FnScope NmRoom_waiting PRoom_waiting (defScope sRoom_waiting) := ⟨rfl, rfl, rfl, by decide +kernel, rfl, by decide +kernel, by decide +kernel⟩
abbrev sRoom_join : Stmt := inClass (top 23) 1
abbrev NmRoom_join : List Str := ["self", "customer", "cost", "until", "mark", "other", "_"]
abbrev PRoom_join : List Str := ["self", "customer", "cost", "until"]
theorem scRoom_join : FnScope NmRoom_join PRoom_join (defScope sRoom_join) := ⟨rfl, rfl, rfl, by decide +kernel, rfl, by decide +kernel, by decide +kernel⟩
abbrev sRoom_serve : Stmt := inClass (top 23) 2
abbrev NmRoom_serve : List Str := ["self", "head", "customer", "cost", "_"]
abbrev PRoom_serve : List Str := ["self"]
theorem scRoom_serve : FnScope NmRoom_serve PRoom_serve (defScope sRoom_serve) := ⟨rfl, rfl, rfl, by decide +kernel, rfl, by decide +kernel, by decide +kernel⟩
abbrev sRoom_leave : Stmt := inClass (top 23) 3
abbrev NmRoom_leave : List Str := ["self", "reading", "gone", "customer", "_", "until", "row"]
abbrev PRoom_leave : List Str := ["self", "reading"]
theorem scRoom_leave : FnScope NmRoom_leave PRoom_leave (defScope sRoom_leave) := ⟨rfl, rfl, rfl, by decide +kernel, rfl, by decide +kernel, by decide +kernel⟩
abbrev sRoom_copy : Stmt := inClass (top 23) 11
abbrev NmRoom_copy : List Str := ["self", "other"]
abbrev PRoom_copy : List Str := ["self"]
theorem scRoom_copy : FnScope NmRoom_copy PRoom_copy (defScope sRoom_copy) := ⟨rfl, rfl, rfl, by decide +kernel, rfl, by decide +kernel, by decide +kernel⟩
abbrev sbag : Stmt := top 25
abbrev Nmbag : List Str := ["_law_script", "_law_seed", "_law_item"]
abbrev Pbag : List Str := ["_law_script"]
theorem scbag : FnScope Nmbag Pbag (defScope sbag) := ⟨rfl, rfl, rfl, by decide +kernel, rfl, by decide +kernel, by decide +kernel⟩
abbrev sdraw : Stmt := top 26
abbrev Nmdraw : List Str := ["_law_bag_here", "_law_size", "_law_item", "_law_digit"]
abbrev Pdraw : List Str := ["_law_bag_here", "_law_size"]
theorem scdraw : FnScope Nmdraw Pdraw (defScope sdraw) := ⟨rfl, rfl, rfl, by decide +kernel, rfl, by decide +kernel, by decide +kernel⟩
abbrev sof : Stmt := top 27
abbrev Nmof : List Str := ["_law_bag_here", "_law_things"]
abbrev Pof : List Str := ["_law_bag_here", "_law_things"]
theorem scof : FnScope Nmof Pof (defScope sof) := ⟨rfl, rfl, rfl, by decide +kernel, rfl, by decide +kernel, by decide +kernel⟩
abbrev snames : Stmt := top 28
abbrev Nmnames : List Str := ["_law_bag_here", "_law_count", "_law_words", "_law_k", "_law_word", "_law_sign"]
abbrev Pnames : List Str := ["_law_bag_here", "_law_count"]
theorem scnames : FnScope Nmnames Pnames (defScope snames) := ⟨rfl, rfl, rfl, by decide +kernel, rfl, by decide +kernel, by decide +kernel⟩
abbrev slike : Stmt := top 29
abbrev Nmlike : List Str := ["_law_told", "_law_due", "_law_a", "_law_b"]
abbrev Plike : List Str := ["_law_told", "_law_due"]
theorem sclike : FnScope Nmlike Plike (defScope slike) := ⟨rfl, rfl, rfl, by decide +kernel, rfl, by decide +kernel, by decide +kernel⟩
abbrev sscale : Stmt := top 30
abbrev Nmscale : List Str := ["_law_weights", "_law_scale_here", "_law_weight", "_law_step"]
abbrev Pscale : List Str := ["_law_weights"]
theorem scscale : FnScope Nmscale Pscale (defScope sscale) := ⟨rfl, rfl, rfl, by decide +kernel, rfl, by decide +kernel, by decide +kernel⟩
abbrev shead : Stmt := top 31
abbrev Nmhead : List Str := ["_law_room", "_law_ranks", "_law_at", "_law_one"]
abbrev Phead : List Str := ["_law_room"]
theorem schead : FnScope Nmhead Phead (defScope shead) := ⟨rfl, rfl, rfl, by decide +kernel, rfl, by decide +kernel, by decide +kernel⟩
abbrev sjoin : Stmt := top 32
abbrev Nmjoin : List Str := ["_law_room", "_law_who", "_law_price", "_law_limit", "_law_marks", "_law_one"]
abbrev Pjoin : List Str := ["_law_room", "_law_who", "_law_price", "_law_limit"]
theorem scjoin : FnScope Nmjoin Pjoin (defScope sjoin) := ⟨rfl, rfl, rfl, by decide +kernel, rfl, by decide +kernel, by decide +kernel⟩
abbrev sserve : Stmt := top 33
abbrev Nmserve : List Str := ["_law_room", "_law_weights", "_law_scale_here", "_law_at", "_law_who", "_law_price", "_law_limit", "_law_marks"]
abbrev Pserve : List Str := ["_law_room", "_law_weights", "_law_scale_here"]
theorem scserve : FnScope Nmserve Pserve (defScope sserve) := ⟨rfl, rfl, rfl, by decide +kernel, rfl, by decide +kernel, by decide +kernel⟩
abbrev salike : Stmt := top 34
abbrev Nmalike : List Str := ["_law_room", "_law_mine", "_law_names_here", "_law_scale_here", "_law_head_here", "_law_due", "_law_told", "_law_marks", "_law_name"]
abbrev Palike : List Str := ["_law_room", "_law_mine", "_law_names_here", "_law_scale_here"]
theorem scalike : FnScope Nmalike Palike (defScope salike) := ⟨rfl, rfl, rfl, by decide +kernel, rfl, by decide +kernel, by decide +kernel⟩
abbrev sdeed : Stmt := top 35
abbrev Nmdeed : List Str := ["_law_bag_here", "_law_room", "_law_mine", "_law_names_here", "_law_weights", "_law_scale_here", "_law_kind", "_law_reading", "_law_gone", "_law_who", "_law_price", "_law_limit", "_law_one"]
abbrev Pdeed : List Str := ["_law_bag_here", "_law_room", "_law_mine", "_law_names_here", "_law_weights", "_law_scale_here"]
theorem scdeed : FnScope Nmdeed Pdeed (defScope sdeed) := ⟨rfl, rfl, rfl, by decide +kernel, rfl, by decide +kernel, by decide +kernel⟩
abbrev slaw : Stmt := top 36
abbrev Nmlaw : List Str := ["_law_script", "_law_bag_here", "_law_names_here", "_law_weights", "_law_marks", "_law_name", "_law_scale_here", "_law_given", "_law_room", "_law_mine", "_law_pairs", "_law_turn", "_law_twin", "_law_told", "_law_one", "_law_other"]
abbrev Plaw : List Str := ["_law_script"]
theorem sclaw : FnScope Nmlaw Plaw (defScope slaw) := ⟨rfl, rfl, rfl, by decide +kernel, rfl, by decide +kernel, by decide +kernel⟩
structure Txt (K : PySem.W.Frag) (mg : Str → Option Value) : Prop where
  n_all : mg "all" = none
  n_bool : mg "bool" = none
  n_dict : mg "dict" = none
  n_enumerate : mg "enumerate" = none
  n_int : mg "int" = none
  n_isinstance : mg "isinstance" = none
  n_len : mg "len" = none
  n_list : mg "list" = none
  n_max : mg "max" = none
  n_min : mg "min" = none
  n_range : mg "range" = none
  n_str : mg "str" = none
  n_tuple : mg "tuple" = none
  n_zip : mg "zip" = none
  c_DIGITS : ∃ t, mg "DIGITS" = some (.str "0123456789" t)
  c_LETTERS : ∃ t, mg "LETTERS" = some (.str "abcdefghijklmnopqrstuvwxyz" t)
  c_MOST_COST : ∃ t, mg "MOST_COST" = some (.int 1000 t)
  c_MOST_WAITING : ∃ t, mg "MOST_WAITING" = some (.int 40 t)
open RM
/-- the addresses of what the program's top has made for the rooms -/
structure Ar where
  (c i fhead fjoin fserve fleave fwaiting fmark_of flevel fscale flen fbool fcopy phead plevel pscale : Addr)
structure Kr (K : PySem.W.Frag) (mg : Str → Option Value) (r : Ar) : Prop where
  cl : Cls K r.c
  nw : NoAttr K r.c "_weights"
  nm : NoAttr K r.c "_marks"
  nl : NoAttr K r.c "_level"
  ns : NoAttr K r.c "_scale"
  nq : NoAttr K r.c "_waiting"
  mjoin : Meth K r.c "join" r.fjoin
  mserve : Meth K r.c "serve" r.fserve
  mleave : Meth K r.c "leave" r.fleave
  mwaiting : Meth K r.c "waiting" r.fwaiting
  mmark_of : Meth K r.c "mark_of" r.fmark_of
  mcopy : Meth K r.c "copy" r.fcopy
  phead : PropOf K r.c "head" r.phead r.fhead
  plevel : PropOf K r.c "level" r.plevel r.flevel
  pscale : PropOf K r.c "scale" r.pscale r.fscale
  l1 : PySem.W.findIn K (.ref r.c) "__len__" = some (some (.ref r.flen))
  l2 : PySem.W.isFn K (.ref r.flen) = true
  b1 : PySem.W.findIn K (.ref r.c) "__bool__" = some (some (.ref r.fbool))
  b2 : PySem.W.isFn K (.ref r.fbool) = true
  m : Mk K r.c r.i
  g : mg "Room" = some (.ref r.c)
  gl : mg "lcm" = some (.builtin "math.lcm")
/-! ### frames -/
/-- all but what is in F is as it was -/
def KpF (F : Addr → Prop) (H H' : Hp) : Prop := ∀ b o, ¬ F b → H b = some o → H' b = some o
theorem KpF.refl (F : Addr → Prop) (H : Hp) : KpF F H H := fun _ _ _ e => e
theorem KpF.trans {F : Addr → Prop} {H H1 H2 : Hp} (a : KpF F H H1) (b : KpF F H1 H2) : KpF F H H2 := fun c o n e => b c o n (a c o n e)
theorem KpF.same {F : Addr → Prop} {H H' : Hp} (s : Same H H') : KpF F H H' := fun b o _ e => s b o e
theorem KpF.mono {F G : Addr → Prop} {H H' : Hp} (k : KpF F H H') (h : ∀ b, F b → G b) : KpF G H H' := fun b o n e => k b o (fun z => n (h b z)) e
theorem KpF.upd {F : Addr → Prop} {H H1 : Hp} {p : Addr} {o : HO} (k : KpF F H H1) (h : F p) : KpF F H (L2.upd H1 p o) := fun b u n e => by
  rw [upd_ne (fun z => n (by rw [z]; exact h))]
  exact k b u n e
theorem KpF.new {F : Addr → Prop} {H H1 : Hp} {p : Addr} {o : HO} (k : KpF F H H1) (h : H1 p = none) : KpF F H (L2.upd H1 p o) := fun b u n e => by
  have q := k b u n e
  rw [upd_ne (ne_of_none q h)]
  exact q
theorem KpF.kp {F : Addr → Prop} {g : Addr} {H H' : Hp} (hg : F g) (k : Kp g H H') : KpF F H H' := fun b o n e => k b o (fun z => n (z ▸ hg)) e
/-! ### rows of a line -/
abbrev Row := Str × Int × Option Int
def uV : Option Int → V
  | none => .non
  | some i => .int i
def rowV (q : Row) : List V := [.str q.1, .int q.2.1, uV q.2.2]
/-- the row stands at t, not in F -/
def RowAt (F : Addr → Prop) (H : Hp) (t : Addr) (q : Row) : Prop := ¬ F t ∧ H t = some (.tup (rowV q))
theorem RowAt.kp {F : Addr → Prop} {H H' : Hp} (k : KpF F H H') {t : Addr} {q : Row} (h : RowAt F H t q) : RowAt F H' t q := ⟨h.1, k _ _ h.1 h.2⟩
abbrev Lines (F : Addr → Prop) (H : Hp) (ts : List Addr) (ln : List Row) : Prop := Paired (RowAt F H) ts ln
theorem Lines.kp {F : Addr → Prop} {H H' : Hp} (k : KpF F H H') {ts : List Addr} {ln : List Row} (h : Lines F H ts ln) : Lines F H' ts ln := h.mono fun _ _ => RowAt.kp k
theorem Lines.at_ {F : Addr → Prop} {H : Hp} : ∀ {ts : List Addr} {ln : List Row}, Lines F H ts ln → ∀ {i : Nat} {t : Addr}, ts[i]? = some t → ∃ q, ln[i]? = some q ∧ RowAt F H t q
  | _, _, .nil, i, t, e => by simp at e
  | _, _, .cons h p, 0, t, e => by
    simp at e
    subst e
    exact ⟨_, rfl, h⟩
  | _, _, .cons h p, i + 1, t, e => by
    obtain ⟨q, e1, e2⟩ := Lines.at_ p (i := i) (t := t) (by simpa using e)
    exact ⟨q, by simpa using e1, e2⟩
/-! ### the state of a room -/
structure RS where
  kv : List (Key × V)
  lv : Int
  ln : List Row
def kS (z : Str) : Key := .inr z
/-- the mark of a name -/
def markOf (kv : List (Key × V)) (z : Str) : Int := match valV kv (kS z) with
  | some (.int i) => i
  | _ => 0
/-- each name of ns has an int in the dict, and has the form of a name -/
def Dic (ns : List Str) (kv : List (Key × V)) : Prop := kv.length ≤ 1000 ∧ ∀ z ∈ ns, valV kv (kS z) = some (.int (markOf kv z))
theorem mark_of {kv : List (Key × V)} {z : Str} {i : Int} (h : valV kv (kS z) = some (.int i)) : markOf kv z = i := by
  unfold markOf
  rw [h]
theorem len_putK {kv : List (Key × V)} {k : Key} {v u : V} (h : valV kv k = some u) : (putK kv k v).length = kv.length := by
  unfold putK
  rw [valV_any, h]
  simp
theorem Dic.put {ns : List Str} {kv : List (Key × V)} (d : Dic ns kv) {z : Str} (hz : z ∈ ns) (i : Int) : Dic ns (putK kv (kS z) (.int i)) ∧ markOf (putK kv (kS z) (.int i)) z = i ∧ ∀ y, y ≠ z → markOf (putK kv (kS z) (.int i)) y = markOf kv y := by
  have v0 : valV (putK kv (kS z) (.int i)) (kS z) = some (.int i) := by rw [valV_put, if_pos rfl]
  have v1 : ∀ y, y ≠ z → valV (putK kv (kS z) (.int i)) (kS y) = valV kv (kS y) := fun y n => by
    rw [valV_put, if_neg (show ¬ kS y = kS z from fun e => n (Sum.inr.inj e))]
  refine ⟨⟨by rw [len_putK (d.2 z hz)]; exact d.1, fun y hy => ?_⟩, mark_of v0, fun y n => ?_⟩
  · by_cases e : y = z
    · subst e
      rw [mark_of v0]
      exact v0
    · rw [v1 y e, d.2 y hy]
      unfold markOf
      rw [v1 y e, d.2 y hy]
  · unfold markOf
    rw [v1 y n]
/-- the ranks of a line's rows -/
abbrev Rank := PySem.W.T3 Int Str Int
def ranks (kv : List (Key × V)) (ln : List Row) : List Rank := ln.mapIdx fun i q => ⟨markOf kv q.1, q.1, (i : Int)⟩
/-- the place of the head -/
def headAt (kv : List (Key × V)) (ln : List Row) : Option Nat := match ranks kv ln with
  | [] => none
  | r0 :: rs => some (PySem.W.minOf r0 rs).c.toNat
theorem min_mem {α : Type} [DecidableEq α] [PySem.W.DatumOrd α] (x : α) : ∀ xs : List α, PySem.W.minOf x xs ∈ x :: xs := by
  intro xs
  unfold PySem.W.minOf
  induction xs generalizing x with
  | nil => exact List.mem_cons_self ..
  | cons y ys ih =>
    rw [List.foldl_cons]
    have h := ih (if PySem.W.DatumOrd.lt y x = true then y else x)
    rcases List.mem_cons.mp h with h | h
    · rw [h]
      split
      · exact List.mem_cons_of_mem _ (List.mem_cons_self ..)
      · exact List.mem_cons_self ..
    · exact List.mem_cons_of_mem _ (List.mem_cons_of_mem _ h)
theorem ranks_at {kv : List (Key × V)} {ln : List Row} {i : Nat} {a : Rank} (h : (ranks kv ln)[i]? = some a) : ∃ q, ln[i]? = some q ∧ a = ⟨markOf kv q.1, q.1, (i : Int)⟩ := by
  unfold ranks at h
  rw [List.getElem?_mapIdx] at h
  cases e : ln[i]? with
  | none => rw [e] at h; cases h
  | some q =>
    rw [e] at h
    cases h
    exact ⟨q, rfl, rfl⟩
theorem ranks_len (kv : List (Key × V)) (ln : List Row) : (ranks kv ln).length = ln.length := by
  unfold ranks
  rw [List.length_mapIdx]
/-- the head's place is a place, and its rank the least one -/
theorem headAt_cons {kv : List (Key × V)} {ln : List Row} {r0 : Rank} {rs : List Rank} (e : ranks kv ln = r0 :: rs) : ∃ (j : Nat) (q : Row), headAt kv ln = some j ∧ ln[j]? = some q ∧ j < ln.length ∧ PySem.W.minOf r0 rs = ⟨markOf kv q.1, q.1, (j : Int)⟩ := by
  have hm := min_mem r0 rs
  rw [← e] at hm
  obtain ⟨j, hj⟩ := List.mem_iff_getElem?.mp hm
  obtain ⟨q, hq, ea⟩ := ranks_at hj
  refine ⟨j, q, ?_, hq, (List.getElem?_eq_some_iff.mp hq).1, ea⟩
  unfold headAt
  rw [e]
  show some (PySem.W.minOf r0 rs).c.toNat = some j
  rw [ea]
  rfl
theorem headAt_nil {kv : List (Key × V)} : headAt kv [] = none := rfl
/-! ### a room in the heap -/
structure RF (fs : List (Str × V)) (W D L : Addr) (lv sc : Int) : Prop where
  w : fs.lookup ("_weights" : Str) = some (.ref W)
  m : fs.lookup ("_marks" : Str) = some (.ref D)
  l : fs.lookup ("_level" : Str) = some (.int lv)
  s : fs.lookup ("_scale" : Str) = some (.int sc)
  q : fs.lookup ("_waiting" : Str) = some (.ref L)
  join : fs.lookup ("join" : Str) = none
  serve : fs.lookup ("serve" : Str) = none
  leave : fs.lookup ("leave" : Str) = none
  waiting : fs.lookup ("waiting" : Str) = none
  mark_of : fs.lookup ("mark_of" : Str) = none
  copy : fs.lookup ("copy" : Str) = none
  len : fs.length ≤ 5
theorem len_putF {f : Str} {v u : V} : ∀ {fs : List (Str × V)}, fs.lookup f = some u → (putF f v fs).length = fs.length
  | [], h => by cases h
  | (k, x) :: r, h => by
    show (if k = f then (k, v) :: r else (k, x) :: putF f v r).length = _
    by_cases e : k = f
    · rw [if_pos e]
      rfl
    · rw [if_neg e, List.length_cons, List.length_cons, len_putF (fs := r) (u := u)]
      have hb : (f == k) = false := beq_eq_false_iff_ne.mpr (fun z => e z.symm)
      simpa [List.lookup, hb] using h
theorem lkp {f g : Str} {v : V} {fs : List (Str × V)} (h : decide (g = f) = false) : (putF f v fs).lookup g = fs.lookup g := by rw [lookup_putF, if_neg (of_decide_eq_false h)]
theorem lke {f : Str} {v : V} {fs : List (Str × V)} : (putF f v fs).lookup f = some v := by rw [lookup_putF, if_pos rfl]
theorem RF.level {fs : List (Str × V)} {W D L : Addr} {lv sc : Int} (h : RF fs W D L lv sc) (i : Int) : RF (putF "_level" (.int i) fs) W D L i sc :=
  ⟨(lkp (by decide +kernel)).trans h.w, (lkp (by decide +kernel)).trans h.m, lke, (lkp (by decide +kernel)).trans h.s, (lkp (by decide +kernel)).trans h.q, (lkp (by decide +kernel)).trans h.join, (lkp (by decide +kernel)).trans h.serve, (lkp (by decide +kernel)).trans h.leave, (lkp (by decide +kernel)).trans h.waiting, (lkp (by decide +kernel)).trans h.mark_of, (lkp (by decide +kernel)).trans h.copy, by rw [len_putF h.l]; exact h.len⟩
theorem RF.line {fs : List (Str × V)} {W D L : Addr} {lv sc : Int} (h : RF fs W D L lv sc) (M : Addr) : RF (putF "_waiting" (.ref M) fs) W D M lv sc :=
  ⟨(lkp (by decide +kernel)).trans h.w, (lkp (by decide +kernel)).trans h.m, (lkp (by decide +kernel)).trans h.l, (lkp (by decide +kernel)).trans h.s, lke, (lkp (by decide +kernel)).trans h.join, (lkp (by decide +kernel)).trans h.serve, (lkp (by decide +kernel)).trans h.leave, (lkp (by decide +kernel)).trans h.waiting, (lkp (by decide +kernel)).trans h.mark_of, (lkp (by decide +kernel)).trans h.copy, by rw [len_putF h.q]; exact h.len⟩
theorem RF.marks {fs : List (Str × V)} {W D L : Addr} {lv sc : Int} (h : RF fs W D L lv sc) (M : Addr) : RF (putF "_marks" (.ref M) fs) W M L lv sc :=
  ⟨(lkp (by decide +kernel)).trans h.w, lke, (lkp (by decide +kernel)).trans h.l, (lkp (by decide +kernel)).trans h.s, (lkp (by decide +kernel)).trans h.q, (lkp (by decide +kernel)).trans h.join, (lkp (by decide +kernel)).trans h.serve, (lkp (by decide +kernel)).trans h.leave, (lkp (by decide +kernel)).trans h.waiting, (lkp (by decide +kernel)).trans h.mark_of, (lkp (by decide +kernel)).trans h.copy, by rw [len_putF h.m]; exact h.len⟩
/-- the room at x: its dict of marks at D, its line at L; these three are in F, what else it holds is not -/
structure RoomAt (r : Ar) (F : Addr → Prop) (H : Hp) (x D L : Addr) (wv : List (Key × V)) (sc : Int) (s : RS) : Prop where
  ex : ∃ (dx W : Addr) (fs : List (Str × V)) (ts : List Addr), H x = some (.ins r.c dx fs) ∧ RF fs W D L s.lv sc ∧ H W = some (.dK wv) ∧ ¬ F W ∧ H D = some (.dK s.kv) ∧ H L = some (.lst (ts.map V.ref)) ∧ Lines F H ts s.ln
  fx : F x
  fD : F D
  fL : F L
/-- what is not of this room stays apart -/
theorem RoomAt.kp {r : Ar} {F G : Addr → Prop} {H H' : Hp} {x D L : Addr} {wv : List (Key × V)} {sc : Int} {s : RS} (R : RoomAt r F H x D L wv sc s) (k : KpF G H H') (sub : ∀ b, G b → F b) (nx : ¬ G x) (nD : ¬ G D) (nL : ¬ G L) : RoomAt r F H' x D L wv sc s := by
  obtain ⟨⟨dx, W, fs, ts, h1, h2, h3, h4, h5, h6, h7⟩, f1, f2, f3⟩ := R
  exact ⟨⟨dx, W, fs, ts, k _ _ nx h1, h2, k _ _ (fun z => h4 (sub _ z)) h3, h4, k _ _ nD h5, k _ _ nL h6, h7.kp (k.mono sub)⟩, f1, f2, f3⟩
theorem RoomAt.same {r : Ar} {F : Addr → Prop} {H H' : Hp} {x D L : Addr} {wv : List (Key × V)} {sc : Int} {s : RS} (R : RoomAt r F H x D L wv sc s) (k : Same H H') : RoomAt r F H' x D L wv sc s :=
  R.kp (G := fun _ => False) (KpF.same k) (fun _ z => z.elim) id id id
/-! ### least common multiples -/
theorem d27720 {w : Int} (h0 : 1 ≤ w) (h1 : w ≤ 12) : w.natAbs ∣ 27720 := by
  have q : ∀ n : Fin 13, n.val ≠ 0 → n.val ∣ 27720 := by decide
  exact q ⟨w.natAbs, by omega⟩ (by show w.natAbs ≠ 0; omega)
def lcmL (ws : List Int) : Int := ws.foldl lcmI 1
theorem lcm_fold : ∀ (ws : List Int) (f : Int), 1 ≤ f → f.natAbs ∣ 27720 → (∀ w ∈ ws, 1 ≤ w ∧ w ≤ 12) → 1 ≤ ws.foldl lcmI f ∧ (ws.foldl lcmI f).natAbs ∣ 27720
  | [], f, h0, h1, _ => ⟨h0, h1⟩
  | w :: ws, f, h0, h1, hw => by
    obtain ⟨w0, w1⟩ := hw w (List.mem_cons_self ..)
    exact lcm_fold ws _ (lcmI_pos (by omega) (by omega)) (lcmI_dvd h1 (d27720 w0 w1)) fun v hv => hw v (List.mem_cons_of_mem _ hv)
theorem lcm_le {ws : List Int} (hw : ∀ w ∈ ws, 1 ≤ w ∧ w ≤ 12) (i : Nat) : 1 ≤ lcmL (ws.take i) ∧ lcmL (ws.take i) ≤ 27720 := by
  obtain ⟨h1, h2⟩ := lcm_fold (ws.take i) 1 (by decide) (by decide) fun w hm => hw w (List.mem_of_mem_take hm)
  refine ⟨h1, ?_⟩
  have := Nat.le_of_dvd (by decide) h2
  show (ws.take i).foldl lcmI 1 ≤ 27720
  omega
theorem lcm_next {ws : List Int} {i : Nat} {w : Int} (h : ws[i]? = some w) : lcmL (ws.take (i + 1)) = lcmI (lcmL (ws.take i)) w := by
  unfold lcmL
  rw [List.take_add_one, h, List.foldl_append]
  rfl
/-- the first multiple -/
theorem first_mult {s w : Int} (hs : 1 ≤ s) (h0 : 1 ≤ w) (h1 : w ≤ 12) : ∃ k : Nat, k < 12 ∧ s * (1 + (k : Int)) = lcmI s w ∧ (s * (1 + (k : Int))).fmod w = 0 ∧ ∀ j : Nat, j < k → (s * (1 + (j : Int))).fmod w ≠ 0 := by
  obtain ⟨S, rfl⟩ : ∃ S : Nat, s = (S : Int) := ⟨s.toNat, by omega⟩
  obtain ⟨W, rfl⟩ : ∃ W : Nat, w = (W : Int) := ⟨w.toNat, by omega⟩
  have hS : 0 < S := by omega
  have hW : 0 < W := by omega
  have hg : 0 < Nat.gcd S W := Nat.gcd_pos_of_pos_left _ hS
  have hgW : Nat.gcd S W ∣ W := Nat.gcd_dvd_right S W
  obtain ⟨m, hm⟩ := hgW
  have hm0 : 0 < m := by
    rcases Nat.eq_zero_or_pos m with z | z
    · rw [z, Nat.mul_zero] at hm; omega
    · exact z
  have hmW : m ≤ W := by
    rw [hm]
    exact Nat.le_mul_of_pos_left _ hg
  have el : Nat.lcm S W = S * m := by
    have q : Nat.lcm S W = S * W / Nat.gcd S W := rfl
    rw [q]
    conv => lhs; rw [show S * W = S * (Nat.gcd S W * m) by rw [← hm]]
    rw [show S * (Nat.gcd S W * m) = Nat.gcd S W * (S * m) by rw [Nat.mul_left_comm]]
    exact Nat.mul_div_cancel_left _ hg
  have cast : ∀ j : Nat, (S : Int) * (1 + (j : Int)) = ((S * (j + 1) : Nat) : Int) := fun j => by
    rw [Int.natCast_mul, Int.natCast_add, Int.add_comm 1]
    rfl
  have fm : ∀ j : Nat, ((S : Int) * (1 + (j : Int))).fmod (W : Int) = ((S * (j + 1) % W : Nat) : Int) := fun j => by
    rw [cast, fmod_nat]
  refine ⟨m - 1, by omega, ?_, ?_, fun j hj e => ?_⟩
  · rw [cast, show m - 1 + 1 = m by omega, ← el]
    rfl
  · rw [fm, show m - 1 + 1 = m by omega, ← el]
    have := Nat.mod_eq_zero_of_dvd (Nat.dvd_lcm_right S W)
    omega
  · rw [fm] at e
    have d1 : W ∣ S * (j + 1) := Nat.dvd_of_mod_eq_zero (by omega)
    have d2 : S ∣ S * (j + 1) := Nat.dvd_mul_right _ _
    have d3 := Nat.lcm_dvd d2 d1
    rw [el] at d3
    have d4 := Nat.le_of_dvd (by omega) (Nat.dvd_of_mul_dvd_mul_left hS d3)
    omega
theorem same_upd {Hb H : Hp} {x : Addr} {o : HO} (hb : Hb x = none) (s : Same Hb H) : Same Hb (upd H x o) := fun c u e => by
  rw [upd_ne (ne_of_none e hb)]
  exact s c u e
theorem pair_at {α β : Type} {R : α → β → Prop} : ∀ {xs : List α} {ys : List β}, Paired R xs ys → ∀ {i : Nat} {x : α}, xs[i]? = some x → ∃ y, ys[i]? = some y ∧ R x y
  | _, _, .nil, i, t, e => by simp at e
  | _, _, .cons h p, 0, t, e => by
    simp at e
    subst e
    exact ⟨_, rfl, h⟩
  | _, _, .cons h p, i + 1, t, e => by
    obtain ⟨q, e1, e2⟩ := pair_at p (i := i) (x := t) (by simpa using e)
    exact ⟨q, by simpa using e1, e2⟩
theorem pair_at' {α β : Type} {R : α → β → Prop} : ∀ {xs : List α} {ys : List β}, Paired R xs ys → ∀ {i : Nat} {y : β}, ys[i]? = some y → ∃ x, xs[i]? = some x ∧ R x y
  | _, _, .nil, i, t, e => by simp at e
  | _, _, .cons h p, 0, t, e => by
    simp at e
    subst e
    exact ⟨_, rfl, h⟩
  | _, _, .cons h p, i + 1, t, e => by
    obtain ⟨q, e1, e2⟩ := pair_at' p (i := i) (y := t) (by simpa using e)
    exact ⟨q, by simpa using e1, e2⟩
theorem ranks_get {kv : List (Key × V)} {ln : List Row} {i : Nat} {q : Row} (h : ln[i]? = some q) : (ranks kv ln)[i]? = some ⟨markOf kv q.1, q.1, (i : Int)⟩ := by
  unfold ranks
  rw [List.getElem?_mapIdx, h]
  rfl
/-- one rank more -/
theorem ranks_step {kv : List (Key × V)} {ln : List Row} {i : Nat} {q : Row} {Ha Hb : Hp} {us : List Addr} {U : Addr} (h : ln[i]? = some q) (pr : Paired (LD.Row3 Ha) us ((ranks kv ln).take i)) (k : ∀ b xs, Ha b = some (.tup xs) → Hb b = some (.tup xs)) (hU : Hb U = some (.tup [.int (markOf kv q.1), .str q.1, .int (i : Nat)])) :
    Paired (LD.Row3 Hb) (us ++ [U]) ((ranks kv ln).take (i + 1)) := by
  rw [List.take_add_one, ranks_get h]
  exact Paired.snoc (pr.mono fun a b z => k _ _ z) hU
/-- a comprehension of a dict over it -/
theorem dc_it {J : It} {n : Nat} {G : Hp → Prop} {Y : Nat → Hp → V → Hp → Prop} (w : Walk J n G Y) {g : TG} {tt : TT} {tk tv : TE} {vs : List Nat} {σ : St} {H1 : Hp} {D : Addr} {Qd : Hp → Prop} (Pv : Nat → Hp → Prop) (h0 : Pv 0 (upd H1 D (.dK []))) (hG : ∀ i H, i ≤ n → Pv i H → G H)
    (hs : ∀ i x H H', i < n → Pv i H → Y i H x H' → g x (wipe σ vs) H' fun σ2 H2 => wipe σ2 vs = wipe σ vs ∧ tt σ2 H2 fun b H3 =>
      if b = true then tk σ2 H3 fun y H4 => tv σ2 H4 fun z H5 => ∃ kvs k, y = kV k ∧ H5 D = some (.dK kvs) ∧ kvs.length < sizeLine ∧ Pv (i + 1) (upd H5 D (.dK (putK kvs k z))) else Pv (i + 1) H3) (hd : ∀ H, Pv n H → Qd H) :
    ∃ W : Nat → Nat → Hp → Prop, (∃ m, W 0 m (upd H1 D (.dK []))) ∧ ∀ i m H, W i m H →
      (J.stop i H ∧ Qd H) ∨ (J.go i H ∧ ∃ Nx : Hp → Prop, (∀ H', Nx H' → ∃ m', m' < m ∧ W (i + 1) m' H') ∧ ∀ x H', J.yld i H x H' → g x (wipe σ vs) H' fun σ2 H2 => wipe σ2 vs = wipe σ vs ∧ tt σ2 H2 fun b H3 =>
        if b = true then tk σ2 H3 fun y H4 => tv σ2 H4 fun z H5 => ∃ kvs k, y = kV k ∧ H5 D = some (.dK kvs) ∧ kvs.length < sizeLine ∧ Nx (upd H5 D (.dK (putK kvs k z))) else Nx H3) := by
  refine ⟨fun i m H => m = n - i ∧ i ≤ n ∧ Pv i H, ⟨n, by simp, Nat.zero_le _, h0⟩, ?_⟩
  rintro i m H ⟨rfl, hi, p⟩
  have q := hG i H hi p
  by_cases hlt : i < n
  · refine .inr ⟨w.goes i H hlt q, Pv (i + 1), fun H' p' => ⟨n - (i + 1), by omega, rfl, hlt, p'⟩, fun x H' y => hs i x H H' hlt p (w.yields i H x H' hlt q y)⟩
  · have e : i = n := by omega
    subst e
    exact .inl ⟨w.stops H q, hd H p⟩
theorem valV_no {k : Key} : ∀ {l : List (Key × V)}, (∀ p ∈ l, p.1 ≠ k) → valV l k = none
  | [], _ => rfl
  | p :: l, h => by
    rw [valV_neg (h p (List.mem_cons_self ..))]
    exact valV_no fun q hq => h q (List.mem_cons_of_mem _ hq)
def zeroK (wv : List (Key × V)) : List (Key × V) := wv.map fun k => (k.1, .int 0)
theorem zero_step {wv : List (Key × V)} (nd : (wv.map (·.1)).Nodup) {i : Nat} {k : Key} {v : V} (h : wv[i]? = some (k, v)) : putK ((zeroK wv).take i) k (.int 0) = (zeroK wv).take (i + 1) := by
  have hz : (zeroK wv)[i]? = some (k, .int 0) := by
    unfold zeroK
    rw [List.getElem?_map, h]
    rfl
  rw [putK_new _ (valV_no fun p hp e => ?_), List.take_add_one, hz]
  · rfl
  · obtain ⟨j, hj⟩ := List.mem_iff_getElem?.mp hp
    rw [List.getElem?_take] at hj
    split at hj
    · rename_i ji
      unfold zeroK at hj
      rw [List.getElem?_map] at hj
      cases q : wv[j]? with
      | none => rw [q] at hj; cases hj
      | some u =>
        rw [q] at hj
        cases hj
        have a1 : (wv.map (·.1))[j]? = some k := by rw [List.getElem?_map, q]; exact congrArg some e
        have a2 : (wv.map (·.1))[i]? = some k := by rw [List.getElem?_map, h]; rfl
        have := (List.getElem?_inj (List.getElem?_eq_some_iff.mp a1).1 nd).mp (a1.trans a2.symm)
        omega
    · cases hj
/-- the dict of weights -/
structure WOk (wv : List (Key × V)) (ws : List Int) : Prop where
  len : wv.length ≤ 1000
  vals : wv.map (·.2) = ws.map V.int
  b12 : ∀ w ∈ ws, 1 ≤ w ∧ w ≤ 12
  nd : (wv.map (·.1)).Nodup
theorem rf5 (W D L : Addr) (sc : Int) : RF (putF "_waiting" (.ref L) (putF "_scale" (.int sc) (putF "_level" (.int 0) (putF "_marks" (.ref D) (putF "_weights" (.ref W) []))))) W D L 0 sc :=
  ⟨(lkp (by decide +kernel)).trans ((lkp (by decide +kernel)).trans ((lkp (by decide +kernel)).trans ((lkp (by decide +kernel)).trans lke))), (lkp (by decide +kernel)).trans ((lkp (by decide +kernel)).trans ((lkp (by decide +kernel)).trans lke)), (lkp (by decide +kernel)).trans ((lkp (by decide +kernel)).trans lke), (lkp (by decide +kernel)).trans lke, lke,
    (lkp (by decide +kernel)).trans ((lkp (by decide +kernel)).trans ((lkp (by decide +kernel)).trans ((lkp (by decide +kernel)).trans (lkp (by decide +kernel))))), (lkp (by decide +kernel)).trans ((lkp (by decide +kernel)).trans ((lkp (by decide +kernel)).trans ((lkp (by decide +kernel)).trans (lkp (by decide +kernel))))), (lkp (by decide +kernel)).trans ((lkp (by decide +kernel)).trans ((lkp (by decide +kernel)).trans ((lkp (by decide +kernel)).trans (lkp (by decide +kernel))))),
    (lkp (by decide +kernel)).trans ((lkp (by decide +kernel)).trans ((lkp (by decide +kernel)).trans ((lkp (by decide +kernel)).trans (lkp (by decide +kernel))))), (lkp (by decide +kernel)).trans ((lkp (by decide +kernel)).trans ((lkp (by decide +kernel)).trans ((lkp (by decide +kernel)).trans (lkp (by decide +kernel))))), (lkp (by decide +kernel)).trans ((lkp (by decide +kernel)).trans ((lkp (by decide +kernel)).trans ((lkp (by decide +kernel)).trans (lkp (by decide +kernel))))),
    by
      have h1 := length_putF "_weights" (.ref W) []
      have h2 := length_putF "_marks" (.ref D) (putF "_weights" (.ref W) [])
      have h3 := length_putF "_level" (.int 0) (putF "_marks" (.ref D) (putF "_weights" (.ref W) []))
      have h4 := length_putF "_scale" (.int sc) (putF "_level" (.int 0) (putF "_marks" (.ref D) (putF "_weights" (.ref W) [])))
      have h5 := length_putF "_waiting" (.ref L) (putF "_scale" (.int sc) (putF "_level" (.int 0) (putF "_marks" (.ref D) (putF "_weights" (.ref W) []))))
      simp only [List.length_nil] at h1
      omega⟩
/-! ### the deeds -/
def maxI (a b : Int) : Int := if b > a then b else a
def namesV (ln : List Row) : List V := ln.map fun q => .str q.1
def joinS (s : RS) (z : Str) (c : Int) (u : Option Int) : RS :=
  ⟨if inV (.str z) (namesV s.ln) = true then s.kv else putK s.kv (kS z) (.int (maxI (markOf s.kv z) s.lv)), s.lv, s.ln ++ [(z, c, u)]⟩
theorem names_flat (ln : List Row) : (namesV ln).all flatV = true := by
  unfold namesV
  rw [List.all_map]
  exact List.all_eq_true.mpr fun q _ => rfl
/-! ### the least rank -/
theorem rank_neg (a b c : Rank) (h : PySem.W.DatumOrd.lt a c = true) : PySem.W.DatumOrd.lt a b = true ∨ PySem.W.DatumOrd.lt b c = true := by
  rw [← PySem.W.DatumOrd.lt_eq] at h ⊢
  rw [← PySem.W.DatumOrd.lt_eq b c]
  exact PyProof.Rows.lex_negTrans _ _ _ h
theorem rank_trans {a b c : Rank} (h : PySem.W.DatumOrd.lt a b = true) (h' : PySem.W.DatumOrd.lt b c = true) : PySem.W.DatumOrd.lt a c = true := by
  rw [← PySem.W.DatumOrd.lt_eq] at h h' ⊢
  exact PyProof.Rows.lex_trans _ _ _ h h'
theorem rank_irr (a : Rank) : PySem.W.DatumOrd.lt a a = false := by
  rw [← PySem.W.DatumOrd.lt_eq]
  exact PySem.W.dataLt_self _
theorem min_le (x : Rank) : ∀ xs : List Rank, ∀ a ∈ x :: xs, PySem.W.DatumOrd.lt a (PySem.W.minOf x xs) = false := by
  intro xs
  induction xs generalizing x with
  | nil =>
    intro a ha
    rw [List.mem_singleton] at ha
    subst ha
    exact rank_irr _
  | cons y ys ih =>
    have em : PySem.W.minOf x (y :: ys) = PySem.W.minOf (if PySem.W.DatumOrd.lt y x = true then y else x) ys := by
      unfold PySem.W.minOf
      rw [List.foldl_cons]
    rw [em]
    have q := ih (if PySem.W.DatumOrd.lt y x = true then y else x)
    by_cases h : PySem.W.DatumOrd.lt y x = true
    · rw [if_pos h] at q ⊢
      intro a ha
      rcases List.mem_cons.mp ha with rfl | ha
      · cases e : PySem.W.DatumOrd.lt a (PySem.W.minOf y ys) with
        | false => rfl
        | true =>
          have z := rank_trans h e
          rw [q y (List.mem_cons_self ..)] at z
          cases z
      · exact q a ha
    · rw [if_neg h] at q ⊢
      intro a ha
      rcases List.mem_cons.mp ha with rfl | ha
      · exact q a (List.mem_cons_self ..)
      · rcases List.mem_cons.mp ha with rfl | ha
        · cases e : PySem.W.DatumOrd.lt a (PySem.W.minOf x ys) with
          | false => rfl
          | true =>
            rcases rank_neg a x _ e with z | z
            · exact absurd z h
            · rw [q x (List.mem_cons_self ..)] at z
              cases z
        · exact q a (List.mem_cons_of_mem _ ha)
/-- no row ahead of the head's is of its customer -/
theorem head_first {kv : List (Key × V)} {ln : List Row} {j m : Nat} {q q' : Row} (h : headAt kv ln = some j) (hq : ln[j]? = some q) (hm : m < j) (hq' : ln[m]? = some q') : q' ≠ q := fun e => by
  subst e
  cases er : ranks kv ln with
  | nil =>
    unfold headAt at h
    rw [er] at h
    cases h
  | cons r0 rs =>
    obtain ⟨j', q2, hj', hq2, _, em⟩ := headAt_cons er
    rw [h] at hj'
    cases hj'
    rw [hq] at hq2
    cases hq2
    have mm : (⟨markOf kv q'.1, q'.1, (m : Int)⟩ : Rank) ∈ r0 :: rs := by
      rw [← er]
      exact List.mem_of_getElem? (ranks_get hq')
    have z := min_le r0 rs _ mm
    rw [em] at z
    have z2 : PySem.W.DatumOrd.lt (⟨markOf kv q'.1, q'.1, (m : Int)⟩ : Rank) ⟨markOf kv q'.1, q'.1, (j : Int)⟩ = true := by
      show (if markOf kv q'.1 = markOf kv q'.1 then (if q'.1 = q'.1 then PySem.W.DatumOrd.lt (m : Int) (j : Int) else _) else _) = true
      rw [if_pos rfl, if_pos rfl]
      show decide ((m : Int) < (j : Int)) = true
      exact decide_eq_true (by omega)
    rw [z2] at z
    cases z
/-! ### rows as data -/
def uD : Option Int → PyData
  | none => .none
  | some i => .int i
def rowD (q : Row) : PyData := .tuple [.str q.1, .int q.2.1, uD q.2.2]
theorem uD_lay (u : Option Int) : (uD u).canLay0 = true ∧ (uD u).depth = 0 := by
  cases u <;> simp [uD, PyData.canLay0, PyData.depth]
theorem rowD_lay {q : Row} (h : PyData.strOk q.1 = true) : (rowD q).canLay0 = true := by simp [rowD, PyData.canLay0, PyData.canLayAll0, (uD_lay q.2.2).1, h]
theorem rowD_depth (q : Row) : (rowD q).depth = 1 := by simp [rowD, PyData.depth, PyData.depthAll, (uD_lay q.2.2).2]
theorem rowsD_lay : ∀ ln : List Row, (∀ q ∈ ln, PyData.strOk q.1 = true) → PyData.canLayAll0 (ln.map rowD) = true
  | [], _ => by simp [PyData.canLayAll0]
  | q :: ln, h => by simp [PyData.canLayAll0, rowD_lay (h q (List.mem_cons_self ..)), rowsD_lay ln fun p hp => h p (List.mem_cons_of_mem _ hp)]
theorem rowsD_depth : ∀ ln : List Row, PyData.depthAll (ln.map rowD) ≤ 1
  | [] => by simp [PyData.depthAll]
  | q :: ln => by
    have h1 := rowsD_depth ln
    have h2 := rowD_depth q
    simp only [List.map_cons, PyData.depthAll]
    omega
theorem rowD_shaped {q : Row} (hs : PyData.strOk q.1 = true) : SeqAt.shaped (rowD q) = true := by
  have h := rowD_depth q
  show ((rowD q).canLay0 && decide ((rowD q).depth ≤ 64)) = true
  rw [Bool.and_eq_true]
  exact ⟨rowD_lay hs, decide_eq_true (by omega)⟩
theorem rowsD_shaped {ln : List Row} (hs : ∀ q ∈ ln, PyData.strOk q.1 = true) : SeqAt.shaped (.list (ln.map rowD)) = true := by
  have h1 := rowsD_depth ln
  have h2 : PyData.depth (.list (ln.map rowD)) ≤ 64 := by
    simp only [PyData.depth]
    omega
  show (PyData.canLay0 (.list (ln.map rowD)) && decide (PyData.depth (.list (ln.map rowD)) ≤ 64)) = true
  rw [Bool.and_eq_true]
  exact ⟨by simp only [PyData.canLay0]; exact rowsD_lay ln hs, decide_eq_true h2⟩
theorem rowD_eqv (p q : Row) : PyData.eqv (rowD p) (rowD q) = decide (p = q) := by
  obtain ⟨a, b, c⟩ := p
  obtain ⟨a', b', c'⟩ := q
  have hc : PyData.eqv (uD c) (uD c') = decide (c = c') := by
    cases c <;> cases c' <;> simp [uD, PyData.eqv]
    rw [Bool.eq_iff_iff]
    simp
  have e : PyData.eqv (rowD (a, b, c)) (rowD (a', b', c')) = ((a == a') && ((b == b') && (decide (c = c') && true))) := by
    simp only [rowD, PyData.eqv, PyData.eqvAll, hc]
  rw [e]
  by_cases h : ((a, b, c) : Row) = (a', b', c')
  · cases h
    simp
  · rw [decide_eq_false h]
    cases e1 : (a == a') with
    | false => rfl
    | true =>
      cases e2 : (b == b') with
      | false => rfl
      | true =>
        have e1 := beq_iff_eq.mp e1
        have e2 := beq_iff_eq.mp e2
        subst e1
        subst e2
        have : ¬ c = c' := fun z => h (by rw [z])
        rw [decide_eq_false this]
        rfl
theorem uD_dp {K : PySem.W.Frag} {H : Hp} (u : Option Int) : Dp K H (uV u) (uD u) := by
  cases u with
  | none => exact .non
  | some i => exact .int i
theorem RowAt.dp {K : PySem.W.Frag} {F : Addr → Prop} {H : Hp} {t : Addr} {q : Row} (h : RowAt F H t q) : Dp K H (.ref t) (rowD q) := .tup (SqT.of h.2) (.cons (.str _) (.cons (.int _) (.cons (uD_dp _) .nil)))
theorem Lines.dp {K : PySem.W.Frag} {F : Addr → Prop} {H : Hp} : ∀ {ts : List Addr} {ln : List Row}, Lines F H ts ln → DpAll K H (ts.map V.ref) (ln.map rowD)
  | [], _, .nil => .nil
  | _ :: _, _, .cons h p => .cons h.dp (Lines.dp p)
theorem pair_erase {α β : Type} {R : α → β → Prop} : ∀ {xs : List α} {ys : List β}, Paired R xs ys → ∀ j : Nat, Paired R (xs.eraseIdx j) (ys.eraseIdx j)
  | _, _, .nil, j => by simp; exact .nil
  | _, _, .cons h p, 0 => p
  | _, _, .cons h p, j + 1 => .cons h (pair_erase p j)
theorem map_erase {α β : Type} (f : α → β) : ∀ (xs : List α) (j : Nat), (xs.map f).eraseIdx j = (xs.eraseIdx j).map f
  | [], j => by simp
  | x :: xs, 0 => rfl
  | x :: xs, j + 1 => by
    show f x :: (xs.map f).eraseIdx j = f x :: (xs.eraseIdx j).map f
    rw [map_erase f xs j]
/-- the head served: w is the weight of its customer -/
def serveS (s : RS) (sc w : Int) (j : Nat) (q : Row) : RS := ⟨putK s.kv (kS q.1) (.int (markOf s.kv q.1 + (q.2.1 * sc).fdiv w)), markOf s.kv q.1, s.ln.eraseIdx j⟩
def Nms (ns : List Str) : Prop := ∀ z ∈ ns, isNam (.str z) = true
theorem nam_ok {z : Str} (h : isNam (.str z) = true) : PyData.strOk z = true ∧ z.length ≤ 8 := by
  rw [isNam_str] at h
  simp only [Bool.and_eq_true, decide_eq_true_eq] at h
  obtain ⟨⟨⟨_, h2⟩, _⟩, h4⟩ := h
  refine ⟨?_, h2⟩
  show z.cps.all (fun c => decide (c < 0x110000)) = true
  rw [← Array.all_toList]
  refine List.all_eq_true.mpr fun c hc => ?_
  have q := List.all_eq_true.mp h4 c hc
  rw [Bool.or_eq_true] at q
  unfold chL chD at q
  simp only [Bool.and_eq_true, decide_eq_true_eq] at q
  rcases q with q | q <;> exact decide_eq_true (by omega)
/-- the weights: a dict in which each name has a number from 1 to 12 -/
structure WDic (ns : List Str) (wv : List (Key × V)) : Prop where
  d : Dic ns wv
  b : ∀ z ∈ ns, 1 ≤ markOf wv z ∧ markOf wv z ≤ 12
theorem same_two {H : Hp} {x dx : Addr} {o o' : HO} (hx : H x = none) (hdx : H dx = none) : Same H (upd (upd H dx o) x o') := same_upd hx (same_new hdx)
/-! ### the law's own room -/
structure MF (mv : List (Key × V)) (L D : Addr) (lv : Int) : Prop where
  l : valV mv (kS "line") = some (.ref L)
  m : valV mv (kS "marks") = some (.ref D)
  v : valV mv (kS "level") = some (.int lv)
  n : mv.length ≤ 1000
theorem MF.line {mv : List (Key × V)} {L D : Addr} {lv : Int} (h : MF mv L D lv) (M : Addr) : MF (putK mv (kS "line") (.ref M)) M D lv :=
  ⟨by rw [valV_put, if_pos rfl], by rw [valV_put, if_neg (by decide +kernel)]; exact h.m, by rw [valV_put, if_neg (by decide +kernel)]; exact h.v, by rw [len_putK h.l]; exact h.n⟩
theorem MF.level {mv : List (Key × V)} {L D : Addr} {lv : Int} (h : MF mv L D lv) (i : Int) : MF (putK mv (kS "level") (.int i)) L D i :=
  ⟨by rw [valV_put, if_neg (by decide +kernel)]; exact h.l, by rw [valV_put, if_neg (by decide +kernel)]; exact h.m, by rw [valV_put, if_pos rfl], by rw [len_putK h.v]; exact h.n⟩
theorem MF.marks {mv : List (Key × V)} {L D : Addr} {lv : Int} (h : MF mv L D lv) (M : Addr) : MF (putK mv (kS "marks") (.ref M)) L M lv :=
  ⟨by rw [valV_put, if_neg (by decide +kernel)]; exact h.l, by rw [valV_put, if_pos rfl], by rw [valV_put, if_neg (by decide +kernel)]; exact h.v, by rw [len_putK h.m]; exact h.n⟩
/-- the law's room at y: its dict of marks at D, both in F; its line at L, not in F -/
structure MineAt (F : Addr → Prop) (H : Hp) (y D L : Addr) (s : RS) : Prop where
  ex : ∃ (mv : List (Key × V)) (ts : List Addr), H y = some (.dK mv) ∧ MF mv L D s.lv ∧ H D = some (.dK s.kv) ∧ H L = some (.lst (ts.map V.ref)) ∧ Lines F H ts s.ln
  fy : F y
  fD : F D
  nL : ¬ F L
  ne : y ≠ D
theorem MineAt.kp {F G : Addr → Prop} {H H' : Hp} {y D L : Addr} {s : RS} (R : MineAt F H y D L s) (k : KpF G H H') (sub : ∀ b, G b → F b) (ny : ¬ G y) (nD : ¬ G D) : MineAt F H' y D L s := by
  obtain ⟨⟨mv, ts, h1, h2, h3, h4, h5⟩, f1, f2, f3, f4⟩ := R
  exact ⟨⟨mv, ts, k _ _ ny h1, h2, k _ _ nD h3, k _ _ (fun z => f3 (sub _ z)) h4, h5.kp (k.mono sub)⟩, f1, f2, f3, f4⟩
theorem MineAt.same {F : Addr → Prop} {H H' : Hp} {y D L : Addr} {s : RS} (R : MineAt F H y D L s) (k : Same H H') : MineAt F H' y D L s :=
  R.kp (G := fun _ => False) (KpF.same k) (fun _ z => z.elim) id id
/-- what is new behind a change of F' alone is new, and not in F -/
theorem fresh_of {G : Addr → Prop} {H H' : Hp} {p : Addr} (k : KpF G H H') (hG : ∀ b, G b → ∃ o, H' b = some o) (h : H' p = none) : H p = none ∧ ¬ G p := by
  have n : ¬ G p := fun z => by
    obtain ⟨o, e⟩ := hG p z
    rw [h] at e
    cases e
  refine ⟨?_, n⟩
  cases e : H p with
  | none => rfl
  | some o =>
    rw [k _ _ n e] at h
    cases h
theorem notF {F : Addr → Prop} {H : Hp} {p : Addr} (hF : ∀ b, F b → ∃ o, H b = some o) (h : H p = none) : ¬ F p := fun z => by
  obtain ⟨o, e⟩ := hF p z
  rw [h] at e
  cases e
theorem cut_to {xs : List V} {j : Nat} (h : j ≤ xs.length) : cutV xs none (some (j : Int)) = xs.take j := by
  unfold cutV
  rw [HT.sIx_none, HT.sIx_nat, Nat.min_eq_left h, List.drop_zero, Nat.sub_zero]
theorem cut_from {xs : List V} {j : Nat} (h : j ≤ xs.length) : cutV xs (some (j : Int)) none = xs.drop j := by
  unfold cutV
  rw [HT.sIx_none, HT.sIx_nat, Nat.min_eq_left h]
  exact List.take_of_length_le (by rw [List.length_drop]; exact Nat.le_refl _)
theorem cut_both {xs : List V} {j : Nat} (h : j < xs.length) : cutV xs none (some (j : Int)) ++ cutV xs (some ((j : Int) + 1)) none = xs.eraseIdx j := by
  have e : ((j : Int) + 1) = ((j + 1 : Nat) : Int) := rfl
  rw [e, cut_to (Nat.le_of_lt h), cut_from h, List.eraseIdx_eq_take_drop_succ]
/-! ### alike -/
theorem sc_row (q : Row) : ∀ u ∈ rowV q, Sc u := by
  intro u hu
  obtain ⟨z, c, o⟩ := q
  simp only [rowV, List.mem_cons, List.not_mem_nil, or_false] at hu
  rcases hu with rfl | rfl | rfl
  · exact True.intro
  · exact True.intro
  · cases o <;> exact True.intro
theorem lk_row {m : Nat} {H : Hp} {t t' : Addr} {q : Row} (h : H t = some (.tup (rowV q))) (h' : H t' = some (.tup (rowV q))) : Lk H (m + 1) (.ref t) (.ref t') :=
  .inr ⟨false, t, t', rowV q, rowV q, rfl, rfl, h, h', rfl, (by show 3 ≤ 1000000; decide), fun i u v a b => by
    rw [a] at b
    cases b
    exact Lk.sc (sc_row q u (List.mem_of_getElem? a)) m⟩
theorem lk_lines {F G : Addr → Prop} {H : Hp} {M L : Addr} {ts us : List Addr} {ln : List Row} (hM : H M = some (.lst (ts.map V.ref))) (hL : H L = some (.lst (us.map V.ref))) (l1 : Lines F H ts ln) (l2 : Lines G H us ln) (hl : ln.length ≤ 1000) : Lk H 2 (.ref M) (.ref L) := by
  have e1 := l1.length
  have e2 := l2.length
  refine .inr ⟨true, M, L, _, _, rfl, rfl, hM, hL, by rw [List.length_map, List.length_map, e1, e2], by rw [List.length_map]; omega, fun i u v a b => ?_⟩
  rw [List.getElem?_map] at a b
  cases ea : ts[i]? with
  | none => rw [ea] at a; cases a
  | some t =>
    cases eb : us[i]? with
    | none => rw [eb] at b; cases b
    | some t' =>
      rw [ea] at a
      rw [eb] at b
      cases a
      cases b
      obtain ⟨q, hq, _, rq⟩ := l1.at_ ea
      obtain ⟨q', hq', _, rq'⟩ := l2.at_ eb
      rw [hq] at hq'
      cases hq'
      exact lk_row rq rq'
theorem lk_ints {H : Hp} {p q : Addr} {f : Str → Int} {ns : List Str} (hp : H p = some (.lst (ns.map fun z => V.int (f z)))) (hq : H q = some (.lst (ns.map fun z => V.int (f z)))) (hl : ns.length ≤ 1000) : Lk H 1 (.ref p) (.ref q) :=
  .inr ⟨true, p, q, _, _, rfl, rfl, hp, hq, rfl, by rw [List.length_map]; omega, fun i u v a b => by
    rw [a] at b
    cases b
    rw [List.getElem?_map] at a
    cases e : ns[i]? with
    | none => rw [e] at a; cases a
    | some z =>
      rw [e] at a
      cases a
      exact Lk.sc (x := V.int (f z)) (by exact True.intro) 0⟩
theorem lk_five {n : Nat} {H : Hp} {T P : Addr} {a0 a1 a2 a3 a4 b0 b1 b2 b3 b4 : V} (hT : H T = some (.lst [a0, a1, a2, a3, a4])) (hP : H P = some (.lst [b0, b1, b2, b3, b4])) (h0 : Lk H n a0 b0) (h1 : Lk H n a1 b1) (h2 : Lk H n a2 b2) (h3 : Lk H n a3 b3) (h4 : Lk H n a4 b4) : Lk H (n + 1) (.ref T) (.ref P) := by
  refine .inr ⟨true, T, P, _, _, rfl, rfl, hT, hP, rfl, (by show 5 ≤ 1000000; decide), fun i u v a b => ?_⟩
  match i, a, b with
  | 0, a, b => cases Option.some.inj a; cases Option.some.inj b; exact h0
  | 1, a, b => cases Option.some.inj a; cases Option.some.inj b; exact h1
  | 2, a, b => cases Option.some.inj a; cases Option.some.inj b; exact h2
  | 3, a, b => cases Option.some.inj a; cases Option.some.inj b; exact h3
  | 4, a, b => cases Option.some.inj a; cases Option.some.inj b; exact h4
  | i + 5, a, b => simp at a
theorem lk_int {n : Nat} {H : Hp} (i : Int) : Lk H n (.int i) (.int i) := Lk.sc (x := V.int i) (by exact True.intro) n
/-! ### names -/
def signL : List Nat := ("bcdefghijklmnop" : Str).cps.toList
def one (c : Nat) : Str := ⟨#[c]⟩
def goodW (z : Str) : Prop := isNam (.str z) = true ∧ z.length ≤ 4
def headsL : List Nat := ("abcmnrz" : Str).cps.toList
def tailsL : List Str := ["", "0", "7", "a", "x", "10", "zz"]
theorem words_all : (headsL.all fun c => tailsL.all fun b => isNam (.str (one c ++ b)) && decide ((one c ++ b).length ≤ 3) && signL.all fun d => isNam (.str (one c ++ b ++ one d)) && decide ((one c ++ b ++ one d).length ≤ 4)) = true := by decide +kernel
theorem word_ok {c : Nat} {b : Str} (hc : c ∈ headsL) (hb : b ∈ tailsL) : goodW (one c ++ b) ∧ (one c ++ b).length ≤ 3 ∧ ∀ d ∈ signL, goodW (one c ++ b ++ one d) := by
  have q := List.all_eq_true.mp (List.all_eq_true.mp words_all c hc) b hb
  simp only [Bool.and_eq_true, decide_eq_true_eq] at q
  obtain ⟨⟨q1, q2⟩, q3⟩ := q
  refine ⟨⟨q1, by omega⟩, q2, fun d hd => ?_⟩
  have q4 := List.all_eq_true.mp q3 d hd
  simp only [Bool.and_eq_true, decide_eq_true_eq] at q4
  exact q4
theorem tail_len : ∀ b ∈ tailsL, b.length ≤ 2 := by decide +kernel
theorem strs_flat (ns : List Str) : (ns.map V.str).all flatV = true := by
  rw [List.all_map]
  exact List.all_eq_true.mpr fun q _ => rfl
theorem pigeon {α β : Type} [DecidableEq β] {f : α → β} (inj : ∀ a b, f a = f b → a = b) : ∀ (ds : List α) (ws : List β), ds.Nodup → (∀ d ∈ ds, f d ∈ ws) → ds.length ≤ ws.length
  | [], _, _, _ => Nat.zero_le _
  | d :: ds, ws, nd, h => by
    rw [List.nodup_cons] at nd
    have hd := h d (List.mem_cons_self ..)
    have ih := pigeon inj ds (ws.erase (f d)) nd.2 fun e he => (List.mem_erase_of_ne (fun z => nd.1 (by rw [← inj _ _ z]; exact he))).mpr (h e (List.mem_cons_of_mem _ he))
    rw [List.length_erase_of_mem hd] at ih
    have := List.length_pos_of_mem hd
    rw [List.length_cons]
    omega
theorem one_inj (w : Str) (a b : Nat) (h : w ++ one a = w ++ one b) : a = b := by
  have e : ∀ c, (w ++ one c).cps.toList = w.cps.toList ++ [c] := fun c => by
    show (w.cps ++ #[c]).toList = _
    rw [Array.toList_append]
  have q := congrArg (fun z : Str => z.cps.toList) h
  simp only [e] at q
  simpa using q
theorem in_of {w : Str} {ws : List Str} (h : inV (.str w) (ws.map V.str) = true) : w ∈ ws := by
  unfold inV at h
  rw [List.any_map, List.any_eq_true] at h
  obtain ⟨z, hz, e⟩ := h
  have : z = w := by simpa [eqV] using e
  rw [← this]
  exact hz
theorem some_free {w : Str} {ws : List Str} (hl : ws.length ≤ 5) : ∃ d ∈ signL, inV (.str (w ++ one d)) (ws.map V.str) = false := by
  refine Classical.byContradiction fun hn => ?_
  have all : ∀ d ∈ signL, (w ++ one d) ∈ ws := fun d hd => by
    cases e : inV (.str (w ++ one d)) (ws.map V.str) with
    | true => exact in_of e
    | false => exact absurd ⟨d, hd, e⟩ hn
  have q := pigeon (f := fun d => w ++ one d) (one_inj w) signL ws (by decide +kernel) all
  have l : signL.length = 15 := by decide +kernel
  omega
/-! ### the law's situation -/
structure RSok (ns : List Str) (s : RS) : Prop where
  dic : Dic ns s.kv
  rows : ∀ q ∈ s.ln, q.1 ∈ ns ∧ 1 ≤ q.2.1 ∧ q.2.1 ≤ 1000
  l40 : s.ln.length ≤ 40
structure Sit (F : Addr → Prop) (H : Hp) (g l N Wd : Addr) (wv : List (Key × V)) (sc : Int) (ns : List Str) : Prop where
  bag : Bag l H g
  fg : F g
  nl : ¬ F l
  ex : ∀ b, F b → ∃ o, H b = some o
  hN : H N = some (.lst (ns.map V.str))
  nN : ¬ F N
  hW : H Wd = some (.dK wv)
  nW : ¬ F Wd
  nms : Nms ns
  n6 : ns.length ≤ 6
  n1 : 1 ≤ ns.length
  wd : WDic ns wv
  sc0 : 1 ≤ sc
  sc1 : sc ≤ 27720
structure Pr (r : Ar) (F : Addr → Prop) (H : Hp) (g x D L y E M : Addr) (wv : List (Key × V)) (sc : Int) (s : RS) : Prop where
  room : RoomAt r F H x D L wv sc s
  mine : MineAt F H y E M s
  xg : x ≠ g
  Dg : D ≠ g
  Lg : L ≠ g
  yg : y ≠ g
  Eg : E ≠ g
  yx : y ≠ x
  yD : y ≠ D
  yL : y ≠ L
  Ex : E ≠ x
  ED : E ≠ D
  EL : E ≠ L
theorem ex_kp {F G : Addr → Prop} {H H' : Hp} (k : KpF G H H') (hG : ∀ b, G b → ∃ o, H' b = some o) (hF : ∀ b, F b → ∃ o, H b = some o) : ∀ b, F b → ∃ o, H' b = some o := fun b z => by
  by_cases c : G b
  · exact hG b c
  · obtain ⟨o, e⟩ := hF b z
    exact ⟨o, k _ _ c e⟩
theorem Sit.kp {F G : Addr → Prop} {H H' : Hp} {g l N Wd : Addr} {wv : List (Key × V)} {sc : Int} {ns : List Str} (S : Sit F H g l N Wd wv sc ns) (k : KpF G H H') (sub : ∀ b, G b → F b) (hG : ∀ b, G b → ∃ o, H' b = some o) (b : Bag l H' g) : Sit F H' g l N Wd wv sc ns :=
  ⟨b, S.fg, S.nl, ex_kp k hG S.ex, k _ _ (fun z => S.nN (sub _ z)) S.hN, S.nN, k _ _ (fun z => S.nW (sub _ z)) S.hW, S.nW, S.nms, S.n6, S.n1, S.wd, S.sc0, S.sc1⟩
theorem Sit.ok {F : Addr → Prop} {H H' : Hp} {g l N Wd : Addr} {wv : List (Key × V)} {sc : Int} {ns : List Str} (S : Sit F H g l N Wd wv sc ns) (o : Ok g l H H') : Sit F H' g l N Wd wv sc ns :=
  S.kp (G := fun b => b = g) (KpF.kp rfl o.kp) (fun b e => by rw [e]; exact S.fg) (fun b e => by rw [e]; obtain ⟨⟨xs, q⟩, _⟩ := o.bag.there; exact ⟨_, q⟩) o.bag
theorem bag_kp {G : Addr → Prop} {H H' : Hp} {g l : Addr} (B : Bag l H g) (k : KpF G H H') (ng : ¬ G g) (nl : ¬ G l) : Bag l H' g := by
  obtain ⟨ns, i, d, s, c, h1, h2, h3, r⟩ := B
  exact ⟨ns, i, d, s, c, k _ _ ng h1, h2, k _ _ nl h3, r⟩
theorem bag_same {H H' : Hp} {g l : Addr} (s : Same H H') (B : Bag l H g) : Bag l H' g := bag_kp (G := fun _ => False) B (KpF.same s) id id
theorem Pr.kp {r : Ar} {F G : Addr → Prop} {H H' : Hp} {g x D L y E M : Addr} {wv : List (Key × V)} {sc : Int} {s : RS} (P : Pr r F H g x D L y E M wv sc s) (k : KpF G H H') (sub : ∀ b, G b → F b) (n : ∀ b, G b → b ≠ x ∧ b ≠ D ∧ b ≠ L ∧ b ≠ y ∧ b ≠ E) : Pr r F H' g x D L y E M wv sc s :=
  ⟨P.room.kp k sub (fun z => (n _ z).1 rfl) (fun z => (n _ z).2.1 rfl) (fun z => (n _ z).2.2.1 rfl), P.mine.kp k sub (fun z => (n _ z).2.2.2.1 rfl) (fun z => (n _ z).2.2.2.2 rfl), P.xg, P.Dg, P.Lg, P.yg, P.Eg, P.yx, P.yD, P.yL, P.Ex, P.ED, P.EL⟩
theorem Pr.ok {r : Ar} {F : Addr → Prop} {H H' : Hp} {g x D L y E M : Addr} {wv : List (Key × V)} {sc : Int} {s : RS} (P : Pr r F H g x D L y E M wv sc s) (fg : F g) (k : Kp g H H') : Pr r F H' g x D L y E M wv sc s :=
  P.kp (G := fun b => b = g) (KpF.kp rfl k) (fun b e => by rw [e]; exact fg) fun b e => by
    subst e
    exact ⟨P.xg.symm, P.Dg.symm, P.Lg.symm, P.yg.symm, P.Eg.symm⟩
theorem Pr.same {r : Ar} {F : Addr → Prop} {H H' : Hp} {g x D L y E M : Addr} {wv : List (Key × V)} {sc : Int} {s : RS} (P : Pr r F H g x D L y E M wv sc s) (k : Same H H') : Pr r F H' g x D L y E M wv sc s :=
  P.kp (G := fun _ => False) (KpF.same k) (fun _ z => z.elim) fun _ z => z.elim
def Chg (g x D L y E : Addr) : Addr → Prop := fun b => b = g ∨ b = x ∨ b = D ∨ b = L ∨ b = y ∨ b = E
/-- F stays one when L, that is in it, is added -/
theorem Pr.keep {r : Ar} {F : Addr → Prop} {H : Hp} {g x D L y E M : Addr} {wv : List (Key × V)} {sc : Int} {s : RS} (P : Pr r F H g x D L y E M wv sc s) : Pr r (fun b => F b ∨ b = L) H g x D L y E M wv sc s := by
  have e : (fun b => F b ∨ b = L) = F := funext fun b => propext ⟨fun z => z.elim id fun e => by rw [e]; exact P.room.fL, .inl⟩
  rw [e]
  exact P
theorem MineAt.wide {F : Addr → Prop} {H : Hp} {y D L M : Addr} {s : RS} (R : MineAt F H y D L s) (h : H M = none) : MineAt (fun b => F b ∨ b = M) H y D L s := by
  have ne : ∀ b o, H b = some o → b ≠ M := fun b o e z => by rw [z, h] at e; cases e
  obtain ⟨⟨mv, ts, h1, h2, h3, h4, h5⟩, f1, f2, f3, f4⟩ := R
  exact ⟨⟨mv, ts, h1, h2, h3, h4, h5.mono fun t q ⟨n, e⟩ => ⟨fun z => z.elim n (ne _ _ e), e⟩⟩, .inl f1, .inl f2, fun z => z.elim f3 (ne _ _ h4), f4⟩
theorem RoomAt.wide {r : Ar} {F : Addr → Prop} {H : Hp} {x D L M : Addr} {wv : List (Key × V)} {sc : Int} {s : RS} (R : RoomAt r F H x D L wv sc s) (h : H M = none) : RoomAt r (fun b => F b ∨ b = M) H x D L wv sc s := by
  have ne : ∀ b o, H b = some o → b ≠ M := fun b o e z => by rw [z, h] at e; cases e
  obtain ⟨⟨dx, W, fs, ts, h1, h2, h3, h4, h5, h6, h7⟩, f1, f2, f3⟩ := R
  exact ⟨⟨dx, W, fs, ts, h1, h2, h3, fun z => z.elim h4 (ne _ _ h3), h5, h6, h7.mono fun t q ⟨n, e⟩ => ⟨fun z => z.elim n (ne _ _ e), e⟩⟩, .inl f1, .inl f2, .inl f3⟩
theorem lk_two {n : Nat} {H : Hp} {T P : Addr} {a0 a1 : V} (hT : H T = some (.tup [a0, a1])) (hP : H P = some (.tup [a0, a1])) (h0 : Sc a0) (h1 : Sc a1) : Lk H (n + 1) (.ref T) (.ref P) := by
  refine .inr ⟨false, T, P, _, _, rfl, rfl, hT, hP, rfl, (by show 2 ≤ 1000000; decide), fun i u v a b => ?_⟩
  match i, a, b with
  | 0, a, b => cases Option.some.inj a; cases Option.some.inj b; exact Lk.sc h0 n
  | 1, a, b => cases Option.some.inj a; cases Option.some.inj b; exact Lk.sc h1 n
  | i + 2, a, b => simp at a
theorem lk_names {H : Hp} {p q : Addr} {ln : List Row} (hp : H p = some (.lst (namesV ln))) (hq : H q = some (.lst (namesV ln))) (hl : ln.length ≤ 1000) : Lk H 1 (.ref p) (.ref q) :=
  .inr ⟨true, p, q, _, _, rfl, rfl, hp, hq, rfl, by unfold namesV; rw [List.length_map]; omega, fun i u v a b => by
    rw [a] at b
    cases b
    unfold namesV at a
    rw [List.getElem?_map] at a
    cases e : ln[i]? with
    | none => rw [e] at a; cases a
    | some z =>
      rw [e] at a
      cases a
      exact Lk.sc (x := V.str z.1) (by exact True.intro) 0⟩
theorem RSok.serve {ns : List Str} {s : RS} (h : RSok ns s) {sc w : Int} {j : Nat} {q : Row} (hq : s.ln[j]? = some q) : RSok ns (serveS s sc w j q) :=
  ⟨(h.dic.put (h.rows q (List.mem_of_getElem? hq)).1 _).1, fun p hp => h.rows p (List.mem_of_mem_eraseIdx hp), Nat.le_trans (List.length_eraseIdx_le _ _) h.l40⟩
theorem RSok.join {ns : List Str} {s : RS} (h : RSok ns s) {z : Str} {c : Int} {u : Option Int} (hz : z ∈ ns) (c0 : 1 ≤ c) (c1 : c ≤ 1000) (l : s.ln.length ≤ 39) : RSok ns (joinS s z c u) := by
  refine ⟨?_, fun p hp => ?_, ?_⟩
  · show Dic ns (if _ then _ else _)
    split
    · exact h.dic
    · exact (h.dic.put hz _).1
  · rcases List.mem_append.mp hp with a | a
    · exact h.rows p a
    · rw [List.mem_singleton] at a
      rw [a]
      exact ⟨hz, c0, c1⟩
  · show (s.ln ++ [(z, c, u)]).length ≤ 40
    rw [List.length_append]
    show s.ln.length + 1 ≤ 40
    omega
/-! ### weights -/
structure WK (wv : List (Key × V)) : Prop where
  v : ∀ p ∈ wv, ∃ w : Int, p.2 = .int w ∧ 1 ≤ w ∧ w ≤ 12
  nd : (wv.map (·.1)).Nodup
theorem WK.put {wv : List (Key × V)} (h : WK wv) {k : Key} {c : Int} (c0 : 1 ≤ c) (c1 : c ≤ 12) : WK (putK wv k (.int c)) ∧ (putK wv k (.int c)).length ≤ wv.length + 1 := by
  unfold putK
  split
  · rename_i a
    refine ⟨⟨fun p hp => ?_, ?_⟩, by rw [List.length_map]; omega⟩
    · obtain ⟨q, hq, rfl⟩ := List.mem_map.mp hp
      split
      · exact ⟨c, rfl, c0, c1⟩
      · exact h.v q hq
    · have e : (wv.map fun kv => if kv.1 = k then (kv.1, V.int c) else kv).map (·.1) = wv.map (·.1) := by
        rw [List.map_map]
        apply List.map_congr_left
        intro q _
        show (if q.1 = k then (q.1, V.int c) else q).1 = q.1
        split <;> rfl
      rw [e]
      exact h.nd
  · rename_i a
    refine ⟨⟨fun p hp => ?_, ?_⟩, by rw [List.length_append]; exact Nat.le_refl _⟩
    · rcases List.mem_append.mp hp with h' | h'
      · exact h.v p h'
      · rw [List.mem_singleton] at h'
        subst h'
        exact ⟨c, rfl, c0, c1⟩
    · rw [List.map_append, List.nodup_append]
      refine ⟨h.nd, by simp, fun x hx y hy e => ?_⟩
      simp only [List.map_cons, List.map_nil, List.mem_singleton] at hy
      subst hy
      subst e
      apply a
      rw [List.any_eq_true]
      obtain ⟨q, hq, eq⟩ := List.mem_map.mp hx
      exact ⟨q, hq, decide_eq_true eq⟩
theorem ws_of : ∀ {wv : List (Key × V)}, (∀ p ∈ wv, ∃ w : Int, p.2 = .int w ∧ 1 ≤ w ∧ w ≤ 12) → ∃ ws : List Int, wv.map (·.2) = ws.map V.int ∧ ∀ w ∈ ws, 1 ≤ w ∧ w ≤ 12
  | [], _ => ⟨[], rfl, fun _ h => by cases h⟩
  | p :: wv, h => by
    obtain ⟨ws, e, b⟩ := ws_of fun q hq => h q (List.mem_cons_of_mem _ hq)
    obtain ⟨w, e1, b0⟩ := h p (List.mem_cons_self ..)
    refine ⟨w :: ws, by rw [List.map_cons, List.map_cons, e, e1], fun u hu => ?_⟩
    rcases List.mem_cons.mp hu with rfl | hu
    · exact b0
    · exact b u hu
theorem zero_put {wv : List (Key × V)} {k : Key} {v : V} : zeroK (putK wv k v) = putK (zeroK wv) k (.int 0) := by
  unfold putK zeroK
  have e : (wv.map fun p => (p.1, V.int 0)).any (fun kv => decide (kv.1 = k)) = wv.any (fun kv => decide (kv.1 = k)) := by
    rw [List.any_map]
    rfl
  rw [e]
  split
  · rw [List.map_map, List.map_map]
    apply List.map_congr_left
    intro q _
    show ((if q.1 = k then (q.1, v) else q).1, V.int 0) = if q.1 = k then (q.1, V.int 0) else (q.1, V.int 0)
    split <;> rfl
  · rw [List.map_append]
    rfl
/-! ### the pairs -/
structure Pd where
  x : Addr
  D : Addr
  L : Addr
  y : Addr
  E : Addr
  M : Addr
  s : RS
def Own (p : Pd) (b : Addr) : Prop := b = p.x ∨ b = p.D ∨ b = p.L ∨ b = p.y ∨ b = p.E
abbrev PdAt (r : Ar) (F : Addr → Prop) (H : Hp) (g : Addr) (wv : List (Key × V)) (sc : Int) (p : Pd) : Prop := Pr r F H g p.x p.D p.L p.y p.E p.M wv sc p.s
theorem Pr.sub {r : Ar} {F : Addr → Prop} {H : Hp} {g : Addr} {wv : List (Key × V)} {sc : Int} {p : Pd} (P : PdAt r F H g wv sc p) {b : Addr} (h : Own p b) : F b := by
  rcases h with rfl | rfl | rfl | rfl | rfl
  · exact P.room.fx
  · exact P.room.fD
  · exact P.room.fL
  · exact P.mine.fy
  · exact P.mine.fD
theorem Pr.ng {r : Ar} {F : Addr → Prop} {H : Hp} {g : Addr} {wv : List (Key × V)} {sc : Int} {p : Pd} (P : PdAt r F H g wv sc p) : ¬ Own p g := by
  rintro (e | e | e | e | e)
  · exact P.xg e.symm
  · exact P.Dg e.symm
  · exact P.Lg e.symm
  · exact P.yg e.symm
  · exact P.Eg e.symm
theorem Pr.kpO {r : Ar} {F G : Addr → Prop} {H H' : Hp} {g : Addr} {wv : List (Key × V)} {sc : Int} {p : Pd} (P : PdAt r F H g wv sc p) (k : KpF G H H') (sub : ∀ b, G b → F b) (n : ∀ b, G b → ¬ Own p b) : PdAt r F H' g wv sc p :=
  P.kp k sub fun b z => ⟨fun e => n b z (.inl e), fun e => n b z (.inr (.inl e)), fun e => n b z (.inr (.inr (.inl e))), fun e => n b z (.inr (.inr (.inr (.inl e)))), fun e => n b z (.inr (.inr (.inr (.inr e))))⟩
theorem MineAt.add {F Z : Addr → Prop} {H : Hp} {y D L : Addr} {s : RS} (R : MineAt F H y D L s) (h : ∀ b, Z b → H b = none) : MineAt (fun b => F b ∨ Z b) H y D L s := by
  have ne : ∀ b o, H b = some o → ¬ Z b := fun b o e z => by rw [h b z] at e; cases e
  obtain ⟨⟨mv, ts, h1, h2, h3, h4, h5⟩, f1, f2, f3, f4⟩ := R
  exact ⟨⟨mv, ts, h1, h2, h3, h4, h5.mono fun t q ⟨n, e⟩ => ⟨fun z => z.elim n (ne _ _ e), e⟩⟩, .inl f1, .inl f2, fun z => z.elim f3 (ne _ _ h4), f4⟩
theorem RoomAt.add {r : Ar} {F Z : Addr → Prop} {H : Hp} {x D L : Addr} {wv : List (Key × V)} {sc : Int} {s : RS} (R : RoomAt r F H x D L wv sc s) (h : ∀ b, Z b → H b = none) : RoomAt r (fun b => F b ∨ Z b) H x D L wv sc s := by
  have ne : ∀ b o, H b = some o → ¬ Z b := fun b o e z => by rw [h b z] at e; cases e
  obtain ⟨⟨dx, W, fs, ts, h1, h2, h3, h4, h5, h6, h7⟩, f1, f2, f3⟩ := R
  exact ⟨⟨dx, W, fs, ts, h1, h2, h3, fun z => z.elim h4 (ne _ _ h3), h5, h6, h7.mono fun t q ⟨n, e⟩ => ⟨fun z => z.elim n (ne _ _ e), e⟩⟩, .inl f1, .inl f2, .inl f3⟩
theorem Pr.add {r : Ar} {F Z : Addr → Prop} {H : Hp} {g x D L y E M : Addr} {wv : List (Key × V)} {sc : Int} {s : RS} (P : Pr r F H g x D L y E M wv sc s) (h : ∀ b, Z b → H b = none) : Pr r (fun b => F b ∨ Z b) H g x D L y E M wv sc s :=
  ⟨P.room.add h, P.mine.add h, P.xg, P.Dg, P.Lg, P.yg, P.Eg, P.yx, P.yD, P.yL, P.Ex, P.ED, P.EL⟩
theorem Pr.addM {r : Ar} {F : Addr → Prop} {H : Hp} {g x D L y E M N : Addr} {wv : List (Key × V)} {sc : Int} {s : RS} (P : Pr r F H g x D L y E M wv sc s) (h : F N ∨ H N = none) : Pr r (fun b => F b ∨ b = N) H g x D L y E M wv sc s := by
  rcases h with h | h
  · have e : (fun b => F b ∨ b = N) = F := funext fun b => propext ⟨fun z => z.elim id fun e => by rw [e]; exact h, .inl⟩
    rw [e]
    exact P
  · exact P.add fun b e => by rw [e]; exact h
structure St (r : Ar) (F : Addr → Prop) (H : Hp) (g l N Wd : Addr) (wv : List (Key × V)) (sc : Int) (ns : List Str) (PL : Addr) (tps : List Addr) (f : Addr → Pd) : Prop where
  sit : Sit F H g l N Wd wv sc ns
  pl : H PL = some (.lst (tps.map V.ref))
  fP : F PL
  ne : PL ≠ g
  prs : ∀ t ∈ tps, PdAt r F H g wv sc (f t) ∧ RSok ns (f t).s ∧ H t = some (.tup [.ref (f t).x, .ref (f t).y]) ∧ ¬ F t ∧ ¬ Own (f t) PL
  ap : ∀ t ∈ tps, ∀ u ∈ tps, t ≠ u → ∀ b, Own (f t) b → ¬ Own (f u) b
  len : 1 ≤ tps.length ∧ tps.length ≤ 2
section
variable {r : Ar} {F G Z : Addr → Prop} {H H' : Hp} {g l N Wd PL t : Addr} {wv : List (Key × V)} {sc : Int} {ns : List Str} {tps : List Addr} {f : Addr → Pd}
theorem St.kp (S : St r F H g l N Wd wv sc ns PL tps f) (k : KpF G H H') (sub : ∀ b, G b → F b) (hG : ∀ b, G b → ∃ o, H' b = some o) (B : Bag l H' g) (nP : ¬ G PL) (n : ∀ t ∈ tps, ∀ b, G b → ¬ Own (f t) b) : St r F H' g l N Wd wv sc ns PL tps f :=
  ⟨S.sit.kp k sub hG B, k _ _ nP S.pl, S.fP, S.ne, fun t ht => by
    obtain ⟨a, b, c, d, e⟩ := S.prs t ht
    exact ⟨a.kpO k sub (n t ht), b, k _ _ (fun z => d (sub _ z)) c, d, e⟩, S.ap, S.len⟩
theorem St.same (S : St r F H g l N Wd wv sc ns PL tps f) (s : Same H H') : St r F H' g l N Wd wv sc ns PL tps f :=
  S.kp (G := fun _ => False) (KpF.same s) (fun _ z => z.elim) (fun _ z => z.elim) (bag_same s S.sit.bag) id fun _ _ _ z => z.elim
theorem St.ok (S : St r F H g l N Wd wv sc ns PL tps f) (o : Ok g l H H') : St r F H' g l N Wd wv sc ns PL tps f :=
  S.kp (G := fun b => b = g) (KpF.kp rfl o.kp) (fun b e => by rw [e]; exact S.sit.fg) (fun b e => by rw [e]; obtain ⟨⟨xs, q⟩, _⟩ := o.bag.there; exact ⟨_, q⟩) o.bag S.ne fun t ht b e z => (S.prs t ht).1.ng (by rw [← e]; exact z)
/-- new things are added to F -/
theorem St.wide (S : St r F H g l N Wd wv sc ns PL tps f) (hZ : ∀ b, Z b → H b = none) (s : Same H H') (al : ∀ b, Z b → ∃ o, H' b = some o) : St r (fun b => F b ∨ Z b) H' g l N Wd wv sc ns PL tps f := by
  have ne : ∀ b o, H b = some o → ¬ Z b := fun b o e z => by rw [hZ b z] at e; cases e
  have S' := S.same s
  refine ⟨⟨S'.sit.bag, .inl S.sit.fg, fun z => z.elim S.sit.nl ?_, fun b z => z.elim (S'.sit.ex b) (al b), S'.sit.hN, fun z => z.elim S.sit.nN (ne _ _ S.sit.hN), S'.sit.hW, fun z => z.elim S.sit.nW (ne _ _ S.sit.hW), S.sit.nms, S.sit.n6, S.sit.n1, S.sit.wd, S.sit.sc0, S.sit.sc1⟩, S'.pl, .inl S.fP, S.ne, fun t ht => ?_, S.ap, S.len⟩
  · obtain ⟨_, ⟨xs, q⟩⟩ := S.sit.bag.there
    exact ne _ _ q
  · obtain ⟨a, b, c, d, e⟩ := S.prs t ht
    exact ⟨(a.add hZ).same s, b, s _ _ c, fun z => z.elim d (ne _ _ c), e⟩
/-- a deed on the pair at t -/
theorem St.deed (S : St r F H g l N Wd wv sc ns PL tps f) (ht : t ∈ tps) {M M2 : Addr} {s' : RS} (hM : M = (f t).L ∨ H M = none) (k : KpF (Chg g (f t).x (f t).D (f t).L (f t).y (f t).E) H H') (B : Bag l H' g) (P : Pr r (fun b => F b ∨ b = M) H' g (f t).x (f t).D M (f t).y (f t).E M2 wv sc s') (ok : RSok ns s') (ex : ∀ b, F b → ∃ o, H' b = some o) :
    St r (fun b => F b ∨ b = M) H' g l N Wd wv sc ns PL tps (fun u => if u = t then ⟨(f t).x, (f t).D, M, (f t).y, (f t).E, M2, s'⟩ else f u) := by
  obtain ⟨P0, ok0, ht0, nt, oP⟩ := S.prs t ht
  have hFM : F M ∨ H M = none := hM.imp (fun e => by rw [e]; exact P0.room.fL) id
  have neM : ∀ b o, H b = some o → ¬ F b → b ≠ M := fun b o e n z => hFM.elim (fun h => n (by rw [z]; exact h)) fun h => by rw [z, h] at e; cases e
  have chO : ∀ b, Chg g (f t).x (f t).D (f t).L (f t).y (f t).E b → b = g ∨ Own (f t) b := fun b z => z
  have sub : ∀ b, Chg g (f t).x (f t).D (f t).L (f t).y (f t).E b → F b := fun b z => (chO b z).elim (fun e => by rw [e]; exact S.sit.fg) fun z => P0.sub z
  have nS := S.sit
  have lal : ∃ o, H l = some o := by
    obtain ⟨_, ⟨xs, q⟩⟩ := nS.bag.there
    exact ⟨_, q⟩
  have oM : ∀ b, Own ⟨(f t).x, (f t).D, M, (f t).y, (f t).E, M2, s'⟩ b → Own (f t) b ∨ H b = none := fun b z => by
    rcases z with e | e | e | e | e
    · exact .inl (.inl e)
    · exact .inl (.inr (.inl e))
    · rcases hM with h | h
      · exact .inl (.inr (.inr (.inl (by rw [← h]; exact e))))
      · exact .inr (by rw [show b = M from e]; exact h)
    · exact .inl (.inr (.inr (.inr (.inl e))))
    · exact .inl (.inr (.inr (.inr (.inr e))))
  refine ⟨⟨B, .inl nS.fg, fun z => z.elim nS.nl ?_, fun b z => z.elim (ex b) fun e => ?_, k _ _ (fun z => nS.nN (sub _ z)) nS.hN, fun z => z.elim nS.nN (neM _ _ nS.hN nS.nN), k _ _ (fun z => nS.nW (sub _ z)) nS.hW, fun z => z.elim nS.nW (neM _ _ nS.hW nS.nW), nS.nms, nS.n6, nS.n1, nS.wd, nS.sc0, nS.sc1⟩, k _ _ (fun z => (chO _ z).elim S.ne oP) S.pl, .inl S.fP, S.ne, fun u hu => ?_, fun u hu v hv huv b => ?_, S.len⟩
  · obtain ⟨o, q⟩ := lal
    exact neM _ _ q nS.nl
  · obtain ⟨⟨_, _, _, _, _, _, _, _, _, q, _⟩, _⟩ := P.room
    rw [e]
    exact ⟨_, q⟩
  · by_cases e : u = t
    · subst e
      rw [if_pos rfl]
      refine ⟨P, ok, k _ _ (fun z => nt (sub _ z)) ht0, fun z => z.elim nt (neM _ _ ht0 nt), fun z => (oM _ z).elim oP fun h => ?_⟩
      rw [S.pl] at h
      cases h
    · rw [if_neg e]
      obtain ⟨a, b, c, d, o⟩ := S.prs u hu
      have n : ∀ b, Chg g (f t).x (f t).D (f t).L (f t).y (f t).E b → ¬ Own (f u) b := fun b z w => (chO b z).elim (fun e => a.ng (by rw [← e]; exact w)) fun z => S.ap t ht u hu (fun h => e h.symm) b z w
      exact ⟨(a.addM hFM).kpO k (fun b z => .inl (sub b z)) n, b, k _ _ (fun z => d (sub _ z)) c, fun z => z.elim d (neM _ _ c d), o⟩
  · have fresh : ∀ w ∈ tps, ∀ b, H b = none → ¬ Own (f w) b := fun w hw b h z => by
      obtain ⟨o, q⟩ := nS.ex b ((S.prs w hw).1.sub z)
      rw [h] at q
      cases q
    by_cases e : u = t
    · rw [if_pos e, if_neg (fun z => huv (e.trans z.symm))]
      subst e
      exact fun z => (oM b z).elim (S.ap u hu v hv huv b) (fresh v hv b)
    · rw [if_neg e]
      by_cases e2 : v = t
      · rw [if_pos e2]
        subst e2
        exact fun z w => (oM b w).elim (fun w => S.ap u hu v hv huv b z w) fun h => fresh u hu b h z
      · rw [if_neg e2]
        exact S.ap u hu v hv huv b
/-- one more pair -/
theorem St.push (S : St r F H g l N Wd wv sc ns PL tps f) (h1 : tps.length = 1) {T : Addr} {p : Pd} (hT : H T = some (.tup [.ref p.x, .ref p.y])) (nT : ¬ F T) (tT : T ∉ tps) (P : PdAt r F H g wv sc p) (ok : RSok ns p.s) (oP : ¬ Own p PL) (ap : ∀ t ∈ tps, ∀ b, Own (f t) b → ¬ Own p b) :
    St r F (upd H PL (.lst (tps.map V.ref ++ [.ref T]))) g l N Wd wv sc ns PL (tps ++ [T]) (fun u => if u = T then p else f u) := by
  have k : KpF (fun b => b = PL) H (upd H PL (.lst (tps.map V.ref ++ [.ref T]))) := (KpF.refl _ _).upd rfl
  have sub : ∀ b, b = PL → F b := fun b e => by rw [e]; exact S.fP
  have nl : l ≠ PL := fun e => S.sit.nl (by rw [e]; exact S.fP)
  have al : ∀ b, b = PL → ∃ o, upd H PL (.lst (tps.map V.ref ++ [.ref T])) b = some o := fun b e => by
    subst e
    exact ⟨_, upd_same⟩
  refine ⟨S.sit.kp k sub al (bag_kp S.sit.bag k (fun e => S.ne e.symm) nl), by rw [upd_same, List.map_append]; rfl, S.fP, S.ne, fun t ht => ?_, fun t ht u hu htu b => ?_, by rw [List.length_append, h1]; exact ⟨(show 1 ≤ 1 + 1 by decide), (show 1 + 1 ≤ 2 by decide)⟩⟩
  · by_cases e : t = T
    · rw [if_pos e, e]
      exact ⟨P.kpO k sub (fun b e z => oP (by rw [← e]; exact z)), ok, k _ _ (fun z => nT (sub _ z)) hT, nT, oP⟩
    · rw [if_neg e]
      rcases List.mem_append.mp ht with ht | ht
      · obtain ⟨a, b, c, d, o⟩ := S.prs t ht
        exact ⟨a.kpO k sub (fun b e z => o (by rw [← e]; exact z)), b, k _ _ (fun z => d (sub _ z)) c, d, o⟩
      · exact absurd (List.mem_singleton.mp ht) e
  · by_cases e : t = T
    · rw [if_pos e]
      have eu : u ≠ T := fun z => htu (e.trans z.symm)
      rw [if_neg eu]
      rcases List.mem_append.mp hu with hu | hu
      · exact fun z w => ap u hu b w z
      · exact absurd (List.mem_singleton.mp hu) eu
    · rw [if_neg e]
      rcases List.mem_append.mp ht with ht | ht
      · by_cases e2 : u = T
        · rw [if_pos e2]
          exact ap t ht b
        · rw [if_neg e2]
          rcases List.mem_append.mp hu with hu | hu
          · exact S.ap t ht u hu htu b
          · exact absurd (List.mem_singleton.mp hu) e2
      · exact absurd (List.mem_singleton.mp ht) e
end
theorem len_put_le {kv : List (Key × V)} {k : Key} {v : V} : (putK kv k v).length ≤ kv.length + 1 := by
  unfold putK
  split
  · rw [List.length_map]
    omega
  · rw [List.length_append]
    exact Nat.le_refl _
theorem MF.new (L D : Addr) : MF (putK (putK (putK [] (kS "line") (.ref L)) (kS "marks") (.ref D)) (kS "level") (.int 0)) L D 0 :=
  ⟨by rw [valV_put, if_neg (by decide +kernel), valV_put, if_neg (by decide +kernel), valV_put, if_pos rfl], by rw [valV_put, if_neg (by decide +kernel), valV_put, if_pos rfl], by rw [valV_put, if_pos rfl], by
    have a := len_put_le (kv := []) (k := kS "line") (v := .ref L)
    have b := len_put_le (kv := putK [] (kS "line") (.ref L)) (k := kS "marks") (v := .ref D)
    have c := len_put_le (kv := putK (putK [] (kS "line") (.ref L)) (kS "marks") (.ref D)) (k := kS "level") (v := .int 0)
    simp only [List.length_nil] at a
    omega⟩
section
variable {P : Program} {w : World} {K : PySem.W.Frag} {mg : Str → Option Value} {base : Heap}
/-- a def with defaults, by its body -/
theorem okD {x qual : Str} {st : Stmt} {f : Addr} {fd : FuncData} {N ps : List Str} {k : Nat} {sp : Sp} {dvs : List V} {kws : List (Str × V)} (F : FunD K x qual (defArgs st) (defBody st) (defScope st) dvs kws f fd) (S : FnScope N ps (defScope st)) (len : ∀ vs H Q E, sp vs H Q E → vs.length = ps.length)
    (hbody : ∀ (cdv : Value) (A : Around) (outer : List Env) (s : Shared) (H : Hp) (vs : List V) (Q : VK) (E : XK), Room k (A.deeper (PyProof.Rows.envOfC qual (defScope st) s.heap.objs.size f cdv)) → sp vs H Q E →
      ∃ t, PSs (cxOf CX0 P w K mg base N qual (defScope st) f cdv A outer s H E).nox (defBody st) t ∧ t { nx := fun _ H' => Q .non H', rt := Q } (start N vs) H) : FnOk P w K mg base CX0 (k + 1) f fd ps sp := by
  obtain ⟨oc, od, dV, kV, doc, pm, an, cdv, ct, osl, rfl, lk, hcd, _, _⟩ := F.ex
  refine fn_of lk hcd S len fun A outer s H vs Q E hr hsp => ?_
  obtain ⟨t, h, q⟩ := hbody cdv A outer s H vs Q E hr hsp
  exact ⟨t, h.nox, q⟩
end

end k47
namespace k47
open PySem L2 LC RM
def spcheck_count : Sp := fun vs H Q _ => ∃ (z : Str) (c m : Int), vs = [.str z, .int c, .int m] ∧ c ≤ m ∧ Q .non H
theorem ok_check_count {P : Program} {w : World} {K : PySem.W.Frag} {mg : Str → Option Value} {base : Heap} {f : Addr} {fd : FuncData} (D : Def K mg "check_count" scheck_count Pcheck_count f fd) (T : Txt K mg) :
    FnOk P w K mg base CX0 1 f fd Pcheck_count (spcheck_count) := by
  refine D.F.ok sccheck_count (fun vs H Q E h => ?_) (fun cdv A outer s H vs Q E hr h => ?_)
  · obtain ⟨z, c, m, rfl, hc, k⟩ := h
    rfl
  · obtain ⟨z, c, m, rfl, hc, k⟩ := h
    refine ⟨_, (pss_one (ps_if (pt_cmpR op_gt (pv 1) (pv 2) (nomark _)) (pss_one LC.ps_never) pss_nil)), ?_⟩
    exact ⟨_, rfl, _, rfl, _, _, rfl, rfl, _, rfl, ite_d (fun h => absurd h (by omega)) (fun _ => k)⟩
end k47
namespace k47
open PySem L2 LC RM
def spis_whole : Sp := fun vs H Q _ => ∃ v : Int, vs = [.int v] ∧ Q (.bl true) H
theorem ok_is_whole {P : Program} {w : World} {K : PySem.W.Frag} {mg : Str → Option Value} {base : Heap} {f : Addr} {fd : FuncData} (D : Def K mg "is_whole" sis_whole Pis_whole f fd) (T : Txt K mg) :
    FnOk P w K mg base CX0 1 f fd Pis_whole (spis_whole) := by
  refine D.F.ok scis_whole (fun vs H Q E h => ?_) (fun cdv A outer s H vs Q E hr h => ?_)
  · obtain ⟨v, rfl, k⟩ := h
    rfl
  · obtain ⟨v, rfl, k⟩ := h
    refine ⟨_, (pss_one (ps_ret (pe_and (pe_callB call_isi (by rfl) T.n_isinstance (by decide +kernel) (pa_cons (pv 0) (pa_cons (pe_ty "int" (by rfl) T.n_int (by decide +kernel)) pa_nil))) (pe_one (pe_not (pe_callB call_isi (by rfl) T.n_isinstance (by decide +kernel) (pa_cons (pv 0) (pa_cons (pe_ty "bool" (by rfl) T.n_bool (by decide +kernel)) pa_nil)))))))), ?_⟩
    refine ⟨_, rfl, _, _, _, _, _, rfl, .ty _, .base (.int v), kit_ty (show kitB "int" "int" = some true by decide +kernel), _, rfl, ?_⟩
    exact iteT ⟨_, rfl, _, _, _, _, _, rfl, .ty _, .base (.int v), kit_ty (show kitB "int" "bool" = some false by decide +kernel), _, rfl, k⟩
end k47
namespace k47
open PySem L2 LC RM
def spis_number : Sp := fun vs H Q _ => ∃ (v lo hi : Int), vs = [.int v, .int lo, .int hi] ∧ lo ≤ v ∧ v ≤ hi ∧ Q (.bl true) H
theorem ok_is_number {P : Program} {w : World} {K : PySem.W.Frag} {mg : Str → Option Value} {base : Heap} {f : Addr} {fd : FuncData} (D : Def K mg "is_number" sis_number Pis_number f fd) (T : Txt K mg) {fis_whole : Addr} {fdis_whole : FuncData} (Dis_whole : Def K mg "is_whole" sis_whole Pis_whole fis_whole fdis_whole) (Gis_whole : FnOk P w K mg base CX0 1 fis_whole fdis_whole Pis_whole (spis_whole)) :
    FnOk P w K mg base CX0 2 f fd Pis_number (spis_number) := by
  refine D.F.ok scis_number (fun vs H Q E h => ?_) (fun cdv A outer s H vs Q E hr h => ?_)
  · obtain ⟨v, lo, hi, rfl, h1, h2, k⟩ := h
    rfl
  · obtain ⟨v, lo, hi, rfl, h1, h2, k⟩ := h
    have hris_whole : Room 1 _ := hr.mono (by decide)
    refine ⟨_, (pss_one (ps_ret (pe_and (pe_call Gis_whole hris_whole rfl Dis_whole.g Dis_whole.F.kp Dis_whole.b .nil pass0 (pa_cons (pv 0) pa_nil)) (pe_one (pe_chain op_le op_le (pv 1) (pv 0) (pv 2)))))), ?_⟩
    refine ⟨_, rfl, v, rfl, _, rfl, iteT ?_⟩
    refine ⟨_, rfl, _, rfl, _, _, rfl, rfl, _, rfl, ite_d (fun _ => ?_) (fun h => absurd h1 h)⟩
    refine ⟨_, rfl, _, _, rfl, rfl, ?_⟩
    show Q (.bl (decide (v ≤ hi))) H
    rw [decide_eq_true h2]
    exact k
end k47
namespace k47
open PySem L2 LC RM
def spis_name : Sp := fun vs H Q _ => ∃ (z : Str), vs = [.str z] ∧ z.length ≤ 1000000 ∧ ∀ H', Same H H' → Q (.bl (isNam (.str z))) H'
theorem ok_is_name {P : Program} {w : World} {K : PySem.W.Frag} {mg : Str → Option Value} {base : Heap} {f : Addr} {fd : FuncData} (D : Def K mg "is_name" sis_name Pis_name f fd) (T : Txt K mg) :
    FnOk P w K mg base CX0 1 f fd Pis_name (spis_name) := by
  refine D.F.ok scis_name (fun vs H Q E h => ?_) (fun cdv A outer s H vs Q E hr h => ?_)
  · obtain ⟨z, rfl, hz, k⟩ := h
    rfl
  · obtain ⟨z, rfl, hz, k⟩ := h
    obtain ⟨tc_DIGITS, hc_DIGITS⟩ := T.c_DIGITS
    obtain ⟨tc_LETTERS, hc_LETTERS⟩ := T.c_LETTERS
    refine ⟨_, (pss_cons (ps_if (PW.pt (pw_or (pt_not (pt_val (pe_callB call_isi (by rfl) T.n_isinstance (by decide +kernel) (pa_cons (pv 0) (pa_cons (pe_ty "str" (by rfl) T.n_str (by decide +kernel)) pa_nil))))) (pw_or1 (pt_not (pt_chain op_le op_le pe_int (pe_callB call_len_str (by rfl) T.n_len PySem.boot_len (pa_cons (pv 0) pa_nil)) pe_int))))) (pss_one (ps_ret pe_bl)) pss_nil)
        (pss_one (ps_ret (pe_and (pe_cmpR op_in_sign (pe_ix ix_str (pv 0) pe_int (fun _ _ => rfl)) (pe_gstr rfl hc_LETTERS) (by rfl)) (pe_one (pe_callB (cr_all rfl) (by rfl) T.n_all (by decide +kernel) (pa_cons (pe_lc (own := [("sign", 1)]) (g := gName 1) (tt := tYes) rfl scis_name.nd (pi_str (pv 0)) (blkOk_by (own := [("sign", 1)]) (N := Nmis_name) (sc := defScope sis_name) (by decide +kernel)) (fun _ _ _ _ _ => pg_name (i := 1) scis_name.nd rfl (Or.inl rfl)) (fun _ _ _ _ _ => pts_nil) (fun _ _ _ _ _ => (pe_or (pe_cmpR op_in_sign (pv 1) (pe_gstr rfl hc_LETTERS) (by rfl)) (pe_one (pe_cmpR op_in_sign (pv 1) (pe_gstr rfl hc_DIGITS) (by rfl)))))) pa_nil))))))), ?_⟩
    refine ⟨_, rfl, _, _, _, _, _, rfl, .ty _, .base (.str z), kit_ty (show kitB "str" "str" = some true by decide +kernel), _, rfl, iteF ?_⟩
    refine ⟨_, rfl, _, rfl, sz_str hz, _, _, rfl, rfl, _, rfl, ?_⟩
    refine ite_d (fun h1 => ?_) (fun h1 => ?_)
    · refine ⟨_, _, rfl, rfl, _, rfl, ?_⟩
      refine ite_nd (fun h8 => ?_) (fun h8 => ?_)
      · have q := k H (Same.refl H)
        rw [isNam_str, decide_eq_false (show ¬ z.length ≤ 8 by omega), Bool.and_false, Bool.false_and, Bool.false_and] at q
        exact q
      · have h1' : 1 ≤ z.length := by omega
        obtain ⟨c0, hc0, e0⟩ := len1 h1'
        have e : isNam (.str z) = (chL c0 && z.cps.toList.all (fun c => chL c || chD c)) := by
          rw [isNam_str, decide_eq_true h1', decide_eq_true (show z.length ≤ 8 by omega), e0]
          rfl
        refine ⟨_, rfl, _, _, c0, rfl, rfl, sz_str hz, atI_nat (j := 0) hc0, _, _, rfl, rfl, _, rfl, ?_⟩
        refine ite_is (mem_low c0) (fun eL => ?_) (fun eL => ?_)
        · refine ⟨_, rfl, _, rfl, fun D hD => lc_text (fun c => .bl (chL c || chD c)) hD hz (fun _ => rfl) (fun c H Q hc q => ?_) ?_⟩
          · refine ⟨_, rfl, _, _, rfl, rfl, _, rfl, ?_⟩
            refine ite_is (mem_low c) (fun e1 => ?_) (fun e1 => ?_)
            · rw [e1, Bool.true_or] at q
              exact q
            · refine ⟨_, rfl, _, _, rfl, rfl, ?_⟩
              rw [e1, Bool.false_or] at q
              rw [mem_dig]
              exact q
          · refine ⟨D, z.cps.toList.map fun c => chL c || chD c, rfl, by rw [← bls_map]; exact SqL.of upd_same, ?_⟩
            rw [all_id]
            have q := k _ (same_new (o := .lst (z.cps.toList.map fun c => V.bl (chL c || chD c))) hD)
            rw [e, eL, Bool.true_and] at q
            exact q
        · have q := k H (Same.refl H)
          rw [e, eL, Bool.false_and] at q
          exact q
    · have q := k H (Same.refl H)
      rw [isNam_str, decide_eq_false (show ¬ 1 ≤ z.length by omega), Bool.false_and, Bool.false_and, Bool.false_and] at q
      refine ⟨_, rfl, ite_nb (fun _ => q) fun z => Bool.noConfusion z⟩
end k47
namespace k47
open PySem L2 LC RM
def sphas_name : Sp := fun vs H Q _ => ∃ (z : Str) (D : Addr) (kv : List (Key × V)) (v : V), vs = [.ref D, .str z] ∧ H D = some (.dK kv) ∧ isNam (.str z) = true ∧ z.length ≤ 1000000 ∧ valV kv (kS z) = some v ∧ ∀ H', Same H H' → Q (.bl true) H'
theorem ok_has_name {P : Program} {w : World} {K : PySem.W.Frag} {mg : Str → Option Value} {base : Heap} {f : Addr} {fd : FuncData} (D : Def K mg "has_name" shas_name Phas_name f fd) (T : Txt K mg) {fis_name : Addr} {fdis_name : FuncData} (Dis_name : Def K mg "is_name" sis_name Pis_name fis_name fdis_name) (Gis_name : FnOk P w K mg base CX0 1 fis_name fdis_name Pis_name (spis_name)) :
    FnOk P w K mg base CX0 2 f fd Phas_name (sphas_name) := by
  refine D.F.ok schas_name (fun vs H Q E h => ?_) (fun cdv A outer s H vs Q E hr h => ?_)
  · obtain ⟨z, D, kv, v, rfl, hD, hz, hl, hv, k⟩ := h
    rfl
  · obtain ⟨z, D, kv, v, rfl, hD, hz, hl, hv, k⟩ := h
    have hris_name : Room 1 _ := hr.mono (by decide)
    refine ⟨_, (pss_one (ps_ret (pe_and (pe_call Gis_name hris_name rfl Dis_name.g Dis_name.F.kp Dis_name.b .nil pass0 (pa_cons (pv 1) pa_nil)) (pe_one (pe_cmp (pc_din (hu_of hr) (pv 1) (pv 0))))))), ?_⟩
    refine ⟨_, rfl, z, rfl, hl, fun H1 s1 => ?_⟩
    rw [hz]
    refine ⟨_, rfl, iteT ⟨_, rfl, _, rfl, D, _, rfl, DGet.k (k := kS z) (s1 _ _ hD), ?_⟩⟩
    rw [hv]
    exact k H1 s1
end k47
namespace k47
open PySem L2 LC RM
def splook_up : Sp := fun vs H Q _ => ∃ (z : Str) (D : Addr) (kv : List (Key × V)) (v : V), vs = [.ref D, .str z] ∧ H D = some (.dK kv) ∧ isNam (.str z) = true ∧ z.length ≤ 1000000 ∧ valV kv (kS z) = some v ∧ ∀ H', Same H H' → Q v H'
theorem ok_look_up {P : Program} {w : World} {K : PySem.W.Frag} {mg : Str → Option Value} {base : Heap} {f : Addr} {fd : FuncData} (D : Def K mg "look_up" slook_up Plook_up f fd) (T : Txt K mg) {fhas_name : Addr} {fdhas_name : FuncData} (Dhas_name : Def K mg "has_name" shas_name Phas_name fhas_name fdhas_name) (Ghas_name : FnOk P w K mg base CX0 2 fhas_name fdhas_name Phas_name (sphas_name)) :
    FnOk P w K mg base CX0 3 f fd Plook_up (splook_up) := by
  refine D.F.ok sclook_up (fun vs H Q E h => ?_) (fun cdv A outer s H vs Q E hr h => ?_)
  · obtain ⟨z, D, kv, v, rfl, hD, hz, hl, hv, k⟩ := h
    rfl
  · obtain ⟨z, D, kv, v, rfl, hD, hz, hl, hv, k⟩ := h
    have hrhas_name : Room 2 _ := hr.mono (by decide)
    refine ⟨_, (pss_cons (ps_if (pt_not (pt_val (pe_call Ghas_name hrhas_name rfl Dhas_name.g Dhas_name.F.kp Dhas_name.b .nil pass0 (pa_cons (pv 0) (pa_cons (pv 1) pa_nil))))) (pss_one LC.ps_never) pss_nil)
        (pss_one (ps_ret (pe_dget (hu_of hr) (pv 0) (pv 1) (fun _ _ => rfl))))), ?_⟩
    refine ⟨_, rfl, _, rfl, z, D, kv, v, rfl, hD, hz, hl, hv, fun H1 s1 => ⟨_, rfl, iteF ?_⟩⟩
    refine ⟨_, rfl, _, rfl, D, v, rfl, ?_, k H1 s1⟩
    rw [← hv]
    exact DGet.k (k := kS z) (s1 _ _ hD)
end k47
namespace k47
open PySem L2 LC RM
def spleast_multiple : Sp := fun vs H Q _ => ∃ (p : Addr) (ws : List Int), vs = [.ref p] ∧ H p = some (.lst (ws.map V.int)) ∧ (∀ w ∈ ws, 1 ≤ w ∧ w ≤ 12) ∧ Q (.int (lcmL ws)) H
theorem ok_least_multiple {P : Program} {w : World} {K : PySem.W.Frag} {mg : Str → Option Value} {base : Heap} {f : Addr} {fd : FuncData} (D : Def K mg "least_multiple" sleast_multiple Pleast_multiple f fd) (T : Txt K mg) {r : Ar} (KR : Kr K mg r) :
    FnOk P w K mg base CX0 1 f fd Pleast_multiple (spleast_multiple) := by
  refine D.F.ok scleast_multiple (fun vs H Q E h => ?_) (fun cdv A outer s H vs Q E hr h => ?_)
  · obtain ⟨p, ws, rfl, hp, hw, k⟩ := h
    rfl
  · obtain ⟨p, ws, rfl, hp, hw, k⟩ := h
    refine ⟨_, (pss_cons (ps_set (i := 1) scleast_multiple.nd rfl (Or.inl rfl) pe_int)
        (pss_cons (ps_for PassesOwn.never rfl (pi_list (pv 0)) (pg_name (i := 2) scleast_multiple.nd rfl (Or.inl rfl))
          (pss_one (ps_set (i := 1) scleast_multiple.nd rfl (Or.inl rfl) (pe_callBfun LC.cr_lcm (by rfl) KR.gl (pa_cons (pv 1) (pa_cons (pv 2) pa_nil))))))
        (pss_one (ps_ret (pv 1))))), ?_⟩
    refine ⟨_, rfl, p, rfl, ⟨_, SqL.of hp⟩, for_it (walk_list (K := K) (a := p) (xs := ws.map V.int)) (fun i σ H' => ∃ v : Option V, σ = [some (.ref p), some (.int (lcmL (ws.take i))), v] ∧ H = H') ⟨none, rfl, rfl⟩ (fun i σ H' _ ⟨_, _, e⟩ => e ▸ SqL.of hp) ?_ ?_⟩
    · rintro i x σ H1 H2 hi ⟨v, rfl, rfl⟩ ⟨rfl, hx⟩
      rw [List.length_map] at hi
      rw [List.getElem?_map, List.getElem?_eq_getElem hi] at hx
      cases hx
      obtain ⟨w0, w1⟩ := hw _ (List.getElem_mem hi)
      obtain ⟨l0, l1⟩ := lcm_le hw i
      refine ⟨_, rfl, _, rfl, _, _, rfl, by omega, by omega, some (.int ws[i]), ?_, rfl⟩
      rw [lcm_next (List.getElem?_eq_getElem hi)]
      rfl
    · rintro σ H1 ⟨v, rfl, rfl⟩
      rw [List.length_map, List.take_length]
      exact ⟨_, rfl, k⟩
end k47
namespace k47
open PySem L2 LC RM
def spcheck_cost : Sp := fun vs H Q _ => ∃ c : Int, vs = [.int c] ∧ 1 ≤ c ∧ c ≤ 1000 ∧ Q .non H
theorem ok_check_cost {P : Program} {w : World} {K : PySem.W.Frag} {mg : Str → Option Value} {base : Heap} {f : Addr} {fd : FuncData} (D : Def K mg "check_cost" scheck_cost Pcheck_cost f fd) (T : Txt K mg) {fis_number : Addr} {fdis_number : FuncData} (Dis_number : Def K mg "is_number" sis_number Pis_number fis_number fdis_number) (Gis_number : FnOk P w K mg base CX0 2 fis_number fdis_number Pis_number (spis_number)) :
    FnOk P w K mg base CX0 3 f fd Pcheck_cost (spcheck_cost) := by
  refine D.F.ok sccheck_cost (fun vs H Q E h => ?_) (fun cdv A outer s H vs Q E hr h => ?_)
  · obtain ⟨c, rfl, c0, c1, k⟩ := h
    rfl
  · obtain ⟨c, rfl, c0, c1, k⟩ := h
    have hris_number : Room 2 _ := hr.mono (by decide)
    obtain ⟨tc_MOST_COST, hc_MOST_COST⟩ := T.c_MOST_COST
    refine ⟨_, (pss_one (ps_if (pt_not (pt_val (pe_call Gis_number hris_number rfl Dis_number.g Dis_number.F.kp Dis_number.b .nil pass0 (pa_cons (pv 0) (pa_cons pe_int (pa_cons (pe_gint rfl hc_MOST_COST) pa_nil)))))) (pss_one LC.ps_never) pss_nil)), ?_⟩
    exact ⟨_, rfl, _, _, _, rfl, c0, c1, _, rfl, iteF k⟩
end k47
namespace k47
open PySem L2 LC RM
def spRoom_init (r : Ar) : Sp := fun vs H Q _ => ∃ (F : Addr → Prop) (x dx p : Addr) (wv : List (Key × V)) (ws : List Int) (Hb : Hp), vs = [.ref x, .ref p] ∧ H x = some (.ins r.c dx []) ∧ Hb x = none ∧ Same Hb H ∧ (∀ b, F b → ∃ o, Hb b = some o) ∧ H p = some (.dK wv) ∧ WOk wv ws ∧
  ∀ (D L : Addr) H', Same Hb H' → Hb D = none → Hb L = none → x ≠ D → RoomAt r (fun b => F b ∨ b = x ∨ b = D ∨ b = L) H' x D L wv (lcmL ws) ⟨zeroK wv, 0, []⟩ → Q .non H'
theorem ok_Room_init {P : Program} {w : World} {K : PySem.W.Frag} {mg : Str → Option Value} {base : Heap} {f : Addr} {fd : FuncData} (F0 : Fun K "__init__" "Room.__init__" sRoom_init f fd) (T : Txt K mg) {r : Ar} (KR : Kr K mg r) {fleast_multiple : Addr} {fdleast_multiple : FuncData} (Dleast_multiple : Def K mg "least_multiple" sleast_multiple Pleast_multiple fleast_multiple fdleast_multiple) (Gleast_multiple : FnOk P w K mg base CX0 1 fleast_multiple fdleast_multiple Pleast_multiple (spleast_multiple)) :
    FnOk P w K mg base CX0 2 f fd PRoom_init (spRoom_init r) := by
  refine F0.ok scRoom_init (fun vs H Q E h => ?_) (fun cdv A outer s H vs Q E hr h => ?_)
  · obtain ⟨F, x, dx, p, wv, ws, Hb, rfl, hx, hb, sb, hF, hp, wk, k⟩ := h
    rfl
  · obtain ⟨F, x, dx, p, wv, ws, Hb, rfl, hx, hb, sb, hF, hp, wk, k⟩ := h
    have hrleast_multiple : Room 1 _ := hr.mono (by decide)
    refine ⟨_, (pss_cons (ps_fld (pv 0) (pe_callTy call_dictD (by rfl) T.n_dict (by decide +kernel) (pa_cons (pv 1) pa_nil)) rfl)
        (pss_cons (ps_fld (pv 0) (pe_lock (pe_dc (own := [("customer", 2)]) (g := gName 2) (tt := tYes) rfl scRoom_init.nd (pi_keys (pv 1)) (blkOk_by (own := [("customer", 2)]) (N := NmRoom_init) (sc := defScope sRoom_init) (by decide +kernel)) (fun _ _ _ _ _ => pg_name (i := 2) scRoom_init.nd rfl (Or.inl rfl)) (fun _ _ _ _ _ => pts_nil) (fun _ _ _ _ _ => (pv 2)) (fun _ _ _ _ _ => pe_int))) rfl)
        (pss_cons (ps_fld (pv 0) pe_int rfl)
        (pss_cons (ps_fld (pv 0) (pe_call Gleast_multiple hrleast_multiple rfl Dleast_multiple.g Dleast_multiple.F.kp Dleast_multiple.b .nil pass0 (pa_cons (LD.pe_listVals rfl (by rfl) T.n_list (pv 1)) pa_nil)) rfl)
        (pss_one (ps_fld (pv 0) (pe_lst pa_nil) rfl)))))), ?_⟩
    refine ⟨_, rfl, p, wv, rfl, .inl hp, fun W hW => ?_⟩
    have nWx : W ≠ x := fun z => by rw [z, hx] at hW; cases hW
    have nWp : W ≠ p := fun z => by rw [z, hp] at hW; cases hW
    have nxp : x ≠ p := fun z => by rw [z, hp] at hx; cases hx
    refine ⟨_, rfl, x, r.c, dx, _, rfl, by rw [upd_ne (Ne.symm nWx)]; exact hx, KR.cl, KR.nw, (by show 0 < 1000; decide), ?_⟩
    have s1 : Same Hb (upd (upd H W (.dK wv)) x (.ins r.c dx (putF "_weights" (.ref W) []))) := same_upd hb (sb.trans (same_new hW))
    have x1 : upd (upd H W (.dK wv)) x (.ins r.c dx (putF "_weights" (.ref W) [])) x = some (.ins r.c dx (putF "_weights" (.ref W) [])) := upd_same
    have p1 : upd (upd H W (.dK wv)) x (.ins r.c dx (putF "_weights" (.ref W) [])) p = some (.dK wv) := by rw [upd_ne (Ne.symm nxp), upd_ne (Ne.symm nWp)]; exact hp
    have w1 : upd (upd H W (.dK wv)) x (.ins r.c dx (putF "_weights" (.ref W) [])) W = some (.dK wv) := by rw [upd_ne nWx]; exact upd_same
    have bW : Hb W = none := sb.free hW
    show tSeq _ _ _ _ (upd (upd H W (.dK wv)) x (.ins r.c dx (putF "_weights" (.ref W) [])))
    generalize upd (upd H W (.dK wv)) x (.ins r.c dx (putF "_weights" (.ref W) [])) = H1 at s1 x1 p1 w1 ⊢
    refine ⟨p, .dK wv, p1, True.intro, fun od => ⟨_, rfl, p, od, rfl, .inl ⟨wv, upd_same, fun D hD => ?_⟩⟩⟩
    have nDp : p ≠ D := fun z => by rw [← z, upd_same] at hD; cases hD
    have hD1 : H1 D = none := by rw [upd_ne (Ne.symm nDp)] at hD; exact hD
    refine dc_it (walk_keys (d := p) (o := od) (kvs := wv)) (fun i H' => H' D = some (.dK ((zeroK wv).take i)) ∧ ∀ b, b ≠ D → H' b = upd H1 p (.frz od (.dK wv)) b) ⟨upd_same, fun b n => upd_ne n⟩ (fun i H' _ ⟨_, e⟩ => by rw [e p nDp]; exact upd_same) ?_ ?_
    · rintro i y H2 H3 hi ⟨d2, e2⟩ ⟨rfl, kk, v, hk, rfl⟩
      refine ⟨rfl, _, rfl, _, kk, rfl, d2, ?_, ?_, fun b n => ?_⟩
      · rw [List.length_take]
        exact Nat.lt_of_le_of_lt (Nat.min_le_left _ _) (Nat.lt_of_lt_of_le hi (Nat.le_trans wk.len (by decide)))
      · rw [upd_same, zero_step wk.nd hk]
      · rw [upd_ne n]
        exact e2 b n
    · rintro H2 ⟨d2, e2⟩
      rw [List.take_of_length_le (by unfold zeroK; rw [List.length_map]; exact Nat.le_refl _)] at d2
      have nxD : x ≠ D := fun z => by rw [z, hD1] at x1; cases x1
      have nWD : W ≠ D := fun z => by rw [z, hD1] at w1; cases w1
      have g2 : ∀ b, b ≠ D → upd H2 p (.dK wv) b = H1 b := fun b n => by
        by_cases e : b = p
        · rw [e, upd_same, p1]
        · rw [upd_ne e, e2 b n, upd_ne e]
      have d3 : upd H2 p (.dK wv) D = some (.dK (zeroK wv)) := by rw [upd_ne (Ne.symm nDp)]; exact d2
      have bD : Hb D = none := s1.free hD1
      have s2 : Same Hb (upd H2 p (.dK wv)) := fun b o e => by
        rw [g2 b (ne_of_none e bD)]
        exact s1 b o e
      refine ⟨by rw [e2 p nDp]; exact upd_same, _, rfl, x, r.c, dx, _, rfl, by rw [g2 x nxD]; exact x1, KR.cl, KR.nm, (by show 1 < 1000; decide), ?_⟩
      refine ⟨_, rfl, x, r.c, dx, _, rfl, upd_same, KR.cl, KR.nl, (by show 2 < 1000; decide), ?_⟩
      have f1 : ∀ (o o' : HO) (b : Addr), b ≠ x → upd (upd (upd H2 p (.dK wv)) x o) x o' b = upd H2 p (.dK wv) b := fun o o' b n => by rw [upd_ne n, upd_ne n]
      refine ⟨_, rfl, p, wv, rfl, by rw [f1 _ _ _ (Ne.symm nxp), upd_same], fun M hM => ?_⟩
      have nMx : x ≠ M := fun z => by rw [← z, upd_same] at hM; cases hM
      have hM' : upd H2 p (.dK wv) M = none := by rw [f1 _ _ _ (Ne.symm nMx)] at hM; exact hM
      have bM : Hb M = none := s2.free hM'
      have nMD : D ≠ M := fun z => by rw [← z, d3] at hM'; cases hM'
      have nMW : W ≠ M := fun z => by rw [← z, g2 W nWD, w1] at hM'; cases hM'
      refine ⟨M, ws, rfl, by rw [upd_same, wk.vals], wk.b12, _, rfl, x, r.c, dx, _, rfl, by rw [upd_ne nMx]; exact upd_same, KR.cl, KR.ns, (by show 3 < 1000; decide), ?_⟩
      refine ⟨(by show 0 ≤ sizeLine; decide), fun L hL => ?_⟩
      have nLx : x ≠ L := fun z => by rw [← z, upd_same] at hL; cases hL
      rw [upd_ne (Ne.symm nLx)] at hL
      have nLM : M ≠ L := fun z => by rw [← z, upd_same] at hL; cases hL
      rw [upd_ne (Ne.symm nLM), f1 _ _ _ (Ne.symm nLx)] at hL
      have bL : Hb L = none := s2.free hL
      have nLD : D ≠ L := fun z => by rw [← z, d3] at hL; cases hL
      have nLW : W ≠ L := fun z => by rw [← z, g2 W nWD, w1] at hL; cases hL
      refine ⟨_, rfl, x, r.c, dx, _, rfl, by rw [upd_ne nLx]; exact upd_same, KR.cl, KR.nq, (by show 4 < 1000; decide), ?_⟩
      refine k D L _ ?_ bD bL nxD ⟨⟨dx, W, _, [], upd_same, rf5 W D L (lcmL ws), ?_, ?_, ?_, ?_, .nil⟩, .inr (.inl rfl), .inr (.inr (.inl rfl)), .inr (.inr (.inr rfl))⟩
      · refine same_upd hb (same_upd bL (same_upd hb (same_upd bM (same_upd hb (same_upd hb s2)))))
      · rw [upd_ne nWx, upd_ne nLW, upd_ne nWx, upd_ne nMW, f1 _ _ _ nWx, g2 W nWD]
        exact w1
      · rintro (z | z | z | z)
        · obtain ⟨o, e⟩ := hF _ z
          rw [bW] at e
          cases e
        · exact nWx z
        · exact nWD z
        · exact nLW z
      · rw [upd_ne (Ne.symm nxD), upd_ne nLD, upd_ne (Ne.symm nxD), upd_ne nMD, f1 _ _ _ (Ne.symm nxD)]
        exact d3
      · rw [upd_ne (Ne.symm nLx)]
        exact upd_same
end k47
namespace k47
open PySem L2 LC RM
def spRoom_head (r : Ar) : Sp := fun vs H Q _ => ∃ (F : Addr → Prop) (x D L : Addr) (wv : List (Key × V)) (sc : Int) (s : RS) (ns : List Str), vs = [.ref x] ∧ RoomAt r F H x D L wv sc s ∧ Dic ns s.kv ∧ (∀ q ∈ s.ln, q.1 ∈ ns) ∧ s.ln.length ≤ 1000 ∧
  (∀ H', s.ln = [] → Same H H' → Q .non H') ∧ ∀ (j : Nat) (q : Row) (t : Addr) H', headAt s.kv s.ln = some j → s.ln[j]? = some q → Same H H' → (∀ ts : List Addr, H L = some (.lst (ts.map V.ref)) → ts[j]? = some t) → RowAt F H' t q → Q (.ref t) H'
theorem ok_Room_head {P : Program} {w : World} {K : PySem.W.Frag} {mg : Str → Option Value} {base : Heap} {f : Addr} {fd : FuncData} (F0 : Fun K "head" "Room.head" sRoom_head f fd) (T : Txt K mg) {r : Ar} (KR : Kr K mg r) :
    FnOk P w K mg base CX0 1 f fd PRoom_head (spRoom_head r) := by
  refine F0.ok scRoom_head (fun vs H Q E h => ?_) (fun cdv A outer s H vs Q E hr h => ?_)
  · obtain ⟨F, x, D, L, wv, sc, s, ns, rfl, ⟨⟨dx, W, fs, ts, hx, rf, hW, nW, hD, hL, ln⟩, fx, fD, fL⟩, dic, hn, hl, k0, k1⟩ := h
    rfl
  · obtain ⟨F, x, D, L, wv, sc, s, ns, rfl, ⟨⟨dx, W, fs, ts, hx, rf, hW, nW, hD, hL, ln⟩, fx, fD, fL⟩, dic, hn, hl, k0, k1⟩ := h
    refine ⟨_, (pss_cons (ps_setLc (i := 1) (own := [("at", 2), ("row", 3)]) (g := gTup _ 2 (gCons (gName 2) (gCons (gName 3) gNil))) (tt := tYes) rfl scRoom_head.nd rfl rfl (sw_true rfl rfl rfl (by decide +kernel)) (pi_enum (by rfl) T.n_enumerate (pa_cons (pe_fld (pv 0) rfl) pa_nil)) (blkOk_by (own := [("at", 2), ("row", 3)]) (N := NmRoom_head) (sc := defScope sRoom_head) (by decide +kernel)) (fun _ _ _ _ _ => by exact (pg_tup rfl (pgs_cons (pg_name (i := 2) scRoom_head.nd rfl (Or.inl rfl)) (pgs_cons (pg_name (i := 3) scRoom_head.nd rfl (Or.inl rfl)) pgs_nil)))) (fun _ _ _ _ _ => pts_nil) (fun _ _ _ _ _ => (pe_tup (pa_cons (pe_dget (hu_of hr) (show PE _ _ (tFld K _ "_marks") from pe_fld (pv 0) rfl) (pe_ix (show IxR _ (rIxT K) from ix_tup) (pv 3) pe_int (fun _ _ => rfl)) (fun _ _ => rfl)) (pa_cons (pe_ix (show IxR _ (rIxT K) from ix_tup) (pv 3) pe_int (fun _ _ => rfl)) (pa_cons (pv 2) pa_nil))))))
        (pss_one (ps_ret (pe_ifExp (pt_cmpR op_gt (pe_callB call_len_seq (by rfl) T.n_len PySem.boot_len (pa_cons (pv 1) pa_nil)) pe_int (nomark _)) (pe_ix ix_list (pe_fld (pv 0) rfl) (pe_ix ix_tup (pe_callB (LD.cr_minT rfl hr.units) (by rfl) T.n_min (by decide +kernel) (pa_cons (pv 1) pa_nil)) pe_int (fun _ _ => rfl)) (fun _ _ => rfl)) pe_non)))), ?_⟩
    have tl : ts.length = s.ln.length := ln.length
    refine ⟨_, rfl, x, r.c, dx, fs, _, rfl, hx, KR.cl, KR.nq, rf.q, L, _, rfl, SqL.of hL, fun T hT => lc_it (walk_enum (K := K) (a := L) (xs := ts.map V.ref)) (fun i H' => Same H H' ∧ ∃ us : List Addr, H' T = some (.lst (us.map V.ref)) ∧ us.length = i ∧ Paired (LD.Row3 H') us ((ranks s.kv s.ln).take i)) ⟨same_new hT, [], upd_same, rfl, .nil⟩ (fun i H' _ ⟨sm, _⟩ => sm.seq (SqL.of hL)) ?_ ?_⟩
    · rintro i v H1 H2 hi ⟨sm, us, hT1, hul, pr⟩ ⟨E, v1, v2, rfl, hE, rfl, e1, e2⟩
      rw [List.length_map] at hi
      have e2' : (ts.map V.ref)[i]? = some v2 := e2
      have e1' : some (V.int (i : Nat)) = some v1 := e1
      cases e1'
      obtain ⟨t, ht⟩ : ∃ t, ts[i]? = some t := ⟨_, List.getElem?_eq_getElem hi⟩
      rw [List.getElem?_map, ht] at e2'
      cases e2'
      obtain ⟨q, hq, nt, rq⟩ := ln.at_ ht
      have hqn : q.1 ∈ ns := hn q (List.mem_of_getElem? hq)
      have smE : Same H1 (upd H1 E (.tup [.int (i : Nat), .ref t])) := same_new hE
      have sE := sm.trans smE
      have hTE := smE _ _ hT1
      refine ⟨E, _, rfl, SqT.of upd_same, rfl, _, _, rfl, _, _, rfl, rfl, rfl, ?_⟩
      generalize upd H1 E (.tup [.int (i : Nat), .ref t]) = H3 at smE sE hTE ⊢
      have hqq : SqT K H3 t (rowV q) := SqT.of (sE _ _ rq)
      refine ⟨_, rfl, x, r.c, dx, fs, _, rfl, sE _ _ hx, KR.cl, KR.nm, rf.m, _, rfl, _, _, _, _, rfl, rfl, hqq, rfl, D, .int (markOf s.kv q.1), rfl, (by rw [← dic.2 _ hqn]; exact DGet.k (k := kS q.1) (sE _ _ hD)), ?_⟩
      refine ⟨_, rfl, _, _, _, _, rfl, rfl, hqq, rfl, _, rfl, (by show 3 ≤ sizeLine; decide), fun U hU => ?_⟩
      have sU := sE.trans (same_new (o := .tup [.int (markOf s.kv q.1), .str q.1, .int (i : Nat)]) hU)
      have hTU : upd H3 U (.tup [.int (markOf s.kv q.1), .str q.1, .int (i : Nat)]) T = some (.lst (us.map V.ref)) := same_new hU _ _ hTE
      have nUT : U ≠ T := fun z => by
        rw [z, hTE] at hU
        cases hU
      refine ⟨_, hTU, by rw [List.length_map, hul]; exact Nat.lt_of_lt_of_le hi (by rw [tl]; exact Nat.le_trans hl (by decide)), same_upd hT sU, us ++ [U], ?_, by rw [List.length_append, hul]; rfl, ranks_step hq pr (fun b xs e => ?_) ?_⟩
      · rw [upd_same, List.map_append]
        rfl
      · have q1 := smE _ _ e
        have q2 := same_new (o := .tup [.int (markOf s.kv q.1), .str q.1, .int (i : Nat)]) hU _ _ q1
        rw [upd_ne (fun z => by rw [z, hTU] at q2; cases q2)]
        exact q2
      · rw [upd_ne nUT]
        exact upd_same
    · rintro H1 ⟨sm, us, hT1, hul, pr⟩
      rw [List.length_map] at hul pr
      rw [List.take_of_length_le (by rw [ranks_len, tl]; exact Nat.le_refl _)] at pr
      refine ⟨_, rfl, _, _, rfl, .inl (SqL.of hT1), _, _, rfl, rfl, _, rfl, ite_d (fun hp => ?_) (fun hp => ?_)⟩
      · rw [List.length_map] at hp
        cases er : ranks s.kv s.ln with
        | nil =>
          have := congrArg List.length er
          rw [ranks_len] at this
          simp only [List.length_nil] at this
          omega
        | cons r0 rs =>
          obtain ⟨j, q, hj, hq, jl, em⟩ := headAt_cons er
          rw [er] at pr
          obtain ⟨t, ht, rt⟩ := pair_at' ln hq
          have ht' : (ts.map V.ref)[j]? = some (V.ref t) := by rw [List.getElem?_map, ht]; rfl
          refine ⟨_, rfl, x, r.c, dx, fs, _, rfl, sm _ _ hx, KR.cl, KR.nq, rf.q, _, rfl, T, us, r0, rs, rfl, SqL.of hT1, pr, fun i u hu hm => ?_⟩
          obtain ⟨ru, e1, e2⟩ := pair_at pr hu
          rw [hm] at e1
          cases e1
          have e3 : H1 u = some (.tup [.int (markOf s.kv q.1), .str q.1, .int (j : Nat)]) := by
            have e4 := e2
            rw [em] at e4
            exact e4
          refine ⟨_, _, _, _, rfl, rfl, SqT.of e3, rfl, _, _, _, _, rfl, rfl, SqL.of (sm _ _ hL), atI_nat ht', ?_⟩
          exact k1 j q t H1 hj hq sm (fun ts' e => by rw [hL] at e; cases List.map_inj_right (fun a b z => V.ref.inj z) |>.mp (HO.lst.inj (Option.some.inj e)); exact ht) (rt.kp (KpF.same sm))
      · rw [List.length_map] at hp
        have e0 : s.ln = [] := List.length_eq_zero_iff.mp (by omega)
        exact k0 H1 e0 sm
end k47
namespace k47
open PySem L2 LC RM
def spRoom_level (r : Ar) : Sp := fun vs H Q _ => ∃ (F : Addr → Prop) (x D L : Addr) (wv : List (Key × V)) (sc : Int) (s : RS), vs = [.ref x] ∧ RoomAt r F H x D L wv sc s ∧ Q (.int s.lv) H
theorem ok_Room_level {P : Program} {w : World} {K : PySem.W.Frag} {mg : Str → Option Value} {base : Heap} {f : Addr} {fd : FuncData} (F0 : Fun K "level" "Room.level" sRoom_level f fd) (T : Txt K mg) {r : Ar} (KR : Kr K mg r) :
    FnOk P w K mg base CX0 1 f fd PRoom_level (spRoom_level r) := by
  refine F0.ok scRoom_level (fun vs H Q E h => ?_) (fun cdv A outer s H vs Q E hr h => ?_)
  · obtain ⟨F, x, D, L, wv, sc, s, rfl, ⟨⟨dx, W, fs, ts, hx, rf, hW, nW, hD, hL, ln⟩, fx, fD, fL⟩, k⟩ := h
    rfl
  · obtain ⟨F, x, D, L, wv, sc, s, rfl, ⟨⟨dx, W, fs, ts, hx, rf, hW, nW, hD, hL, ln⟩, fx, fD, fL⟩, k⟩ := h
    refine ⟨_, (pss_one (ps_ret (pe_fld (pv 0) rfl))), ?_⟩
    exact ⟨_, rfl, x, r.c, dx, fs, _, rfl, hx, KR.cl, KR.nl, rf.l, k⟩
end k47
namespace k47
open PySem L2 LC RM
def spRoom_scale (r : Ar) : Sp := fun vs H Q _ => ∃ (F : Addr → Prop) (x D L : Addr) (wv : List (Key × V)) (sc : Int) (s : RS), vs = [.ref x] ∧ RoomAt r F H x D L wv sc s ∧ Q (.int sc) H
theorem ok_Room_scale {P : Program} {w : World} {K : PySem.W.Frag} {mg : Str → Option Value} {base : Heap} {f : Addr} {fd : FuncData} (F0 : Fun K "scale" "Room.scale" sRoom_scale f fd) (T : Txt K mg) {r : Ar} (KR : Kr K mg r) :
    FnOk P w K mg base CX0 1 f fd PRoom_scale (spRoom_scale r) := by
  refine F0.ok scRoom_scale (fun vs H Q E h => ?_) (fun cdv A outer s H vs Q E hr h => ?_)
  · obtain ⟨F, x, D, L, wv, sc, s, rfl, ⟨⟨dx, W, fs, ts, hx, rf, hW, nW, hD, hL, ln⟩, fx, fD, fL⟩, k⟩ := h
    rfl
  · obtain ⟨F, x, D, L, wv, sc, s, rfl, ⟨⟨dx, W, fs, ts, hx, rf, hW, nW, hD, hL, ln⟩, fx, fD, fL⟩, k⟩ := h
    refine ⟨_, (pss_one (ps_ret (pe_fld (pv 0) rfl))), ?_⟩
    exact ⟨_, rfl, x, r.c, dx, fs, _, rfl, hx, KR.cl, KR.ns, rf.s, k⟩
end k47
namespace k47
open PySem L2 LC RM
def spRoom_len (r : Ar) : Sp := fun vs H Q _ => ∃ (F : Addr → Prop) (x D L : Addr) (wv : List (Key × V)) (sc : Int) (s : RS), vs = [.ref x] ∧ RoomAt r F H x D L wv sc s ∧ Q (.int s.ln.length) H
theorem ok_Room_len {P : Program} {w : World} {K : PySem.W.Frag} {mg : Str → Option Value} {base : Heap} {f : Addr} {fd : FuncData} (F0 : Fun K "__len__" "Room.__len__" sRoom_len f fd) (T : Txt K mg) {r : Ar} (KR : Kr K mg r) :
    FnOk P w K mg base CX0 1 f fd PRoom_len (spRoom_len r) := by
  refine F0.ok scRoom_len (fun vs H Q E h => ?_) (fun cdv A outer s H vs Q E hr h => ?_)
  · obtain ⟨F, x, D, L, wv, sc, s, rfl, ⟨⟨dx, W, fs, ts, hx, rf, hW, nW, hD, hL, ln⟩, fx, fD, fL⟩, k⟩ := h
    rfl
  · obtain ⟨F, x, D, L, wv, sc, s, rfl, ⟨⟨dx, W, fs, ts, hx, rf, hW, nW, hD, hL, ln⟩, fx, fD, fL⟩, k⟩ := h
    refine ⟨_, (pss_one (ps_ret (pe_callB call_len_seq (by rfl) T.n_len PySem.boot_len (pa_cons (pe_fld (pv 0) rfl) pa_nil)))), ?_⟩
    refine ⟨_, rfl, x, r.c, dx, fs, _, rfl, hx, KR.cl, KR.nq, rf.q, _, _, rfl, .inl (SqL.of hL), ?_⟩
    rw [List.length_map, ln.length]
    exact k
end k47
namespace k47
open PySem L2 LC RM
def spRoom_bool (r : Ar) : Sp := fun vs H Q _ => ∃ (x : Addr), vs = [.ref x] ∧ Q (.bl true) H
theorem ok_Room_bool {P : Program} {w : World} {K : PySem.W.Frag} {mg : Str → Option Value} {base : Heap} {f : Addr} {fd : FuncData} (F0 : Fun K "__bool__" "Room.__bool__" sRoom_bool f fd) (T : Txt K mg) {r : Ar} (KR : Kr K mg r) :
    FnOk P w K mg base CX0 1 f fd PRoom_bool (spRoom_bool r) := by
  refine F0.ok scRoom_bool (fun vs H Q E h => ?_) (fun cdv A outer s H vs Q E hr h => ?_)
  · obtain ⟨x, rfl, k⟩ := h
    rfl
  · obtain ⟨x, rfl, k⟩ := h
    refine ⟨_, (pss_one (ps_ret pe_bl)), ?_⟩
    exact k
end k47
namespace k47
open PySem L2 LC RM
def spRoom_mark_of (r : Ar) : Sp := fun vs H Q _ => ∃ (F : Addr → Prop) (x D L : Addr) (wv : List (Key × V)) (sc : Int) (s : RS) (z : Str) (v : V), vs = [.ref x, .str z] ∧ RoomAt r F H x D L wv sc s ∧ isNam (.str z) = true ∧ z.length ≤ 1000000 ∧ valV s.kv (kS z) = some v ∧ ∀ H', Same H H' → Q v H'
theorem ok_Room_mark_of {P : Program} {w : World} {K : PySem.W.Frag} {mg : Str → Option Value} {base : Heap} {f : Addr} {fd : FuncData} (F0 : Fun K "mark_of" "Room.mark_of" sRoom_mark_of f fd) (T : Txt K mg) {r : Ar} (KR : Kr K mg r) {flook_up : Addr} {fdlook_up : FuncData} (Dlook_up : Def K mg "look_up" slook_up Plook_up flook_up fdlook_up) (Glook_up : FnOk P w K mg base CX0 3 flook_up fdlook_up Plook_up (splook_up)) :
    FnOk P w K mg base CX0 4 f fd PRoom_mark_of (spRoom_mark_of r) := by
  refine F0.ok scRoom_mark_of (fun vs H Q E h => ?_) (fun cdv A outer s H vs Q E hr h => ?_)
  · obtain ⟨F, x, D, L, wv, sc, s, z, v, rfl, ⟨⟨dx, W, fs, ts, hx, rf, hW, nW, hD, hL, ln⟩, fx, fD, fL⟩, hz, hl, hv, k⟩ := h
    rfl
  · obtain ⟨F, x, D, L, wv, sc, s, z, v, rfl, ⟨⟨dx, W, fs, ts, hx, rf, hW, nW, hD, hL, ln⟩, fx, fD, fL⟩, hz, hl, hv, k⟩ := h
    have hrlook_up : Room 3 _ := hr.mono (by decide)
    refine ⟨_, (pss_one (ps_ret (pe_call Glook_up hrlook_up rfl Dlook_up.g Dlook_up.F.kp Dlook_up.b .nil pass0 (pa_cons (pe_fld (pv 0) rfl) (pa_cons (pv 1) pa_nil))))), ?_⟩
    exact ⟨_, rfl, x, r.c, dx, fs, _, rfl, hx, KR.cl, KR.nm, rf.m, _, rfl, z, D, _, v, rfl, hD, hz, hl, hv, k⟩
end k47
namespace k47
open PySem L2 LC RM
def spRoom_waiting (r : Ar) : Sp := fun vs H Q _ => ∃ (F : Addr → Prop) (x D L : Addr) (wv : List (Key × V)) (sc : Int) (s : RS), vs = [.ref x] ∧ RoomAt r F H x D L wv sc s ∧ ∀ (M : Addr) (ts : List Addr) H', H M = none → Same H H' → H' M = some (.lst (ts.map V.ref)) → Lines F H' ts s.ln → Q (.ref M) H'
theorem ok_Room_waiting {P : Program} {w : World} {K : PySem.W.Frag} {mg : Str → Option Value} {base : Heap} {f : Addr} {fd : FuncData} (F0 : Fun K "waiting" "Room.waiting" sRoom_waiting f fd) (T : Txt K mg) {r : Ar} (KR : Kr K mg r) :
    FnOk P w K mg base CX0 1 f fd PRoom_waiting (spRoom_waiting r) := by
  refine F0.ok scRoom_waiting (fun vs H Q E h => ?_) (fun cdv A outer s H vs Q E hr h => ?_)
  · obtain ⟨F, x, D, L, wv, sc, s, rfl, ⟨⟨dx, W, fs, ts, hx, rf, hW, nW, hD, hL, ln⟩, fx, fD, fL⟩, k⟩ := h
    rfl
  · obtain ⟨F, x, D, L, wv, sc, s, rfl, ⟨⟨dx, W, fs, ts, hx, rf, hW, nW, hD, hL, ln⟩, fx, fD, fL⟩, k⟩ := h
    refine ⟨_, (pss_one (ps_ret (pe_callTy call_list_of (by rfl) T.n_list (by decide +kernel) (pa_cons (pe_fld (pv 0) rfl) pa_nil)))), ?_⟩
    exact ⟨_, rfl, x, r.c, dx, fs, _, rfl, hx, KR.cl, KR.nq, rf.q, L, _, rfl, .inl (SqL.of hL), fun M hM => k M ts _ hM (same_new hM) upd_same (ln.kp (KpF.same (same_new hM)))⟩
end k47
namespace k47
open PySem L2 LC RM
def spRoom_join (r : Ar) : Sp := fun vs H Q _ => ∃ (F : Addr → Prop) (x D L : Addr) (wv : List (Key × V)) (sc : Int) (s : RS) (ns : List Str) (z : Str) (c : Int) (u : Option Int), vs = [.ref x, .str z, .int c, uV u] ∧ RoomAt r F H x D L wv sc s ∧ Dic ns s.kv ∧ z ∈ ns ∧ isNam (.str z) = true ∧ z.length ≤ 1000000 ∧ 1 ≤ c ∧ c ≤ 1000 ∧ s.ln.length ≤ 39 ∧ (∀ b, F b → ∃ o, H b = some o) ∧
  ∀ H', KpF (fun b => b = D ∨ b = L) H H' → RoomAt r F H' x D L wv sc (joinS s z c u) → Q .non H'
theorem ok_Room_join {P : Program} {w : World} {K : PySem.W.Frag} {mg : Str → Option Value} {base : Heap} {f : Addr} {fd : FuncData} (F0 : FunD K "join" "Room.join" (defArgs sRoom_join) (defBody sRoom_join) (defScope sRoom_join) [V.non] [] f fd) (T : Txt K mg) {r : Ar} (KR : Kr K mg r) {fcheck_count : Addr} {fdcheck_count : FuncData} (Dcheck_count : Def K mg "check_count" scheck_count Pcheck_count fcheck_count fdcheck_count) (Gcheck_count : FnOk P w K mg base CX0 1 fcheck_count fdcheck_count Pcheck_count (spcheck_count)) {flook_up : Addr} {fdlook_up : FuncData} (Dlook_up : Def K mg "look_up" slook_up Plook_up flook_up fdlook_up) (Glook_up : FnOk P w K mg base CX0 3 flook_up fdlook_up Plook_up (splook_up)) {fcheck_cost : Addr} {fdcheck_cost : FuncData} (Dcheck_cost : Def K mg "check_cost" scheck_cost Pcheck_cost fcheck_cost fdcheck_cost) (Gcheck_cost : FnOk P w K mg base CX0 3 fcheck_cost fdcheck_cost Pcheck_cost (spcheck_cost)) :
    FnOk P w K mg base CX0 4 f fd PRoom_join (spRoom_join r) := by
  refine okD F0 scRoom_join (fun vs H Q E h => ?_) (fun cdv A outer s H vs Q E hr h => ?_)
  · obtain ⟨F, x, D, L, wv, sc, s, ns, z, c, u, rfl, ⟨⟨dx, W, fs, ts, hx, rf, hW, nW, hD, hL, ln⟩, fx, fD, fL⟩, dic, hzn, hz, hl, c0, c1, l39, hF, k⟩ := h
    rfl
  · obtain ⟨F, x, D, L, wv, sc, s, ns, z, c, u, rfl, ⟨⟨dx, W, fs, ts, hx, rf, hW, nW, hD, hL, ln⟩, fx, fD, fL⟩, dic, hzn, hz, hl, c0, c1, l39, hF, k⟩ := h
    have hrcheck_count : Room 1 _ := hr.mono (by decide)
    have hrlook_up : Room 3 _ := hr.mono (by decide)
    have hrcheck_cost : Room 3 _ := hr.mono (by decide)
    obtain ⟨tc_MOST_WAITING, hc_MOST_WAITING⟩ := T.c_MOST_WAITING
    refine ⟨_, (pss_cons (ps_set (i := 4) scRoom_join.nd rfl (Or.inl rfl) (pe_call Glook_up hrlook_up rfl Dlook_up.g Dlook_up.F.kp Dlook_up.b .nil pass0 (pa_cons (pe_fld (pv 0) rfl) (pa_cons (pv 1) pa_nil))))
        (pss_cons (ps_expr (pe_call Gcheck_cost hrcheck_cost rfl Dcheck_cost.g Dcheck_cost.F.kp Dcheck_cost.b .nil pass0 (pa_cons (pv 2) pa_nil)))
        (pss_cons (ps_expr (pe_call Gcheck_count hrcheck_count rfl Dcheck_count.g Dcheck_count.F.kp Dcheck_count.b .nil pass0 (pa_cons pe_str (pa_cons (pe_op op_add (pe_callB call_len_seq (by rfl) T.n_len PySem.boot_len (pa_cons (pe_fld (pv 0) rfl) pa_nil)) pe_int) (pa_cons (pe_gint rfl hc_MOST_WAITING) pa_nil)))))
        (Evl.pss_cut (ps_if (pt_cmpR op_notIn_seq (pv 1) (pe_lc (own := [("other", 5), ("_", 6)]) (g := gTup _ 3 (gCons (gName 5) (gCons (gName 6) (gCons (gName 6) gNil)))) (tt := tYes) rfl scRoom_join.nd (pi_list (pe_fld (pv 0) rfl)) (blkOk_by (own := [("other", 5), ("_", 6)]) (N := NmRoom_join) (sc := defScope sRoom_join) (by decide +kernel)) (fun _ _ _ _ _ => by exact (pg_tup rfl (pgs_cons (pg_name (i := 5) scRoom_join.nd rfl (Or.inl rfl)) (pgs_cons (pg_name (i := 6) scRoom_join.nd rfl (Or.inl rfl)) (pgs_cons (pg_name (i := 6) scRoom_join.nd rfl (Or.inl rfl)) pgs_nil))))) (fun _ _ _ _ _ => pts_nil) (fun _ _ _ _ _ => (pv 5))) (by rfl)) (pss_one (ps_dput (hu_of hr) (pe_fld (pv 0) rfl) (pv 1) (pe_callB (call_max2 rfl) (by rfl) T.n_max (by decide +kernel) (pa_cons (pv 4) (pa_cons (pe_fld (pv 0) rfl) pa_nil))) (by rfl))) pss_nil)
        (pss_one (ps_expr (pe_bm PySem.F.plainAttrs_list PySem.F.slot_list_append PySem.F.type_list_append mt_append (pe_fld (pv 0) rfl) (pa_cons (pe_tup (pa_cons (pv 1) (pa_cons (pv 2) (pa_cons (pv 3) pa_nil)))) pa_nil)))))))), ?_⟩
    have tl : ts.length = s.ln.length := ln.length
    refine ⟨_, rfl, x, r.c, dx, fs, _, rfl, hx, KR.cl, KR.nm, rf.m, _, rfl, z, D, s.kv, _, rfl, hD, hz, hl, dic.2 z hzn, fun H1 s1 => ?_⟩
    have hx1 := s1 _ _ hx
    have hD1 := s1 _ _ hD
    have hL1 := s1 _ _ hL
    refine ⟨_, rfl, c, rfl, c0, c1, ?_⟩
    refine ⟨_, rfl, x, r.c, dx, fs, _, rfl, hx1, KR.cl, KR.nq, rf.q, _, _, rfl, .inl (SqL.of hL1), _, _, rfl, rfl, _, _, _, rfl, by rw [List.length_map, tl]; omega, ?_⟩
    refine ⟨fun σ H' => ∃ v5 v6 : Option V, σ = [some (.ref x), some (.str z), some (.int c), some (uV u), some (.int (markOf s.kv z)), v5, v6] ∧ KpF (fun b => b = D) H H' ∧ H' D = some (.dK (joinS s z c u).kv), ?_, ?_⟩
    · refine ⟨_, rfl, _, rfl, x, r.c, dx, fs, _, rfl, hx1, KR.cl, KR.nq, rf.q, L, rfl, ⟨_, SqL.of hL1⟩, fun T hT => lc_it (walk_list (K := K) (a := L) (xs := ts.map V.ref)) (fun i H' => Same H1 H' ∧ H' T = some (.lst (namesV (s.ln.take i)))) ⟨same_new hT, upd_same⟩ (fun i H' _ ⟨sm, _⟩ => SqL.of (sm _ _ hL1)) ?_ ?_⟩
      · rintro i v H2 H3 hi ⟨sm, hT2⟩ ⟨rfl, e2⟩
        rw [List.length_map] at hi
        obtain ⟨t, ht⟩ : ∃ t, ts[i]? = some t := ⟨_, List.getElem?_eq_getElem hi⟩
        rw [List.getElem?_map, ht] at e2
        cases e2
        obtain ⟨q, hq, nt, rq⟩ := ln.at_ ht
        refine ⟨_, _, rfl, SqT.of (sm _ _ (s1 _ _ rq)), rfl, _, _, rfl, _, _, rfl, _, _, rfl, rfl, rfl, _, rfl, _, hT2, ?_, same_upd hT sm, ?_⟩
        · unfold namesV
          rw [List.length_map, List.length_take]
          exact Nat.lt_of_le_of_lt (Nat.min_le_right _ _) (Nat.lt_of_le_of_lt l39 (by decide))
        · rw [upd_same, List.take_add_one, hq]
          unfold namesV
          rw [List.map_append]
          rfl
      · rintro H2 ⟨sm, hT2⟩
        rw [List.length_map, tl, List.take_length] at hT2
        have s2 := s1.trans sm
        refine ⟨T, _, rfl, .inl (SqL.of hT2), rfl, names_flat _, _, rfl, ?_⟩
        show if (!inV (.str z) (namesV s.ln)) = true then _ else _
        refine ite_nb (fun e => ?_) (fun e => ?_)
        · refine ⟨_, rfl, _, rfl, x, r.c, dx, fs, _, rfl, s2 _ _ hx, KR.cl, KR.nl, rf.l, _, _, rfl, ?_⟩
          refine ⟨_, rfl, x, r.c, dx, fs, _, rfl, s2 _ _ hx, KR.cl, KR.nm, rf.m, _, rfl, D, _, rfl, DPut.k (k := kS z) (s2 _ _ hD) (Nat.lt_of_le_of_lt dic.1 (by decide)), _, _, rfl, (KpF.same s2).upd rfl, ?_⟩
          rw [upd_same]
          show some (HO.dK (putK s.kv (kS z) (.int (maxI (markOf s.kv z) s.lv)))) = some (.dK (if inV (.str z) (namesV s.ln) = true then s.kv else _))
          rw [if_neg (by rw [e]; decide)]
        · refine ⟨_, _, rfl, KpF.same s2, ?_⟩
          show H2 D = some (.dK (if inV (.str z) (namesV s.ln) = true then s.kv else _))
          rw [if_pos e]
          exact s2 _ _ hD
    · rintro σ H2 ⟨v5, v6, rfl, k2, hD2⟩
      have nxD : x ≠ D := fun e => by rw [e, hD] at hx; cases hx
      have nLD : L ≠ D := fun e => by rw [e, hD] at hL; cases hL
      have nxL : x ≠ L := fun e => by rw [e, hL] at hx; cases hx
      have hx2 := k2 _ _ nxD hx
      have hL2 := k2 _ _ nLD hL
      refine ⟨_, rfl, x, r.c, dx, fs, _, rfl, hx2, KR.cl, KR.nq, rf.q, .inl ⟨rfl, _, SqL.of hL2⟩, _, rfl, _, rfl, _, rfl, (by show 3 ≤ sizeLine; decide), fun U hU => ?_⟩
      have kU : KpF (fun b => b = D) H (upd H2 U (.tup [.str z, .int c, uV u])) := k2.new hU
      have sU := same_new (o := .tup [.str z, .int c, uV u]) hU
      have hL3 := sU _ _ hL2
      have nUL : U ≠ L := fun e => by rw [← e, hU] at hL2; cases hL2
      have bU : H U = none ∨ U = D := by
        cases e : H U with
        | none => exact .inl rfl
        | some o =>
          by_cases ed : U = D
          · exact .inr ed
          · rw [k2 _ _ ed e] at hU
            cases hU
      have nUD : U ≠ D := fun e => by rw [← e, hU] at hD2; cases hD2
      have bU := bU.resolve_right nUD
      have nFU : ¬ F U → RowAt F (upd (upd H2 U (.tup [.str z, .int c, uV u])) L (.lst (ts.map V.ref ++ [.ref U]))) U (z, c, u) := fun n => ⟨n, by rw [upd_ne nUL]; exact upd_same⟩
      refine ⟨L, _, .ref U, rfl, rfl, hL3, by rw [List.length_map, tl]; exact Nat.lt_of_le_of_lt l39 (by decide), ?_⟩
      have kf : KpF (fun b => b = D ∨ b = L) H (upd (upd H2 U (.tup [.str z, .int c, uV u])) L (.lst (ts.map V.ref ++ [.ref U]))) := (kU.mono fun b e => .inl e).upd (.inr rfl)
      have fU : ¬ F U := fun e => by
        obtain ⟨o, q⟩ := hF U e
        rw [bU] at q
        cases q
      refine k _ kf ⟨⟨dx, W, fs, ts ++ [U], kf _ _ (fun e => e.elim nxD nxL) hx, rf, kf _ _ (fun e => e.elim (fun e => nW (by rw [e]; exact fD)) fun e => nW (by rw [e]; exact fL)) hW, nW, ?_, ?_, ?_⟩, fx, fD, fL⟩
      · rw [upd_ne (Ne.symm nLD), upd_ne (Ne.symm nUD)]
        exact hD2
      · rw [upd_same, List.map_append]
        rfl
      · exact Paired.snoc (Lines.kp (kf.mono fun b e => e.elim (fun e => by rw [e]; exact fD) fun e => by rw [e]; exact fL) ln) (nFU fU)
end k47
namespace k47
open PySem L2 LC RM
def spRoom_serve (r : Ar) : Sp := fun vs H Q _ => ∃ (F : Addr → Prop) (x D L : Addr) (wv : List (Key × V)) (sc : Int) (s : RS) (ns : List Str), vs = [.ref x] ∧ RoomAt r F H x D L wv sc s ∧ Dic ns s.kv ∧ WDic ns wv ∧ Nms ns ∧ (∀ q ∈ s.ln, q.1 ∈ ns ∧ 1 ≤ q.2.1 ∧ q.2.1 ≤ 1000) ∧ s.ln.length ≤ 40 ∧ 1 ≤ sc ∧ sc ≤ 27720 ∧ s.ln ≠ [] ∧ (∀ b, F b → ∃ o, H b = some o) ∧
  ∀ (j : Nat) (q : Row) (T : Addr) H', headAt s.kv s.ln = some j → s.ln[j]? = some q → KpF (fun b => b = x ∨ b = D ∨ b = L) H H' → RoomAt r F H' x D L wv sc (serveS s sc (markOf wv q.1) j q) → H T = none → H' T = some (.tup [.str q.1, .int q.2.1]) → Q (.ref T) H'
theorem ok_Room_serve {P : Program} {w : World} {K : PySem.W.Frag} {mg : Str → Option Value} {base : Heap} {f : Addr} {fd : FuncData} (F0 : Fun K "serve" "Room.serve" sRoom_serve f fd) (T : Txt K mg) {r : Ar} (KR : Kr K mg r) {fdRhead : FuncData} (GRoom_head : FnOk P w K mg base CX0 1 r.fhead fdRhead PRoom_head (spRoom_head r)) (BRoom_head : Binds K fdRhead PRoom_head []) :
    FnOk P w K mg base CX0 3 f fd PRoom_serve (spRoom_serve r) := by
  refine F0.ok scRoom_serve (fun vs H Q E h => ?_) (fun cdv A outer s H vs Q E hr h => ?_)
  · obtain ⟨F, x, D, L, wv, sc, s, ns, rfl, R, dic, wd, hnm, hn, l40, sc0, sc1, hne, hF, k⟩ := h
    rfl
  · obtain ⟨F, x, D, L, wv, sc, s, ns, rfl, R, dic, wd, hnm, hn, l40, sc0, sc1, hne, hF, k⟩ := h
    have hrP : Room (1 + 1) _ := hr.mono (by decide)
    refine ⟨_, (pss_cons (ps_set (i := 1) scRoom_serve.nd rfl (Or.inl rfl) (pe_prop (pv 0) KR.cl KR.phead GRoom_head hrP BRoom_head .nil pass0 (by rfl)))
        (pss_cons (ps_if (pt_cmpR op_isN (pv 1) pe_non (nomark _)) (pss_one LC.ps_never) pss_nil)
        (pss_cons (ps_asg (pv 1) (pg_tup rfl (pgs_cons (pg_name (i := 2) scRoom_serve.nd rfl (Or.inl rfl)) (pgs_cons (pg_name (i := 3) scRoom_serve.nd rfl (Or.inl rfl)) (pgs_cons (pg_name (i := 4) scRoom_serve.nd rfl (Or.inl rfl)) pgs_nil)))))
        (pss_cons (ps_expr (pe_bm PySem.F.plainAttrs_list PySem.F.slot_list_remove PySem.F.type_list_remove (LD.mt_removeD (LD.u65 hr)) (pe_fld (pv 0) rfl) (pa_cons (pv 1) pa_nil)))
        (pss_cons (ps_fld (pv 0) (pe_dget (hu_of hr) (pe_fld (pv 0) rfl) (pv 2) (fun _ _ => rfl)) rfl)
        (pss_cons (ps_daug (hu_of hr) (pe_fld (pv 0) rfl) (pv 2) (pe_op op_fdivN (pe_op op_mul (pv 3) (pe_fld (pv 0) rfl)) (pe_dget (hu_of hr) (pe_fld (pv 0) rfl) (pv 2) (fun _ _ => rfl))) in_add (fun _ _ _ => rfl))
        (pss_one (ps_ret (pe_tup (pa_cons (pv 2) (pa_cons (pv 3) pa_nil))))))))))), ?_⟩
    obtain ⟨⟨dx, W, fs, ts, hx, rf, hW, nW, hD, hL, ln⟩, fx, fD, fL⟩ := id R
    have tl : ts.length = s.ln.length := ln.length
    refine ⟨_, rfl, x, dx, fs, rfl, hx, F, x, D, L, wv, sc, s, ns, rfl, R, dic, fun q hq => (hn q hq).1, by omega, fun H' e _ => absurd e hne, fun j q t H1 hj hq s1 hts rt => ?_⟩
    have ht := hts ts hL
    obtain ⟨hqn, p0, p1⟩ := hn q (List.mem_of_getElem? hq)
    obtain ⟨w0, w1⟩ := wd.b _ hqn
    have hx1 := s1 _ _ hx
    have hD1 := s1 _ _ hD
    have hL1 := s1 _ _ hL
    have hW1 := s1 _ _ hW
    have ln1 : Lines F H1 ts s.ln := ln.kp (KpF.same s1)
    refine ⟨_, rfl, rfl, _, rfl, iteF ?_⟩
    refine ⟨_, rfl, t, _, rfl, SqT.of rt.2, rfl, _, _, rfl, _, _, rfl, _, _, rfl, rfl, ?_⟩
    have hok : ∀ p ∈ s.ln, PyData.strOk p.1 = true := fun p hp => (nam_ok (hnm _ (hn p hp).1)).1
    refine ⟨_, rfl, x, r.c, dx, fs, _, rfl, hx1, KR.cl, KR.nq, rf.q, .inl ⟨rfl, _, SqL.of hL1⟩, _, rfl, L, _, rowD q, ts.map V.ref, s.ln.map rowD, j, rowD q, rfl, rfl, hL1, ln1.dp, rt.dp, rowsD_shaped hok, rowD_shaped (hok q (List.mem_of_getElem? hq)), by rw [List.getElem?_map, hq]; rfl, by rw [rowD_eqv, decide_eq_true rfl], fun m z' hm hz => ?_, ?_⟩
    · rw [List.getElem?_map] at hz
      cases e : s.ln[m]? with
      | none => rw [e] at hz; cases hz
      | some q' =>
        rw [e] at hz
        cases hz
        rw [rowD_eqv, decide_eq_false (head_first hj hq hm e)]
    have nxD : x ≠ D := fun e => by rw [e, hD] at hx; cases hx
    have nLD : L ≠ D := fun e => by rw [e, hD] at hL; cases hL
    have nxL : x ≠ L := fun e => by rw [e, hL] at hx; cases hx
    have nWF : ∀ b, F b → W ≠ b := fun b fb e => nW (by rw [e]; exact fb)
    rw [map_erase]
    -- the level
    refine ⟨_, rfl, x, r.c, dx, fs, _, rfl, by rw [upd_ne nxL]; exact hx1, KR.cl, KR.nm, rf.m, _, rfl, D, .int (markOf s.kv q.1), rfl, (by rw [← dic.2 _ hqn]; exact DGet.k (k := kS q.1) (by rw [upd_ne (Ne.symm nLD)]; exact hD1)), _, rfl, x, r.c, dx, fs, rfl, by rw [upd_ne nxL]; exact hx1, KR.cl, KR.nl, Nat.lt_of_le_of_lt rf.len (by decide), ?_⟩
    have rf2 := rf.level (markOf s.kv q.1)
    -- the mark
    have eD : upd (upd H1 L (.lst ((ts.eraseIdx j).map V.ref))) x (.ins r.c dx (putF "_level" (.int (markOf s.kv q.1)) fs)) D = some (.dK s.kv) := by rw [upd_ne (Ne.symm nxD), upd_ne (Ne.symm nLD)]; exact hD1
    have eW : upd (upd H1 L (.lst ((ts.eraseIdx j).map V.ref))) x (.ins r.c dx (putF "_level" (.int (markOf s.kv q.1)) fs)) W = some (.dK wv) := by rw [upd_ne (nWF x fx), upd_ne (nWF L fL)]; exact hW1
    have eL : upd (upd H1 L (.lst ((ts.eraseIdx j).map V.ref))) x (.ins r.c dx (putF "_level" (.int (markOf s.kv q.1)) fs)) L = some (.lst ((ts.eraseIdx j).map V.ref)) := by rw [upd_ne (Ne.symm nxL)]; exact upd_same
    have ex : upd (upd H1 L (.lst ((ts.eraseIdx j).map V.ref))) x (.ins r.c dx (putF "_level" (.int (markOf s.kv q.1)) fs)) x = some (.ins r.c dx (putF "_level" (.int (markOf s.kv q.1)) fs)) := upd_same
    have kf : KpF (fun b => b = x ∨ b = D ∨ b = L) H (upd (upd H1 L (.lst ((ts.eraseIdx j).map V.ref))) x (.ins r.c dx (putF "_level" (.int (markOf s.kv q.1)) fs))) := ((KpF.same s1).upd (.inr (.inr rfl))).upd (.inl rfl)
    generalize upd (upd H1 L (.lst ((ts.eraseIdx j).map V.ref))) x (.ins r.c dx (putF "_level" (.int (markOf s.kv q.1)) fs)) = H2 at eD eW eL ex kf ⊢
    refine ⟨_, rfl, x, r.c, dx, _, _, rfl, ex, KR.cl, KR.nm, rf2.m, _, rfl, D, .int (markOf s.kv q.1), rfl, (by rw [← dic.2 _ hqn]; exact DGet.k (k := kS q.1) eD), ?_⟩
    refine ⟨_, rfl, _, rfl, x, r.c, dx, _, _, rfl, ex, KR.cl, KR.ns, rf2.s, _, _, rfl, rfl, .inl ⟨by omega, by omega⟩, _, rfl, x, r.c, dx, _, _, rfl, ex, KR.cl, KR.nw, rf2.w, _, rfl, W, .int (markOf wv q.1), rfl, (by rw [← wd.d.2 _ hqn]; exact DGet.k (k := kS q.1) eW), _, _, rfl, rfl, ?_⟩
    refine ⟨⟨by omega, by omega⟩, _, _, rfl, rfl, ?_⟩
    refine ⟨_, DPut.k (k := kS q.1) eD (Nat.lt_of_le_of_lt dic.1 (by decide)), ?_⟩
    refine ⟨_, rfl, _, rfl, (by show 2 ≤ sizeLine; decide), fun T hT => ?_⟩
    have kD : KpF (fun b => b = x ∨ b = D ∨ b = L) H (upd H2 D (.dK (putK s.kv (kS q.1) (.int (markOf s.kv q.1 + (q.2.1 * sc).fdiv (markOf wv q.1)))))) := kf.upd (.inr (.inl rfl))
    have exD : upd H2 D (.dK (putK s.kv (kS q.1) (.int (markOf s.kv q.1 + (q.2.1 * sc).fdiv (markOf wv q.1))))) x = some (.ins r.c dx (putF "_level" (.int (markOf s.kv q.1)) fs)) := by rw [upd_ne nxD]; exact ex
    have eLD : upd H2 D (.dK (putK s.kv (kS q.1) (.int (markOf s.kv q.1 + (q.2.1 * sc).fdiv (markOf wv q.1))))) L = some (.lst ((ts.eraseIdx j).map V.ref)) := by rw [upd_ne nLD]; exact eL
    have eDD : upd H2 D (.dK (putK s.kv (kS q.1) (.int (markOf s.kv q.1 + (q.2.1 * sc).fdiv (markOf wv q.1))))) D = some (.dK (putK s.kv (kS q.1) (.int (markOf s.kv q.1 + (q.2.1 * sc).fdiv (markOf wv q.1))))) := upd_same
    generalize upd H2 D (.dK (putK s.kv (kS q.1) (.int (markOf s.kv q.1 + (q.2.1 * sc).fdiv (markOf wv q.1))))) = H3 at kD exD eLD eDD hT ⊢
    have sT := same_new (o := .tup [.str q.1, .int q.2.1]) hT
    have kT : KpF (fun b => b = x ∨ b = D ∨ b = L) H (upd H3 T (.tup [.str q.1, .int q.2.1])) := kD.new hT
    have sub : ∀ b, (b = x ∨ b = D ∨ b = L) → F b := fun b z => by
      rcases z with z | z | z <;> rw [z]
      · exact fx
      · exact fD
      · exact fL
    have hT0 : H T = none := by
      cases e : H T with
      | none => rfl
      | some o =>
        by_cases eT : T = x ∨ T = D ∨ T = L
        · rcases eT with z | z | z
          · rw [z, exD] at hT; cases hT
          · rw [z, eDD] at hT; cases hT
          · rw [z, eLD] at hT; cases hT
        · rw [kD _ _ eT e] at hT
          cases hT
    refine k j q T _ hj hq kT ⟨⟨dx, W, _, ts.eraseIdx j, sT _ _ exD, rf2, kT _ _ (fun z => nW (sub W z)) hW, nW, sT _ _ eDD, sT _ _ eLD, (Lines.kp (kT.mono sub) (pair_erase ln j))⟩, fx, fD, fL⟩ hT0 upd_same
end k47
namespace k47
open PySem L2 LC RM
def stays (rd : Int) (q : Row) : Bool := match q.2.2 with
  | none => true
  | some u => decide (rd ≤ u)
def leaveS (s : RS) (rd : Int) : RS := ⟨s.kv, s.lv, s.ln.filter (stays rd)⟩
def goneV (s : RS) (rd : Int) : List V := namesV (s.ln.filter fun q => !stays rd q)
def spRoom_leave (r : Ar) : Sp := fun vs H Q _ => ∃ (F : Addr → Prop) (x D L : Addr) (wv : List (Key × V)) (sc : Int) (s : RS) (rd : Int), vs = [.ref x, .int rd] ∧ RoomAt r F H x D L wv sc s ∧ s.ln.length ≤ 40 ∧ (∀ b, F b → ∃ o, H b = some o) ∧
  ∀ (M T : Addr) H', H M = none → H T = none → M ≠ T → KpF (fun b => b = x) H H' → RoomAt r (fun b => F b ∨ b = M) H' x D M wv sc (leaveS s rd) → H' T = some (.lst (goneV s rd)) → Q (.ref T) H'
theorem ok_Room_leave {P : Program} {w : World} {K : PySem.W.Frag} {mg : Str → Option Value} {base : Heap} {f : Addr} {fd : FuncData} (F0 : Fun K "leave" "Room.leave" sRoom_leave f fd) (T : Txt K mg) {r : Ar} (KR : Kr K mg r) :
    FnOk P w K mg base CX0 1 f fd PRoom_leave (spRoom_leave r) := by
  refine F0.ok scRoom_leave (fun vs H Q E h => ?_) (fun cdv A outer s H vs Q E hr h => ?_)
  · obtain ⟨F, x, D, L, wv, sc, s, rd, rfl, ⟨⟨dx, W, fs, ts, hx, rf, hW, nW, hD, hL, ln⟩, fx, fD, fL⟩, l40, hF, k⟩ := h
    rfl
  · obtain ⟨F, x, D, L, wv, sc, s, rd, rfl, ⟨⟨dx, W, fs, ts, hx, rf, hW, nW, hD, hL, ln⟩, fx, fD, fL⟩, l40, hF, k⟩ := h
    refine ⟨_, (pss_cons (ps_setLc (i := 2) (own := [("customer", 3), ("_", 4), ("until", 5)]) (g := gTup _ 3 (gCons (gName 3) (gCons (gName 4) (gCons (gName 5) gNil)))) rfl scRoom_leave.nd rfl rfl (sw_true rfl rfl rfl (by decide +kernel)) (pi_list (pe_fld (pv 0) rfl)) (blkOk_by (own := [("customer", 3), ("_", 4), ("until", 5)]) (N := NmRoom_leave) (sc := defScope sRoom_leave) (by decide +kernel)) (fun _ _ _ _ _ => by exact (pg_tup rfl (pgs_cons (pg_name (i := 3) scRoom_leave.nd rfl (Or.inl rfl)) (pgs_cons (pg_name (i := 4) scRoom_leave.nd rfl (Or.inl rfl)) (pgs_cons (pg_name (i := 5) scRoom_leave.nd rfl (Or.inl rfl)) pgs_nil))))) (fun _ _ _ _ _ => pts_one (PW.pt (pw_and (pt_cmpR op_notN (pv 5) pe_non (nomark _)) (pw_and1 (pt_cmpR op_lt (pv 5) (pv 1) (nomark _)))))) (fun _ _ _ _ _ => (pv 3)))
        (pss_cons (ps_fld (pv 0) (pe_lc (own := [("row", 6)]) (g := gName 6) rfl scRoom_leave.nd (pi_list (pe_fld (pv 0) rfl)) (blkOk_by (own := [("row", 6)]) (N := NmRoom_leave) (sc := defScope sRoom_leave) (by decide +kernel)) (fun _ _ _ _ _ => pg_name (i := 6) scRoom_leave.nd rfl (Or.inl rfl)) (fun _ _ _ _ _ => pts_one (PW.pt (pw_or (pt_cmpR op_isN (pe_ix (show IxR _ (rIxT K) from ix_tup) (pv 6) pe_int (fun _ _ => rfl)) pe_non (nomark _)) (pw_or1 (pt_cmpR op_ge (pe_ix (show IxR _ (rIxT K) from ix_tup) (pv 6) pe_int (fun _ _ => rfl)) (pv 1) (nomark _)))))) (fun _ _ _ _ _ => (pv 6))) rfl)
        (pss_one (ps_ret (pv 2))))), ?_⟩
    have tl : ts.length = s.ln.length := ln.length
    refine ⟨_, rfl, x, r.c, dx, fs, _, rfl, hx, KR.cl, KR.nq, rf.q, L, rfl, ⟨_, SqL.of hL⟩, fun T hT => lc_it (walk_list (K := K) (a := L) (xs := ts.map V.ref)) (fun i H' => Same H H' ∧ H' T = some (.lst (namesV ((s.ln.take i).filter fun q => !stays rd q)))) ⟨same_new hT, upd_same⟩ (fun i H' _ ⟨sm, _⟩ => SqL.of (sm _ _ hL)) ?_ ?_⟩
    · rintro i v H2 H3 hi ⟨sm, hT2⟩ ⟨rfl, e2⟩
      rw [List.length_map] at hi
      obtain ⟨t, ht⟩ : ∃ t, ts[i]? = some t := ⟨_, List.getElem?_eq_getElem hi⟩
      rw [List.getElem?_map, ht] at e2
      cases e2
      obtain ⟨q, hq, nt, rq⟩ := ln.at_ ht
      have et : (s.ln.take (i + 1)).filter (fun q => !stays rd q) = (s.ln.take i).filter (fun q => !stays rd q) ++ (if stays rd q = false then [q] else []) := by
        rw [List.take_add_one, hq, List.filter_append]
        cases e : stays rd q <;> simp [e]
      refine ⟨_, _, rfl, SqT.of (sm _ _ rq), rfl, _, _, rfl, _, _, rfl, _, _, rfl, rfl, rfl, ?_⟩
      have ln' : (namesV ((s.ln.take i).filter fun q => !stays rd q)).length < sizeLine := by
        unfold namesV
        rw [List.length_map]
        have a1 := List.length_filter_le (fun q => !stays rd q) (s.ln.take i)
        rw [List.length_take] at a1
        exact Nat.lt_of_le_of_lt (show _ ≤ 40 by omega) (by decide)
      have yes : stays rd q = false → ∃ acc, H3 T = some (.lst acc) ∧ acc.length < sizeLine ∧ Same H (upd H3 T (.lst (acc ++ [.str q.1]))) ∧ upd H3 T (.lst (acc ++ [.str q.1])) T = some (.lst (namesV ((s.ln.take (i + 1)).filter fun q => !stays rd q))) := fun e =>
        ⟨_, hT2, ln', same_upd hT sm, by rw [upd_same, et, if_pos e]; unfold namesV; rw [List.map_append]; rfl⟩
      have no : stays rd q = true → Same H H3 ∧ H3 T = some (.lst (namesV ((s.ln.take (i + 1)).filter fun q => !stays rd q))) := fun e =>
        ⟨sm, by rw [et, if_neg (by rw [e]; decide), List.append_nil]; exact hT2⟩
      obtain ⟨z, c, u⟩ := q
      cases u with
      | none => exact ⟨_, rfl, rfl, _, rfl, iteF (iteF (no rfl))⟩
      | some u =>
        refine ⟨_, rfl, rfl, _, rfl, iteT ⟨_, rfl, _, rfl, _, _, rfl, rfl, _, rfl, ?_⟩⟩
        refine ite_d (fun h => ?_) (fun h => ?_)
        · exact ⟨_, rfl, yes (decide_eq_false (by omega))⟩
        · exact no (decide_eq_true (by omega))
    · rintro H1 ⟨s1, hT1⟩
      rw [List.length_map, tl, List.take_length] at hT1
      have hx1 := s1 _ _ hx
      have hL1 := s1 _ _ hL
      have nxT : x ≠ T := fun e => by rw [← e, hx] at hT; cases hT
      refine ⟨_, rfl, x, r.c, dx, fs, _, rfl, hx1, KR.cl, KR.nq, rf.q, L, rfl, ⟨_, SqL.of hL1⟩, fun M hM => lc_it (walk_list (K := K) (a := L) (xs := ts.map V.ref)) (fun i H' => Same H1 H' ∧ ∃ us : List Addr, H' M = some (.lst (us.map V.ref)) ∧ us.length ≤ i ∧ Lines F H us ((s.ln.take i).filter (stays rd))) ⟨same_new hM, [], upd_same, Nat.le_refl _, .nil⟩ (fun i H' _ ⟨sm, _⟩ => SqL.of (sm _ _ hL1)) ?_ ?_⟩
      · rintro i v H2 H3 hi ⟨sm, us, hM2, ul, us2⟩ ⟨rfl, e2⟩
        rw [List.length_map] at hi
        obtain ⟨t, ht⟩ : ∃ t, ts[i]? = some t := ⟨_, List.getElem?_eq_getElem hi⟩
        rw [List.getElem?_map, ht] at e2
        cases e2
        obtain ⟨q, hq, nt, rq⟩ := ln.at_ ht
        have et : (s.ln.take (i + 1)).filter (stays rd) = (s.ln.take i).filter (stays rd) ++ (if stays rd q = true then [q] else []) := by
          rw [List.take_add_one, hq, List.filter_append]
          cases e : stays rd q <;> simp [e]
        have hr : SqT K H3 t (rowV q) := SqT.of (sm _ _ (s1 _ _ rq))
        have yes : stays rd q = true → ∃ acc, H3 M = some (.lst acc) ∧ acc.length < sizeLine ∧ Same H1 (upd H3 M (.lst (acc ++ [.ref t]))) ∧ ∃ us : List Addr, upd H3 M (.lst (acc ++ [.ref t])) M = some (.lst (us.map V.ref)) ∧ us.length ≤ i + 1 ∧ Lines F H us ((s.ln.take (i + 1)).filter (stays rd)) := fun e =>
          ⟨_, hM2, by rw [List.length_map]; exact Nat.lt_of_le_of_lt (show _ ≤ 40 by omega) (by decide), same_upd hM sm, us ++ [t], by rw [upd_same, List.map_append]; rfl, by rw [List.length_append]; exact Nat.succ_le_succ ul, by rw [et, if_pos e]; exact Paired.snoc us2 ⟨nt, rq⟩⟩
        have no : stays rd q = false → Same H1 H3 ∧ ∃ us : List Addr, H3 M = some (.lst (us.map V.ref)) ∧ us.length ≤ i + 1 ∧ Lines F H us ((s.ln.take (i + 1)).filter (stays rd)) := fun e =>
          ⟨sm, us, hM2, Nat.le_succ_of_le ul, by rw [et, if_neg (by rw [e]; decide), List.append_nil]; exact us2⟩
        obtain ⟨z, c, u⟩ := q
        cases u with
        | none => exact ⟨rfl, _, rfl, _, _, _, _, rfl, rfl, hr, rfl, rfl, _, rfl, iteT (iteT ⟨_, rfl, yes rfl⟩)⟩
        | some u =>
          refine ⟨rfl, _, rfl, _, _, _, _, rfl, rfl, hr, rfl, rfl, _, rfl, iteF ⟨_, rfl, _, _, _, _, rfl, rfl, hr, rfl, _, rfl, _, _, rfl, rfl, _, rfl, ?_⟩⟩
          refine ite_d (fun h => ?_) (fun h => ?_)
          · exact ⟨_, rfl, yes (decide_eq_true h)⟩
          · exact no (decide_eq_false h)
      · rintro H2 ⟨s2, us, hM2, ul, us2⟩
        rw [List.length_map, tl, List.take_length] at us2
        have s12 := s1.trans s2
        have hM0 : H M = none := s1.free hM
        have nMT : M ≠ T := fun e => by rw [e, hT1] at hM; cases hM
        have nxM : x ≠ M := fun e => by rw [← e, hx1] at hM; cases hM
        have nWx : W ≠ x := fun e => nW (by rw [e]; exact fx)
        have nDx : D ≠ x := fun e => by rw [e, hx] at hD; cases hD
        refine ⟨_, rfl, x, r.c, dx, fs, rfl, s12 _ _ hx, KR.cl, KR.nq, Nat.lt_of_le_of_lt rf.len (by decide), _, rfl, ?_⟩
        have kf : KpF (fun b => b = x) H (upd H2 x (.ins r.c dx (putF "_waiting" (.ref M) fs))) := (KpF.same s12).upd rfl
        have nFM : ∀ b o, H b = some o → b ≠ M := fun b o e z => by rw [z, hM0] at e; cases e
        refine k M T _ hM0 hT nMT kf ⟨⟨dx, W, _, us, upd_same, rf.line M, kf _ _ nWx hW, fun z => z.elim nW (nFM _ _ hW), kf _ _ nDx hD, by rw [upd_ne (Ne.symm nxM)]; exact hM2, ?_⟩, .inl fx, .inl fD, .inr rfl⟩ (by rw [upd_ne (Ne.symm nxT)]; exact s2 _ _ hT1)
        refine us2.mono fun t q ⟨n, h⟩ => ⟨fun z => z.elim n (nFM _ _ h), kf _ _ (fun z => by rw [z, hx] at h; cases h) h⟩
end k47
namespace k47
open PySem L2 LC RM
def spRoom_copy (r : Ar) : Sp := fun vs H Q _ => ∃ (F : Addr → Prop) (x D L : Addr) (wv : List (Key × V)) (ws : List Int) (s : RS), vs = [.ref x] ∧ RoomAt r F H x D L wv (lcmL ws) s ∧ WOk wv ws ∧ (∀ b, F b → ∃ o, H b = some o) ∧ s.ln.length ≤ 40 ∧
  ∀ (y D3 L3 : Addr) H', H y = none → H D3 = none → H L3 = none → Same H H' → RoomAt r (fun b => F b ∨ b = y ∨ b = D3 ∨ b = L3) H' y D3 L3 wv (lcmL ws) s → Q (.ref y) H'
theorem ok_Room_copy {P : Program} {w : World} {K : PySem.W.Frag} {mg : Str → Option Value} {base : Heap} {f : Addr} {fd : FuncData} (F0 : Fun K "copy" "Room.copy" sRoom_copy f fd) (T : Txt K mg) {r : Ar} (KR : Kr K mg r) (IRoom : FnR P w K mg base CX0 2 r.i (spRoom_init r)) :
    FnOk P w K mg base CX0 4 f fd PRoom_copy (spRoom_copy r) := by
  refine F0.ok scRoom_copy (fun vs H Q E h => ?_) (fun cdv A outer s H vs Q E hr h => ?_)
  · obtain ⟨F, x, D, L, wv, ws, s, rfl, ⟨⟨dx, W, fs, ts, hx, rf, hW, nW, hD, hL, ln⟩, fx, fD, fL⟩, wk, hF, l40, k⟩ := h
    rfl
  · obtain ⟨F, x, D, L, wv, ws, s, rfl, ⟨⟨dx, W, fs, ts, hx, rf, hW, nW, hD, hL, ln⟩, fx, fD, fL⟩, wk, hF, l40, k⟩ := h
    have hrI : Room 3 _ := hr.mono (by decide)
    refine ⟨_, (pss_cons (ps_set (i := 1) scRoom_copy.nd rfl (Or.inl rfl) (StX.pe_makeR KR.m IRoom hrI rfl KR.g pass0 (pa_cons (pe_fld (pv 0) rfl) pa_nil)))
        (pss_cons (ps_fld (pv 1) (pe_callTy call_dictD (by rfl) T.n_dict (by decide +kernel) (pa_cons (pe_fld (pv 0) rfl) pa_nil)) rfl)
        (pss_cons (ps_fld (pv 1) (pe_fld (pv 0) rfl) rfl)
        (pss_cons (ps_fld (pv 1) (pe_callTy call_list_of (by rfl) T.n_list (by decide +kernel) (pa_cons (pe_fld (pv 0) rfl) pa_nil)) rfl)
        (pss_one (ps_ret (pv 1))))))), ?_⟩
    refine ⟨_, rfl, x, r.c, dx, fs, _, rfl, hx, KR.cl, KR.nw, rf.w, fun y dy hy hdy ny => ⟨F, y, dy, W, wv, ws, H, rfl, upd_same, hy, same_two hy hdy, hF, same_two hy hdy _ _ hW, wk, fun D2 L2 H1 s1 bD bL nyD R2 => ⟨rfl, ?_⟩⟩⟩
    obtain ⟨⟨dy', W2, fs2, ts2, hy1, rf2, hW2, nW2, hD2, hL2, ln2⟩, fy, fD2, fL2⟩ := R2
    have hx1 := s1 _ _ hx
    have hD1 := s1 _ _ hD
    have hL1 := s1 _ _ hL
    have nxy : x ≠ y := ne_of_none hx hy
    refine ⟨_, rfl, x, r.c, dx, fs, _, rfl, hx1, KR.cl, KR.nm, rf.m, D, s.kv, rfl, .inl hD1, fun D3 hD3 => ?_⟩
    have hD30 : H D3 = none := s1.free hD3
    have nyD3 : y ≠ D3 := fun e => by rw [← e, hy1] at hD3; cases hD3
    have s2 : Same H (upd H1 D3 (.dK s.kv)) := s1.trans (same_new hD3)
    refine ⟨_, rfl, y, r.c, dy', fs2, rfl, by rw [upd_ne nyD3]; exact hy1, KR.cl, KR.nm, Nat.lt_of_le_of_lt rf2.len (by decide), ?_⟩
    have s3 : Same H (upd (upd H1 D3 (.dK s.kv)) y (.ins r.c dy' (putF "_marks" (.ref D3) fs2))) := same_upd hy s2
    have y3 : upd (upd H1 D3 (.dK s.kv)) y (.ins r.c dy' (putF "_marks" (.ref D3) fs2)) y = some (.ins r.c dy' (putF "_marks" (.ref D3) fs2)) := upd_same
    have d3 : upd (upd H1 D3 (.dK s.kv)) y (.ins r.c dy' (putF "_marks" (.ref D3) fs2)) D3 = some (.dK s.kv) := by rw [upd_ne (Ne.symm nyD3)]; exact upd_same
    have nW2y : W2 ≠ y := fun e => nW2 (.inr (.inl e))
    have nW2D : W2 ≠ D3 := fun e => by rw [← e, hW2] at hD3; cases hD3
    have w3 : upd (upd H1 D3 (.dK s.kv)) y (.ins r.c dy' (putF "_marks" (.ref D3) fs2)) W2 = some (.dK wv) := by rw [upd_ne nW2y, upd_ne nW2D]; exact hW2
    have rf3 := rf2.marks D3
    generalize upd (upd H1 D3 (.dK s.kv)) y (.ins r.c dy' (putF "_marks" (.ref D3) fs2)) = H3 at s3 y3 d3 w3 ⊢
    refine ⟨_, rfl, x, r.c, dx, fs, _, rfl, s3 _ _ hx, KR.cl, KR.nl, rf.l, _, rfl, y, r.c, dy', _, rfl, y3, KR.cl, KR.nl, Nat.lt_of_le_of_lt rf3.len (by decide), ?_⟩
    have s4 : Same H (upd H3 y (.ins r.c dy' (putF "_level" (.int s.lv) (putF "_marks" (.ref D3) fs2)))) := same_upd hy s3
    have y4 : upd H3 y (.ins r.c dy' (putF "_level" (.int s.lv) (putF "_marks" (.ref D3) fs2))) y = some (.ins r.c dy' (putF "_level" (.int s.lv) (putF "_marks" (.ref D3) fs2))) := upd_same
    have d4 : upd H3 y (.ins r.c dy' (putF "_level" (.int s.lv) (putF "_marks" (.ref D3) fs2))) D3 = some (.dK s.kv) := by rw [upd_ne (Ne.symm nyD3)]; exact d3
    have w4 : upd H3 y (.ins r.c dy' (putF "_level" (.int s.lv) (putF "_marks" (.ref D3) fs2))) W2 = some (.dK wv) := by rw [upd_ne nW2y]; exact w3
    have rf4 := rf3.level s.lv
    generalize upd H3 y (.ins r.c dy' (putF "_level" (.int s.lv) (putF "_marks" (.ref D3) fs2))) = H4 at s4 y4 d4 w4 ⊢
    refine ⟨_, rfl, x, r.c, dx, fs, _, rfl, s4 _ _ hx, KR.cl, KR.nq, rf.q, L, _, rfl, .inl (SqL.of (s4 _ _ hL)), fun L3 hL3 => ?_⟩
    have hL30 : H L3 = none := s4.free hL3
    have nyL3 : y ≠ L3 := fun e => by rw [← e, y4] at hL3; cases hL3
    have nDL3 : D3 ≠ L3 := fun e => by rw [← e, d4] at hL3; cases hL3
    have nWL3 : W2 ≠ L3 := fun e => by rw [← e, w4] at hL3; cases hL3
    refine ⟨_, rfl, y, r.c, dy', _, rfl, by rw [upd_ne nyL3]; exact y4, KR.cl, KR.nq, Nat.lt_of_le_of_lt rf4.len (by decide), _, rfl, ?_⟩
    have s5 : Same H (upd (upd H4 L3 (.lst (ts.map V.ref))) y (.ins r.c dy' (putF "_waiting" (.ref L3) (putF "_level" (.int s.lv) (putF "_marks" (.ref D3) fs2))))) := same_upd hy (s4.trans (same_new hL3))
    refine k y D3 L3 _ hy hD30 hL30 s5 ⟨⟨dy', W2, _, ts, upd_same, rf4.line L3, by rw [upd_ne nW2y, upd_ne nWL3]; exact w4, ?_, by rw [upd_ne (Ne.symm nyD3), upd_ne nDL3]; exact d4, by rw [upd_ne (Ne.symm nyL3)]; exact upd_same, ?_⟩, .inr (.inl rfl), .inr (.inr (.inl rfl)), .inr (.inr (.inr rfl))⟩
    · rintro (z | z | z | z)
      · exact nW2 (.inl z)
      · exact nW2y z
      · exact nW2D z
      · exact nWL3 z
    · refine ln.mono fun t q ⟨n, h⟩ => ⟨?_, s5 _ _ h⟩
      rintro (z | z | z | z)
      · exact n z
      · rw [z, hy] at h; cases h
      · rw [z, hD30] at h; cases h
      · rw [z, hL30] at h; cases h
end k47
namespace k47
open PySem L2 LC RM
def spbag (K : PySem.W.Frag) : Sp := fun vs H Q _ => ∃ (a : Addr) (ns : List Int), vs = [.ref a] ∧ SqL K H a (ns.map V.int) ∧ ns.length ≤ 63 ∧ ∀ g H', H g = none → Same H H' → (∃ l, Bag l H' g) → Q (.ref g) H'
theorem ok_bag {P : Program} {w : World} {K : PySem.W.Frag} {mg : Str → Option Value} {base : Heap} {f : Addr} {fd : FuncData} (D : Def K mg "_law_bag" sbag Pbag f fd) (T : Txt K mg) :
    FnOk P w K mg base CX0 1 f fd Pbag (spbag K) := by
  refine D.F.ok scbag (fun vs H Q E h => ?_) (fun cdv A outer s H vs Q E hr h => ?_)
  · obtain ⟨a, ns, rfl, hS, hl, k⟩ := h
    rfl
  · obtain ⟨a, ns, rfl, hS, hl, k⟩ := h
    refine ⟨_, (pss_cons (ps_set (i := 1) scbag.nd rfl (Or.inl rfl) pe_int)
        (pss_cons (ps_for PassesOwn.never rfl (pi_list (pe_slice sl_list (pv 0) po_none (po_some pe_int))) (pg_name (i := 2) scbag.nd rfl (Or.inl rfl))
          (pss_one (ps_set (i := 1) scbag.nd rfl (Or.inl rfl) (pe_op op_mod (pe_callTy call_int1 (by rfl) T.n_int (by decide +kernel) (pa_cons (pe_op op_add (pe_op op_add (pe_op op_mul (pv 1) pe_int) (pe_op op_mod (pe_callTy call_int1 (by rfl) T.n_int (by decide +kernel) (pa_cons (pv 2) pa_nil)) pe_int)) pe_int) pa_nil)) pe_int))))
        (pss_one (ps_ret (pe_lst (pa_cons (pe_callTy call_list_of (by rfl) T.n_list (by decide +kernel) (pa_cons (pe_slice sl_list (pv 0) po_none (po_some pe_int)) pa_nil)) (pa_cons pe_int (pa_cons pe_int (pa_cons (pv 1) (pa_cons pe_int pa_nil)))))))))), ?_⟩
    obtain ⟨ms, hms, hml⟩ := cut_ints ns none (some 63)
    refine ⟨_, rfl, _, rfl, a, _, rfl, hS, fun p hp => ?_⟩
    rw [hms]
    have s1 : Same H (upd H p (.lst (ms.map V.int))) := same_new hp
    refine ⟨p, rfl, ⟨_, SqL.of upd_same⟩, for_list (K := K) (a := p) (xs := ms.map V.int) (fun i σ H' => ∃ (s : Int) (v : Option V), σ = [some (.ref a), some (.int s), v] ∧ 0 ≤ s ∧ s < 2147483629 ∧ Same (upd H p (.lst (ms.map V.int))) H')
      ⟨13391, none, rfl, by decide, by decide, Same.refl _⟩ (fun i σ H' _ ⟨_, _, _, _, _, R⟩ => R.seq (SqL.of upd_same)) ?_ ?_⟩
    · rintro i y σ H' hi ⟨s, v, rfl, h1, h2, R⟩
      obtain ⟨u, rfl⟩ := int_of hi
      refine ⟨_, rfl, _, _, rfl, rfl, .inr ⟨by decide, by decide⟩, _, rfl, .inl ⟨_, rfl, _, _, rfl, rfl, (by show (0 : Int) < 2147483587; decide), _, _, rfl, rfl, _, _, rfl, rfl, .inl ⟨_, rfl, _, _, rfl, rfl, (by show (0 : Int) < 2147483629; decide), ?_⟩⟩⟩
      refine ⟨_, _, rfl, Int.emod_nonneg _ (by decide), Int.emod_lt_of_pos _ (by decide), R⟩
    · rintro σ H' ⟨s, v, rfl, h1, h2, R⟩
      refine ⟨_, rfl, _, rfl, a, _, rfl, (s1.trans R).seq hS, fun q hq => ?_⟩
      rw [hms]
      refine ⟨q, _, rfl, .inl (SqL.of upd_same), fun l hl' => ?_⟩
      refine ⟨_, rfl, (by show 5 ≤ sizeLine; decide), fun g hg => ?_⟩
      have r1 : Same H' (upd H' q (.lst (ms.map V.int))) := same_new hq
      have r2 := same_new (o := .lst (ms.map V.int)) hl'
      have r3 := same_new (o := .lst [V.ref l, V.int 0, V.int 0, V.int s, V.int 0]) hg
      refine k g _ (s1.free (R.free (r1.free (r2.free hg)))) (s1.trans (R.trans (r1.trans (r2.trans r3)))) ?_
      have ne : l ≠ g := fun e => by
        rw [← e, upd_same] at hg
        cases hg
      exact ⟨l, ms, 0, 0, s, 0, upd_same, ne, by rw [upd_ne ne]; exact upd_same, Int.le_refl _, Int.natCast_nonneg _, Int.le_refl _, h1, h2⟩
end k47
namespace k47
open PySem L2 LC RM
def spdraw : Sp := fun vs H Q _ => ∃ (g l : Addr) (n : Int), vs = [.ref g, .int n] ∧ Bag l H g ∧ 0 < n ∧ n < 1073741824 ∧ ∀ (d : Int) (H' : Hp), 0 ≤ d → d < n → Ok g l H H' → Q (.int d) H'
theorem ok_draw {P : Program} {w : World} {K : PySem.W.Frag} {mg : Str → Option Value} {base : Heap} {f : Addr} {fd : FuncData} (D : Def K mg "_law_draw" sdraw Pdraw f fd) (T : Txt K mg) :
    FnOk P w K mg base CX0 1 f fd Pdraw (spdraw) := by
  refine D.F.ok scdraw (fun vs H Q E h => ?_) (fun cdv A outer s H vs Q E hr h => ?_)
  · obtain ⟨g, l, n, rfl, B, n0, n1, k⟩ := h
    rfl
  · obtain ⟨g, l, n, rfl, B, n0, n1, k⟩ := h
    refine ⟨_, (pss_cons (ps_asg (pe_op op_add (pe_ix ix_list (pv 0) pe_int (fun _ _ => rfl)) pe_int) (pg_sub (pv 0) pe_int set_list))
        (Evl.pss_cut (ps_if (PW.pt (pw_and (pt_cmpR op_eq (pe_ix ix_list (pv 0) pe_int (fun _ _ => rfl)) pe_int (nomark _)) (pw_and1 (pt_cmpR op_lt (pe_ix ix_list (pv 0) pe_int (fun _ _ => rfl)) (pe_callB call_len (by rfl) T.n_len PySem.boot_len (pa_cons (pe_ix ix_list (pv 0) pe_int (fun _ _ => rfl)) pa_nil)) (nomark _))))) (pss_cons (ps_set (i := 2) scdraw.nd rfl (Or.inl rfl) (pe_ix ix_list (pe_ix ix_list (pv 0) pe_int (fun _ _ => rfl)) (pe_ix ix_list (pv 0) pe_int (fun _ _ => rfl)) (fun _ _ => rfl)))
        (pss_cons (ps_asg (pe_op op_add (pe_ix ix_list (pv 0) pe_int (fun _ _ => rfl)) pe_int) (pg_sub (pv 0) pe_int set_list))
        (pss_one (ps_if (pt_cmpR op_ge (pv 2) (pe_op op_pow pe_int pe_int) (nomark _)) (pss_one (ps_asg (pv 2) (pg_sub (pv 0) pe_int set_list))) (pss_one (ps_asg (pe_op op_mod (pe_callTy call_int1 (by rfl) T.n_int (by decide +kernel) (pa_cons (pe_op op_add (pe_op op_add (pe_op op_mul (pe_ix ix_list (pv 0) pe_int (fun _ _ => rfl)) pe_int) (pe_op op_mul (pe_op op_mod (pe_callTy call_int1 (by rfl) T.n_int (by decide +kernel) (pa_cons (pv 2) pa_nil)) pe_int) pe_int)) pe_int) pa_nil)) pe_int) (pg_sub (pv 0) pe_int set_list))))))) pss_nil)
        (pss_cons (ps_if (pt_cmpR op_gt (pe_ix ix_list (pv 0) pe_int (fun _ _ => rfl)) pe_int (nomark _)) (pss_cons (ps_set (i := 3) scdraw.nd rfl (Or.inl rfl) (pe_op op_modN (pe_callTy call_int1 (by rfl) T.n_int (by decide +kernel) (pa_cons (pe_ix ix_list (pv 0) pe_int (fun _ _ => rfl)) pa_nil)) (pv 1)))
        (pss_cons (ps_asg (pe_op op_fdivN (pe_ix ix_list (pv 0) pe_int (fun _ _ => rfl)) (pv 1)) (pg_sub (pv 0) pe_int set_list))
        (pss_one (ps_ret (pv 3))))) pss_nil)
        (pss_cons (ps_asg (pe_op op_mod (pe_callTy call_int1 (by rfl) T.n_int (by decide +kernel) (pa_cons (pe_op op_add (pe_op op_add (pe_op op_pow (pe_ix ix_list (pv 0) pe_int (fun _ _ => rfl)) pe_int) (pe_op op_mul (pe_ix ix_list (pv 0) pe_int (fun _ _ => rfl)) pe_int)) pe_int) pa_nil)) pe_int) (pg_sub (pv 0) pe_int set_list))
        (pss_one (ps_ret (pe_op op_modN (pe_callTy call_int1 (by rfl) T.n_int (by decide +kernel) (pa_cons (pe_op op_add (pe_op op_fdiv (pe_ix ix_list (pv 0) pe_int (fun _ _ => rfl)) pe_int) (pe_op op_mul (pe_op op_mod (pe_callTy call_int1 (by rfl) T.n_int (by decide +kernel) (pa_cons (pe_ix ix_list (pv 0) pe_int (fun _ _ => rfl)) pa_nil)) pe_int) pe_int)) pa_nil)) (pv 1)))))))), ?_⟩
    obtain ⟨ns, i, d, s, c, hg, lg, hl, i0, i1, d0, s0, s1⟩ := id B
    have up : ∀ (i' d' s' c' : Int) (H1 : Hp), Kp g H H1 → H1 l = some (.lst (ns.map V.int)) → Kp g H (upd H1 g (.lst [.ref l, .int i', .int d', .int s', .int c'])) ∧ upd H1 g (.lst [.ref l, .int i', .int d', .int s', .int c']) l = some (.lst (ns.map V.int)) :=
      fun i' d' s' c' H1 r q => ⟨r.bag, by rw [upd_ne lg]; exact q⟩
    -- b[4] = b[4] + 1
    refine ⟨_, rfl, _, _, _, _, rfl, rfl, SqL.of hg, rfl, _, _, rfl, rfl, _, rfl, g, _, _, 4, rfl, rfl, hg, rfl, ?_⟩
    obtain ⟨K1, L1⟩ := up i d s (c + 1) H (Kp.refl g H) hl
    -- the joined ways
    refine ⟨fun σ H' => ∃ (i' d' s' : Int) (v w : Option V), σ = [some (.ref g), some (.int n), v, w] ∧ H' g = some (.lst [.ref l, .int i', .int d', .int s', .int (c + 1)]) ∧ Kp g H H' ∧ H' l = some (.lst (ns.map V.int)) ∧ 0 ≤ i' ∧ i' ≤ ns.length ∧ 0 ≤ d' ∧ 0 ≤ s' ∧ s' < 2147483629, ?_, ?_⟩
    · refine ⟨_, rfl, _, _, _, _, rfl, rfl, SqL.of upd_same, rfl, rfl, _, rfl, ?_⟩
      refine ite_eq (fun e1 => ?_) (fun e1 => ?_)
      · refine ⟨_, rfl, _, _, _, _, rfl, rfl, SqL.of upd_same, rfl, _, rfl, _, _, _, _, rfl, rfl, SqL.of upd_same, rfl, _, _, rfl, .inl ⟨_, SqL.of L1, rfl⟩, _, _, rfl, rfl, _, rfl, ?_⟩
        refine ite_d (fun e2 => ?_) (fun e2 => ?_)
        · rw [List.length_map] at e2
          obtain ⟨j, rfl⟩ : ∃ j : Nat, i = (j : Int) := ⟨i.toNat, by omega⟩
          have hj : j < ns.length := by omega
          have hx : (ns.map V.int)[j]? = some (V.int ns[j]) := by rw [List.getElem?_map, List.getElem?_eq_getElem hj]; rfl
          -- item = b[0][b[1]]; b[1] = b[1] + 1
          refine ⟨_, rfl, _, _, _, _, rfl, rfl, SqL.of upd_same, rfl, _, rfl, _, _, _, _, rfl, rfl, SqL.of upd_same, rfl, _, _, _, _, rfl, rfl, SqL.of L1, atI_nat hx, ?_⟩
          refine ⟨_, rfl, _, _, _, _, rfl, rfl, SqL.of upd_same, rfl, _, _, rfl, rfl, _, rfl, g, _, _, 1, rfl, rfl, upd_same, rfl, ?_⟩
          obtain ⟨K2, L2⟩ := up ((j : Int) + 1) d s (c + 1) _ K1 L1
          refine ⟨_, rfl, _, _, rfl, rfl, ⟨by decide, by decide, by decide⟩, _, _, rfl, rfl, _, rfl, ?_⟩
          refine ite_d (fun e3 => ?_) (fun e3 => ?_)
          · refine ⟨_, rfl, _, rfl, g, _, _, 2, rfl, rfl, upd_same, rfl, ?_⟩
            obtain ⟨K3, L3⟩ := up ((j : Int) + 1) ns[j] s (c + 1) _ K2 L2
            exact ⟨_, _, _, _, _, rfl, upd_same, K3, L3, by omega, by omega, Int.le_trans (by decide) e3, s0, s1⟩
          · refine ⟨_, rfl, _, _, _, _, rfl, rfl, SqL.of upd_same, rfl, _, _, rfl, rfl, .inr ⟨by decide, by decide⟩, _, rfl, .inl ⟨_, rfl, _, _, rfl, rfl, (by show (0 : Int) < 2147483549; decide), _, _, rfl, rfl, .inr ⟨by decide, by decide⟩, _, _, rfl, rfl, _, _, rfl, rfl, .inl ⟨_, rfl, _, _, rfl, rfl, (by show (0 : Int) < 2147483629; decide), ?_⟩⟩⟩
            refine ⟨_, rfl, g, _, _, 3, rfl, rfl, upd_same, rfl, ?_⟩
            obtain ⟨K3, L3⟩ := up ((j : Int) + 1) d ((s * 69621 + ns[j] % 2147483549 * 30103 + 89) % 2147483629) (c + 1) _ K2 L2
            exact ⟨_, _, _, _, _, rfl, upd_same, K3, L3, by omega, by omega, d0, Int.emod_nonneg _ (by decide), Int.emod_lt_of_pos _ (by decide)⟩
        · exact ⟨_, _, _, _, _, rfl, upd_same, K1, L1, i0, i1, d0, s0, s1⟩
      · refine iteF ?_
        exact ⟨_, _, _, _, _, rfl, upd_same, K1, L1, i0, i1, d0, s0, s1⟩
    · rintro σ H' ⟨i', d', s', v, w, rfl, hg', K1, L1, i0, i1, d0, s0, s1⟩
      have bag : ∀ (d'' s'' : Int), 0 ≤ d'' → 0 ≤ s'' → s'' < 2147483629 → Bag l (upd H' g (.lst [.ref l, .int i', .int d'', .int s'', .int (c + 1)])) g := fun d'' s'' h1 h2 h3 =>
        ⟨ns, i', d'', s'', c + 1, upd_same, lg, by rw [upd_ne lg]; exact L1, i0, i1, h1, h2, h3⟩
      refine ⟨_, rfl, _, _, _, _, rfl, rfl, SqL.of hg', rfl, _, _, rfl, rfl, _, rfl, ?_⟩
      refine ite_d (fun e1 => ?_) (fun e1 => ?_)
      · refine ⟨_, rfl, _, _, _, _, rfl, rfl, SqL.of hg', rfl, .inl ⟨_, rfl, _, rfl, _, _, rfl, rfl, (by omega), ?_⟩⟩
        refine ⟨_, rfl, _, _, _, _, rfl, rfl, SqL.of hg', rfl, _, rfl, _, _, rfl, rfl, ⟨by omega, by omega⟩, _, rfl, g, _, _, 2, rfl, rfl, hg', rfl, _, rfl, ?_⟩
        refine k _ _ (fmod_nn _ n0) (fmod_lt _ n0) ⟨B, K1.bag, bag _ s' ?_ s0 s1⟩
        rw [Int.fdiv_eq_ediv_of_nonneg _ (Int.le_of_lt n0)]
        exact Int.ediv_nonneg d0 (Int.le_of_lt n0)
      · refine ⟨_, rfl, _, _, _, _, rfl, rfl, SqL.of hg', rfl, _, _, rfl, rfl, ⟨by decide, by decide, by omega⟩, _, rfl, _, _, _, _, rfl, rfl, SqL.of hg', rfl, _, _, rfl, rfl, .inr ⟨by decide, by decide⟩, _, _, rfl, rfl, _, _, rfl, rfl, .inl ⟨_, rfl, _, _, rfl, rfl, (by show (0 : Int) < 2147483629; decide), ?_⟩⟩
        refine ⟨_, rfl, g, _, _, 3, rfl, rfl, hg', rfl, ?_⟩
        refine ⟨_, rfl, _, _, _, _, rfl, rfl, SqL.of upd_same, rfl, _, _, rfl, rfl, ⟨by decide, by decide⟩, _, rfl, _, _, _, _, rfl, rfl, SqL.of upd_same, rfl, .inl ⟨_, rfl, _, _, rfl, rfl, (by show (0 : Int) < 7901; decide), _, _, rfl, rfl, .inr ⟨by decide, by decide⟩, _, _, rfl, rfl, .inl ⟨_, rfl, _, rfl, _, _, rfl, rfl, (by omega), ?_⟩⟩⟩
        exact k _ _ (fmod_nn _ n0) (fmod_lt _ n0) ⟨B, K1.bag, bag d' _ d0 (Int.emod_nonneg _ (by decide)) (Int.emod_lt_of_pos _ (by decide))⟩
end k47
namespace k47
open PySem L2 LC RM
inductive Src (K : PySem.W.Frag) (g : Addr) (H : Hp) : V → (V → Prop) → Prop where
  | lst {a : Addr} {xs : List V} (h : SqL K H a xs) (n : a ≠ g) (h0 : 0 < xs.length) (h1 : xs.length ≤ 1000000) : Src K g H (.ref a) fun x => x ∈ xs
  | tup {a : Addr} {xs : List V} (h : SqT K H a xs) (n : a ≠ g) (h0 : 0 < xs.length) (h1 : xs.length ≤ 1000000) : Src K g H (.ref a) fun x => x ∈ xs
  | str {z : Str} (h0 : 0 < z.length) (h1 : z.length ≤ 1000000) : Src K g H (.str z) fun x => ∃ c ∈ z.cps.toList, x = .str ⟨#[c]⟩
def spof (K : PySem.W.Frag) : Sp := fun vs H Q _ => ∃ (g l : Addr) (t : V) (F : V → Prop), vs = [.ref g, t] ∧ Bag l H g ∧ Src K g H t F ∧ ∀ x H', F x → Ok g l H H' → Q x H'
theorem ok_of {P : Program} {w : World} {K : PySem.W.Frag} {mg : Str → Option Value} {base : Heap} {f : Addr} {fd : FuncData} (D : Def K mg "_law_of" sof Pof f fd) (T : Txt K mg) {fdraw : Addr} {fddraw : FuncData} (Ddraw : Def K mg "_law_draw" sdraw Pdraw fdraw fddraw) (Gdraw : FnOk P w K mg base CX0 1 fdraw fddraw Pdraw (spdraw)) :
    FnOk P w K mg base CX0 2 f fd Pof (spof K) := by
  refine D.F.ok scof (fun vs H Q E h => ?_) (fun cdv A outer s H vs Q E hr h => ?_)
  · obtain ⟨g, l, t, F, rfl, B, S, k⟩ := h
    rfl
  · obtain ⟨g, l, t, F, rfl, B, S, k⟩ := h
    have hrdraw : Room 1 _ := hr.mono (by decide)
    refine ⟨_, (pss_one (ps_ret (pe_ix ix_seq (pv 1) (pe_call Gdraw hrdraw rfl Ddraw.g Ddraw.F.kp Ddraw.b .nil pass0 (pa_cons (pv 0) (pa_cons (pe_callB call_len (by rfl) T.n_len PySem.boot_len (pa_cons (pv 1) pa_nil)) pa_nil))) (fun _ _ => rfl)))), ?_⟩
    cases S with
    | @lst a xs h n h0 h1 =>
      refine ⟨_, rfl, _, rfl, _, rfl, _, _, rfl, .inl ⟨xs, h, rfl⟩, g, l, _, rfl, B, by omega, by omega, fun d H' d0 d1 r => ?_⟩
      obtain ⟨j, rfl⟩ : ∃ j : Nat, d = (j : Int) := ⟨d.toNat, by omega⟩
      have hj : j < xs.length := by omega
      exact .inl ⟨_, _, _, _, rfl, rfl, SqL.kp r.kp n h, atI_nat (List.getElem?_eq_getElem hj), k _ _ (List.getElem_mem hj) r⟩
    | @tup a xs h n h0 h1 =>
      refine ⟨_, rfl, _, rfl, _, rfl, _, _, rfl, .inr ⟨xs, h, rfl⟩, g, l, _, rfl, B, by omega, by omega, fun d H' d0 d1 r => ?_⟩
      obtain ⟨j, rfl⟩ : ∃ j : Nat, d = (j : Int) := ⟨d.toNat, by omega⟩
      have hj : j < xs.length := by omega
      exact .inr (.inl ⟨_, _, _, _, rfl, rfl, SqT.kp r.kp n h, atI_nat (List.getElem?_eq_getElem hj), k _ _ (List.getElem_mem hj) r⟩)
    | @str z h0 h1 =>
      have hz : z.length ≤ sizeLine := Nat.le_trans h1 (by decide)
      refine ⟨_, rfl, _, rfl, _, rfl, _, _, rfl, ⟨hz, rfl⟩, g, l, _, rfl, B, by omega, by omega, fun d H' d0 d1 r => ?_⟩
      obtain ⟨j, rfl⟩ : ∃ j : Nat, d = (j : Int) := ⟨d.toNat, by omega⟩
      have hj : j < z.cps.toList.length := by
        have e : z.cps.toList.length = z.length := rfl
        omega
      exact .inr (.inr ⟨_, _, _, rfl, rfl, hz, atI_nat (List.getElem?_eq_getElem hj), k _ _ ⟨_, List.getElem_mem hj, rfl⟩ r⟩)
/-- one of the things of a new list -/
theorem of_disp {K : PySem.W.Frag} {g l p : Addr} {H0 H : Hp} {xs : List V} {Q : VK} {E : XK} (R : Ok g l H0 H) (hp : H p = none) (h0 : 0 < xs.length) (h1 : xs.length ≤ 1000000) (k : ∀ x H', x ∈ xs → Kp g H H' → Ok g l H0 H' → Q x H') :
    spof K [.ref g, .ref p] (upd H p (.lst xs)) Q E := by
  refine ⟨g, l, .ref p, _, rfl, (R.new hp).bag, .lst (SqL.of upd_same) (R.bag.ne hp).1 h0 h1, fun x H' hx r => ?_⟩
  exact k x H' hx ((Ok.new (Ok.refl R.bag) hp).kp.trans r.kp) ((R.new hp).trans r)
end k47
namespace k47
open PySem L2 LC RM
def spnames : Sp := fun vs H Q _ => ∃ (g l : Addr) (n : Nat), vs = [.ref g, .int n] ∧ Bag l H g ∧ 1 ≤ n ∧ n ≤ 6 ∧ ∀ (N : Addr) (ns : List Str) H', H N = none → Ok g l H H' → H' N = some (.lst (ns.map V.str)) → ns.length = n → (∀ z ∈ ns, goodW z) → Q (.ref N) H'
theorem ok_names {P : Program} {w : World} {K : PySem.W.Frag} {mg : Str → Option Value} {base : Heap} {f : Addr} {fd : FuncData} (D : Def K mg "_law_names" snames Pnames f fd) (T : Txt K mg) {fof : Addr} {fdof : FuncData} (Dof : Def K mg "_law_of" sof Pof fof fdof) (Gof : FnOk P w K mg base CX0 2 fof fdof Pof (spof K)) :
    FnOk P w K mg base CX0 3 f fd Pnames (spnames) := by
  refine D.F.ok scnames (fun vs H Q E h => ?_) (fun cdv A outer s H vs Q E hr h => ?_)
  · obtain ⟨g, l, n, rfl, B, n1, n6, k⟩ := h
    rfl
  · obtain ⟨g, l, n, rfl, B, n1, n6, k⟩ := h
    have hrof : Room 2 _ := hr.mono (by decide)
    refine ⟨_, (pss_cons (ps_set (i := 2) scnames.nd rfl (Or.inr rfl) (pe_lst pa_nil))
        (pss_cons (ps_for PassesOwn.never rfl (pi_range1 rfl T.n_range (pa_cons (pv 1) pa_nil)) (pg_name (i := 3) scnames.nd rfl (Or.inl rfl))
          (pss_cons (ps_set (i := 4) scnames.nd rfl (Or.inr rfl) (pe_op op_add_str (pe_call Gof hrof rfl Dof.g Dof.F.kp Dof.b .nil pass0 (pa_cons (pv 0) (pa_cons pe_str pa_nil))) (pe_call Gof hrof rfl Dof.g Dof.F.kp Dof.b .nil pass0 (pa_cons (pv 0) (pa_cons (pe_lst (pa_cons pe_str (pa_cons pe_str (pa_cons pe_str (pa_cons pe_str (pa_cons pe_str (pa_cons pe_str (pa_cons pe_str pa_nil)))))))) pa_nil)))))
        (Evl.pss_cut (ps_if (pt_cmpR op_in_seq (pv 4) (pv 2) (by rfl)) (pss_one (ps_set (i := 4) scnames.nd rfl (Or.inr rfl) (pe_ix ix_list (pe_lc (own := [("_law_sign", 5)]) (g := gName 5) rfl scnames.nd (pi_str pe_str) (blkOk_by (own := [("_law_sign", 5)]) (N := Nmnames) (sc := defScope snames) (by decide +kernel)) (fun _ _ _ _ _ => pg_name (i := 5) scnames.nd rfl (Or.inl rfl)) (fun _ _ _ _ _ => pts_one (pt_cmpR (show OpR _ (compareOp .NotIn) (rIn K true) from op_notIn_seq) (pe_op op_add_str (pv 4) (pv 5)) (pv 2) (by rfl))) (fun _ _ _ _ _ => (pe_op op_add_str (pv 4) (pv 5)))) pe_int (fun _ _ => rfl)))) pss_nil)
        (pss_one (ps_expr (pe_bm PySem.F.plainAttrs_list PySem.F.slot_list_append PySem.F.type_list_append mt_append (pv 2) (pa_cons (pv 4) pa_nil)))))))
        (pss_one (ps_ret (pv 2))))), ?_⟩
    refine ⟨(by show 0 ≤ sizeLine; decide), fun N hN => ?_⟩
    refine ⟨_, rfl, (n : Int), rfl, by omega, by omega, for_it (walk_range (lo := 0) (n := n)) (fun i σ H' => ∃ (ns : List Str) (v3 v4 v5 : Option V), σ = [some (.ref g), some (.int n), some (.ref N), v3, v4, v5] ∧ Ok g l H H' ∧ H' N = some (.lst (ns.map V.str)) ∧ ns.length = i ∧ ∀ z ∈ ns, goodW z) ⟨[], none, none, none, rfl, (Ok.refl B).new hN, upd_same, rfl, fun _ h => by cases h⟩ (fun _ _ _ _ _ => True.intro) ?_ ?_⟩
    · rintro i x σ H1 H2 hi ⟨ns, v3, v4, v5, rfl, r, hN1, len, good⟩ ⟨rfl, rfl⟩
      have nNg : N ≠ g := (B.ne hN).1
      refine ⟨_, rfl, g, l, _, _, rfl, r.bag, .str (by decide +kernel) (by decide +kernel), fun x H3 hx r3 => ?_⟩
      obtain ⟨c, hc, rfl⟩ := hx
      refine ⟨_, rfl, (by show 7 ≤ sizeLine; decide), fun p hp => ?_⟩
      refine of_disp (E := E0) (Ok.refl r3.bag) hp (by decide +kernel) (by decide +kernel) fun y H4 hy kp4 r4 => ?_
      obtain ⟨b, hb, rfl⟩ : ∃ b ∈ tailsL, V.str b = y := List.mem_map.mp hy
      obtain ⟨g0, l0, g1⟩ := word_ok hc hb
      have tl := tail_len b hb
      have R4 := r.trans (r3.trans r4)
      have hN4 := (r3.trans r4).kp _ _ nNg hN1
      refine ⟨_, _, rfl, rfl, Nat.le_trans (show 1 + b.length ≤ 3 by omega) (by decide), ?_⟩
      refine ⟨fun σ H' => ∃ (wd : Str) (v5 : Option V), σ = [some (.ref g), some (.int n), some (.ref N), some (.int (0 + (i : Nat))), some (.str wd), v5] ∧ Ok g l H H' ∧ H' N = some (.lst (ns.map V.str)) ∧ goodW wd, ?_, ?_⟩
      · refine ⟨_, rfl, _, rfl, N, _, rfl, .inl (SqL.of hN4), rfl, strs_flat _, _, rfl, ?_⟩
        show if inV (.str (one c ++ b)) (ns.map V.str) = true then _ else _
        split
        · refine ⟨_, rfl, fun D hD => lc_it walk_str (fun j H' => H' N = some (.lst (ns.map V.str)) ∧ Ok g l H H' ∧ ∃ acc : List V, H' D = some (.lst acc) ∧ acc.length ≤ j ∧ (∀ u ∈ acc, ∃ d ∈ signL, u = .str (one c ++ b ++ one d)) ∧ ∀ m d, m < j → signL[m]? = some d → inV (.str (one c ++ b ++ one d)) (ns.map V.str) = false → acc ≠ []) ⟨same_new hD _ _ hN4, R4.new hD, [], upd_same, Nat.le_refl _, fun _ h => (by cases h), fun m d z => absurd z (Nat.not_lt_zero _)⟩ (fun _ _ _ _ => True.intro) ?_ ?_⟩
          · rintro j v H5 H6 hj ⟨hN5, r5, acc, hA, al, a1, a2⟩ ⟨rfl, d, hd, rfl⟩
            have nND : N ≠ D := fun e => by rw [← e, hN4] at hD; cases hD
            have hd' : signL[j]? = some d := by
              show ("bcdefghijklmnop" : Str).cps.toList[j]? = some d
              rw [Array.getElem?_toList]
              exact hd
            have hdm : d ∈ signL := List.mem_of_getElem? hd'
            have j15 : j < 15 := hj
            have lw : (one c ++ b).length + (one d).length ≤ sizeLine := Nat.le_trans (show _ ≤ 4 by show (one c ++ b).length + 1 ≤ 4; omega) (by decide)
            refine ⟨rfl, _, rfl, _, rfl, _, _, rfl, rfl, lw, _, rfl, N, _, rfl, .inl (SqL.of hN5), rfl, strs_flat _, _, rfl, ?_⟩
            show if (!inV (.str (one c ++ b ++ one d)) (ns.map V.str)) = true then _ else _
            refine ite_nb (fun e => ?_) (fun e => ?_)
            · refine ⟨_, rfl, _, rfl, _, _, rfl, rfl, lw, acc, hA, Nat.lt_of_le_of_lt al (Nat.lt_of_lt_of_le j15 (by decide)), by rw [upd_ne nND]; exact hN5, r5.mut (R4.free hD), _, upd_same, by rw [List.length_append]; exact Nat.succ_le_succ al, fun u hu => ?_, fun m d' _ _ _ => by simp⟩
              rcases List.mem_append.mp hu with h | h
              · exact a1 u h
              · rw [List.mem_singleton] at h
                exact ⟨d, hdm, h⟩
            · refine ⟨hN5, r5, acc, hA, Nat.le_succ_of_le al, a1, fun m d' hm hd2 e2 => ?_⟩
              rcases Nat.lt_or_ge m j with z | z
              · exact a2 m d' z hd2 e2
              · have : m = j := by omega
                subst this
                rw [hd'] at hd2
                cases hd2
                rw [e] at e2
                cases e2
          · rintro H5 ⟨hN5, r5, acc, hA, al, a1, a2⟩
            obtain ⟨d, hd, ed⟩ := some_free (w := one c ++ b) (ws := ns) (by omega)
            obtain ⟨m, hm⟩ := List.mem_iff_getElem?.mp hd
            have ne := a2 m d (List.getElem?_eq_some_iff.mp hm).1 hm ed
            cases acc with
            | nil => exact absurd rfl ne
            | cons u acc =>
              obtain ⟨d', hd', rfl⟩ := a1 u (List.mem_cons_self ..)
              exact ⟨_, _, _, _, rfl, rfl, SqL.of hA, atI_nat (j := 0) rfl, _, _, rfl, r5, hN5, g1 d' hd'⟩
        · exact ⟨_, _, rfl, R4, hN4, g0⟩
      · rintro σ H5 ⟨wd, v5', rfl, r5, hN5, gw⟩
        refine ⟨_, rfl, .inl ⟨rfl, _, SqL.of hN5⟩, _, rfl, N, _, _, rfl, rfl, hN5, ?_, ns ++ [wd], _, _, _, rfl, r5.mut hN, ?_, ?_, ?_⟩
        · rw [List.length_map, len]
          exact Nat.lt_of_lt_of_le (show i < 6 by omega) (by decide)
        · rw [upd_same, List.map_append]
          rfl
        · rw [List.length_append, len]
          rfl
        · intro z hz
          rcases List.mem_append.mp hz with h | h
          · exact good z h
          · rw [List.mem_singleton] at h
            rw [h]
            exact gw
    · rintro σ H1 ⟨ns, v3, v4, v5, rfl, r, hN1, len, good⟩
      exact ⟨_, rfl, k N ns H1 hN r hN1 len good⟩
end k47
namespace k47
open PySem L2 LC RM
def splike (n : Nat) : Sp := fun vs H Q _ => ∃ (u v : V) (m : Nat), vs = [u, v] ∧ m < n ∧ Lk H m u v ∧ ∀ H', Same H H' → Q (.bl true) H'
theorem no_like {vs : List V} {H : Hp} {Q : VK} {E : XK} (h : splike 0 vs H Q E) : False := by
  obtain ⟨_, _, _, _, h, _⟩ := h
  exact Nat.not_lt_zero _ h

theorem step_like {P : Program} {w : World} {K : PySem.W.Frag} {mg : Str → Option Value} {base : Heap} {f : Addr} {fd : FuncData} (D : Def K mg "_law_like" slike Plike f fd) (T : Txt K mg) {n : Nat} (Glike : FnOk P w K mg base CX0 (n + 0) f fd Plike (splike n)) :
    FnOk P w K mg base CX0 (n + 1) f fd Plike (splike (n + 1)) := by
  refine D.F.ok sclike (fun vs H Q E h => ?_) (fun cdv A outer s H vs Q E hr h => ?_)
  · obtain ⟨u, v, m, rfl, hm, hl, k⟩ := h
    rfl
  · obtain ⟨u, v, m, rfl, hm, hl, k⟩ := h
    have Dlike := D
    have hrlike : Room (n + 0) _ := hr
    refine ⟨_, (pss_cons (ps_if (pt_val (pe_callB call_isiT (by rfl) T.n_isinstance (by decide +kernel) (pa_cons (pv 1) (pa_cons (pe_tup (pa_cons (pe_ty "list" (by rfl) T.n_list (by decide +kernel)) (pa_cons (pe_ty "tuple" (by rfl) T.n_tuple (by decide +kernel)) pa_nil))) pa_nil)))) (pss_cons (ps_if (PW.pt (pw_or (pt_cmpR op_ne (pe_callB call_isi (by rfl) T.n_isinstance (by decide +kernel) (pa_cons (pv 0) (pa_cons (pe_ty "list" (by rfl) T.n_list (by decide +kernel)) pa_nil))) (pe_callB call_isi (by rfl) T.n_isinstance (by decide +kernel) (pa_cons (pv 1) (pa_cons (pe_ty "list" (by rfl) T.n_list (by decide +kernel)) pa_nil))) (nomark _)) (pw_or1 (pt_cmpR op_ne (pe_callB call_isi (by rfl) T.n_isinstance (by decide +kernel) (pa_cons (pv 0) (pa_cons (pe_ty "tuple" (by rfl) T.n_tuple (by decide +kernel)) pa_nil))) (pe_callB call_isi (by rfl) T.n_isinstance (by decide +kernel) (pa_cons (pv 1) (pa_cons (pe_ty "tuple" (by rfl) T.n_tuple (by decide +kernel)) pa_nil))) (nomark _))))) (pss_one (ps_ret pe_bl)) pss_nil)
        (pss_one (ps_ret (pe_and (pe_cmpR op_eq (pe_callB call_len (by rfl) T.n_len PySem.boot_len (pa_cons (pv 0) pa_nil)) (pe_callB call_len (by rfl) T.n_len PySem.boot_len (pa_cons (pv 1) pa_nil)) (nomark _)) (pe_one (pe_callB (cr_all rfl) (by rfl) T.n_all (by decide +kernel) (pa_cons (pe_lc (own := [("_law_a", 2), ("_law_b", 3)]) (g := gTup _ 2 (gCons (gName 2) (gCons (gName 3) gNil))) (tt := tYes) rfl sclike.nd (RZ.pi_zipA (by rfl) T.n_zip (pa_cons (pv 0) (pa_cons (pv 1) pa_nil))) (blkOk_by (own := [("_law_a", 2), ("_law_b", 3)]) (N := Nmlike) (sc := defScope slike) (by decide +kernel)) (fun _ _ _ _ _ => by exact (pg_tup rfl (pgs_cons (pg_name (i := 2) sclike.nd rfl (Or.inl rfl)) (pgs_cons (pg_name (i := 3) sclike.nd rfl (Or.inl rfl)) pgs_nil)))) (fun _ _ _ _ _ => pts_nil) (fun _ _ _ _ _ => (pe_call Glike hrlike rfl Dlike.g Dlike.F.kp Dlike.b .nil pass0 (pa_cons (pv 2) (pa_cons (pv 3) pa_nil))))) pa_nil))))))) pss_nil)
        (pss_cons (ps_if (PW.pt (pw_or (pt_cmpR op_isN (pv 1) pe_non (nomark _)) (pw_or1 (pt_cmpR op_isN (pv 0) pe_non (nomark _))))) (pss_one (ps_ret (pe_and (pe_cmpR op_isN (pv 1) pe_non (nomark _)) (pe_one (pe_cmpR op_isN (pv 0) pe_non (nomark _)))))) pss_nil)
        (pss_cons (ps_if (PW.pt (pw_or (pt_val (pe_callB call_isiT (by rfl) T.n_isinstance (by decide +kernel) (pa_cons (pv 0) (pa_cons (pe_tup (pa_cons (pe_ty "list" (by rfl) T.n_list (by decide +kernel)) (pa_cons (pe_ty "tuple" (by rfl) T.n_tuple (by decide +kernel)) pa_nil))) pa_nil)))) (pw_or1 (pt_cmpR op_ne (pe_callB call_isi (by rfl) T.n_isinstance (by decide +kernel) (pa_cons (pv 0) (pa_cons (pe_ty "bool" (by rfl) T.n_bool (by decide +kernel)) pa_nil))) (pe_callB call_isi (by rfl) T.n_isinstance (by decide +kernel) (pa_cons (pv 1) (pa_cons (pe_ty "bool" (by rfl) T.n_bool (by decide +kernel)) pa_nil))) (nomark _))))) (pss_one (ps_ret pe_bl)) pss_nil)
        (pss_cons (ps_if (PW.pt (pw_or (pt_cmpR op_ne (pe_callB call_isi (by rfl) T.n_isinstance (by decide +kernel) (pa_cons (pv 0) (pa_cons (pe_ty "str" (by rfl) T.n_str (by decide +kernel)) pa_nil))) (pe_callB call_isi (by rfl) T.n_isinstance (by decide +kernel) (pa_cons (pv 1) (pa_cons (pe_ty "str" (by rfl) T.n_str (by decide +kernel)) pa_nil))) (nomark _)) (pw_or1 (pt_cmpR op_ne (pe_callB call_isi (by rfl) T.n_isinstance (by decide +kernel) (pa_cons (pv 0) (pa_cons (pe_ty "int" (by rfl) T.n_int (by decide +kernel)) pa_nil))) (pe_callB call_isi (by rfl) T.n_isinstance (by decide +kernel) (pa_cons (pv 1) (pa_cons (pe_ty "int" (by rfl) T.n_int (by decide +kernel)) pa_nil))) (nomark _))))) (pss_one (ps_ret pe_bl)) pss_nil)
        (pss_one (ps_ret (pe_cmpR op_eq (pv 0) (pv 1) (nomark _)))))))), ?_⟩
    rcases hl.cases with ⟨rfl, hs⟩ | ⟨j, rfl, bb, p, q, xs, ys, rfl, rfl, hp, hq, hn, hz, hi⟩
    · cases u with
      | int c =>
        refine ⟨_, rfl, (by show 2 ≤ sizeLine; decide), fun t1 ht1 => ?_⟩
        have s1 := same_new (o := .tup [.ty "list", .ty "tuple"]) ht1
        refine ⟨_, t1, _, _, _, false, rfl, upd_same, .cons (.ty _) (.cons (.ty _) .nil), .base (.int c), kLT_int, _, rfl, iteF ?_⟩
        generalize upd H t1 (.tup [.ty "list", .ty "tuple"]) = H1 at s1 ⊢
        refine ⟨_, rfl, rfl, _, rfl, ite_d (fun h => by cases h) (fun _ => ⟨_, rfl, rfl, _, rfl, ite_d (fun h => by cases h) (fun _ => ?_)⟩)⟩
        refine ⟨_, rfl, (by show 2 ≤ sizeLine; decide), fun t2 ht2 => ?_⟩
        have s2 := s1.trans (same_new (o := .tup [.ty "list", .ty "tuple"]) ht2)
        refine ⟨_, t2, _, _, _, false, rfl, upd_same, .cons (.ty _) (.cons (.ty _) .nil), .base (.int c), kLT_int, _, rfl, iteF ?_⟩
        generalize upd H1 t2 (.tup [.ty "list", .ty "tuple"]) = H2 at s2 ⊢
        refine ⟨_, rfl, _, _, _, _, _, rfl, .ty _, .base (.int c), kit_ty (show kitB "int" "bool" = some false by decide +kernel), _, rfl, _, _, _, _, _, rfl, .ty _, .base (.int c), kit_ty (show kitB "int" "bool" = some false by decide +kernel), rfl, _, rfl, iteF ?_⟩
        refine ⟨_, rfl, _, _, _, _, _, rfl, .ty _, .base (.int c), kit_ty (show kitB "int" "str" = some false by decide +kernel), _, rfl, _, _, _, _, _, rfl, .ty _, .base (.int c), kit_ty (show kitB "int" "str" = some false by decide +kernel), rfl, _, rfl, iteF ?_⟩
        refine ⟨_, rfl, _, _, _, _, _, rfl, .ty _, .base (.int c), kit_ty (show kitB "int" "int" = some true by decide +kernel), _, rfl, _, _, _, _, _, rfl, .ty _, .base (.int c), kit_ty (show kitB "int" "int" = some true by decide +kernel), rfl, _, rfl, iteF ?_⟩
        refine ⟨_, rfl, _, rfl, rfl, ?_⟩
        rw [decide_eq_true rfl]
        exact k H2 s2
      | bl c =>
        refine ⟨_, rfl, (by show 2 ≤ sizeLine; decide), fun t1 ht1 => ?_⟩
        have s1 := same_new (o := .tup [.ty "list", .ty "tuple"]) ht1
        refine ⟨_, t1, _, _, _, false, rfl, upd_same, .cons (.ty _) (.cons (.ty _) .nil), .base (.bl c), kLT_bool, _, rfl, iteF ?_⟩
        generalize upd H t1 (.tup [.ty "list", .ty "tuple"]) = H1 at s1 ⊢
        refine ⟨_, rfl, rfl, _, rfl, ite_d (fun h => by cases h) (fun _ => ⟨_, rfl, rfl, _, rfl, ite_d (fun h => by cases h) (fun _ => ?_)⟩)⟩
        refine ⟨_, rfl, (by show 2 ≤ sizeLine; decide), fun t2 ht2 => ?_⟩
        have s2 := s1.trans (same_new (o := .tup [.ty "list", .ty "tuple"]) ht2)
        refine ⟨_, t2, _, _, _, false, rfl, upd_same, .cons (.ty _) (.cons (.ty _) .nil), .base (.bl c), kLT_bool, _, rfl, iteF ?_⟩
        generalize upd H1 t2 (.tup [.ty "list", .ty "tuple"]) = H2 at s2 ⊢
        refine ⟨_, rfl, _, _, _, _, _, rfl, .ty _, .base (.bl c), kit_ty (show kitB "bool" "bool" = some true by decide +kernel), _, rfl, _, _, _, _, _, rfl, .ty _, .base (.bl c), kit_ty (show kitB "bool" "bool" = some true by decide +kernel), rfl, _, rfl, iteF ?_⟩
        refine ⟨_, rfl, _, _, _, _, _, rfl, .ty _, .base (.bl c), kit_ty (show kitB "bool" "str" = some false by decide +kernel), _, rfl, _, _, _, _, _, rfl, .ty _, .base (.bl c), kit_ty (show kitB "bool" "str" = some false by decide +kernel), rfl, _, rfl, iteF ?_⟩
        refine ⟨_, rfl, _, _, _, _, _, rfl, .ty _, .base (.bl c), kit_ty (show kitB "bool" "int" = some true by decide +kernel), _, rfl, _, _, _, _, _, rfl, .ty _, .base (.bl c), kit_ty (show kitB "bool" "int" = some true by decide +kernel), rfl, _, rfl, iteF ?_⟩
        refine ⟨_, rfl, _, rfl, rfl, ?_⟩
        rw [decide_eq_true rfl]
        exact k H2 s2
      | str c =>
        refine ⟨_, rfl, (by show 2 ≤ sizeLine; decide), fun t1 ht1 => ?_⟩
        have s1 := same_new (o := .tup [.ty "list", .ty "tuple"]) ht1
        refine ⟨_, t1, _, _, _, false, rfl, upd_same, .cons (.ty _) (.cons (.ty _) .nil), .base (.str c), kLT_str, _, rfl, iteF ?_⟩
        generalize upd H t1 (.tup [.ty "list", .ty "tuple"]) = H1 at s1 ⊢
        refine ⟨_, rfl, rfl, _, rfl, ite_d (fun h => by cases h) (fun _ => ⟨_, rfl, rfl, _, rfl, ite_d (fun h => by cases h) (fun _ => ?_)⟩)⟩
        refine ⟨_, rfl, (by show 2 ≤ sizeLine; decide), fun t2 ht2 => ?_⟩
        have s2 := s1.trans (same_new (o := .tup [.ty "list", .ty "tuple"]) ht2)
        refine ⟨_, t2, _, _, _, false, rfl, upd_same, .cons (.ty _) (.cons (.ty _) .nil), .base (.str c), kLT_str, _, rfl, iteF ?_⟩
        generalize upd H1 t2 (.tup [.ty "list", .ty "tuple"]) = H2 at s2 ⊢
        refine ⟨_, rfl, _, _, _, _, _, rfl, .ty _, .base (.str c), kit_ty (show kitB "str" "bool" = some false by decide +kernel), _, rfl, _, _, _, _, _, rfl, .ty _, .base (.str c), kit_ty (show kitB "str" "bool" = some false by decide +kernel), rfl, _, rfl, iteF ?_⟩
        refine ⟨_, rfl, _, _, _, _, _, rfl, .ty _, .base (.str c), kit_ty (show kitB "str" "str" = some true by decide +kernel), _, rfl, _, _, _, _, _, rfl, .ty _, .base (.str c), kit_ty (show kitB "str" "str" = some true by decide +kernel), rfl, _, rfl, iteF ?_⟩
        refine ⟨_, rfl, _, _, _, _, _, rfl, .ty _, .base (.str c), kit_ty (show kitB "str" "int" = some false by decide +kernel), _, rfl, _, _, _, _, _, rfl, .ty _, .base (.str c), kit_ty (show kitB "str" "int" = some false by decide +kernel), rfl, _, rfl, iteF ?_⟩
        refine ⟨_, rfl, _, rfl, rfl, ?_⟩
        rw [decide_eq_true rfl]
        exact k H2 s2
      | non =>
        refine ⟨_, rfl, (by show 2 ≤ sizeLine; decide), fun t1 ht1 => ?_⟩
        have s1 := same_new (o := .tup [.ty "list", .ty "tuple"]) ht1
        refine ⟨_, t1, _, _, _, false, rfl, upd_same, .cons (.ty _) (.cons (.ty _) .nil), .base .non, kLT_non, _, rfl, iteF ?_⟩
        generalize upd H t1 (.tup [.ty "list", .ty "tuple"]) = H1 at s1 ⊢
        refine ⟨_, rfl, rfl, _, rfl, ite_d (fun _ => ⟨_, rfl, rfl, _, rfl, ite_d (fun _ => ⟨_, rfl, rfl, ?_⟩) (fun h => absurd rfl h)⟩) (fun h => absurd rfl h)⟩
        rw [decide_eq_true rfl]
        exact k H1 s1
      | _ => exact hs.elim
    · cases bb with
      | true =>
        have hp : H p = some (.lst xs) := hp
        have hq : H q = some (.lst ys) := hq
        refine ⟨_, rfl, (by show 2 ≤ sizeLine; decide), fun t1 ht1 => ?_⟩
        have s1 := same_new (o := .tup [.ty "list", .ty "tuple"]) ht1
        have hp1 := s1 _ _ hp
        have hq1 := s1 _ _ hq
        refine ⟨_, t1, _, _, _, true, rfl, upd_same, .cons (.ty _) (.cons (.ty _) .nil), .base (.lst hq1), kLT_lst, _, rfl, iteT ?_⟩
        generalize upd H t1 (.tup [.ty "list", .ty "tuple"]) = H1 at s1 hp1 hq1 ⊢
        refine ⟨_, rfl, _, _, _, _, _, rfl, .ty _, .base (.lst hp1), kit_ty (show kitB "list" "list" = some true by decide +kernel), _, rfl, _, _, _, _, _, rfl, .ty _, .base (.lst hq1), kit_ty (show kitB "list" "list" = some true by decide +kernel), rfl, _, rfl, iteF ?_⟩
        refine ⟨_, rfl, _, _, _, _, _, rfl, .ty _, .base (.lst hp1), kit_ty (show kitB "list" "tuple" = some false by decide +kernel), _, rfl, _, _, _, _, _, rfl, .ty _, .base (.lst hq1), kit_ty (show kitB "list" "tuple" = some false by decide +kernel), rfl, _, rfl, iteF ?_⟩
        refine ⟨_, rfl, _, _, rfl, .inl ⟨_, SqL.of hp1, rfl⟩, _, rfl, _, _, rfl, .inl ⟨_, SqL.of hq1, rfl⟩, rfl, _, rfl, ite_d (fun _ => ?_) (fun h => absurd (by rw [hn]) h)⟩
        refine ⟨_, rfl, _, rfl, p, q, _, _, rfl, .inl ⟨SqL.of hp1, SqL.of hq1, fun D hD => ?_⟩⟩
        refine lc_it (walk_zip (K := K) (a := p) (b := q) (xs := xs) (ys := ys) (n := xs.length) (by rw [← hn, Nat.min_self])) (fun i H' => i ≤ xs.length ∧ Same H1 H' ∧ H' D = some (.lst ((List.replicate i true).map V.bl)))
          ⟨Nat.zero_le _, same_new hD, upd_same⟩ (fun i H' _ ⟨_, s, _⟩ => ⟨s.seq (SqL.of hp1), s.seq (SqL.of hq1)⟩) ?_ ?_
        · rintro i x H2 H3 hlt ⟨_, s2, h2⟩ ⟨T, x1, x2, rfl, hT, rfl, e1, e2⟩
          have nT : D ≠ T := ne_of_none h2 hT
          refine ⟨T, _, rfl, SqT.of upd_same, rfl, _, _, rfl, _, _, rfl, rfl, rfl, ?_⟩
          have s3 := same_new (o := .tup [x1, x2]) hT
          refine ⟨_, rfl, _, rfl, x1, x2, j, rfl, by omega, ((hi i x1 x2 e1 e2).same s1).same (s2.trans s3), fun H4 s4 => ⟨_, s4 _ _ (s3 _ _ h2), ?_, hlt, fun b o e => ?_, ?_⟩⟩
          · rw [List.length_map, List.length_replicate]
            exact Nat.lt_of_le_of_lt (Nat.le_trans (Nat.le_of_lt hlt) hz) (by decide)
          · rw [upd_ne (ne_of_none e hD)]
            exact s4 _ _ (s3 _ _ (s2 _ _ e))
          · rw [upd_same, List.replicate_succ', List.map_append]
            rfl
        · rintro H2 ⟨_, s2, h2⟩
          refine ⟨D, List.replicate xs.length true, rfl, SqL.of h2, ?_⟩
          have e : (List.replicate xs.length true).all id = true := by simp
          rw [e]
          exact k H2 (s1.trans s2)
      | false =>
        have hp : H p = some (.tup xs) := hp
        have hq : H q = some (.tup ys) := hq
        refine ⟨_, rfl, (by show 2 ≤ sizeLine; decide), fun t1 ht1 => ?_⟩
        have s1 := same_new (o := .tup [.ty "list", .ty "tuple"]) ht1
        have hp1 := s1 _ _ hp
        have hq1 := s1 _ _ hq
        refine ⟨_, t1, _, _, _, true, rfl, upd_same, .cons (.ty _) (.cons (.ty _) .nil), .base (.tup hq1), kLT_tup, _, rfl, iteT ?_⟩
        generalize upd H t1 (.tup [.ty "list", .ty "tuple"]) = H1 at s1 hp1 hq1 ⊢
        refine ⟨_, rfl, _, _, _, _, _, rfl, .ty _, .base (.tup hp1), kit_ty (show kitB "tuple" "list" = some false by decide +kernel), _, rfl, _, _, _, _, _, rfl, .ty _, .base (.tup hq1), kit_ty (show kitB "tuple" "list" = some false by decide +kernel), rfl, _, rfl, iteF ?_⟩
        refine ⟨_, rfl, _, _, _, _, _, rfl, .ty _, .base (.tup hp1), kit_ty (show kitB "tuple" "tuple" = some true by decide +kernel), _, rfl, _, _, _, _, _, rfl, .ty _, .base (.tup hq1), kit_ty (show kitB "tuple" "tuple" = some true by decide +kernel), rfl, _, rfl, iteF ?_⟩
        refine ⟨_, rfl, _, _, rfl, .inr ⟨_, SqT.of hp1, rfl⟩, _, rfl, _, _, rfl, .inr ⟨_, SqT.of hq1, rfl⟩, rfl, _, rfl, ite_d (fun _ => ?_) (fun h => absurd (by rw [hn]) h)⟩
        refine ⟨_, rfl, _, rfl, p, q, _, _, rfl, .inr ⟨SqT.of hp1, SqT.of hq1, fun D hD => ?_⟩⟩
        refine lc_it (walk_zipT (K := K) (a := p) (b := q) (xs := xs) (ys := ys) (n := xs.length) (by rw [← hn, Nat.min_self])) (fun i H' => i ≤ xs.length ∧ Same H1 H' ∧ H' D = some (.lst ((List.replicate i true).map V.bl)))
          ⟨Nat.zero_le _, same_new hD, upd_same⟩ (fun i H' _ ⟨_, s, _⟩ => ⟨sameT s (SqT.of hp1), sameT s (SqT.of hq1)⟩) ?_ ?_
        · rintro i x H2 H3 hlt ⟨_, s2, h2⟩ ⟨T, x1, x2, rfl, hT, rfl, e1, e2⟩
          have nT : D ≠ T := ne_of_none h2 hT
          refine ⟨T, _, rfl, SqT.of upd_same, rfl, _, _, rfl, _, _, rfl, rfl, rfl, ?_⟩
          have s3 := same_new (o := .tup [x1, x2]) hT
          refine ⟨_, rfl, _, rfl, x1, x2, j, rfl, by omega, ((hi i x1 x2 e1 e2).same s1).same (s2.trans s3), fun H4 s4 => ⟨_, s4 _ _ (s3 _ _ h2), ?_, hlt, fun b o e => ?_, ?_⟩⟩
          · rw [List.length_map, List.length_replicate]
            exact Nat.lt_of_le_of_lt (Nat.le_trans (Nat.le_of_lt hlt) hz) (by decide)
          · rw [upd_ne (ne_of_none e hD)]
            exact s4 _ _ (s3 _ _ (s2 _ _ e))
          · rw [upd_same, List.replicate_succ', List.map_append]
            rfl
        · rintro H2 ⟨_, s2, h2⟩
          refine ⟨D, List.replicate xs.length true, rfl, SqL.of h2, ?_⟩
          have e : (List.replicate xs.length true).all id = true := by simp
          rw [e]
          exact k H2 (s1.trans s2)
theorem ok_like {P : Program} {w : World} {K : PySem.W.Frag} {mg : Str → Option Value} {base : Heap} {f : Addr} {fd : FuncData} (D : Def K mg "_law_like" slike Plike f fd) (T : Txt K mg) :
    FnOk P w K mg base CX0 5 f fd Plike (splike 5) := by
  have go : ∀ n : Nat, FnOk P w K mg base CX0 (n + 0) f fd Plike (splike n) := fun n => by
    induction n with
    | zero => exact LC.fn_none fun vs H Q E h => no_like h
    | succ n ih => exact step_like D T ih
  exact go 5
end k47
namespace k47
open PySem L2 LC RM
def spscale : Sp := fun vs H Q _ => ∃ (p : Addr) (ws : List Int), vs = [.ref p] ∧ H p = some (.lst (ws.map V.int)) ∧ (∀ w ∈ ws, 1 ≤ w ∧ w ≤ 12) ∧ ∀ H', Same H H' → Q (.int (lcmL ws)) H'
theorem ok_scale {P : Program} {w : World} {K : PySem.W.Frag} {mg : Str → Option Value} {base : Heap} {f : Addr} {fd : FuncData} (D : Def K mg "_law_scale" sscale Pscale f fd) (T : Txt K mg) :
    FnOk P w K mg base CX0 1 f fd Pscale (spscale) := by
  refine D.F.ok scscale (fun vs H Q E h => ?_) (fun cdv A outer s H vs Q E hr h => ?_)
  · obtain ⟨p, ws, rfl, hp, hw, k⟩ := h
    rfl
  · obtain ⟨p, ws, rfl, hp, hw, k⟩ := h
    refine ⟨_, (pss_cons (ps_set (i := 1) scscale.nd rfl (Or.inr rfl) pe_int)
        (pss_cons (ps_for PassesOwn.never rfl (pi_list (pv 0)) (pg_name (i := 2) scscale.nd rfl (Or.inr rfl))
          (pss_one (ps_set (i := 1) scscale.nd rfl (Or.inr rfl) (pe_ix ix_list (pe_lc (own := [("_law_step", 3)]) (g := gName 3) rfl scscale.nd (pi_range2 rfl T.n_range (pa_cons pe_int (pa_cons pe_int pa_nil))) (blkOk_by (own := [("_law_step", 3)]) (N := Nmscale) (sc := defScope sscale) (by decide +kernel)) (fun _ _ _ _ _ => pg_name (i := 3) scscale.nd rfl (Or.inl rfl)) (fun _ _ _ _ _ => pts_one (pt_cmpR op_eq (pe_op op_modN (pe_callTy call_int1 (by rfl) T.n_int (by decide +kernel) (pa_cons (pe_op op_mul (pv 1) (pv 3)) pa_nil)) (pv 2)) pe_int (nomark _))) (fun _ _ _ _ _ => (pe_op op_mul (pv 1) (pv 3)))) pe_int (fun _ _ => rfl)))))
        (pss_one (ps_ret (pv 1))))), ?_⟩
    refine ⟨_, rfl, p, rfl, ⟨_, SqL.of hp⟩, for_it (walk_list (K := K) (a := p) (xs := ws.map V.int)) (fun i σ H' => ∃ v w : Option V, σ = [some (.ref p), some (.int (lcmL (ws.take i))), v, w] ∧ Same H H') ⟨none, none, rfl, Same.refl H⟩ (fun i σ H' _ ⟨_, _, _, e⟩ => SqL.of (e _ _ hp)) ?_ ?_⟩
    · rintro i x σ H1 H2 hi ⟨v, v3, rfl, sm⟩ ⟨rfl, hx⟩
      rw [List.length_map] at hi
      rw [List.getElem?_map, List.getElem?_eq_getElem hi] at hx
      cases hx
      obtain ⟨w0, w1⟩ := hw _ (List.getElem_mem hi)
      obtain ⟨l0, l1⟩ := lcm_le hw i
      obtain ⟨kk, k12, ek, ez, en⟩ := first_mult l0 w0 w1
      refine ⟨_, _, rfl, ⟨by decide, by decide, by decide, by decide⟩, fun D hD => lc_it (walk_range (lo := 1) (n := 12)) (fun j H' => Same H2 H' ∧ ∃ acc : List V, H' D = some (.lst acc) ∧ acc.length ≤ j ∧ (j ≤ kk → acc = []) ∧ (kk < j → acc[0]? = some (.int (lcmL (ws.take (i + 1)))))) ⟨same_new hD, [], upd_same, Nat.le_refl _, fun _ => rfl, fun z => absurd z (Nat.not_lt_zero _)⟩ (fun _ _ _ _ => True.intro) ?_ ?_⟩
      · rintro j y H3 H4 hj ⟨s3, acc, hA, al, a1, a2⟩ ⟨rfl, rfl⟩
        refine ⟨rfl, _, rfl, _, rfl, _, _, rfl, rfl, .inr ⟨by omega, by omega⟩, .inl ⟨_, rfl, _, rfl, _, _, rfl, rfl, by omega, rfl, _, rfl, ite_d (fun ez' => ?_) (fun ez' => ?_)⟩⟩
        · have jk : kk ≤ j := by
            rcases Nat.lt_or_ge j kk with z | z
            · exact absurd (V.int.inj ez') (en j z)
            · exact z
          refine ⟨_, rfl, _, rfl, _, _, rfl, rfl, .inr ⟨by omega, by omega⟩, acc, hA, Nat.lt_of_le_of_lt al (Nat.lt_trans hj (by decide)), same_upd hD s3, _, upd_same, by rw [List.length_append]; exact Nat.succ_le_succ al, fun z => absurd z (by omega), fun _ => ?_⟩
          by_cases e : j = kk
          · subst e
            rw [a1 (Nat.le_refl _), lcm_next (List.getElem?_eq_getElem hi), ← ek]
            rfl
          · have q := a2 (by omega)
            rw [List.getElem?_append_left (List.getElem?_eq_some_iff.mp q).1]
            exact q
        · have jk : j ≠ kk := fun e => by
            subst e
            exact ez' (show V.int ((lcmL (ws.take i) * (1 + (j : Int))).fmod ws[i]) = .int 0 by rw [ez])
          exact ⟨s3, acc, hA, Nat.le_succ_of_le al, fun z => a1 (by omega), fun z => a2 (by omega)⟩
      · rintro H3 ⟨s3, acc, hA, al, a1, a2⟩
        have q := a2 k12
        obtain ⟨h0, _⟩ := List.getElem?_eq_some_iff.mp q
        refine ⟨_, _, _, _, rfl, rfl, SqL.of hA, atI_nat (j := 0) q, _, _, rfl, sm.trans s3⟩
    · rintro σ H1 ⟨v, w, rfl, sm⟩
      rw [List.length_map, List.take_length]
      exact ⟨_, rfl, k _ sm⟩
end k47
namespace k47
open PySem L2 LC RM
def sphead : Sp := fun vs H Q _ => ∃ (F : Addr → Prop) (y D L : Addr) (s : RS) (ns : List Str), vs = [.ref y] ∧ MineAt F H y D L s ∧ Dic ns s.kv ∧ (∀ q ∈ s.ln, q.1 ∈ ns) ∧ s.ln.length ≤ 1000 ∧
  (∀ H', s.ln = [] → Same H H' → Q .non H') ∧ ∀ (j : Nat) (q : Row) H', headAt s.kv s.ln = some j → s.ln[j]? = some q → Same H H' → Q (.int (j : Nat)) H'
theorem ok_head {P : Program} {w : World} {K : PySem.W.Frag} {mg : Str → Option Value} {base : Heap} {f : Addr} {fd : FuncData} (D : Def K mg "_law_head" shead Phead f fd) (T : Txt K mg) :
    FnOk P w K mg base CX0 1 f fd Phead (sphead) := by
  refine D.F.ok schead (fun vs H Q E h => ?_) (fun cdv A outer s H vs Q E hr h => ?_)
  · obtain ⟨F, y, D, L, s, ns, rfl, ⟨⟨mv, ts, hy, mf, hD, hL, ln⟩, fy, fD, nL, ne⟩, dic, hn, hl, k0, k1⟩ := h
    rfl
  · obtain ⟨F, y, D, L, s, ns, rfl, ⟨⟨mv, ts, hy, mf, hD, hL, ln⟩, fy, fD, nL, ne⟩, dic, hn, hl, k0, k1⟩ := h
    refine ⟨_, (pss_cons (ps_setLc (i := 1) (own := [("_law_at", 2), ("_law_one", 3)]) (g := gTup _ 2 (gCons (gName 2) (gCons (gName 3) gNil))) (tt := tYes) rfl schead.nd rfl rfl (sw_true rfl rfl rfl (by decide +kernel)) (pi_enum (by rfl) T.n_enumerate (pa_cons (pe_dget (hu_of hr) (pv 0) pe_str (fun _ _ => rfl)) pa_nil)) (blkOk_by (own := [("_law_at", 2), ("_law_one", 3)]) (N := Nmhead) (sc := defScope shead) (by decide +kernel)) (fun _ _ _ _ _ => by exact (pg_tup rfl (pgs_cons (pg_name (i := 2) schead.nd rfl (Or.inl rfl)) (pgs_cons (pg_name (i := 3) schead.nd rfl (Or.inl rfl)) pgs_nil)))) (fun _ _ _ _ _ => pts_nil) (fun _ _ _ _ _ => (pe_tup (pa_cons (pe_dget (hu_of hr) (pe_dget (hu_of hr) (pv 0) pe_str (fun _ _ => rfl)) (pe_ix (show IxR _ (rIxT K) from ix_tup) (pv 3) pe_int (fun _ _ => rfl)) (fun _ _ => rfl)) (pa_cons (pe_ix (show IxR _ (rIxT K) from ix_tup) (pv 3) pe_int (fun _ _ => rfl)) (pa_cons (pv 2) pa_nil))))))
        (pss_one (ps_ret (pe_ifExp (pt_truth (pv 1) (by intro _; rfl)) (pe_ix ix_tup (pe_callB (LD.cr_minT rfl hr.units) (by rfl) T.n_min (by decide +kernel) (pa_cons (pv 1) pa_nil)) pe_int (fun _ _ => rfl)) pe_non)))), ?_⟩
    have tl : ts.length = s.ln.length := ln.length
    have gl : ∀ {H' : Hp}, Same H H' → DGet H' y (.str "line") (some (.ref L)) := fun sm => by rw [← mf.l]; exact DGet.k (k := kS "line") (sm _ _ hy)
    have gm : ∀ {H' : Hp}, Same H H' → DGet H' y (.str "marks") (some (.ref D)) := fun sm => by rw [← mf.m]; exact DGet.k (k := kS "marks") (sm _ _ hy)
    refine ⟨_, rfl, y, _, rfl, gl (Same.refl H), L, _, rfl, SqL.of hL, fun T hT => lc_it (walk_enum (K := K) (a := L) (xs := ts.map V.ref)) (fun i H' => Same H H' ∧ ∃ us : List Addr, H' T = some (.lst (us.map V.ref)) ∧ us.length = i ∧ Paired (LD.Row3 H') us ((ranks s.kv s.ln).take i)) ⟨same_new hT, [], upd_same, rfl, .nil⟩ (fun i H' _ ⟨sm, _⟩ => sm.seq (SqL.of hL)) ?_ ?_⟩
    · rintro i v H1 H2 hi ⟨sm, us, hT1, hul, pr⟩ ⟨E, v1, v2, rfl, hE, rfl, e1, e2⟩
      rw [List.length_map] at hi
      have e2' : (ts.map V.ref)[i]? = some v2 := e2
      have e1' : some (V.int (i : Nat)) = some v1 := e1
      cases e1'
      obtain ⟨t, ht⟩ : ∃ t, ts[i]? = some t := ⟨_, List.getElem?_eq_getElem hi⟩
      rw [List.getElem?_map, ht] at e2'
      cases e2'
      obtain ⟨q, hq, nt, rq⟩ := ln.at_ ht
      have hqn : q.1 ∈ ns := hn q (List.mem_of_getElem? hq)
      have smE : Same H1 (upd H1 E (.tup [.int (i : Nat), .ref t])) := same_new hE
      have sE := sm.trans smE
      have hTE := smE _ _ hT1
      refine ⟨E, _, rfl, SqT.of upd_same, rfl, _, _, rfl, _, _, rfl, rfl, rfl, ?_⟩
      generalize upd H1 E (.tup [.int (i : Nat), .ref t]) = H3 at smE sE hTE ⊢
      have hqq : SqT K H3 t (rowV q) := SqT.of (sE _ _ rq)
      refine ⟨_, rfl, y, _, rfl, gm sE, _, rfl, _, _, _, _, rfl, rfl, hqq, rfl, D, .int (markOf s.kv q.1), rfl, (by rw [← dic.2 _ hqn]; exact DGet.k (k := kS q.1) (sE _ _ hD)), ?_⟩
      refine ⟨_, rfl, _, _, _, _, rfl, rfl, hqq, rfl, _, rfl, (by show 3 ≤ sizeLine; decide), fun U hU => ?_⟩
      have sU := sE.trans (same_new (o := .tup [.int (markOf s.kv q.1), .str q.1, .int (i : Nat)]) hU)
      have hTU : upd H3 U (.tup [.int (markOf s.kv q.1), .str q.1, .int (i : Nat)]) T = some (.lst (us.map V.ref)) := same_new hU _ _ hTE
      have nUT : U ≠ T := fun z => by
        rw [z, hTE] at hU
        cases hU
      refine ⟨_, hTU, by rw [List.length_map, hul]; exact Nat.lt_of_lt_of_le hi (by rw [tl]; exact Nat.le_trans hl (by decide)), same_upd hT sU, us ++ [U], ?_, by rw [List.length_append, hul]; rfl, ranks_step hq pr (fun b xs e => ?_) ?_⟩
      · rw [upd_same, List.map_append]
        rfl
      · have q1 := smE _ _ e
        have q2 := same_new (o := .tup [.int (markOf s.kv q.1), .str q.1, .int (i : Nat)]) hU _ _ q1
        rw [upd_ne (fun z => by rw [z, hTU] at q2; cases q2)]
        exact q2
      · rw [upd_ne nUT]
        exact upd_same
    · rintro H1 ⟨sm, us, hT1, hul, pr⟩
      rw [List.length_map] at hul pr
      rw [List.take_of_length_le (by rw [ranks_len, tl]; exact Nat.le_refl _)] at pr
      refine ⟨_, rfl, !(us.map V.ref).isEmpty, .inl ⟨_, SqL.of hT1, rfl⟩, ?_⟩
      cases er : ranks s.kv s.ln with
      | nil =>
        have e0 := congrArg List.length er
        rw [ranks_len] at e0
        rw [er] at pr
        cases pr
        exact iteF (k0 H1 (List.length_eq_zero_iff.mp e0) sm)
      | cons r0 rs =>
        obtain ⟨j, q, hj, hq, jl, em⟩ := headAt_cons er
        rw [er] at pr
        cases us with
        | nil => cases pr
        | cons u0 us =>
          refine iteT ⟨_, rfl, T, u0 :: us, r0, rs, rfl, SqL.of hT1, pr, fun i u hu hm => ?_⟩
          obtain ⟨ru, e1, e2⟩ := pair_at pr hu
          rw [hm] at e1
          cases e1
          have e3 : H1 u = some (.tup [.int (markOf s.kv q.1), .str q.1, .int (j : Nat)]) := by
            have e4 := e2
            rw [em] at e4
            exact e4
          exact ⟨_, _, _, _, rfl, rfl, SqT.of e3, rfl, k1 j q H1 hj hq sm⟩
end k47
namespace k47
open PySem L2 LC RM
def spjoin : Sp := fun vs H Q _ => ∃ (F : Addr → Prop) (y D L : Addr) (s : RS) (ns : List Str) (z : Str) (c : Int) (u : Option Int), vs = [.ref y, .str z, .int c, uV u] ∧ MineAt F H y D L s ∧ Dic ns s.kv ∧ z ∈ ns ∧ s.ln.length ≤ 39 ∧ (∀ b, F b → ∃ o, H b = some o) ∧
  ∀ (M : Addr) H', H M = none → KpF (fun b => b = y ∨ b = D) H H' → MineAt F H' y D M (joinS s z c u) → Q .non H'
theorem ok_join {P : Program} {w : World} {K : PySem.W.Frag} {mg : Str → Option Value} {base : Heap} {f : Addr} {fd : FuncData} (D : Def K mg "_law_join" sjoin Pjoin f fd) (T : Txt K mg) :
    FnOk P w K mg base CX0 1 f fd Pjoin (spjoin) := by
  refine D.F.ok scjoin (fun vs H Q E h => ?_) (fun cdv A outer s H vs Q E hr h => ?_)
  · obtain ⟨F, y, D, L, s, ns, z, c, u, rfl, ⟨⟨mv, ts, hy, mf, hD, hL, ln⟩, fy, fD, nL, ne⟩, dic, hzn, l39, hF, k⟩ := h
    rfl
  · obtain ⟨F, y, D, L, s, ns, z, c, u, rfl, ⟨⟨mv, ts, hy, mf, hD, hL, ln⟩, fy, fD, nL, ne⟩, dic, hzn, l39, hF, k⟩ := h
    refine ⟨_, (pss_cons (ps_set (i := 4) scjoin.nd rfl (Or.inl rfl) (pe_dget (hu_of hr) (pv 0) pe_str (fun _ _ => rfl)))
        (Evl.pss_cut (ps_if (pt_cmpR op_notIn_seq (pv 1) (pe_lc (own := [("_law_one", 5)]) (g := gName 5) (tt := tYes) rfl scjoin.nd (pi_list (pe_dget (hu_of hr) (pv 0) pe_str (fun _ _ => rfl))) (blkOk_by (own := [("_law_one", 5)]) (N := Nmjoin) (sc := defScope sjoin) (by decide +kernel)) (fun _ _ _ _ _ => pg_name (i := 5) scjoin.nd rfl (Or.inl rfl)) (fun _ _ _ _ _ => pts_nil) (fun _ _ _ _ _ => (pe_ix (show IxR _ (rIxT K) from ix_tup) (pv 5) pe_int (fun _ _ => rfl)))) (by rfl)) (pss_one (ps_dput (hu_of hr) (pv 4) (pv 1) (pe_callB (call_max2 rfl) (by rfl) T.n_max (by decide +kernel) (pa_cons (pe_dget (hu_of hr) (pv 4) (pv 1) (fun _ _ => rfl)) (pa_cons (pe_dget (hu_of hr) (pv 0) pe_str (fun _ _ => rfl)) pa_nil))) (by rfl))) pss_nil)
        (pss_one (ps_dput (hu_of hr) (pv 0) pe_str (pe_op op_cat (pe_dget (hu_of hr) (pv 0) pe_str (fun _ _ => rfl)) (pe_lst (pa_cons (pe_tup (pa_cons (pv 1) (pa_cons (pv 2) (pa_cons (pv 3) pa_nil)))) pa_nil))) (by rfl))))), ?_⟩
    have tl : ts.length = s.ln.length := ln.length
    have gl : ∀ {H' : Hp}, H' y = some (.dK mv) → DGet H' y (.str "line") (some (.ref L)) := fun e => by rw [← mf.l]; exact DGet.k (k := kS "line") e
    have gm : ∀ {H' : Hp}, H' y = some (.dK mv) → DGet H' y (.str "marks") (some (.ref D)) := fun e => by rw [← mf.m]; exact DGet.k (k := kS "marks") e
    have gv : ∀ {H' : Hp}, H' y = some (.dK mv) → DGet H' y (.str "level") (some (.int s.lv)) := fun e => by rw [← mf.v]; exact DGet.k (k := kS "level") e
    refine ⟨_, rfl, y, _, rfl, gm hy, ?_⟩
    refine ⟨fun σ H' => ∃ v5 : Option V, σ = [some (.ref y), some (.str z), some (.int c), some (uV u), some (.ref D), v5] ∧ KpF (fun b => b = D) H H' ∧ H' D = some (.dK (joinS s z c u).kv), ?_, ?_⟩
    · refine ⟨_, rfl, _, rfl, y, _, rfl, gl hy, L, rfl, ⟨_, SqL.of hL⟩, fun T hT => lc_it (walk_list (K := K) (a := L) (xs := ts.map V.ref)) (fun i H' => Same H H' ∧ H' T = some (.lst (namesV (s.ln.take i)))) ⟨same_new hT, upd_same⟩ (fun i H' _ ⟨sm, _⟩ => SqL.of (sm _ _ hL)) ?_ ?_⟩
      · rintro i v H2 H3 hi ⟨sm, hT2⟩ ⟨rfl, e2⟩
        rw [List.length_map] at hi
        obtain ⟨t, ht⟩ : ∃ t, ts[i]? = some t := ⟨_, List.getElem?_eq_getElem hi⟩
        rw [List.getElem?_map, ht] at e2
        cases e2
        obtain ⟨q, hq, nt, rq⟩ := ln.at_ ht
        have hqq : SqT K H3 t (rowV q) := SqT.of (sm _ _ rq)
        refine ⟨rfl, _, rfl, _, _, _, _, rfl, rfl, hqq, rfl, _, hT2, ?_, same_upd hT sm, ?_⟩
        · unfold namesV
          rw [List.length_map, List.length_take]
          exact Nat.lt_of_le_of_lt (Nat.min_le_right _ _) (Nat.lt_of_le_of_lt l39 (by decide))
        · rw [upd_same, List.take_add_one, hq]
          unfold namesV
          rw [List.map_append]
          rfl
      · rintro H2 ⟨sm, hT2⟩
        rw [List.length_map, tl, List.take_length] at hT2
        refine ⟨T, _, rfl, .inl (SqL.of hT2), rfl, names_flat _, _, rfl, ?_⟩
        show if (!inV (.str z) (namesV s.ln)) = true then _ else _
        refine ite_nb (fun e => ?_) (fun e => ?_)
        · refine ⟨_, rfl, _, rfl, D, .int (markOf s.kv z), rfl, (by rw [← dic.2 _ hzn]; exact DGet.k (k := kS z) (sm _ _ hD)), _, rfl, y, _, rfl, gv (sm _ _ hy), _, _, rfl, ?_⟩
          refine ⟨_, rfl, _, rfl, D, _, rfl, DPut.k (k := kS z) (sm _ _ hD) (Nat.lt_of_le_of_lt dic.1 (by decide)), _, rfl, (KpF.same sm).upd rfl, ?_⟩
          rw [upd_same]
          show some (HO.dK (putK s.kv (kS z) (.int (maxI (markOf s.kv z) s.lv)))) = some (.dK (if inV (.str z) (namesV s.ln) = true then s.kv else _))
          rw [if_neg (by rw [e]; decide)]
        · refine ⟨_, rfl, KpF.same sm, ?_⟩
          show H2 D = some (.dK (if inV (.str z) (namesV s.ln) = true then s.kv else _))
          rw [if_pos e]
          exact sm _ _ hD
    · rintro σ H2 ⟨v5, rfl, k2, hD2⟩
      have nLD : L ≠ D := fun e => nL (by rw [e]; exact fD)
      have hy2 := k2 _ _ ne hy
      have hL2 := k2 _ _ nLD hL
      refine ⟨_, rfl, y, _, rfl, gl hy2, _, rfl, _, rfl, _, rfl, (by show 3 ≤ sizeLine; decide), fun U hU => ⟨(by show 1 ≤ sizeLine; decide), fun V1 hV => ?_⟩⟩
      have hG2 : ∀ {H' : Hp}, Same H2 H' → ∀ b, b = D → ∃ o, H' b = some o := fun sm b e => by subst e; exact ⟨_, sm _ _ hD2⟩
      have sU := same_new (o := .tup [.str z, .int c, uV u]) hU
      obtain ⟨hU0, nUD⟩ := fresh_of k2 (hG2 (Same.refl H2)) hU
      have eU : upd H2 U (.tup [.str z, .int c, uV u]) U = some (.tup [.str z, .int c, uV u]) := upd_same
      have kU : KpF (fun b => b = D) H (upd H2 U (.tup [.str z, .int c, uV u])) := k2.new hU
      have yU := sU _ _ hy2
      have lU := sU _ _ hL2
      have dU := sU _ _ hD2
      generalize upd H2 U (.tup [.str z, .int c, uV u]) = HU at sU eU kU yU lU dU hV ⊢
      have sV := same_new (o := .lst [.ref U]) hV
      have eV : upd HU V1 (.lst [.ref U]) V1 = some (.lst [.ref U]) := upd_same
      have kV : KpF (fun b => b = D) H (upd HU V1 (.lst [.ref U])) := kU.new hV
      have yV := sV _ _ yU
      have lV := sV _ _ lU
      have dV := sV _ _ dU
      have uV' := sV _ _ eU
      generalize upd HU V1 (.lst [.ref U]) = HV at sV eV kV yV lV dV uV' ⊢
      refine ⟨L, V1, _, _, rfl, rfl, lV, eV, by rw [List.length_map, tl]; exact Nat.le_trans (show _ ≤ 41 by show s.ln.length + 1 ≤ 41; omega) (by decide), fun M hM => ?_⟩
      obtain ⟨hM0, nMD⟩ := fresh_of kV (fun b e => by subst e; exact ⟨_, dV⟩) hM
      have nMy : M ≠ y := fun e => by rw [e, yV] at hM; cases hM
      have sM := same_new (o := .lst (ts.map V.ref ++ [.ref U])) hM
      refine ⟨_, rfl, y, _, rfl, DPut.k (k := kS "line") (sM _ _ yV) (Nat.lt_of_le_of_lt mf.n (by decide)), ?_⟩
      have kf : KpF (fun b => b = y ∨ b = D) H (upd (upd HV M (.lst (ts.map V.ref ++ [.ref U]))) y (.dK (putK mv (kS "line") (.ref M)))) := ((kV.new hM).mono fun b e => .inr e).upd (.inl rfl)
      have nUy : U ≠ y := fun e => by rw [← e, hU0] at hy; cases hy
      have eUf : upd (upd HV M (.lst (ts.map V.ref ++ [.ref U]))) y (.dK (putK mv (kS "line") (.ref M))) U = some (.tup [.str z, .int c, uV u]) := by rw [upd_ne nUy]; exact sM _ _ uV'
      refine k M _ hM0 kf ⟨⟨_, ts ++ [U], upd_same, mf.line M, ?_, ?_, ?_⟩, fy, fD, notF hF hM0, ne⟩
      · rw [upd_ne (Ne.symm ne)]
        exact sM _ _ dV
      · rw [upd_ne nMy, upd_same, List.map_append]
        rfl
      · refine Paired.snoc (Lines.kp (kf.mono fun b e => e.elim (fun e => by rw [e]; exact fy) fun e => by rw [e]; exact fD) ln) ⟨notF hF hU0, eUf⟩
end k47
namespace k47
open PySem L2 LC RM
def spserve : Sp := fun vs H Q _ => ∃ (F : Addr → Prop) (y D L Wd : Addr) (wv : List (Key × V)) (sc : Int) (s : RS) (ns : List Str), vs = [.ref y, .ref Wd, .int sc] ∧ MineAt F H y D L s ∧ H Wd = some (.dK wv) ∧ ¬ F Wd ∧ Dic ns s.kv ∧ WDic ns wv ∧ (∀ q ∈ s.ln, q.1 ∈ ns ∧ 1 ≤ q.2.1 ∧ q.2.1 ≤ 1000) ∧ s.ln.length ≤ 40 ∧ 1 ≤ sc ∧ sc ≤ 27720 ∧ s.ln ≠ [] ∧ (∀ b, F b → ∃ o, H b = some o) ∧
  ∀ (j : Nat) (q : Row) (T M : Addr) H', headAt s.kv s.ln = some j → s.ln[j]? = some q → KpF (fun b => b = y ∨ b = D) H H' → H M = none → MineAt F H' y D M (serveS s sc (markOf wv q.1) j q) → H T = none → H' T = some (.tup [.str q.1, .int q.2.1]) → Q (.ref T) H'
theorem ok_serve {P : Program} {w : World} {K : PySem.W.Frag} {mg : Str → Option Value} {base : Heap} {f : Addr} {fd : FuncData} (D : Def K mg "_law_serve" sserve Pserve f fd) (T : Txt K mg) {fhead : Addr} {fdhead : FuncData} (Dhead : Def K mg "_law_head" shead Phead fhead fdhead) (Ghead : FnOk P w K mg base CX0 1 fhead fdhead Phead (sphead)) :
    FnOk P w K mg base CX0 2 f fd Pserve (spserve) := by
  refine D.F.ok scserve (fun vs H Q E h => ?_) (fun cdv A outer s H vs Q E hr h => ?_)
  · obtain ⟨F, y, D, L, Wd, wv, sc, s, ns, rfl, R, hWd, nWd, dic, wd, hn, l40, sc0, sc1, hne, hF, k⟩ := h
    rfl
  · obtain ⟨F, y, D, L, Wd, wv, sc, s, ns, rfl, R, hWd, nWd, dic, wd, hn, l40, sc0, sc1, hne, hF, k⟩ := h
    have hrhead : Room 1 _ := hr.mono (by decide)
    refine ⟨_, (pss_cons (ps_set (i := 3) scserve.nd rfl (Or.inl rfl) (pe_call Ghead hrhead rfl Dhead.g Dhead.F.kp Dhead.b .nil pass0 (pa_cons (pv 0) pa_nil)))
        (pss_cons (ps_asg (pe_ix ix_list (pe_dget (hu_of hr) (pv 0) pe_str (fun _ _ => rfl)) (pv 3) (fun _ _ => rfl)) (pg_tup rfl (pgs_cons (pg_name (i := 4) scserve.nd rfl (Or.inl rfl)) (pgs_cons (pg_name (i := 5) scserve.nd rfl (Or.inl rfl)) (pgs_cons (pg_name (i := 6) scserve.nd rfl (Or.inl rfl)) pgs_nil)))))
        (pss_cons (ps_dput (hu_of hr) (pv 0) pe_str (pe_op op_cat (pe_slice sl_list (pe_dget (hu_of hr) (pv 0) pe_str (fun _ _ => rfl)) po_none (po_some (pv 3))) (pe_slice sl_list (pe_dget (hu_of hr) (pv 0) pe_str (fun _ _ => rfl)) (po_some (pe_op op_add (pv 3) pe_int)) po_none)) (by rfl))
        (pss_cons (ps_set (i := 7) scserve.nd rfl (Or.inl rfl) (pe_dget (hu_of hr) (pv 0) pe_str (fun _ _ => rfl)))
        (pss_cons (ps_dput (hu_of hr) (pv 0) pe_str (pe_dget (hu_of hr) (pv 7) (pv 4) (fun _ _ => rfl)) (by rfl))
        (pss_cons (ps_dput (hu_of hr) (pv 7) (pv 4) (pe_op op_add (pe_dget (hu_of hr) (pv 7) (pv 4) (fun _ _ => rfl)) (pe_op op_fdivN (pe_op op_mul (pv 5) (pv 2)) (pe_dget (hu_of hr) (pv 1) (pv 4) (fun _ _ => rfl)))) (by rfl))
        (pss_one (ps_ret (pe_tup (pa_cons (pv 4) (pa_cons (pv 5) pa_nil))))))))))), ?_⟩
    obtain ⟨⟨mv, ts, hy, mf, hD, hL, ln⟩, fy, fD, nL, ne⟩ := id R
    have tl : ts.length = s.ln.length := ln.length
    have gl : ∀ {H' : Hp}, H' y = some (.dK mv) → DGet H' y (.str "line") (some (.ref L)) := fun e => by rw [← mf.l]; exact DGet.k (k := kS "line") e
    refine ⟨_, rfl, F, y, D, L, s, ns, rfl, R, dic, fun q hq => (hn q hq).1, by omega, fun H' e _ => absurd e hne, fun j q H1 hj hq s1 => ?_⟩
    obtain ⟨hqn, p0, p1⟩ := hn q (List.mem_of_getElem? hq)
    obtain ⟨w0, w1⟩ := wd.b _ hqn
    obtain ⟨t, ht, rt⟩ := pair_at' ln hq
    have ht' : (ts.map V.ref)[j]? = some (V.ref t) := by rw [List.getElem?_map, ht]; rfl
    have hy1 := s1 _ _ hy
    have hL1 := s1 _ _ hL
    have hD1 := s1 _ _ hD
    refine ⟨_, rfl, y, _, rfl, gl hy1, _, rfl, _, _, _, _, rfl, rfl, SqL.of hL1, atI_nat ht', t, _, rfl, SqT.of (s1 _ _ rt.2), rfl, _, _, rfl, _, _, rfl, _, _, rfl, rfl, ?_⟩
    have jl : j < (ts.map V.ref).length := (List.getElem?_eq_some_iff.mp ht').1
    refine ⟨_, rfl, y, _, rfl, gl hy1, _, rfl, _, rfl, L, _, rfl, SqL.of hL1, fun P1 hP1 => ?_⟩
    have s2 := s1.trans (same_new (o := .lst (cutV (ts.map V.ref) none (some (j : Int)))) hP1)
    have p1e : upd H1 P1 (.lst (cutV (ts.map V.ref) none (some (j : Int)))) P1 = some (.lst (cutV (ts.map V.ref) none (some (j : Int)))) := upd_same
    generalize upd H1 P1 (.lst (cutV (ts.map V.ref) none (some (j : Int)))) = H2 at s2 p1e ⊢
    refine ⟨_, rfl, y, _, rfl, gl (s2 _ _ hy), _, rfl, _, _, rfl, rfl, _, rfl, L, _, rfl, SqL.of (s2 _ _ hL), fun P2 hP2 => ?_⟩
    have s23 := same_new (o := .lst (cutV (ts.map V.ref) (some ((j : Int) + 1)) none)) hP2
    have s3 := s2.trans s23
    have p13 := s23 _ _ p1e
    have p2e : upd H2 P2 (.lst (cutV (ts.map V.ref) (some ((j : Int) + 1)) none)) P2 = some (.lst (cutV (ts.map V.ref) (some ((j : Int) + 1)) none)) := upd_same
    generalize upd H2 P2 (.lst (cutV (ts.map V.ref) (some ((j : Int) + 1)) none)) = H3 at s3 p13 p2e ⊢
    refine ⟨P1, P2, _, _, rfl, rfl, p13, p2e, ?_, fun M hM => ?_⟩
    · have a1 := cutV_length (ts.map V.ref) none (some (j : Int))
      have a2 := cutV_length (ts.map V.ref) (some ((j : Int) + 1)) none
      rw [List.length_map, tl] at a1 a2
      exact Nat.le_trans (show _ ≤ 80 by omega) (by decide)
    rw [cut_both jl, map_erase]
    have hM0 : H M = none := s3.free hM
    have nMy : M ≠ y := fun e => by rw [e, s3 _ _ hy] at hM; cases hM
    have nMD : M ≠ D := fun e => by rw [e, s3 _ _ hD] at hM; cases hM
    have s4 := s3.trans (same_new (o := .lst ((ts.eraseIdx j).map V.ref)) hM)
    have eM4 : upd H3 M (.lst ((ts.eraseIdx j).map V.ref)) M = some (.lst ((ts.eraseIdx j).map V.ref)) := upd_same
    generalize upd H3 M (.lst ((ts.eraseIdx j).map V.ref)) = H4 at s4 eM4 ⊢
    refine ⟨_, rfl, y, _, rfl, DPut.k (k := kS "line") (s4 _ _ hy) (Nat.lt_of_le_of_lt mf.n (by decide)), ?_⟩
    have mf5 := mf.line M
    have k5 : KpF (fun b => b = y ∨ b = D) H (upd H4 y (.dK (putK mv (kS "line") (.ref M)))) := (KpF.same s4).upd (.inl rfl)
    have y5 : upd H4 y (.dK (putK mv (kS "line") (.ref M))) y = some (.dK (putK mv (kS "line") (.ref M))) := upd_same
    have d5 : upd H4 y (.dK (putK mv (kS "line") (.ref M))) D = some (.dK s.kv) := by rw [upd_ne (Ne.symm ne)]; exact s4 _ _ hD
    have m5 : upd H4 y (.dK (putK mv (kS "line") (.ref M))) M = some (.lst ((ts.eraseIdx j).map V.ref)) := by rw [upd_ne nMy]; exact eM4
    generalize upd H4 y (.dK (putK mv (kS "line") (.ref M))) = H5 at k5 y5 d5 m5 ⊢
    have dgD : ∀ {H' : Hp}, H' D = some (.dK s.kv) → DGet H' D (.str q.1) (some (.int (markOf s.kv q.1))) := fun e => by rw [← dic.2 _ hqn]; exact DGet.k (k := kS q.1) e
    refine ⟨_, rfl, y, _, rfl, (by rw [← mf5.m]; exact DGet.k (k := kS "marks") y5), ?_⟩
    refine ⟨_, rfl, _, rfl, D, .int (markOf s.kv q.1), rfl, dgD d5, _, rfl, y, _, rfl, DPut.k (k := kS "level") y5 (Nat.lt_of_le_of_lt mf5.n (by decide)), ?_⟩
    have mf6 := mf5.level (markOf s.kv q.1)
    have k6 : KpF (fun b => b = y ∨ b = D) H (upd H5 y (.dK (putK (putK mv (kS "line") (.ref M)) (kS "level") (.int (markOf s.kv q.1))))) := k5.upd (.inl rfl)
    have y6 : upd H5 y (.dK (putK (putK mv (kS "line") (.ref M)) (kS "level") (.int (markOf s.kv q.1)))) y = some (.dK (putK (putK mv (kS "line") (.ref M)) (kS "level") (.int (markOf s.kv q.1)))) := upd_same
    have d6 : upd H5 y (.dK (putK (putK mv (kS "line") (.ref M)) (kS "level") (.int (markOf s.kv q.1)))) D = some (.dK s.kv) := by rw [upd_ne (Ne.symm ne)]; exact d5
    have m6 : upd H5 y (.dK (putK (putK mv (kS "line") (.ref M)) (kS "level") (.int (markOf s.kv q.1)))) M = some (.lst ((ts.eraseIdx j).map V.ref)) := by rw [upd_ne nMy]; exact m5
    generalize upd H5 y (.dK (putK (putK mv (kS "line") (.ref M)) (kS "level") (.int (markOf s.kv q.1)))) = H6 at k6 y6 d6 m6 ⊢
    have sub : ∀ b, (b = y ∨ b = D) → F b := fun b z => z.elim (fun e => by rw [e]; exact fy) fun e => by rw [e]; exact fD
    refine ⟨_, rfl, _, rfl, D, .int (markOf s.kv q.1), rfl, dgD d6, _, rfl, _, rfl, _, _, rfl, rfl, .inl ⟨by omega, by omega⟩, _, rfl, _, rfl, Wd, .int (markOf wv q.1), rfl, (by rw [← wd.d.2 _ hqn]; exact DGet.k (k := kS q.1) (k6 _ _ (fun z => nWd (sub _ z)) hWd)), _, _, rfl, rfl, ⟨by omega, by omega⟩, _, _, rfl, rfl, ?_⟩
    refine ⟨_, rfl, _, rfl, D, _, rfl, DPut.k (k := kS q.1) d6 (Nat.lt_of_le_of_lt dic.1 (by decide)), ?_⟩
    have k7 : KpF (fun b => b = y ∨ b = D) H (upd H6 D (.dK (putK s.kv (kS q.1) (.int (markOf s.kv q.1 + (q.2.1 * sc).fdiv (markOf wv q.1)))))) := k6.upd (.inr rfl)
    have y7 : upd H6 D (.dK (putK s.kv (kS q.1) (.int (markOf s.kv q.1 + (q.2.1 * sc).fdiv (markOf wv q.1))))) y = some (.dK (putK (putK mv (kS "line") (.ref M)) (kS "level") (.int (markOf s.kv q.1)))) := by rw [upd_ne ne]; exact y6
    have d7 : upd H6 D (.dK (putK s.kv (kS q.1) (.int (markOf s.kv q.1 + (q.2.1 * sc).fdiv (markOf wv q.1))))) D = some (.dK (putK s.kv (kS q.1) (.int (markOf s.kv q.1 + (q.2.1 * sc).fdiv (markOf wv q.1))))) := upd_same
    have m7 : upd H6 D (.dK (putK s.kv (kS q.1) (.int (markOf s.kv q.1 + (q.2.1 * sc).fdiv (markOf wv q.1))))) M = some (.lst ((ts.eraseIdx j).map V.ref)) := by rw [upd_ne nMD]; exact m6
    generalize upd H6 D (.dK (putK s.kv (kS q.1) (.int (markOf s.kv q.1 + (q.2.1 * sc).fdiv (markOf wv q.1))))) = H7 at k7 y7 d7 m7 ⊢
    refine ⟨_, rfl, _, rfl, (by show 2 ≤ sizeLine; decide), fun T hT => ?_⟩
    have sT := same_new (o := .tup [.str q.1, .int q.2.1]) hT
    have k8 : KpF (fun b => b = y ∨ b = D) H (upd H7 T (.tup [.str q.1, .int q.2.1])) := k7.new hT
    obtain ⟨hT0, _⟩ := fresh_of k7 (fun b z => z.elim (fun e => by subst e; exact ⟨_, y7⟩) (fun e => by subst e; exact ⟨_, d7⟩)) hT
    refine k j q T M _ hj hq k8 hM0 ⟨⟨_, ts.eraseIdx j, sT _ _ y7, mf6, sT _ _ d7, sT _ _ m7, Lines.kp (k8.mono sub) (pair_erase ln j)⟩, fy, fD, notF hF hM0, ne⟩ hT0 upd_same
end k47
namespace k47
open PySem L2 LC RM
/-- the head as a value: none, or its row -/
def HeadV (s : RS) (H : Hp) (d : V) : Prop := (s.ln = [] ∧ d = .non) ∨ ∃ (j : Nat) (q : Row) (t : Addr), d = .ref t ∧ headAt s.kv s.ln = some j ∧ s.ln[j]? = some q ∧ H t = some (.tup (rowV q))
theorem HeadV.same {s : RS} {H H' : Hp} {d : V} (h : HeadV s H d) (k : Same H H') : HeadV s H' d := h.imp id fun ⟨j, q, t, a, b, c, e⟩ => ⟨j, q, t, a, b, c, k _ _ e⟩
theorem HeadV.lk {s : RS} {H : Hp} {d d' : V} (h : HeadV s H d) (h' : HeadV s H d') : Lk H 2 d d' := by
  rcases h with ⟨e, rfl⟩ | ⟨j, q, t, rfl, hj, hq, ht⟩
  · rcases h' with ⟨_, rfl⟩ | ⟨j', q', t', _, _, hq', _⟩
    · exact Lk.sc (x := V.non) (by exact True.intro) 2
    · rw [e] at hq'
      cases hq'
  · rcases h' with ⟨e, _⟩ | ⟨j', q', t', rfl, hj', hq', ht'⟩
    · rw [e] at hq
      cases hq
    · rw [hj] at hj'
      cases hj'
      rw [hq] at hq'
      cases hq'
      exact lk_row ht ht'
theorem rhead_use {r : Ar} {H : Hp} {Q : VK} {E : XK} {F : Addr → Prop} {x D L : Addr} {wv : List (Key × V)} {sc : Int} {s : RS} {ns : List Str} (R : RoomAt r F H x D L wv sc s) (dic : Dic ns s.kv) (hn : ∀ q ∈ s.ln, q.1 ∈ ns) (hl : s.ln.length ≤ 1000)
    (h : ∀ dv H', Same H H' → HeadV s H' dv → Q dv H') : spRoom_head r [.ref x] H Q E :=
  ⟨F, x, D, L, wv, sc, s, ns, rfl, R, dic, hn, hl, fun H' e sm => h _ H' sm (.inl ⟨e, rfl⟩), fun j q t H' hj hq sm _ rt => h _ H' sm (.inr ⟨j, q, t, rfl, hj, hq, rt.2⟩)⟩
theorem head_use {H : Hp} {Q : VK} {E : XK} {F : Addr → Prop} {y D L : Addr} {s : RS} {ns : List Str} (R : MineAt F H y D L s) (dic : Dic ns s.kv) (hn : ∀ q ∈ s.ln, q.1 ∈ ns) (hl : s.ln.length ≤ 1000)
    (h : ∀ dv H', Same H H' → ((s.ln = [] ∧ dv = .non) ∨ ∃ (j : Nat) (q : Row), dv = .int (j : Nat) ∧ headAt s.kv s.ln = some j ∧ s.ln[j]? = some q) → Q dv H') : sphead [.ref y] H Q E :=
  ⟨F, y, D, L, s, ns, rfl, R, dic, hn, hl, fun H' e sm => h _ H' sm (.inl ⟨e, rfl⟩), fun j q H' hj hq sm => h _ H' sm (.inr ⟨j, q, rfl, hj, hq⟩)⟩
def spalike (r : Ar) : Sp := fun vs H Q _ => ∃ (F G : Addr → Prop) (x D L y D2 L2 N : Addr) (wv : List (Key × V)) (sc : Int) (s : RS) (ns : List Str), vs = [.ref x, .ref y, .ref N, .int sc] ∧ RoomAt r F H x D L wv sc s ∧ MineAt G H y D2 L2 s ∧ Dic ns s.kv ∧ Nms ns ∧ H N = some (.lst (ns.map V.str)) ∧ ns.length ≤ 6 ∧ (∀ q ∈ s.ln, q.1 ∈ ns) ∧ s.ln.length ≤ 40 ∧ ∀ H', Same H H' → Q (.bl true) H'
theorem ok_alike {P : Program} {w : World} {K : PySem.W.Frag} {mg : Str → Option Value} {base : Heap} {f : Addr} {fd : FuncData} (D : Def K mg "_law_alike" salike Palike f fd) (T : Txt K mg) {r : Ar} (KR : Kr K mg r) {fdRhead : FuncData} (GRoom_head : FnOk P w K mg base CX0 1 r.fhead fdRhead PRoom_head (spRoom_head r)) (BRoom_head : Binds K fdRhead PRoom_head []) {fdRlevel : FuncData} (GRoom_level : FnOk P w K mg base CX0 1 r.flevel fdRlevel PRoom_level (spRoom_level r)) (BRoom_level : Binds K fdRlevel PRoom_level []) {fdRscale : FuncData} (GRoom_scale : FnOk P w K mg base CX0 1 r.fscale fdRscale PRoom_scale (spRoom_scale r)) (BRoom_scale : Binds K fdRscale PRoom_scale []) {fdRwaiting : FuncData} (GRoom_waiting : FnOk P w K mg base CX0 1 r.fwaiting fdRwaiting PRoom_waiting (spRoom_waiting r)) (BRoom_waiting : Binds K fdRwaiting PRoom_waiting []) {fdRmark_of : FuncData} (GRoom_mark_of : FnOk P w K mg base CX0 4 r.fmark_of fdRmark_of PRoom_mark_of (spRoom_mark_of r)) (BRoom_mark_of : Binds K fdRmark_of PRoom_mark_of []) (Glen : FnR P w K mg base CX0 1 r.flen (spRoom_len r)) (Gbool : FnR P w K mg base CX0 1 r.fbool (spRoom_bool r)) {flike : Addr} {fdlike : FuncData} (Dlike : Def K mg "_law_like" slike Plike flike fdlike) (Glike : FnOk P w K mg base CX0 5 flike fdlike Plike (splike 5)) {fhead : Addr} {fdhead : FuncData} (Dhead : Def K mg "_law_head" shead Phead fhead fdhead) (Ghead : FnOk P w K mg base CX0 1 fhead fdhead Phead (sphead)) :
    FnOk P w K mg base CX0 6 f fd Palike (spalike r) := by
  refine D.F.ok scalike (fun vs H Q E h => ?_) (fun cdv A outer s H vs Q E hr h => ?_)
  · obtain ⟨F, G, x, D, L, y, D2, L2, N, wv, sc, s, ns, rfl, R, M, dic, nms, hN, n6, hn, l40, k⟩ := h
    rfl
  · obtain ⟨F, G, x, D, L, y, D2, L2, N, wv, sc, s, ns, rfl, R, M, dic, nms, hN, n6, hn, l40, k⟩ := h
    have hrlike : Room 5 _ := hr.mono (by decide)
    have hrhead : Room 1 _ := hr.mono (by decide)
    have hrP : Room (1 + 1) _ := hr.mono (by decide)
    have hrQ : Room (1 + 1) _ := hr.mono (by decide)
    have hrQ2 : Room (1 + 2) _ := hr.mono (by decide)
    have hrRoom_waiting : Room 1 _ := hr.mono (by decide)
    have hrRoom_mark_of : Room 4 _ := hr.mono (by decide)
    refine ⟨_, (pss_cons (ps_set (i := 4) scalike.nd rfl (Or.inl rfl) (pe_call Ghead hrhead rfl Dhead.g Dhead.F.kp Dhead.b .nil pass0 (pa_cons (pv 1) pa_nil)))
        (pss_cons (ps_set (i := 5) scalike.nd rfl (Or.inl rfl) (pe_lst (pa_cons (pe_ifExp (pt_cmpR op_isN (pv 4) pe_non (nomark _)) pe_non (pe_ix ix_list (pe_dget (hu_of hr) (pv 1) pe_str (fun _ _ => rfl)) (pv 4) (fun _ _ => rfl))) (pa_cons (pe_dget (hu_of hr) (pv 1) pe_str (fun _ _ => rfl)) (pa_cons (pv 3) (pa_cons (pe_callB call_len_seq (by rfl) T.n_len PySem.boot_len (pa_cons (pe_dget (hu_of hr) (pv 1) pe_str (fun _ _ => rfl)) pa_nil)) (pa_cons (pe_dget (hu_of hr) (pv 1) pe_str (fun _ _ => rfl)) pa_nil)))))))
        (pss_cons (ps_set (i := 6) scalike.nd rfl (Or.inl rfl) (pe_lst (pa_cons (pe_prop (pv 0) KR.cl KR.phead GRoom_head hrP BRoom_head .nil pass0 (by rfl)) (pa_cons (pe_prop (pv 0) KR.cl KR.plevel GRoom_level hrP BRoom_level .nil pass0 (by rfl)) (pa_cons (pe_prop (pv 0) KR.cl KR.pscale GRoom_scale hrP BRoom_scale .nil pass0 (by rfl)) (pa_cons (pe_callB (LD.call_lenI (n := 1) hrQ) (by rfl) T.n_len PySem.boot_len (pa_cons (pv 0) pa_nil)) (pa_cons (pe_meth0 (pv 0) KR.cl KR.mwaiting GRoom_waiting hrRoom_waiting BRoom_waiting .nil pass0) pa_nil)))))))
        (pss_cons (ps_setLc (i := 7) (own := [("_law_name", 8)]) (g := gName 8) (tt := tYes) rfl scalike.nd rfl rfl (sw_true rfl rfl rfl (by decide +kernel)) (pi_list (pv 2)) (blkOk_by (own := [("_law_name", 8)]) (N := Nmalike) (sc := defScope salike) (by decide +kernel)) (fun _ _ _ _ _ => pg_name (i := 8) scalike.nd rfl (Or.inl rfl)) (fun _ _ _ _ _ => pts_nil) (fun _ _ _ _ _ => (pe_meth (pv 0) KR.cl KR.mmark_of GRoom_mark_of hrRoom_mark_of BRoom_mark_of .nil pass0 (pa_cons (pv 8) pa_nil))))
        (pss_one (ps_ret (pe_and (pe_call Glike hrlike rfl Dlike.g Dlike.F.kp Dlike.b .nil pass0 (pa_cons (pv 6) (pa_cons (pv 5) pa_nil))) (pe_and (pe_call Glike hrlike rfl Dlike.g Dlike.F.kp Dlike.b .nil pass0 (pa_cons (pv 7) (pa_cons (pe_lc (own := [("_law_name", 8)]) (g := gName 8) (tt := tYes) rfl scalike.nd (pi_list (pv 2)) (blkOk_by (own := [("_law_name", 8)]) (N := Nmalike) (sc := defScope salike) (by decide +kernel)) (fun _ _ _ _ _ => pg_name (i := 8) scalike.nd rfl (Or.inl rfl)) (fun _ _ _ _ _ => pts_nil) (fun _ _ _ _ _ => (pe_dget (hu_of hr) (pe_dget (hu_of hr) (pv 1) pe_str (fun _ _ => rfl)) (pv 8) (fun _ _ => rfl)))) pa_nil))) (pe_one (pe_cmpR op_is_bl (pe_callTy (LD.call_boolI (n := 1) hrQ2) (by rfl) T.n_bool (by decide +kernel) (pa_cons (pv 0) pa_nil)) pe_bl (nomark _))))))))))), ?_⟩
    refine ⟨_, rfl, ?_⟩
    show tNil _ _ _
    unfold tNil
    show sphead ([V.ref y] ++ []) _ _ _
    refine head_use M dic hn (by omega) fun dv H1 s1 hdv => ?_
    obtain ⟨⟨dx, W, fs, ts, hx, rf, hW, nW, hD, hL, ln⟩, fx, fD, fL⟩ := id R
    obtain ⟨⟨mv, us, hy, mf, hD2, hL2, ln2⟩, gy, gD2, nL2, ne⟩ := id M
    have gl : ∀ {H' : Hp}, H' y = some (.dK mv) → DGet H' y (.str "line") (some (.ref L2)) := fun e => by rw [← mf.l]; exact DGet.k (k := kS "line") e
    have gm : ∀ {H' : Hp}, H' y = some (.dK mv) → DGet H' y (.str "marks") (some (.ref D2)) := fun e => by rw [← mf.m]; exact DGet.k (k := kS "marks") e
    have gv : ∀ {H' : Hp}, H' y = some (.dK mv) → DGet H' y (.str "level") (some (.int s.lv)) := fun e => by rw [← mf.v]; exact DGet.k (k := kS "level") e
    have ul : us.length = s.ln.length := ln2.length
    refine ⟨_, rfl, rfl, _, rfl, ?_⟩
    rcases hdv with ⟨e0, rfl⟩ | ⟨j, q, rfl, hj, hq⟩
    refine iteT ?_
    have hd0 : HeadV s H1 .non := .inl ⟨e0, rfl⟩
    rotate_left
    refine iteF ?_
    obtain ⟨t, ht, rt⟩ := pair_at' ln2 hq
    have ht' : (us.map V.ref)[j]? = some (V.ref t) := by rw [List.getElem?_map, ht]; rfl
    refine ⟨_, rfl, y, _, rfl, gl (s1 _ _ hy), _, rfl, _, _, _, _, rfl, rfl, SqL.of (s1 _ _ hL2), atI_nat ht', ?_⟩
    have hd0 : HeadV s H1 (.ref t) := .inr ⟨j, q, t, rfl, hj, hq, s1 _ _ rt.2⟩
    all_goals refine ⟨_, rfl, y, _, rfl, gv (s1 _ _ hy), _, rfl, _, rfl, y, _, rfl, gl (s1 _ _ hy), _, _, rfl, .inl (SqL.of (s1 _ _ hL2)), ?_⟩
    all_goals refine ⟨_, rfl, y, _, rfl, gl (s1 _ _ hy), (by show 5 ≤ sizeLine; decide), fun P hP => ?_⟩
    have s2 := s1.trans (same_new (o := .lst [.ref t, .int s.lv, .int sc, .int ((us.map V.ref).length : Nat), .ref L2]) hP)
    have eP : upd H1 P (.lst [.ref t, .int s.lv, .int sc, .int ((us.map V.ref).length : Nat), .ref L2]) P = some (.lst [.ref t, .int s.lv, .int sc, .int ((us.map V.ref).length : Nat), .ref L2]) := upd_same
    replace hd0 := hd0.same (same_new (o := .lst [.ref t, .int s.lv, .int sc, .int ((us.map V.ref).length : Nat), .ref L2]) hP)
    generalize upd H1 P (.lst [.ref t, .int s.lv, .int sc, .int ((us.map V.ref).length : Nat), .ref L2]) = H2 at s2 eP hd0 ⊢
    rotate_left
    have s2 := s1.trans (same_new (o := .lst [.non, .int s.lv, .int sc, .int ((us.map V.ref).length : Nat), .ref L2]) hP)
    have eP : upd H1 P (.lst [.non, .int s.lv, .int sc, .int ((us.map V.ref).length : Nat), .ref L2]) P = some (.lst [.non, .int s.lv, .int sc, .int ((us.map V.ref).length : Nat), .ref L2]) := upd_same
    replace hd0 := hd0.same (same_new (o := .lst [.non, .int s.lv, .int sc, .int ((us.map V.ref).length : Nat), .ref L2]) hP)
    generalize upd H1 P (.lst [.non, .int s.lv, .int sc, .int ((us.map V.ref).length : Nat), .ref L2]) = H2 at s2 eP hd0 ⊢
    all_goals obtain ⟨d0, hd0, eP⟩ : ∃ d0, HeadV s H2 d0 ∧ H2 P = some (.lst [d0, .int s.lv, .int sc, .int ((us.map V.ref).length : Nat), .ref L2]) := ⟨_, hd0, eP⟩
    all_goals refine ⟨_, rfl, x, dx, fs, rfl, s2 _ _ hx, ?_⟩
    all_goals refine rhead_use (R.same s2) dic hn (by omega) fun d1 H3 s23 hd1 => ?_
    all_goals have s3 := s2.trans s23
    all_goals refine ⟨_, rfl, x, dx, fs, rfl, s3 _ _ hx, F, x, D, L, wv, sc, s, rfl, R.same s3, ?_⟩
    all_goals refine ⟨_, rfl, x, dx, fs, rfl, s3 _ _ hx, F, x, D, L, wv, sc, s, rfl, R.same s3, ?_⟩
    all_goals refine ⟨_, rfl, x, r.c, dx, _, fs, _, rfl, s3 _ _ hx, ⟨KR.l1, KR.l2, Glen⟩, F, x, D, L, wv, sc, s, rfl, R.same s3, _, rfl, by omega, by omega, ?_⟩
    all_goals refine ⟨_, rfl, x, dx, fs, rfl, s3 _ _ hx, rf.waiting, F, x, D, L, wv, sc, s, rfl, R.same s3, fun M2 ts2 H4 hM2 s34 eM2 lns2 => ?_⟩
    all_goals have s4 := s3.trans s34
    all_goals refine ⟨(by show 5 ≤ sizeLine; decide), fun T hT => ?_⟩
    all_goals have s45 := same_new (o := .lst [d1, .int s.lv, .int sc, .int (s.ln.length : Nat), .ref M2]) hT
    all_goals have s5 := s4.trans s45
    all_goals have eT : upd H4 T (.lst [d1, .int s.lv, .int sc, .int (s.ln.length : Nat), .ref M2]) T = some (.lst [d1, .int s.lv, .int sc, .int (s.ln.length : Nat), .ref M2]) := upd_same
    all_goals replace hd1 := hd1.same (s34.trans s45)
    all_goals replace hd0 := hd0.same (s23.trans (s34.trans s45))
    all_goals replace eP := (s23.trans (s34.trans s45)) _ _ eP
    all_goals replace eM2 := s45 _ _ eM2
    all_goals replace lns2 := lns2.kp (KpF.same s45)
    all_goals generalize upd H4 T (.lst [d1, .int s.lv, .int sc, .int (s.ln.length : Nat), .ref M2]) = H5 at s5 eT hd1 hd0 eP eM2 lns2 ⊢
    all_goals have hN5 := s5 _ _ hN
    all_goals refine ⟨_, rfl, N, rfl, ⟨_, SqL.of hN5⟩, fun U hU => lc_it (walk_list (K := K) (a := N) (xs := ns.map V.str)) (fun i H' => Same H5 H' ∧ H' U = some (.lst ((ns.take i).map fun z => V.int (markOf s.kv z)))) ⟨same_new hU, upd_same⟩ (fun i H' _ ⟨sm, _⟩ => SqL.of (sm _ _ hN5)) ?_ ?_⟩
    iterate 2
      · rintro i v H6 H7 hi ⟨sm, hU6⟩ ⟨rfl, e2⟩
        rw [List.length_map] at hi
        obtain ⟨z, hz⟩ : ∃ z, ns[i]? = some z := ⟨_, List.getElem?_eq_getElem hi⟩
        rw [List.getElem?_map, hz] at e2
        cases e2
        have hzn : z ∈ ns := List.mem_of_getElem? hz
        have sa := s5.trans sm
        refine ⟨rfl, _, rfl, x, dx, fs, rfl, sa _ _ hx, rf.mark_of, _, rfl, F, x, D, L, wv, sc, s, z, _, rfl, R.same sa, nms _ hzn, (by have := (nam_ok (nms _ hzn)).2; omega), dic.2 _ hzn, fun H8 s78 => ⟨_, s78 _ _ hU6, ?_, same_upd hU (sm.trans s78), ?_⟩⟩
        · rw [List.length_map, List.length_take]
          exact Nat.lt_of_le_of_lt (Nat.min_le_right _ _) (Nat.lt_of_le_of_lt n6 (by decide))
        · rw [upd_same, List.take_add_one, hz, List.map_append]
          rfl
      · rintro H6 ⟨sm, hU6⟩
        rw [List.length_map, List.take_length] at hU6
        have s6 := s5.trans sm
        refine ⟨_, rfl, _, rfl, .ref T, .ref P, 3, rfl, by decide, lk_five (sm _ _ eT) (sm _ _ eP) ((hd1.same sm).lk (hd0.same sm)) (lk_int _) (lk_int _) (by rw [List.length_map, ul]; exact lk_int _) (lk_lines (sm _ _ eM2) (s6 _ _ hL2) (lns2.kp (KpF.same sm)) (ln2.kp (KpF.same s6)) (by omega)), fun H7 s67 => ⟨true, rfl, iteT ?_⟩⟩
        have s7 := s6.trans s67
        have hN7 := s7 _ _ hN
        refine ⟨_, rfl, _, rfl, N, rfl, ⟨_, SqL.of hN7⟩, fun U2 hU2 => lc_it (walk_list (K := K) (a := N) (xs := ns.map V.str)) (fun i H' => Same H7 H' ∧ H' U2 = some (.lst ((ns.take i).map fun z => V.int (markOf s.kv z)))) ⟨same_new hU2, upd_same⟩ (fun i H' _ ⟨sm, _⟩ => SqL.of (sm _ _ hN7)) ?_ ?_⟩
        · rintro i v H8 H9 hi ⟨sm, hU8⟩ ⟨rfl, e2⟩
          rw [List.length_map] at hi
          obtain ⟨z, hz⟩ : ∃ z, ns[i]? = some z := ⟨_, List.getElem?_eq_getElem hi⟩
          rw [List.getElem?_map, hz] at e2
          cases e2
          have hzn : z ∈ ns := List.mem_of_getElem? hz
          have sa := s7.trans sm
          refine ⟨rfl, _, rfl, y, _, rfl, gm (sa _ _ hy), _, rfl, D2, .int (markOf s.kv z), rfl, (by rw [← dic.2 _ hzn]; exact DGet.k (k := kS z) (sa _ _ hD2)), _, hU8, ?_, same_upd hU2 sm, ?_⟩
          · rw [List.length_map, List.length_take]
            exact Nat.lt_of_le_of_lt (Nat.min_le_right _ _) (Nat.lt_of_le_of_lt n6 (by decide))
          · rw [upd_same, List.take_add_one, hz, List.map_append]
            rfl
        · rintro H8 ⟨sm8, hU8⟩
          rw [List.length_map, List.take_length] at hU8
          have s8 := s7.trans sm8
          refine ⟨.ref U, .ref U2, 1, rfl, by decide, lk_ints ((s67.trans sm8) _ _ hU6) hU8 (by omega), fun H9 s89 => ⟨true, rfl, iteT ?_⟩⟩
          have s9 := s8.trans s89
          exact ⟨_, rfl, x, r.c, dx, _, fs, _, rfl, s9 _ _ hx, ⟨KR.b1, KR.b2, Gbool⟩, x, rfl, _, rfl, _, _, rfl, rfl, k _ s9⟩
end k47
namespace k47
open PySem L2 LC RM
theorem RSok.leave {ns : List Str} {s : RS} (h : RSok ns s) {rd : Int} : RSok ns (leaveS s rd) :=
  ⟨h.dic, fun p hp => h.rows p (List.mem_filter.mp hp).1, Nat.le_trans (List.length_filter_le _ _) h.l40⟩
def spdeed (r : Ar) : Sp := fun vs H Q _ => ∃ (F : Addr → Prop) (g l x D L y E L2 N Wd : Addr) (wv : List (Key × V)) (sc : Int) (s : RS) (ns : List Str), vs = [.ref g, .ref x, .ref y, .ref N, .ref Wd, .int sc] ∧ Sit F H g l N Wd wv sc ns ∧ Pr r F H g x D L y E L2 wv sc s ∧ RSok ns s ∧
  ∀ (M M2 : Addr) (s' : RS) H', (M = L ∨ H M = none) → KpF (Chg g x D L y E) H H' → Bag l H' g → Pr r (fun b => F b ∨ b = M) H' g x D M y E M2 wv sc s' → RSok ns s' → (∀ b, F b → ∃ o, H' b = some o) → Q (.bl true) H'
theorem ok_deed {P : Program} {w : World} {K : PySem.W.Frag} {mg : Str → Option Value} {base : Heap} {f : Addr} {fd : FuncData} (D : Def K mg "_law_deed" sdeed Pdeed f fd) (T : Txt K mg) {r : Ar} (KR : Kr K mg r) {fdRjoin : FuncData} (GRoom_join : FnOk P w K mg base CX0 4 r.fjoin fdRjoin PRoom_join (spRoom_join r)) (BRoom_join : Binds K fdRjoin PRoom_join []) {fdRserve : FuncData} (GRoom_serve : FnOk P w K mg base CX0 3 r.fserve fdRserve PRoom_serve (spRoom_serve r)) (BRoom_serve : Binds K fdRserve PRoom_serve []) {fdRleave : FuncData} (GRoom_leave : FnOk P w K mg base CX0 1 r.fleave fdRleave PRoom_leave (spRoom_leave r)) (BRoom_leave : Binds K fdRleave PRoom_leave []) (BjoinN : ∃ u, RelV V.non u ∧ Binds K fdRjoin PRoom_join [u]) {fdraw : Addr} {fddraw : FuncData} (Ddraw : Def K mg "_law_draw" sdraw Pdraw fdraw fddraw) (Gdraw : FnOk P w K mg base CX0 1 fdraw fddraw Pdraw (spdraw)) {fof : Addr} {fdof : FuncData} (Dof : Def K mg "_law_of" sof Pof fof fdof) (Gof : FnOk P w K mg base CX0 2 fof fdof Pof (spof K)) {flike : Addr} {fdlike : FuncData} (Dlike : Def K mg "_law_like" slike Plike flike fdlike) (Glike : FnOk P w K mg base CX0 5 flike fdlike Plike (splike 5)) {fjoin : Addr} {fdjoin : FuncData} (Djoin : Def K mg "_law_join" sjoin Pjoin fjoin fdjoin) (Gjoin : FnOk P w K mg base CX0 1 fjoin fdjoin Pjoin (spjoin)) {fserve : Addr} {fdserve : FuncData} (Dserve : Def K mg "_law_serve" sserve Pserve fserve fdserve) (Gserve : FnOk P w K mg base CX0 2 fserve fdserve Pserve (spserve)) :
    FnOk P w K mg base CX0 6 f fd Pdeed (spdeed r) := by
  refine D.F.ok scdeed (fun vs H Q E h => ?_) (fun cdv A outer s H vs Q E hr h => ?_)
  · obtain ⟨F, g, l, x, D, L, y, E', L2, N, Wd, wv, sc, s, ns, rfl, S, Pp, ok, k⟩ := h
    rfl
  · obtain ⟨F, g, l, x, D, L, y, E', L2, N, Wd, wv, sc, s, ns, rfl, S, Pp, ok, k⟩ := h
    have hrdraw : Room 1 _ := hr.mono (by decide)
    have hrof : Room 2 _ := hr.mono (by decide)
    have hrlike : Room 5 _ := hr.mono (by decide)
    have hrjoin : Room 1 _ := hr.mono (by decide)
    have hrserve : Room 2 _ := hr.mono (by decide)
    obtain ⟨uN, rN, bN⟩ := BjoinN
    have hrRoom_join : Room 4 _ := hr.mono (by decide)
    have hrRoom_serve : Room 3 _ := hr.mono (by decide)
    have hrRoom_leave : Room 1 _ := hr.mono (by decide)
    refine ⟨_, (pss_cons (ps_set (i := 6) scdeed.nd rfl (Or.inl rfl) (pe_call Gof hrof rfl Dof.g Dof.F.kp Dof.b .nil pass0 (pa_cons (pv 0) (pa_cons (pe_lst (pa_cons pe_str (pa_cons pe_str (pa_cons pe_str (pa_cons pe_str (pa_cons pe_str (pa_cons pe_str pa_nil))))))) pa_nil))))
        (pss_cons (ps_if (PW.pt (pw_and (pt_cmpR op_eq (pv 6) pe_str (nomark _)) (pw_and1 (pt_truth (pe_dget (hu_of hr) (pv 2) pe_str (fun _ _ => rfl)) (by intro _; rfl))))) (pss_one (ps_ret (pe_call Glike hrlike rfl Dlike.g Dlike.F.kp Dlike.b .nil pass0 (pa_cons (pe_meth0 (pv 1) KR.cl KR.mserve GRoom_serve hrRoom_serve BRoom_serve .nil pass0) (pa_cons (pe_call Gserve hrserve rfl Dserve.g Dserve.F.kp Dserve.b .nil pass0 (pa_cons (pv 2) (pa_cons (pv 4) (pa_cons (pv 5) pa_nil)))) pa_nil))))) pss_nil)
        (pss_cons (ps_if (pt_cmpR op_eq (pv 6) pe_str (nomark _)) (pss_cons (ps_set (i := 7) scdeed.nd rfl (Or.inr rfl) (pe_op op_sub (pe_call Gdraw hrdraw rfl Ddraw.g Ddraw.F.kp Ddraw.b .nil pass0 (pa_cons (pv 0) (pa_cons pe_int pa_nil))) pe_int))
        (pss_cons (ps_setLc (i := 8) (own := [("_law_one", 12)]) (g := gName 12) rfl scdeed.nd rfl rfl (sw_true rfl rfl rfl (by decide +kernel)) (pi_list (pe_dget (hu_of hr) (pv 2) pe_str (fun _ _ => rfl))) (blkOk_by (own := [("_law_one", 12)]) (N := Nmdeed) (sc := defScope sdeed) (by decide +kernel)) (fun _ _ _ _ _ => pg_name (i := 12) scdeed.nd rfl (Or.inl rfl)) (fun _ _ _ _ _ => pts_one (PW.pt (pw_and (pt_cmpR op_notN (pe_ix (show IxR _ (rIxT K) from ix_tup) (pv 12) pe_int (fun _ _ => rfl)) pe_non (nomark _)) (pw_and1 (pt_cmpR op_lt (pe_ix (show IxR _ (rIxT K) from ix_tup) (pv 12) pe_int (fun _ _ => rfl)) (pv 7) (nomark _)))))) (fun _ _ _ _ _ => (pe_ix (show IxR _ (rIxT K) from ix_tup) (pv 12) pe_int (fun _ _ => rfl))))
        (pss_cons (ps_dput (hu_of hr) (pv 2) pe_str (pe_lc (own := [("_law_one", 12)]) (g := gName 12) rfl scdeed.nd (pi_list (pe_dget (hu_of hr) (pv 2) pe_str (fun _ _ => rfl))) (blkOk_by (own := [("_law_one", 12)]) (N := Nmdeed) (sc := defScope sdeed) (by decide +kernel)) (fun _ _ _ _ _ => pg_name (i := 12) scdeed.nd rfl (Or.inl rfl)) (fun _ _ _ _ _ => pts_one (PW.pt (pw_or (pt_cmpR op_isN (pe_ix (show IxR _ (rIxT K) from ix_tup) (pv 12) pe_int (fun _ _ => rfl)) pe_non (nomark _)) (pw_or1 (pt_cmpR op_ge (pe_ix (show IxR _ (rIxT K) from ix_tup) (pv 12) pe_int (fun _ _ => rfl)) (pv 7) (nomark _)))))) (fun _ _ _ _ _ => (pv 12))) (by rfl))
        (pss_one (ps_ret (pe_call Glike hrlike rfl Dlike.g Dlike.F.kp Dlike.b .nil pass0 (pa_cons (pe_meth (pv 1) KR.cl KR.mleave GRoom_leave hrRoom_leave BRoom_leave .nil pass0 (pa_cons (pv 7) pa_nil)) (pa_cons (pv 8) pa_nil)))))))) pss_nil)
        (pss_cons (ps_if (pt_cmpR op_ge (pe_callB call_len_seq (by rfl) T.n_len PySem.boot_len (pa_cons (pe_dget (hu_of hr) (pv 2) pe_str (fun _ _ => rfl)) pa_nil)) pe_int (nomark _)) (pss_one (ps_ret pe_bl)) pss_nil)
        (pss_cons (ps_set (i := 9) scdeed.nd rfl (Or.inl rfl) (pe_call Gof hrof rfl Dof.g Dof.F.kp Dof.b .nil pass0 (pa_cons (pv 0) (pa_cons (pv 3) pa_nil))))
        (pss_cons (ps_set (i := 10) scdeed.nd rfl (Or.inl rfl) (pe_op op_add pe_int (pe_call Gdraw hrdraw rfl Ddraw.g Ddraw.F.kp Ddraw.b .nil pass0 (pa_cons (pv 0) (pa_cons (pe_call Gof hrof rfl Dof.g Dof.F.kp Dof.b .nil pass0 (pa_cons (pv 0) (pa_cons (pe_lst (pa_cons pe_int (pa_cons pe_int (pa_cons pe_int (pa_cons pe_int pa_nil))))) pa_nil))) pa_nil)))))
        (pss_cons (ps_set (i := 11) scdeed.nd rfl (Or.inl rfl) (pe_call Gof hrof rfl Dof.g Dof.F.kp Dof.b .nil pass0 (pa_cons (pv 0) (pa_cons (pe_lst (pa_cons pe_non (pa_cons pe_non (pa_cons (pe_call Gdraw hrdraw rfl Ddraw.g Ddraw.F.kp Ddraw.b .nil pass0 (pa_cons (pv 0) (pa_cons pe_int pa_nil))) pa_nil)))) pa_nil))))
        (pss_cons (ps_expr (pe_call Gjoin hrjoin rfl Djoin.g Djoin.F.kp Djoin.b .nil pass0 (pa_cons (pv 2) (pa_cons (pv 9) (pa_cons (pv 10) (pa_cons (pv 11) pa_nil))))))
        (pss_cons (ps_if (PW.pt (pw_and (pt_cmpR op_isN (pv 11) pe_non (nomark _)) (pw_and1 (pt_cmpR op_eq (pe_call Gdraw hrdraw rfl Ddraw.g Ddraw.F.kp Ddraw.b .nil pass0 (pa_cons (pv 0) (pa_cons pe_int pa_nil))) pe_int (nomark _))))) (pss_one (ps_ret (pe_cmpR op_isN (pe_meth (pv 1) KR.cl KR.mjoin GRoom_join hrRoom_join bN (.cons rN .nil) pass0 (pa_cons (pv 9) (pa_cons (pv 10) pa_nil))) pe_non (nomark _)))) pss_nil)
        (pss_one (ps_ret (pe_cmpR op_isN (pe_meth (pv 1) KR.cl KR.mjoin GRoom_join hrRoom_join BRoom_join .nil pass0 (pa_cons (pv 9) (pa_cons (pv 10) (pa_cons (pv 11) pa_nil)))) pe_non (nomark _))))))))))))), ?_⟩
    refine ⟨_, rfl, (by show 6 ≤ sizeLine; decide), fun p hp => ?_⟩
    refine of_disp (E := E0) (Ok.refl S.bag) hp (by decide +kernel) (by decide +kernel) fun kd H1 hkd kp1 r1 => ?_
    have S1 := S.ok r1
    have P1 := Pp.ok S.fg kp1
    have hk : kd = .str "leave" ∨ kd = .str "serve" ∨ kd = .str "join" := by
      simp only [List.mem_cons, List.not_mem_nil, or_false] at hkd
      rcases hkd with h | h | h | h | h | h
      · exact .inr (.inr h)
      · exact .inr (.inr h)
      · exact .inr (.inr h)
      · exact .inr (.inl h)
      · exact .inr (.inl h)
      · exact .inl h
    have wk1 : KpF (Chg g x D L y E') H H1 := (KpF.kp (F := fun b => b = g) rfl kp1).mono fun b e => .inl e
    clear hkd
    obtain ⟨⟨dx, W, fs, ts, hx, rf, hW, nW, hD, hL, ln⟩, fx, fD, fL⟩ := id P1.room
    obtain ⟨⟨mv, us, hy, mf, hE, hL2, ln2⟩, fy, fE, nL2, ne⟩ := id P1.mine
    have gl : ∀ {H' : Hp}, H' y = some (.dK mv) → DGet H' y (.str "line") (some (.ref L2)) := fun e => by rw [← mf.l]; exact DGet.k (k := kS "line") e
    have ul : us.length = s.ln.length := ln2.length
    have l40 := ok.l40
    have subR : ∀ b, (b = x ∨ b = D ∨ b = L) → F b := fun b z => z.elim (fun e => by rw [e]; exact fx) fun z => z.elim (fun e => by rw [e]; exact fD) fun e => by rw [e]; exact fL
    have subM : ∀ b, (b = y ∨ b = E') → F b := fun b z => z.elim (fun e => by rw [e]; exact fy) fun e => by rw [e]; exact fE
    rcases hk with rfl | rfl | rfl
    · refine ⟨_, rfl, rfl, _, rfl, ite_d (fun h => absurd (V.str.inj h) (by decide +kernel)) (fun _ => iteF ?_)⟩
      refine ⟨_, rfl, rfl, _, rfl, ite_d (fun _ => ?_) (fun h => absurd rfl h)⟩
      refine ⟨_, rfl, g, l, 24, rfl, S1.bag, by decide, by decide, fun d H2 d0 d1 r2 => ⟨_, _, rfl, rfl, ?_⟩⟩
      have S2 := S1.ok r2
      have P2 := P1.ok S.fg r2.kp
      have ny : y ≠ g := P1.yg
      have hy2 := r2.kp _ _ ny hy
      have hL22 := r2.kp _ _ (fun e => nL2 (by rw [e]; exact S.fg)) hL2
      have ln22 : Lines F H2 us s.ln := ln2.kp (KpF.kp S.fg r2.kp)
      refine ⟨_, rfl, y, _, rfl, gl hy2, L2, rfl, ⟨_, SqL.of hL22⟩, fun T hT => lc_it (walk_list (K := K) (a := L2) (xs := us.map V.ref)) (fun i H' => Same H2 H' ∧ H' T = some (.lst (namesV ((s.ln.take i).filter fun q => !stays (d - 3) q)))) ⟨same_new hT, upd_same⟩ (fun i H' _ ⟨sm, _⟩ => SqL.of (sm _ _ hL22)) ?_ ?_⟩
      · rintro i v H3 H4 hi ⟨sm, hT2⟩ ⟨rfl, e2⟩
        rw [List.length_map] at hi
        obtain ⟨t, ht⟩ : ∃ t, us[i]? = some t := ⟨_, List.getElem?_eq_getElem hi⟩
        rw [List.getElem?_map, ht] at e2
        cases e2
        obtain ⟨q, hq, nt, rq⟩ := ln22.at_ ht
        have et : (s.ln.take (i + 1)).filter (fun q => !stays (d - 3) q) = (s.ln.take i).filter (fun q => !stays (d - 3) q) ++ (if stays (d - 3) q = false then [q] else []) := by
          rw [List.take_add_one, hq, List.filter_append]
          cases e : stays (d - 3) q <;> simp [e]
        have hqr : SqT K H4 t (rowV q) := SqT.of (sm _ _ rq)
        have ln' : (namesV ((s.ln.take i).filter fun q => !stays (d - 3) q)).length < sizeLine := by
          unfold namesV
          rw [List.length_map]
          have a1 := List.length_filter_le (fun q => !stays (d - 3) q) (s.ln.take i)
          rw [List.length_take] at a1
          exact Nat.lt_of_le_of_lt (show _ ≤ 40 by omega) (by decide)
        have yes : stays (d - 3) q = false → ∃ acc, H4 T = some (.lst acc) ∧ acc.length < sizeLine ∧ Same H2 (upd H4 T (.lst (acc ++ [.str q.1]))) ∧ upd H4 T (.lst (acc ++ [.str q.1])) T = some (.lst (namesV ((s.ln.take (i + 1)).filter fun q => !stays (d - 3) q))) := fun e =>
          ⟨_, hT2, ln', same_upd hT sm, by rw [upd_same, et, if_pos e]; unfold namesV; rw [List.map_append]; rfl⟩
        have no : stays (d - 3) q = true → Same H2 H4 ∧ H4 T = some (.lst (namesV ((s.ln.take (i + 1)).filter fun q => !stays (d - 3) q))) := fun e =>
          ⟨sm, by rw [et, if_neg (by rw [e]; decide), List.append_nil]; exact hT2⟩
        obtain ⟨z, c, u⟩ := q
        cases u with
        | none => exact ⟨rfl, _, rfl, _, _, _, _, rfl, rfl, hqr, rfl, rfl, _, rfl, iteF (iteF (no rfl))⟩
        | some u =>
          refine ⟨rfl, _, rfl, _, _, _, _, rfl, rfl, hqr, rfl, rfl, _, rfl, iteT ⟨_, rfl, _, _, _, _, rfl, rfl, hqr, rfl, _, rfl, _, _, rfl, rfl, _, rfl, ?_⟩⟩
          refine ite_d (fun h => ?_) (fun h => ?_)
          · exact ⟨_, rfl, _, _, _, _, rfl, rfl, hqr, rfl, yes (decide_eq_false (by omega))⟩
          · exact no (decide_eq_true (by omega))
      rintro H3 ⟨s23, hT3⟩
      rw [List.length_map, ul, List.take_length] at hT3
      have hy3 := s23 _ _ hy2
      have hL23 := s23 _ _ hL22
      have ln23 : Lines F H3 us s.ln := ln22.kp (KpF.same s23)
      refine ⟨_, rfl, y, _, rfl, gl hy3, L2, rfl, ⟨_, SqL.of hL23⟩, fun M2 hM2 => lc_it (walk_list (K := K) (a := L2) (xs := us.map V.ref)) (fun i H' => Same H3 H' ∧ ∃ vs : List Addr, H' M2 = some (.lst (vs.map V.ref)) ∧ vs.length ≤ i ∧ Lines F H3 vs ((s.ln.take i).filter (stays (d - 3)))) ⟨same_new hM2, [], upd_same, Nat.le_refl _, .nil⟩ (fun i H' _ ⟨sm, _⟩ => SqL.of (sm _ _ hL23)) ?_ ?_⟩
      · rintro i v H4 H5 hi ⟨sm, vs, hM3, vl, vs2⟩ ⟨rfl, e2⟩
        rw [List.length_map] at hi
        obtain ⟨t, ht⟩ : ∃ t, us[i]? = some t := ⟨_, List.getElem?_eq_getElem hi⟩
        rw [List.getElem?_map, ht] at e2
        cases e2
        obtain ⟨q, hq, nt, rq⟩ := ln23.at_ ht
        have et : (s.ln.take (i + 1)).filter (stays (d - 3)) = (s.ln.take i).filter (stays (d - 3)) ++ (if stays (d - 3) q = true then [q] else []) := by
          rw [List.take_add_one, hq, List.filter_append]
          cases e : stays (d - 3) q <;> simp [e]
        have hqr : SqT K H5 t (rowV q) := SqT.of (sm _ _ rq)
        have yes : stays (d - 3) q = true → ∃ acc, H5 M2 = some (.lst acc) ∧ acc.length < sizeLine ∧ Same H3 (upd H5 M2 (.lst (acc ++ [.ref t]))) ∧ ∃ vs : List Addr, upd H5 M2 (.lst (acc ++ [.ref t])) M2 = some (.lst (vs.map V.ref)) ∧ vs.length ≤ i + 1 ∧ Lines F H3 vs ((s.ln.take (i + 1)).filter (stays (d - 3))) := fun e =>
          ⟨_, hM3, by rw [List.length_map]; exact Nat.lt_of_le_of_lt (show _ ≤ 40 by omega) (by decide), same_upd hM2 sm, vs ++ [t], by rw [upd_same, List.map_append]; rfl, by rw [List.length_append]; exact Nat.succ_le_succ vl, by rw [et, if_pos e]; exact Paired.snoc vs2 ⟨nt, rq⟩⟩
        have no : stays (d - 3) q = false → Same H3 H5 ∧ ∃ vs : List Addr, H5 M2 = some (.lst (vs.map V.ref)) ∧ vs.length ≤ i + 1 ∧ Lines F H3 vs ((s.ln.take (i + 1)).filter (stays (d - 3))) := fun e =>
          ⟨sm, vs, hM3, Nat.le_succ_of_le vl, by rw [et, if_neg (by rw [e]; decide), List.append_nil]; exact vs2⟩
        obtain ⟨z, c, u⟩ := q
        cases u with
        | none => exact ⟨rfl, _, rfl, _, _, _, _, rfl, rfl, hqr, rfl, rfl, _, rfl, iteT (iteT ⟨_, rfl, yes rfl⟩)⟩
        | some u =>
          refine ⟨rfl, _, rfl, _, _, _, _, rfl, rfl, hqr, rfl, rfl, _, rfl, iteF ⟨_, rfl, _, _, _, _, rfl, rfl, hqr, rfl, _, rfl, _, _, rfl, rfl, _, rfl, ?_⟩⟩
          refine ite_d (fun h => ?_) (fun h => ?_)
          · exact ⟨_, rfl, yes (decide_eq_true h)⟩
          · exact no (decide_eq_false h)
      rintro H4 ⟨s34, vs, hM4, vl, vs2⟩
      rw [List.length_map, ul, List.take_length] at vs2
      have hy4 := s34 _ _ hy3
      have s24 := s23.trans s34
      refine ⟨_, rfl, y, _, rfl, DPut.k (k := kS "line") hy4 (Nat.lt_of_le_of_lt mf.n (by decide)), ?_⟩
      have k25 : KpF (fun b => b = y) H2 (upd H4 y (.dK (putK mv (kS "line") (.ref M2)))) := (KpF.same s24).upd rfl
      have hM20 : H2 M2 = none := s23.free hM2
      have nF2 : ¬ F M2 := notF S2.ex hM20
      have nM2y : M2 ≠ y := fun e => nF2 (by rw [e]; exact fy)
      have nTy : T ≠ y := fun e => by rw [e, hy2] at hT; cases hT
      have hy5 : upd H4 y (.dK (putK mv (kS "line") (.ref M2))) y = some (.dK (putK mv (kS "line") (.ref M2))) := upd_same
      have hT5 : upd H4 y (.dK (putK mv (kS "line") (.ref M2))) T = some (.lst (goneV s (d - 3))) := by rw [upd_ne nTy]; exact s34 _ _ hT3
      have hM5 : upd H4 y (.dK (putK mv (kS "line") (.ref M2))) M2 = some (.lst (vs.map V.ref)) := by rw [upd_ne nM2y]; exact hM4
      have k35 : KpF F H3 (upd H4 y (.dK (putK mv (kS "line") (.ref M2)))) := (KpF.same s34).upd fy
      generalize upd H4 y (.dK (putK mv (kS "line") (.ref M2))) = H5 at k25 k35 hy5 hT5 hM5 ⊢
      have E5 : MineAt F H5 y E' M2 (leaveS s (d - 3)) := ⟨⟨_, vs, hy5, mf.line M2, k25 _ _ (Ne.symm ne) (r2.kp _ _ P1.Eg hE), hM5, vs2.kp k35⟩, fy, fE, nF2, ne⟩
      have R5 := P2.room.kp k25 (fun b e => by rw [e]; exact fy) (fun e => P1.yx e.symm) (fun e => P1.yD e.symm) (fun e => P1.yL e.symm)
      have ex5 : ∀ b, F b → ∃ o, H5 b = some o := ex_kp k25 (fun b e => by rw [e]; exact ⟨_, hy5⟩) S2.ex
      have B5 : Bag l H5 g := bag_kp S2.bag k25 (fun e => ny e.symm) (fun e => S.nl (by rw [e]; exact fy))
      have hx5 := k25 _ _ (fun e => P1.yx e.symm) (r2.kp _ _ P1.xg hx)
      refine ⟨_, rfl, x, dx, fs, rfl, hx5, rf.leave, _, rfl, F, x, D, L, wv, sc, s, d - 3, rfl, R5, l40, ex5, fun M T2 H6 hM hT2 nMT k56 R6 eT2 => ?_⟩
      have nTx : T ≠ x := fun e => by rw [e, r2.kp _ _ P1.xg hx] at hT; cases hT
      have eT6 := k56 _ _ nTx hT5
      refine ⟨_, rfl, .ref T2, .ref T, 1, rfl, by decide, lk_names eT2 eT6 (Nat.le_trans (List.length_filter_le _ _) (by omega)), fun H7 s67 => ?_⟩
      have neM : ∀ b o, H5 b = some o → b ≠ M := fun b o e z => by rw [z, hM] at e; cases e
      have E6 := (E5.wide hM).kp k56 (fun b e => .inl (by rw [e]; exact fx)) P1.yx P1.Ex
      have k15 : KpF (Chg g x D L y E') H1 H5 := ((KpF.kp (F := fun b => b = g) rfl r2.kp).mono fun b e => .inl e).trans (k25.mono fun b e => .inr (.inr (.inr (.inr (.inl e)))))
      have hM0 : H M = none := (fresh_of (wk1.trans k15) (fun b z => by
        have hgo : ∃ o, H5 g = some o := by
          obtain ⟨⟨xs, q⟩, _⟩ := B5.there
          exact ⟨_, q⟩
        rcases z with e | e | e | e | e | e
        · rw [e]; exact hgo
        · rw [e]; exact ex5 _ fx
        · rw [e]; exact ex5 _ fD
        · rw [e]; exact ex5 _ fL
        · rw [e]; exact ex5 _ fy
        · rw [e]; exact ex5 _ fE) hM).1
      have B7 : Bag l H7 g := bag_same s67 (bag_kp B5 k56 (fun e => P1.xg e.symm) (fun e => S.nl (by rw [e]; exact fx)))
      refine k M M2 _ H7 (.inr hM0) ((wk1.trans k15).trans ((k56.mono fun b e => .inr (.inl e)).trans (KpF.same s67))) B7 ⟨R6.same s67, E6.same s67, P1.xg, P1.Dg, fun e => ?_, P1.yg, P1.Eg, P1.yx, P1.yD, neM _ _ hy5, P1.Ex, P1.ED, ?_⟩ ok.leave (fun b z => by
        obtain ⟨o, q⟩ := ex_kp k56 (fun b e => by
          obtain ⟨⟨_, _, _, _, a1, _⟩, _⟩ := R6
          exact ⟨_, by rw [e]; exact a1⟩) ex5 b z
        exact ⟨o, s67 _ _ q⟩)
      · obtain ⟨⟨xs, q⟩, _⟩ := B5.there
        exact neM _ _ q e.symm
      · obtain ⟨o, q⟩ := ex5 _ fE
        exact neM _ _ q
    by_cases hne : s.ln = []
    rotate_left
    · refine ⟨_, rfl, rfl, _, rfl, ite_d (fun _ => ?_) (fun h => absurd rfl h)⟩
      have hnu : us ≠ [] := fun e => hne (List.length_eq_zero_iff.mp (by rw [← ul, e]; rfl))
      refine ⟨_, rfl, y, _, rfl, gl hy, !(us.map V.ref).isEmpty, .inl ⟨_, SqL.of hL2, rfl⟩, ?_⟩
      have eu : (!(us.map V.ref).isEmpty) = true := by cases us with | nil => exact absurd rfl hnu | cons a b => rfl
      rw [eu]
      refine iteT ?_
      refine ⟨_, rfl, x, dx, fs, rfl, hx, rf.serve, F, x, D, L, wv, sc, s, ns, rfl, P1.room, ok.dic, S.wd, S.nms, ok.rows, l40, S.sc0, S.sc1, hne, S1.ex, fun j q T1 H2 hj hq k2 R2 hT1 eT1 => ?_⟩
      have M2 := P1.mine.kp k2 subR (fun z => z.elim P1.yx fun z => z.elim P1.yD P1.yL) (fun z => z.elim P1.Ex fun z => z.elim P1.ED P1.EL)
      have ex2 : ∀ b, F b → ∃ o, H2 b = some o := ex_kp k2 (fun b z => by
        obtain ⟨⟨_, _, _, _, a1, _, _, _, a2, a3, _⟩, _⟩ := R2
        exact z.elim (fun e => by rw [e]; exact ⟨_, a1⟩) fun z => z.elim (fun e => by rw [e]; exact ⟨_, a2⟩) fun e => by rw [e]; exact ⟨_, a3⟩) S1.ex
      refine ⟨_, rfl, _, rfl, _, rfl, F, y, E', L2, Wd, wv, sc, s, ns, rfl, M2, k2 _ _ (fun z => S.nW (subR _ z)) S1.hW, S.nW, ok.dic, S.wd, ok.rows, l40, S.sc0, S.sc1, hne, ex2, fun j' q' T2 N2 H3 hj' hq' k3 hN2 R3 hT2 eT2 => ?_⟩
      rw [hj] at hj'
      cases hj'
      rw [hq] at hq'
      cases hq'
      have nT1 : ∀ b o, H1 b = some o → T1 ≠ b := fun b o e z => by rw [z, e] at hT1; cases hT1
      have eT13 := k3 _ _ (fun z => z.elim (nT1 _ _ hy) (nT1 _ _ hE)) eT1
      refine ⟨.ref T1, .ref T2, 1, rfl, by decide, lk_two eT13 eT2 (by exact True.intro) (by exact True.intro), fun H4 s4 => ?_⟩
      have k14 : KpF (Chg g x D L y E') H1 H4 := ((k2.mono fun b z => .inr (z.elim .inl fun z => .inr (z.elim .inl fun z => .inr (.inl z)))).trans (k3.mono fun b z => .inr (.inr (.inr (.inr z))))).trans (KpF.same s4)
      have R4 := (R2.kp k3 subM (fun z => z.elim (fun e => P1.yx e.symm) (fun e => P1.Ex e.symm)) (fun z => z.elim (fun e => P1.yD e.symm) (fun e => P1.ED e.symm)) (fun z => z.elim (fun e => P1.yL e.symm) (fun e => P1.EL e.symm))).same s4
      have B4 : Bag l H4 g := bag_same s4 (bag_kp (bag_kp S1.bag k2 (fun z => z.elim (fun e => P1.xg e.symm) fun z => z.elim (fun e => P1.Dg e.symm) (fun e => P1.Lg e.symm)) (fun z => S.nl (subR _ z))) k3 (fun z => z.elim (fun e => P1.yg e.symm) (fun e => P1.Eg e.symm)) (fun z => S.nl (subM _ z)))
      exact k L N2 _ H4 (.inl rfl) (wk1.trans k14) B4 (Pr.keep ⟨R4, R3.same s4, P1.xg, P1.Dg, P1.Lg, P1.yg, P1.Eg, P1.yx, P1.yD, P1.yL, P1.Ex, P1.ED, P1.EL⟩) (ok.serve hq) (fun b z => by
        obtain ⟨o, q⟩ := ex_kp k3 (fun b z => by
          obtain ⟨⟨_, _, a1, _, a2, _⟩, _⟩ := R3
          exact z.elim (fun e => by rw [e]; exact ⟨_, a1⟩) (fun e => by rw [e]; exact ⟨_, a2⟩)) ex2 b z
        exact ⟨o, s4 _ _ q⟩)
    rotate_left
    refine ⟨_, rfl, rfl, _, rfl, ite_d (fun _ => ?_) (fun h => absurd rfl h)⟩
    have eu : us = [] := List.length_eq_zero_iff.mp (by rw [ul, hne]; rfl)
    refine ⟨_, rfl, y, _, rfl, gl hy, !(us.map V.ref).isEmpty, .inl ⟨_, SqL.of hL2, rfl⟩, ?_⟩
    rw [eu]
    refine iteF ?_
    clear eu hne
    rotate_left
    refine ⟨_, rfl, rfl, _, rfl, ite_d (fun h => absurd (V.str.inj h) (by decide +kernel)) (fun _ => iteF ?_)⟩
    iterate 2
      · refine ⟨_, rfl, rfl, _, rfl, ite_d (fun h => absurd (V.str.inj h) (by decide +kernel)) (fun _ => ?_)⟩
        refine ⟨_, rfl, y, _, rfl, gl hy, _, _, rfl, .inl (SqL.of hL2), _, _, rfl, rfl, _, rfl, ite_d (fun h => ?_) (fun h => ?_)⟩
        · exact k L L2 s H1 (.inl rfl) wk1 S1.bag P1.keep ok S1.ex
        · rw [List.length_map, ul] at h
          have l39 : s.ln.length ≤ 39 := by omega
          have Ng : N ≠ g := fun e => S.nN (by rw [e]; exact S.fg)
          have n1 := S.n1
          have n6 := S.n6
          refine ⟨_, rfl, _, rfl, g, l, _, _, rfl, S1.bag, .lst (SqL.of S1.hN) Ng (by rw [List.length_map]; omega) (by rw [List.length_map]; omega), fun v H2 hv r2 => ?_⟩
          obtain ⟨z, hz, rfl⟩ : ∃ z ∈ ns, V.str z = v := List.mem_map.mp hv
          refine ⟨_, rfl, _, rfl, (by show 4 ≤ sizeLine; decide), fun p2 hp2 => ?_⟩
          refine of_disp (E := E0) (Ok.refl r2.bag) hp2 (by decide +kernel) (by decide +kernel) fun w2 H3 hw kp3 r3 => ?_
          obtain ⟨m, rfl, m0, m1⟩ : ∃ m : Int, w2 = .int m ∧ 0 < m ∧ m ≤ 1000 := by
            simp only [List.mem_cons, List.not_mem_nil, or_false] at hw
            rcases hw with h | h | h | h <;> exact ⟨_, h, by decide, by decide⟩
          refine ⟨g, l, m, rfl, r3.bag, m0, by omega, fun c H4 c0 c1 r4 => ⟨_, _, rfl, rfl, ?_⟩⟩
          refine ⟨_, rfl, _, rfl, g, l, 24, rfl, r4.bag, by decide, by decide, fun d H5 d0 d1 r5 => ⟨(by show 3 ≤ sizeLine; decide), fun p3 hp3 => ?_⟩⟩
          refine of_disp (E := E0) (Ok.refl r5.bag) hp3 (by show 0 < 3; decide) (by show 3 ≤ 1000000; decide) fun u H6 hu kp6 r6 => ?_
          obtain ⟨o, rfl⟩ : ∃ o : Option Int, u = uV o := by
            simp only [List.mem_cons, List.not_mem_nil, or_false] at hu
            rcases hu with h | h | h
            · exact ⟨none, h⟩
            · exact ⟨none, h⟩
            · exact ⟨some d, h⟩
          have rr := r2.trans (r3.trans (r4.trans (r5.trans r6)))
          have S6 := S1.ok rr
          have P6 := P1.ok S.fg rr.kp
          refine ⟨_, rfl, _, rfl, _, rfl, _, rfl, F, y, E', L2, s, ns, z, 1 + c, o, rfl, P6.mine, ok.dic, hz, l39, S6.ex, fun M H7 hM k7 R7 => ?_⟩
          have P7 := P6.room.kp k7 subM (fun z => z.elim (fun e => P1.yx e.symm) (fun e => P1.Ex e.symm)) (fun z => z.elim (fun e => P1.yD e.symm) (fun e => P1.ED e.symm)) (fun z => z.elim (fun e => P1.yL e.symm) (fun e => P1.EL e.symm))
          have B7 : Bag l H7 g := bag_kp S6.bag k7 (fun z => z.elim (fun e => P1.yg e.symm) (fun e => P1.Eg e.symm)) (fun z => S.nl (subM _ z))
          have ex7 : ∀ b, F b → ∃ o, H7 b = some o := ex_kp k7 (fun b z => by
            obtain ⟨⟨_, _, a1, _, a2, _⟩, _⟩ := R7
            exact z.elim (fun e => by rw [e]; exact ⟨_, a1⟩) (fun e => by rw [e]; exact ⟨_, a2⟩)) S6.ex
          have pre : ∀ H8, Kp g H7 H8 → Bag l H8 g → RoomAt r F H8 x D L wv sc s ∧ ∀ b, F b → ∃ o, H8 b = some o := fun H8 k8 B8 => ⟨P7.kp (G := fun b => b = g) (KpF.kp rfl k8) (fun b e => by rw [e]; exact S.fg) (fun e => P1.xg e) (fun e => P1.Dg e) (fun e => P1.Lg e), ex_kp (G := fun b => b = g) (KpF.kp rfl k8) (fun b e => by rw [e]; obtain ⟨⟨xs, q⟩, _⟩ := B8.there; exact ⟨_, q⟩) ex7⟩
          have fin : ∀ H8 H9, Kp g H7 H8 → Bag l H8 g → KpF (fun b => b = D ∨ b = L) H8 H9 → RoomAt r F H9 x D L wv sc (joinS s z (1 + c) o) → Q (.bl true) H9 := fun H8 H9 k8 B8 k9 R9 => by
            have E8 := (R7.kp (G := fun b => b = g) (KpF.kp rfl k8) (fun b e => by rw [e]; exact S.fg) P1.yg P1.Eg).kp k9 (fun b z => subR b (.inr z)) (fun z => z.elim P1.yD P1.yL) (fun z => z.elim P1.ED P1.EL)
            have B9 := bag_kp B8 k9 (fun z => z.elim (fun e => P1.Dg e.symm) (fun e => P1.Lg e.symm)) (fun z => S.nl (subR _ (.inr z)))
            refine k L M _ H9 (.inl rfl) (wk1.trans ?_) B9 (Pr.keep ⟨R9, E8, P1.xg, P1.Dg, P1.Lg, P1.yg, P1.Eg, P1.yx, P1.yD, P1.yL, P1.Ex, P1.ED, P1.EL⟩) (ok.join hz (by omega) (by omega) l39) (ex_kp k9 (fun b z => by
              obtain ⟨⟨_, _, _, _, _, _, _, _, a2, a3, _⟩, _⟩ := R9
              exact z.elim (fun e => by rw [e]; exact ⟨_, a2⟩) (fun e => by rw [e]; exact ⟨_, a3⟩)) (ex_kp (G := fun b => b = g) (KpF.kp rfl k8) (fun b e => by rw [e]; obtain ⟨⟨xs, q⟩, _⟩ := B8.there; exact ⟨_, q⟩) ex7))
            exact ((((KpF.kp (F := fun b => b = g) rfl rr.kp).mono fun b e => .inl e).trans (k7.mono fun b e => .inr (.inr (.inr (.inr e))))).trans ((KpF.kp (F := fun b => b = g) rfl k8).mono fun b e => .inl e)).trans (k9.mono fun b e => .inr (.inr (e.elim .inl fun e => .inr (.inl e))))
          have hnam := S.nms z hz
          have hlen : z.length ≤ 1000000 := by
            have := (nam_ok hnam).2
            omega
          have full : ∀ H8, Kp g H7 H8 → Bag l H8 g → ∀ Q' : VK, (∀ H9, Q (.bl true) H9 → Q' .non H9) → spRoom_join r [.ref x, .str z, .int (1 + c), uV o] H8 Q' E0 := fun H8 k8 B8 Q' hq => by
            obtain ⟨R8, ex8⟩ := pre H8 k8 B8
            exact ⟨F, x, D, L, wv, sc, s, ns, z, 1 + c, o, rfl, R8, ok.dic, hz, hnam, hlen, by omega, by omega, l39, ex8, fun H9 k9 R9 => hq H9 (fin H8 H9 k8 B8 k9 R9)⟩
          have hx7 : ∀ H8, Kp g H7 H8 → H8 x = some (.ins r.c dx fs) := fun H8 k8 => k8 _ _ P1.xg (k7 _ _ (fun z => z.elim (fun e => P1.yx e.symm) (fun e => P1.Ex e.symm)) (rr.kp _ _ P1.xg hx))
          cases o with
          | none =>
            refine ⟨_, rfl, rfl, _, rfl, iteT ?_⟩
            refine ⟨_, rfl, g, l, 2, rfl, B7, by decide, by decide, fun d2 H8 _ _ r8 => ⟨rfl, _, rfl, ?_⟩⟩
            refine ite_d (fun _ => ?_) (fun _ => ?_)
            · refine ⟨_, rfl, x, dx, fs, rfl, hx7 _ r8.kp, rf.join, _, rfl, _, rfl, ?_⟩
              show tNil _ _ _
              unfold tNil
              show spRoom_join r [V.ref x, V.str z, V.int (1 + c), uV none] H8 _ _
              exact full H8 r8.kp r8.bag _ (fun H9 q => ⟨rfl, q⟩)
            · refine ⟨_, rfl, x, dx, fs, rfl, hx7 _ r8.kp, rf.join, _, rfl, _, rfl, _, rfl, ?_⟩
              show tNil _ _ _
              unfold tNil
              show spRoom_join r [V.ref x, V.str z, V.int (1 + c), uV none] H8 _ _
              exact full H8 r8.kp r8.bag _ (fun H9 q => ⟨rfl, q⟩)
          | some o =>
            refine ⟨_, rfl, rfl, _, rfl, iteF (iteF ?_)⟩
            · refine ⟨_, rfl, x, dx, fs, rfl, hx7 _ (Kp.refl g H7), rf.join, _, rfl, _, rfl, _, rfl, ?_⟩
              show tNil _ _ _
              unfold tNil
              show spRoom_join r [V.ref x, V.str z, V.int (1 + c), uV (some o)] H7 _ _
              exact full H7 (Kp.refl g H7) B7 _ (fun H9 q => ⟨rfl, q⟩)
end k47
namespace k47
open PySem L2 LC RM
def splaw (K : PySem.W.Frag) : Sp := fun vs H Q _ => ∃ (a : Addr) (ns : List Int), vs = [.ref a] ∧ SqL K H a (ns.map V.int) ∧ ns.length ≤ 63 ∧ ∀ H', Q (.bl true) H'
theorem ok_law {P : Program} {w : World} {K : PySem.W.Frag} {mg : Str → Option Value} {base : Heap} {f : Addr} {fd : FuncData} (D : Def K mg "law" slaw Plaw f fd) (T : Txt K mg) {r : Ar} (KR : Kr K mg r) (IRoom : FnR P w K mg base CX0 2 r.i (spRoom_init r)) {fdRcopy : FuncData} (GRoom_copy : FnOk P w K mg base CX0 4 r.fcopy fdRcopy PRoom_copy (spRoom_copy r)) (BRoom_copy : Binds K fdRcopy PRoom_copy []) {fdRwaiting : FuncData} (GRoom_waiting : FnOk P w K mg base CX0 1 r.fwaiting fdRwaiting PRoom_waiting (spRoom_waiting r)) (BRoom_waiting : Binds K fdRwaiting PRoom_waiting []) {fbag : Addr} {fdbag : FuncData} (Dbag : Def K mg "_law_bag" sbag Pbag fbag fdbag) (Gbag : FnOk P w K mg base CX0 1 fbag fdbag Pbag (spbag K)) {fdraw : Addr} {fddraw : FuncData} (Ddraw : Def K mg "_law_draw" sdraw Pdraw fdraw fddraw) (Gdraw : FnOk P w K mg base CX0 1 fdraw fddraw Pdraw (spdraw)) {fof : Addr} {fdof : FuncData} (Dof : Def K mg "_law_of" sof Pof fof fdof) (Gof : FnOk P w K mg base CX0 2 fof fdof Pof (spof K)) {fnames : Addr} {fdnames : FuncData} (Dnames : Def K mg "_law_names" snames Pnames fnames fdnames) (Gnames : FnOk P w K mg base CX0 3 fnames fdnames Pnames (spnames)) {fscale : Addr} {fdscale : FuncData} (Dscale : Def K mg "_law_scale" sscale Pscale fscale fdscale) (Gscale : FnOk P w K mg base CX0 1 fscale fdscale Pscale (spscale)) {falike : Addr} {fdalike : FuncData} (Dalike : Def K mg "_law_alike" salike Palike falike fdalike) (Galike : FnOk P w K mg base CX0 6 falike fdalike Palike (spalike r)) {fdeed : Addr} {fddeed : FuncData} (Ddeed : Def K mg "_law_deed" sdeed Pdeed fdeed fddeed) (Gdeed : FnOk P w K mg base CX0 6 fdeed fddeed Pdeed (spdeed r)) :
    FnOk P w K mg base CX0 7 f fd Plaw (splaw K) := by
  refine D.F.ok sclaw (fun vs H Q E h => ?_) (fun cdv A outer s H vs Q E hr h => ?_)
  · obtain ⟨sc, ms, rfl, hS, hl, k⟩ := h
    rfl
  · obtain ⟨sc, ms, rfl, hS, hl, k⟩ := h
    have hrbag : Room 1 _ := hr.mono (by decide)
    have hrdraw : Room 1 _ := hr.mono (by decide)
    have hrof : Room 2 _ := hr.mono (by decide)
    have hrnames : Room 3 _ := hr.mono (by decide)
    have hrscale : Room 1 _ := hr.mono (by decide)
    have hralike : Room 6 _ := hr.mono (by decide)
    have hrdeed : Room 6 _ := hr.mono (by decide)
    have hrI : Room 3 _ := hr.mono (by decide)
    have hrRoom_copy : Room 4 _ := hr.mono (by decide)
    have hrRoom_waiting : Room 1 _ := hr.mono (by decide)
    refine ⟨_, (pss_cons (ps_set (i := 1) sclaw.nd rfl (Or.inl rfl) (pe_call Gbag hrbag rfl Dbag.g Dbag.F.kp Dbag.b .nil pass0 (pa_cons (pv 0) pa_nil)))
        (pss_cons (ps_set (i := 2) sclaw.nd rfl (Or.inr rfl) (pe_call Gnames hrnames rfl Dnames.g Dnames.F.kp Dnames.b .nil pass0 (pa_cons (pv 1) (pa_cons (pe_op op_add pe_int (pe_call Gdraw hrdraw rfl Ddraw.g Ddraw.F.kp Ddraw.b .nil pass0 (pa_cons (pv 1) (pa_cons pe_int pa_nil)))) pa_nil))))
        (pss_cons (ps_set (i := 3) sclaw.nd rfl (Or.inl rfl) pe_dnewK)
        (pss_cons (ps_set (i := 4) sclaw.nd rfl (Or.inl rfl) pe_dnewK)
        (pss_cons (ps_for PassesOwn.never rfl (pi_list (pv 2)) (pg_name (i := 5) sclaw.nd rfl (Or.inl rfl))
          (pss_cons (ps_dput (hu_of hr) (pv 3) (pv 5) (pe_op op_add pe_int (pe_call Gdraw hrdraw rfl Ddraw.g Ddraw.F.kp Ddraw.b .nil pass0 (pa_cons (pv 1) (pa_cons pe_int pa_nil)))) (by rfl))
        (pss_one (ps_dput (hu_of hr) (pv 4) (pv 5) pe_int (by rfl)))))
        (pss_cons (ps_set (i := 6) sclaw.nd rfl (Or.inr rfl) (pe_call Gscale hrscale rfl Dscale.g Dscale.F.kp Dscale.b .nil pass0 (pa_cons (LD.pe_listVals rfl (by rfl) T.n_list (pv 3)) pa_nil)))
        (pss_cons (ps_set (i := 7) sclaw.nd rfl (Or.inl rfl) (pe_callTy call_dictD (by rfl) T.n_dict (by decide +kernel) (pa_cons (pv 3) pa_nil)))
        (pss_cons (ps_set (i := 8) sclaw.nd rfl (Or.inl rfl) (StX.pe_makeR KR.m IRoom hrI rfl KR.g pass0 (pa_cons (pv 7) pa_nil)))
        (pss_cons (ps_expr (pe_dclear (pv 7)))
        (pss_cons (ps_set (i := 9) sclaw.nd rfl (Or.inl rfl) (pe_disp (pps_cons pe_str (pe_lst pa_nil) (pps_cons pe_str (pv 4) (pps_cons pe_str pe_int pps_nil))) (by rfl) (by rfl) (fun z => by cases z) (by decide)))
        (pss_cons (ps_set (i := 10) sclaw.nd rfl (Or.inl rfl) (pe_lst (pa_cons (pe_tup (pa_cons (pv 8) (pa_cons (pv 9) pa_nil))) pa_nil)))
        (pss_cons (ps_if (pt_not (pt_val (pe_call Galike hralike rfl Dalike.g Dalike.F.kp Dalike.b .nil pass0 (pa_cons (pv 8) (pa_cons (pv 9) (pa_cons (pv 2) (pa_cons (pv 6) pa_nil))))))) (pss_one (ps_ret pe_bl)) pss_nil)
        (pss_cons (ps_for PassesOwn.never rfl (pi_range1 rfl T.n_range (pa_cons (pe_op op_add pe_int (pe_call Gdraw hrdraw rfl Ddraw.g Ddraw.F.kp Ddraw.b .nil pass0 (pa_cons (pv 1) (pa_cons pe_int pa_nil)))) pa_nil)) (pg_name (i := 11) sclaw.nd rfl (Or.inl rfl))
          (pss_cons (ps_asg (pe_call Gof hrof rfl Dof.g Dof.F.kp Dof.b .nil pass0 (pa_cons (pv 1) (pa_cons (pv 10) pa_nil))) (pg_tup rfl (pgs_cons (pg_name (i := 8) sclaw.nd rfl (Or.inl rfl)) (pgs_cons (pg_name (i := 9) sclaw.nd rfl (Or.inl rfl)) pgs_nil))))
        (pss_cons (ps_if (pt_not (pt_val (pe_call Gdeed hrdeed rfl Ddeed.g Ddeed.F.kp Ddeed.b .nil pass0 (pa_cons (pv 1) (pa_cons (pv 8) (pa_cons (pv 9) (pa_cons (pv 2) (pa_cons (pv 3) (pa_cons (pv 6) pa_nil))))))))) (pss_one (ps_ret pe_bl)) pss_nil)
        (Evl.pss_cut (ps_if (PW.pt (pw_and (pt_cmpR op_eq (pe_callB call_len_seq (by rfl) T.n_len PySem.boot_len (pa_cons (pv 10) pa_nil)) pe_int (nomark _)) (pw_and1 (pt_cmpR op_eq (pe_call Gdraw hrdraw rfl Ddraw.g Ddraw.F.kp Ddraw.b .nil pass0 (pa_cons (pv 1) (pa_cons pe_int pa_nil))) pe_int (nomark _))))) (pss_cons (ps_set (i := 12) sclaw.nd rfl (Or.inl rfl) (pe_callTy call_dictD (by rfl) T.n_dict (by decide +kernel) (pa_cons (pv 9) pa_nil)))
        (pss_cons (ps_dput (hu_of hr) (pv 12) pe_str (pe_callTy call_dictD (by rfl) T.n_dict (by decide +kernel) (pa_cons (pe_dget (hu_of hr) (pv 9) pe_str (fun _ _ => rfl)) pa_nil)) (by rfl))
        (pss_one (ps_expr (pe_bm PySem.F.plainAttrs_list PySem.F.slot_list_append PySem.F.type_list_append mt_append (pv 10) (pa_cons (pe_tup (pa_cons (pe_meth0 (pv 8) KR.cl KR.mcopy GRoom_copy hrRoom_copy BRoom_copy .nil pass0) (pa_cons (pv 12) pa_nil))) pa_nil)))))) pss_nil)
        (pss_cons (ps_set (i := 13) sclaw.nd rfl (Or.inl rfl) (pe_meth0 (pv 8) KR.cl KR.mwaiting GRoom_waiting hrRoom_waiting BRoom_waiting .nil pass0))
        (pss_cons (ps_expr (pe_bm PySem.F.plainAttrs_list PySem.F.slot_list_append PySem.F.type_list_append mt_append (pv 13) (pa_cons (pe_tup (pa_cons pe_str (pa_cons pe_int (pa_cons pe_non pa_nil)))) pa_nil)))
        (pss_one (ps_if (pt_not (pt_val (pe_callB (cr_all rfl) (by rfl) T.n_all (by decide +kernel) (pa_cons (pe_lc (own := [("_law_one", 14), ("_law_other", 15)]) (g := gTup _ 2 (gCons (gName 14) (gCons (gName 15) gNil))) (tt := tYes) rfl sclaw.nd (pi_list (pv 10)) (blkOk_by (own := [("_law_one", 14), ("_law_other", 15)]) (N := Nmlaw) (sc := defScope slaw) (by decide +kernel)) (fun _ _ _ _ _ => by exact (pg_tup rfl (pgs_cons (pg_name (i := 14) sclaw.nd rfl (Or.inl rfl)) (pgs_cons (pg_name (i := 15) sclaw.nd rfl (Or.inl rfl)) pgs_nil)))) (fun _ _ _ _ _ => pts_nil) (fun _ _ _ _ _ => (pe_call Galike hralike rfl Dalike.g Dalike.F.kp Dalike.b .nil pass0 (pa_cons (pv 14) (pa_cons (pv 15) (pa_cons (pv 2) (pa_cons (pv 6) pa_nil))))))) pa_nil)))) (pss_one (ps_ret pe_bl)) pss_nil))))))))
        (pss_one (ps_ret pe_bl))))))))))))))), ?_⟩
    refine ⟨_, rfl, sc, ms, rfl, hS, hl, fun g H1 ng s1 ⟨l, B⟩ => ?_⟩
    refine ⟨_, rfl, _, rfl, g, l, 6, rfl, B, by decide, by decide, fun d H2 d0 d1 r2 => ⟨_, _, rfl, rfl, ?_⟩⟩
    obtain ⟨n, rfl⟩ : ∃ n : Nat, d = (n : Int) := ⟨d.toNat, by omega⟩
    refine ⟨g, l, 1 + n, rfl, r2.bag, by omega, by omega, fun N ns H3 hN r3 eN len good => ?_⟩
    have Ng : N ≠ g := (r2.bag.ne hN).1
    refine fun W hW => ?_
    have nWN : W ≠ N := fun e => by rw [e, eN] at hW; cases hW
    have sW := same_new (o := .dK []) hW
    have r4 := (Ok.refl r3.bag).new (o := .dK []) hW
    have eN4 := sW _ _ eN
    have eW4 : upd H3 W (.dK []) W = some (.dK []) := upd_same
    have Wg : W ≠ g := (r3.bag.ne hW).1
    generalize upd H3 W (.dK []) = H4 at sW r4 eN4 eW4 ⊢
    refine fun Mk hMk => ?_
    have sM := same_new (o := .dK []) hMk
    have r5 := (Ok.refl r4.bag).new (o := .dK []) hMk
    have eN5 := sM _ _ eN4
    have eW5 := sM _ _ eW4
    have eM5 : upd H4 Mk (.dK []) Mk = some (.dK []) := upd_same
    have Mg : Mk ≠ g := (r4.bag.ne hMk).1
    have nMW : Mk ≠ W := fun e => by rw [e, eW4] at hMk; cases hMk
    have nMN : Mk ≠ N := fun e => by rw [e, eN4] at hMk; cases hMk
    generalize upd H4 Mk (.dK []) = H5 at sM r5 eN5 eW5 eM5 ⊢
    have B5 := r5.bag
    have nWl : W ≠ l := (r3.bag.ne hW).2
    have nMl : Mk ≠ l := (r4.bag.ne hMk).2
    have n6 : ns.length ≤ 6 := by omega
    have wz : ∀ (wv : List (Key × V)) (z : Str) (c : Int), 1 ≤ c → c ≤ 12 → (∃ w : Int, valV (putK wv (kS z) (.int c)) (kS z) = some (.int w) ∧ 1 ≤ w ∧ w ≤ 12) := fun wv z c c0 c1 => ⟨c, by rw [valV_put, if_pos rfl], c0, c1⟩
    refine ⟨_, rfl, N, rfl, ⟨_, SqL.of eN5⟩, for_it (walk_list (K := K) (a := N) (xs := ns.map V.str)) (fun i σ H' => ∃ (wv : List (Key × V)) (v5 : Option V), σ = [some (.ref sc), some (.ref g), some (.ref N), some (.ref W), some (.ref Mk), v5, none, none, none, none, none, none, none, none, none, none] ∧ Bag l H' g ∧ H' N = some (.lst (ns.map V.str)) ∧ H' W = some (.dK wv) ∧ H' Mk = some (.dK (zeroK wv)) ∧ WK wv ∧ wv.length ≤ i ∧ ∀ z ∈ ns.take i, (∃ w : Int, valV wv (kS z) = some (.int w) ∧ 1 ≤ w ∧ w ≤ 12) ∧ valV (zeroK wv) (kS z) = some (.int 0)) ⟨[], none, rfl, B5, eN5, eW5, eM5, ⟨fun p h => (by cases h), List.nodup_nil⟩, Nat.le_refl _, fun z h => (by cases h)⟩ (fun i σ H' _ ⟨_, _, _, _, e, _⟩ => SqL.of e) ?_ ?_⟩
    · rintro i v σ H6 H7 hi ⟨wv, v5, rfl, B6, hN6, hW6, hM6, wk, wl, wd⟩ ⟨rfl, e2⟩
      rw [List.length_map] at hi
      obtain ⟨z, hz⟩ : ∃ z, ns[i]? = some z := ⟨_, List.getElem?_eq_getElem hi⟩
      rw [List.getElem?_map, hz] at e2
      cases e2
      refine ⟨_, rfl, g, l, 12, rfl, B6, by decide, by decide, fun d H8 d0 d1 r8 => ⟨_, _, rfl, rfl, ?_⟩⟩
      have hN8 := r8.kp _ _ Ng hN6
      have hW8 := r8.kp _ _ Wg hW6
      have hM8 := r8.kp _ _ Mg hM6
      refine ⟨_, rfl, _, rfl, W, _, rfl, DPut.k (k := kS z) hW8 (Nat.lt_of_le_of_lt wl (Nat.lt_of_lt_of_le (show i < 6 by omega) (by decide))), ?_⟩
      refine ⟨_, rfl, _, rfl, Mk, _, rfl, DPut.k (k := kS z) (by rw [upd_ne nMW]; exact hM8) (by unfold zeroK; rw [List.length_map]; exact Nat.lt_of_le_of_lt wl (Nat.lt_of_lt_of_le (show i < 6 by omega) (by decide))), ?_⟩
      obtain ⟨wk', wl'⟩ := wk.put (k := kS z) (c := 1 + d) (by omega) (by omega)
      refine ⟨putK wv (kS z) (.int (1 + d)), _, rfl, ?_, ?_, ?_, ?_, wk', by omega, fun y hy => ?_⟩
      · exact (r8.bag.mut Wg nWl).mut Mg nMl
      · rw [upd_ne (Ne.symm nMN), upd_ne (Ne.symm nWN)]
        exact hN8
      · rw [upd_ne (Ne.symm nMW)]
        exact upd_same
      · rw [upd_same, zero_put]
      · rw [zero_put]
        by_cases e : y = z
        · subst e
          exact ⟨wz _ _ _ (by omega) (by omega), by rw [valV_put, if_pos rfl]⟩
        · have ne : ¬ kS y = kS z := fun h => e (Sum.inr.inj h)
          rw [valV_put, if_neg ne, valV_put, if_neg ne]
          rw [List.take_add_one, hz] at hy
          rcases List.mem_append.mp hy with h | h
          · exact wd y h
          · exact absurd (List.mem_singleton.mp h) e
    rintro σ H6 ⟨wv, v5, rfl, B6, hN6, hW6, hM6, wk, wl, wd⟩
    rw [List.length_map] at wl wd
    rw [List.take_length] at wd
    obtain ⟨ws, ews, w12⟩ := ws_of wk.v
    have wok : WOk wv ws := ⟨by omega, ews, w12, wk.nd⟩
    have wdic : WDic ns wv := ⟨⟨by omega, fun z hz => by
      obtain ⟨⟨w, e, _⟩, _⟩ := wd z hz
      rw [mark_of e]
      exact e⟩, fun z hz => by
      obtain ⟨⟨w, e, b⟩, _⟩ := wd z hz
      rw [mark_of e]
      exact b⟩
    have zdic : Dic ns (zeroK wv) := ⟨by unfold zeroK; rw [List.length_map]; omega, fun z hz => by
      have e := (wd z hz).2
      rw [mark_of e]
      exact e⟩
    refine ⟨_, rfl, W, wv, rfl, hW6, fun p hp => ⟨p, ws, rfl, by rw [upd_same, ews], w12, fun H8 s8 => ?_⟩⟩
    have s68 := (same_new (o := .lst (wv.map (·.2))) hp).trans s8
    have B8 := bag_same s68 B6
    have hN8 := s68 _ _ hN6
    have hW8 := s68 _ _ hW6
    have hM8 := s68 _ _ hM6
    refine ⟨_, rfl, W, wv, rfl, .inl hW8, fun Gv hGv => ?_⟩
    have s89 := same_new (o := .dK wv) hGv
    have eG9 : upd H8 Gv (.dK wv) Gv = some (.dK wv) := upd_same
    generalize upd H8 Gv (.dK wv) = H9 at s89 eG9 ⊢
    refine ⟨_, rfl, fun x dx hx hdx nx => ⟨(fun b => b = g ∨ b = Mk ∨ b = Gv), x, dx, Gv, wv, ws, H9, rfl, upd_same, hx, same_two hx hdx, ?_, same_two hx hdx _ _ eG9, wok, fun D L H10 s10 bD bL nxD R10 => ⟨rfl, ?_⟩⟩⟩
    · rintro b (e | e | e)
      · obtain ⟨⟨xs, q⟩, _⟩ := (bag_same s89 B8).there
        exact ⟨_, by rw [e]; exact q⟩
      · exact ⟨_, by rw [e]; exact s89 _ _ hM8⟩
      · exact ⟨_, by rw [e]; exact eG9⟩
    have eG10 := s10 _ _ eG9
    refine ⟨_, rfl, .inr (.inr (.inl ⟨rfl, .inl ⟨_, eG10⟩⟩)), Gv, wv, rfl, rfl, eG10, ?_⟩
    have k11 : KpF (fun b => b = Gv) H10 (upd H10 Gv (.dK [])) := (KpF.refl _ _).upd rfl
    have eG11 : upd H10 Gv (.dK []) Gv = some (.dK []) := upd_same
    have fr9 : ∀ b o, H9 b = some o → b ≠ x ∧ b ≠ D ∧ b ≠ L := fun b o e => ⟨fun z => (by rw [z, hx] at e; cases e), fun z => (by rw [z, bD] at e; cases e), fun z => (by rw [z, bL] at e; cases e)⟩
    obtain ⟨nGx, nGD, nGL⟩ := fr9 _ _ eG9
    have R11 := R10.kp k11 (fun b e => .inl (.inr (.inr e))) (Ne.symm nGx) (Ne.symm nGD) (Ne.symm nGL)
    have k9 : KpF (fun b => b = Gv) H9 (upd H10 Gv (.dK [])) := (KpF.same s10).trans k11
    generalize upd H10 Gv (.dK []) = H11 at k11 eG11 R11 k9 ⊢
    refine fun y hy => ?_
    have sy := same_new (o := .dK []) hy
    refine ⟨(by show 0 ≤ sizeLine; decide), fun L2 hL2 => ⟨_, rfl, ?_⟩⟩
    have s12 : Same H11 (upd (upd (upd H11 y (.dK [])) L2 (.lst [])) y (.dK (mergeK [] [(kS "line", .ref L2), (kS "marks", .ref Mk), (kS "level", .int 0)]))) := same_upd hy (sy.trans (same_new hL2))
    have nLy : L2 ≠ y := fun e => by rw [e, upd_same] at hL2; cases hL2
    have hL20 : H11 L2 = none := sy.free hL2
    have eL12 : upd (upd (upd H11 y (.dK [])) L2 (.lst [])) y (.dK (mergeK [] [(kS "line", .ref L2), (kS "marks", .ref Mk), (kS "level", .int 0)])) L2 = some (.lst []) := by rw [upd_ne nLy]; exact upd_same
    have ey12 : upd (upd (upd H11 y (.dK [])) L2 (.lst [])) y (.dK (mergeK [] [(kS "line", .ref L2), (kS "marks", .ref Mk), (kS "level", .int 0)])) y = some (.dK (putK (putK (putK [] (kS "line") (.ref L2)) (kS "marks") (.ref Mk)) (kS "level") (.int 0))) := upd_same
    refine ⟨by rw [upd_ne (Ne.symm nLy)]; exact upd_same, [(kS "line", .ref L2), (kS "marks", .ref Mk), (kS "level", .int 0)], rfl, (by show 3 ≤ 15; decide), ?_⟩
    generalize upd (upd (upd H11 y (.dK [])) L2 (.lst [])) y (.dK (mergeK [] [(kS "line", .ref L2), (kS "marks", .ref Mk), (kS "level", .int 0)])) = H12 at s12 eL12 ey12 ⊢
    have gH8 : ∃ o, H8 g = some o := by
      obtain ⟨⟨xs, q⟩, _⟩ := B8.there
      exact ⟨_, q⟩
    have to11 : ∀ b o, H9 b = some o → b ≠ Gv → H11 b = some o := fun b o e n => k9 _ _ n e
    have gG : ∀ b o, H8 b = some o → b ≠ Gv := fun b o e z => by rw [z, hGv] at e; cases e
    have to12 : ∀ b o, H8 b = some o → H12 b = some o := fun b o e => s12 _ _ (to11 _ _ (s89 _ _ e) (gG _ _ e))
    refine ⟨_, rfl, _, rfl, (by show 2 ≤ sizeLine; decide), fun T hT => ⟨(by show 1 ≤ sizeLine; decide), fun PL hPL => ?_⟩⟩
    have s13 := same_new (o := .tup [.ref x, .ref y]) hT
    have eT13 : upd H12 T (.tup [.ref x, .ref y]) T = some (.tup [.ref x, .ref y]) := upd_same
    generalize upd H12 T (.tup [.ref x, .ref y]) = H13 at s13 eT13 hPL ⊢
    have s14 := same_new (o := .lst [.ref T]) hPL
    have eP14 : upd H13 PL (.lst [.ref T]) PL = some (.lst [.ref T]) := upd_same
    generalize upd H13 PL (.lst [.ref T]) = H14 at s14 eP14 ⊢
    have to14 : ∀ b o, H8 b = some o → H14 b = some o := fun b o e => s14 _ _ (s13 _ _ (to12 _ _ e))
    obtain ⟨F, eF⟩ : ∃ F : Addr → Prop, F = fun b => ((((b = g ∨ b = Mk ∨ b = Gv) ∨ b = x ∨ b = D ∨ b = L) ∨ b = y) ∨ b = PL) := ⟨_, rfl⟩
    have notIn : ∀ b o, H8 b = some o → b ≠ g → b ≠ Mk → ¬ F b := fun b o e n1 n2 z => by
      rw [eF] at z
      have e9 := s89 _ _ e
      obtain ⟨n3, n4, n5⟩ := fr9 _ _ e9
      have e11 := to11 _ _ e9 (gG _ _ e)
      have e13 := s13 _ _ (to12 _ _ e)
      rcases z with ((z | z) | z) | z
      · exact z.elim n1 fun z => z.elim n2 (gG _ _ e)
      · exact z.elim n3 fun z => z.elim n4 n5
      · rw [z, hy] at e11
        cases e11
      · rw [z, hPL] at e13
        cases e13
    have E12 : MineAt (fun b => ((b = g ∨ b = Mk ∨ b = Gv) ∨ b = x ∨ b = D ∨ b = L) ∨ b = y) H12 y Mk L2 ⟨zeroK wv, 0, []⟩ := by
      refine ⟨⟨_, [], ey12, MF.new L2 Mk, to12 _ _ hM8, eL12, .nil⟩, .inr rfl, .inl (.inl (.inr (.inl rfl))), ?_, fun e => ?_⟩
      · have al : ∀ b o, H11 b = some o → L2 ≠ b := fun b o e z => by rw [z, e] at hL20; cases hL20
        obtain ⟨⟨_, _, _, _, q1, _, _, _, q2, q3, _⟩, _⟩ := R11
        obtain ⟨og, qg⟩ := gH8
        rintro (((z | z | z) | z | z | z) | z)
        · exact al _ _ (to11 _ _ (s89 _ _ qg) (gG _ _ qg)) z
        · exact al _ _ (to11 _ _ (s89 _ _ hM8) (gG _ _ hM8)) z
        · exact al _ _ eG11 z
        · exact al _ _ q1 z
        · exact al _ _ q2 z
        · exact al _ _ q3 z
        · exact nLy z
      · have := to11 _ _ (s89 _ _ hM8) (gG _ _ hM8)
        rw [← e, hy] at this
        cases this
    have P14 : Pr r F H14 g x D L y Mk L2 wv (lcmL ws) ⟨zeroK wv, 0, []⟩ := by
      obtain ⟨og, qg⟩ := gH8
      obtain ⟨g1, g2, g3⟩ := fr9 _ _ (s89 _ _ qg)
      obtain ⟨m1, m2, m3⟩ := fr9 _ _ (s89 _ _ hM8)
      have ny : ∀ b o, H11 b = some o → y ≠ b := fun b o e z => by rw [z, e] at hy; cases hy
      obtain ⟨⟨_, _, _, _, q1, _, _, _, q2, q3, _⟩, _⟩ := id R11
      rw [eF]
      exact ⟨((((R11.add (Z := fun b => b = y) (fun b e => by rw [e]; exact hy)).same s12).same s13).add (Z := fun b => b = PL) (fun b e => by rw [e]; exact hPL)).same s14, ((E12.same s13).add (Z := fun b => b = PL) (fun b e => by rw [e]; exact hPL)).same s14, Ne.symm g1, Ne.symm g2, Ne.symm g3, ny _ _ (to11 _ _ (s89 _ _ qg) (gG _ _ qg)), Mg, ny _ _ q1, ny _ _ q2, ny _ _ q3, m1, m2, m3⟩
    have B14 : Bag l H14 g := by
      obtain ⟨ns', i', d', s', c', h1, h2, h3, rr⟩ := B8
      exact ⟨ns', i', d', s', c', to14 _ _ h1, h2, to14 _ _ h3, rr⟩
    have lg : l ≠ g := by
      obtain ⟨_, _, _, _, _, _, h2, _⟩ := B8
      exact h2
    have rs0 : RSok ns ⟨zeroK wv, 0, []⟩ := ⟨zdic, (fun q h => by cases h), (by show 0 ≤ 40; decide)⟩
    obtain ⟨lc0, lc1⟩ := lcm_le w12 ws.length
    rw [List.take_length] at lc0 lc1
    have S14 : St r F H14 g l N W wv (lcmL ws) ns PL [T] (fun _ => ⟨x, D, L, y, Mk, L2, ⟨zeroK wv, 0, []⟩⟩) := by
      refine ⟨⟨B14, by rw [eF]; exact .inl (.inl (.inl (.inl rfl))), ?_, ?_, to14 _ _ hN8, notIn _ _ hN8 Ng (Ne.symm nMN), to14 _ _ hW8, notIn _ _ hW8 Wg (Ne.symm nMW), fun z hz => (good z hz).1, n6, by omega, wdic, lc0, lc1⟩, eP14, by rw [eF]; exact .inr rfl, ?_, fun t ht => ?_, fun t ht u hu htu => ?_, ⟨Nat.le_refl _, (by show 1 ≤ 2; decide)⟩⟩
      · obtain ⟨_, ⟨xs, q⟩⟩ := B8.there
        exact notIn _ _ q lg (Ne.symm nMl)
      · intro b z
        rw [eF] at z
        obtain ⟨og, qg⟩ := gH8
        obtain ⟨⟨_, _, _, _, q1, _, _, _, q2, q3, _⟩, _⟩ := id P14.room
        rcases z with (((z | z | z) | z | z | z) | z) | z
        · exact ⟨_, by rw [z]; exact to14 _ _ qg⟩
        · exact ⟨_, by rw [z]; exact to14 _ _ hM8⟩
        · exact ⟨_, by rw [z]; exact s14 _ _ (s13 _ _ (s12 _ _ eG11))⟩
        · exact ⟨_, by rw [z]; exact q1⟩
        · exact ⟨_, by rw [z]; exact q2⟩
        · exact ⟨_, by rw [z]; exact q3⟩
        · exact ⟨_, by rw [z]; exact s14 _ _ (s13 _ _ ey12)⟩
        · exact ⟨_, by rw [z]; exact eP14⟩
      · obtain ⟨og, qg⟩ := gH8
        intro e
        rw [e, s13 _ _ (to12 _ _ qg)] at hPL
        cases hPL
      · rw [List.mem_singleton.mp ht]
        have nT : ∀ b o, H12 b = some o → T ≠ b := fun b o e z => by rw [z, e] at hT; cases hT
        have nPL : ∀ b o, H13 b = some o → b ≠ PL := fun b o e z => by rw [z, hPL] at e; cases e
        obtain ⟨og, qg⟩ := gH8
        obtain ⟨⟨_, _, _, _, q1, _, _, _, q2, q3, _⟩, _⟩ := id R11
        refine ⟨P14, rs0, s14 _ _ eT13, fun z => ?_, ?_⟩
        · rw [eF] at z
          rcases z with (((z | z | z) | z | z | z) | z) | z
          · exact nT _ _ (to12 _ _ qg) z
          · exact nT _ _ (to12 _ _ hM8) z
          · exact nT _ _ (s12 _ _ eG11) z
          · exact nT _ _ (s12 _ _ q1) z
          · exact nT _ _ (s12 _ _ q2) z
          · exact nT _ _ (s12 _ _ q3) z
          · exact nT _ _ ey12 z
          · exact nPL _ _ eT13 z
        · rintro (z | z | z | z | z)
          · exact nPL _ _ (s13 _ _ (s12 _ _ q1)) z.symm
          · exact nPL _ _ (s13 _ _ (s12 _ _ q2)) z.symm
          · exact nPL _ _ (s13 _ _ (s12 _ _ q3)) z.symm
          · exact nPL _ _ (s13 _ _ ey12) z.symm
          · exact nPL _ _ (s13 _ _ (to12 _ _ hM8)) z.symm
      · exact absurd ((List.mem_singleton.mp ht).trans (List.mem_singleton.mp hu).symm) htu
    refine ⟨_, rfl, _, rfl, _, rfl, _, rfl, F, F, x, D, L, y, Mk, L2, N, wv, lcmL ws, _, ns, rfl, P14.room, P14.mine, zdic, S14.sit.nms, S14.sit.hN, n6, (fun q h => by cases h), (by show 0 ≤ 40; decide), fun H15 s15 => ⟨true, rfl, iteF ?_⟩⟩
    have S15 := S14.same s15
    refine ⟨_, rfl, g, l, 29, rfl, S15.sit.bag, by decide, by decide, fun d H16 d0 d1 r16 => ⟨_, _, rfl, rfl, _, rfl, by omega, by omega, for_it (walk_range (lo := 0) (n := (24 + d).toNat)) (fun i σ H' => ∃ (F : Addr → Prop) (tps : List Addr) (f : Addr → Pd) (v5 v8 v9 v11 v12 v13 : Option V), σ = [some (.ref sc), some (.ref g), some (.ref N), some (.ref W), some (.ref Mk), v5, some (.int (lcmL ws)), some (.ref Gv), v8, v9, some (.ref PL), v11, v12, v13, none, none] ∧ St r F H' g l N W wv (lcmL ws) ns PL tps f) ⟨F, [T], _, v5, some (.ref x), some (.ref y), none, none, none, rfl, S15.ok r16⟩ (fun _ _ _ _ _ => True.intro) ?_ (fun σ H' ⟨_, _, _, _, _, _, _, _, _, e, _⟩ => by rw [e]; exact k _)⟩⟩
    rintro i xi σ H17 H18 hi ⟨F1, tps, f, v5, v8, v9, v11, v12, v13, rfl, S⟩ ⟨rfl, rfl⟩
    have tl1 := S.len.1
    have tl2 := S.len.2
    refine ⟨_, rfl, _, rfl, g, l, _, _, rfl, S.sit.bag, .lst (SqL.of S.pl) S.ne (by rw [List.length_map]; omega) (by rw [List.length_map]; omega), fun u H19 hu r19 => ?_⟩
    obtain ⟨t, ht, rfl⟩ : ∃ t ∈ tps, V.ref t = u := List.mem_map.mp hu
    have S19 := S.ok r19
    obtain ⟨P, okS, hT0, nT0, oP0⟩ := S19.prs t ht
    refine ⟨t, _, rfl, SqT.of hT0, rfl, _, _, rfl, _, _, rfl, rfl, ?_⟩
    refine ⟨_, rfl, _, rfl, _, rfl, _, rfl, _, rfl, _, rfl, F1, g, l, _, _, _, _, _, _, N, W, wv, lcmL ws, _, ns, rfl, S19.sit, P, okS, fun M M2 s' H20 hM k20 B20 P20 ok20 ex20 => ⟨true, rfl, iteF ?_⟩⟩
    obtain ⟨F2, f2, S20, e8, e9⟩ : ∃ F2 f2, St r F2 H20 g l N W wv (lcmL ws) ns PL tps f2 ∧ (f2 t).x = (f t).x ∧ (f2 t).y = (f t).y := ⟨_, _, S19.deed ht hM k20 B20 P20 ok20 ex20, by show (if t = t then _ else _ : Pd).x = _; rw [if_pos rfl], by show (if t = t then _ else _ : Pd).y = _; rw [if_pos rfl]⟩
    rw [← e8, ← e9]
    clear P20 ok20 ex20 k20 hM
    refine ⟨fun σ H' => ∃ (F3 : Addr → Prop) (tps3 : List Addr) (f3 : Addr → Pd) (v5 v11 v12 v13 : Option V), t ∈ tps3 ∧ σ = [some (.ref sc), some (.ref g), some (.ref N), some (.ref W), some (.ref Mk), v5, some (.int (lcmL ws)), some (.ref Gv), some (.ref (f3 t).x), some (.ref (f3 t).y), some (.ref PL), v11, v12, v13, none, none] ∧ St r F3 H' g l N W wv (lcmL ws) ns PL tps3 f3, ?_, ?_⟩
    · refine ⟨_, rfl, _, _, rfl, .inl (SqL.of S20.pl), rfl, _, rfl, ite_d (fun h1 => ?_) (fun _ => iteF ⟨F2, tps, f2, _, _, _, _, ht, rfl, S20⟩)⟩
      refine ⟨_, rfl, g, l, 12, rfl, S20.sit.bag, by decide, by decide, fun d2 H21 _ _ r21 => ⟨rfl, _, rfl, ite_d (fun _ => ?_) (fun _ => ⟨F2, tps, f2, _, _, _, _, ht, rfl, S20.ok r21⟩)⟩⟩
      have l1 : tps.length = 1 := by
        have q := V.int.inj h1
        rw [List.length_map] at q
        omega
      have S21 := S20.ok r21
      obtain ⟨P1, ok1, hT1, nT1, oP1⟩ := S21.prs t ht
      obtain ⟨⟨mv, us, hy1, mf, hE1, hL1, ln⟩, fy, fE, nL, ne⟩ := id P1.mine
      refine ⟨_, rfl, _, mv, rfl, .inl hy1, fun Tw hTw => ?_⟩
      have s22 := same_new (o := .dK mv) hTw
      have eT22 : upd H21 Tw (.dK mv) Tw = some (.dK mv) := upd_same
      have S22 := S21.wide (Z := fun b => b = Tw) (fun b e => by rw [e]; exact hTw) s22 (fun b e => by rw [e]; exact ⟨_, eT22⟩)
      generalize upd H21 Tw (.dK mv) = H22 at s22 eT22 S22 ⊢
      refine ⟨_, rfl, _, _, rfl, (by rw [← mf.m]; exact DGet.k (k := kS "marks") (s22 _ _ hy1)), _, _, rfl, .inl (s22 _ _ hE1), fun Ed hEd => ?_⟩
      have s23 := same_new (o := .dK (f2 t).s.kv) hEd
      have eE23 : upd H22 Ed (.dK (f2 t).s.kv) Ed = some (.dK (f2 t).s.kv) := upd_same
      have S23 := S22.wide (Z := fun b => b = Ed) (fun b e => by rw [e]; exact hEd) s23 (fun b e => by rw [e]; exact ⟨_, eE23⟩)
      have nTE : Tw ≠ Ed := fun e => by rw [← e, eT22] at hEd; cases hEd
      have eT23 := s23 _ _ eT22
      generalize upd H22 Ed (.dK (f2 t).s.kv) = H23 at s23 eE23 S23 eT23 ⊢
      refine ⟨_, rfl, Tw, _, rfl, DPut.k (k := kS "marks") eT23 (Nat.lt_of_le_of_lt mf.n (by decide)), ?_⟩
      have k24 : KpF (fun b => b = Tw) H23 (upd H23 Tw (.dK (putK mv (kS "marks") (.ref Ed)))) := (KpF.refl _ _).upd rfl
      have eT24 : upd H23 Tw (.dK (putK mv (kS "marks") (.ref Ed))) Tw = some (.dK (putK mv (kS "marks") (.ref Ed))) := upd_same
      generalize upd H23 Tw (.dK (putK mv (kS "marks") (.ref Ed))) = H24 at k24 eT24 ⊢
      have s2123 := s22.trans s23
      have fr : ∀ b o, H21 b = some o → b ≠ Tw := fun b o e z => by rw [z, hTw] at e; cases e
      have al24 : ∀ b, b = Tw → ∃ o, H24 b = some o := fun b e => by rw [e]; exact ⟨_, eT24⟩
      have B24 : Bag l H24 g := by
        obtain ⟨⟨xs, q⟩, ⟨ys, q2⟩⟩ := S21.sit.bag.there
        exact bag_kp S23.sit.bag k24 (fr _ _ q) (fr _ _ q2)
      have S24 := S23.kp (G := fun b => b = Tw) k24 (fun b e => .inl (.inr e)) al24 B24 (fr _ _ S21.pl) (fun u hu b e z => by
        obtain ⟨o, q⟩ := S21.sit.ex b ((S21.prs u hu).1.sub z)
        exact fr _ _ q e)
      obtain ⟨P4, ok4, hT4, nT4, oP4⟩ := S24.prs t ht
      obtain ⟨⟨dx4, W4, fs4, ts4, hx4, rf4, hW4, nW4, hD4, hL4, ln4⟩, fx4, fD4, fL4⟩ := id P4.room
      refine ⟨_, rfl, .inl ⟨rfl, _, SqL.of S24.pl⟩, ?_⟩
      refine ⟨_, rfl, _, dx4, fs4, rfl, hx4, rf4.copy, _, _, _, _, wv, ws, _, rfl, P4.room, wok, S24.sit.ex, ok4.l40, fun y3 D3 L3 H25 hy3 hD3 hL3 s25 R25 => ?_⟩
      have S25 := S24.wide (Z := fun b => b = y3 ∨ b = D3 ∨ b = L3) (fun b z => z.elim (fun e => by rw [e]; exact hy3) fun z => z.elim (fun e => by rw [e]; exact hD3) fun e => by rw [e]; exact hL3) s25 (fun b z => by
        obtain ⟨⟨_, _, _, _, q1, _, _, _, q2, q3, _⟩, _⟩ := id R25
        exact z.elim (fun e => by rw [e]; exact ⟨_, q1⟩) fun z => z.elim (fun e => by rw [e]; exact ⟨_, q2⟩) fun e => by rw [e]; exact ⟨_, q3⟩)
      refine ⟨_, rfl, (by show 2 ≤ sizeLine; decide), fun T2 hT2 => ?_⟩
      have s26 := same_new (o := .tup [.ref y3, .ref Tw]) hT2
      have eT26 : upd H25 T2 (.tup [.ref y3, .ref Tw]) T2 = some (.tup [.ref y3, .ref Tw]) := upd_same
      generalize upd H25 T2 (.tup [.ref y3, .ref Tw]) = H26 at s26 eT26 ⊢
      have S26 := S25.same s26
      have P6 := (S26.prs t ht).1
      obtain ⟨⟨mv6, us6, hy6, mf6, hE6, hL6, ln6⟩, fy6, fE6, nL6, ne6⟩ := id P6.mine
      have fresh24 : ∀ b, H24 b = none → H21 b = none := fun b h => s2123.free (fresh_of k24 al24 h).1
      have s2426 := s25.trans s26
      have E6 : MineAt _ H26 Tw Ed (f2 t).M (f2 t).s := ⟨⟨_, us6, s2426 _ _ eT24, mf.marks Ed, s2426 _ _ (k24 _ _ (Ne.symm nTE) eE23), hL6, ln6⟩, .inl (.inl (.inr rfl)), .inl (.inr rfl), nL6, nTE⟩
      have neB : ∀ b o c, H24 b = some o → H24 c = none → b ≠ c := fun b o c e h z => by rw [z, h] at e; cases e
      have eE24 := k24 _ _ (Ne.symm nTE) eE23
      have fr2 : ∀ b o, H21 b = some o → b ≠ Ed := fun b o e z => by
        have q := s22 _ _ e
        rw [z, hEd] at q
        cases q
      have to24 : ∀ b o, H21 b = some o → ∃ o', H24 b = some o' := fun b o e => ⟨_, k24 _ _ (fr _ _ e) (s2123 _ _ e)⟩
      have apart : ∀ b o, H21 b = some o → ¬ Own ⟨y3, D3, L3, Tw, Ed, (f2 t).M, (f2 t).s⟩ b := fun b o e z => by
        obtain ⟨o', e'⟩ := to24 _ _ e
        rcases z with z | z | z | z | z
        · exact neB _ _ _ e' hy3 z
        · exact neB _ _ _ e' hD3 z
        · exact neB _ _ _ e' hL3 z
        · exact fr _ _ e z
        · exact fr2 _ _ e z
      obtain ⟨og, qg⟩ : ∃ o, H21 g = some o := by
        obtain ⟨⟨xs, q⟩, _⟩ := S21.sit.bag.there
        exact ⟨_, q⟩
      have nog := apart _ _ qg
      have T2n : T2 ∉ tps := fun h => by
        have q := (S25.prs T2 h).2.2.1
        rw [hT2] at q
        cases q
      have S27 := S26.push l1 (T := T2) (p := ⟨y3, D3, L3, Tw, Ed, (f2 t).M, (f2 t).s⟩) eT26 (fun z => by
        obtain ⟨o, q⟩ := S25.sit.ex T2 z
        rw [hT2] at q
        cases q) T2n ⟨R25.same s26, E6, fun e => nog (.inl e.symm), fun e => nog (.inr (.inl e.symm)), fun e => nog (.inr (.inr (.inl e.symm))), fun e => nog (.inr (.inr (.inr (.inl e.symm)))), fun e => nog (.inr (.inr (.inr (.inr e.symm)))), neB _ _ _ eT24 hy3, neB _ _ _ eT24 hD3, neB _ _ _ eT24 hL3, neB _ _ _ eE24 hy3, neB _ _ _ eE24 hD3, neB _ _ _ eE24 hL3⟩ ok4 (apart _ _ S21.pl) (fun u hu b z => by
        obtain ⟨o, q⟩ := S21.sit.ex b ((S21.prs u hu).1.sub z)
        exact apart _ _ q)
      have nt2 : t ≠ T2 := fun e => T2n (by rw [← e]; exact ht)
      refine ⟨PL, _, _, rfl, rfl, S26.pl, (by rw [List.length_map, l1]; decide), _, _, _, v5, some (.int (0 + (i : Nat))), some (.ref Tw), v13, List.mem_append_left _ ht, ?_, S27⟩
      show _ = [some (.ref sc), some (.ref g), some (.ref N), some (.ref W), some (.ref Mk), v5, some (.int (lcmL ws)), some (.ref Gv), some (.ref (if t = T2 then _ else f2 t : Pd).x), some (.ref (if t = T2 then _ else f2 t : Pd).y), some (.ref PL), some (.int (0 + (i : Nat))), some (.ref Tw), v13, none, none]
      rw [if_neg nt2]
      rfl
    rintro σ H28 ⟨F3, tps3, f3, v5, v11, v12, v13, ht3, rfl, S3⟩
    obtain ⟨P3, ok3, hT3, nT3, oP3⟩ := S3.prs t ht3
    obtain ⟨⟨dx3, W3, fs3, ts3, hx3, rf3, hW3, nW3, hD3, hL3, ln3⟩, fx3, fD3, fL3⟩ := id P3.room
    refine ⟨_, rfl, _, dx3, fs3, rfl, hx3, rf3.waiting, F3, _, _, _, wv, lcmL ws, _, rfl, P3.room, fun M3 ts5 H29 hM3 s29 eM3 ln5 => ?_⟩
    refine ⟨_, rfl, .inl ⟨rfl, _, SqL.of eM3⟩, (by show 3 ≤ sizeLine; decide), fun Q3 hQ3 => ?_⟩
    have s30 := s29.trans (same_new (o := .tup [.str "Q", .int 1, .non]) hQ3)
    refine ⟨M3, _, _, rfl, rfl, same_new hQ3 _ _ eM3, ?_, ?_⟩
    · have := ok3.l40
      have e5 := ln5.length
      rw [List.length_map]
      exact Nat.lt_of_le_of_lt (show ts5.length ≤ 40 by omega) (by decide)
    have s31 := same_upd (o := .lst (ts5.map V.ref ++ [.ref Q3])) hM3 s30
    have S30 := S3.same s31
    generalize upd (upd H29 Q3 (.tup [.str "Q", .int 1, .non])) M3 (.lst (ts5.map V.ref ++ [.ref Q3])) = H30 at S30 ⊢
    refine ⟨_, rfl, PL, rfl, ⟨_, SqL.of S30.pl⟩, fun D9 hD9 => lc_it (walk_list (K := K) (a := PL) (xs := tps3.map V.ref)) (fun j H' => Same H30 H' ∧ H' D9 = some (.lst ((List.replicate j true).map V.bl))) ⟨same_new hD9, upd_same⟩ (fun j H' _ ⟨sm, _⟩ => SqL.of (sm _ _ S30.pl)) ?_ ?_⟩
    · rintro j v H31 H32 hj ⟨sm, hA⟩ ⟨rfl, e2⟩
      rw [List.length_map] at hj
      obtain ⟨t4, ht4⟩ : ∃ t4, tps3[j]? = some t4 := ⟨_, List.getElem?_eq_getElem hj⟩
      rw [List.getElem?_map, ht4] at e2
      cases e2
      have S32 := S30.same sm
      obtain ⟨P5, ok5, hT5, nT5, oP5⟩ := S32.prs t4 (List.mem_of_getElem? ht4)
      have l3 := S30.len.2
      refine ⟨_, _, rfl, SqT.of hT5, rfl, _, _, rfl, _, _, rfl, rfl, rfl, ?_⟩
      refine ⟨_, rfl, _, rfl, _, rfl, _, rfl, F3, F3, _, _, _, _, _, _, N, wv, lcmL ws, _, ns, rfl, P5.room, P5.mine, ok5.dic, S32.sit.nms, S32.sit.hN, n6, (fun q hq => (ok5.rows q hq).1), ok5.l40, fun H33 s33 => ⟨_, s33 _ _ hA, ?_, same_upd hD9 (sm.trans s33), ?_⟩⟩
      · rw [List.length_map, List.length_replicate]
        exact Nat.lt_of_lt_of_le (show j < 2 by omega) (by decide)
      · rw [upd_same, List.replicate_succ', List.map_append]
        rfl
    · rintro H31 ⟨sm, hA⟩
      refine ⟨D9, List.replicate (tps3.map V.ref).length true, rfl, SqL.of hA, ?_⟩
      have ea : (List.replicate (tps3.map V.ref).length true).all id = true := by simp
      rw [ea]
      exact ⟨true, rfl, iteF ⟨F3, tps3, f3, _, _, _, _, _, _, rfl, S30.same sm⟩⟩
end k47
namespace k47
open PySem L2 LC RM
theorem all_mk {l : PySem.W.OpenLaw} {w : World} {K : PySem.W.Frag} {h : Heap} {mg : Str → Option Value} {fa : Addr} (X : K.In h) (G : h.Ns mainGlobals mg) (hfa : mg "law" = some (.ref fa))
    {fcheck_count : Addr} {odcheck_count ancheck_count : Option Addr} {slcheck_count : Array (Option Value)} {occheck_count kVcheck_count dccheck_count pmcheck_count cdcheck_count ctcheck_count : Value}
    (acheck_count : PySem.W.nsIn K mainGlobals "check_count" = some (some (.ref fcheck_count)))
    (lcheck_count : K.lookup fcheck_count = some ⟨occheck_count, odcheck_count, .func (PySem.W.fnOf "check_count" "check_count" (defArgs scheck_count) (defBody scheck_count) (defScope scheck_count) .none kVcheck_count dccheck_count pmcheck_count ancheck_count cdcheck_count ctcheck_count), slcheck_count⟩)
    (ccheck_count : PySem.W.codeIn K cdcheck_count "check_count" = true)
    (kcheck_count : PySem.W.keepIn K (.ref fcheck_count) = true)
    {fis_whole : Addr} {odis_whole anis_whole : Option Addr} {slis_whole : Array (Option Value)} {ocis_whole kVis_whole dcis_whole pmis_whole cdis_whole ctis_whole : Value}
    (ais_whole : PySem.W.nsIn K mainGlobals "is_whole" = some (some (.ref fis_whole)))
    (lis_whole : K.lookup fis_whole = some ⟨ocis_whole, odis_whole, .func (PySem.W.fnOf "is_whole" "is_whole" (defArgs sis_whole) (defBody sis_whole) (defScope sis_whole) .none kVis_whole dcis_whole pmis_whole anis_whole cdis_whole ctis_whole), slis_whole⟩)
    (cis_whole : PySem.W.codeIn K cdis_whole "is_whole" = true)
    (kis_whole : PySem.W.keepIn K (.ref fis_whole) = true)
    {fis_number : Addr} {odis_number anis_number : Option Addr} {slis_number : Array (Option Value)} {ocis_number kVis_number dcis_number pmis_number cdis_number ctis_number : Value}
    (ais_number : PySem.W.nsIn K mainGlobals "is_number" = some (some (.ref fis_number)))
    (lis_number : K.lookup fis_number = some ⟨ocis_number, odis_number, .func (PySem.W.fnOf "is_number" "is_number" (defArgs sis_number) (defBody sis_number) (defScope sis_number) .none kVis_number dcis_number pmis_number anis_number cdis_number ctis_number), slis_number⟩)
    (cis_number : PySem.W.codeIn K cdis_number "is_number" = true)
    (kis_number : PySem.W.keepIn K (.ref fis_number) = true)
    {fis_name : Addr} {odis_name anis_name : Option Addr} {slis_name : Array (Option Value)} {ocis_name kVis_name dcis_name pmis_name cdis_name ctis_name : Value}
    (ais_name : PySem.W.nsIn K mainGlobals "is_name" = some (some (.ref fis_name)))
    (lis_name : K.lookup fis_name = some ⟨ocis_name, odis_name, .func (PySem.W.fnOf "is_name" "is_name" (defArgs sis_name) (defBody sis_name) (defScope sis_name) .none kVis_name dcis_name pmis_name anis_name cdis_name ctis_name), slis_name⟩)
    (cis_name : PySem.W.codeIn K cdis_name "is_name" = true)
    (kis_name : PySem.W.keepIn K (.ref fis_name) = true)
    {fhas_name : Addr} {odhas_name anhas_name : Option Addr} {slhas_name : Array (Option Value)} {ochas_name kVhas_name dchas_name pmhas_name cdhas_name cthas_name : Value}
    (ahas_name : PySem.W.nsIn K mainGlobals "has_name" = some (some (.ref fhas_name)))
    (lhas_name : K.lookup fhas_name = some ⟨ochas_name, odhas_name, .func (PySem.W.fnOf "has_name" "has_name" (defArgs shas_name) (defBody shas_name) (defScope shas_name) .none kVhas_name dchas_name pmhas_name anhas_name cdhas_name cthas_name), slhas_name⟩)
    (chas_name : PySem.W.codeIn K cdhas_name "has_name" = true)
    (khas_name : PySem.W.keepIn K (.ref fhas_name) = true)
    {flook_up : Addr} {odlook_up anlook_up : Option Addr} {sllook_up : Array (Option Value)} {oclook_up kVlook_up dclook_up pmlook_up cdlook_up ctlook_up : Value}
    (alook_up : PySem.W.nsIn K mainGlobals "look_up" = some (some (.ref flook_up)))
    (llook_up : K.lookup flook_up = some ⟨oclook_up, odlook_up, .func (PySem.W.fnOf "look_up" "look_up" (defArgs slook_up) (defBody slook_up) (defScope slook_up) .none kVlook_up dclook_up pmlook_up anlook_up cdlook_up ctlook_up), sllook_up⟩)
    (clook_up : PySem.W.codeIn K cdlook_up "look_up" = true)
    (klook_up : PySem.W.keepIn K (.ref flook_up) = true)
    {fleast_multiple : Addr} {odleast_multiple anleast_multiple : Option Addr} {slleast_multiple : Array (Option Value)} {ocleast_multiple kVleast_multiple dcleast_multiple pmleast_multiple cdleast_multiple ctleast_multiple : Value}
    (aleast_multiple : PySem.W.nsIn K mainGlobals "least_multiple" = some (some (.ref fleast_multiple)))
    (lleast_multiple : K.lookup fleast_multiple = some ⟨ocleast_multiple, odleast_multiple, .func (PySem.W.fnOf "least_multiple" "least_multiple" (defArgs sleast_multiple) (defBody sleast_multiple) (defScope sleast_multiple) .none kVleast_multiple dcleast_multiple pmleast_multiple anleast_multiple cdleast_multiple ctleast_multiple), slleast_multiple⟩)
    (cleast_multiple : PySem.W.codeIn K cdleast_multiple "least_multiple" = true)
    (kleast_multiple : PySem.W.keepIn K (.ref fleast_multiple) = true)
    {fcheck_cost : Addr} {odcheck_cost ancheck_cost : Option Addr} {slcheck_cost : Array (Option Value)} {occheck_cost kVcheck_cost dccheck_cost pmcheck_cost cdcheck_cost ctcheck_cost : Value}
    (acheck_cost : PySem.W.nsIn K mainGlobals "check_cost" = some (some (.ref fcheck_cost)))
    (lcheck_cost : K.lookup fcheck_cost = some ⟨occheck_cost, odcheck_cost, .func (PySem.W.fnOf "check_cost" "check_cost" (defArgs scheck_cost) (defBody scheck_cost) (defScope scheck_cost) .none kVcheck_cost dccheck_cost pmcheck_cost ancheck_cost cdcheck_cost ctcheck_cost), slcheck_cost⟩)
    (ccheck_cost : PySem.W.codeIn K cdcheck_cost "check_cost" = true)
    (kcheck_cost : PySem.W.keepIn K (.ref fcheck_cost) = true)
    {fbag : Addr} {odbag anbag : Option Addr} {slbag : Array (Option Value)} {ocbag kVbag dcbag pmbag cdbag ctbag : Value}
    (abag : PySem.W.nsIn K mainGlobals "_law_bag" = some (some (.ref fbag)))
    (lbag : K.lookup fbag = some ⟨ocbag, odbag, .func (PySem.W.fnOf "_law_bag" "_law_bag" (defArgs sbag) (defBody sbag) (defScope sbag) .none kVbag dcbag pmbag anbag cdbag ctbag), slbag⟩)
    (cbag : PySem.W.codeIn K cdbag "_law_bag" = true)
    (kbag : PySem.W.keepIn K (.ref fbag) = true)
    {fdraw : Addr} {oddraw andraw : Option Addr} {sldraw : Array (Option Value)} {ocdraw kVdraw dcdraw pmdraw cddraw ctdraw : Value}
    (adraw : PySem.W.nsIn K mainGlobals "_law_draw" = some (some (.ref fdraw)))
    (ldraw : K.lookup fdraw = some ⟨ocdraw, oddraw, .func (PySem.W.fnOf "_law_draw" "_law_draw" (defArgs sdraw) (defBody sdraw) (defScope sdraw) .none kVdraw dcdraw pmdraw andraw cddraw ctdraw), sldraw⟩)
    (cdraw : PySem.W.codeIn K cddraw "_law_draw" = true)
    (kdraw : PySem.W.keepIn K (.ref fdraw) = true)
    {fof : Addr} {odof anof : Option Addr} {slof : Array (Option Value)} {ocof kVof dcof pmof cdof ctof : Value}
    (aof : PySem.W.nsIn K mainGlobals "_law_of" = some (some (.ref fof)))
    (lof : K.lookup fof = some ⟨ocof, odof, .func (PySem.W.fnOf "_law_of" "_law_of" (defArgs sof) (defBody sof) (defScope sof) .none kVof dcof pmof anof cdof ctof), slof⟩)
    (cof : PySem.W.codeIn K cdof "_law_of" = true)
    (kof : PySem.W.keepIn K (.ref fof) = true)
    {fnames : Addr} {odnames annames : Option Addr} {slnames : Array (Option Value)} {ocnames kVnames dcnames pmnames cdnames ctnames : Value}
    (anames : PySem.W.nsIn K mainGlobals "_law_names" = some (some (.ref fnames)))
    (lnames : K.lookup fnames = some ⟨ocnames, odnames, .func (PySem.W.fnOf "_law_names" "_law_names" (defArgs snames) (defBody snames) (defScope snames) .none kVnames dcnames pmnames annames cdnames ctnames), slnames⟩)
    (cnames : PySem.W.codeIn K cdnames "_law_names" = true)
    (knames : PySem.W.keepIn K (.ref fnames) = true)
    {flike : Addr} {odlike anlike : Option Addr} {sllike : Array (Option Value)} {oclike kVlike dclike pmlike cdlike ctlike : Value}
    (alike : PySem.W.nsIn K mainGlobals "_law_like" = some (some (.ref flike)))
    (llike : K.lookup flike = some ⟨oclike, odlike, .func (PySem.W.fnOf "_law_like" "_law_like" (defArgs slike) (defBody slike) (defScope slike) .none kVlike dclike pmlike anlike cdlike ctlike), sllike⟩)
    (clike : PySem.W.codeIn K cdlike "_law_like" = true)
    (klike : PySem.W.keepIn K (.ref flike) = true)
    {fscale : Addr} {odscale anscale : Option Addr} {slscale : Array (Option Value)} {ocscale kVscale dcscale pmscale cdscale ctscale : Value}
    (ascale : PySem.W.nsIn K mainGlobals "_law_scale" = some (some (.ref fscale)))
    (lscale : K.lookup fscale = some ⟨ocscale, odscale, .func (PySem.W.fnOf "_law_scale" "_law_scale" (defArgs sscale) (defBody sscale) (defScope sscale) .none kVscale dcscale pmscale anscale cdscale ctscale), slscale⟩)
    (cscale : PySem.W.codeIn K cdscale "_law_scale" = true)
    (kscale : PySem.W.keepIn K (.ref fscale) = true)
    {fhead : Addr} {odhead anhead : Option Addr} {slhead : Array (Option Value)} {ochead kVhead dchead pmhead cdhead cthead : Value}
    (ahead : PySem.W.nsIn K mainGlobals "_law_head" = some (some (.ref fhead)))
    (lhead : K.lookup fhead = some ⟨ochead, odhead, .func (PySem.W.fnOf "_law_head" "_law_head" (defArgs shead) (defBody shead) (defScope shead) .none kVhead dchead pmhead anhead cdhead cthead), slhead⟩)
    (chead : PySem.W.codeIn K cdhead "_law_head" = true)
    (khead : PySem.W.keepIn K (.ref fhead) = true)
    {fjoin : Addr} {odjoin anjoin : Option Addr} {sljoin : Array (Option Value)} {ocjoin kVjoin dcjoin pmjoin cdjoin ctjoin : Value}
    (ajoin : PySem.W.nsIn K mainGlobals "_law_join" = some (some (.ref fjoin)))
    (ljoin : K.lookup fjoin = some ⟨ocjoin, odjoin, .func (PySem.W.fnOf "_law_join" "_law_join" (defArgs sjoin) (defBody sjoin) (defScope sjoin) .none kVjoin dcjoin pmjoin anjoin cdjoin ctjoin), sljoin⟩)
    (cjoin : PySem.W.codeIn K cdjoin "_law_join" = true)
    (kjoin : PySem.W.keepIn K (.ref fjoin) = true)
    {fserve : Addr} {odserve anserve : Option Addr} {slserve : Array (Option Value)} {ocserve kVserve dcserve pmserve cdserve ctserve : Value}
    (aserve : PySem.W.nsIn K mainGlobals "_law_serve" = some (some (.ref fserve)))
    (lserve : K.lookup fserve = some ⟨ocserve, odserve, .func (PySem.W.fnOf "_law_serve" "_law_serve" (defArgs sserve) (defBody sserve) (defScope sserve) .none kVserve dcserve pmserve anserve cdserve ctserve), slserve⟩)
    (cserve : PySem.W.codeIn K cdserve "_law_serve" = true)
    (kserve : PySem.W.keepIn K (.ref fserve) = true)
    {falike : Addr} {odalike analike : Option Addr} {slalike : Array (Option Value)} {ocalike kValike dcalike pmalike cdalike ctalike : Value}
    (aalike : PySem.W.nsIn K mainGlobals "_law_alike" = some (some (.ref falike)))
    (lalike : K.lookup falike = some ⟨ocalike, odalike, .func (PySem.W.fnOf "_law_alike" "_law_alike" (defArgs salike) (defBody salike) (defScope salike) .none kValike dcalike pmalike analike cdalike ctalike), slalike⟩)
    (calike : PySem.W.codeIn K cdalike "_law_alike" = true)
    (kalike : PySem.W.keepIn K (.ref falike) = true)
    {fdeed : Addr} {oddeed andeed : Option Addr} {sldeed : Array (Option Value)} {ocdeed kVdeed dcdeed pmdeed cddeed ctdeed : Value}
    (adeed : PySem.W.nsIn K mainGlobals "_law_deed" = some (some (.ref fdeed)))
    (ldeed : K.lookup fdeed = some ⟨ocdeed, oddeed, .func (PySem.W.fnOf "_law_deed" "_law_deed" (defArgs sdeed) (defBody sdeed) (defScope sdeed) .none kVdeed dcdeed pmdeed andeed cddeed ctdeed), sldeed⟩)
    (cdeed : PySem.W.codeIn K cddeed "_law_deed" = true)
    (kdeed : PySem.W.keepIn K (.ref fdeed) = true)
    {flaw : Addr} {odlaw anlaw : Option Addr} {sllaw : Array (Option Value)} {oclaw kVlaw dclaw pmlaw cdlaw ctlaw : Value}
    (alaw : PySem.W.nsIn K mainGlobals "law" = some (some (.ref flaw)))
    (llaw : K.lookup flaw = some ⟨oclaw, odlaw, .func (PySem.W.fnOf "law" "law" (defArgs slaw) (defBody slaw) (defScope slaw) .none kVlaw dclaw pmlaw anlaw cdlaw ctlaw), sllaw⟩)
    (claw : PySem.W.codeIn K cdlaw "law" = true)
    (klaw : PySem.W.keepIn K (.ref flaw) = true)
    (zall : PySem.W.nsIn K mainGlobals "all" = some none)
    (zbool : PySem.W.nsIn K mainGlobals "bool" = some none)
    (zdict : PySem.W.nsIn K mainGlobals "dict" = some none)
    (zenumerate : PySem.W.nsIn K mainGlobals "enumerate" = some none)
    (zint : PySem.W.nsIn K mainGlobals "int" = some none)
    (zisinstance : PySem.W.nsIn K mainGlobals "isinstance" = some none)
    (zlen : PySem.W.nsIn K mainGlobals "len" = some none)
    (zlist : PySem.W.nsIn K mainGlobals "list" = some none)
    (zmax : PySem.W.nsIn K mainGlobals "max" = some none)
    (zmin : PySem.W.nsIn K mainGlobals "min" = some none)
    (zrange : PySem.W.nsIn K mainGlobals "range" = some none)
    (zstr : PySem.W.nsIn K mainGlobals "str" = some none)
    (ztuple : PySem.W.nsIn K mainGlobals "tuple" = some none)
    (zzip : PySem.W.nsIn K mainGlobals "zip" = some none)
    {tkDIGITS : Tok} (yDIGITS : PySem.W.nsIn K mainGlobals "DIGITS" = some (some (.str "0123456789" tkDIGITS)))
    {tkLETTERS : Tok} (yLETTERS : PySem.W.nsIn K mainGlobals "LETTERS" = some (some (.str "abcdefghijklmnopqrstuvwxyz" tkLETTERS)))
    {tkMOST_COST : Tok} (yMOST_COST : PySem.W.nsIn K mainGlobals "MOST_COST" = some (some (.int 1000 tkMOST_COST)))
    {tkMOST_WAITING : Tok} (yMOST_WAITING : PySem.W.nsIn K mainGlobals "MOST_WAITING" = some (some (.int 40 tkMOST_WAITING)))
        {aRoom fRoom_init fRoom_head fRoom_join fRoom_serve fRoom_leave fRoom_waiting fRoom_mark_of fRoom_level fRoom_scale fRoom_len fRoom_bool fRoom_copy : Addr}
    (aRoomG : PySem.W.nsIn K mainGlobals "Room" = some (some (.ref aRoom)))
    (pgRoom : PySem.W.plainGet K aRoom Str.empty = true)
    (hdRoom : PySem.W.hasDictIn K aRoom = true)
    (poRoom : PySem.W.plainOver K aRoom = true)
    (saRoom : PySem.W.findIn K (.ref aRoom) "__setattr__" = some (some (.builtin "object.__setattr__")))
    (mkRoom : PySem.W.makesIn K aRoom = true)
    (kpRoom : PySem.W.keepIn K (.ref aRoom) = true)
    (nRoom_weights : PySem.W.findIn K (.ref aRoom) "_weights" = some none)
    (nRoom_marks : PySem.W.findIn K (.ref aRoom) "_marks" = some none)
    (nRoom_level : PySem.W.findIn K (.ref aRoom) "_level" = some none)
    (nRoom_scale : PySem.W.findIn K (.ref aRoom) "_scale" = some none)
    (nRoom_waiting : PySem.W.findIn K (.ref aRoom) "_waiting" = some none)
    (atRoom_init : PySem.W.findIn K (.ref aRoom) "__init__" = some (some (.ref fRoom_init)))
    {odRoom_init anRoom_init : Option Addr} {slRoom_init : Array (Option Value)} {ocRoom_init kVRoom_init dcRoom_init pmRoom_init cdRoom_init ctRoom_init : Value}
    (lRoom_init : K.lookup fRoom_init = some ⟨ocRoom_init, odRoom_init, .func (PySem.W.fnOf "__init__" "Room.__init__" (defArgs sRoom_init) (defBody sRoom_init) (defScope sRoom_init) .none kVRoom_init dcRoom_init pmRoom_init anRoom_init cdRoom_init ctRoom_init), slRoom_init⟩)
    (cRoom_init : PySem.W.codeIn K cdRoom_init "Room.__init__" = true)
    (kRoom_init : PySem.W.keepIn K (.ref fRoom_init) = true)
    (iRoom_init : PySem.W.isFn K (.ref fRoom_init) = true)
    {pRoom_head : Addr} {reRoom_head : List Value}
    (atRoom_head : PySem.W.findIn K (.ref aRoom) "head" = some (some (.ref pRoom_head)))
    (geRoom_head : PySem.W.specialIn K (.ref pRoom_head) "__get__" = some (some (.builtin "property.__get__")))
    (taRoom_head : PySem.W.takesIn K (.ref pRoom_head) = some true)
    (rcRoom_head : PySem.W.recIn K pRoom_head "property" = some (.ref fRoom_head :: reRoom_head))
    {odRoom_head anRoom_head : Option Addr} {slRoom_head : Array (Option Value)} {ocRoom_head kVRoom_head dcRoom_head pmRoom_head cdRoom_head ctRoom_head : Value}
    (lRoom_head : K.lookup fRoom_head = some ⟨ocRoom_head, odRoom_head, .func (PySem.W.fnOf "head" "Room.head" (defArgs sRoom_head) (defBody sRoom_head) (defScope sRoom_head) .none kVRoom_head dcRoom_head pmRoom_head anRoom_head cdRoom_head ctRoom_head), slRoom_head⟩)
    (cRoom_head : PySem.W.codeIn K cdRoom_head "Room.head" = true)
    (kRoom_head : PySem.W.keepIn K (.ref fRoom_head) = true)
    (iRoom_head : PySem.W.isFn K (.ref fRoom_head) = true)
    (atRoom_join : PySem.W.findIn K (.ref aRoom) "join" = some (some (.ref fRoom_join)))
    {Tj : Addr} {ocTj : Value} {odTj : Option Addr} {itTj : Array Value} {nTj : Nat} {slTj : Array (Option Value)}
    {odRoom_join anRoom_join : Option Addr} {slRoom_join : Array (Option Value)} {ocRoom_join kVRoom_join dcRoom_join pmRoom_join cdRoom_join ctRoom_join : Value}
    (lRoom_join : K.lookup fRoom_join = some ⟨ocRoom_join, odRoom_join, .func (PySem.W.fnOf "join" "Room.join" (defArgs sRoom_join) (defBody sRoom_join) (defScope sRoom_join) (.ref Tj) kVRoom_join dcRoom_join pmRoom_join anRoom_join cdRoom_join ctRoom_join), slRoom_join⟩)
    (cRoom_join : PySem.W.codeIn K cdRoom_join "Room.join" = true)
    (kRoom_join : PySem.W.keepIn K (.ref fRoom_join) = true)
    (iRoom_join : PySem.W.isFn K (.ref fRoom_join) = true)
    (lTj : K.lookup Tj = some ⟨ocTj, odTj, .seq itTj nTj, slTj⟩)
    (vTj : itTj = #[.none])
    (atRoom_serve : PySem.W.findIn K (.ref aRoom) "serve" = some (some (.ref fRoom_serve)))
    {odRoom_serve anRoom_serve : Option Addr} {slRoom_serve : Array (Option Value)} {ocRoom_serve kVRoom_serve dcRoom_serve pmRoom_serve cdRoom_serve ctRoom_serve : Value}
    (lRoom_serve : K.lookup fRoom_serve = some ⟨ocRoom_serve, odRoom_serve, .func (PySem.W.fnOf "serve" "Room.serve" (defArgs sRoom_serve) (defBody sRoom_serve) (defScope sRoom_serve) .none kVRoom_serve dcRoom_serve pmRoom_serve anRoom_serve cdRoom_serve ctRoom_serve), slRoom_serve⟩)
    (cRoom_serve : PySem.W.codeIn K cdRoom_serve "Room.serve" = true)
    (kRoom_serve : PySem.W.keepIn K (.ref fRoom_serve) = true)
    (iRoom_serve : PySem.W.isFn K (.ref fRoom_serve) = true)
    (atRoom_leave : PySem.W.findIn K (.ref aRoom) "leave" = some (some (.ref fRoom_leave)))
    {odRoom_leave anRoom_leave : Option Addr} {slRoom_leave : Array (Option Value)} {ocRoom_leave kVRoom_leave dcRoom_leave pmRoom_leave cdRoom_leave ctRoom_leave : Value}
    (lRoom_leave : K.lookup fRoom_leave = some ⟨ocRoom_leave, odRoom_leave, .func (PySem.W.fnOf "leave" "Room.leave" (defArgs sRoom_leave) (defBody sRoom_leave) (defScope sRoom_leave) .none kVRoom_leave dcRoom_leave pmRoom_leave anRoom_leave cdRoom_leave ctRoom_leave), slRoom_leave⟩)
    (cRoom_leave : PySem.W.codeIn K cdRoom_leave "Room.leave" = true)
    (kRoom_leave : PySem.W.keepIn K (.ref fRoom_leave) = true)
    (iRoom_leave : PySem.W.isFn K (.ref fRoom_leave) = true)
    (atRoom_waiting : PySem.W.findIn K (.ref aRoom) "waiting" = some (some (.ref fRoom_waiting)))
    {odRoom_waiting anRoom_waiting : Option Addr} {slRoom_waiting : Array (Option Value)} {ocRoom_waiting kVRoom_waiting dcRoom_waiting pmRoom_waiting cdRoom_waiting ctRoom_waiting : Value}
    (lRoom_waiting : K.lookup fRoom_waiting = some ⟨ocRoom_waiting, odRoom_waiting, .func (PySem.W.fnOf "waiting" "Room.waiting" (defArgs sRoom_waiting) (defBody sRoom_waiting) (defScope sRoom_waiting) .none kVRoom_waiting dcRoom_waiting pmRoom_waiting anRoom_waiting cdRoom_waiting ctRoom_waiting), slRoom_waiting⟩)
    (cRoom_waiting : PySem.W.codeIn K cdRoom_waiting "Room.waiting" = true)
    (kRoom_waiting : PySem.W.keepIn K (.ref fRoom_waiting) = true)
    (iRoom_waiting : PySem.W.isFn K (.ref fRoom_waiting) = true)
    (atRoom_mark_of : PySem.W.findIn K (.ref aRoom) "mark_of" = some (some (.ref fRoom_mark_of)))
    {odRoom_mark_of anRoom_mark_of : Option Addr} {slRoom_mark_of : Array (Option Value)} {ocRoom_mark_of kVRoom_mark_of dcRoom_mark_of pmRoom_mark_of cdRoom_mark_of ctRoom_mark_of : Value}
    (lRoom_mark_of : K.lookup fRoom_mark_of = some ⟨ocRoom_mark_of, odRoom_mark_of, .func (PySem.W.fnOf "mark_of" "Room.mark_of" (defArgs sRoom_mark_of) (defBody sRoom_mark_of) (defScope sRoom_mark_of) .none kVRoom_mark_of dcRoom_mark_of pmRoom_mark_of anRoom_mark_of cdRoom_mark_of ctRoom_mark_of), slRoom_mark_of⟩)
    (cRoom_mark_of : PySem.W.codeIn K cdRoom_mark_of "Room.mark_of" = true)
    (kRoom_mark_of : PySem.W.keepIn K (.ref fRoom_mark_of) = true)
    (iRoom_mark_of : PySem.W.isFn K (.ref fRoom_mark_of) = true)
    {pRoom_level : Addr} {reRoom_level : List Value}
    (atRoom_level : PySem.W.findIn K (.ref aRoom) "level" = some (some (.ref pRoom_level)))
    (geRoom_level : PySem.W.specialIn K (.ref pRoom_level) "__get__" = some (some (.builtin "property.__get__")))
    (taRoom_level : PySem.W.takesIn K (.ref pRoom_level) = some true)
    (rcRoom_level : PySem.W.recIn K pRoom_level "property" = some (.ref fRoom_level :: reRoom_level))
    {odRoom_level anRoom_level : Option Addr} {slRoom_level : Array (Option Value)} {ocRoom_level kVRoom_level dcRoom_level pmRoom_level cdRoom_level ctRoom_level : Value}
    (lRoom_level : K.lookup fRoom_level = some ⟨ocRoom_level, odRoom_level, .func (PySem.W.fnOf "level" "Room.level" (defArgs sRoom_level) (defBody sRoom_level) (defScope sRoom_level) .none kVRoom_level dcRoom_level pmRoom_level anRoom_level cdRoom_level ctRoom_level), slRoom_level⟩)
    (cRoom_level : PySem.W.codeIn K cdRoom_level "Room.level" = true)
    (kRoom_level : PySem.W.keepIn K (.ref fRoom_level) = true)
    (iRoom_level : PySem.W.isFn K (.ref fRoom_level) = true)
    {pRoom_scale : Addr} {reRoom_scale : List Value}
    (atRoom_scale : PySem.W.findIn K (.ref aRoom) "scale" = some (some (.ref pRoom_scale)))
    (geRoom_scale : PySem.W.specialIn K (.ref pRoom_scale) "__get__" = some (some (.builtin "property.__get__")))
    (taRoom_scale : PySem.W.takesIn K (.ref pRoom_scale) = some true)
    (rcRoom_scale : PySem.W.recIn K pRoom_scale "property" = some (.ref fRoom_scale :: reRoom_scale))
    {odRoom_scale anRoom_scale : Option Addr} {slRoom_scale : Array (Option Value)} {ocRoom_scale kVRoom_scale dcRoom_scale pmRoom_scale cdRoom_scale ctRoom_scale : Value}
    (lRoom_scale : K.lookup fRoom_scale = some ⟨ocRoom_scale, odRoom_scale, .func (PySem.W.fnOf "scale" "Room.scale" (defArgs sRoom_scale) (defBody sRoom_scale) (defScope sRoom_scale) .none kVRoom_scale dcRoom_scale pmRoom_scale anRoom_scale cdRoom_scale ctRoom_scale), slRoom_scale⟩)
    (cRoom_scale : PySem.W.codeIn K cdRoom_scale "Room.scale" = true)
    (kRoom_scale : PySem.W.keepIn K (.ref fRoom_scale) = true)
    (iRoom_scale : PySem.W.isFn K (.ref fRoom_scale) = true)
    (atRoom_len : PySem.W.findIn K (.ref aRoom) "__len__" = some (some (.ref fRoom_len)))
    {odRoom_len anRoom_len : Option Addr} {slRoom_len : Array (Option Value)} {ocRoom_len kVRoom_len dcRoom_len pmRoom_len cdRoom_len ctRoom_len : Value}
    (lRoom_len : K.lookup fRoom_len = some ⟨ocRoom_len, odRoom_len, .func (PySem.W.fnOf "__len__" "Room.__len__" (defArgs sRoom_len) (defBody sRoom_len) (defScope sRoom_len) .none kVRoom_len dcRoom_len pmRoom_len anRoom_len cdRoom_len ctRoom_len), slRoom_len⟩)
    (cRoom_len : PySem.W.codeIn K cdRoom_len "Room.__len__" = true)
    (kRoom_len : PySem.W.keepIn K (.ref fRoom_len) = true)
    (iRoom_len : PySem.W.isFn K (.ref fRoom_len) = true)
    (atRoom_bool : PySem.W.findIn K (.ref aRoom) "__bool__" = some (some (.ref fRoom_bool)))
    {odRoom_bool anRoom_bool : Option Addr} {slRoom_bool : Array (Option Value)} {ocRoom_bool kVRoom_bool dcRoom_bool pmRoom_bool cdRoom_bool ctRoom_bool : Value}
    (lRoom_bool : K.lookup fRoom_bool = some ⟨ocRoom_bool, odRoom_bool, .func (PySem.W.fnOf "__bool__" "Room.__bool__" (defArgs sRoom_bool) (defBody sRoom_bool) (defScope sRoom_bool) .none kVRoom_bool dcRoom_bool pmRoom_bool anRoom_bool cdRoom_bool ctRoom_bool), slRoom_bool⟩)
    (cRoom_bool : PySem.W.codeIn K cdRoom_bool "Room.__bool__" = true)
    (kRoom_bool : PySem.W.keepIn K (.ref fRoom_bool) = true)
    (iRoom_bool : PySem.W.isFn K (.ref fRoom_bool) = true)
    (atRoom_copy : PySem.W.findIn K (.ref aRoom) "copy" = some (some (.ref fRoom_copy)))
    {odRoom_copy anRoom_copy : Option Addr} {slRoom_copy : Array (Option Value)} {ocRoom_copy kVRoom_copy dcRoom_copy pmRoom_copy cdRoom_copy ctRoom_copy : Value}
    (lRoom_copy : K.lookup fRoom_copy = some ⟨ocRoom_copy, odRoom_copy, .func (PySem.W.fnOf "copy" "Room.copy" (defArgs sRoom_copy) (defBody sRoom_copy) (defScope sRoom_copy) .none kVRoom_copy dcRoom_copy pmRoom_copy anRoom_copy cdRoom_copy ctRoom_copy), slRoom_copy⟩)
    (cRoom_copy : PySem.W.codeIn K cdRoom_copy "Room.copy" = true)
    (kRoom_copy : PySem.W.keepIn K (.ref fRoom_copy) = true)
    (iRoom_copy : PySem.W.isFn K (.ref fRoom_copy) = true)
    (xlcm : PySem.W.nsIn K mainGlobals "lcm" = some (some (.builtin "math.lcm"))) :
    ∃ fd : FuncData, (∀ (s : Shared) (v : Value), BindsTo s fd ⟨[v], []⟩ [("_law_script", v)]) ∧ ∀ base : Heap, K.In base → base.Ns mainGlobals mg → FnOk l.prog w K mg base CX0 7 fa fd ["_law_script"] (splaw K) := by
  have e := hfa.symm.trans (PySem.W.mg_of X G alaw)
  cases e
  have T : Txt K mg := ⟨PySem.W.mg_none_of X G zall, PySem.W.mg_none_of X G zbool, PySem.W.mg_none_of X G zdict, PySem.W.mg_none_of X G zenumerate, PySem.W.mg_none_of X G zint, PySem.W.mg_none_of X G zisinstance, PySem.W.mg_none_of X G zlen, PySem.W.mg_none_of X G zlist, PySem.W.mg_none_of X G zmax, PySem.W.mg_none_of X G zmin, PySem.W.mg_none_of X G zrange, PySem.W.mg_none_of X G zstr, PySem.W.mg_none_of X G ztuple, PySem.W.mg_none_of X G zzip, ⟨_, PySem.W.mg_of X G yDIGITS⟩, ⟨_, PySem.W.mg_of X G yLETTERS⟩, ⟨_, PySem.W.mg_of X G yMOST_COST⟩, ⟨_, PySem.W.mg_of X G yMOST_WAITING⟩⟩
  have Fcheck_count := fun_mk (st := scheck_count) lcheck_count ccheck_count kcheck_count
  have Dcheck_count : Def K mg "check_count" scheck_count Pcheck_count _ _ := ⟨Fcheck_count, PySem.W.mg_of X G acheck_count, Fcheck_count.binds (ps := Pcheck_count) fun _ _ _ _ _ _ us hl => match us, hl with | [_, _, _], _ => rfl⟩
  have Fis_whole := fun_mk (st := sis_whole) lis_whole cis_whole kis_whole
  have Dis_whole : Def K mg "is_whole" sis_whole Pis_whole _ _ := ⟨Fis_whole, PySem.W.mg_of X G ais_whole, Fis_whole.binds (ps := Pis_whole) fun _ _ _ _ _ _ us hl => match us, hl with | [_], _ => rfl⟩
  have Fis_number := fun_mk (st := sis_number) lis_number cis_number kis_number
  have Dis_number : Def K mg "is_number" sis_number Pis_number _ _ := ⟨Fis_number, PySem.W.mg_of X G ais_number, Fis_number.binds (ps := Pis_number) fun _ _ _ _ _ _ us hl => match us, hl with | [_, _, _], _ => rfl⟩
  have Fis_name := fun_mk (st := sis_name) lis_name cis_name kis_name
  have Dis_name : Def K mg "is_name" sis_name Pis_name _ _ := ⟨Fis_name, PySem.W.mg_of X G ais_name, Fis_name.binds (ps := Pis_name) fun _ _ _ _ _ _ us hl => match us, hl with | [_], _ => rfl⟩
  have Fhas_name := fun_mk (st := shas_name) lhas_name chas_name khas_name
  have Dhas_name : Def K mg "has_name" shas_name Phas_name _ _ := ⟨Fhas_name, PySem.W.mg_of X G ahas_name, Fhas_name.binds (ps := Phas_name) fun _ _ _ _ _ _ us hl => match us, hl with | [_, _], _ => rfl⟩
  have Flook_up := fun_mk (st := slook_up) llook_up clook_up klook_up
  have Dlook_up : Def K mg "look_up" slook_up Plook_up _ _ := ⟨Flook_up, PySem.W.mg_of X G alook_up, Flook_up.binds (ps := Plook_up) fun _ _ _ _ _ _ us hl => match us, hl with | [_, _], _ => rfl⟩
  have Fleast_multiple := fun_mk (st := sleast_multiple) lleast_multiple cleast_multiple kleast_multiple
  have Dleast_multiple : Def K mg "least_multiple" sleast_multiple Pleast_multiple _ _ := ⟨Fleast_multiple, PySem.W.mg_of X G aleast_multiple, Fleast_multiple.binds (ps := Pleast_multiple) fun _ _ _ _ _ _ us hl => match us, hl with | [_], _ => rfl⟩
  have Fcheck_cost := fun_mk (st := scheck_cost) lcheck_cost ccheck_cost kcheck_cost
  have Dcheck_cost : Def K mg "check_cost" scheck_cost Pcheck_cost _ _ := ⟨Fcheck_cost, PySem.W.mg_of X G acheck_cost, Fcheck_cost.binds (ps := Pcheck_cost) fun _ _ _ _ _ _ us hl => match us, hl with | [_], _ => rfl⟩
  have Fbag := fun_mk (st := sbag) lbag cbag kbag
  have Dbag : Def K mg "_law_bag" sbag Pbag _ _ := ⟨Fbag, PySem.W.mg_of X G abag, Fbag.binds (ps := Pbag) fun _ _ _ _ _ _ us hl => match us, hl with | [_], _ => rfl⟩
  have Fdraw := fun_mk (st := sdraw) ldraw cdraw kdraw
  have Ddraw : Def K mg "_law_draw" sdraw Pdraw _ _ := ⟨Fdraw, PySem.W.mg_of X G adraw, Fdraw.binds (ps := Pdraw) fun _ _ _ _ _ _ us hl => match us, hl with | [_, _], _ => rfl⟩
  have Fof := fun_mk (st := sof) lof cof kof
  have Dof : Def K mg "_law_of" sof Pof _ _ := ⟨Fof, PySem.W.mg_of X G aof, Fof.binds (ps := Pof) fun _ _ _ _ _ _ us hl => match us, hl with | [_, _], _ => rfl⟩
  have Fnames := fun_mk (st := snames) lnames cnames knames
  have Dnames : Def K mg "_law_names" snames Pnames _ _ := ⟨Fnames, PySem.W.mg_of X G anames, Fnames.binds (ps := Pnames) fun _ _ _ _ _ _ us hl => match us, hl with | [_, _], _ => rfl⟩
  have Flike := fun_mk (st := slike) llike clike klike
  have Dlike : Def K mg "_law_like" slike Plike _ _ := ⟨Flike, PySem.W.mg_of X G alike, Flike.binds (ps := Plike) fun _ _ _ _ _ _ us hl => match us, hl with | [_, _], _ => rfl⟩
  have Fscale := fun_mk (st := sscale) lscale cscale kscale
  have Dscale : Def K mg "_law_scale" sscale Pscale _ _ := ⟨Fscale, PySem.W.mg_of X G ascale, Fscale.binds (ps := Pscale) fun _ _ _ _ _ _ us hl => match us, hl with | [_], _ => rfl⟩
  have Fhead := fun_mk (st := shead) lhead chead khead
  have Dhead : Def K mg "_law_head" shead Phead _ _ := ⟨Fhead, PySem.W.mg_of X G ahead, Fhead.binds (ps := Phead) fun _ _ _ _ _ _ us hl => match us, hl with | [_], _ => rfl⟩
  have Fjoin := fun_mk (st := sjoin) ljoin cjoin kjoin
  have Djoin : Def K mg "_law_join" sjoin Pjoin _ _ := ⟨Fjoin, PySem.W.mg_of X G ajoin, Fjoin.binds (ps := Pjoin) fun _ _ _ _ _ _ us hl => match us, hl with | [_, _, _, _], _ => rfl⟩
  have Fserve := fun_mk (st := sserve) lserve cserve kserve
  have Dserve : Def K mg "_law_serve" sserve Pserve _ _ := ⟨Fserve, PySem.W.mg_of X G aserve, Fserve.binds (ps := Pserve) fun _ _ _ _ _ _ us hl => match us, hl with | [_, _, _], _ => rfl⟩
  have Falike := fun_mk (st := salike) lalike calike kalike
  have Dalike : Def K mg "_law_alike" salike Palike _ _ := ⟨Falike, PySem.W.mg_of X G aalike, Falike.binds (ps := Palike) fun _ _ _ _ _ _ us hl => match us, hl with | [_, _, _, _], _ => rfl⟩
  have Fdeed := fun_mk (st := sdeed) ldeed cdeed kdeed
  have Ddeed : Def K mg "_law_deed" sdeed Pdeed _ _ := ⟨Fdeed, PySem.W.mg_of X G adeed, Fdeed.binds (ps := Pdeed) fun _ _ _ _ _ _ us hl => match us, hl with | [_, _, _, _, _, _], _ => rfl⟩
  have Flaw := fun_mk (st := slaw) llaw claw klaw
  have Dlaw : Def K mg "law" slaw Plaw _ _ := ⟨Flaw, PySem.W.mg_of X G alaw, Flaw.binds (ps := Plaw) fun _ _ _ _ _ _ us hl => match us, hl with | [_], _ => rfl⟩
  let r : Ar := ⟨aRoom, fRoom_init, fRoom_head, fRoom_join, fRoom_serve, fRoom_leave, fRoom_waiting, fRoom_mark_of, fRoom_level, fRoom_scale, fRoom_len, fRoom_bool, fRoom_copy, pRoom_head, pRoom_level, pRoom_scale⟩
  have KR : Kr K mg r := ⟨⟨pgRoom, hdRoom, poRoom, saRoom⟩, nRoom_weights, nRoom_marks, nRoom_level, nRoom_scale, nRoom_waiting, ⟨atRoom_join, iRoom_join, kRoom_join⟩, ⟨atRoom_serve, iRoom_serve, kRoom_serve⟩, ⟨atRoom_leave, iRoom_leave, kRoom_leave⟩, ⟨atRoom_waiting, iRoom_waiting, kRoom_waiting⟩, ⟨atRoom_mark_of, iRoom_mark_of, kRoom_mark_of⟩, ⟨atRoom_copy, iRoom_copy, kRoom_copy⟩, ⟨atRoom_head, geRoom_head, taRoom_head, ⟨_, rcRoom_head⟩⟩, ⟨atRoom_level, geRoom_level, taRoom_level, ⟨_, rcRoom_level⟩⟩, ⟨atRoom_scale, geRoom_scale, taRoom_scale, ⟨_, rcRoom_scale⟩⟩, atRoom_len, iRoom_len, atRoom_bool, iRoom_bool, ⟨mkRoom, atRoom_init, iRoom_init, kpRoom⟩, PySem.W.mg_of X G aRoomG, PySem.W.mg_of X G xlcm⟩
  refine ⟨PySem.W.fnOf "law" "law" (defArgs slaw) (defBody slaw) (defScope slaw) .none kVlaw dclaw pmlaw anlaw cdlaw ctlaw, fun s v => .of_eq rfl, fun base _ _ => ?_⟩
  have Gcheck_count := ok_check_count (P := l.prog) (w := w) (base := base) Dcheck_count T
  have Gis_whole := ok_is_whole (P := l.prog) (w := w) (base := base) Dis_whole T
  have Gis_number := ok_is_number (P := l.prog) (w := w) (base := base) Dis_number T Dis_whole Gis_whole
  have Gis_name := ok_is_name (P := l.prog) (w := w) (base := base) Dis_name T
  have Ghas_name := ok_has_name (P := l.prog) (w := w) (base := base) Dhas_name T Dis_name Gis_name
  have Glook_up := ok_look_up (P := l.prog) (w := w) (base := base) Dlook_up T Dhas_name Ghas_name
  have Gleast_multiple := ok_least_multiple (P := l.prog) (w := w) (base := base) Dleast_multiple T KR
  have Gcheck_cost := ok_check_cost (P := l.prog) (w := w) (base := base) Dcheck_cost T Dis_number Gis_number
  have FRoom_init := fun_mk (st := sRoom_init) lRoom_init cRoom_init kRoom_init
  have BRoom_init := FRoom_init.binds (ps := PRoom_init) fun _ _ _ _ _ _ us hl => match us, hl with | [_, _], _ => rfl
  have GRoom_init := ok_Room_init (P := l.prog) (w := w) (base := base) FRoom_init T KR Dleast_multiple Gleast_multiple
  have IRoom : FnR l.prog w K mg base CX0 2 fRoom_init (spRoom_init r) := LC.raw0 GRoom_init BRoom_init
  have FRoom_head := fun_mk (st := sRoom_head) lRoom_head cRoom_head kRoom_head
  have BRoom_head := FRoom_head.binds (ps := PRoom_head) fun _ _ _ _ _ _ us hl => match us, hl with | [_], _ => rfl
  have GRoom_head := ok_Room_head (P := l.prog) (w := w) (base := base) FRoom_head T KR
  have FRoom_level := fun_mk (st := sRoom_level) lRoom_level cRoom_level kRoom_level
  have BRoom_level := FRoom_level.binds (ps := PRoom_level) fun _ _ _ _ _ _ us hl => match us, hl with | [_], _ => rfl
  have GRoom_level := ok_Room_level (P := l.prog) (w := w) (base := base) FRoom_level T KR
  have FRoom_scale := fun_mk (st := sRoom_scale) lRoom_scale cRoom_scale kRoom_scale
  have BRoom_scale := FRoom_scale.binds (ps := PRoom_scale) fun _ _ _ _ _ _ us hl => match us, hl with | [_], _ => rfl
  have GRoom_scale := ok_Room_scale (P := l.prog) (w := w) (base := base) FRoom_scale T KR
  have FRoom_len := fun_mk (st := sRoom_len) lRoom_len cRoom_len kRoom_len
  have BRoom_len := FRoom_len.binds (ps := PRoom_len) fun _ _ _ _ _ _ us hl => match us, hl with | [_], _ => rfl
  have GRoom_len := ok_Room_len (P := l.prog) (w := w) (base := base) FRoom_len T KR
  have Glen : FnR l.prog w K mg base CX0 1 fRoom_len (spRoom_len r) := LC.raw0 GRoom_len BRoom_len
  have FRoom_bool := fun_mk (st := sRoom_bool) lRoom_bool cRoom_bool kRoom_bool
  have BRoom_bool := FRoom_bool.binds (ps := PRoom_bool) fun _ _ _ _ _ _ us hl => match us, hl with | [_], _ => rfl
  have GRoom_bool := ok_Room_bool (P := l.prog) (w := w) (base := base) FRoom_bool T KR
  have Gbool : FnR l.prog w K mg base CX0 1 fRoom_bool (spRoom_bool r) := LC.raw0 GRoom_bool BRoom_bool
  have FRoom_mark_of := fun_mk (st := sRoom_mark_of) lRoom_mark_of cRoom_mark_of kRoom_mark_of
  have BRoom_mark_of := FRoom_mark_of.binds (ps := PRoom_mark_of) fun _ _ _ _ _ _ us hl => match us, hl with | [_, _], _ => rfl
  have GRoom_mark_of := ok_Room_mark_of (P := l.prog) (w := w) (base := base) FRoom_mark_of T KR Dlook_up Glook_up
  have FRoom_waiting := fun_mk (st := sRoom_waiting) lRoom_waiting cRoom_waiting kRoom_waiting
  have BRoom_waiting := FRoom_waiting.binds (ps := PRoom_waiting) fun _ _ _ _ _ _ us hl => match us, hl with | [_], _ => rfl
  have GRoom_waiting := ok_Room_waiting (P := l.prog) (w := w) (base := base) FRoom_waiting T KR
  have FRoom_join : FunD K "join" "Room.join" (defArgs sRoom_join) (defBody sRoom_join) (defScope sRoom_join) [V.non] [] fRoom_join _ := ⟨⟨_, _, _, _, _, _, _, _, _, _, rfl, lRoom_join, cRoom_join, .inr ⟨List.cons_ne_nil _ _, Tj, _, [.none], nTj, rfl, lTj, by rw [vTj], .cons rfl .nil⟩, .inl rfl⟩, kRoom_join⟩
  obtain ⟨ds0, hv0, BRoom_join⟩ := FRoom_join.binds1 (ps := PRoom_join) 4 1 (List.cons_ne_nil _ _) rfl fun _ _ _ _ _ _ _ us its hl hi => match us, its, hl, hi with | [_, _, _, _], [_], _, _ => ⟨_, rfl, rfl⟩
  cases hv0
  obtain ⟨ds1, hv1, hb1⟩ := FRoom_join.binds1 (ps := PRoom_join) 3 0 (List.cons_ne_nil _ _) rfl fun _ _ _ _ _ _ _ us its hl hi => match us, its, hl, hi with | [_, _, _], [_], _, _ => ⟨_, rfl, rfl⟩
  obtain ⟨u1, rfl, ru1⟩ := hv1.one
  have GRoom_join := ok_Room_join (P := l.prog) (w := w) (base := base) FRoom_join T KR Dcheck_count Gcheck_count Dlook_up Glook_up Dcheck_cost Gcheck_cost
  have FRoom_serve := fun_mk (st := sRoom_serve) lRoom_serve cRoom_serve kRoom_serve
  have BRoom_serve := FRoom_serve.binds (ps := PRoom_serve) fun _ _ _ _ _ _ us hl => match us, hl with | [_], _ => rfl
  have GRoom_serve := ok_Room_serve (P := l.prog) (w := w) (base := base) FRoom_serve T KR GRoom_head BRoom_head
  have FRoom_leave := fun_mk (st := sRoom_leave) lRoom_leave cRoom_leave kRoom_leave
  have BRoom_leave := FRoom_leave.binds (ps := PRoom_leave) fun _ _ _ _ _ _ us hl => match us, hl with | [_, _], _ => rfl
  have GRoom_leave := ok_Room_leave (P := l.prog) (w := w) (base := base) FRoom_leave T KR
  have FRoom_copy := fun_mk (st := sRoom_copy) lRoom_copy cRoom_copy kRoom_copy
  have BRoom_copy := FRoom_copy.binds (ps := PRoom_copy) fun _ _ _ _ _ _ us hl => match us, hl with | [_], _ => rfl
  have GRoom_copy := ok_Room_copy (P := l.prog) (w := w) (base := base) FRoom_copy T KR IRoom
  have Gbag := ok_bag (P := l.prog) (w := w) (base := base) Dbag T
  have Gdraw := ok_draw (P := l.prog) (w := w) (base := base) Ddraw T
  have Gof := ok_of (P := l.prog) (w := w) (base := base) Dof T Ddraw Gdraw
  have Gnames := ok_names (P := l.prog) (w := w) (base := base) Dnames T Dof Gof
  have Glike := ok_like (P := l.prog) (w := w) (base := base) Dlike T
  have Gscale := ok_scale (P := l.prog) (w := w) (base := base) Dscale T
  have Ghead := ok_head (P := l.prog) (w := w) (base := base) Dhead T
  have Gjoin := ok_join (P := l.prog) (w := w) (base := base) Djoin T
  have Gserve := ok_serve (P := l.prog) (w := w) (base := base) Dserve T Dhead Ghead
  have Galike := ok_alike (P := l.prog) (w := w) (base := base) Dalike T KR GRoom_head BRoom_head GRoom_level BRoom_level GRoom_scale BRoom_scale GRoom_waiting BRoom_waiting GRoom_mark_of BRoom_mark_of Glen Gbool Dlike Glike Dhead Ghead
  have Gdeed := ok_deed (P := l.prog) (w := w) (base := base) Ddeed T KR GRoom_join BRoom_join GRoom_serve BRoom_serve GRoom_leave BRoom_leave ⟨u1, ru1, hb1⟩ Ddraw Gdraw Dof Gof Dlike Glike Djoin Gjoin Dserve Gserve
  have Glaw := ok_law (P := l.prog) (w := w) (base := base) Dlaw T KR IRoom GRoom_copy BRoom_copy GRoom_waiting BRoom_waiting Dbag Gbag Ddraw Gdraw Dof Gof Dnames Gnames Dscale Gscale Dalike Galike Ddeed Gdeed
  exact Glaw
theorem walk {l : PySem.W.OpenLaw} {q : Program} {loose : List Str} {XP : (Str → Option Value) → Heap → Prop} {YP : World → Heap → Prop} {d : DefRec} {K : Params → PySem.W.Frag} (hn : l.most = some 63) (hdf : d.params.defaults = [])
    (hY : ∀ (w : World) (h : Heap), YP w h → (K w.params).In h)
    (F : ∀ (w : World) (mg : Str → Option Value) (fa : Addr) (h : Heap), (K w.params).In h → h.Ns mainGlobals mg → mg d.name = some (.ref fa) →
      ∃ fd : FuncData, (∀ (s : Shared) (u : Value), BindsTo s fd ⟨[u], []⟩ [("_law_script", u)]) ∧ ∀ base : Heap, (K w.params).In base → base.Ns mainGlobals mg → FnOk l.prog w (K w.params) mg base CX0 7 fa fd ["_law_script"] (splaw (K w.params))) :
    PySem.W.WalkO q loose XP YP l.row.toRowW d [] (fun f vs => PySem.call f vs) :=
  L2.walk_of (n := 63) (k := 7) (x := "_law_script") (CX := fun _ => CX0) (sp := fun w => splaw (K w.params)) hn (by decide) hdf ⟨rfl, by decide, by decide⟩ hY F (fun _ _ a ns hl _ hS => ⟨a, ns, rfl, hS, hl, fun _ => rfl⟩) fun _ _ _ _ _ z => z
end k47
open PySem PySem.W PyProof.Rows
set_option maxRecDepth 100000 in
set_option maxHeartbeats 0 in
theorem PySem.Challenge.cw_surelet_k47_whole_marks_of_a_room_holds : PySem.Challenge.rw_surelet_k47_whole_marks_of_a_room.Holds := by
  w_on; o_law; k_head; (case hw => w_witness2)
  k_fill
  refine k47.walk (l := PySem.Challenge.rw_surelet_k47_whole_marks_of_a_room) rfl rfl (fun w h Y => PySem.W.kIn_of Y) ?F
  case F =>
    intro w mg fa h KX G hmg
    refine' k47.all_mk KX G hmg ?acheck_count ?lcheck_count ?ccheck_count ?kcheck_count ?ais_whole ?lis_whole ?cis_whole ?kis_whole ?ais_number ?lis_number ?cis_number ?kis_number ?ais_name ?lis_name ?cis_name ?kis_name ?ahas_name ?lhas_name ?chas_name ?khas_name ?alook_up ?llook_up ?clook_up ?klook_up ?aleast_multiple ?lleast_multiple ?cleast_multiple ?kleast_multiple ?acheck_cost ?lcheck_cost ?ccheck_cost ?kcheck_cost ?abag ?lbag ?cbag ?kbag ?adraw ?ldraw ?cdraw ?kdraw ?aof ?lof ?cof ?kof ?anames ?lnames ?cnames ?knames ?alike ?llike ?clike ?klike ?ascale ?lscale ?cscale ?kscale ?ahead ?lhead ?chead ?khead ?ajoin ?ljoin ?cjoin ?kjoin ?aserve ?lserve ?cserve ?kserve ?aalike ?lalike ?calike ?kalike ?adeed ?ldeed ?cdeed ?kdeed ?alaw ?llaw ?claw ?klaw ?zall ?zbool ?zdict ?zenumerate ?zint ?zisinstance ?zlen ?zlist ?zmax ?zmin ?zrange ?zstr ?ztuple ?zzip ?yDIGITS ?yLETTERS ?yMOST_COST ?yMOST_WAITING ?aRoomG ?pgRoom ?hdRoom ?poRoom ?saRoom ?mkRoom ?kpRoom ?nRoom_weights ?nRoom_marks ?nRoom_level ?nRoom_scale ?nRoom_waiting ?atRoom_init ?lRoom_init ?cRoom_init ?kRoom_init ?iRoom_init ?atRoom_head ?geRoom_head ?taRoom_head ?rcRoom_head ?lRoom_head ?cRoom_head ?kRoom_head ?iRoom_head ?atRoom_join ?lRoom_join ?cRoom_join ?kRoom_join ?iRoom_join ?lTj ?vTj ?atRoom_serve ?lRoom_serve ?cRoom_serve ?kRoom_serve ?iRoom_serve ?atRoom_leave ?lRoom_leave ?cRoom_leave ?kRoom_leave ?iRoom_leave ?atRoom_waiting ?lRoom_waiting ?cRoom_waiting ?kRoom_waiting ?iRoom_waiting ?atRoom_mark_of ?lRoom_mark_of ?cRoom_mark_of ?kRoom_mark_of ?iRoom_mark_of ?atRoom_level ?geRoom_level ?taRoom_level ?rcRoom_level ?lRoom_level ?cRoom_level ?kRoom_level ?iRoom_level ?atRoom_scale ?geRoom_scale ?taRoom_scale ?rcRoom_scale ?lRoom_scale ?cRoom_scale ?kRoom_scale ?iRoom_scale ?atRoom_len ?lRoom_len ?cRoom_len ?kRoom_len ?iRoom_len ?atRoom_bool ?lRoom_bool ?cRoom_bool ?kRoom_bool ?iRoom_bool ?atRoom_copy ?lRoom_copy ?cRoom_copy ?kRoom_copy ?iRoom_copy ?xlcm
    (case acheck_count => k_is)
    (case lcheck_count => k_is)
    (case ccheck_count => k_is)
    (case kcheck_count => k_is)
    (case ais_whole => k_is)
    (case lis_whole => k_is)
    (case cis_whole => k_is)
    (case kis_whole => k_is)
    (case ais_number => k_is)
    (case lis_number => k_is)
    (case cis_number => k_is)
    (case kis_number => k_is)
    (case ais_name => k_is)
    (case lis_name => k_is)
    (case cis_name => k_is)
    (case kis_name => k_is)
    (case ahas_name => k_is)
    (case lhas_name => k_is)
    (case chas_name => k_is)
    (case khas_name => k_is)
    (case alook_up => k_is)
    (case llook_up => k_is)
    (case clook_up => k_is)
    (case klook_up => k_is)
    (case aleast_multiple => k_is)
    (case lleast_multiple => k_is)
    (case cleast_multiple => k_is)
    (case kleast_multiple => k_is)
    (case acheck_cost => k_is)
    (case lcheck_cost => k_is)
    (case ccheck_cost => k_is)
    (case kcheck_cost => k_is)
    (case abag => k_is)
    (case lbag => k_is)
    (case cbag => k_is)
    (case kbag => k_is)
    (case adraw => k_is)
    (case ldraw => k_is)
    (case cdraw => k_is)
    (case kdraw => k_is)
    (case aof => k_is)
    (case lof => k_is)
    (case cof => k_is)
    (case kof => k_is)
    (case anames => k_is)
    (case lnames => k_is)
    (case cnames => k_is)
    (case knames => k_is)
    (case alike => k_is)
    (case llike => k_is)
    (case clike => k_is)
    (case klike => k_is)
    (case ascale => k_is)
    (case lscale => k_is)
    (case cscale => k_is)
    (case kscale => k_is)
    (case ahead => k_is)
    (case lhead => k_is)
    (case chead => k_is)
    (case khead => k_is)
    (case ajoin => k_is)
    (case ljoin => k_is)
    (case cjoin => k_is)
    (case kjoin => k_is)
    (case aserve => k_is)
    (case lserve => k_is)
    (case cserve => k_is)
    (case kserve => k_is)
    (case aalike => k_is)
    (case lalike => k_is)
    (case calike => k_is)
    (case kalike => k_is)
    (case adeed => k_is)
    (case ldeed => k_is)
    (case cdeed => k_is)
    (case kdeed => k_is)
    (case alaw => k_is)
    (case llaw => k_is)
    (case claw => k_is)
    (case klaw => k_is)
    (case zall => k_is)
    (case zbool => k_is)
    (case zdict => k_is)
    (case zenumerate => k_is)
    (case zint => k_is)
    (case zisinstance => k_is)
    (case zlen => k_is)
    (case zlist => k_is)
    (case zmax => k_is)
    (case zmin => k_is)
    (case zrange => k_is)
    (case zstr => k_is)
    (case ztuple => k_is)
    (case zzip => k_is)
    (case yDIGITS => k_is)
    (case yLETTERS => k_is)
    (case yMOST_COST => k_is)
    (case yMOST_WAITING => k_is)
    (case aRoomG => k_is)
    (case pgRoom => k_is)
    (case hdRoom => k_is)
    (case poRoom => k_is)
    (case saRoom => k_is)
    (case mkRoom => k_is)
    (case kpRoom => k_is)
    (case nRoom_weights => k_is)
    (case nRoom_marks => k_is)
    (case nRoom_level => k_is)
    (case nRoom_scale => k_is)
    (case nRoom_waiting => k_is)
    (case atRoom_init => k_is)
    (case lRoom_init => k_is)
    (case cRoom_init => k_is)
    (case kRoom_init => k_is)
    (case iRoom_init => k_is)
    (case atRoom_head => k_is)
    (case geRoom_head => k_is)
    (case taRoom_head => k_is)
    (case rcRoom_head => k_is)
    (case lRoom_head => k_is)
    (case cRoom_head => k_is)
    (case kRoom_head => k_is)
    (case iRoom_head => k_is)
    (case atRoom_join => k_is)
    (case lRoom_join => k_is)
    (case cRoom_join => k_is)
    (case kRoom_join => k_is)
    (case iRoom_join => k_is)
    (case lTj => k_is)
    (case vTj => rfl)
    (case atRoom_serve => k_is)
    (case lRoom_serve => k_is)
    (case cRoom_serve => k_is)
    (case kRoom_serve => k_is)
    (case iRoom_serve => k_is)
    (case atRoom_leave => k_is)
    (case lRoom_leave => k_is)
    (case cRoom_leave => k_is)
    (case kRoom_leave => k_is)
    (case iRoom_leave => k_is)
    (case atRoom_waiting => k_is)
    (case lRoom_waiting => k_is)
    (case cRoom_waiting => k_is)
    (case kRoom_waiting => k_is)
    (case iRoom_waiting => k_is)
    (case atRoom_mark_of => k_is)
    (case lRoom_mark_of => k_is)
    (case cRoom_mark_of => k_is)
    (case kRoom_mark_of => k_is)
    (case iRoom_mark_of => k_is)
    (case atRoom_level => k_is)
    (case geRoom_level => k_is)
    (case taRoom_level => k_is)
    (case rcRoom_level => k_is)
    (case lRoom_level => k_is)
    (case cRoom_level => k_is)
    (case kRoom_level => k_is)
    (case iRoom_level => k_is)
    (case atRoom_scale => k_is)
    (case geRoom_scale => k_is)
    (case taRoom_scale => k_is)
    (case rcRoom_scale => k_is)
    (case lRoom_scale => k_is)
    (case cRoom_scale => k_is)
    (case kRoom_scale => k_is)
    (case iRoom_scale => k_is)
    (case atRoom_len => k_is)
    (case lRoom_len => k_is)
    (case cRoom_len => k_is)
    (case kRoom_len => k_is)
    (case iRoom_len => k_is)
    (case atRoom_bool => k_is)
    (case lRoom_bool => k_is)
    (case cRoom_bool => k_is)
    (case kRoom_bool => k_is)
    (case iRoom_bool => k_is)
    (case atRoom_copy => k_is)
    (case lRoom_copy => k_is)
    (case cRoom_copy => k_is)
    (case kRoom_copy => k_is)
    (case iRoom_copy => k_is)
    (case xlcm => k_is)