import PyProof.Rows.All
import Wide.All
import OpenK.AllK
import Wide.FinOn
import HandS.ForMost
import HandS.IsInst
import HandS.Evl
import HandS.Zip
import HandS.ExcInit
import HandS.ExcIs
import HandS.Walk
import KE.KExcIs
import KE.KxText
import HandS.Nested
import HandS.Star
import HandS.More
import HandS.MethStar
import KE.KSuper
import HandS.FStr
import HandS.Gcd
import KE.KMathGC
import HandS.TupSets
import HandS.RaiseMore
import HandS.GenList
import HandS.Defaults
import PySem.Challenge.RW_surelet_k03_whole_latest_moments
set_option Elab.async false
set_option linter.all false
set_option maxRecDepth 100000
set_option maxHeartbeats 4000000
namespace LC
open PySem L2
/-- a def as it stands behind the top: its text, its name, how its arguments bind -/
structure Def (K : PySem.W.Frag) (mg : Str → Option Value) (x : Str) (st : Stmt) (ps : List Str) (f : Addr) (fd : FuncData) : Prop where
  F : Fun K x x st f fd
  g : mg x = some (.ref f)
  b : Binds K fd ps []
/-- all but the bag at g is as it was -/
def Kp (g : Addr) (H H' : Hp) : Prop := ∀ b o, b ≠ g → H b = some o → H' b = some o
theorem Kp.refl (g : Addr) (H : Hp) : Kp g H H := fun _ _ _ h => h
theorem Kp.trans {g : Addr} {H H1 H2 : Hp} (a : Kp g H H1) (b : Kp g H1 H2) : Kp g H H2 := fun c o n h => b c o n (a c o n h)
theorem Kp.upd {g : Addr} {H H1 : Hp} {p : Addr} {o : HO} (a : Kp g H H1) (h : H1 p = none) : Kp g H (upd H1 p o) := fun c u n e => by
  have q := a c u n e
  rw [upd_ne (ne_of_none q h)]
  exact q
theorem Kp.bag {g : Addr} {H H1 : Hp} {o : HO} (a : Kp g H H1) : Kp g H (L2.upd H1 g o) := fun c u n e => by
  rw [upd_ne n]
  exact a c u n e
theorem Kp.free {g : Addr} {H H' : Hp} (e : Kp g H H') {l : Addr} (hl : l ≠ g) (h : H' l = Option.none) : H l = Option.none := by
  cases q : H l with
  | none => rfl
  | some o =>
    rw [e l o hl q] at h
    cases h
/-- the bag of draws at g, the script's copy at l -/
def Bag (l : Addr) (H : Hp) (g : Addr) : Prop := ∃ (ns : List Int) (i d s c : Int), H g = some (.lst [.ref l, .int i, .int d, .int s, .int c]) ∧ l ≠ g ∧ H l = some (.lst (ns.map V.int)) ∧
  0 ≤ i ∧ i ≤ ns.length ∧ 0 ≤ d ∧ 0 ≤ s ∧ s < 2147483399
theorem Bag.there {l : Addr} {H : Hp} {g : Addr} (B : Bag l H g) : (∃ xs, H g = some (.lst xs)) ∧ ∃ xs, H l = some (.lst xs) := by
  obtain ⟨ns, i, d, s, c, h, _, h2, _⟩ := B
  exact ⟨⟨_, h⟩, ⟨_, h2⟩⟩
theorem Bag.ne {l : Addr} {H : Hp} {g p : Addr} (B : Bag l H g) (h : H p = none) : p ≠ g ∧ p ≠ l := by
  obtain ⟨⟨xs, q⟩, ⟨ys, r⟩⟩ := B.there
  refine ⟨fun e => ?_, fun e => ?_⟩
  · rw [e, q] at h
    cases h
  · rw [e, r] at h
    cases h
theorem Bag.mut {l : Addr} {H : Hp} {g p : Addr} {o : HO} (B : Bag l H g) (h : p ≠ g) (h' : p ≠ l) : Bag l (L2.upd H p o) g := by
  obtain ⟨ns, i, d, s, c, h1, h2, h3, r⟩ := B
  exact ⟨ns, i, d, s, c, by rw [upd_ne (Ne.symm h)]; exact h1, h2, by rw [upd_ne (Ne.symm h')]; exact h3, r⟩
/-- from H0 to H: all but the bag stands, things came beside it, the bag is one -/
structure Ok (g l : Addr) (H0 H : Hp) : Prop where
  b0 : Bag l H0 g
  kp : Kp g H0 H
  bag : Bag l H g
theorem Ok.refl {g l : Addr} {H : Hp} (B : Bag l H g) : Ok g l H H := ⟨B, Kp.refl g H, B⟩
theorem Ok.trans {g l : Addr} {H H1 H2 : Hp} (a : Ok g l H H1) (b : Ok g l H1 H2) : Ok g l H H2 := ⟨a.b0, a.kp.trans b.kp, b.bag⟩
theorem Ok.new {g l p : Addr} {H H1 : Hp} {o : HO} (a : Ok g l H H1) (h : H1 p = none) : Ok g l H (L2.upd H1 p o) := ⟨a.b0, a.kp.upd h, a.bag.mut (a.bag.ne h).1 (a.bag.ne h).2⟩
theorem Ok.free {g l p : Addr} {H H1 : Hp} (a : Ok g l H H1) (h : H1 p = none) : H p = none := a.kp.free (a.bag.ne h).1 h
theorem Ok.mut {g l p : Addr} {H H1 : Hp} {o : HO} (a : Ok g l H H1) (h : H p = none) : Ok g l H (L2.upd H1 p o) :=
  ⟨a.b0, fun b u n e => by rw [upd_ne (ne_of_none e h)]; exact a.kp b u n e, a.bag.mut (a.b0.ne h).1 (a.b0.ne h).2⟩
theorem Ok.at_ {g l p : Addr} {H H1 : Hp} {o : HO} (a : Ok g l H H1) (h : H p = some o) (n : p ≠ g) : H1 p = some o := a.kp p o n h
theorem SqL.kp {K : PySem.W.Frag} {g : Addr} {H H' : Hp} {a : Addr} {xs : List V} (e : Kp g H H') (n : a ≠ g) (h : SqL K H a xs) : SqL K H' a xs := by
  rcases h with (h | ⟨o, h⟩) | h
  · exact .inl (.inl (e _ _ n h))
  · exact .inl (.inr ⟨o, e _ _ n h⟩)
  · exact .inr h
theorem SqT.kp {K : PySem.W.Frag} {g : Addr} {H H' : Hp} {a : Addr} {xs : List V} (e : Kp g H H') (n : a ≠ g) (h : SqT K H a xs) : SqT K H' a xs := by
  rcases h with (h | ⟨o, h⟩) | h
  · exact .inl (.inl (e _ _ n h))
  · exact .inl (.inr ⟨o, e _ _ n h⟩)
  · exact .inr h
theorem ite_b {c : Bool} {A B : Prop} (h1 : c = true → A) (h2 : c = false → B) : if c = true then A else B := by
  cases c with
  | true => exact iteT (h1 rfl)
  | false => exact iteF (h2 rfl)
/-- a test of two ints -/
theorem ite_d {p : Prop} [Decidable p] {A B : Prop} (h1 : p → A) (h2 : ¬ p → B) : if decide p = true then A else B := by
  by_cases h : p
  · rw [decide_eq_true h]
    exact iteT (h1 h)
  · rw [decide_eq_false h]
    exact iteF (h2 h)
theorem ite_eq {i j : Int} {A B : Prop} (h1 : i = j → A) (h2 : i ≠ j → B) : if decide (V.int i = V.int j) = true then A else B :=
  ite_d (fun h => h1 (V.int.inj h)) fun h => h2 fun e => h (by rw [e])
section
variable {X : Cx} {CX : CXT} {k : Nat} {f : Addr} {fd : FuncData} {ps ks : List Str} {sp : Sp} {E : XK} {x : Str} {p pos : Pos} {kws : List Keyword} {tk : TA} {g : List Value → List Value → List Value} {gV : List V → List V → List V}
theorem pe_callK0 (F : FnOk X.prog X.w X.K X.mg X.base CX k f fd ps sp) (hr : Room k X.A) (hg : Gl X x) (hm : X.mg x = some (.ref f)) (hk : PySem.W.keepIn X.K (.ref f) = true) (hb : KBinds X.K fd ps ks g gV) (hx : Passes CX X E)
    (hkw : PK X kws tk) (hall : (backToKw pos (keywordEach kws X.env)).all (·.1.isSome) = true := by rfl) (hks : (backToKw pos (keywordEach kws X.env)).filterMap (·.1) = ks := by rfl)
    (hdb : (x == ("__debug__" : Str)) = false := by decide) (hpl : ((backTo pos (starEach [] X.env)).any (·.1) || (backToKw pos (keywordEach kws X.env)).any (·.1.isNone)) = false := by rfl) :
    PE X (.Call (.Name x p) [] kws pos) (tCallK sp gV E tNil tk) := by
  refine ⟨fun pins s σ H Q I h => ?_⟩
  refine wpAny_Call_Name_kw (ld_glob I hg hm ?_ hdb)
  refine PySem.W.callWith_KW0 (h₀ := X.base) I.ok.mod.kin hk hall ?_ hpl
  refine thn (hkw.run pos pins s σ H _ I h) fun ws s2 ⟨zs, H2, I2, rz, q2⟩ => ⟨I2.kIn, ?_⟩
  rw [hks]
  exact run_fnk (us := []) F hr hb hx I2 .nil rz q2
end
end LC
namespace LC
open PySem L2
theorem cut_ints (ns : List Int) (lo hi : Option Int) : ∃ ms : List Int, cutV (ns.map V.int) lo hi = ms.map V.int ∧ ms.length ≤ ns.length := by
  refine ⟨(ns.drop (HT.sIx ns.length 0 lo)).take (HT.sIx ns.length ns.length hi - HT.sIx ns.length 0 lo), ?_, ?_⟩
  · unfold cutV
    rw [List.length_map, ← List.map_drop, ← List.map_take]
  · rw [List.length_take, List.length_drop]
    omega
theorem same_new {H : Hp} {p : Addr} {o : HO} (h : H p = none) : Same H (upd H p o) := fun b u e => by
  rw [upd_ne (ne_of_none e h)]
  exact e
theorem int_of {ns : List Int} {i : Nat} {y : V} (h : (ns.map V.int)[i]? = some y) : ∃ u, y = V.int u := by
  rw [List.getElem?_map] at h
  cases e : ns[i]? with
  | none =>
    rw [e] at h
    cases h
  | some u =>
    rw [e] at h
    exact ⟨u, (Option.some.inj h).symm⟩
end LC

namespace LC
theorem fmod_nn (a : Int) {n : Int} (h : 0 < n) : 0 ≤ a.fmod n := by
  rw [Int.fmod_eq_emod_of_nonneg _ (Int.le_of_lt h)]
  exact Int.emod_nonneg _ (by omega)
theorem fmod_lt (a : Int) {n : Int} (h : 0 < n) : a.fmod n < n := by
  rw [Int.fmod_eq_emod_of_nonneg _ (Int.le_of_lt h)]
  exact Int.emod_lt_of_pos _ h
end LC

namespace LC
open PySem L2
/-- a value of any of the drawn kinds; C: the error's class -/
inductive Th (C g : Addr) (H : Hp) : V → Prop where
  | non : Th C g H .non
  | bl (b : Bool) : Th C g H (.bl b)
  | int (i : Int) : Th C g H (.int i)
  | str (z : Str) (h : z.length ≤ 1000000) : Th C g H (.str z)
  | lst {a : Addr} {xs : List V} (h : H a = some (.lst xs)) (n : a ≠ g) : Th C g H (.ref a)
  | tup {a : Addr} {xs : List V} (h : H a = some (.tup xs)) (n : a ≠ g) : Th C g H (.ref a)
  | dK {a : Addr} {kvs : List (Key × V)} (h : H a = some (.dK kvs)) (n : a ≠ g) : Th C g H (.ref a)
  | exo {a d : Addr} {fs : List (Str × V)} (h : H a = some (exo a C (some d))) (n : a ≠ g) (hd : H d = some (exd d fs)) (nd : d ≠ g) : Th C g H (.ref a)
theorem Th.kp {C g : Addr} {H H' : Hp} {v : V} (r : Kp g H H') (t : Th C g H v) : Th C g H' v := by
  cases t with
  | non => exact .non
  | bl b => exact .bl b
  | int i => exact .int i
  | str z h => exact .str z h
  | lst h n => exact .lst (r _ _ n h) n
  | tup h n => exact .tup (r _ _ n h) n
  | dK h n => exact .dK (r _ _ n h) n
  | exo h n hd nd => exact .exo (r _ _ n h) n (r _ _ nd hd) nd
theorem Th.list {C g l : Addr} {H0 H : Hp} {p : Addr} {xs : List V} (a : Ok g l H0 H) (h : H p = none) : Th C g (upd H p (.lst xs)) (.ref p) := .lst upd_same (a.bag.ne h).1
theorem Th.tupl {C g l : Addr} {H0 H : Hp} {p : Addr} {xs : List V} (a : Ok g l H0 H) (h : H p = none) : Th C g (upd H p (.tup xs)) (.ref p) := .tup upd_same (a.bag.ne h).1
theorem upd_kp {g l : Addr} {H0 H : Hp} {p : Addr} {o : HO} (a : Ok g l H0 H) (h : H p = none) : Kp g H (upd H p o) := (Ok.new (Ok.refl a.bag) h).kp
/-- a comprehension over a text whose element leaves the heap -/
theorem lc_text {z : Str} {j : Nat} {te : TE} {vs : List Nat} {σ : L2.St} {H1 : Hp} {D : Addr} {Qd : Hp → Prop} (f : Nat → V) (hD : H1 D = none) (hz : z.length ≤ 1000000) (hw : ∀ x, wipe ((wipe σ vs).set j (some x)) vs = wipe σ vs)
    (he : ∀ (c : Nat) (H : Hp) (Q : VK), c ∈ z.cps.toList → Q (f c) H → te ((wipe σ vs).set j (some (.str ⟨#[c]⟩))) H Q) (hd : Qd (upd H1 D (.lst (z.cps.toList.map f)))) :
    ∃ W : Nat → Nat → Hp → Prop, (∃ m, W 0 m (upd H1 D (.lst []))) ∧ ∀ i m H, W i m H →
      ((Its z).stop i H ∧ Qd H) ∨ ((Its z).go i H ∧ ∃ Nx : Hp → Prop, (∀ H', Nx H' → ∃ m', m' < m ∧ W (i + 1) m' H') ∧ ∀ x H', (Its z).yld i H x H' → gName j x (wipe σ vs) H' fun σ2 H2 => wipe σ2 vs = wipe σ vs ∧ tYes σ2 H2 fun b H3 =>
        if b = true then te σ2 H3 fun y H4 => ∃ acc, H4 D = some (.lst acc) ∧ acc.length < sizeLine ∧ Nx (upd H4 D (.lst (acc ++ [y]))) else Nx H3) := by
  have hn : z.cps.toList.length = z.cps.size := Array.length_toList
  refine lc_it (walk_str (z := z)) (fun i H => i ≤ z.cps.size ∧ H = upd H1 D (.lst ((z.cps.toList.take i).map f))) ⟨Nat.zero_le _, rfl⟩ (fun _ _ _ _ => trivial) ?_ ?_
  · rintro i x H H' hi ⟨_, rfl⟩ ⟨rfl, c, hc, rfl⟩
    refine ⟨hw _, ?_⟩
    have hc' : z.cps.toList[i]? = some c := by rw [Array.getElem?_toList]; exact hc
    refine he c _ _ (List.mem_of_getElem? hc') ?_
    refine ⟨_, upd_same, ?_, hi, ?_⟩
    · rw [List.length_map, List.length_take]
      have e1 : z.cps.size = z.length := rfl
      exact Nat.lt_of_le_of_lt (Nat.min_le_right _ _) (Nat.lt_of_le_of_lt (by rw [hn, e1]; exact hz) (by decide : 1000000 < sizeLine))
    · rw [upd_upd, List.take_add_one, hc', List.map_append]
      rfl
  · rintro H ⟨_, rfl⟩
    rw [← hn, List.take_length]
    exact hd
end LC
namespace LC
open PySem L2 PySem.Spec PyProof.Rows
/-- C(e, ..) as a value, C an own error class over ValueError with its own __init__, which keeps sp -/
def tMkV (C : Addr) (sp : Sp) (ta : TA) : TE := fun σ H Q => ta σ H fun vs H1 => vs.length ≤ 1000 ∧ ∀ a, H1 a = none → sp (.ref a :: vs) (upd H1 a (exo a C none)) (fun v H2 => v = .non ∧ Q (.ref a) H2) (fun _ _ _ => False)
section
variable {X : Cx} {e : Expr} {es : List Expr} {ta : TA} {p pos : Pos}
theorem pe_oexV {CX : CXT} {x : Str} {C fI : Addr} {k : Nat} {fd : FuncData} {ps : List Str} {sp : Sp} (T : OexC X.K C) (iC : PySem.W.findIn X.K (.ref C) "__init__" = some (some (.ref fI))) (tI : PySem.W.typeIn X.K (.ref fI) = some (.type "function"))
    (F1 : FnOk X.prog X.w X.K X.mg X.base CX k fI fd ps sp) (hr : Room (k + 1) X.A) (hb : Binds X.K fd ps []) (hx : Passes CX X (fun _ _ _ => False)) (hg : Gl X x) (hm : X.mg x = some (.ref C)) (ha : PA X (e :: es) ta)
    (hdb : (x == ("__debug__" : Str)) = false := by decide) (he : starEach (e :: es) X.env = (false, eval e X.env) :: starEach es X.env := by rfl) (hpl : (backTo pos (starEach es X.env)).any (·.1) = false := by rfl) :
    PE X (.Call (.Name x p) (e :: es) [] pos) (tMkV C sp ta) := by
  refine ⟨fun pins s σ H Q I h => ?_⟩
  obtain ⟨nm, q, N, bs, bm, sn, sub, ab, col, dd, k0, k1, k2, k3, k5, hC, hbm⟩ := T.cls
  refine wpAny_Call_Name_kw (ld_glob I hg hm ?_ hdb)
  refine PySem.W.callWith_K (h₀ := X.base) I.ok.mod.kin T.kC (thn (ha.run pos pins s σ H _ I h) fun us s1 ⟨vs, H1, I1, r1, hz, q1⟩ => ⟨I1.kIn, ?_⟩) he hpl
  show wpAny _ _ (call (.ref C) us) _ _ _
  obtain ⟨hp, g, dr, tk, os⟩ := s1
  have hsz : hp.objs.size ≤ hp.objs.size + 1 := Nat.le_succ _
  have hn : H1 (hp.objs.size + 1) = none := I1.hok.fresh hsz
  have hq := q1 (hp.objs.size + 1) hn
  have kk : ∀ b o, hp.get? b = some o → ((hp.push (PySem.W.kdv_tup us)).push (PySem.HandSPX.excO C hp.objs.size)).get? b = some o := fun b o e => Heap.get?_push_of_some _ (Heap.get?_push_of_some _ e)
  have hget : ((hp.push (PySem.W.kdv_tup us)).push (PySem.HandSPX.excO C hp.objs.size)).get? (hp.objs.size + 1) = some (PySem.HandSPX.excO C hp.objs.size) := by heap_get
  have I2 : L2.Inv X pins σ (upd H1 (hp.objs.size + 1) (exo (hp.objs.size + 1) C none)) ⟨(hp.push (PySem.W.kdv_tup us)).push (PySem.HandSPX.excO C hp.objs.size), g, dr, tk, os⟩ :=
    I1.laid (t' := tk) (a := hp.objs.size + 1) (o := exo (hp.objs.size + 1) C none) (h' := (hp.push (PySem.W.kdv_tup us)).push (PySem.HandSPX.excO C hp.objs.size)) kk hsz (exo_ok hget)
  have r2 : Vals (V.ref (hp.objs.size + 1) :: vs) (Value.ref (hp.objs.size + 1) :: us) := .cons rfl r1
  have hl : (Value.ref (hp.objs.size + 1) :: us ++ []).length = ps.length := by
    have e := r2.length
    rw [F1.len _ _ _ _ hq] at e
    rw [List.append_nil]
    exact e.symm
  have hus : us.length ≤ sizeLine := by
    rw [← Paired.length r1, sizeLine_eq]
    omega
  have hbb := hb _ (Value.ref (hp.objs.size + 1) :: us) I2.kIn hl
  rw [List.append_nil] at hbb
  refine wpAny_call (PySem.HandSPX.call_own F.excBase_ValueError (fun Y => PySem.HandSPX.refsVE_contains Y bm hbm) (I1.kIn _ _ hC) (PySem.W.looks_findIn I1.kIn iC) (fun self => PySem.W.bind_fn I1.kIn self tI) hus
    (codeAny_mono (F1.run _ X.stack _ _ ⟨Value.ref (hp.objs.size + 1) :: us, []⟩ (Value.ref (hp.objs.size + 1) :: us) _ _ (fun _ _ _ => False) (hr.make C us []) (I2.env0.make C us []) hbb r2 hq) fun r s' hq' => ?_))
  cases r with
  | error er => exact hx pins σ _ _ er s' I2 hq'
  | ok fl =>
    cases fl with
    | ret u =>
      obtain ⟨v, H2, os2, bare2, un2, hok2, rv, ev, q2⟩ := hq'
      subst ev
      exact ⟨rv, .ref (hp.objs.size + 1), H2, I2.call' (ch := []) os2 un2 hok2 bare2 (fun b hb => by cases hb), rfl, q2⟩
    | next => exact False.elim hq'
    | brk => exact False.elim hq'
    | cont => exact False.elim hq'
end
/-- what the written part says of an own error class, for isinstance -/
structure IsC (K : PySem.W.Frag) (C : Addr) : Prop where
  hcl : (PySem.W.clsIn K C).isSome = true
  hga : PySem.W.findIn K (.ref C) "__getattribute__" = some (some (.builtin "BaseException.__getattribute__"))
  hgt : PySem.W.findIn K (.ref C) "__getattr__" = some none
  hsub : PySem.W.subIn K (.ref C) (.type "BaseException") = some true
  ha : PySem.W.findIn K (.ref C) "__class__" = some (some (.builtin "object.__class__"))
  hn : PySem.W.specialIn K (.builtin "object.__class__") "__get__" = some (some (.builtin "getset_descriptor.__get__"))
  htk : PySem.W.takesIn K (.builtin "object.__class__") = some true
  hm : PySem.W.mroIn K C (.type "object") = some true
/-- isinstance(x, c), x an own error too -/
def rIsX (K : PySem.W.Frag) : List V → Hp → VK → Prop := fun xs H Q => rIsi K xs H Q ∨
  ∃ (a C d : Addr) (c : V) (cv : Value) (b : Bool) (fs : List (Str × V)), xs = [.ref a, c] ∧ IsC K C ∧ H a = some (exo a C (some d)) ∧ H d = some (exd d fs) ∧ ClsV c cv ∧ PySem.W.kitOne K (.ref C) cv = some b ∧ Q (.bl b) H
theorem call_isX {X : Cx} : CallR X (.builtin "isinstance") (rIsX X.K) := by
  intro pins s σ H xs us Q I r h
  rcases h with h | ⟨a, C, d, c, cv, b, fs, rfl, T, ha, hd, k, e, q⟩
  · exact call_isi pins s σ H xs us Q I r h
  · obtain ⟨u1, u2, rfl, r1, r2⟩ := vals2 r
    have e2 := k.eq r2
    subst e2
    obtain rfl : u1 = Value.ref a := r1
    obtain ⟨t1, ho⟩ := exo_at I.hok ha
    obtain ⟨od, hod⟩ : ∃ od, s.heap.get? d = some od := by
      obtain ⟨_, z, _⟩ := I.hok d _ hd
      exact z
    have J : PySem.W.InstAt s.heap a { cls := .ref C, dict := some d, data := .fields #[.ref t1, .none, .none, .none, .bool false, .none] } C (some od) := ⟨ho, rfl, rfl, hod⟩
    exact PySem.W.kia_one (PySem.W.kitx_exc T.hcl T.hga T.hgt T.hsub T.ha T.hn T.htk T.hm) I.kIn J e (fun z => nomatch z) fun tk => ⟨.bl b, H, I.tok tk, rfl, q⟩
end LC

namespace LC
open PySem L2
/-! the values of isinstance(x, int | bool | str) -/
def isI : V → Bool | .int _ => true | .bl _ => true | _ => false
def isB : V → Bool | .bl _ => true | _ => false
def isS : V → Bool | .str _ => true | _ => false
/-- what the error's class answers -/
structure NoB (K : PySem.W.Frag) (C : Addr) : Prop where
  is : IsC K C
  i : PySem.W.kitOne K (.ref C) (.type "int") = some false
  b : PySem.W.kitOne K (.ref C) (.type "bool") = some false
  s : PySem.W.kitOne K (.ref C) (.type "str") = some false
theorem isi_th {K : PySem.W.Frag} {C g : Addr} {H : Hp} {v : V} {Q : VK} (N : NoB K C) (t : Th C g H v) : (Q (.bl (isI v)) H → rIsX K [v, .ty "int"] H Q) ∧ (Q (.bl (isB v)) H → rIsX K [v, .ty "bool"] H Q) ∧ (Q (.bl (isS v)) H → rIsX K [v, .ty "str"] H Q) := by
  have go : ∀ {x : V} {T S : String} {b : Bool}, TyOf K H x (.type T) → kitB T S = some b → Q (.bl b) H → rIsX K [x, .ty S] H Q := fun ty e q => .inl ⟨_, _, _, _, _, rfl, .ty _, .base ty, kit_ty e, q⟩
  cases t with
  | non => exact ⟨go .non (show kitB "NoneType" "int" = some false by decide +kernel), go .non (show kitB "NoneType" "bool" = some false by decide +kernel), go .non (show kitB "NoneType" "str" = some false by decide +kernel)⟩
  | bl b => exact ⟨go (.bl b) (show kitB "bool" "int" = some true by decide +kernel), go (.bl b) (show kitB "bool" "bool" = some true by decide +kernel), go (.bl b) (show kitB "bool" "str" = some false by decide +kernel)⟩
  | int i => exact ⟨go (.int i) (show kitB "int" "int" = some true by decide +kernel), go (.int i) (show kitB "int" "bool" = some false by decide +kernel), go (.int i) (show kitB "int" "str" = some false by decide +kernel)⟩
  | str z h => exact ⟨go (.str z) (show kitB "str" "int" = some false by decide +kernel), go (.str z) (show kitB "str" "bool" = some false by decide +kernel), go (.str z) (show kitB "str" "str" = some true by decide +kernel)⟩
  | lst h n => exact ⟨go (.lst h) (show kitB "list" "int" = some false by decide +kernel), go (.lst h) (show kitB "list" "bool" = some false by decide +kernel), go (.lst h) (show kitB "list" "str" = some false by decide +kernel)⟩
  | tup h n => exact ⟨go (.tup h) (show kitB "tuple" "int" = some false by decide +kernel), go (.tup h) (show kitB "tuple" "bool" = some false by decide +kernel), go (.tup h) (show kitB "tuple" "str" = some false by decide +kernel)⟩
  | dK h n => exact ⟨go (.dK h) (show kitB "dict" "int" = some false by decide +kernel), go (.dK h) (show kitB "dict" "bool" = some false by decide +kernel), go (.dK h) (show kitB "dict" "str" = some false by decide +kernel)⟩
  | exo h n hd nd => exact ⟨fun q => .inr ⟨_, C, _, _, _, _, _, rfl, N.is, h, hd, .ty _, N.i, q⟩, fun q => .inr ⟨_, C, _, _, _, _, _, rfl, N.is, h, hd, .ty _, N.b, q⟩, fun q => .inr ⟨_, C, _, _, _, _, _, rfl, N.is, h, hd, .ty _, N.s, q⟩⟩
def isNum (v : V) (lo hi : Int) : Bool := match v with | .int i => decide (lo ≤ i) && decide (i ≤ hi) | _ => false
def chL (c : Nat) : Bool := decide (97 ≤ c) && decide (c ≤ 122)
def chD (c : Nat) : Bool := decide (48 ≤ c) && decide (c ≤ 57)
def isNam (v : V) : Bool := match v with | .str z => decide (1 ≤ z.length) && decide (z.length ≤ 8) && chL (z.cps.toList.getD 0 0) && z.cps.toList.all (fun c => chL c || chD c) | _ => false
theorem mem_low (c : Nat) : decide (c ∈ ("abcdefghijklmnopqrstuvwxyz" : Str).cps.toList) = chL c := by
  have e : ("abcdefghijklmnopqrstuvwxyz" : Str).cps.toList = List.range' 97 26 := by decide +kernel
  rw [e]
  unfold chL
  rw [← Bool.decide_and]
  refine decide_eq_decide.mpr ?_
  rw [List.mem_range'_1]
  omega
theorem mem_dig (c : Nat) : decide (c ∈ ("0123456789" : Str).cps.toList) = chD c := by
  have e : ("0123456789" : Str).cps.toList = List.range' 48 10 := by decide +kernel
  rw [e]
  unfold chD
  rw [← Bool.decide_and]
  refine decide_eq_decide.mpr ?_
  rw [List.mem_range'_1]
  omega
end LC
namespace LC
open PySem L2
theorem pe_ty {X : Cx} {x : Str} {pos : Pos} (n : String) (hg : Gl X x) (hm : X.mg x = none) (hv : bootBuiltins x = some (.type n)) (hn : x ≠ "__name__" := by decide) (hd : (x == ("__debug__" : Str)) = false := by decide) : PE X (.Name x pos) (tC (.ty n)) :=
  pe_bltn hg hm hv rfl hn hd
end LC
namespace LC
open PySem L2
theorem ite_nd {p : Prop} [Decidable p] {A B : Prop} (h1 : ¬ p → A) (h2 : p → B) : if (!decide p) = true then A else B := by
  by_cases h : p
  · rw [decide_eq_true h]
    exact iteF (h2 h)
  · rw [decide_eq_false h]
    exact iteT (h1 h)
theorem ite_nb {c : Bool} {A B : Prop} (h1 : c = false → A) (h2 : c = true → B) : if (!c) = true then A else B := by
  cases c with
  | true => exact iteF (h2 rfl)
  | false => exact iteT (h1 rfl)
theorem ite_is {a b : Bool} {A B : Prop} (e : a = b) (h1 : b = true → A) (h2 : b = false → B) : if a = true then A else B := by
  subst e
  exact ite_b h1 h2
theorem Ok.same {g l : Addr} {H0 H H' : Hp} (a : Ok g l H0 H) (s : Same H H') : Ok g l H0 H' := by
  refine ⟨a.b0, fun b o n e => s _ _ (a.kp b o n e), ?_⟩
  obtain ⟨ns, i, d, t, c, h1, h2, h3, r⟩ := a.bag
  exact ⟨ns, i, d, t, c, s _ _ h1, h2, s _ _ h3, r⟩
theorem Th.same {C g : Addr} {H H' : Hp} {v : V} (t : Th C g H v) (s : Same H H') : Th C g H' v := t.kp fun b o _ e => s b o e
theorem len1 {z : Str} (h : 1 ≤ z.length) : ∃ c, z.cps.toList[0]? = some c ∧ z.cps.toList.getD 0 0 = c := by
  have e : z.cps.toList.length = z.length := rfl
  have h0 : 0 < z.cps.toList.length := by omega
  refine ⟨z.cps.toList[0], List.getElem?_eq_getElem h0, ?_⟩
  rw [List.getD_eq_getElem?_getD, List.getElem?_eq_getElem h0]
  rfl
theorem sz_str {z : Str} (h : z.length ≤ 1000000) : z.length ≤ sizeLine := Nat.le_trans h (by decide)
theorem bls_map {α : Type} (l : List α) (f : α → Bool) : (l.map fun c => V.bl (f c)) = (l.map f).map V.bl := by
  rw [List.map_map]
  rfl
theorem all_id {α : Type} (l : List α) (f : α → Bool) : (l.map f).all id = l.all f := by
  rw [List.all_map]
  rfl
theorem isNam_str (z : Str) : isNam (.str z) = (decide (1 ≤ z.length) && decide (z.length ≤ 8) && chL (z.cps.toList.getD 0 0) && z.cps.toList.all (fun c => chL c || chD c)) := rfl
end LC
namespace LC
open PySem L2
theorem pe_gstr {X : Cx} {x z : Str} {t : Tok} {pos : Pos} (hg : Gl X x) (hm : X.mg x = some (.str z t)) (hd : (x == ("__debug__" : Str)) = false := by decide) : PE X (.Name x pos) (tC (.str z)) := pe_glob hg hm ⟨_, rfl⟩ hd
theorem pe_gint {X : Cx} {x : Str} {z : Int} {t : Tok} {pos : Pos} (hg : Gl X x) (hm : X.mg x = some (.int z t)) (hd : (x == ("__debug__" : Str)) = false := by decide) : PE X (.Name x pos) (tC (.int z)) := pe_glob hg hm ⟨_, rfl⟩ hd
end LC

namespace LC
open PySem L2
/-- ord('a') <= ord(sign) <= ord('z') as an element -/
theorem ord_in {a b : Str} {c i lo hi : Nat} {σ : L2.St} {H : Hp} {Q : VK} {f : Nat → Bool} (h1 : a.length = 1 ∧ a.cps.getD 0 0 = lo) (h2 : b.length = 1 ∧ b.cps.getD 0 0 = hi) (hf : f c = (decide (lo ≤ c) && decide (c ≤ hi))) (hs : σ[i]? = some (some (.str ⟨#[c]⟩))) (q : Q (.bl (f c)) H) :
    tChain (rI0 fun i j => .bl (decide (i ≤ j))) (rI0 fun i j => .bl (decide (i ≤ j))) (tCB (fun xs H Q => ∃ x, xs = [.str x] ∧ x.length = 1 ∧ Q (.int (x.cps.getD 0 0 : Nat)) H) (tCons (tC (.str a)) tNil))
      (tCB (fun xs H Q => ∃ x, xs = [.str x] ∧ x.length = 1 ∧ Q (.int (x.cps.getD 0 0 : Nat)) H) (tCons (tVar i) tNil)) (tCB (fun xs H Q => ∃ x, xs = [.str x] ∧ x.length = 1 ∧ Q (.int (x.cps.getD 0 0 : Nat)) H) (tCons (tC (.str b)) tNil)) σ H Q := by
  refine ⟨a, rfl, h1.1, _, hs, _, rfl, rfl, _, _, rfl, rfl, _, rfl, ?_⟩
  rw [h1.2]
  refine ite_d (fun e1 => ?_) (fun e1 => ?_)
  · refine ⟨b, rfl, h2.1, _, _, rfl, rfl, ?_⟩
    rw [h2.2]
    have e : f c = decide ((c : Int) ≤ (hi : Int)) := by
      rw [hf, decide_eq_true (show lo ≤ c by exact Int.ofNat_le.mp e1), Bool.true_and]
      exact decide_eq_decide.mpr Int.ofNat_le.symm
    rw [e] at q
    exact q
  · have e : f c = false := by
      rw [hf, decide_eq_false (show ¬ lo ≤ c from fun z => e1 (Int.ofNat_le.mpr z)), Bool.false_and]
    rw [e] at q
    exact q
end LC
namespace LC
open PySem L2
/-- a comprehension over range(n) whose element draws: the list's items all in F -/
theorem lc_draws {n : Nat} {j : Nat} {te : TE} {vs : List Nat} {σ : L2.St} {g l : Addr} {H0 H1 : Hp} {D : Addr} {Qd : Hp → Prop} (F : Hp → V → Prop) (R : Ok g l H0 H1) (hD : H1 D = none) (hn : n ≤ 1000000)
    (hw : ∀ x, wipe ((wipe σ vs).set j (some x)) vs = wipe σ vs) (hF : ∀ x H H', F H x → Kp g H H' → F H' x) (hG : ∀ x H xs ys, H D = some (.lst xs) → F H x → F (upd H D (.lst ys)) x)
    (he : ∀ (i : Nat) (H : Hp) (Q : VK), i < n → Ok g l H0 H → (∀ x H', F H' x → Ok g l H H' → Q x H') → te ((wipe σ vs).set j (some (.int (0 + (i : Int))))) H Q)
    (hd : ∀ H xs, Ok g l H0 H → Kp g H1 H → H D = some (.lst xs) → xs.length = n → (∀ x ∈ xs, F H x) → Qd H) :
    ∃ W : Nat → Nat → Hp → Prop, (∃ m, W 0 m (upd H1 D (.lst []))) ∧ ∀ i m H, W i m H →
      ((Itr 0 n).stop i H ∧ Qd H) ∨ ((Itr 0 n).go i H ∧ ∃ Nx : Hp → Prop, (∀ H', Nx H' → ∃ m', m' < m ∧ W (i + 1) m' H') ∧ ∀ x H', (Itr 0 n).yld i H x H' → gName j x (wipe σ vs) H' fun σ2 H2 => wipe σ2 vs = wipe σ vs ∧ tYes σ2 H2 fun b H3 =>
        if b = true then te σ2 H3 fun y H4 => ∃ acc, H4 D = some (.lst acc) ∧ acc.length < sizeLine ∧ Nx (upd H4 D (.lst (acc ++ [y]))) else Nx H3) := by
  have nD := R.bag.ne hD
  refine lc_it walk_range (fun i H => i ≤ n ∧ Ok g l H1 H ∧ ∃ xs, H D = some (.lst xs) ∧ xs.length = i ∧ ∀ x ∈ xs, F H x) ⟨Nat.zero_le _, Ok.new (Ok.refl R.bag) hD, [], upd_same, rfl, fun x hx => by cases hx⟩ (fun _ _ _ _ => trivial) ?_ ?_
  · rintro i x H H' hi ⟨_, r, xs, h1, h2, h3⟩ ⟨rfl, rfl⟩
    refine ⟨hw _, ?_⟩
    refine he i _ _ hi (R.trans r) fun x H2 fx r2 => ?_
    have h4 := r2.kp D _ nD.1 h1
    refine ⟨xs, h4, Nat.lt_of_lt_of_le (by omega : xs.length < 1000000 + 1) (by decide), hi, (r.trans r2).mut hD, xs ++ [x], upd_same, by rw [List.length_append, h2]; rfl, fun y hy => ?_⟩
    refine hG y H2 xs _ h4 ?_
    rcases List.mem_append.mp hy with hy | hy
    · exact hF y _ _ (h3 y hy) r2.kp
    · rw [List.mem_singleton] at hy
      rw [hy]
      exact fx
  · rintro H ⟨_, r, xs, h1, h2, h3⟩
    exact hd H xs (R.trans r) r.kp h1 h2 h3
end LC

namespace LC
open PySem L2
theorem Th.lstmut {C g : Addr} {H : Hp} {D : Addr} {v : V} {xs ys : List V} (h : H D = some (.lst xs)) (t : Th C g H v) : Th C g (upd H D (.lst ys)) v := by
  cases t with
  | non => exact .non
  | bl b => exact .bl b
  | int i => exact .int i
  | str z h => exact .str z h
  | @lst a xs' h' n =>
    by_cases e : a = D
    · subst e
      exact .lst upd_same n
    · exact .lst (by rw [upd_ne e]; exact h') n
  | tup h' n => exact .tup (by rw [upd_ne (ne_of h' h (by intro z; cases z))]; exact h') n
  | dK h' n => exact .dK (by rw [upd_ne (ne_of h' h (by intro z; cases z))]; exact h') n
  | exo h' n hd nd => exact .exo (by rw [upd_ne (ne_of h' h (by intro z; cases z))]; exact h') n (by rw [upd_ne (ne_of hd h (by intro z; cases z))]; exact hd) nd
end LC

namespace LC
open PySem L2
theorem Th.dKmut {C g : Addr} {H : Hp} {D : Addr} {v : V} {xs ys : List (Key × V)} (h : H D = some (.dK xs)) (t : Th C g H v) : Th C g (upd H D (.dK ys)) v := by
  cases t with
  | non => exact .non
  | bl b => exact .bl b
  | int i => exact .int i
  | str z h => exact .str z h
  | @dK a xs' h' n =>
    by_cases e : a = D
    · subst e
      exact .dK upd_same n
    · exact .dK (by rw [upd_ne e]; exact h') n
  | tup h' n => exact .tup (by rw [upd_ne (ne_of h' h (by intro z; cases z))]; exact h') n
  | lst h' n => exact .lst (by rw [upd_ne (ne_of h' h (by intro z; cases z))]; exact h') n
  | exo h' n hd nd => exact .exo (by rw [upd_ne (ne_of h' h (by intro z; cases z))]; exact h') n (by rw [upd_ne (ne_of hd h (by intro z; cases z))]; exact hd) nd
theorem Th.upd {C g l : Addr} {H0 H : Hp} {p : Addr} {o : HO} {v : V} (a : Ok g l H0 H) (h : H p = none) (t : Th C g H v) : Th C g (L2.upd H p o) v := t.kp (upd_kp a h)
theorem Th.dict {C g l : Addr} {H0 H : Hp} {p : Addr} {xs : List (Key × V)} (a : Ok g l H0 H) (h : H p = none) : Th C g (L2.upd H p (.dK xs)) (.ref p) := .dK upd_same (a.bag.ne h).1
end LC

namespace LC
open PySem L2
/-- a dict stands at p -/
def Dd (g : Addr) (H : Hp) (p : Addr) : Prop := p ≠ g ∧ ∃ kvs, H p = some (.dK kvs)
theorem Dd.new {g : Addr} {H : Hp} {p q : Addr} {o : HO} (d : Dd g H p) (h : H q = none) : Dd g (L2.upd H q o) p := by
  obtain ⟨n, kvs, e⟩ := d
  exact ⟨n, kvs, by rw [upd_ne (ne_of_none e h)]; exact e⟩
theorem Dd.dict {g : Addr} {H : Hp} {p q : Addr} {kvs : List (Key × V)} (d : Dd g H p) : Dd g (L2.upd H q (.dK kvs)) p := by
  obtain ⟨n, ks, e⟩ := d
  by_cases h : p = q
  · subst h
    exact ⟨n, kvs, upd_same⟩
  · exact ⟨n, ks, by rw [upd_ne h]; exact e⟩
theorem Dd.mk' {g l : Addr} {H0 H : Hp} {p : Addr} {kvs : List (Key × V)} (a : Ok g l H0 H) (h : H p = none) : Dd g (L2.upd H p (.dK kvs)) p := ⟨(a.bag.ne h).1, kvs, upd_same⟩
theorem Dd.th {C g : Addr} {H : Hp} {p : Addr} (d : Dd g H p) : Th C g H (.ref p) := by
  obtain ⟨n, kvs, e⟩ := d
  exact .dK e n
end LC
namespace LC
open PySem L2
theorem strs_of (z : Str) : ∀ xs : List V, (∀ x ∈ xs, ∃ c ∈ z.cps.toList, x = V.str ⟨#[c]⟩) → ∃ ys : List Str, xs = ys.map V.str ∧ (∀ y ∈ ys, y.length = 1) ∧ ys.length = xs.length
  | [], _ => ⟨[], rfl, (fun y hy => by cases hy), rfl⟩
  | x :: r, h => by
    obtain ⟨ys, e, h1, h2⟩ := strs_of z r fun y hy => h y (List.mem_cons_of_mem _ hy)
    obtain ⟨c, _, rfl⟩ := h x (List.mem_cons_self ..)
    refine ⟨⟨#[c]⟩ :: ys, by rw [e]; rfl, fun y hy => ?_, by rw [List.length_cons, h2]; rfl⟩
    rcases List.mem_cons.mp hy with rfl | hy
    · rfl
    · exact h1 y hy
theorem sum_ones : ∀ ys : List Str, (∀ y ∈ ys, y.length = 1) → (ys.map (·.length)).sum = ys.length
  | [], _ => rfl
  | y :: r, h => by
    have e := sum_ones r fun z hz => h z (List.mem_cons_of_mem _ hz)
    show (y.length :: r.map (·.length)).sum = r.length + 1
    rw [List.sum_cons, e, h y (List.mem_cons_self ..)]
    omega
theorem cutS_le (z : Str) (lo hi : Option Int) : (cutS z lo hi).length ≤ z.length := by
  show (cutS z lo hi).cps.size ≤ z.cps.size
  unfold cutS
  rw [List.size_toArray, List.length_take, List.length_drop, Array.length_toList]
  omega
end LC

namespace LC
open PySem L2
theorem kp_of {g : Addr} {H1 H2 : Hp} {a : Addr} {o : HO} (ha : H1 a = none) (k : ∀ b u, b ≠ a → L2.upd H1 a o b = some u → H2 b = some u) : Kp g H1 H2 := fun b u _ e => k b u (ne_of_none e ha) (by rw [upd_ne (ne_of_none e ha)]; exact e)
theorem log_small {i : Int} (h0 : -1000000 ≤ i) (h1 : i ≤ 1000000) : i.natAbs.log2 < 1920 := Nat.lt_trans (PySem.Flt.log2_lt_of (k := 20) (by decide) (Nat.lt_of_le_of_lt (show i.natAbs ≤ 1000000 by omega) (by decide))) (by decide)
end LC

namespace LC
theorem ite_same {c : Prop} [Decidable c] {A B C : Prop} (h : C) (h1 : C → A) (h2 : C → B) : if c then A else B := by
  by_cases q : c
  · rw [if_pos q]
    exact h1 h
  · rw [if_neg q]
    exact h2 h
theorem ite_nbeq {b : Bool} {A B : Prop} (h : B) : if (!(b == b)) = true then A else B := by
  rw [beq_self_eq_true]
  exact L2.iteF h
end LC

namespace LC
open PySem L2
theorem kit_sub {K : PySem.W.Frag} {C : Addr} {T : String} {b : Bool} (m : PySem.W.kitMeta T = true) (h : PySem.W.subIn K (.ref C) (.type T) = some b) : PySem.W.kitOne K (.ref C) (.type T) = some b := by
  have e : ((Value.ref C : Value) == Value.type T) = false := rfl
  unfold PySem.W.kitOne
  rw [e, if_neg Bool.false_ne_true]
  show (if PySem.W.kitMeta T = true then PySem.W.subIn K (.ref C) (.type T) else none) = some b
  rw [m, if_pos rfl]
  exact h
theorem cls_some {K : PySem.W.Frag} {C : Addr} {nm q : Str} {N : Addr} {bs bm : List Value} {sn : List Str} {sub : List Value} {ab : Bool} {col : Option Bool} {dd : Option Addr} {k0 k1 k2 k3 k5 : Option Value} {nw : String} (h : K.lookup C = some (excClassObj nm q C N bs bm true sn sub ab col dd k0 k1 k2 k3 k5 nw)) : (PySem.W.clsIn K C).isSome = true := by
  unfold PySem.W.clsIn
  rw [h] <;> rfl
theorem refs_ve (S : Addr) : PySem.HandSPX.refsVE [.ref S, .type "ValueError", .type "Exception", .type "BaseException", .type "object"] = true := by
  show PySem.HandSPX.refsVE [.type "ValueError", .type "Exception", .type "BaseException", .type "object"] = true
  decide +kernel
end LC

namespace LS
open PySem L2 NdefX
/-! ### bodies that say super(): run at their own code -/
structure PSAt (X : Cx) (c : Code) (st : Stmt) (t : TS) : Prop where
  run : ∀ (pins : List (Addr × Obj)) (s : Shared) (σ : L2.St) (H : Hp) (D : Ends), Inv X pins σ H s → t D σ H → PySem.wpAt (model X.prog X.w) X.A c (exec st X.env) (SP X pins D) X.xe s
structure PSsAt (X : Cx) (c : Code) (ss : List Stmt) (t : TS) : Prop where
  run : ∀ (pins : List (Addr × Obj)) (s : Shared) (σ : L2.St) (H : Hp) (D : Ends), Inv X pins σ H s → t D σ H → PySem.wpAt (model X.prog X.w) X.A c (execs ss X.env) (SP X pins D) X.xe s
section
variable {X : Cx} {c : Code} {st : Stmt} {rest : List Stmt} {t u : TS}
theorem psa (h : PS X st t) : PSAt X c st t := ⟨fun pins s σ H D I q => PySem.wpAt_of_wpAny (h.run pins s σ H D I q)⟩
theorem pssa (h : PSs X rest t) : PSsAt X c rest t := ⟨fun pins s σ H D I q => PySem.wpAt_of_wpAny (h.run pins s σ H D I q)⟩
theorem pssa_cons (h1 : PSAt X c st t) (h2 : PSsAt X c rest u) : PSsAt X c (st :: rest) (tSeq t u) := by
  refine ⟨fun pins s σ H D I h => ?_⟩
  refine ks_wpAt_execs_cons (PySem.wpAt_mono (h1.run pins s σ H { D with nx := u D } I h) (fun f s1 q => ?_) fun _ _ x => x)
  cases f with
  | next =>
    obtain ⟨σ', H', I', q⟩ := q
    exact h2.run pins s1 σ' H' D I' q
  | ret v => exact q
  | brk => exact q
  | cont => exact q
end
/-- what the written part says of the method f of the class D, which says super(): its def, its code, the cell of its class; the base's method f2 -/
structure SupF (P : Program) (K : PySem.W.Frag) (F : NF) (f D f2 : Addr) (m : Str) : Prop where
  fn : ∃ (oc : Value) (od : Option Addr) (doc pm ct : Value) (osl : Array (Option Value)), K.lookup f = some ⟨oc, od, .func (F.fd doc pm ct), osl⟩
  cd : PySem.W.codeIn K (.ref F.c) F.qual = true
  code : ∃ (oc : Value) (od : Option Addr) (vs : Array Value) (sl : Array (Option Value)) (file : Str) (tf : Tok), K.lookup F.c = some ⟨oc, od, .fields vs, sl⟩ ∧ vs[2]? = some (.str file tf) ∧ ((P.main.file : Str) == file) = true
  cell : ∃ (cc : Addr) (oc : Value) (od : Option Addr) (sl : Array (Option Value)), F.cl = [(("__class__" : Str), cc)] ∧ K.lookup cc = some ⟨oc, od, .cell (some (.ref D)), sl⟩
  cls : ∃ cd, PySem.W.clsIn K D = some cd
  sub : PySem.W.mroIn K D (.ref D) = some true
  sup : PySem.W.ks_superIn K D D m = some (some (.ref f2))
  ty : PySem.W.typeIn K (.ref f2) = some (.type "function")
  op : PySem.W.nsIn K cStatics "thirdparty.any" = some none
  fi : PySem.W.fnIn K f2 = true
  top : (P.main.scope.names.lookup ("super" : Str)).isSome = false
/-- super().m(e, ..): the base's method, its promise sp; self in slot 0 -/
def tSup (D f2 : Addr) (sp : Sp) (ta : TA) : TE := fun σ H Q => ∃ (x dx : Addr) (fs : List (Str × V)), σ[0]? = some (some (.ref x)) ∧ H x = some (.ins D dx fs) ∧
  ∀ q, H q = none → ta σ (upd H q (.met f2 x)) fun vs H1 => H1 q = some (.met f2 x) ∧ sp (.ref x :: vs) H1 Q E0
section
variable {X : Cx} {F : NF} {f D f2 : Addr} {m : Str} {sp : Sp} {k : Nat} {e : Expr} {es : List Expr} {ta : TA} {p0 p1 p2 pos pos' : Pos}
theorem sup_core (S : SupF X.prog X.K F f D f2 m) (hF : X.env.scope = F.scope ∧ X.env.func = some f ∧ X.env.code = .ref F.c ∧ X.env.cells = F.cl) (hmg : X.mg "super" = none) (hat : (m == ("__class__" : Str)) = false)
    (hks : F.scope.names.lookup ("super" : Str) = some .globalImplicit) (hkc : F.scope.names.lookup ("__class__" : Str) = some .free) (hka : F.scope.names.lookup ("self" : Str) = some .local) (hN : X.N[0]? = some ("self" : Str))
    (hp : ∃ ar, (F.params.posonlyargs ++ F.params.args).head? = some ar ∧ ar.arg = "self") {body : List Stmt} {whole : Sem Value} {Q : Value → Shared → Prop}
    {pins : List (Addr × Obj)} {s : Shared} {σ : L2.St} {H : Hp} {x dx : Addr} {fs : List (Str × V)} (I : Inv X pins σ H s) (hs : σ[0]? = some (some (.ref x))) (hx : H x = some (.ins D dx fs))
    (h : ∀ (so : Addr) (s' : Shared), Inv X pins σ H s' → s'.heap.get? so = some { cls := .type "super", dict := none, data := .fields #[.ref D, .ref x, .ref D], slots := #[] } → Q (.ref so) s') :
    PySem.wpAt (model X.prog X.w) X.A (.func body X.env) (attributeBase (.Call (.Name "super" p0) [] [] p1) m X.env whole) Q X.xe s := by
  obtain ⟨hsc, hfu, hco, hce⟩ := hF
  obtain ⟨oc, od, doc, pm, ct, osl, lf⟩ := S.fn
  obtain ⟨occ, occd, vs, ccs, file, tf, lc, hvs, hfile⟩ := S.code
  obtain ⟨cc, cl, cld, csl, ecl, lcell⟩ := S.cell
  obtain ⟨cdD, hD⟩ := S.cls
  obtain ⟨ar, ha1, ha2⟩ := hp
  have KX := I.kIn
  obtain ⟨oD, hD1, hD2⟩ : ∃ oD, s.heap.get? D = some oD ∧ oD.data = .cls cdD := by
    unfold PySem.W.clsIn at hD
    split at hD
    · rename_i c d cd' sl ho
      cases hD
      exact ⟨_, KX _ _ ho, rfl⟩
    · cases hD
  have kks : X.env.kindOf "super" = some .globalImplicit := by
    show X.env.scope.names.lookup ("super" : Str) = _
    rw [hsc]; exact hks
  have kkc : X.env.kindOf "__class__" = some .free := by
    show X.env.scope.names.lookup ("__class__" : Str) = _
    rw [hsc]; exact hkc
  have kka : X.env.kindOf "self" = some .local := by
    show X.env.scope.names.lookup ("self" : Str) = _
    rw [hsc]; exact hka
  obtain ⟨mb, b1, b2⟩ := I.mod.blt
  obtain ⟨mA, O, _, _, _, _⟩ := ins_get I.hok hx
  obtain ⟨odx, J, _⟩ := O.look
  obtain ⟨ml, hns, hl⟩ := I.loc
  have vself : ml "self" = some (.ref x) := by
    obtain ⟨u, ru, lk⟩ := hl 0 "self" (.ref x) hN hs (.inl (by rw [hsc]; exact hka))
    cases ru
    rcases lk with ⟨_, e1⟩ | ⟨z, _⟩
    · exact e1
    · rw [kka] at z
      rcases z with z | z <;> cases z
  refine ks_wpAt_super_base (env := X.env) kks kkc hat hfu (KX _ _ lf) rfl ha1 hco (KX _ _ lc) rfl hvs hfile S.top ?_
  refine PySem.W.ks_loadName_global I.ok.kind kks (Calls.loadGlobal_builtin (by rw [I.ok.glob]; exact I.mod.glob.keeps I.bk) hmg (by rw [I.ok.blt]; exact b1.keeps I.bk) ((b2 "super" (by decide +kernel)).trans (by decide +kernel : bootBuiltins "super" = some (.type "super"))) ⟨rfl, ?_⟩)
  refine wpAny_loadName_free I.ok.kind kkc (by rw [hce, ecl]; rfl) ⟨_, KX _ _ lcell, rfl⟩ ?_
  rw [ha2]
  refine wpAny_loadName_local I.ok.kind kka hns vself ?_
  refine ks_wpAny_isType_cls hD1 hD2 ⟨rfl, ?_⟩
  obtain ⟨hh, g, dr, t, os⟩ := s
  refine ks_wpAny_call_super hD1 hD2 J.at_ J.cls (fun c e => ?_) (PySem.W.looks_mroIn KX S.sub) (fun h' eso kk => ?_)
  · have z := J.no
    unfold PySem.W.notCls at z
    rw [e] at z
    exact Bool.noConfusion z
  exact h _ _ (I.kept (t' := t) kk) eso
theorem sup_facts (S : SupF X.prog X.K F f D f2 m) {pins : List (Addr × Obj)} {s : Shared} {σ : L2.St} {H : Hp} {x dx : Addr} {fs : List (Str × V)} (I : Inv X pins σ H s) (hx : H x = some (.ins D dx fs)) :
    PySem.W.Looks (model X.prog X.w) s.heap (opaqueClassAbove (.ref D)) none ∧ ∃ (l0 : List Value) (of : Obj), PySem.W.Looks (model X.prog X.w) s.heap (mroOf (.ref D)) l0 ∧ PySem.W.alongIn X.K m ((l0.dropWhile (· != .ref D)).drop 1) = some (some (.ref f2)) ∧ s.heap.get? f2 = some of ∧ of.cls = .type "function" ∧ x ≠ D := by
  obtain ⟨cdD, hD⟩ := S.cls
  have KX2 := I.kIn
  have hm := S.sup
  unfold PySem.W.ks_superIn at hm
  rw [hD] at hm
  obtain ⟨of, hof, hofc⟩ : ∃ of, s.heap.get? f2 = some of ∧ of.cls = .type "function" := by
    have ht' : (X.K.lookup f2).map (·.cls) = some (.type "function") := S.ty
    cases z : X.K.lookup f2 with
    | none => rw [z] at ht'; cases ht'
    | some of => rw [z] at ht'; exact ⟨of, KX2 _ _ z, Option.some.inj ht'⟩
  obtain ⟨mA, O, _, _, _, _⟩ := ins_get I.hok hx
  obtain ⟨odx, J, _⟩ := O.look
  exact ⟨PySem.W.looks_opaque KX2 S.op, cdD.mro, of, fun A Q E s k q => wpAny_bind ((PySem.W.looks_clsIn KX2 hD) A _ E s k (wpAny_pure q)), hm, hof, hofc, PySem.W.ks_ne KX2 J hD⟩
theorem sup_meth (S : SupF X.prog X.K F f D f2 m) (hat : (m == ("__class__" : Str)) = false) {pl : Sem Bool} {Q : Value × List Value → Shared → Prop}
    {pins : List (Addr × Obj)} {s : Shared} {σ : L2.St} {H : Hp} {x dx so : Addr} {fs : List (Str × V)} (I : Inv X pins σ H s) (hx : H x = some (.ins D dx fs))
    (eso : s.heap.get? so = some { cls := .type "super", dict := none, data := .fields #[.ref D, .ref x, .ref D], slots := #[] })
    (h : ∀ (q : Addr) (s' : Shared), H q = none → Inv X pins σ (upd H q (.met f2 x)) s' → Q (.ref q, []) s') : wpAny (model X.prog X.w) X.A (getMethod (.ref so) m pl) Q X.xe s := by
  obtain ⟨h1, l0, of, h2, hm, hof, hofc, hne⟩ := sup_facts S I hx
  have KX := I.kIn
  obtain ⟨h', g, dr, t, os⟩ := s
  refine ks_wpAny_getMethod_super eso h1 h2 rfl KX hm hof hofc hne hat ?_
  refine h h'.objs.size _ (I.hok.fresh (Nat.le_refl _)) ?_
  exact I.laid (t' := t + 1) (a := h'.objs.size) (o := .met f2 x) (fun b u z => Heap.get?_push_of_some _ z) (Nat.le_refl _)
    (show (h'.push (PySem.W.methodObj (.ref f2) (.ref x))).get? h'.objs.size = some (PySem.W.methodObj (.ref f2) (.ref x)) from Heap.get?_push_size h' rfl)
theorem getAttr_super {prog : Program} {w : World} {A : Around} {E : Value → Shared → Prop} {h : Heap} {g : Array GenState} {d : Drawn} {t : Nat} {os : OsState} {so D x C f : Addr} {of : Obj} {l₀ l : List Value} {K : PySem.W.Frag} {name : Str} {b : Bool} {Q : Value → Shared → Prop}
    (hso : h.get? so = some { cls := .type "super", dict := none, data := .fields #[.ref D, .ref x, .ref C], slots := #[] }) (hno : PySem.W.Looks (model prog w) h (opaqueClassAbove (.ref C)) none)
    (hC : PySem.W.Looks (model prog w) h (mroOf (.ref C)) l₀) (hl : (l₀.dropWhile (· != .ref D)).drop 1 = l) (X : K.In h)
    (hf : PySem.W.alongIn K name l = some (some (.ref f))) (hfo : h.get? f = some of) (hfc : of.cls = .type "function") (hxC : x ≠ C) (hn : (name == ("__class__" : Str)) = false)
    (hq : Q (.ref h.objs.size) ⟨h.push { cls := .type "method", data := .fields #[.ref f, .ref x] }, g, d, t + 1, os⟩) :
    wpAny (model prog w) A (getAttr (.ref so) name b) Q E ⟨h, g, d, t, os⟩ := by
  have hlk := F.ks_slot_super_ga.lookup
  have hT : ∀ t', (⟨h, g, d, t', os⟩ : Shared).TypeIs (.ref so) "super" := fun _ => ⟨_, hso, rfl⟩
  unfold getAttr getAttrBy
  refine wpAny_bind (wpAny_mkText (wpAny_holding (wpAny_bind (wpAny_typeOf (hT _) (wpAny_bind (wpAny_of_eq hlk ?_))))))
  show wpAny _ _ (getAttrByItsOwn (.ref so) (.str name t) (.type "super") (.builtin "super.__getattribute__") true b) _ _ _
  unfold getAttrByItsOwn hookBefore callGetattribute boundAndCalled
  refine wpAny_bind (wpAny_of_eq (show (if onTheHeap (.type "super") then typeLookup (.type "super") "__getattr__" else pure none) = pure none from rfl) ?_)
  refine wpAny_bind (wpAny_attempt (wpAny_holding ?_))
  have e0 : (b && onTheHeap (Value.builtin "super.__getattribute__")) = false := by cases b <;> rfl
  rw [e0, if_neg Bool.false_ne_true]
  refine wpAny_bind (wpAny_of_eq (F.ks_slot_super_ga.bind _) ?_)
  refine wpAny_mono (Q := fun v s' => v = .ref h.objs.size ∧ s' = ⟨h.push { cls := .type "method", data := .fields #[.ref f, .ref x] }, g, d, t + 1, os⟩) (E := fun _ _ => False)
    (wpAny_call_entry F.ks_slot_super_ga (hT _) F.ks_entry_super_ga (ks_wpAny_super_ga hso hno hC hl X hf hfo hfc hxC hn ⟨_, rfl, rfl, rfl⟩) (F.ks_gaArgs_super _ _)) (fun v s' hv => ?_) fun _ _ z => z.elim
  obtain ⟨rfl, rfl⟩ := hv
  exact wpAny_pure hq
/-- super().m(e, ..) as a statement -/
theorem ps_sup (S : SupF X.prog X.K F f D f2 m) (hF : X.env.scope = F.scope ∧ X.env.func = some f ∧ X.env.code = .ref F.c ∧ X.env.cells = F.cl) (hmg : X.mg "super" = none) (F2 : FnR X.prog X.w X.K X.mg X.base CX0 k f2 sp) (hr : Room k X.A) (ha : PA X (e :: es) ta)
    (hp : ∃ ar, (F.params.posonlyargs ++ F.params.args).head? = some ar ∧ ar.arg = "self") (hat : (m == ("__class__" : Str)) = false := by decide)
    (hks : F.scope.names.lookup ("super" : Str) = some .globalImplicit := by rfl) (hkc : F.scope.names.lookup ("__class__" : Str) = some .free := by rfl) (hka : F.scope.names.lookup ("self" : Str) = some .local := by rfl) (hN : X.N[0]? = some ("self" : Str) := by rfl)
    {pl : Sem Bool} (he : eval (.Call (.Attribute (.Call (.Name "super" p0) [] [] p1) m p2) (e :: es) [] pos) X.env = (do
      let ov ← attributeBase (.Call (.Name "super" p0) [] [] p1) m X.env (eval (.Call (.Name "super" p0) [] [] p1) X.env)
      standAt p2.atName
      let (f, first) ← holding [ov] (getMethod ov m pl)
      callWith pos f first (backTo pos (starEach (e :: es) X.env)) []) := by rfl)
    (hst : starEach (e :: es) X.env = (false, eval e X.env) :: starEach es X.env := by rfl) (hpl : (backTo pos (starEach es X.env)).any (·.1) = false := by rfl)
    (hsw : swapsWith (.Call (.Attribute (.Call (.Name "super" p0) [] [] p1) m p2) (e :: es) [] pos) none pos'.line X.env = pure false := by rfl) :
    PSAt X (.func F.body X.env) (.Expr (.Call (.Attribute (.Call (.Name "super" p0) [] [] p1) m p2) (e :: es) [] pos) pos') (tDrop (tSup D f2 sp ta)) := by
  refine ⟨fun pins s σ H Dn I h => ?_⟩
  obtain ⟨x, dx, fs, hs, hx, q⟩ := h
  refine ks_wpAt_Expr_any (ks_wpAt_MethodCall (pl := pl) (sup_core S hF hmg hat hks hkc hka hN hp I hs hx fun so s0 I0 eso => sup_meth S hat I0 hx eso fun q1 s1 hq1 I1 => ?_) he) I.quiet hsw
  refine callwith_met (a := x) (by rw [hst]; show ((false || (backTo pos (starEach es X.env)).any (·.1)) || false) = false; rw [hpl]; rfl) S.fi ?_
  have hrun := ha.run pos pins s1 σ _ _ I1 (q q1 hq1)
  rw [hst] at hrun ⊢
  refine Calls.evalArgs_plain (thn hrun fun us s2 ⟨vs, H2, I2, rv, hm2, q2⟩ => ?_)
  refine ⟨met_P I2 hm2, ?_⟩
  refine wpAny_call (PySem.W.method_call (met_P I2 hm2).1 (codeAny_mono (run_fnR (us := .ref x :: us) (vs := .ref x :: vs) F2 hr pass0 I2 (.cons rfl rv) q2) fun r s' hr' => ?_))
  cases r with
  | error e => exact hr'
  | ok fl =>
    cases fl with
    | ret u =>
      obtain ⟨v, H', I', _, q'⟩ := hr'
      exact ⟨σ, H', I', q'⟩
    | next => exact hr'
    | brk => exact hr'
    | cont => exact hr'
end
/-- super().m(*e), e a tuple or a list -/
def tSupS (K : PySem.W.Frag) (D f2 : Addr) (sp : Sp) (te : TE) : TE := fun σ H Q => ∃ (x dx : Addr) (fs : List (Str × V)), σ[0]? = some (some (.ref x)) ∧ H x = some (.ins D dx fs) ∧
  ∀ q, H q = none → te σ (upd H q (.met f2 x)) fun y H1 => ∃ b vs, y = .ref b ∧ (SqT K H1 b vs ∨ SqL K H1 b vs) ∧ H1 q = some (.met f2 x) ∧ sp (.ref x :: vs) H1 Q E0
section
variable {X : Cx} {F : NF} {f D f2 : Addr} {m : Str} {sp : Sp} {k : Nat} {e : Expr} {te : TE} {p p0 p1 p2 pos pos' : Pos}
theorem ps_supS (S : SupF X.prog X.K F f D f2 m) (hF : X.env.scope = F.scope ∧ X.env.func = some f ∧ X.env.code = .ref F.c ∧ X.env.cells = F.cl) (hmg : X.mg "super" = none) (F2 : FnR X.prog X.w X.K X.mg X.base CX0 k f2 sp) (hr : Room k X.A) (ha : PE X e te)
    (hp : ∃ ar, (F.params.posonlyargs ++ F.params.args).head? = some ar ∧ ar.arg = "self") (hat : (m == ("__class__" : Str)) = false := by decide)
    (hks : F.scope.names.lookup ("super" : Str) = some .globalImplicit := by rfl) (hkc : F.scope.names.lookup ("__class__" : Str) = some .free := by rfl) (hka : F.scope.names.lookup ("self" : Str) = some .local := by rfl) (hN : X.N[0]? = some ("self" : Str) := by rfl)
    (hsw : swapsWith (.Call (.Attribute (.Call (.Name "super" p0) [] [] p1) m p2) [.Starred e p] [] pos) none pos'.line X.env = pure false := by rfl) :
    PSAt X (.func F.body X.env) (.Expr (.Call (.Attribute (.Call (.Name "super" p0) [] [] p1) m p2) [.Starred e p] [] pos) pos') (tDrop (tSupS X.K D f2 sp te)) := by
  refine ⟨fun pins s σ H Dn I h => ?_⟩
  obtain ⟨x, dx, fs, hs, hx, q⟩ := h
  have hse : starEach [.Starred e p] X.env = [(true, eval e X.env)] := rfl
  have hke : backToKw pos (keywordEach [] X.env) = [] := rfl
  have hform : methodCallForm ([Expr.Starred e p].length + ([] : List Keyword).length) (backTo pos [(true, eval e X.env)]) [] = false := rfl
  have hpos : methodCallPos false (.Call (.Name "super" p0) [] [] p1) X.env p2 pos = pure pos := rfl
  have hcal : ∀ ov, calleeOf false (.Call (.Name "super" p0) [] [] p1) X.env ov m = (getAttr ov m true >>= fun v => pure (v, [])) := fun _ => rfl
  refine ks_wpAt_Expr_any ?_ I.quiet hsw
  rw [arm_eval_Call, hse, hke]
  refine PySem.wpAt_bind (sup_core S hF hmg hat hks hkc hka hN hp I hs hx fun so s0 I0 eso => ?_)
  refine PySem.wpAt_of_wpAny ?_
  refine wpAny_bind (wpAny_standAt ?_)
  unfold methodCall
  rw [hform, hpos, hcal]
  obtain ⟨h1, l0, of, h2, hm, hof, hofc, hne⟩ := sup_facts S I0 hx
  have KX := I0.kIn
  obtain ⟨h', g, dr, t, os⟩ := s0
  refine wpAny_bind (wpAny_holding (wpAny_bind (getAttr_super eso h1 h2 rfl KX hm hof hofc hne hat (wpAny_pure ?_))))
  have hq1 := I0.hok.fresh (Nat.le_refl _)
  have I1 : Inv X pins σ (upd H h'.objs.size (.met f2 x)) ⟨h'.push (PySem.W.methodObj (.ref f2) (.ref x)), g, dr, t + 1, os⟩ :=
    I0.laid (t' := t + 1) (a := h'.objs.size) (o := .met f2 x) (fun b u z => Heap.get?_push_of_some _ z) (Nat.le_refl _)
      (show (h'.push (PySem.W.methodObj (.ref f2) (.ref x))).get? h'.objs.size = some (PySem.W.methodObj (.ref f2) (.ref x)) from Heap.get?_push_size h' rfl)
  refine wpAny_bind (wpAny_pure ?_)
  refine PySem.W.ks_call (P := PySem.W.MethP X.K h'.objs.size f2 (.ref x)) rfl (PySem.W.keeps_M S.fi) (PySem.W.ks_lone ?_)
  refine thn (ha.run pins _ σ _ _ I1 (q _ hq1)) fun v s3 ⟨y, H2, I3, ry, b, vs, ey, ht, hm2, hsp⟩ => ?_
  subst ey
  obtain rfl : v = Value.ref b := ry
  refine StX.star_any I3 ht fun us s4 I4 rv => ⟨met_P I4 hm2, ?_⟩
  refine wpAny_call (PySem.W.method_call (met_P I4 hm2).1 (codeAny_mono (run_fnR (us := .ref x :: us) (vs := .ref x :: vs) F2 hr pass0 I4 (.cons rfl rv) hsp) fun r s' hr' => ?_))
  cases r with
  | error e => exact hr'
  | ok fl =>
    cases fl with
    | ret u =>
      obtain ⟨v, H', I', _, q'⟩ := hr'
      exact ⟨σ, H', I', q'⟩
    | next => exact hr'
    | brk => exact hr'
    | cont => exact hr'
end
section
variable {P : Program} {w : World} {K : PySem.W.Frag} {mg : Str → Option Value} {base : Heap} {F : NF} {f D f2 : Addr} {m : Str} {N ps : List Str} {sp : Sp} {k : Nat}
theorem cell_at (U : SupF P K F f D f2 m) {A : Around} {outer : List Env} {s : Shared} {H : Hp} (e0 : Env0 P w K mg base A outer s H) : CellsAt F.cl [("__class__" : Str)] [some (.ref D)] s.heap H := by
  obtain ⟨cc, oc, od, sl, ecl, lc⟩ := U.cell
  obtain ⟨h1, h2⟩ := e0.bs cc _ (e0.mod.kin _ _ lc)
  have one : ∀ y c, F.cl.lookup y = some c → y = ("__class__" : Str) ∧ c = cc := fun y c e => by
    rw [ecl] at e
    by_cases q : y = ("__class__" : Str)
    · subst q
      have z : ([(("__class__" : Str), cc)] : List (Str × Addr)).lookup ("__class__" : Str) = some cc := by simp [List.lookup]
      rw [z] at e
      exact ⟨rfl, (Option.some.inj e).symm⟩
    · have z : (y == ("__class__" : Str)) = false := by simpa using q
      simp [List.lookup, z] at e
  refine ⟨rfl, fun y c e => ?_, fun x y c e1 e2 => (one x c e1).1.trans (one y c e2).1.symm, fun i y hi => ?_⟩
  · obtain ⟨rfl, rfl⟩ := one y c e
    exact ⟨h2, _, _, h1, rfl⟩
  · match i, hi with
    | 0, hi =>
      cases hi
      refine ⟨cc, by rw [ecl]; simp [List.lookup], fun v hv => ?_⟩
      cases hv
      exact ⟨_, rfl, _, h1, rfl⟩
    | i + 1, hi => simp at hi
/-- THE RULE for a method that says super() -/
theorem fnS_of (S : NScope N ps ["__class__"] F.scope) (U : SupF P K F f D f2 m) {doc pm ct oc : Value} {od : Option Addr} {osl : Array (Option Value)} (lf : K.lookup f = some ⟨oc, od, .func (F.fd doc pm ct), osl⟩) (len : ∀ vs H Q E, sp vs H Q E → vs.length = ps.length)
    (hbody : ∀ (A : Around) (outer : List Env) (s : Shared) (H : Hp) (vs : List V) (Q : VK) (E : XK), Room k (A.deeper (envF F f s.heap.objs.size)) → sp vs H Q E →
      ∃ t, PSsAt (ncx CX0 P w K mg base N F f A outer s H E) (.func F.body (ncx CX0 P w K mg base N F f A outer s H E).env) F.body t ∧ t { nx := fun _ H' => Q .non H', rt := Q } (startF N vs [some (.ref D)]) H) :
    FnOk P w K mg base CX0 (k + 1) f (F.fd doc pm ct) ps sp := by
  refine ⟨len, fun A outer s H args us vs Q E hr e0 hb r hsp => ?_⟩
  have hl := len _ _ _ _ hsp
  have KX : K.In s.heap := e0.mod.kin.keeps fun b o e => (e0.bs b o e).1
  have lim : s.heap.NoLimit := e0.mod.nolimit.keeps fun b o e => (e0.bs b o e).1
  have hloc : ∀ x ∈ ps.zip us, F.scope.names.lookup x.1 = some .local := fun ⟨n, v⟩ hy => S.par n (List.of_mem_zip hy).1
  refine ks_codeAny_call_defAt (fd := F.fd doc pm ct) (body := F.body) (binds := ps.zip us) hr.depth (KX _ _ lf) rfl lim (PySem.W.codeRec_of KX U.cd) rfl hb S.nocell hloc (fun h₁ hns kp => ?_) S.co S.gen S.kind
  obtain ⟨t, ht, hq⟩ := hbody A outer s H vs Q E (hr.deeper _) hsp
  have I : Inv (ncx CX0 P w K mg base N F f A outer s H E) [] (startF N vs [some (.ref D)]) H { s with heap := h₁, toks := s.toks + (ps.zip us).length } := inv_startN S hr.hd e0 hl r (cell_at U e0) hns kp
  refine PySem.wpAt_mono (ht.run [] _ (startF N vs [some (.ref D)]) H _ I hq) (fun fl s' hs => ?_) fun e s' hs => hs
  have fin : ∀ {σ' : L2.St} {H' : Hp} {v : V} {u : Value}, Inv (ncx CX0 P w K mg base N F f A outer s H E) [] σ' H' s' → L2.RelV v u → Q v H' → CE outer P w H s Q u s' :=
    fun {σ' H' v u} J rv q => ⟨v, H', J.os, J.bare, J.base, J.hok, rv, q⟩
  cases fl with
  | ret u =>
    obtain ⟨v, σ', H', J, rv, q⟩ := hs
    exact fin J rv q
  | next =>
    obtain ⟨σ', H', J, q⟩ := hs
    exact fin (v := V.non) (u := Value.none) J rfl q
  | brk =>
    obtain ⟨_, _, _, q⟩ := hs
    exact False.elim q
  | cont =>
    obtain ⟨_, _, _, q⟩ := hs
    exact False.elim q
end
/-! ### calls whose class is known at the run alone -/
section
variable {X : Cx} {k : Nat} {fe e o : Expr} {es : List Expr} {tf ta : TE} {t : TA} {pos apos : Pos} {m : Str} {f : Addr} {sp : Sp}
def tCallD (X : Cx) (k : Nat) (tf : TE) (t : TA) : TE := fun σ H Q => tf σ H fun y H1 => ∃ a, y = V.ref a ∧ t σ H1 fun vs H2 => ∃ (C g : Addr) (sp : Sp), StX.CallO X.K C g ∧ FnR X.prog X.w X.K X.mg X.base CX0 k g sp ∧ (∃ dx fs, H2 a = some (.ins C dx fs)) ∧ sp (V.ref a :: vs) H2 Q E0
theorem pe_callD (hf : PE X fe tf) (hr : Room k X.A) (ha : PA X (e :: es) t)
    (ht : eval (.Call fe (e :: es) [] pos) X.env = (do callWith pos (← eval fe X.env) [] (backTo pos (starEach (e :: es) X.env)) (backToKw pos (keywordEach [] X.env))) := by rfl)
    (he : starEach (e :: es) X.env = (false, eval e X.env) :: starEach es X.env := by rfl) (hpl : (backTo pos (starEach es X.env)).any (·.1) = false := by rfl) : PE X (.Call fe (e :: es) [] pos) (tCallD X k tf t) := by
  refine ⟨fun pins s σ H Q I h => ?_⟩
  refine PyProof.Rows.Call_ (thn (hf.run pins s σ H _ I h) fun u s1 ⟨y, H1, I1, ry, a, ey, q⟩ => ?_) ht
  subst ey
  obtain rfl : u = Value.ref a := ry
  refine StX.callO_with (thn (ha.run pos pins s1 σ H1 _ I1 q) fun us s2 ⟨vs, H2, I2, r, C, g, sp, c, F, hi, q2⟩ => ?_) he hpl
  obtain ⟨ox, od, J, hd⟩ := StX.insC_at (X := X) I2 (.inr hi)
  exact ⟨⟨C, ox, od, J, hd⟩, StX.run_callO c F hr pass0 I2 (.inr hi) r q2⟩
def tMethD (K : PySem.W.Frag) (m : Str) (f : Addr) (sp : Sp) (ta : TE) (t : TA) : TE := fun σ H Q => ta σ H fun x H1 => ∃ a C dx fs, x = .ref a ∧ H1 a = some (.ins C dx fs) ∧ Cls K C ∧ Meth K C m f ∧ fs.lookup m = none ∧ t σ H1 fun vs H2 => sp (x :: vs) H2 Q E0
theorem pe_methD {pl : Sem Bool} (he : PE X o ta) (hk : PySem.W.keepIn X.K (.ref f) = true) (F : FnR X.prog X.w X.K X.mg X.base CX0 k f sp) (hr : Room k X.A) (ha : PA X (e :: es) t)
    (hst : starEach (e :: es) X.env = (false, eval e X.env) :: starEach es X.env := by rfl) (hpl : (backTo pos (starEach es X.env)).any (·.1) = false := by rfl)
    (ht : eval (.Call (.Attribute o m apos) (e :: es) [] pos) X.env = (do
      let ov ← eval o X.env
      standAt apos.atName
      let (f, first) ← holding [ov] (getMethod ov m pl)
      callWith pos f first (backTo pos (starEach (e :: es) X.env)) (backToKw pos (keywordEach [] X.env))) := by rfl) :
    PE X (.Call (.Attribute o m apos) (e :: es) [] pos) (tMethD X.K m f sp ta t) := by
  refine ⟨fun pins s σ H Q I h => ?_⟩
  refine PySem.W.methodCall_KW (pl := pl) (thn (he.run pins s σ H _ I h) fun u s1 ⟨x, H1, I1, rx, a, C, dx, fs, ex, ea, c, hm, l, q⟩ => ?_) ht
  subst ex
  obtain rfl : u = Value.ref a := rx
  refine getmeth_ok I1 ea c hm l ?_
  refine PySem.W.callWith_K (first := [.ref a]) (h₀ := X.base) I.ok.mod.kin hk (thn (ha.run pos pins s1 σ H1 _ I1 q) fun us s2 ⟨vs, H2, I2, r, q2⟩ => ⟨I2.kIn, ?_⟩) hst hpl
  exact wpAny_call (codeAny_mono (run_fnR (us := .ref a :: us) (vs := .ref a :: vs) F hr pass0 I2 (.cons rfl r) q2) fun r s' h => h)
theorem pe_methD0 {pl : Sem Bool} (he : PE X o ta) (hk : PySem.W.keepIn X.K (.ref f) = true) (F : FnR X.prog X.w X.K X.mg X.base CX0 k f sp) (hr : Room k X.A)
    (ht : eval (.Call (.Attribute o m apos) [] [] pos) X.env = (do
      let ov ← eval o X.env
      standAt apos.atName
      let (f, first) ← holding [ov] (getMethod ov m pl)
      callWith pos f first (backTo pos (starEach [] X.env)) (backToKw pos (keywordEach [] X.env))) := by rfl) :
    PE X (.Call (.Attribute o m apos) [] [] pos) (tMethD X.K m f sp ta tNil) := by
  refine ⟨fun pins s σ H Q I h => ?_⟩
  refine PySem.W.methodCall_KW (pl := pl) (thn (he.run pins s σ H _ I h) fun u s1 ⟨x, H1, I1, rx, a, C, dx, fs, ex, ea, c, hm, l, q⟩ => ?_) ht
  subst ex
  obtain rfl : u = Value.ref a := rx
  refine getmeth_ok I1 ea c hm l ?_
  refine PySem.W.callWith_K0 (first := [.ref a]) I1.kIn hk ?_
  exact wpAny_call (codeAny_mono (run_fnR (us := [.ref a]) (vs := [.ref a]) F hr pass0 I1 (.cons rfl .nil) q) fun r s' h => h)
/-- o.m(e, ..), m a field of the instance that holds an instance of a class that may be called -/
def tCallFD (X : Cx) (k : Nat) (m : Str) (to : TE) (t : TA) : TE := fun σ H Q => to σ H fun x H1 => ∃ (b D dx : Addr) (fs : List (Str × V)) (a : Addr), x = V.ref b ∧ H1 b = some (.ins D dx fs) ∧ Cls X.K D ∧ NoAttr X.K D m ∧ fs.lookup m = some (.ref a) ∧
  t σ H1 fun vs H2 => ∃ (C g : Addr) (sp : Sp), StX.CallO X.K C g ∧ FnR X.prog X.w X.K X.mg X.base CX0 k g sp ∧ (∃ dx fs, H2 a = some (.ins C dx fs)) ∧ sp (V.ref a :: vs) H2 Q E0
theorem pe_callFD {pl : Sem Bool} (ho : PE X o ta) (hr : Room k X.A) (ha : PA X (e :: es) t)
    (ht : eval (.Call (.Attribute o m apos) (e :: es) [] pos) X.env = (do
      let ov ← eval o X.env
      standAt apos.atName
      let (f, first) ← holding [ov] (getMethod ov m pl)
      callWith pos f first (backTo pos (starEach (e :: es) X.env)) (backToKw pos (keywordEach [] X.env))) := by rfl)
    (he : starEach (e :: es) X.env = (false, eval e X.env) :: starEach es X.env := by rfl) (hpl : (backTo pos (starEach es X.env)).any (·.1) = false := by rfl) : PE X (.Call (.Attribute o m apos) (e :: es) [] pos) (tCallFD X k m ta t) := by
  refine ⟨fun pins s σ H Q I h => ?_⟩
  refine PySem.W.methodCall_KW (pl := pl) (thn (ho.run pins s σ H _ I h) fun u s1 ⟨x, H1, I1, rx, b, D, dx, fs, a, ex, eb, c, n, l, q⟩ => ?_) ht
  subst ex
  obtain rfl : u = Value.ref b := rx
  refine getmeth_fld I1 eb c n l fun v s2 I2 rv => ?_
  obtain rfl : v = Value.ref a := rv
  refine StX.callO_with (thn (ha.run pos pins s2 σ H1 _ I2 q) fun us s3 ⟨vs, H2, I3, r, C, g, sp, c, F, hi, q2⟩ => ?_) he hpl
  obtain ⟨ox, od, J, hd⟩ := StX.insC_at (X := X) I3 (.inr hi)
  exact ⟨⟨C, ox, od, J, hd⟩, StX.run_callO c F hr pass0 I3 (.inr hi) r q2⟩
end
theorem cls_of {K : PySem.W.Frag} {C : Addr} {oc : Value} {od : Option Addr} {cd : ClassData} {sl : Array (Option Value)} (h : K.lookup C = some ⟨oc, od, .cls cd, sl⟩) : PySem.W.clsIn K C = some cd := by
  unfold PySem.W.clsIn
  rw [h]
theorem kit_own {K : PySem.W.Frag} {C R : Addr} {oc : Value} {od : Option Addr} {cd : ClassData} {sl : Array (Option Value)} (x : K.lookup R = some ⟨oc, od, .cls cd, sl⟩) (t : PySem.W.typeIn K (.ref R) = some (.type "type")) (h : PySem.W.subIn K (.ref C) (.ref R) = some true) : PySem.W.kitOne K (.ref C) (.ref R) = some true := by
  unfold PySem.W.kitOne
  by_cases q : ((Value.ref C : Value) == Value.ref R) = true
  · rw [if_pos q]
  · rw [if_neg q]
    show (if ((PySem.W.clsIn K R).isSome && PySem.W.typeIn K (.ref R) == some (.type "type")) = true then PySem.W.subIn K (.ref C) (.ref R) else none) = some true
    rw [cls_of x, t, if_pos (by simp)]
    exact h
theorem sup_of {K : PySem.W.Frag} {C R f : Addr} {oc oc2 : Value} {od od2 : Option Addr} {cd cd2 : ClassData} {sl sl2 : Array (Option Value)} {m : Str} (h : K.lookup C = some ⟨oc, od, .cls cd, sl⟩) (e : (cd.mro.dropWhile (· != .ref C)).drop 1 = cd2.mro) (h2 : K.lookup R = some ⟨oc2, od2, .cls cd2, sl2⟩)
    (hf : PySem.W.findIn K (.ref R) m = some (some (.ref f))) : PySem.W.ks_superIn K C C m = some (some (.ref f)) := by
  unfold PySem.W.ks_superIn
  rw [cls_of h]
  show PySem.W.alongIn K m ((cd.mro.dropWhile (· != .ref C)).drop 1) = _
  rw [e]
  have hf' : (match K.lookup R with | some ⟨_, _, .cls cd, _⟩ => PySem.W.alongIn K m cd.mro | _ => none) = some (some (.ref f)) := hf
  rw [h2] at hf'
  exact hf'
end LS

namespace RM
/-- the plan of a rest -/
inductive Pl where
  | win (w : Int)
  | days (bs : List Int) (e : Int)
  | lat (p q : Pl)
  | soo (p q : Pl)
  | nex (p q : Pl)
def lastOf (bs : List Int) : Int := bs.getLastD 0
def dayAt (bs : List Int) (e t : Int) : Int := match bs.find? (fun b => decide (b > t)) with
  | some b => b
  | none => lastOf bs + ((t - lastOf bs) / e + 1) * e
def Pl.at : Pl → Int → Int
  | .win w, t => t + w
  | .days bs e, t => dayAt bs e t
  | .lat p q, t => if q.at t > p.at t then q.at t else p.at t
  | .soo p q, t => if q.at t < p.at t then q.at t else p.at t
  | .nex p q, t => q.at (p.at t)
def Pl.leaves : Pl → Nat
  | .win _ => 1
  | .days _ _ => 1
  | .lat p q => p.leaves + q.leaves
  | .soo p q => p.leaves + q.leaves
  | .nex p q => p.leaves + q.leaves
def Pl.forms : Pl → Int
  | .win _ => 1
  | .days _ _ => 1
  | .lat p q => 1 + p.forms + q.forms
  | .soo p q => 1 + p.forms + q.forms
  | .nex p q => 1 + p.forms + q.forms
def lcmI (a b : Int) : Int := ((a.natAbs.lcm b.natAbs : Nat) : Int)
def Pl.per : Pl → Int
  | .win _ => 1
  | .days _ e => e
  | .lat p q => lcmI p.per q.per
  | .soo p q => lcmI p.per q.per
  | .nex p q => lcmI p.per q.per
def maxI (a b : Int) : Int := if b > a then b else a
def Pl.bend : Pl → Int
  | .win _ => 0
  | .days bs _ => lastOf bs
  | .lat p q => maxI p.bend q.bend
  | .soo p q => maxI p.bend q.bend
  | .nex p q => maxI p.bend q.bend
def Pl.h : Pl → Nat
  | .win _ => 0
  | .days _ _ => 0
  | .lat p q => 1 + max p.h q.h
  | .soo p q => 1 + max p.h q.h
  | .nex p q => 1 + max p.h q.h
/-- borders that rise from n on -/
def Asc : Int → List Int → Prop
  | _, [] => True
  | n, b :: r => n ≤ b ∧ b ≤ 1000 ∧ Asc (b + 1) r
def Pl.ok (L : Nat) : Pl → Prop
  | .win w => 1 ≤ w ∧ w ≤ 1000
  | .days bs e => 1 ≤ e ∧ e ≤ 2000 ∧ e.natAbs ∣ L ∧ bs.length ≤ 12 ∧ Asc 1 bs
  | .lat p q => p.ok L ∧ q.ok L
  | .soo p q => p.ok L ∧ q.ok L
  | .nex p q => p.ok L ∧ q.ok L
theorem Pl.leaves_pos : ∀ p : Pl, 1 ≤ p.leaves
  | .win _ => Nat.le_refl _
  | .days _ _ => Nat.le_refl _
  | .lat p q => Nat.le_trans p.leaves_pos (Nat.le_add_right _ _)
  | .soo p q => Nat.le_trans p.leaves_pos (Nat.le_add_right _ _)
  | .nex p q => Nat.le_trans p.leaves_pos (Nat.le_add_right _ _)
theorem Pl.h_lt : ∀ p : Pl, p.h + 1 ≤ p.leaves
  | .win _ => Nat.le_refl _
  | .days _ _ => Nat.le_refl _
  | .lat p q => by have := p.h_lt; have := q.h_lt; simp only [Pl.h, Pl.leaves]; omega
  | .soo p q => by have := p.h_lt; have := q.h_lt; simp only [Pl.h, Pl.leaves]; omega
  | .nex p q => by have := p.h_lt; have := q.h_lt; simp only [Pl.h, Pl.leaves]; omega
theorem Pl.forms_eq : ∀ p : Pl, p.forms = 2 * p.leaves - 1
  | .win _ => rfl
  | .days _ _ => rfl
  | .lat p q => by have := p.forms_eq; have := q.forms_eq; simp only [Pl.forms, Pl.leaves]; omega
  | .soo p q => by have := p.forms_eq; have := q.forms_eq; simp only [Pl.forms, Pl.leaves]; omega
  | .nex p q => by have := p.forms_eq; have := q.forms_eq; simp only [Pl.forms, Pl.leaves]; omega
theorem Pl.ok_mono {L M : Nat} (d : L ∣ M) : ∀ p : Pl, p.ok L → p.ok M
  | .win _, h => h
  | .days _ _, h => ⟨h.1, h.2.1, Nat.dvd_trans h.2.2.1 d, h.2.2.2⟩
  | .lat p q, h => ⟨p.ok_mono d h.1, q.ok_mono d h.2⟩
  | .soo p q, h => ⟨p.ok_mono d h.1, q.ok_mono d h.2⟩
  | .nex p q, h => ⟨p.ok_mono d h.1, q.ok_mono d h.2⟩
theorem lcmI_dvd {a b : Int} {L : Nat} (h1 : a.natAbs ∣ L) (h2 : b.natAbs ∣ L) : (lcmI a b).natAbs ∣ L := by
  unfold lcmI
  rw [Int.natAbs_natCast]
  exact Nat.lcm_dvd h1 h2
theorem lcmI_pos {a b : Int} (h1 : 0 < a) (h2 : 0 < b) : 0 < lcmI a b := by
  unfold lcmI
  have := Nat.lcm_pos (m := a.natAbs) (n := b.natAbs) (by omega) (by omega)
  omega
theorem Pl.per_ok {L : Nat} : ∀ p : Pl, p.ok L → p.per.natAbs ∣ L ∧ 0 < p.per
  | .win _, _ => ⟨Nat.one_dvd _, (show (0 : Int) < 1 by decide)⟩
  | .days _ e, h => ⟨h.2.2.1, by have := h.1; simp only [Pl.per]; omega⟩
  | .lat p q, h => ⟨lcmI_dvd (p.per_ok h.1).1 (q.per_ok h.2).1, lcmI_pos (p.per_ok h.1).2 (q.per_ok h.2).2⟩
  | .soo p q, h => ⟨lcmI_dvd (p.per_ok h.1).1 (q.per_ok h.2).1, lcmI_pos (p.per_ok h.1).2 (q.per_ok h.2).2⟩
  | .nex p q, h => ⟨lcmI_dvd (p.per_ok h.1).1 (q.per_ok h.2).1, lcmI_pos (p.per_ok h.1).2 (q.per_ok h.2).2⟩
theorem Pl.per_le {L : Nat} (p : Pl) (h : p.ok L) (h0 : 0 < L) (h1 : L ≤ 2000) : 1 ≤ p.per ∧ p.per ≤ 2000 := by
  obtain ⟨d, q⟩ := p.per_ok h
  have := Nat.le_of_dvd h0 d
  omega
theorem Asc.all : ∀ {n : Int} {bs : List Int}, Asc n bs → ∀ b ∈ bs, n ≤ b ∧ b ≤ 1000
  | _, [], _, b, hb => by cases hb
  | n, c :: r, h, b, hb => by
    rcases List.mem_cons.mp hb with rfl | hb
    · exact ⟨h.1, h.2.1⟩
    · have := Asc.all h.2.2 b hb
      have := h.1
      omega
theorem lastOf_nil : lastOf [] = 0 := rfl
theorem lastOf_mem : ∀ {bs : List Int}, bs ≠ [] → lastOf bs ∈ bs
  | [], h => absurd rfl h
  | [b], _ => List.mem_singleton.mpr rfl
  | b :: c :: r, _ => by
    have := lastOf_mem (bs := c :: r) (by simp)
    exact List.mem_cons_of_mem _ this
theorem Asc.last {n : Int} : ∀ {bs : List Int}, Asc n bs → ∀ b ∈ bs, b ≤ lastOf bs
  | [], _, b, hb => by cases hb
  | [c], _, b, hb => by
    rw [List.mem_singleton] at hb
    rw [hb]
    exact Int.le_refl _
  | c :: d :: r, h, b, hb => by
    have ih := Asc.last (bs := d :: r) h.2.2
    show b ≤ lastOf (d :: r)
    rcases List.mem_cons.mp hb with rfl | hb
    · have := ih d (by simp)
      have := h.2.2.1
      omega
    · exact ih b hb
theorem Asc.last_bd {bs : List Int} (h : Asc 1 bs) : 0 ≤ lastOf bs ∧ lastOf bs ≤ 1000 := by
  by_cases e : bs = []
  · subst e
    exact ⟨Int.le_refl _, by decide⟩
  · have := h.all _ (lastOf_mem e)
    omega
/-- the greatest of 0 and the borders -/
theorem Asc.max {bs : List Int} (h : Asc 1 bs) {m : Int} (hm : m ∈ 0 :: bs) (hu : ∀ y ∈ 0 :: bs, y ≤ m) : m = lastOf bs := by
  have l0 := h.last_bd
  rcases List.mem_cons.mp hm with rfl | hm
  · by_cases e : bs = []
    · subst e; rfl
    · have := h.all _ (lastOf_mem e)
      have := hu _ (List.mem_cons_of_mem _ (lastOf_mem e))
      omega
  · have e : bs ≠ [] := fun z => by rw [z] at hm; cases hm
    have := h.last m hm
    have := hu _ (List.mem_cons_of_mem _ (lastOf_mem e))
    omega
theorem dayAt_some {bs : List Int} {e t b : Int} (h : bs.find? (fun b => decide (b > t)) = some b) : dayAt bs e t = b := by unfold dayAt; rw [h]
theorem dayAt_none {bs : List Int} {e t : Int} (h : bs.find? (fun b => decide (b > t)) = none) : dayAt bs e t = lastOf bs + ((t - lastOf bs) / e + 1) * e := by unfold dayAt; rw [h]
theorem find_none {bs : List Int} {t : Int} (h : bs.find? (fun b => decide (b > t)) = none) : ∀ b ∈ bs, b ≤ t := by
  intro b hb
  have := List.find?_eq_none.mp h b hb
  simp at this
  exact this
theorem last_le {bs : List Int} {t : Int} (h0 : 0 ≤ t) (h : ∀ b ∈ bs, b ≤ t) : lastOf bs ≤ t := by
  by_cases e : bs = []
  · subst e; exact h0
  · exact h _ (lastOf_mem e)
theorem div_step (x e : Int) (he : 0 < e) : x < (x / e + 1) * e ∧ (x / e) * e ≤ x := by
  have h1 := Int.emod_nonneg x (by omega : e ≠ 0)
  have h2 := Int.emod_lt_of_pos x he
  have h3 := Int.mul_ediv_add_emod x e
  have h4 : (x / e + 1) * e = e * (x / e) + e := by rw [Int.add_mul, Int.one_mul, Int.mul_comm]
  have h5 : (x / e) * e = e * (x / e) := Int.mul_comm _ _
  omega
theorem dayAt_gt {bs : List Int} {e t : Int} (he : 0 < e) : t < dayAt bs e t := by
  cases q : bs.find? (fun b => decide (b > t)) with
  | some b =>
    rw [dayAt_some q]
    have := List.find?_some q
    simpa using this
  | none =>
    rw [dayAt_none q]
    have := (div_step (t - lastOf bs) e he).1
    omega
theorem dayAt_le {bs : List Int} {e t : Int} (he : 0 < e) (h1 : e ≤ 2000) (ha : Asc 1 bs) (h0 : 0 ≤ t) : dayAt bs e t ≤ t + 2000 := by
  cases q : bs.find? (fun b => decide (b > t)) with
  | some b =>
    rw [dayAt_some q]
    have := ha.all _ (List.mem_of_find?_eq_some q)
    omega
  | none =>
    rw [dayAt_none q]
    have := (div_step (t - lastOf bs) e he).2
    have h4 : ((t - lastOf bs) / e + 1) * e = (t - lastOf bs) / e * e + e := by rw [Int.add_mul, Int.one_mul]
    omega
theorem find_first {t t' : Int} (htt : t ≤ t') : ∀ {n : Int} {bs : List Int} {b b' : Int}, Asc n bs → bs.find? (fun b => decide (b > t)) = some b → bs.find? (fun b => decide (b > t')) = some b' → b ≤ b'
  | _, [], _, _, _, h, _ => by cases h
  | n, c :: r, b, b', ha, h, h' => by
    rw [List.find?_cons] at h h'
    by_cases q : c > t
    · rw [decide_eq_true q] at h
      cases h
      by_cases q' : c > t'
      · rw [decide_eq_true q'] at h'
        cases h'
        exact Int.le_refl _
      · rw [decide_eq_false q'] at h'
        have := ha.2.2.all _ (List.mem_of_find?_eq_some h')
        omega
    · rw [decide_eq_false q] at h
      rw [decide_eq_false (show ¬ c > t' by omega)] at h'
      exact find_first htt ha.2.2 h h'
theorem dayAt_mono {bs : List Int} {e t t' : Int} (he : 0 < e) (ha : Asc 1 bs) (htt : t ≤ t') : dayAt bs e t ≤ dayAt bs e t' := by
  cases q : bs.find? (fun b => decide (b > t)) with
  | some b =>
    rw [dayAt_some q]
    cases q' : bs.find? (fun b => decide (b > t')) with
    | some b' =>
      rw [dayAt_some q']
      exact find_first htt ha q q'
    | none =>
      have h1 := ha.last _ (List.mem_of_find?_eq_some q)
      have h2 := find_none q' _ (List.mem_of_find?_eq_some q)
      have := dayAt_gt (bs := bs) (t := t') he
      omega
  | none =>
    rw [dayAt_none q]
    have q2 : bs.find? (fun b => decide (b > t')) = none := by
      rw [List.find?_eq_none]
      intro b hb
      have := find_none q b hb
      simp
      omega
    rw [dayAt_none q2]
    have hd : (t - lastOf bs) / e ≤ (t' - lastOf bs) / e := Int.ediv_le_ediv he (by omega)
    have := Int.mul_le_mul_of_nonneg_right (show (t - lastOf bs) / e + 1 ≤ (t' - lastOf bs) / e + 1 by omega) (Int.le_of_lt he)
    omega
theorem dayAt_per {bs : List Int} {e t m : Int} (he : 0 < e) (ha : Asc 1 bs) (hb : lastOf bs ≤ t) (hm : 0 ≤ m) (hd : e ∣ m) : dayAt bs e (t + m) = dayAt bs e t + m := by
  have no : ∀ {u : Int}, lastOf bs ≤ u → bs.find? (fun b => decide (b > u)) = none := fun {u} hu => by
    rw [List.find?_eq_none]
    intro b hb
    have := ha.last b hb
    simp
    omega
  rw [dayAt_none (no hb), dayAt_none (no (show lastOf bs ≤ t + m by omega))]
  obtain ⟨c, rfl⟩ := hd
  have e1 : t + e * c - lastOf bs = (t - lastOf bs) + e * c := by omega
  rw [e1, Int.add_mul_ediv_left _ _ (by omega : e ≠ 0)]
  have e2 : ((t - lastOf bs) / e + c + 1) * e = ((t - lastOf bs) / e + 1) * e + e * c := by
    rw [Int.add_mul, Int.add_mul, Int.add_mul, Int.mul_comm c e]
    omega
  rw [e2]
  omega
theorem Pl.at_gt {L : Nat} : ∀ (p : Pl), p.ok L → ∀ t, t < p.at t
  | .win w, h, t => by have := h.1; simp only [Pl.at]; omega
  | .days bs e, h, t => dayAt_gt (by have := h.1; omega)
  | .lat p q, h, t => by
    have := p.at_gt h.1 t
    have := q.at_gt h.2 t
    simp only [Pl.at]
    split <;> omega
  | .soo p q, h, t => by
    have := p.at_gt h.1 t
    have := q.at_gt h.2 t
    simp only [Pl.at]
    split <;> omega
  | .nex p q, h, t => Int.lt_trans (p.at_gt h.1 t) (q.at_gt h.2 _)
theorem Pl.at_le {L : Nat} : ∀ (p : Pl), p.ok L → ∀ t, 0 ≤ t → p.at t ≤ t + 2000 * p.leaves
  | .win w, h, t, _ => by have := h.2; simp only [Pl.at, Pl.leaves]; omega
  | .days bs e, h, t, h0 => by
    have := dayAt_le (bs := bs) (by have := h.1; omega) h.2.1 h.2.2.2.2 h0
    simp only [Pl.at, Pl.leaves]
    omega
  | .lat p q, h, t, h0 => by
    have := p.at_le h.1 t h0
    have := q.at_le h.2 t h0
    simp only [Pl.at, Pl.leaves]
    split <;> omega
  | .soo p q, h, t, h0 => by
    have := p.at_le h.1 t h0
    have := q.at_le h.2 t h0
    simp only [Pl.at, Pl.leaves]
    split <;> omega
  | .nex p q, h, t, h0 => by
    have h1 := p.at_gt h.1 t
    have := p.at_le h.1 t h0
    have := q.at_le h.2 (p.at t) (by omega)
    simp only [Pl.at, Pl.leaves]
    omega
theorem Pl.at_mono {L : Nat} : ∀ (p : Pl), p.ok L → ∀ t t', t ≤ t' → p.at t ≤ p.at t'
  | .win w, h, t, t', ht => by simp only [Pl.at]; omega
  | .days bs e, h, t, t', ht => dayAt_mono (by have := h.1; omega) h.2.2.2.2 ht
  | .lat p q, h, t, t', ht => by
    have := p.at_mono h.1 t t' ht
    have := q.at_mono h.2 t t' ht
    simp only [Pl.at]
    split <;> split <;> omega
  | .soo p q, h, t, t', ht => by
    have := p.at_mono h.1 t t' ht
    have := q.at_mono h.2 t t' ht
    simp only [Pl.at]
    split <;> split <;> omega
  | .nex p q, h, t, t', ht => q.at_mono h.2 _ _ (p.at_mono h.1 t t' ht)
theorem maxI_le {a b t : Int} (h : maxI a b ≤ t) : a ≤ t ∧ b ≤ t := by
  unfold maxI at h
  split at h <;> omega
theorem dvd_l {a b m : Int} (h : lcmI a b ∣ m) : a ∣ m ∧ b ∣ m := by
  have h1 : a ∣ lcmI a b := Int.natAbs_dvd_natAbs.mp (by unfold lcmI; rw [Int.natAbs_natCast]; exact Nat.dvd_lcm_left _ _)
  have h2 : b ∣ lcmI a b := Int.natAbs_dvd_natAbs.mp (by unfold lcmI; rw [Int.natAbs_natCast]; exact Nat.dvd_lcm_right _ _)
  exact ⟨Int.dvd_trans h1 h, Int.dvd_trans h2 h⟩
theorem Pl.at_per {L : Nat} : ∀ (p : Pl), p.ok L → ∀ t m, p.bend ≤ t → 0 ≤ m → p.per ∣ m → p.at (t + m) = p.at t + m
  | .win w, h, t, m, _, _, _ => by simp only [Pl.at]; omega
  | .days bs e, h, t, m, hb, hm, hd => dayAt_per (by have := h.1; omega) h.2.2.2.2 hb hm hd
  | .lat p q, h, t, m, hb, hm, hd => by
    obtain ⟨d1, d2⟩ := dvd_l hd
    obtain ⟨b1, b2⟩ := maxI_le hb
    have h1 := p.at_per h.1 t m b1 hm d1
    have h2 := q.at_per h.2 t m b2 hm d2
    simp only [Pl.at, h1, h2]
    split <;> split <;> omega
  | .soo p q, h, t, m, hb, hm, hd => by
    obtain ⟨d1, d2⟩ := dvd_l hd
    obtain ⟨b1, b2⟩ := maxI_le hb
    have h1 := p.at_per h.1 t m b1 hm d1
    have h2 := q.at_per h.2 t m b2 hm d2
    simp only [Pl.at, h1, h2]
    split <;> split <;> omega
  | .nex p q, h, t, m, hb, hm, hd => by
    obtain ⟨d1, d2⟩ := dvd_l hd
    obtain ⟨b1, b2⟩ := maxI_le hb
    have h1 := p.at_per h.1 t m b1 hm d1
    have := p.at_gt h.1 t
    have h2 := q.at_per h.2 (p.at t) m (by omega) hm d2
    simp only [Pl.at, h1, h2]
theorem Pl.bend_bd {L : Nat} : ∀ p : Pl, p.ok L → 0 ≤ p.bend ∧ p.bend ≤ 1000
  | .win _, _ => ⟨Int.le_refl _, (show (0 : Int) ≤ 1000 by decide)⟩
  | .days _ _, h => h.2.2.2.2.last_bd
  | .lat p q, h => by have := p.bend_bd h.1; have := q.bend_bd h.2; simp only [Pl.bend, maxI]; split <;> omega
  | .soo p q, h => by have := p.bend_bd h.1; have := q.bend_bd h.2; simp only [Pl.bend, maxI]; split <;> omega
  | .nex p q, h => by have := p.bend_bd h.1; have := q.bend_bd h.2; simp only [Pl.bend, maxI]; split <;> omega
end RM
namespace RM
theorem fmod_nat (X Y : Nat) : (X : Int).fmod (Y : Int) = ((X % Y : Nat) : Int) := by
  rw [Int.fmod_eq_emod_of_nonneg _ (Int.natCast_nonneg _)]
  rfl
theorem fdiv_nat (X Y : Nat) : (X : Int).fdiv (Y : Int) = ((X / Y : Nat) : Int) := by
  rw [Int.fdiv_eq_ediv_of_nonneg _ (Int.natCast_nonneg _)]
  rfl
theorem lcm_by (A B : Nat) : ((A : Int).fdiv ((Nat.gcd A B : Nat) : Int)) * (B : Int) = lcmI A B := by
  rw [fdiv_nat]
  unfold lcmI
  rw [Int.natAbs_natCast, Int.natAbs_natCast, ← Int.natCast_mul]
  congr 1
  rw [Nat.div_mul_right_comm (Nat.gcd_dvd_left A B)]
  rfl
theorem gcd_step (X Y : Nat) : Nat.gcd Y (X % Y) = Nat.gcd X Y := by
  rw [Nat.gcd_comm X Y, Nat.gcd_rec Y X, Nat.gcd_comm]
end RM
namespace RM
theorem Asc.snoc {e c : Int} : ∀ {n : Int} {bs : List Int}, Asc n bs → (∀ b ∈ bs, b ≤ e) → n ≤ c → e < c → c ≤ 1000 → Asc n (bs ++ [c])
  | n, [], _, _, h1, _, h3 => ⟨h1, h3, True.intro⟩
  | n, b :: r, h, hb, h1, h2, h3 => ⟨h.1, h.2.1, Asc.snoc h.2.2 (fun x hx => hb x (List.mem_cons_of_mem _ hx)) (by have := hb b (by simp); omega) h2 h3⟩
theorem lcmI_one (B : Nat) : lcmI B 1 = B := by
  unfold lcmI
  rw [Int.natAbs_natCast]
  show ((B.lcm 1 : Nat) : Int) = B
  rw [Nat.lcm_one_right]
theorem lcmI_self (B : Nat) : lcmI B B = B := by
  unfold lcmI
  rw [Int.natAbs_natCast, Nat.lcm_self]
end RM
namespace RM
/-- a plan is as good with its own period -/
theorem Pl.ok_per {L : Nat} : ∀ p : Pl, p.ok L → p.ok p.per.natAbs
  | .win _, h => h
  | .days _ e, h => ⟨h.1, h.2.1, Nat.dvd_refl _, h.2.2.2⟩
  | .lat p q, h => ⟨Pl.ok_mono (by simp only [Pl.per, lcmI, Int.natAbs_natCast]; exact Nat.dvd_lcm_left _ _) p (p.ok_per h.1), Pl.ok_mono (by simp only [Pl.per, lcmI, Int.natAbs_natCast]; exact Nat.dvd_lcm_right _ _) q (q.ok_per h.2)⟩
  | .soo p q, h => ⟨Pl.ok_mono (by simp only [Pl.per, lcmI, Int.natAbs_natCast]; exact Nat.dvd_lcm_left _ _) p (p.ok_per h.1), Pl.ok_mono (by simp only [Pl.per, lcmI, Int.natAbs_natCast]; exact Nat.dvd_lcm_right _ _) q (q.ok_per h.2)⟩
  | .nex p q, h => ⟨Pl.ok_mono (by simp only [Pl.per, lcmI, Int.natAbs_natCast]; exact Nat.dvd_lcm_left _ _) p (p.ok_per h.1), Pl.ok_mono (by simp only [Pl.per, lcmI, Int.natAbs_natCast]; exact Nat.dvd_lcm_right _ _) q (q.ok_per h.2)⟩
theorem lcmI_comm (a b : Int) : lcmI a b = lcmI b a := by
  unfold lcmI
  rw [Nat.lcm_comm]
end RM

namespace LC
open PySem L2
section
variable {X : Cx} {st : Stmt} {ss : List Stmt}
/-- a statement that is never come to -/
theorem ps_never : PS X st (fun _ _ _ => False) := ⟨fun _ _ _ _ _ _ h => h.elim⟩
theorem pss_never : PSs X ss (fun _ _ _ => False) := ⟨fun _ _ _ _ _ _ h => h.elim⟩
def rLcm : List V → Hp → VK → Prop := fun vs H Q => ∃ a b : Int, vs = [.int a, .int b] ∧ a.natAbs < 2 ^ 64 ∧ b.natAbs < 2 ^ 64 ∧ Q (.int (RM.lcmI a b)) H
theorem cr_lcm : CallR X (.builtin "math.lcm") rLcm := by
  intro pins s σ H vs us Q I r h
  obtain ⟨a, b, rfl, h1, h2, q⟩ := h
  obtain ⟨t, u, rfl⟩ := Vals.int2 r
  exact PySem.W.mc_lcm h1 h2 fun _ => ⟨.int _, H, I.tok _, ⟨_, rfl⟩, q⟩
end
theorem fn_none {P : Program} {w : World} {K : PySem.W.Frag} {mg : Str → Option Value} {base : Heap} {CX : CXT} {k : Nat} {f : Addr} {fd : FuncData} {ps : List Str} {sp : Sp} (h : ∀ vs H Q E, ¬ sp vs H Q E) : FnOk P w K mg base CX k f fd ps sp :=
  ⟨fun vs H Q E q => (h _ _ _ _ q).elim, fun A outer s H args us vs Q E hr e0 hb r q => (h _ _ _ _ q).elim⟩
theorem raw0 {P : Program} {w : World} {K : PySem.W.Frag} {mg : Str → Option Value} {base : Heap} {CX : CXT} {k : Nat} {f : Addr} {fd : FuncData} {ps : List Str} {sp : Sp} (F : FnOk P w K mg base CX k f fd ps sp) (hb : Binds K fd ps []) : FnR P w K mg base CX k f sp :=
  (F.raw hb .nil).imp fun vs H Q E h => by
    rw [List.append_nil]
    exact h
theorem kLT_int {K : PySem.W.Frag} : PySem.W.kitAny K (.type "int") [.type "list", .type "tuple"] = some false := kitAny_cons (kit_ty (show kitB "int" "list" = some false by decide +kernel)) (fun _ => kitAny_cons (kit_ty (show kitB "int" "tuple" = some false by decide +kernel)) (fun _ => kitAny_nil) fun z => by cases z) (fun z => by cases z)
theorem kLT_lst {K : PySem.W.Frag} : PySem.W.kitAny K (.type "list") [.type "list", .type "tuple"] = some true := kitAny_cons (kit_ty (show kitB "list" "list" = some true by decide +kernel)) (fun z => by cases z) (fun _ => rfl)
end LC

namespace RM
/-- the uses in the stretch of s -/
def inS (p : Pl) (s : Int) (r : Int × Int) : Bool := decide (s ≤ r.1) && decide (r.1 < p.at s)
def wsum (p : Pl) (rs : List (Int × Int)) (s : Int) : Int := ((rs.filter (inS p s)).map (·.2)).sum
theorem sum_perm : ∀ {a b : List Int}, a.Perm b → a.sum = b.sum := fun h => by
  induction h with
  | nil => rfl
  | cons x _ ih => rw [List.sum_cons, List.sum_cons, ih]
  | swap x y l => simp only [List.sum_cons]; omega
  | trans _ _ h1 h2 => exact h1.trans h2
theorem wsum_perm {p : Pl} {rs rs' : List (Int × Int)} (h : rs.Perm rs') (s : Int) : wsum p rs s = wsum p rs' s := sum_perm ((h.filter _).map _)
theorem sum_nn : ∀ {l : List Int}, (∀ x ∈ l, 0 ≤ x) → 0 ≤ l.sum
  | [], _ => Int.le_refl _
  | x :: r, h => by
    have := sum_nn (l := r) fun y hy => h y (List.mem_cons_of_mem _ hy)
    have := h x (List.mem_cons_self ..)
    rw [List.sum_cons]
    omega
theorem sum_ge : ∀ {l : List Int} {x : Int}, (∀ y ∈ l, 0 ≤ y) → x ∈ l → x ≤ l.sum
  | y :: r, x, h, hx => by
    have n := sum_nn (l := r) fun z hz => h z (List.mem_cons_of_mem _ hz)
    have := h y (List.mem_cons_self ..)
    rw [List.sum_cons]
    rcases List.mem_cons.mp hx with rfl | hx
    · omega
    · have := sum_ge (l := r) (fun z hz => h z (List.mem_cons_of_mem _ hz)) hx
      omega
/-- a filter that takes more sums to more -/
theorem filt_le {f g : (Int × Int) → Bool} : ∀ {rs : List (Int × Int)}, (∀ r ∈ rs, 1 ≤ r.2) → (∀ r ∈ rs, f r = true → g r = true) → ((rs.filter f).map (·.2)).sum ≤ ((rs.filter g).map (·.2)).sum
  | [], _, _ => Int.le_refl _
  | r :: rs, h, fg => by
    have ih := filt_le (f := f) (g := g) (rs := rs) (fun x hx => h x (List.mem_cons_of_mem _ hx)) (fun x hx => fg x (List.mem_cons_of_mem _ hx))
    have h1 := h r (List.mem_cons_self ..)
    cases hf : f r with
    | true =>
      rw [List.filter_cons_of_pos hf, List.filter_cons_of_pos (fg r (List.mem_cons_self ..) hf)]
      simp only [List.map_cons, List.sum_cons]
      omega
    | false =>
      rw [List.filter_cons_of_neg (by rw [hf]; decide)]
      cases hg : g r with
      | true =>
        rw [List.filter_cons_of_pos hg]
        simp only [List.map_cons, List.sum_cons]
        omega
      | false =>
        rw [List.filter_cons_of_neg (by rw [hg]; decide)]
        exact ih
/-- the best of the moments P: its sum, the least moment that has it -/
def BestOn (f : Int → Int) (P : List Int) (c : Int) (o : Option Int) : Prop := (P = [] ∧ c = 0 ∧ o = none) ∨ ∃ m, m ∈ P ∧ o = some m ∧ c = f m ∧ ∀ m' ∈ P, f m' ≤ c ∧ (f m' = c → m ≤ m')
theorem BestOn.uniq {f : Int → Int} {P P' : List Int} {c c' : Int} {o o' : Option Int} (h : BestOn f P c o) (h' : BestOn f P' c' o') (e : ∀ m, m ∈ P ↔ m ∈ P') : c = c' ∧ o = o' := by
  rcases h with ⟨h1, h2, h3⟩ | ⟨m, h1, h2, h3, h4⟩
  · rcases h' with ⟨k1, k2, k3⟩ | ⟨m', k1, k2, k3, k4⟩
    · exact ⟨h2.trans k2.symm, h3.trans k3.symm⟩
    · rw [h1] at e
      exact absurd ((e m').mpr k1) (by simp)
  · rcases h' with ⟨k1, k2, k3⟩ | ⟨m', k1, k2, k3, k4⟩
    · rw [k1] at e
      exact absurd ((e m).mp h1) (by simp)
    · have a := h4 m' ((e m').mpr k1)
      have b := k4 m ((e m).mp h1)
      have ec : c = c' := by omega
      have em : m = m' := by
        have := a.2 (by omega)
        have := b.2 (by omega)
        omega
      exact ⟨ec, by rw [h2, k2, em]⟩
theorem BestOn.more {f : Int → Int} {P : List Int} {c s : Int} {o : Option Int} (h : BestOn f P c o) (hc : c < f s) (hs : ∀ m ∈ P, m ≤ s) : BestOn f (P ++ [s]) (f s) (some s) := by
  refine .inr ⟨s, by simp, rfl, rfl, fun m' hm => ?_⟩
  rcases List.mem_append.mp hm with hm | hm
  · rcases h with ⟨h1, _, _⟩ | ⟨m, h1, h2, h3, h4⟩
    · rw [h1] at hm
      cases hm
    · have := h4 m' hm
      omega
  · rw [List.mem_singleton] at hm
    rw [hm]
    omega
theorem BestOn.less {f : Int → Int} {P : List Int} {c s : Int} {o : Option Int} (h : BestOn f P c o) (h0 : 0 < f s) (hc : f s ≤ c) (hs : ∀ m ∈ P, m ≤ s) : BestOn f (P ++ [s]) c o := by
  rcases h with ⟨h1, h2, _⟩ | ⟨m, h1, h2, h3, h4⟩
  · omega
  · refine .inr ⟨m, List.mem_append_left _ h1, h2, h3, fun m' hm => ?_⟩
    rcases List.mem_append.mp hm with hm | hm
    · exact h4 m' hm
    · rw [List.mem_singleton] at hm
      have := hs m h1
      rw [hm]
      omega
theorem BestOn.again {f : Int → Int} {P : List Int} {c s : Int} {o : Option Int} (h : BestOn f P c o) (hs : s ∈ P) : BestOn f (P ++ [s]) c o ∧ f s ≤ c := by
  rcases h with ⟨h1, h2, _⟩ | ⟨m, h1, h2, h3, h4⟩
  · rw [h1] at hs
    cases hs
  · refine ⟨.inr ⟨m, List.mem_append_left _ h1, h2, h3, fun m' hm => ?_⟩, (h4 s hs).1⟩
    rcases List.mem_append.mp hm with hm | hm
    · exact h4 m' hm
    · rw [List.mem_singleton] at hm
      rw [hm]
      exact h4 s hs
theorem BestOn.congr {f g : Int → Int} {P P' : List Int} {c : Int} {o : Option Int} (h : BestOn f P c o) (e : ∀ m, m ∈ P ↔ m ∈ P') (fg : ∀ m, f m = g m) : BestOn g P' c o := by
  have : f = g := funext fg
  subst this
  rcases h with ⟨h1, h2, h3⟩ | ⟨m, h1, h2, h3, h4⟩
  · rw [h1] at e
    exact .inl ⟨List.eq_nil_iff_forall_not_mem.mpr fun m hm => absurd ((e m).mpr hm) (by simp), h2, h3⟩
  · exact .inr ⟨m, (e m).mp h1, h2, h3, fun m' hm => h4 m' ((e m').mpr hm)⟩
/-- each moment's own stretch has its uses -/
theorem wsum_pos {L : Nat} {p : Pl} (o : p.ok L) {rs : List (Int × Int)} (h : ∀ r ∈ rs, 1 ≤ r.2) {m : Int} (hm : m ∈ rs.map (·.1)) : 0 < wsum p rs m := by
  obtain ⟨r, hr, rfl⟩ := List.mem_map.mp hm
  have g := p.at_gt o r.1
  have : r.2 ≤ wsum p rs r.1 := by
    refine sum_ge (fun y hy => ?_) (List.mem_map.mpr ⟨r, List.mem_filter.mpr ⟨hr, ?_⟩, rfl⟩)
    · obtain ⟨q, hq, rfl⟩ := List.mem_map.mp hy
      have := h q ((List.mem_filter.mp hq).1)
      omega
    · unfold inS
      rw [decide_eq_true (Int.le_refl _), decide_eq_true g]
      rfl
  have := h r hr
  omega
/-- no stretch has more than the best of the moments -/
theorem wsum_best {L : Nat} {p : Pl} (o : p.ok L) {rs : List (Int × Int)} (h : ∀ r ∈ rs, 1 ≤ r.2) {c : Int} {b : Option Int} (B : BestOn (wsum p rs) (rs.map (·.1)) c b) (s : Int) : wsum p rs s ≤ c := by
  by_cases e : rs.filter (inS p s) = []
  · have z : wsum p rs s = 0 := by unfold wsum; rw [e]; rfl
    rcases B with ⟨_, h2, _⟩ | ⟨m, h1, _, h3, _⟩
    · omega
    · have := wsum_pos o h h1
      omega
  · obtain ⟨r, hr, hmin⟩ : ∃ r ∈ rs.filter (inS p s), ∀ q ∈ rs.filter (inS p s), r.1 ≤ q.1 := by
      have go : ∀ l : List (Int × Int), l ≠ [] → ∃ r ∈ l, ∀ q ∈ l, r.1 ≤ q.1 := by
        intro l
        induction l with
        | nil => intro z; exact absurd rfl z
        | cons x l ih =>
          intro _
          by_cases hl : l = []
          · subst hl
            exact ⟨x, by simp, fun q hq => by rw [List.mem_singleton] at hq; rw [hq]; exact Int.le_refl _⟩
          · obtain ⟨r, hr, hm⟩ := ih hl
            by_cases hx : x.1 ≤ r.1
            · exact ⟨x, by simp, fun q hq => by
                rcases List.mem_cons.mp hq with rfl | hq
                · exact Int.le_refl _
                · have := hm q hq
                  omega⟩
            · exact ⟨r, List.mem_cons_of_mem _ hr, fun q hq => by
                rcases List.mem_cons.mp hq with rfl | hq
                · omega
                · exact hm q hq⟩
      exact go _ e
    have hr' := List.mem_filter.mp hr
    have sr : s ≤ r.1 := by
      have z := hr'.2
      unfold inS at z
      rw [Bool.and_eq_true] at z
      exact of_decide_eq_true z.1
    have mono := p.at_mono o s r.1 sr
    have le : wsum p rs s ≤ wsum p rs r.1 := by
      have e2 : (rs.filter (inS p s)).filter (inS p r.1) = rs.filter (inS p s) := by
        rw [List.filter_eq_self]
        intro q hq
        have z := (List.mem_filter.mp hq).2
        have zm := hmin q hq
        unfold inS at z ⊢
        rw [Bool.and_eq_true] at z
        rw [decide_eq_true zm, decide_eq_true (show q.1 < p.at r.1 by have := of_decide_eq_true z.2; omega)]
        rfl
      unfold wsum
      rw [← e2, List.filter_filter]
      exact filt_le h fun q _ z => by
        rw [Bool.and_eq_true] at z
        exact z.1
    rcases B with ⟨h1, _, _⟩ | ⟨m, h1, h2, h3, h4⟩
    · have : r.1 ∈ rs.map (·.1) := List.mem_map.mpr ⟨r, hr'.1, rfl⟩
      rw [h1] at this
      cases this
    · have := (h4 r.1 (List.mem_map.mpr ⟨r, hr'.1, rfl⟩)).1
      omega
/-! ### the rows in their order, the window over them -/
def Srt1 (rs : List (Int × Int)) : Prop := rs.Pairwise fun a b => a.1 ≤ b.1
/-- the window of the row i: the rows from i on that are below b -/
def win (rs : List (Int × Int)) (i b : Nat) : Int := (((rs.drop i).take (b - i)).map (·.2)).sum
theorem win_nil (rs : List (Int × Int)) (i : Nat) : win rs i i = 0 := by unfold win; rw [Nat.sub_self, List.take_zero]; rfl
theorem win_more {rs : List (Int × Int)} {i b : Nat} (hi : i ≤ b) (hb : b < rs.length) : win rs i (b + 1) = win rs i b + rs[b].2 := by
  unfold win
  have e : b + 1 - i = (b - i) + 1 := by omega
  rw [e, List.take_add_one, List.getElem?_drop]
  have e2 : i + (b - i) = b := by omega
  rw [e2, List.getElem?_eq_getElem hb, Option.toList_some, List.map_append, List.sum_append]
  simp
theorem win_next {rs : List (Int × Int)} {i b : Nat} (hi : i < b) (hb : b ≤ rs.length) : win rs (i + 1) b = win rs i b - rs[i].2 := by
  unfold win
  have hl : i < rs.length := by omega
  have e : b - i = (b - (i + 1)) + 1 := by omega
  rw [e, List.drop_eq_getElem_cons hl, List.take_succ_cons]
  simp only [List.map_cons, List.sum_cons]
  omega
theorem pw_le {rs : List (Int × Int)} (hs : Srt1 rs) {i j : Nat} (hij : i ≤ j) (hj : j < rs.length) : rs[i].1 ≤ rs[j].1 := by
  by_cases e : i = j
  · subst e
    exact Int.le_refl _
  · exact List.pairwise_iff_getElem.mp hs i j (by omega) hj (by omega)
/-- the window is what the stretch has from the row i on -/
theorem win_eq {p : Pl} {rs : List (Int × Int)} {i b : Nat} (hs : Srt1 rs) (hi : i < rs.length) (hb : i < b) (h1 : ∀ j (hj : j < rs.length), j < b → rs[j].1 < p.at rs[i].1) (h2 : ∀ j (hj : j < rs.length), b ≤ j → p.at rs[i].1 ≤ rs[j].1) :
    wsum p rs rs[i].1 = (((rs.take i).filter (inS p rs[i].1)).map (·.2)).sum + win rs i b := by
  have ew : (rs.drop i).filter (inS p rs[i].1) = (rs.drop i).take (b - i) := by
    have sp := (List.take_append_drop (b - i) (rs.drop i)).symm
    have f1 : ((rs.drop i).take (b - i)).filter (inS p rs[i].1) = (rs.drop i).take (b - i) := by
      rw [List.filter_eq_self]
      intro r hr
      obtain ⟨k, hk⟩ := List.mem_iff_getElem?.mp hr
      obtain ⟨hk1, hk2⟩ := List.getElem?_eq_some_iff.mp hk
      rw [List.length_take, List.length_drop] at hk1
      rw [List.getElem_take, List.getElem_drop] at hk2
      have a := h1 (i + k) (by omega) (by omega)
      have s := pw_le hs (show i ≤ i + k by omega) (by omega)
      rw [hk2] at a s
      unfold inS
      rw [decide_eq_true s, decide_eq_true a]
      rfl
    have f2 : ((rs.drop i).drop (b - i)).filter (inS p rs[i].1) = [] := by
      rw [List.filter_eq_nil_iff]
      intro r hr
      obtain ⟨k, hk⟩ := List.mem_iff_getElem?.mp hr
      obtain ⟨hk1, hk2⟩ := List.getElem?_eq_some_iff.mp hk
      rw [List.length_drop, List.length_drop] at hk1
      rw [List.getElem_drop, List.getElem_drop] at hk2
      have a := h2 (i + (b - i + k)) (by omega) (by omega)
      rw [hk2] at a
      unfold inS
      rw [decide_eq_false (show ¬ r.1 < p.at rs[i].1 by omega), Bool.and_false]
      decide
    rw [sp, List.filter_append, f1, f2, List.append_nil, ← sp]
  unfold wsum win
  rw [← ew, ← List.sum_append, ← List.map_append, ← List.filter_append, List.take_append_drop]
theorem win_of {p : Pl} {rs : List (Int × Int)} {i b : Nat} {c : Int} {o : Option Int} {L : Nat} (ok : p.ok L) (hn : ∀ r ∈ rs, 1 ≤ r.2) (hs : Srt1 rs) (hi : i < rs.length) (hb : i < b) (h1 : ∀ j (hj : j < rs.length), j < b → rs[j].1 < p.at rs[i].1) (h2 : ∀ j (hj : j < rs.length), b ≤ j → p.at rs[i].1 ≤ rs[j].1)
    (B : BestOn (wsum p rs) ((rs.take i).map (·.1)) c o) : (c < win rs i b → BestOn (wsum p rs) ((rs.take (i + 1)).map (·.1)) (win rs i b) (some rs[i].1)) ∧ (¬ c < win rs i b → BestOn (wsum p rs) ((rs.take (i + 1)).map (·.1)) c o) := by
  have e := win_eq hs hi hb h1 h2
  have et : (rs.take (i + 1)).map (·.1) = (rs.take i).map (·.1) ++ [rs[i].1] := by
    rw [List.take_add_one, List.getElem?_eq_getElem hi, Option.toList_some, List.map_append]
    rfl
  have up : ∀ m ∈ (rs.take i).map (·.1), m ≤ rs[i].1 := fun m hm => by
    obtain ⟨r, hr, rfl⟩ := List.mem_map.mp hm
    obtain ⟨k, hk⟩ := List.mem_iff_getElem?.mp hr
    obtain ⟨hk1, hk2⟩ := List.getElem?_eq_some_iff.mp hk
    rw [List.length_take] at hk1
    rw [List.getElem_take] at hk2
    have := pw_le hs (show k ≤ i by omega) hi
    rw [hk2] at this
    exact this
  have pos := wsum_pos ok hn (m := rs[i].1) (List.mem_map.mpr ⟨_, List.getElem_mem hi, rfl⟩)
  rw [et]
  by_cases hm : rs[i].1 ∈ (rs.take i).map (·.1)
  · obtain ⟨a1, a2⟩ := B.again hm
    have nn : 0 ≤ (((rs.take i).filter (inS p rs[i].1)).map (·.2)).sum := sum_nn fun y hy => by
      obtain ⟨q, hq, rfl⟩ := List.mem_map.mp hy
      have := hn q (List.mem_of_mem_take ((List.mem_filter.mp hq).1))
      omega
    exact ⟨fun h => by omega, fun _ => a1⟩
  · have z : (rs.take i).filter (inS p rs[i].1) = [] := by
      rw [List.filter_eq_nil_iff]
      intro r hr
      have a := up r.1 (List.mem_map.mpr ⟨r, hr, rfl⟩)
      have b : r.1 ≠ rs[i].1 := fun ee => hm (by rw [← ee]; exact List.mem_map.mpr ⟨r, hr, rfl⟩)
      unfold inS
      rw [decide_eq_false (show ¬ rs[i].1 ≤ r.1 by omega), Bool.false_and]
      decide
    rw [z] at e
    have e' : wsum p rs rs[i].1 = win rs i b := by rw [e]; simp
    rw [← e']
    exact ⟨fun h => B.more h up, fun h => B.less pos (by omega) up⟩
end RM

namespace RM
/-! ### the moments t, rest(t), .. below e -/
def chn (p : Pl) : Nat → Int → Int → List Int
  | 0, _, _ => []
  | n + 1, t, e => if t < e then t :: chn p n (p.at t) e else []
def stp (p : Pl) (t e : Int) : List Int := chn p (e - t).toNat t e
theorem chn_fuel {L : Nat} {p : Pl} (o : p.ok L) : ∀ (n : Nat) (t e : Int), (e - t).toNat ≤ n → chn p n t e = stp p t e := by
  have key : ∀ (n m : Nat) (t e : Int), (e - t).toNat ≤ n → (e - t).toNat ≤ m → chn p n t e = chn p m t e := by
    intro n
    induction n with
    | zero =>
      intro m t e h1 _
      cases m with
      | zero => rfl
      | succ m =>
        show [] = if t < e then t :: chn p m (p.at t) e else []
        rw [if_neg (by omega)]
    | succ n ih =>
      intro m t e h1 h2
      cases m with
      | zero =>
        show (if t < e then t :: chn p n (p.at t) e else []) = []
        rw [if_neg (by omega)]
      | succ m =>
        show (if t < e then t :: chn p n (p.at t) e else []) = if t < e then t :: chn p m (p.at t) e else []
        by_cases h : t < e
        · have g := p.at_gt o t
          rw [if_pos h, if_pos h, ih m (p.at t) e (by omega) (by omega)]
        · rw [if_neg h, if_neg h]
  intro n t e h
  exact key n _ t e h (Nat.le_refl _)
theorem stp_lt {L : Nat} {p : Pl} (o : p.ok L) {t e : Int} (h : t < e) : stp p t e = t :: stp p (p.at t) e := by
  have g := p.at_gt o t
  rw [← chn_fuel o ((e - t).toNat + 1) t e (by omega)]
  show (if t < e then t :: chn p (e - t).toNat (p.at t) e else []) = _
  rw [if_pos h, chn_fuel o (e - t).toNat (p.at t) e (by omega)]
theorem stp_ge {p : Pl} {t e : Int} (h : ¬ t < e) : stp p t e = [] := by
  unfold stp
  rw [show (e - t).toNat = 0 by omega]
  rfl
theorem stp_ind {L : Nat} {p : Pl} (o : p.ok L) {e : Int} {P : Int → Prop} (h0 : ∀ t, ¬ t < e → P t) (h1 : ∀ t, t < e → P (p.at t) → P t) : ∀ t, P t := by
  have key : ∀ (n : Nat) (t : Int), (e - t).toNat ≤ n → P t := by
    intro n
    induction n with
    | zero => intro t h; exact h0 t (by omega)
    | succ n ih =>
      intro t h
      by_cases c : t < e
      · have g := p.at_gt o t
        exact h1 t c (ih _ (by omega))
      · exact h0 t c
  exact fun t => key _ t (Nat.le_refl _)
theorem stp_mem {L : Nat} {p : Pl} (o : p.ok L) {e : Int} : ∀ t, ∀ u ∈ stp p t e, t ≤ u ∧ u < e := by
  refine stp_ind o (e := e) (fun t h u hu => ?_) fun t h ih u hu => ?_
  · rw [stp_ge h] at hu
    cases hu
  · rw [stp_lt o h] at hu
    have g := p.at_gt o t
    rcases List.mem_cons.mp hu with rfl | hu
    · exact ⟨Int.le_refl _, h⟩
    · have := ih u hu
      omega
theorem stp_len {L : Nat} {p : Pl} (o : p.ok L) {e : Int} : ∀ t, (stp p t e).length ≤ (e - t).toNat := by
  refine stp_ind o (e := e) (fun t h => ?_) fun t h ih => ?_
  · rw [stp_ge h]
    exact Nat.zero_le _
  · rw [stp_lt o h]
    have g := p.at_gt o t
    show (stp p (p.at t) e).length + 1 ≤ _
    omega
/-- the uses of a chain: all chips at each moment -/
def useL (p : Pl) (c t e : Int) : List (Int × Int) := (stp p t e).map fun u => (u, c)
theorem wsum_nil (p : Pl) (s : Int) : wsum p [] s = 0 := rfl
theorem wsum_cons (p : Pl) (r : Int × Int) (rs : List (Int × Int)) (s : Int) : wsum p (r :: rs) s = (if inS p s r = true then r.2 else 0) + wsum p rs s := by
  unfold wsum
  cases h : inS p s r with
  | true =>
    rw [List.filter_cons_of_pos h, if_pos rfl, List.map_cons, List.sum_cons]
  | false =>
    rw [List.filter_cons_of_neg (by rw [h]; decide), if_neg (by decide)]
    omega
theorem wsum_zero {p : Pl} {s : Int} : ∀ {rs : List (Int × Int)}, (∀ r ∈ rs, inS p s r = false) → wsum p rs s = 0
  | [], _ => rfl
  | r :: rs, h => by
    rw [wsum_cons, h r (List.mem_cons_self ..), wsum_zero fun x hx => h x (List.mem_cons_of_mem _ hx)]
    rfl
/-- each stretch of the chain's own rest has one of its moments -/
theorem chain_own {L : Nat} {p : Pl} (o : p.ok L) {c e : Int} : ∀ t, ∀ u ∈ stp p t e, wsum p (useL p c t e) u = c := by
  refine stp_ind o (e := e) (fun t h u hu => ?_) fun t h ih u hu => ?_
  · rw [stp_ge h] at hu
    cases hu
  · unfold useL
    rw [stp_lt o h] at hu ⊢
    have g := p.at_gt o t
    rw [List.map_cons, wsum_cons]
    rcases List.mem_cons.mp hu with rfl | hu
    · have z : wsum p ((stp p (p.at u) e).map fun x => (x, c)) u = 0 := wsum_zero fun r hr => by
        obtain ⟨v, hv, rfl⟩ := List.mem_map.mp hr
        have := stp_mem o _ v hv
        show (decide (u ≤ v) && decide (v < p.at u)) = false
        rw [decide_eq_false (show ¬ v < p.at u by omega), Bool.and_false]
      have i : inS p u (u, c) = true := by
        show (decide (u ≤ u) && decide (u < p.at u)) = true
        rw [decide_eq_true (Int.le_refl _), decide_eq_true g]
        rfl
      rw [z, i, if_pos rfl]
      show c + 0 = c
      omega
    · have m := stp_mem o _ u hu
      have i : inS p u (t, c) = false := by
        show (decide (u ≤ t) && _) = false
        rw [decide_eq_false (show ¬ u ≤ t by omega), Bool.false_and]
      rw [i, if_neg (by decide)]
      have q := ih u hu
      unfold useL at q
      omega
/-- the other rest's stretch has all -/
theorem chain_all {L : Nat} {p q : Pl} (o : p.ok L) {c s : Int} : wsum q (useL p c s (q.at s)) s = ((stp p s (q.at s)).length : Int) * c := by
  have all : ∀ (l : List Int), (∀ u ∈ l, s ≤ u ∧ u < q.at s) → wsum q (l.map fun u => (u, c)) s = (l.length : Int) * c := by
    intro l
    induction l with
    | nil => intro _; rw [List.map_nil, wsum_nil]; simp
    | cons u l ih =>
      intro h
      have hu := h u (List.mem_cons_self ..)
      rw [List.map_cons, wsum_cons, ih fun v hv => h v (List.mem_cons_of_mem _ hv)]
      have i : inS q s (u, c) = true := by
        show (decide (s ≤ u) && decide (u < q.at s)) = true
        rw [decide_eq_true hu.1, decide_eq_true hu.2]
        rfl
      rw [i, if_pos rfl]
      show c + _ = ((l.length + 1 : Nat) : Int) * c
      rw [Int.natCast_add, Int.add_mul]
      omega
  exact all _ fun u hu => stp_mem o s u hu
/-! ### the breach -/
def cln (p q : Pl) (s : Int) : Int := ((stp p s (q.at s)).length : Int)
def Brk (p q : Pl) (M c en : Int) : Option Int → Prop
  | none => ∀ s, 0 ≤ s → s < M → cln p q s * c ≤ en
  | some s => 0 ≤ s ∧ s < M ∧ (∀ j, 0 ≤ j → j < s → cln p q j * c ≤ en) ∧ en < cln p q s * c
theorem Brk.uniq {p q : Pl} {M c en : Int} : ∀ {a b : Option Int}, Brk p q M c en a → Brk p q M c en b → a = b
  | none, none, _, _ => rfl
  | none, some s, h, ⟨h1, h2, _, h4⟩ => absurd (h s h1 h2) (by omega)
  | some s, none, ⟨h1, h2, _, h4⟩, h => absurd (h s h1 h2) (by omega)
  | some s, some t, ⟨h1, h2, h3, h4⟩, ⟨k1, k2, k3, k4⟩ => by
    rcases Int.lt_trichotomy s t with h | h | h
    · exact absurd (k3 s h1 h) (by omega)
    · rw [h]
    · exact absurd (h3 t k1 h) (by omega)
theorem more_iff {n c en : Int} (hc : 0 < c) : en.fdiv c < n ↔ en < n * c := by
  rw [Int.fdiv_eq_ediv_of_nonneg _ (Int.le_of_lt hc)]
  exact Int.ediv_lt_iff_lt_mul hc
end RM

namespace LC
open PySem L2
section
variable {K : PySem.W.Frag} {a b : Addr} {xs ys : List V}
theorem walk_zipT {n : Nat} (hn : n = min xs.length ys.length) : Walk (RZ.ItzT K a b) n (fun H => SqT K H a xs ∧ SqT K H b ys) (YPair (fun i => xs[i]?) (fun i => ys[i]?)) := by
  have la : ∀ {i}, i < n → i < xs.length ∧ i < ys.length := fun h => by omega
  refine ⟨fun i _ hi q => ⟨xs, ys, xs[i]'(la hi).1, ys[i]'(la hi).2, q.1, q.2, List.getElem?_eq_getElem _, List.getElem?_eq_getElem _⟩, fun _ q => ⟨xs, ys, q.1, q.2, by omega⟩, fun i H v H' _ q y => ?_⟩
  obtain ⟨T, x, z, rest⟩ := y
  exact ⟨T, x, z, rest.1, rest.2.1, rest.2.2.1, rest.2.2.2.1 xs q.1, rest.2.2.2.2 ys q.2⟩
end
theorem kLT_non {K : PySem.W.Frag} : PySem.W.kitAny K (.type "NoneType") [.type "list", .type "tuple"] = some false := kitAny_cons (kit_ty (show kitB "NoneType" "list" = some false by decide +kernel)) (fun _ => kitAny_cons (kit_ty (show kitB "NoneType" "tuple" = some false by decide +kernel)) (fun _ => kitAny_nil) fun z => by cases z) (fun z => by cases z)
theorem kLT_str {K : PySem.W.Frag} : PySem.W.kitAny K (.type "str") [.type "list", .type "tuple"] = some false := kitAny_cons (kit_ty (show kitB "str" "list" = some false by decide +kernel)) (fun _ => kitAny_cons (kit_ty (show kitB "str" "tuple" = some false by decide +kernel)) (fun _ => kitAny_nil) fun z => by cases z) (fun z => by cases z)
theorem kLT_bool {K : PySem.W.Frag} : PySem.W.kitAny K (.type "bool") [.type "list", .type "tuple"] = some false := kitAny_cons (kit_ty (show kitB "bool" "list" = some false by decide +kernel)) (fun _ => kitAny_cons (kit_ty (show kitB "bool" "tuple" = some false by decide +kernel)) (fun _ => kitAny_nil) fun z => by cases z) (fun z => by cases z)
theorem kLT_tup {K : PySem.W.Frag} : PySem.W.kitAny K (.type "tuple") [.type "list", .type "tuple"] = some true := kitAny_cons (kit_ty (show kitB "tuple" "list" = some false by decide +kernel)) (fun _ => kitAny_cons (kit_ty (show kitB "tuple" "tuple" = some true by decide +kernel)) (fun z => by cases z) fun _ => rfl) (fun z => by cases z)
theorem sameT {K : PySem.W.Frag} {H H' : Hp} {a : Addr} {xs : List V} (e : L2.Same H H') (h : SqT K H a xs) : SqT K H' a xs := by
  rcases h with (h | ⟨o, h⟩) | h
  · exact .inl (.inl (e _ _ h))
  · exact .inl (.inr ⟨o, e _ _ h⟩)
  · exact .inr h
/-- both ways of a test go on alike -/
theorem ite_dc {p : Prop} [Decidable p] {A B C : Prop} (h : C) (h1 : p → C → A) (h2 : ¬ p → C → B) : if decide p = true then A else B := by
  by_cases q : p
  · rw [decide_eq_true q]
    exact L2.iteT (h1 q h)
  · rw [decide_eq_false q]
    exact L2.iteF (h2 q h)
theorem cut_lastV (xs : List V) (x : V) : cutV (xs ++ [x]) none (some (-1)) = xs := by
  have e : HT.sIx (xs ++ [x]).length (xs ++ [x]).length (some (-1)) = xs.length := by
    show (if (-1 : Int) < 0 then ((-1 : Int) + (((xs ++ [x]).length : Nat) : Int)).toNat else min (-1 : Int).toNat (xs ++ [x]).length) = xs.length
    rw [if_pos (by decide), List.length_append]
    show ((-1 : Int) + ((xs.length + 1 : Nat) : Int)).toNat = _
    omega
  unfold cutV
  rw [e, HT.sIx_none, Nat.sub_zero, List.drop_zero]
  exact List.take_left' rfl
/-- equal data, told and due -/
def Sc : V → Prop
  | .int _ => True
  | .non => True
  | .bl _ => True
  | .str _ => True
  | _ => False
def mkO (b : Bool) (xs : List V) : HO := if b = true then .lst xs else .tup xs
def Lk (H : Hp) : Nat → V → V → Prop
  | 0, x, y => x = y ∧ Sc x
  | n + 1, x, y => (x = y ∧ Sc x) ∨ ∃ (b : Bool) (p q : Addr) (xs ys : List V), x = .ref p ∧ y = .ref q ∧ H p = some (mkO b xs) ∧ H q = some (mkO b ys) ∧ xs.length = ys.length ∧ xs.length ≤ 1000000 ∧ ∀ (i : Nat) (u v : V), xs[i]? = some u → ys[i]? = some v → Lk H n u v
theorem Lk.same {H H' : Hp} (s : L2.Same H H') : ∀ {n : Nat} {x y : V}, Lk H n x y → Lk H' n x y
  | 0, _, _, h => h
  | n + 1, _, _, .inl h => .inl h
  | n + 1, _, _, .inr ⟨b, p, q, xs, ys, e1, e2, h1, h2, h3, h4, h5⟩ => .inr ⟨b, p, q, xs, ys, e1, e2, s _ _ h1, s _ _ h2, h3, h4, fun i u v a c => (h5 i u v a c).same s⟩
theorem Lk.sc {H : Hp} {x : V} (h : Sc x) : ∀ n, Lk H n x x
  | 0 => ⟨rfl, h⟩
  | _ + 1 => .inl ⟨rfl, h⟩
theorem Lk.cases {H : Hp} {m : Nat} {u v : V} (h : Lk H m u v) : (u = v ∧ Sc u) ∨ ∃ j, m = j + 1 ∧ ∃ (b : Bool) (p q : Addr) (xs ys : List V), u = .ref p ∧ v = .ref q ∧ H p = some (mkO b xs) ∧ H q = some (mkO b ys) ∧ xs.length = ys.length ∧ xs.length ≤ 1000000 ∧ ∀ (i : Nat) (s t : V), xs[i]? = some s → ys[i]? = some t → Lk H j s t := by
  cases m with
  | zero => exact .inl h
  | succ j =>
    rcases h with h | h
    · exact .inl h
    · exact .inr ⟨j, rfl, h⟩
end LC

namespace LG
open PySem PyProof.Rows
/-! What runs and never wakes a sleeper leaves it: a run over a poisoned table of generators is a run over the table itself. -/
/-- no generator's mark -/
def plainF : Frame → Bool
  | .gen .. => false
  | _ => true
def Plain (fs : List Frame) : Prop := ∀ f ∈ fs, plainF f = true
/-- a frame as it is seen, without its mark -/
def dull : Frame → Frame
  | .ret k h g l c p kp => .ret k h g l c p kp
  | .gen _ _ l c p => .ret (fun _ => .unsupported "") none false l c p []
theorem dull_where (f : Frame) : (dull f).where_ = f.where_ := by cases f <;> rfl
theorem dull_plain (f : Frame) : plainF (dull f) = true := by cases f <;> rfl
/-- a sleeper that nobody can wake -/
def poison : GenState → GenState
  | .suspended _ l c p fs cl => .suspended (fun _ => .unsupported "") l c p (fs.map dull) cl
  | x => x
theorem poison_seen (x : GenState) : (poison x).seen = x.seen := by
  cases x with
  | suspended k l c p fs cl =>
    show (GenStatus.suspended, some ((c, p) :: (fs.map dull).map Frame.where_)) = (GenStatus.suspended, some ((c, p) :: fs.map Frame.where_))
    rw [List.map_map]
    have e : (Frame.where_ ∘ dull) = Frame.where_ := funext dull_where
    rw [e]
  | _ => rfl
theorem poison_bare (x : GenState) : (poison x).bare = x.bare := by cases x <;> rfl
def PlainG : GenState → Prop
  | .suspended _ _ _ _ fs _ => Plain fs
  | _ => True
theorem poison_plain (x : GenState) : PlainG (poison x) := by
  cases x with
  | suspended k l c p fs cl =>
    intro f hf
    obtain ⟨g, _, rfl⟩ := List.mem_map.mp hf
    exact dull_plain g
  | _ => trivial
def Slp (G0 : Array GenState) (i : Nat) : Prop := ∃ x, G0[i]? = some x ∧ x.status = .suspended
/-- G': the table of the poisoned run; G: the table indeed -/
structure RG (G0 G' G : Array GenState) : Prop where
  size : G'.size = G.size
  le : G0.size ≤ G.size
  slept : ∀ (i : Nat) (x : GenState), G0[i]? = some x → x.status = .suspended → G[i]? = some x ∧ G'[i]? = some (poison x)
  same : ∀ i : Nat, ¬ Slp G0 i → G'[i]? = G[i]?
  plain : ∀ (i : Nat) (y : GenState), G'[i]? = some y → PlainG y
theorem RG.seen {G0 G' G : Array GenState} {i : Nat} {y : GenState} (r : RG G0 G' G) (h : G'[i]? = some y) : ∃ x, G[i]? = some x ∧ x.seen = y.seen := by
  by_cases q : Slp G0 i
  · obtain ⟨x, h1, h2⟩ := q
    obtain ⟨a, b⟩ := r.slept i x h1 h2
    rw [b] at h
    cases h
    exact ⟨x, a, (poison_seen x).symm⟩
  · exact ⟨y, by rw [← r.same i q]; exact h, rfl⟩
/-- what is awake in the poisoned table is so indeed -/
theorem RG.awake {G0 G' G : Array GenState} {i : Nat} {y : GenState} (r : RG G0 G' G) (h : G'[i]? = some y) (n : y.status ≠ .suspended) : ¬ Slp G0 i ∧ G[i]? = some y := by
  by_cases q : Slp G0 i
  · obtain ⟨x, h1, h2⟩ := q
    obtain ⟨a, b⟩ := r.slept i x h1 h2
    rw [b] at h
    cases h
    refine absurd ?_ n
    have e := congrArg Prod.fst (poison_seen x)
    rw [GenState.seen_fst, GenState.seen_fst, h2] at e
    exact e
  · exact ⟨q, by rw [← r.same i q]; exact h⟩
theorem RG.set {G0 G' G : Array GenState} {g : Nat} (r : RG G0 G' G) (q : ¬ Slp G0 g) (x : GenState) (hx : PlainG x) : RG G0 (G'.setIfInBounds g x) (G.setIfInBounds g x) where
  size := by rw [Array.size_setIfInBounds, Array.size_setIfInBounds]; exact r.size
  le := by rw [Array.size_setIfInBounds]; exact r.le
  slept := fun i y h1 h2 => by
    have n : g ≠ i := fun e => q (by rw [e]; exact ⟨y, h1, h2⟩)
    rw [Array.getElem?_setIfInBounds_ne n, Array.getElem?_setIfInBounds_ne n]
    exact r.slept i y h1 h2
  same := fun i h => by
    by_cases e : g = i
    · subst e
      rw [Array.getElem?_setIfInBounds, Array.getElem?_setIfInBounds, r.size]
      simp
    · rw [Array.getElem?_setIfInBounds_ne e, Array.getElem?_setIfInBounds_ne e]
      exact r.same i h
  plain := fun i y h => by
    by_cases e : g = i
    · subst e
      rw [Array.getElem?_setIfInBounds] at h
      by_cases c : g < G'.size
      · simp only [if_pos rfl, c, if_true] at h
        cases h
        exact hx
      · simp only [if_pos rfl, c, if_false] at h
        cases h
    · rw [Array.getElem?_setIfInBounds_ne e] at h
      exact r.plain i y h
theorem RG.push {G0 G' G : Array GenState} (r : RG G0 G' G) (x : GenState) (hx : PlainG x) : RG G0 (G'.push x) (G.push x) where
  size := by rw [Array.size_push, Array.size_push, r.size]
  le := by rw [Array.size_push]; exact Nat.le_succ_of_le r.le
  slept := fun i y h1 h2 => by
    obtain ⟨a, b⟩ := r.slept i y h1 h2
    have l1 : i < G.size := (Array.getElem?_eq_some_iff.mp a).1
    have l2 : i < G'.size := by rw [r.size]; exact l1
    rw [Array.getElem?_push, Array.getElem?_push, if_neg (Nat.ne_of_lt l1), if_neg (Nat.ne_of_lt l2)]
    exact ⟨a, b⟩
  same := fun i h => by
    rw [Array.getElem?_push, Array.getElem?_push, r.size, r.same i h]
  plain := fun i y h => by
    rw [Array.getElem?_push] at h
    split at h
    · cases h
      exact hx
    · exact r.plain i y h
theorem no_unsupported {M : Model} {Γ : Ctx} {p : Pos} {w : String} : ∀ {t : Sem PySem.Fin} {fs : List Frame} {s : Shared} {e : End} {s' : Shared}, Runs M Γ p t fs s e s' → t = .unsupported w → False := by
  intro t fs s e s' h
  induction h <;> intro q <;> first | (cases q; done) | (rename_i ih _; exact ih q) | (rename_i ih; exact ih q) | (rename_i ih _ _ ; exact ih q)
def PlainE : End → Prop
  | .ret _ => True
  | .susp _ _ _ _ _ _ fs => Plain fs
theorem PlainE.gs {e : End} (h : PlainE e) : PlainG e.genState := by
  cases e with
  | ret _ => trivial
  | susp v g l k c p fs => exact h
theorem plain_split {fs : List Frame} (h : Plain fs) : splitAtGen fs = none := by
  induction fs with
  | nil => rfl
  | cons f r ih =>
    have h1 := h f (List.mem_cons_self ..)
    have h2 := ih fun g hg => h g (List.mem_cons_of_mem _ hg)
    cases f with
    | ret k hh g l c p kp =>
      show (splitAtGen r).map _ = none
      rw [h2]
      rfl
    | gen _ _ _ _ _ => cases h1
theorem plain_app {fs gs : List Frame} (h : Plain fs) (h' : Plain gs) : Plain (fs ++ gs) := fun f hf => (List.mem_append.mp hf).elim (h f) (h' f)
theorem plain_nil : Plain [] := fun f hf => by cases hf
/-- THE RULE -/
theorem runs_rel {M : Model} {G0 : Array GenState} {Γ : Ctx} {p : Pos} {t : Sem PySem.Fin} {fs : List Frame} {s : Shared} {e : End} {s1 : Shared} (h : Runs M Γ p t fs s e s1) :
    Plain fs → ∀ G, RG G0 s.gens G → ∃ G1, Runs M Γ p t fs { s with gens := G } e { s1 with gens := G1 } ∧ RG G0 s1.gens G1 ∧ PlainE e := by
  induction h with
  | done => intro _ G r; exact ⟨G, .done, r, trivial⟩
  | raise => intro _ G r; exact ⟨G, .raise, r, trivial⟩
  | again q _ ih => intro f G r; obtain ⟨G1, a, b, c⟩ := ih f G r; exact ⟨G1, .again q a, b, c⟩
  | rule _ ih => intro f G r; obtain ⟨G1, a, b, c⟩ := ih f G r; exact ⟨G1, .rule a, b, c⟩
  | «at» _ ih => intro f G r; obtain ⟨G1, a, b, c⟩ := ih f G r; exact ⟨G1, .at a, b, c⟩
  | load q _ ih => intro f G r; obtain ⟨G1, a, b, c⟩ := ih f G r; exact ⟨G1, .load q a, b, c⟩
  | update q _ ih => intro f G r; obtain ⟨G1, a, b, c⟩ := ih f G r; exact ⟨G1, .update q a, b, c⟩
  | loadIfAlive _ ih => intro f G r; obtain ⟨G1, a, b, c⟩ := ih f G r; exact ⟨G1, .loadIfAlive a, b, c⟩
  | point _ ih => intro f G r; obtain ⟨G1, a, b, c⟩ := ih f G r; exact ⟨G1, .point a, b, c⟩
  | alloc _ ih => intro f G r; obtain ⟨G1, a, b, c⟩ := ih f G r; exact ⟨G1, .alloc a, b, c⟩
  | fresh _ ih => intro f G r; obtain ⟨G1, a, b, c⟩ := ih f G r; exact ⟨G1, .fresh a, b, c⟩
  | ask _ ih => intro f G r; obtain ⟨G1, a, b, c⟩ := ih f G r; exact ⟨G1, .ask a, b, c⟩
  | choose q _ ih => intro f G r; obtain ⟨G1, a, b, c⟩ := ih f G r; exact ⟨G1, .choose q a, b, c⟩
  | os _ ih => intro f G r; obtain ⟨G1, a, b, c⟩ := ih f G r; exact ⟨G1, .os a, b, c⟩
  | handled _ ih => intro f G r; obtain ⟨G1, a, b, c⟩ := ih f G r; exact ⟨G1, .handled a, b, c⟩
  | genState q _ ih =>
    intro f G r
    obtain ⟨G1, a, b, c⟩ := ih f G r
    obtain ⟨x, h1, h2⟩ := r.seen q
    exact ⟨G1, .genState (st := x) h1 (by rw [h2]; exact a), b, c⟩
  | stack _ ih => intro f G r; obtain ⟨G1, a, b, c⟩ := ih f G r; exact ⟨G1, .stack a, b, c⟩
  | thread _ ih => intro f G r; obtain ⟨G1, a, b, c⟩ := ih f G r; exact ⟨G1, .thread a, b, c⟩
  | newGen _ ih =>
    intro f G r
    obtain ⟨G1, a, b, c⟩ := ih f _ (r.push (.fresh _) trivial)
    have e := r.size
    rw [e] at a
    exact ⟨G1, .newGen a, b, c⟩
  | call _ _ ih1 ih2 =>
    intro f G r
    obtain ⟨G1, a, b, c⟩ := ih1 plain_nil G r
    obtain ⟨G2, a2, b2, c2⟩ := ih2 f G1 b
    exact ⟨G2, .call a a2, b2, c2⟩
  | callSusp _ ih =>
    intro f G r
    obtain ⟨G1, a, b, c⟩ := ih plain_nil G r
    exact ⟨G1, .callSusp a, b, plain_app c fun f hf => by rw [List.mem_singleton.mp hf]; rfl⟩
  | yield => intro f G r; exact ⟨G, .yield, r, plain_nil⟩
  | resumeFresh q _ hq _ ih1 ih2 =>
    intro f G r
    obtain ⟨n, q'⟩ := r.awake q (by intro z; cases z)
    obtain ⟨G1, a, b, c⟩ := ih1 plain_nil _ (r.set n .running trivial)
    obtain ⟨G2, a2, b2, c2⟩ := ih2 f _ (b.set n _ c.gs)
    exact ⟨G2, .resumeFresh q' a hq a2, b2, c2⟩
  | @resumeSuspended Γ p g rr l k s k₀ l₀ c₀ p₀ fs cl e₁ s₁ e s' q hrun hq _ ih1 ih2 =>
    intro f G r
    have pf : Plain fs := r.plain _ _ q
    by_cases sl : Slp G0 g
    · obtain ⟨x, h1, h2⟩ := sl
      obtain ⟨_, h4⟩ := r.slept g x h1 h2
      rw [h4] at q
      cases x with
      | suspended k l c p fs cl =>
        cases q
        exact (no_unsupported hrun rfl).elim
      | fresh c => cases h2
      | running => cases h2
      | finished => cases h2
    · have q' : G[g]? = _ := (r.same g sl).symm.trans q
      obtain ⟨G1, a, b, c⟩ := ih1 pf _ (r.set sl .running trivial)
      obtain ⟨G2, a2, b2, c2⟩ := ih2 f _ (b.set sl _ c.gs)
      exact ⟨G2, .resumeSuspended q' a hq a2, b2, c2⟩
  | resumeJustStarted q hv _ ih =>
    intro f G r
    obtain ⟨G1, a, b, c⟩ := ih f G r
    exact ⟨G1, .resumeJustStarted (r.awake q (by intro z; cases z)).2 hv a, b, c⟩
  | resumeThrowFresh q _ ih =>
    intro f G r
    obtain ⟨n, q'⟩ := r.awake q (by intro z; cases z)
    obtain ⟨G1, a, b, c⟩ := ih f _ (r.set n .finished trivial)
    exact ⟨G1, .resumeThrowFresh q' a, b, c⟩
  | resumeRunning q _ ih =>
    intro f G r
    obtain ⟨G1, a, b, c⟩ := ih f G r
    exact ⟨G1, .resumeRunning (r.awake q (by intro z; cases z)).2 a, b, c⟩
  | resumeFinished q _ ih =>
    intro f G r
    obtain ⟨G1, a, b, c⟩ := ih f G r
    exact ⟨G1, .resumeFinished (r.awake q (by intro z; cases z)).2 a, b, c⟩
  | segRet _ _ ih1 ih2 =>
    intro f G r
    obtain ⟨G1, a, b, c⟩ := ih1 plain_nil G r
    obtain ⟨G2, a2, b2, c2⟩ := ih2 (fun g hg => f g (List.mem_cons_of_mem _ hg)) G1 b
    exact ⟨G2, .segRet a a2, b2, c2⟩
  | segGen _ _ _ _ =>
    intro f G r
    have := f _ (List.mem_cons_self ..)
    cases this
  | segSuspOut q _ ih =>
    intro f G r
    obtain ⟨G1, a, b, c⟩ := ih plain_nil G r
    exact ⟨G1, .segSuspOut q a, b, plain_app c f⟩
  | segSuspGen q _ _ _ _ _ =>
    intro f G r
    rw [plain_split f] at q
    cases q
/-- the poisoned table -/
def dead (G : Array GenState) : Array GenState := G.map poison
theorem dead_rel (G : Array GenState) : RG G (dead G) G where
  size := Array.size_map ..
  le := Nat.le_refl _
  slept := fun i x h _ => ⟨h, by unfold dead; rw [Array.getElem?_map, h]; rfl⟩
  same := fun i h => by
    unfold dead
    rw [Array.getElem?_map]
    cases e : G[i]? with
    | none => rfl
    | some x =>
      show some (poison x) = some x
      cases x with
      | suspended k l c p fs cl => exact absurd ⟨_, e, rfl⟩ h
      | fresh c => rfl
      | running => rfl
      | finished => rfl
  plain := fun i y h => by
    unfold dead at h
    rw [Array.getElem?_map] at h
    cases e : G[i]? with
    | none => rw [e] at h; cases h
    | some x => rw [e] at h; cases h; exact poison_plain x
/-- .. and of what is asked of a run -/
theorem wp_rel {α : Type} {M : Model} {Γ : Ctx} {G0 : Array GenState} (t : Sem α) : ∀ {Q : α → Pos → Shared → Prop} {E : Value → Pos → Shared → Prop} {p : Pos} {s : Shared} {G : Array GenState}, Sem.wp M Γ t Q E p s → RG G0 s.gens G →
    Sem.wp M Γ t (fun a p' s' => ∃ G', RG G0 G' s'.gens ∧ Q a p' { s' with gens := G' }) (fun e p' s' => ∃ G', RG G0 G' s'.gens ∧ E e p' { s' with gens := G' }) p { s with gens := G } := by
  induction t with
  | pure a => intro Q E p s G h r; exact ⟨_, r, h⟩
  | raise e => intro Q E p s G h r; exact ⟨_, r, h⟩
  | unsupported _ => intro Q E p s G h r; exact h
  | finish _ => intro Q E p s G h r; exact h
  | rule _ k ih => intro Q E p s G h r; exact ih () h r
  | «at» p' k ih => intro Q E p s G h r; exact ih () h r
  | load a _ k ih => intro Q E p s G h r; obtain ⟨o, ho, h⟩ := h; exact ⟨o, ho, ih o h r⟩
  | update a _ f k ih => intro Q E p s G h r; exact ⟨h.1, ih () h.2 r⟩
  | loadIfAlive a k ih => intro Q E p s G h r; exact ih _ h r
  | point _ k ih => intro Q E p s G h r; exact ih () h r
  | register _ _ => intro Q E p s G h r; exact h
  | alloc o k ih => intro Q E p s G h r; exact ih _ h r
  | fresh k ih => intro Q E p s G h r; exact ih _ h r
  | ask k ih => intro Q E p s G h r; exact ih _ h r
  | choose src m k ih => intro Q E p s G h r; exact ⟨h.1, ih _ h.2 r⟩
  | os q _ k ih => intro Q E p s G h r; exact ih _ h r
  | call c hd _ _ k ih =>
    intro Q E p s G h r
    obtain ⟨x, s', hr, h⟩ := h
    obtain ⟨G1, a, b, _⟩ := runs_rel hr plain_nil G r
    exact ⟨x, { s' with gens := G1 }, a, ih x h b⟩
  | handled own k ih => intro Q E p s G h r; exact ih _ h r
  | genState g k ih =>
    intro Q E p s G h r
    obtain ⟨st, hs, h⟩ := h
    obtain ⟨x, h1, h2⟩ := r.seen hs
    exact ⟨x, h1, by rw [h2]; exact ih _ h r⟩
  | newGen c k ih =>
    intro Q E p s G h r
    have q := ih _ h (r.push (.fresh c) trivial)
    have e := r.size
    rw [e] at q
    exact q
  | resume g rr _ k ih =>
    intro Q E p s G h r
    obtain ⟨res, s', hw, h⟩ := h
    have key : ∃ G1, Wakes M Γ p g rr { s with gens := G } res { s' with gens := G1 } ∧ RG G0 s'.gens G1 := by
      unfold Wakes at hw ⊢
      cases e : s.gens[g]? with
      | none => rw [e] at hw; exact hw.elim
      | some y =>
        rw [e] at hw
        cases y with
        | fresh c =>
          obtain ⟨n, q'⟩ := r.awake e (by intro z; cases z)
          rw [show ({ s with gens := G } : Shared).gens[g]? = some (.fresh c) from q']
          cases rr with
          | send v =>
            cases v with
            | none =>
              obtain ⟨e₁, s₁, hr, hq, rfl, rfl⟩ := hw
              obtain ⟨G1, a, b, c'⟩ := runs_rel hr plain_nil _ (r.set n .running trivial)
              exact ⟨_, ⟨e₁, _, a, hq, rfl, rfl⟩, b.set n _ c'.gs⟩
            | _ => obtain ⟨rfl, rfl⟩ := hw; exact ⟨G, ⟨rfl, rfl⟩, r⟩
          | throw x => obtain ⟨rfl, rfl⟩ := hw; exact ⟨_, ⟨rfl, rfl⟩, r.set n .finished trivial⟩
        | suspended k₀ l₀ c₀ p₀ fs cl =>
          by_cases sl : Slp G0 g
          · obtain ⟨x, h1, h2⟩ := sl
            obtain ⟨_, h4⟩ := r.slept g x h1 h2
            rw [h4] at e
            obtain ⟨e₁, s₁, hr, _⟩ := hw
            cases x with
            | suspended k l c p fs cl =>
              cases e
              exact (no_unsupported hr rfl).elim
            | fresh c => cases h2
            | running => cases h2
            | finished => cases h2
          · have q' : G[g]? = _ := (r.same g sl).symm.trans e
            rw [show ({ s with gens := G } : Shared).gens[g]? = _ from q']
            obtain ⟨e₁, s₁, hr, hq, rfl, rfl⟩ := hw
            obtain ⟨G1, a, b, c'⟩ := runs_rel hr (r.plain _ _ e) _ (r.set sl .running trivial)
            exact ⟨_, ⟨e₁, _, a, hq, rfl, rfl⟩, b.set sl _ c'.gs⟩
        | running =>
          obtain ⟨n, q'⟩ := r.awake e (by intro z; cases z)
          rw [show ({ s with gens := G } : Shared).gens[g]? = _ from q']
          obtain ⟨rfl, rfl⟩ := hw
          exact ⟨G, ⟨rfl, rfl⟩, r⟩
        | finished =>
          obtain ⟨n, q'⟩ := r.awake e (by intro z; cases z)
          rw [show ({ s with gens := G } : Shared).gens[g]? = _ from q']
          obtain ⟨rfl, rfl⟩ := hw
          exact ⟨G, ⟨rfl, rfl⟩, r⟩
    obtain ⟨G1, a, b⟩ := key
    exact ⟨res, _, a, ih res h b⟩
  | yield _ _ _ _ => intro Q E p s G h r; exact h
  | stack k ih => intro Q E p s G h r; exact ih _ h r
  | fork _ _ => intro Q E p s G h r; exact h
  | thread k ih => intro Q E p s G h r; exact ih _ h r
  | await _ _ _ _ _ => intro Q E p s G h r; exact h
/-- what holds of a run over the poisoned table holds of the run, and who sleeps goes on sleeping -/
theorem asleep {α : Type} {M : Model} {A : Around} {t : Sem α} {Q : α → Shared → Prop} {E : Value → Shared → Prop} {s : Shared} (h : wpAny M A t Q E { s with gens := dead s.gens }) :
    wpAny M A t (fun a s' => ∃ G', RG s.gens G' s'.gens ∧ Q a { s' with gens := G' }) (fun e s' => ∃ G', RG s.gens G' s'.gens ∧ E e { s' with gens := G' }) s :=
  fun Γ p hΓ => wp_rel (s := { s with gens := dead s.gens }) (G := s.gens) t (h Γ p hΓ) (dead_rel s.gens)
theorem dead_bare {G : Array GenState} (h : AllBare G) : AllBare (dead G) := fun y hy => by
  unfold dead at hy
  obtain ⟨x, hx, rfl⟩ := Array.mem_map.mp hy
  rw [poison_bare]
  exact h x hx
theorem RG.bare {G0 G' G : Array GenState} (r : RG G0 G' G) (h0 : AllBare G0) (h : AllBare G') : AllBare G := fun x hx => by
  obtain ⟨i, hi, e⟩ := Array.mem_iff_getElem.mp hx
  have q : G[i]? = some x := by rw [Array.getElem?_eq_getElem hi, e]
  by_cases sl : Slp G0 i
  · obtain ⟨y, h1, h2⟩ := sl
    obtain ⟨a, _⟩ := r.slept i y h1 h2
    rw [q] at a
    cases a
    exact h0 _ (Array.mem_of_getElem? h1)
  · have q' := (r.same i sl).trans q
    exact h _ (Array.mem_of_getElem? q')
end LG

namespace LG
open PySem L2 PyProof.Rows
/-! ### a generator's frame while its consumer runs -/
theorem Inv_dead {X : Cx} {pins : List (Addr × Obj)} {σ : L2.St} {H : Hp} {s : Shared} (I : Inv X pins σ H s) : Inv X pins σ H { s with gens := dead s.gens } :=
  ⟨I.ok, I.os, dead_bare I.bare, I.base, I.loc, I.cell, I.free, I.freeC, I.pin, I.hok, I.len⟩
theorem Inv_gens {X : Cx} {pins : List (Addr × Obj)} {σ : L2.St} {H : Hp} {s : Shared} {G : Array GenState} (I : Inv X pins σ H { s with gens := G }) (b : AllBare s.gens) : Inv X pins σ H s :=
  ⟨I.ok, I.os, b, I.base, I.loc, I.cell, I.free, I.freeC, I.pin, I.hok, I.len⟩
/-- the heap as long as it was -/
def cutH (h : Heap) (n : Nat) : Heap := { h with objs := h.objs.extract 0 n }
theorem cutH_size {h : Heap} {n : Nat} (hn : n ≤ h.objs.size) : (cutH h n).objs.size = n := by
  show (h.objs.extract 0 n).size = n
  rw [Array.size_extract]
  omega
theorem cutH_get {h : Heap} {n b : Nat} (hb : b < n) : (cutH h n).get? b = h.get? b := by
  have e : (cutH h n).objs[b]? = h.objs[b]? := by
    show (h.objs.extract 0 n)[b]? = _
    rw [Array.getElem?_extract]
    by_cases c : b < h.objs.size
    · rw [if_pos (by omega)]
      simp
    · rw [if_neg (by omega), Array.getElem?_eq_none (by omega)]
  unfold Heap.get?
  rw [e]
theorem of_cutH {h : Heap} {n b : Nat} {o : Obj} (e : (cutH h n).get? b = some o) : b < n ∧ h.get? b = some o := by
  have l := Heap.lt_size e
  have hb : b < n := by
    have q : (cutH h n).objs.size ≤ n := by
      show (h.objs.extract 0 n).size ≤ n
      rw [Array.size_extract]
      omega
    exact Nat.lt_of_lt_of_le l q
  exact ⟨hb, by rw [← cutH_get hb]; exact e⟩
/-- a generator's names: no cells -/
structure GE (env : Env) : Prop where
  kind : env.scope.kind = .function
  glob : env.globals = mainGlobals
  blt : env.builtins = builtinsNs
  frame : env.frame = some env.locals
  cells : env.cells = []
  nocell : ∀ x, env.kindOf x = some .cell ∨ env.kindOf x = some .free → False
def LocH (N : List Str) (env : Env) (σ : L2.St) (h : Heap) : Prop :=
  ∃ m, h.Ns env.locals m ∧ ∀ (i : Nat) (x : Str) (v : V), N[i]? = some x → σ[i]? = some (some v) → Vis env.scope x → ∃ u, RelV v u ∧ Look env h m x u
theorem LocH.stay {N : List Str} {env : Env} {σ : L2.St} {h h' : Heap} {o : Obj} (ge : GE env) (l : LocH N env σ h) (e : h.get? env.locals = some o) (e' : h'.get? env.locals = some o) : LocH N env σ h' := by
  obtain ⟨m, ⟨o', es, ep, ho, r⟩, q⟩ := l
  rw [e] at ho
  cases ho
  refine ⟨m, ⟨o, es, ep, e', r⟩, fun i x v h1 h2 h3 => ?_⟩
  obtain ⟨u, ru, lk⟩ := q i x v h1 h2 h3
  refine ⟨u, ru, ?_⟩
  rcases lk with lk | ⟨k, _⟩
  · exact .inl lk
  · exact (ge.nocell x k).elim
theorem LocH.obj {N : List Str} {env : Env} {σ : L2.St} {h : Heap} (l : LocH N env σ h) : ∃ o, h.get? env.locals = some o ∧ ∀ v, o.data ≠ .cell v := by
  obtain ⟨m, ⟨o, es, ep, ho, hd, _⟩, _⟩ := l
  exact ⟨o, ho, fun v z => by rw [hd] at z; cases z⟩
/-- the context of a generator's code, woken at s -/
def gcx (X : Cx) (N : List Str) (env : Env) (A : Around) (ps : List (Addr × Obj)) (s : Shared) (H : Hp) : Cx where
  prog := X.prog
  w := X.w
  K := X.K
  mg := X.mg
  base := X.base
  A := A
  N := N
  s_0 := { s with heap := cutH s.heap env.locals }
  H_0 := H
  env := env
  outer := X.stack
  stack := env :: X.stack
  ex := []
  fn := fun _ => true
  calm := true
  pn := ps
  xe := fun _ _ => False
/-- what of the consumer is older than the generator's frame (at n), or is pinned while the generator runs -/
structure Low (X : Cx) (pins : List (Addr × Obj)) (n : Nat) (fp : List Addr) : Prop where
  frs : ∀ b ∈ frs X.stack, b < n
  base : X.base.objs.size ≤ n
  loc : X.env.locals < n ∨ X.env.locals ∈ fp
  cells : ∀ x c, X.env.cells.lookup x = some c → c < n
  pins : ∀ p ∈ X.pn ++ pins, p.1 < n
def Old (X : Cx) (n : Nat) (H : Hp) : Prop := ∀ b o, X.s_0.heap.get? b = some o → b ∉ X.ex → b < n ∨ ∃ xs, H b = some (.lst xs)
def FpAt (n : Nat) (fp : List Addr) (H : Hp) (h : Heap) : Prop := ∀ b ∈ fp, n < b ∧ H b = none ∧ ∃ o, h.get? b = some o ∧ ∀ v, o.data ≠ .cell v
section
variable {X : Cx} {pins : List (Addr × Obj)} {σ σg : L2.St} {H H1 : Hp} {s s1 : Shared} {N : List Str} {env : Env} {fp : List Addr} {A : Around}
theorem to_gen (I : Inv X pins σ H s) (ge : GE env) (lo : Low X pins env.locals fp) (hfp : FpAt env.locals fp H s.heap) (hL : H env.locals = none) (loc : LocH N env σg s.heap)
    (hA : A.handled = none) (hfr : A.frames = some (env :: X.stack)) (hlen : σg.length = N.length) : Inv (gcx X N env A (pinsAt fp s.heap) s H) [] σg H s := by
  have hlt : env.locals < s.heap.objs.size := by
    obtain ⟨o, e, _⟩ := loc.obj
    exact Heap.lt_size e
  have hsz : (cutH s.heap env.locals).objs.size = env.locals := cutH_size (Nat.le_of_lt hlt)
  have nf : ∀ b, env.locals ≤ b → b ∉ L2.frs X.stack := fun b hb z => absurd (lo.frs b z) (Nat.not_lt_of_le hb)
  have funs : ∀ l : List Env, (∀ b ∈ L2.frs l, b < env.locals) → s.heap.FunFrames X.base l → (cutH s.heap env.locals).FunFrames X.base l := by
    intro l
    induction l with
    | nil => intro _ _; trivial
    | cons e r ih =>
      intro hs hl
      obtain ⟨hk, ⟨L, o, hf, hn, ho, hd⟩, hr⟩ := hl
      have hLm : L ∈ L2.frs (e :: r) := by
        unfold L2.frs
        rw [List.filterMap_cons, hf]
        exact List.mem_cons_self
      refine ⟨hk, ⟨L, o, hf, hn, (cutH_get (hs L hLm)).trans ho, hd⟩, ih (fun b hb => hs b ?_) hr⟩
      unfold L2.frs at hb ⊢
      rw [List.filterMap_cons, hf]
      exact List.mem_cons_of_mem _ hb
  have ok : (gcx X N env A (pinsAt fp s.heap) s H).Ok := by
    refine ⟨I.ok.mod, ge.kind, ge.glob, ge.blt, ?_, fun x y c e1 _ => ?_, fun x hx => (ge.nocell x hx).elim, fun x c _ e => ?_, fun _ => hA, hfr, .inr ⟨rfl, ge.frame⟩, fun b hb => ?_, fun b o e => ?_, ?_, fun b o _ hb => ?_, fun b hb => ?_, ?_, ?_⟩
    · show (cutH s.heap env.locals).objs.size ≤ env.locals
      rw [hsz]
      exact Nat.le_refl _
    · have e1 : env.cells.lookup x = some c := e1
      rw [ge.cells] at e1
      cases e1
    · have e : env.cells.lookup x = some c := e
      rw [ge.cells] at e
      cases e
    · exact absurd (show b ∈ ([] : List Addr) from hb) (by simp)
    · obtain ⟨h1, h2⟩ := I.bs b o e
      exact ⟨(cutH_get (Nat.lt_of_lt_of_le (Heap.lt_size e) lo.base)).trans h1, h2⟩
    · show X.base.objs.size ≤ (cutH s.heap env.locals).objs.size
      rw [hsz]
      exact lo.base
    · exact absurd (show b ∈ ([] : List Addr) from hb) (by simp)
    · exact absurd (show b ∈ ([] : List Addr) from hb) (by simp)
    · exact funs X.stack lo.frs I.stack
    · exact I.stkFree
  refine ⟨ok, rfl, I.bare, Un.kept fun b o e => (of_cutH e).2, loc, fun x c e => ?_, hL, fun x c e => ?_, fun p hp => ?_, I.hok, hlen⟩
  · have e : env.cells.lookup x = some c := e
    rw [ge.cells] at e
    cases e
  · have e : env.cells.lookup x = some c := e
    rw [ge.cells] at e
    cases e
  · have hp : p ∈ pinsAt fp s.heap ++ [] := hp
    rw [List.append_nil] at hp
    obtain ⟨hb, e⟩ := of_pinsAt hp
    obtain ⟨h1, h2, o, h3, h4⟩ := hfp p.1 hb
    rw [e] at h3
    cases h3
    exact ⟨e, h2, Nat.ne_of_gt h1, nf _ (Nat.le_of_lt h1), h4⟩
theorem from_gen (I : Inv X pins σ H s) (old : Old X env.locals H) (lo : Low X pins env.locals fp) (hfp : FpAt env.locals fp H s.heap) (J : Inv (gcx X N env A (pinsAt fp s.heap) s H) [] σg H1 s1) (sm : Same H H1) : Inv X pins σ H1 s1 := by
  have low : ∀ b o, b < env.locals → s.heap.get? b = some o → H b = none → ∃ sl, s1.heap.get? b = some { o with slots := sl } := fun b o hb e n =>
    J.base.any (show (cutH s.heap env.locals).get? b = some o from (cutH_get hb).trans e) n (show b ∉ ([] : List Addr) by simp)
  have lowK : ∀ b o, b < env.locals → s.heap.get? b = some o → H b = none → b ∉ L2.frs X.stack → s1.heap.get? b = some o := fun b o hb e n hf =>
    J.base.keep b o (show (cutH s.heap env.locals).get? b = some o from (cutH_get hb).trans e) n hf (show b ∉ ([] : List Addr) by simp)
  have lowF : ∀ b o, b < env.locals → s.heap.get? b = some o → H b = none → H1 b = none := fun b o hb e n =>
    J.base.free b o (show (cutH s.heap env.locals).get? b = some o from (cutH_get hb).trans e) n (show b ∉ ([] : List Addr) by simp)
  have pin : ∀ b ∈ fp, ∀ o, s.heap.get? b = some o → s1.heap.get? b = some o ∧ H1 b = none := fun b hb o e => by
    have q := J.pin (b, o) (List.mem_append_left _ (mem_pinsAt hb e))
    exact ⟨q.1, q.2.1⟩
  have nst : ∀ b o, X.s_0.heap.get? b = some o → b ∉ X.fs → b ∉ L2.frs X.stack := fun b o e hb hm => by
    rcases List.mem_cons.mp (I.stkSub b hm) with z | z
    · have h1 := Heap.lt_size e
      have h2 := I.ok.above
      rw [z] at h1
      exact absurd (Nat.lt_of_lt_of_le h1 h2) (Nat.lt_irrefl _)
    · exact hb z
  obtain ⟨m, ⟨oc, es, ep, hoc, hd, r⟩, hl⟩ := id I.loc
  -- the consumer's own frame
  have frm : ∃ sl, s1.heap.get? X.env.locals = some { oc with slots := sl } := by
    rcases lo.loc with h | h
    · exact low _ _ h hoc I.free
    · exact ⟨oc.slots, (pin _ h _ hoc).1⟩
  have frF : H1 X.env.locals = none := by
    rcases lo.loc with h | h
    · exact lowF _ _ h hoc I.free
    · exact (pin _ h _ hoc).2
  have cel : ∀ x c, X.env.cells.lookup x = some c → ∀ v, s.heap.IsCell c v → s1.heap.IsCell c v := fun x c e v ⟨o, ho, hv⟩ => by
    obtain ⟨sl, q⟩ := low c o (lo.cells x c e) ho (I.freeC x c e)
    exact ⟨_, q, hv⟩
  refine ⟨I.ok, J.os.trans I.os, J.bare, ⟨fun b o e n hb hx => ?_, fun b o e n hb hx => ?_, fun b o e n hx => ?_, fun b o e hx => ?_, fun b xs e => J.base.tups b xs (I.base.tups b xs e), fun b o xs e => J.base.frzs b o xs (I.base.frzs b o xs e), fun b ps e => ?_⟩,
    ⟨m, ?_, fun i x v h1 h2 h3 => ?_⟩, fun x c e => ?_, frF, fun x c e => ?_, fun p hp => ?_, J.hok, I.len⟩
  · have e1 := I.base.keep b o e n hb hx
    have n1 := I.base.free b o e n hx
    rcases old b o e hx with h | ⟨xs, h⟩
    · exact lowK b o h e1 n1 (nst b o e hb)
    · rw [n1] at h; cases h
  · obtain ⟨sl, e1⟩ := I.base.slot b o e n hb hx
    have n1 := I.base.free b o e n hx
    rcases old b o e hx with h | ⟨xs, h⟩
    · obtain ⟨sl', e2⟩ := low b _ h e1 n1
      exact ⟨sl', e2⟩
    · rw [n1] at h; cases h
  · obtain ⟨o', e1⟩ := I.base.there b o e hx
    have n1 := I.base.free b o e n hx
    rcases old b o e hx with h | ⟨xs, h⟩
    · exact lowF b o' h e1 n1
    · rw [n1] at h; cases h
  · obtain ⟨o', e1⟩ := I.base.there b o e hx
    rcases old b o e hx with h | ⟨xs, h⟩
    · exact J.base.there b o' (show (cutH s.heap env.locals).get? b = some o' from (cutH_get h).trans e1) (show b ∉ ([] : List Addr) by simp)
    · obtain ⟨_, its, n, _, q⟩ := (show ObjOk _ _ _ _ b (.lst xs) from J.hok b _ (sm _ _ h))
      exact ⟨_, q⟩
  · obtain ⟨m1, e1⟩ := I.base.tbls b ps e
    obtain ⟨m2, e2⟩ := J.base.tbls b _ e1
    exact ⟨m1 ++ m2, by rw [e2, Array.append_assoc]⟩
  · obtain ⟨sl, q⟩ := frm
    exact ⟨_, es, ep, q, hd, r⟩
  · obtain ⟨u, ru, lk⟩ := hl i x v h1 h2 h3
    refine ⟨u, ru, ?_⟩
    rcases lk with lk | ⟨k, c, e, z⟩
    · exact .inl lk
    · exact .inr ⟨k, c, e, cel x c e _ z⟩
  · obtain ⟨v, z⟩ := I.cell x c e
    exact ⟨v, cel x c e v z⟩
  · obtain ⟨v, o, ho, _⟩ := I.cell x c e
    exact lowF c o (lo.cells x c e) ho (I.freeC x c e)
  · obtain ⟨e, n, ne, nf, d⟩ := I.pin p hp
    have hlt := lo.pins p hp
    have nfs : p.1 ∉ L2.frs X.stack := fun hm => by
      rcases List.mem_cons.mp (I.stkSub p.1 hm) with z | z
      · exact ne z
      · exact nf z
    exact ⟨lowK _ _ hlt e n nfs, lowF _ _ hlt e n, ne, nf, d⟩
end
end LG

namespace LG
open PySem L2 PyProof.Rows
/-! ### a generator's body, whatever its consumer does between two items -/
structure GP where
  X : Cx
  pins : List (Addr × Obj)
  N : List Str
  env : Env
  A : Around
  a : Addr
  go : Obj
  fp : List Addr
  xs : List V
  B : Nat → L2.St → Hp → Prop
namespace GP
abbrev cx (G : GP) (ps : List (Addr × Obj)) (s : Shared) (H : Hp) : Cx := gcx G.X G.N G.env G.A ps s H
abbrev M (G : GP) : Model := model G.X.prog G.X.w
def pl (G : GP) (oL : Obj) : List (Addr × Obj) := G.pins ++ [(G.a, G.go), (G.env.locals, oL)]
structure Ok (G : GP) : Prop where
  ge : GE G.env
  lo : Low G.X G.pins G.env.locals G.fp
  hA : G.A.handled = none
  hfr : G.A.frames = some (G.env :: G.X.stack)
  old : ∀ i σ H, G.B i σ H → Old G.X G.env.locals H
  fp : ∀ b ∈ G.fp, G.env.locals < b ∧ (b = G.a ∨ b = G.X.env.locals)
  fa : G.a ∈ G.fp
  gd : ∀ v, G.go.data ≠ .cell v
  aL : G.a ≠ G.X.env.locals
  aF : G.a ∉ G.X.fs
  lL : G.env.locals ≠ G.X.env.locals
  lF : G.env.locals ∉ G.X.fs
/-- the generator runs: i items are out; H: what is tracked -/
def GI (G : GP) (i : Nat) (σ : L2.St) (H : Hp) (s : Shared) : Prop :=
  ∃ s0 σc H0, Inv G.X G.pins σc H0 s0 ∧ FpAt G.env.locals G.fp H0 s0.heap ∧ s0.heap.get? G.a = some G.go ∧ G.B i σc H0 ∧ Inv (G.cx (pinsAt G.fp s0.heap) s0 H0) [] σ H s ∧ Same H0 H
/-- the protocol -/
def Y (G : GP) : Protocol := fun n _ v s kap => ∃ i x σc H0 H oL, n + i = G.xs.length ∧ G.xs[i]? = some x ∧ RelV x v ∧ G.B i σc H0 ∧ Same H0 H ∧ Inv G.X (G.pl oL) σc H s ∧
  ∀ s2 σ2 H2, Inv G.X (G.pl oL) σ2 H2 s2 → G.B (i + 1) σ2 H2 → kap (.send .none) s2 ∧ kap (.send (.bool true)) s2
def F (G : GP) : Nat → Shared → Shared → Prop := fun _ _ s => ∃ σc H0 H, G.B G.xs.length σc H0 ∧ Same H0 H ∧ Inv G.X (G.pins ++ [(G.a, G.go)]) σc H s
def R (G : GP) : GenEnd := fun n s₀ r s₁ => ((r = .ok (.ret .none) ∨ r = .ok .next) ∧ G.F n s₀ s₁) ∨ ∃ e, r = .error e ∧ (fun (_ : Value) (_ : Shared) => False) e s₁
section
variable {G : GP} {i : Nat} {σ σc : L2.St} {H H0 : Hp} {s s0 : Shared}
theorem woken (k : G.Ok) {oL : Obj} (I : Inv G.X (G.pl oL) σc H s) (hB : G.B i σc H) (loc : LocH G.N G.env σ s.heap) (hl : σ.length = G.N.length) : GI G i σ H s := by
  have I0 : Inv G.X G.pins σc H s := I.unpinned
  have pa := I.pin (G.a, G.go) (List.mem_append_right _ (List.mem_append_right _ (List.mem_cons_self ..)))
  have pL := I.pin (G.env.locals, oL) (List.mem_append_right _ (List.mem_append_right _ (List.mem_cons_of_mem _ (List.mem_cons_self ..))))
  have fpA : FpAt G.env.locals G.fp H s.heap := fun b hb => by
    obtain ⟨h1, h2⟩ := k.fp b hb
    refine ⟨h1, ?_⟩
    rcases h2 with rfl | rfl
    · exact ⟨pa.2.1, _, pa.1, k.gd⟩
    · obtain ⟨m, ⟨o, es, ep, ho, hd, _⟩, _⟩ := I0.loc
      exact ⟨I0.free, o, ho, fun v z => by rw [hd] at z; cases z⟩
  exact ⟨s, σc, H, I0, fpA, pa.1, hB, to_gen I0 k.ge k.lo fpA pL.2.1 loc k.hA k.hfr hl, fun _ _ e => e⟩
/-- back with the consumer -/
theorem back (k : G.Ok) (h : GI G i σ H s) : ∃ σc H0 oL, G.B i σc H0 ∧ Same H0 H ∧ Inv G.X (G.pl oL) σc H s ∧ s.heap.get? G.env.locals = some oL ∧ LocH G.N G.env σ s.heap := by
  obtain ⟨s0, σc, H0, I, hf, ha, hB, J, sm⟩ := h
  have I1 := from_gen I (k.old _ _ _ hB) k.lo hf J sm
  have loc : LocH G.N G.env σ s.heap := J.loc
  obtain ⟨oL, eL, dL⟩ := loc.obj
  have pa := J.pin (G.a, G.go) (List.mem_append_left _ (mem_pinsAt k.fa ha))
  refine ⟨σc, H0, oL, hB, sm, I1.pins_of fun p hp => ?_, eL, loc⟩
  rcases List.mem_append.mp hp with hp | hp
  · exact I1.pin p (List.mem_append_right _ hp)
  · rcases List.mem_cons.mp hp with hp | hp
    · rw [hp]
      exact ⟨pa.1, pa.2.1, k.aL, k.aF, k.gd⟩
    · rw [List.mem_singleton.mp hp]
      exact ⟨eL, J.free, k.lL, k.lF, dL⟩
end
structure Ends where
  nx : Nat → L2.St → Hp → Prop
  rt : Nat → V → Hp → Prop
  bk : Nat → L2.St → Hp → Prop := fun _ _ _ => False
  ct : Nat → L2.St → Hp → Prop := fun _ _ _ => False
abbrev TG := Ends → Nat → L2.St → Hp → Prop
def GSP (G : GP) (D : Ends) (i : Nat) (f : Flow) (s : Shared) : Prop :=
  match f with
  | .next => ∃ σ H, GI G i σ H s ∧ D.nx i σ H
  | .brk => ∃ σ H, GI G i σ H s ∧ D.bk i σ H
  | .cont => ∃ σ H, GI G i σ H s ∧ D.ct i σ H
  | .ret u => ∃ v σ H, GI G i σ H s ∧ RelV v u ∧ D.rt i v H
/-- where the code stands -/
structure GC (G : GP) (c : Code) (fs : List Frame) (gd : Bool → Bool) : Prop where
  over : G.X.A.in1.over c fs = G.A
  split : splitAtGen fs = none
  guard : fs.any Frame.guarded = false
  gd : gd false = false
def GK (G : GP) (c : Code) (fs : List Frame) (K : Flow → Sem PySem.Fin) (D : Ends) : Prop :=
  ∀ (n i : Nat) (s₀ s : Shared) (f : Flow), n + i = G.xs.length + 1 → GSP G D i f s → Seg G.M G.X.A.in1 G.R G.Y n s₀ c (K f) fs s
structure GS (G : GP) (st : Stmt) (t : TG) : Prop where
  run : ∀ (n i : Nat) (s₀ : Shared) (c : Code) (fs : List Frame) (K : Flow → Sem PySem.Fin) (J : Value → Sem PySem.Fin) (gd : Bool → Bool) (lv : List Value → List Value) (s : Shared) (σ : L2.St) (H : Hp) (D : Ends),
    GC G c fs gd → n + i = G.xs.length + 1 → GK G c fs K D → GI G i σ H s → t D i σ H → Seg G.M G.X.A.in1 G.R G.Y n s₀ c ((exec st G.env).wrap K J gd lv) fs s
structure GSs (G : GP) (ss : List Stmt) (t : TG) : Prop where
  run : ∀ (n i : Nat) (s₀ : Shared) (c : Code) (fs : List Frame) (K : Flow → Sem PySem.Fin) (J : Value → Sem PySem.Fin) (gd : Bool → Bool) (lv : List Value → List Value) (s : Shared) (σ : L2.St) (H : Hp) (D : Ends),
    GC G c fs gd → n + i = G.xs.length + 1 → GK G c fs K D → GI G i σ H s → t D i σ H → Seg G.M G.X.A.in1 G.R G.Y n s₀ c ((execs ss G.env).wrap K J gd lv) fs s
def plainD (D : Ends) (i : Nat) (H : Hp) : L2.Ends :=
  { nx := fun σ' H' => Same H H' ∧ D.nx i σ' H', rt := fun v H' => Same H H' ∧ D.rt i v H', bk := fun σ' H' => Same H H' ∧ D.bk i σ' H', ct := fun σ' H' => Same H H' ∧ D.ct i σ' H' }
/-- a statement that hands out nothing -/
def tPlain (t : TS) : TG := fun D i σ H => t (plainD D i H) σ H
section
variable {G : GP} {st : Stmt} {ss : List Stmt}
theorem GI.step {i : Nat} {σ σ' : L2.St} {H H' : Hp} {s s' : Shared} (h : GI G i σ H s) : ∃ s0 H0, Inv (G.cx (pinsAt G.fp s0.heap) s0 H0) [] σ H s ∧ ∀ σ' H' s', Inv (G.cx (pinsAt G.fp s0.heap) s0 H0) [] σ' H' s' → Same H H' → GI G i σ' H' s' := by
  obtain ⟨s0, σc, H0, I, hf, ha, hB, J, sm⟩ := h
  exact ⟨s0, H0, J, fun σ' H' s' J' q => ⟨s0, σc, H0, I, hf, ha, hB, J', sm.trans q⟩⟩
theorem gs_ps {t : TS} (h : ∀ ps s0 H0, PS (G.cx ps s0 H0) st t) : GS G st (tPlain t) := by
  refine ⟨fun n i s₀ c fs K J gd lv s σ H D g hn k hI ht => ?_⟩
  obtain ⟨s0, H0, I, nxt⟩ := hI.step (σ' := σ) (H' := H) (s' := s)
  refine seg_wrap ?_
  rw [g.over]
  refine wpAny_mono ((h _ s0 H0).run [] s σ H (plainD D i H) I ht) (fun f s' hs => k n i s₀ s' f hn ?_) fun x s' hx => False.elim hx
  cases f with
  | next => obtain ⟨σ', H', I', q, r⟩ := hs; exact ⟨σ', H', nxt _ _ _ I' q, r⟩
  | brk => obtain ⟨σ', H', I', q, r⟩ := hs; exact ⟨σ', H', nxt _ _ _ I' q, r⟩
  | cont => obtain ⟨σ', H', I', q, r⟩ := hs; exact ⟨σ', H', nxt _ _ _ I' q, r⟩
  | ret u => obtain ⟨v, σ', H', I', rv, q, r⟩ := hs; exact ⟨v, σ', H', nxt _ _ _ I' q, rv, r⟩
theorem gss_nil : GSs G [] (fun D i σ H => D.nx i σ H) := by
  refine ⟨fun n i s₀ c fs K J gd lv s σ H D g hn k hI ht => ?_⟩
  exact seg_execs_nil (k n i s₀ s .next hn ⟨σ, H, hI, ht⟩)
def tThen (t u : TG) : TG := fun D i σ H => t { D with nx := fun j σ' H' => u D j σ' H' } i σ H
theorem gss_cons {t u : TG} (a : GS G st t) (b : GSs G ss u) : GSs G (st :: ss) (tThen t u) := by
  refine ⟨fun n i s₀ c fs K J gd lv s σ H D g hn k hI ht => ?_⟩
  refine seg_execs_cons ?_
  refine a.run n i s₀ c fs _ J gd lv s σ H { D with nx := fun j σ' H' => u D j σ' H' } g hn (fun n' j s₀' s' f hn' hs => ?_) hI ht
  cases f with
  | next =>
    obtain ⟨σ', H', I', q⟩ := hs
    exact b.run n' j s₀' c fs K J gd lv s' σ' H' D g hn' k I' q
  | brk => exact k n' j s₀' s' .brk hn' hs
  | cont => exact k n' j s₀' s' .cont hn' hs
  | ret u => exact k n' j s₀' s' (.ret u) hn' hs
/-- yield e -/
def tYield (G : GP) (te : TE) : TG := fun D i σ H => te σ H fun x H1 => Same H H1 ∧ G.xs[i]? = some x ∧ ∀ σc H2, G.B (i + 1) σc H2 → D.nx (i + 1) σ H2
theorem gs_yield {e : Expr} {te : TE} {yp pos : Pos} (ok : G.Ok) (he : ∀ ps s0 H0, PE (G.cx ps s0 H0) e te) (hco : G.env.scope.isCoroutine = false) (hi : interactive G.env = false := by rfl) : GS G (.Expr (.Yield (some e) yp) pos) (tYield G te) := by
  refine ⟨fun n i s₀ c fs K J gd lv s σ H D g hn k hI ht => ?_⟩
  obtain ⟨s0, H0, I, nxt⟩ := hI.step (σ' := σ) (H' := H) (s' := s)
  have key : wpAny G.M G.A (eval e G.env) (fun v s' => ∃ x H1, GI G i σ H1 s' ∧ RelV x v ∧ G.xs[i]? = some x ∧ ∀ σc H2, G.B (i + 1) σc H2 → D.nx (i + 1) σ H2) (fun _ _ => False) s :=
    wpAny_mono ((he _ s0 H0).run [] s σ H _ I ht) (fun v s' ⟨x, H1, I1, rx, sm, q1, q2⟩ => ⟨x, H1, nxt _ _ _ I1 sm, rx, q1, q2⟩) fun _ _ z => z
  by_cases hil : i < G.xs.length
  · obtain ⟨n', rfl⟩ : ∃ m, n = m + 1 := ⟨n - 1, by omega⟩
    refine seg_Expr_Yield g.split g.gd g.guard ?_ hco hi
    rw [g.over]
    refine wpAny_mono key (fun v s' ⟨x, H1, hI1, rx, q1, q2⟩ kap hk => ?_) fun _ _ z => z.elim
    obtain ⟨σc, H0', oL, hB, sm, I1, eL, loc⟩ := back ok hI1
    have hlen : σ.length = G.N.length := by
      obtain ⟨_, _, _, _, _, _, _, J, _⟩ := hI1
      exact J.len
    refine ⟨i, x, σc, H0', H1, oL, by omega, q1, rx, hB, sm, I1, fun s2 σ2 H2 I2 hB2 => ?_⟩
    have e2 := (I2.pin (G.env.locals, oL) (List.mem_append_right _ (List.mem_append_right _ (List.mem_cons_of_mem _ (List.mem_cons_self ..))))).1
    have hI2 := woken ok I2 hB2 (loc.stay ok.ge eL e2) hlen
    have sg := k n' (i + 1) s2 s2 .next (by omega) ⟨σ, H2, hI2, q2 σ2 H2 hB2⟩
    exact ⟨hk .none s2 sg, hk (.bool true) s2 sg⟩
  · refine seg_wrap ?_
    rw [g.over]
    rw [exec_Expr G.env _ pos hi rfl]
    refine wpAny_bind (wpAny_standAt ?_)
    show wpAny _ _ ((eval e G.env >>= fun v => (standAt yp >>= fun _ => yieldOut G.env v)) >>= fun x => dropValue (.Yield (some e) yp) pos x) _ _ _
    refine wpAny_bind (wpAny_bind (wpAny_mono key (fun v s' ⟨x, H1, hI1, rx, q1, q2⟩ => ?_) fun _ _ z => z.elim))
    exact absurd (List.getElem?_eq_some_iff.mp q1).1 hil
/-- while -/
def tWh (c : TT) (tb : TG) : TG := fun D i σ H => ∃ W : Nat → Nat → L2.St → Hp → Prop, (∃ m, W m i σ H) ∧ ∀ m i σ H, W m i σ H →
  c σ H fun b H1 => Same H H1 ∧ if b = true then ∃ Nw : Nat → L2.St → Hp → Prop, (∀ j σ' H', Nw j σ' H' → ∃ m', m' < m ∧ W m' j σ' H') ∧ tb { D with nx := Nw, ct := Nw, bk := D.nx } i σ H1 else D.nx i σ H1
theorem gc_in {c c' : Code} {fs : List Frame} {gd : Bool → Bool} {k : Result → Sem PySem.Fin} {l kp : List Value} {p : Pos} (g : GC G c fs gd) (hw : c'.weight = 0) (hu : c'.cUnits = 0) : GC G c' (.ret k none (gd false) l c p kp :: fs) id where
  over := (GenW.over_loop hw hu).trans g.over
  split := by
    show (splitAtGen fs).map _ = none
    rw [g.split]
    rfl
  guard := by
    show (gd false || fs.any Frame.guarded) = false
    rw [g.gd, g.guard]
    rfl
  gd := rfl
theorem gs_while {test : Expr} {body : List Stmt} {pos : Pos} {tc : TT} {tb : TG} (hc : ∀ ps s0 H0, PT (G.cx ps s0 H0) test tc) (hb : GSs G body tb) : GS G (.While test body [] pos) (tWh tc tb) := by
  refine ⟨fun n i s₀ c fs K J gd lv s σ H D g hn k hI ht => ?_⟩
  obtain ⟨W, ⟨m0, w0⟩, turn⟩ := ht
  refine seg_While fun p => ?_
  generalize hk : (fun r : Result => ((match r with | .ok f => (.pure f : Sem Flow) | .error e => .raise e).onRaise fun (x : Value) => do
        if (← field x 1) == Value.none then unsupported "frame.own-activation:exception-without-traceback"
        setFlight x G.env.frame).wrap K J gd lv) = kk
  have gl := gc_in (k := kk) (c' := .whileLoop test body [] G.env) (l := lv []) (kp := []) (p := p) g rfl rfl
  have out : ∀ f, kk (.ok f) = K f := fun f => by rw [← hk]; rfl
  have loop : ∀ (m n i : Nat) (s₀ s : Shared) (σ : L2.St) (H : Hp), n + i = G.xs.length + 1 → W m i σ H → GI G i σ H s →
      Seg G.M G.X.A.in1 G.R G.Y n s₀ (.whileLoop test body [] G.env) (G.M.den (.whileLoop test body [] G.env)) (.ret kk none (gd false) (lv []) c p [] :: fs) s := by
    intro m
    induction m using Nat.strongRecOn with
    | ind m ih =>
      intro n i s₀ s σ H hn w hI
      obtain ⟨s0, H0, I, nxt⟩ := hI.step (σ' := σ) (H' := H) (s' := s)
      refine seg_whileLoop ?_
      rw [gl.over]
      refine wpAny_mono ((hc _ s0 H0).run [] s σ H _ I (turn m i σ H w)) (fun b s' hb' => ?_) fun x s' hx => False.elim hx
      obtain ⟨H2, I2, sm, q2⟩ := hb'
      have hI2 := nxt _ _ _ I2 sm
      cases b with
      | true =>
        rw [if_pos rfl] at q2 ⊢
        obtain ⟨Nw, hN, q2⟩ := q2
        refine hb.run n i s₀ _ _ _ _ id id s' σ H2 { D with nx := Nw, ct := Nw, bk := D.nx } gl hn (fun n' j s₀' s3 f hn' hs => ?_) hI2 q2
        cases f with
        | next =>
          obtain ⟨σ3, H3, I3, n3⟩ := hs
          obtain ⟨m', hm, w3⟩ := hN j σ3 H3 n3
          exact seg_again rfl (ih m' hm n' j s₀' s3 σ3 H3 hn' w3 I3)
        | cont =>
          obtain ⟨σ3, H3, I3, n3⟩ := hs
          obtain ⟨m', hm, w3⟩ := hN j σ3 H3 n3
          exact seg_again rfl (ih m' hm n' j s₀' s3 σ3 H3 hn' w3 I3)
        | brk => exact seg_leaf (.ok .next) (by rw [out]; exact k n' j s₀' s3 .next hn' hs)
        | ret v => exact seg_leaf (.ok (.ret v)) (by rw [out]; exact k n' j s₀' s3 (.ret v) hn' hs)
      | false =>
        rw [if_neg Bool.false_ne_true] at q2 ⊢
        refine seg_execs_nil ?_
        exact seg_leaf (.ok .next) (by rw [out]; exact k n i s₀ s' .next hn ⟨σ, H2, hI2, q2⟩)
  exact loop m0 n i s₀ s σ H hn w0 hI
/-- the whole body, woken for the first time -/
theorem ready {body : List Stmt} {t : TG} (ok : G.Ok) (ho : G.A = G.X.A.in1.deeper G.env) (hb : GSs G body t) {oL : Obj} {σ0 : L2.St} (hl : σ0.length = G.N.length)
    {s : Shared} {σ : L2.St} {H : Hp} (I : Inv G.X (G.pl oL) σ H s) (hB : G.B 0 σ H) (loc : LocH G.N G.env σ0 s.heap)
    (ht : t { nx := fun i _ _ => i = G.xs.length, rt := fun i v _ => v = .non ∧ i = G.xs.length } 0 σ0 H) :
    (GenState.fresh (.func body G.env)).Goes G.M G.X.A.in1 G.R G.Y (G.xs.length + 1) (.send .none) s := by
  refine ⟨rfl, seg_func ?_⟩
  have fin : ∀ i σ H s, GI G i σ H s → i = G.xs.length → G.F 0 s s := fun i σ H s hI e => by
    subst e
    obtain ⟨σc, H0, oL, hB, sm, I1, _, _⟩ := back ok hI
    refine ⟨σc, H0, H, hB, sm, I1.pins_of fun p hp => I1.pin p (List.mem_append_right _ ?_)⟩
    rcases List.mem_append.mp hp with hp | hp
    · exact List.mem_append_left _ hp
    · rw [List.mem_singleton.mp hp]
      exact List.mem_append_right _ (List.mem_cons_self ..)
  refine hb.run (G.xs.length + 1) 0 s _ _ _ _ id id s σ0 H _ ⟨by rw [GenW.over_func]; exact ho.symm, rfl, rfl, rfl⟩ (Nat.add_zero _) (fun n i s₀ s' f hn hs => ?_) (woken ok I hB loc hl) ht
  cases f with
  | next =>
    obtain ⟨σ', H', hI, e⟩ := hs
    exact seg_end (.ok (.ret .none)) (.inl ⟨.inl rfl, fin _ _ _ _ hI e⟩)
  | ret u =>
    obtain ⟨v, σ', H', hI, rv, ev, e⟩ := hs
    subst ev
    have eu : u = Value.none := rv
    subst eu
    exact seg_end (.ok (.ret .none)) (.inl ⟨.inl rfl, fin _ _ _ _ hI e⟩)
  | brk => obtain ⟨_, _, _, q⟩ := hs; exact False.elim q
  | cont => obtain ⟨_, _, _, q⟩ := hs; exact False.elim q
end
end GP
end LG

namespace LG
open PySem L2 PyProof.Rows
/-! ### a generator def's call -/
def DEnd (xs : List V) : GP.Ends := { nx := fun i _ _ => i = xs.length, rt := fun i v _ => v = .non ∧ i = xs.length }
/-- a generator that has not begun: what it will hand out, what must stand whenever it is woken -/
def GMk (P : Program) (w : World) (K : PySem.W.Frag) (mg : Str → Option Value) (base : Heap) (A : Around) (outer : List Env) (xs : List V) (Need : Hp → Prop) (s : Shared) (u : Value) (s' : Shared) : Prop :=
  ∃ (a : Addr) (g : Nat) (go : Obj) (N : List Str) (env : Env) (body : List Stmt) (σ0 : L2.St),
    u = .ref a ∧ env.locals = s.heap.objs.size ∧ env.locals < a ∧ s'.heap.objs.size = a + 1 ∧ (∀ b o, s.heap.get? b = some o → s'.heap.get? b = some o) ∧ s'.os = s.os ∧ AllBare s'.gens ∧
    s'.gens[g]? = some (.fresh (.func body env)) ∧ s'.heap.get? a = some go ∧ s'.heap.IsGen a g ∧ (∃ vs, go.data = .fields vs) ∧ go.cls = .type "generator" ∧ GE env ∧ LocH N env σ0 s'.heap ∧ σ0.length = N.length ∧
    ∀ (X : Cx) (pins : List (Addr × Obj)) (a' : Addr) (go' : Obj) (fp : List Addr) (B : Nat → L2.St → Hp → Prop), X.prog = P → X.w = w → X.K = K → X.mg = mg → X.base = base → X.A = A → X.stack = outer → (∀ i σ H, B i σ H → Need H) →
      (GP.mk X pins N env (X.A.in1.deeper env) a' go' fp xs B).Ok → ∃ t, GP.GSs (GP.mk X pins N env (X.A.in1.deeper env) a' go' fp xs B) body t ∧ ∀ H', Need H' → t (DEnd xs) 0 σ0 H'
abbrev SpX := List V → Hp → List V → (Hp → Prop) → Prop
structure GFnX (P : Program) (w : World) (K : PySem.W.Frag) (mg : Str → Option Value) (base : Heap) (k : Nat) (f : Addr) (fd : FuncData) (ps : List Str) (sp : SpX) : Prop where
  len : ∀ vs H xs Need, sp vs H xs Need → vs.length = ps.length
  run : ∀ (A : Around) (outer : List Env) (s : Shared) (H : Hp) (args : Args) (us : List Value) (vs xs : List V) (Need : Hp → Prop), Room k A → Env0 P w K mg base A outer s H → BindsTo s fd args (ps.zip us) → Vals vs us → sp vs H xs Need →
    codeAny (model P w) A (.call (.ref f) args) (fun r s' => match r with | .ok (.ret u) => GMk P w K mg base A outer xs Need s u s' | _ => False) s
theorem cells_none : ∀ {names : List (Str × NameKind)} {n : Nat} {acc : List (Str × Addr)}, (∀ y ∈ names, y.2 ≠ .cell) → cellsFrom n names acc = acc
  | [], _, _, _ => rfl
  | (x, k) :: r, n, acc, h => by
    unfold cellsFrom
    rw [if_neg (fun z => h (x, k) (List.mem_cons_self ..) (by simpa using z))]
    exact cells_none fun y hy => h y (List.mem_cons_of_mem _ hy)
theorem gfnx_of {P : Program} {w : World} {K : PySem.W.Frag} {mg : Str → Option Value} {base : Heap} {k : Nat} {f : Addr} {name qual : Str} {params : Arguments} {body : List Stmt} {scope : Scope} {dV kV doc pm cdv ct oc : Value} {an od : Option Addr}
    {osl : Array (Option Value)} {N ps : List Str} {sp : SpX} (lk : K.lookup f = some ⟨oc, od, .func (PySem.W.fnOf name qual params body scope dV kV doc pm an cdv ct), osl⟩) (hcd : PySem.W.codeIn K cdv qual = true) (S : GScope N ps scope) (hnc : ∀ y ∈ scope.names, y.2 ≠ .cell)
    (len : ∀ vs H xs Need, sp vs H xs Need → vs.length = ps.length)
    (hbody : ∀ (X : Cx) (pins : List (Addr × Obj)) (a : Addr) (go : Obj) (fp : List Addr) (B : Nat → L2.St → Hp → Prop) (L : Addr) (H : Hp) (vs xs : List V) (Need : Hp → Prop), X.prog = P → X.w = w → X.K = K → X.mg = mg → X.base = base →
      Room k (X.A.in1.deeper (envOfC qual scope L f cdv)) → sp vs H xs Need → (∀ i σ H, B i σ H → Need H) → (GP.mk X pins N (envOfC qual scope L f cdv) (X.A.in1.deeper (envOfC qual scope L f cdv)) a go fp xs B).Ok →
      ∃ t, GP.GSs (GP.mk X pins N (envOfC qual scope L f cdv) (X.A.in1.deeper (envOfC qual scope L f cdv)) a go fp xs B) body t ∧ ∀ H', Need H' → t (DEnd xs) 0 (start N vs) H') :
    GFnX P w K mg base (k + 1) f (PySem.W.fnOf name qual params body scope dV kV doc pm an cdv ct) ps sp := by
  refine ⟨len, fun A outer s H args us vs xs Need hr e0 hb r hsp => ?_⟩
  have hl := len _ _ _ _ hsp
  have KX : K.In s.heap := e0.mod.kin.keeps fun b o e => (e0.bs b o e).1
  have lim : s.heap.NoLimit := e0.mod.nolimit.keeps fun b o e => (e0.bs b o e).1
  have hcells : ∀ n, cellsFrom n scope.names [] = [] := fun n => cells_none hnc
  have hkind : ∀ y ∈ ps.zip us, scope.names.lookup y.1 = some .local ∨ (scope.names.lookup y.1 = some .cell ∧ ((cellsFrom (s.heap.objs.size + 1) scope.names []).lookup y.1).isSome = true) := fun ⟨n, v⟩ hy => by
    rcases S.par n (List.of_mem_zip hy).1 with q | q
    · exact .inl q
    · exact absurd rfl (hnc _ (PySem.mem_of_lookup q))
  refine codeAny_call_generator hr.depth (KX _ _ lk) rfl S.co S.gen rfl (PySem.W.codeRec_of KX hcd) (hb _ _ _ _ ?_)
  refine wpAny_newFunctionEnv_cells S.kind hkind fun env he s1 x => ?_
  subst he
  have I1 : Inv (gcxOf P w K mg base N qual scope f cdv A outer s H (fun _ _ _ => False) []) [] (start N vs) H s1 := inv_startG S hr.hd e0 hl r x
  have kp : ∀ b o, s.heap.get? b = some o → s1.heap.get? b = some o := x.toInCall.keep
  refine ⟨lim.keeps kp, ?_⟩
  obtain ⟨h1, tk, es1, hk1⟩ := x.done
  have os1 : s1.os = s.os := by rw [es1]
  have gen1 : s1.gens = s.gens := by rw [es1]
  have lt1 : s.heap.objs.size < s1.heap.objs.size := x.toInCall.ns.lt
  have main : ∀ (go : Obj) (nm qn : Value) (tk2 : Nat), go.cls = .type "generator" → go.data = .fields #[.int s1.gens.size 0, nm, qn] → go.slots = #[] → (∀ h : Heap, (h.push go).get? h.objs.size = some go) →
      GMk P w K mg base A outer xs Need s (.ref s1.heap.objs.size) { s1 with gens := s1.gens.push (.fresh (.func body (envOfC qual scope s.heap.objs.size f cdv))), toks := tk2, heap := s1.heap.push go } := by
    intro go nm qn tk2 hc hd hs hp
    have ge : GE (envOfC qual scope s.heap.objs.size f cdv) := by
      refine ⟨S.kind, rfl, rfl, rfl, hcells _, fun y hy => ?_⟩
      rcases hy with hy | hy
      · have hy : scope.names.lookup y = some .cell := hy
        exact hnc _ (PySem.mem_of_lookup hy) rfl
      · have hy : scope.names.lookup y = some .free := hy
        exact S.nofree _ (PySem.mem_of_lookup hy) rfl
    have loc1 : LocH N (envOfC qual scope s.heap.objs.size f cdv) (start N vs) s1.heap := I1.loc
    obtain ⟨oL, eL, _⟩ := loc1.obj
    refine ⟨s1.heap.objs.size, s1.gens.size, go, N, _, body, start N vs, rfl, rfl, lt1, ?_, fun b o e => Heap.get?_push_of_some _ (kp b o e), os1, AllBare.push (by rw [gen1]; exact e0.bare) rfl, Array.getElem?_push_size .., hp _, ⟨go, nm, qn, hp _, hc, hd, hs⟩, ⟨_, hd⟩, hc, ge,
      loc1.stay ge eL (Heap.get?_push_of_some _ eL), I1.len, fun X pins a' go' fp B q1 q2 q3 q4 q5 q6 q7 hB ok => ?_⟩
    · show (s1.heap.push go).objs.size = _
      rw [Heap.size_push]
    · subst q6
      exact hbody X pins a' go' fp B s.heap.objs.size H vs xs Need q1 q2 q3 q4 q5 ⟨hr.hd, by have := hr.dp; show X.A.depth + 1 + 3 * k + 5 < _; omega, by have := hr.un; show X.A.units + 1 + 3 + 16 * k + 200 < _; omega⟩ hsp hB ok
  exact main _ _ _ _ rfl rfl rfl fun h => Heap.get?_push_size _ rfl
/-! ### an expression whose value is a generator -/
abbrev TGx := L2.St → Hp → (List V → (Hp → Prop) → Hp → Prop) → Prop
structure PGn (X : Cx) (e : Expr) (tg : TGx) : Prop where
  run : ∀ (pins : List (Addr × Obj)) (s : Shared) (σ : L2.St) (H : Hp) (R : List V → (Hp → Prop) → Hp → Prop), Inv X pins σ H s → tg σ H R → wpAny (model X.prog X.w) X.A (eval e X.env)
    (fun u s1 => ∃ H1 sc xs Need, Inv X pins σ H1 sc ∧ GMk X.prog X.w X.K X.mg X.base X.A X.stack xs Need sc u s1 ∧ R xs Need H1) X.xe s
section
variable {X : Cx} {pins : List (Addr × Obj)} {σ : L2.St} {H : Hp} {s : Shared} {xs : List V} {Need : Hp → Prop} {u : Value} {k : Nat} {f : Addr} {fd : FuncData} {ps : List Str} {sp : SpX} {ds : List Value} {dvs : List V} {E1 : Value → Shared → Prop}
/-- behind the call: the consumer stands, the generator's object and its frame are pinned -/
theorem GMk.inv {s' : Shared} (h : GMk X.prog X.w X.K X.mg X.base X.A X.stack xs Need s u s') (I : Inv X pins σ H s) (hc : X.calm = true) {W : Nat → L2.St → Hp → Prop} (hW : ∀ i σ H, W i σ H → Need H) :
    ∃ (a : Addr) (g : Nat) (go oL : Obj) (N : List Str) (env : Env) (c : Code), u = .ref a ∧ s'.heap.objs.size = a + 1 ∧ env.locals = s.heap.objs.size ∧ s'.gens[g]? = some (.fresh c) ∧ s'.heap.IsGen a g ∧ (∃ vs, go.data = .fields vs) ∧ go.cls = .type "generator" ∧
      (GP.mk X pins N env (X.A.in1.deeper env) a go [a] xs W).Ok ∧ Inv X ((GP.mk X pins N env (X.A.in1.deeper env) a go [a] xs W).pl oL) σ H s' ∧
      ∀ s2 σ2 H2, Inv X ((GP.mk X pins N env (X.A.in1.deeper env) a go [a] xs W).pl oL) σ2 H2 s2 → W 0 σ2 H2 → (GenState.fresh c).Goes (model X.prog X.w) X.A.in1 (GP.mk X pins N env (X.A.in1.deeper env) a go [a] xs W).R (GP.mk X pins N env (X.A.in1.deeper env) a go [a] xs W).Y (xs.length + 1) (.send .none) s2 := by
  obtain ⟨a, g, go, N, env, body, σ0, rfl, eL, ha, hsz, kp, os, bare, hg, ego, isg, dgo, cgo, ge, loc, hl, bd⟩ := h
  have hlt : ∀ b o, s.heap.get? b = some o → b < env.locals := fun b o e => by rw [eL]; exact Heap.lt_size e
  obtain ⟨oL, hoL, dL⟩ := loc.obj
  have sz : X.s_0.heap.objs.size ≤ env.locals := by rw [eL]; exact I.sz
  have nf : ∀ b, env.locals ≤ b → b ∉ X.fs := fun b hb => I.nofs (by rw [← eL]; exact hb)
  have llt : X.env.locals < env.locals := by rw [eL]; exact I.lt
  have gd : ∀ v, go.data ≠ .cell v := fun v z => by obtain ⟨vs, e⟩ := dgo; rw [e] at z; cases z
  have hh : X.A.handled = none := I.ok.hd hc
  have ok : (GP.mk X pins N env (X.A.in1.deeper env) a go [a] xs W).Ok := by
    refine ⟨ge, ⟨fun b hb => ?_, ?_, .inl llt, fun x c e => ?_, fun p hp => ?_⟩, hh, ?_, fun i σ H _ b o e _ => .inl (Nat.lt_of_lt_of_le (Heap.lt_size e) sz), fun b hb => ?_, List.mem_cons_self .., gd, ?_, nf _ (Nat.le_of_lt ha), Nat.ne_of_gt llt, nf _ (Nat.le_refl _)⟩
    · obtain ⟨_, o, ho, _⟩ := I.stack.mem hb
      exact hlt b o ho
    · exact Nat.le_trans I.ok.bsz sz
    · obtain ⟨v, o, ho, _⟩ := I.cell x c e
      exact hlt c o ho
    · exact hlt p.1 _ (I.pin p hp).1
    · show X.A.in1.frames.map (env :: ·) = _
      rw [show X.A.in1.frames = X.A.frames from rfl, I.ok.frames]
      rfl
    · rw [List.mem_singleton.mp hb]
      exact ⟨ha, .inl rfl⟩
    · exact Nat.ne_of_gt (Nat.lt_trans llt ha)
  obtain ⟨t, ht, hq⟩ := bd X pins a go [a] W rfl rfl rfl rfl rfl rfl rfl hW ok
  have I1 : Inv X pins σ H s' := by
    obtain ⟨hh', gg, dd, tt, oo⟩ := s'
    obtain rfl : oo = s.os := os
    exact I.call' (ch := []) rfl (Un.kept kp) (I.hok.kept kp) bare fun b z => by simp at z
  have fr : ∀ b, env.locals ≤ b → H b = none := fun b hb => I.hok.fresh (by rw [← eL]; exact hb)
  refine ⟨a, g, go, oL, N, env, _, rfl, hsz, eL, hg, isg, dgo, cgo, ok, I1.pins_of fun p hp => ?_, fun s2 σ2 H2 I2 w2 => ?_⟩
  · rcases List.mem_append.mp hp with hp | hp
    · exact I1.pin p (List.mem_append_right _ hp)
    · rcases List.mem_cons.mp hp with hp | hp
      · rw [hp]
        exact ⟨ego, fr a (Nat.le_of_lt ha), ok.aL, ok.aF, gd⟩
      · rw [List.mem_singleton.mp hp]
        exact ⟨hoL, fr _ (Nat.le_refl _), ok.lL, ok.lF, dL⟩
  · have e2 := (I2.pin (env.locals, oL) (List.mem_append_right _ (List.mem_append_right _ (List.mem_cons_of_mem _ (List.mem_cons_self ..))))).1
    exact GP.ready ok rfl ht hl I2 w2 (loc.stay ge hoL e2) (hq H2 (hW 0 σ2 H2 w2))
theorem run_gfnx (F : GFnX X.prog X.w X.K X.mg X.base k f fd ps sp) (hr : Room k X.A) (hb : Binds X.K fd ps ds) (hd : Vals dvs ds) {us : List Value} {vs : List V} {R : List V → (Hp → Prop) → Hp → Prop} (I : Inv X pins σ H s) (r : Vals vs us) (h : sp (vs ++ dvs) H xs Need) (hR : R xs Need H) :
    wpAny (model X.prog X.w) X.A (call (.ref f) us) (fun u s1 => ∃ H1 sc xs Need, Inv X pins σ H1 sc ∧ GMk X.prog X.w X.K X.mg X.base X.A X.stack xs Need sc u s1 ∧ R xs Need H1) E1 s := by
  have r2 : Vals (vs ++ dvs) (us ++ ds) := r.append hd
  have hl2 : (us ++ ds).length = ps.length := by rw [← r2.length]; exact F.len _ _ _ _ h
  refine wpAny_call (codeAny_mono (F.run X.A X.stack s H ⟨us, []⟩ (us ++ ds) (vs ++ dvs) xs Need hr I.env0 (hb s us I.kIn hl2) r2 h) fun r s' hq => ?_)
  cases r with
  | error e => exact False.elim hq
  | ok fl =>
    cases fl with
    | ret u => exact ⟨H, s, xs, Need, I, hq, hR⟩
    | next => exact False.elim hq
    | brk => exact False.elim hq
    | cont => exact False.elim hq
end
/-- o.m(e, ..), m a generator method; o's class is known at the run alone -/
def tgMeth (K : PySem.W.Frag) (m : Str) (f : Addr) (sp : SpX) (ta : TE) (t : TA) : TGx := fun σ H R => ta σ H fun x H1 => ∃ (a C dx : Addr) (fs : List (Str × V)), x = .ref a ∧ H1 a = some (.ins C dx fs) ∧ Cls K C ∧ Meth K C m f ∧ fs.lookup m = none ∧
  t σ H1 fun vs H2 => ∃ xs Need, sp (x :: vs) H2 xs Need ∧ R xs Need H2
section
variable {X : Cx} {k : Nat} {f : Addr} {fd : FuncData} {ps : List Str} {sp : SpX} {m : Str} {apos pos : Pos} {o e : Expr} {es : List Expr} {ta : TE} {t : TA}
theorem pgn_meth {pl : Sem Bool} (he : PE X o ta) (hk : PySem.W.keepIn X.K (.ref f) = true) (F : GFnX X.prog X.w X.K X.mg X.base k f fd ps sp) (hr : Room k X.A) (hb : Binds X.K fd ps []) (ha : PA X (e :: es) t)
    (hst : starEach (e :: es) X.env = (false, eval e X.env) :: starEach es X.env := by rfl) (hpl : (backTo pos (starEach es X.env)).any (·.1) = false := by rfl)
    (ht : eval (.Call (.Attribute o m apos) (e :: es) [] pos) X.env = (do
      let ov ← eval o X.env
      standAt apos.atName
      let (f, first) ← holding [ov] (getMethod ov m pl)
      callWith pos f first (backTo pos (starEach (e :: es) X.env)) (backToKw pos (keywordEach [] X.env))) := by rfl) :
    PGn X (.Call (.Attribute o m apos) (e :: es) [] pos) (tgMeth X.K m f sp ta t) := by
  refine ⟨fun pins s σ H R I h => ?_⟩
  refine PySem.W.methodCall_KW (pl := pl) (thn (he.run pins s σ H _ I h) fun u s1 ⟨x, H1, I1, rx, a, C, dx, fs, ex, ea, c, hm, l, q⟩ => ?_) ht
  subst ex
  obtain rfl : u = Value.ref a := rx
  refine getmeth_ok I1 ea c hm l ?_
  refine PySem.W.callWith_K (first := [.ref a]) (h₀ := X.base) I.ok.mod.kin hk (thn (ha.run pos pins s1 σ H1 _ I1 q) fun us s2 ⟨vs, H2, I2, r, xs, Need, q2, q3⟩ => ⟨I2.kIn, ?_⟩) hst hpl
  exact run_gfnx (us := .ref a :: us) (vs := .ref a :: vs) (dvs := []) F hr hb .nil I2 (.cons rfl r) (by rw [List.append_nil]; exact q2) q3
end
/-! ### for over a generator -/
/-- a run from the consumer's state: no sleeper is touched -/
theorem still {X : Cx} {pins : List (Addr × Obj)} {σ : L2.St} {H : Hp} {s : Shared} {α : Type} {M : Model} {A : Around} {t : Sem α} {Q : α → Shared → Prop} {E E' : Value → Shared → Prop} (I : Inv X pins σ H s) (h : ∀ s', Inv X pins σ H s' → wpAny M A t Q E s') (hE : ∀ e s, ¬ E e s) :
    wpAny M A t (fun a s' => ∃ G', RG s.gens G' s'.gens ∧ Q a { s' with gens := G' }) E' s :=
  wpAny_mono (asleep (h _ (Inv_dead I))) (fun _ _ q => q) fun e s' ⟨_, _, q⟩ => (hE _ _ q).elim
theorem not_fresh {M : Model} {A : Around} {R : GenEnd} {Y : Protocol} {n : Nat} {gs : GenState} {s : Shared} (h : gs.Goes M A R Y n (.send (.bool true)) s) : gs.status = .suspended := by
  cases gs with
  | fresh c => obtain ⟨e, _⟩ := h; cases e
  | suspended k l c p fs cl => rfl
  | running => exact h.elim
  | finished => exact h.elim
def tForG (tg : TGx) (g : L2.TG) (tb : TS) : TS := fun D σ H => tg σ H fun xs Need H1 => ∃ W : Nat → L2.St → Hp → Prop, W 0 σ H1 ∧ (∀ i σ H, W i σ H → Need H) ∧ ∀ i σ H, W i σ H →
  (∀ x, xs[i]? = some x → ∀ H', Same H H' → g x σ H' fun σ2 H2 => tb { D with nx := W (i + 1), ct := W (i + 1), bk := D.nx } σ2 H2) ∧ (i = xs.length → ∀ H', Same H H' → D.nx σ H')
theorem ps_forG {X : Cx} {k : Nat} {iter tgE : Expr} {body : List Stmt} {tg : TGx} {g : L2.TG} {tb : TS} {pos : Pos} (hx : ∀ e s, ¬ X.xe e s) (hc : X.calm = true) (hr : Room k X.A) (hi : PGn X iter tg) (hg : PG X tgE g) (hb : PSs X body tb)
    (hs : ∀ x, foldedSetIterable iter X.env x = pure x := by intro _; rfl) : PS X (.For tgE iter body [] pos) (tForG tg g tb) := by
  refine ⟨fun pins s σ H D I h => ?_⟩
  have hp : PassesOwn (model X.prog X.w) X.A X.env X.xe := fun e s' z => (hx e s' z).elim
  refine wpAny_For (thn (hi.run pins s σ H _ I h) fun u s1 ⟨H1, sc, xs, Need, Ic, mk, W, w0, hW, turn⟩ => ?_) hs
  obtain ⟨a, gi, go, oL0, N, env, c, eu, _, _, hgs, isg, dgo, cgo, ok, I1, rdy⟩ := GMk.inv mk Ic hc hW
  subst eu
  let G : GP := GP.mk X pins N env (X.A.in1.deeper env) a go [a] xs W
  have hh : X.A.handled = none := I.ok.hd hc
  have gset : ∀ {pins' : List (Addr × Obj)} {σ' : L2.St} {H' : Hp} {s' : Shared} {y : GenState}, Inv X pins' σ' H' s' → y.bare = true → Inv X pins' σ' H' (s'.setGen gi y) := fun J hy =>
    ⟨J.ok, J.os, allBare_setGen J.bare hy, J.base, J.loc, J.cell, J.free, J.freeC, J.pin, J.hok, J.len⟩
  have drop : ∀ {σ' : L2.St} {H' : Hp} {s' : Shared} {o' : Obj}, Inv X (G.pl o') σ' H' s' → Inv X pins σ' H' s' := fun J => J.unpinned
  have pa : ∀ {σ' : L2.St} {H' : Hp} {s' : Shared} {o' : Obj}, Inv X (G.pl o') σ' H' s' → s'.heap.get? a = some go := fun J =>
    (J.pin (a, go) (List.mem_append_right _ (List.mem_append_right _ (List.mem_cons_self ..)))).1
  refine wpAny_pyIter_gen isg ?_
  -- the loop's word
  refine codeAny_forLoop_any (fun n s' => ∃ i σ' H' gs oL, n + i = xs.length + 1 ∧ Inv X (G.pl oL) σ' H' s' ∧ W i σ' H' ∧ s'.gens[gi]? = some gs ∧ gs.Goes (model X.prog X.w) X.A.in1 G.R G.Y (xs.length + 1 - i) (.send .none) (s'.setGen gi .running)) ?_ (xs.length + 1)
    ⟨0, σ, H1, _, oL0, rfl, I1, w0, hgs, rdy _ σ H1 (gset I1 rfl) w0⟩
  rintro n s3 ⟨i, σ3, H3, gs, oL, hn, I3, w3, hg3, go3⟩
  have isg3 : s3.heap.IsGen a gi := by
    obtain ⟨o, nm, qn, ho, r⟩ := isg
    rw [pa I1] at ho
    cases ho
    exact ⟨go, nm, qn, pa I3, r⟩
  have hgz : gi + 1 ≤ s3.gens.size := (Array.getElem?_eq_some_iff.mp hg3).1
  refine GenW.wpAny_gsz hgz ?_
  refine next_genG (F := G.F) (Er := fun _ _ => False) hh I3.nolimit hr.depth isg3 hg3 go3 (fun v s4 gs' hbare hY hsz => ?_) (fun s4 hF h' hk' hsz => ?_) (fun e s4 z => z.elim)
  · -- an item
    obtain ⟨i', x, σ4, H0, H4, oL', hni, hxi, rx, hB, sm, I4, nxt⟩ := hY
    have hxi : xs[i']? = some x := hxi
    have hni : xs.length + 1 - i - 1 + i' = xs.length := hni
    have hil : i' < xs.length := (List.getElem?_eq_some_iff.mp hxi).1
    obtain rfl : i' = i := by omega
    have I4 : Inv X (G.pl oL') σ4 H4 s4 := I4
    obtain ⟨body_, _⟩ := turn i' σ4 H0 hB
    have hsz : gi + 1 ≤ s4.gens.size := by
      have z : (s4.setGen gi gs').gens.size = s4.gens.size := GenW.setGen_size ..
      rw [z] at hsz
      exact hsz
    have I5 := gset (y := gs') I4 hbare
    have g5 : (s4.setGen gi gs').gens[gi]? = some gs' := setGen_at hsz
    generalize s4.setGen gi gs' = s5 at I5 g5
    obtain ⟨vs, dvs⟩ := dgo
    refine go_of (pa I5) cgo dvs (by decide) ?_
    refine wpAny_mono (still (E := X.xe) (E' := fun _ _ => False) I5 (fun s' J => hg.run (G.pl oL') s' σ4 H4 x v _ J rx (body_ x hxi H4 sm)) hx) (fun _ s6 q6 => ?_) fun _ _ z => z.elim
    obtain ⟨G6, r6, σ6, H6, I6', q6⟩ := q6
    have I6 : Inv X (G.pl oL') σ6 H6 s6 := Inv_gens I6' (RG.bare r6 I5.bare I6'.bare)
    refine wpAny_mono (still (E := X.xe) (E' := fun _ _ => False) I6 (fun s' J => hb.run (G.pl oL') s' σ6 H6 _ J q6) hx) (fun f s7 q7 => ?_) fun _ _ z => z.elim
    obtain ⟨G7, r7, q7⟩ := q7
    have up : ∀ {σ7 : L2.St} {H7 : Hp}, Inv X (G.pl oL') σ7 H7 { s7 with gens := G7 } → Inv X (G.pl oL') σ7 H7 s7 := fun J => Inv_gens J (RG.bare r7 I6.bare J.bare)
    have again : ∀ {σ7 : L2.St} {H7 : Hp}, Inv X (G.pl oL') σ7 H7 { s7 with gens := G7 } → W (i' + 1) σ7 H7 →
        ∃ m, m < n ∧ ∃ i σ' H' gs oL, m + i = xs.length + 1 ∧ Inv X (G.pl oL) σ' H' s7 ∧ W i σ' H' ∧ s7.gens[gi]? = some gs ∧ gs.Goes (model X.prog X.w) X.A.in1 G.R G.Y (xs.length + 1 - i) (.send .none) (s7.setGen gi .running) := fun {σ7 H7} J w7 => by
      have I7 := up J
      obtain ⟨k1, k2⟩ := nxt _ σ7 H7 (gset (y := .running) I7 rfl) w7
      obtain ⟨m, hm⟩ : ∃ m, xs.length + 1 - i' = m + 1 := ⟨xs.length - i', by omega⟩
      simp only [hm] at k1 k2
      have st := not_fresh k2
      have g6 := (r6.slept gi gs' g5 st).1
      have g7 := (r7.slept gi gs' g6 st).1
      refine ⟨n - 1, by omega, i' + 1, σ7, H7, gs', oL', by omega, I7, w7, g7, ?_⟩
      rw [show xs.length + 1 - (i' + 1) = m by omega]
      exact k1
    cases f with
    | next => obtain ⟨σ7, H7, J, w7⟩ := q7; exact again J w7
    | cont => obtain ⟨σ7, H7, J, w7⟩ := q7; exact again J w7
    | brk => obtain ⟨σ7, H7, J, q⟩ := q7; exact ⟨σ7, H7, drop (up J), q⟩
    | ret v => obtain ⟨x7, σ7, H7, J, r7, q⟩ := q7; exact ⟨x7, σ7, H7, drop (up J), r7, q⟩
  · -- the end
    obtain ⟨σ4, H0, H4, hB, sm, I4⟩ := hF
    have I4 : Inv X pins σ4 H4 s4 := Inv.unpinned I4
    have I5 := gset (y := .finished) I4 rfl
    have hk5 : ∀ b o, (s4.setGen gi .finished).heap.get? b = some o → h'.get? b = some o := hk'
    generalize s4.setGen gi .finished = s5 at I5 hk5
    have I6 : Inv X pins σ4 H4 { s5 with heap := h' } := I5.call' (ch := []) rfl (Un.kept hk5) (I5.hok.kept hk5) I5.bare fun b z => by simp at z
    exact wpAny_execs_nil ⟨σ4, H4, I6, (turn _ σ4 H0 hB).2 rfl H4 sm⟩
end LG

namespace LG
open PySem L2 PyProof.Rows
/-! ### a comprehension over a generator -/
theorem n1 {L a b : Nat} : (b < a + 1 ∧ L ≤ b) ↔ (L ≤ b ∧ b ≤ a) := by omega
theorem n2 {a b : Nat} (h : b ≤ a) : b < a + 2 := by omega
theorem n3 {a b D : Nat} (h : b ≤ a) (e : D = a + 1) : b ≠ D := by omega
theorem n4 {L a b D : Nat} (h : b < a + 2) (c : ¬ b < L) (x : ¬ (L ≤ b ∧ b ≤ a)) (e : D = a + 1) : b = D := by omega
theorem n5 {L a : Nat} (h : L < a) : L < a + 2 := by omega
theorem n6 {a : Nat} : a ≠ a + 2 := by omega
theorem n7 {L a : Nat} (h : L < a) : L ≠ a + 2 := by omega
theorem n8 {L a : Nat} (h : L < a) (h' : a < L) : False := by omega
def tLcG (tg : TGx) (g : L2.TG) (te : TE) (vs : List Nat) : TE := fun σ H Q => tg σ H fun xs Need H1 => ∀ D, H1 D = none → ∃ W : Nat → Hp → Prop, W 0 (upd H1 D (.lst [])) ∧ (∀ i H, W i H → Need H ∧ ∃ acc, H D = some (.lst acc)) ∧ ∀ i H, W i H →
  (∀ x, xs[i]? = some x → ∀ H', Same H H' → g x (wipe σ vs) H' fun σ2 H2 => wipe σ2 vs = wipe σ vs ∧ te σ2 H2 fun y H4 => ∃ acc, H4 D = some (.lst acc) ∧ acc.length < sizeLine ∧ W (i + 1) (upd H4 D (.lst (acc ++ [y])))) ∧ (i = xs.length → ∀ H', Same H H' → Q (.ref D) H')
theorem pe_lcG {X : Cx} {k : Nat} {elt tgE iter : Expr} {scope : Scope} {own : List (Str × Nat)} {pos : Pos} {tg : TGx} {g : L2.TG} {te : TE} (hc : X.calm = true) (hN : X.N.Nodup) (hr : Room k X.A) (hi : PGn X iter tg) (ok : BlkOk X.N X.env.scope scope own) (hnc : ∀ y ∈ scope.names, y.2 ≠ .cell)
    (hg : ∀ (s : Shared) (H : Hp) (C : Addr) (cl : List (Str × Addr)) (fp : List Addr), PG (X.blk s H scope (compEnvC scope cl C X.env) fp) tgE g)
    (he : ∀ (s : Shared) (H : Hp) (C : Addr) (cl : List (Str × Addr)) (fp : List Addr), PE (X.blk s H scope (compEnvC scope cl C X.env) fp) elt te) (hs : ∀ x, foldedSetIterable iter X.env x = pure x := by intro _; rfl) :
    PE X (.ListComp elt [⟨tgE, iter, [], 0⟩] scope pos) (tLcG tg g te (own.map (·.2))) := by
  refine ⟨fun pins s σ H Q I h => ?_⟩
  rw [eval_ListComp]
  have hfree : ∀ y ∈ scope.names, y.2 = .free → ∃ c, X.env.cells.lookup y.1 = some c := fun y hy e => by
    rcases ok.free y hy e with q | q
    · exact I.ok.has _ (.inl q)
    · exact I.ok.has _ (.inr q)
  refine wpAny_comprehension_free (use := none) rfl hs (closure_ok hfree) ok.kind (fun y hy e => by rw [ok.uniq y hy, e])
    (thn (hi.run pins s σ H _ I h) fun u s1 ⟨H1, sc, xs, Need, Ic, mk, q⟩ => ?_)
  obtain ⟨a, gi, go, N, env, body, σ0, rfl, eL, ha, hsz, kp, os, bare, hgs, ego, isg, dgo, cgo, ge, loc, hl, bd⟩ := mk
  refine wpAny_pyIter_gen isg ?_
  have I1 : Inv X pins σ H1 s1 := by
    obtain ⟨hh', gg, dd, tt, oo⟩ := s1
    obtain rfl : oo = sc.os := os
    exact Ic.call' (ch := []) rfl (Un.kept kp) (Ic.hok.kept kp) bare fun b z => by simp at z
  obtain ⟨oL0, hoL, dL⟩ := loc.obj
  refine wpAny_newObj_type (newEnv_comp ?_) (by show 0 ≤ sizeLine; decide)
  obtain ⟨D, hD⟩ : ∃ D, D = s1.heap.objs.size := ⟨_, rfl⟩
  have hDn : H1 D = none := I1.hok.fresh (Nat.le_of_eq hD.symm)
  obtain ⟨W, w0, hW, turn⟩ := q D hDn
  rw [← hD]
  obtain ⟨s3, hs3⟩ : ∃ s3 : Shared, s3 = { s1 with heap := s1.heap.push { cls := .type "list", data := .seq ([] : List Value).toArray } } := ⟨_, rfl⟩
  have h3 : s3.heap = s1.heap.push { cls := .type "list", data := .seq ([] : List Value).toArray } := by rw [hs3]
  have g3 : s3.gens = s1.gens := by rw [hs3]
  rw [← hs3]
  have I3 : Inv X pins σ (upd H1 D (.lst [])) s3 := by
    rw [hs3]
    refine I1.laid (t' := s1.toks) (fun b o e => Heap.get?_push_of_some _ e) (Nat.le_of_eq hD.symm) ⟨Nat.zero_le _, [], 0, .nil, ?_⟩
    rw [hD]
    exact Heap.get?_push_size _ rfl
  have sz3 : s3.heap.objs.size = a + 2 := by rw [h3, Heap.size_push, hsz]
  have kp3 : ∀ b o, s1.heap.get? b = some o → s3.heap.get? b = some o := fun b o e => by rw [h3]; exact Heap.get?_push_of_some _ e
  obtain ⟨H3, hH3⟩ : ∃ H3, H3 = upd H1 D (.lst []) := ⟨_, rfl⟩
  rw [← hH3] at I3 w0
  have dA : D = a + 1 := by rw [hD, hsz]
  -- what is turned while the block runs: all from the frame to the generator's object
  obtain ⟨ex, hex⟩ : ∃ ex, ex = (List.range (a + 1)).filter fun b => decide (env.locals ≤ b) := ⟨_, rfl⟩
  have mex : ∀ b, b ∈ ex ↔ env.locals ≤ b ∧ b ≤ a := fun b => by
    rw [hex, List.mem_filter, List.mem_range]
    rw [decide_eq_true_eq]
    exact n1
  have f3 : ∀ b ∈ ex, FpOk X pins H3 b ∧ b < s3.heap.objs.size := fun b hb => by
    obtain ⟨h1, h2⟩ := (mex b).mp hb
    refine ⟨Ic.fpOk (by rw [← eL]; exact h1) ?_, by rw [sz3]; exact n2 h2⟩
    rw [hH3, upd_ne (n3 h2 dA)]
    exact Ic.hok.fresh (by rw [← eL]; exact h1)
  have I4 := block_start I3 ok hN f3
  have pg := hg s3 H3 s3.heap.objs.size (cellsFrom (s3.heap.objs.size + 1) scope.names (cloFrom X.env.cells scope.names [])) ex
  have pe := he s3 H3 s3.heap.objs.size (cellsFrom (s3.heap.objs.size + 1) scope.names (cloFrom X.env.cells scope.names [])) ex
  show codeAny _ _ (.compStart (.ListComp elt [⟨tgE, iter, [], 0⟩] scope pos) 0 (.ref a) (.ref D) (compEnvC scope (cellsFrom (s3.heap.objs.size + 1) scope.names (cloFrom X.env.cells scope.names [])) s3.heap.objs.size X.env)) (compPost (model X.prog X.w) X.A X.xe none _ (.ref D) s3.heap.objs.size) { s3 with heap := pushCells (s3.heap.push { cls := .type "dict", data := .dict #[] }) scope.names }
  have ccell : ∀ x c, (compEnvC scope (cellsFrom (s3.heap.objs.size + 1) scope.names (cloFrom X.env.cells scope.names [])) s3.heap.objs.size X.env).cells.lookup x = some c → c < env.locals := fun x c e => by
    have e : (cellsFrom (s3.heap.objs.size + 1) scope.names (cloFrom X.env.cells scope.names [])).lookup x = some c := e
    rw [cells_none hnc] at e
    rcases cloFrom_mem (PySem.mem_of_lookup e) with hm | ⟨h1, h2⟩
    · cases hm
    · obtain ⟨c', hc'⟩ := hfree _ h1 rfl
      rw [hc'] at h2
      obtain rfl : c = c' := h2
      obtain ⟨v, o, ho, _⟩ := Ic.cell _ _ hc'
      rw [eL]
      exact Heap.lt_size ho
  have cL : (compEnvC scope (cellsFrom (s3.heap.objs.size + 1) scope.names (cloFrom X.env.cells scope.names [])) s3.heap.objs.size X.env).locals = s3.heap.objs.size := rfl
  generalize compEnvC scope (cellsFrom (s3.heap.objs.size + 1) scope.names (cloFrom X.env.cells scope.names [])) s3.heap.objs.size X.env = ce at I4 pg pe ccell cL ⊢
  obtain ⟨s4, hs4⟩ : ∃ s4 : Shared, s4 = { s3 with heap := pushCells (s3.heap.push { cls := .type "dict", data := .dict #[] }) scope.names } := ⟨_, rfl⟩
  rw [← hs4] at I4 ⊢
  have kp4 : ∀ b o, s1.heap.get? b = some o → s4.heap.get? b = some o := fun b o e => by rw [hs4]; exact pushCells_keeps _ _ _ _ (Heap.get?_push_of_some _ (kp3 b o e))
  have gs4 : s4.gens[gi]? = some (.fresh (.func body env)) := by rw [hs4]; show s3.gens[gi]? = _; rw [g3]; exact hgs
  let B : Cx := X.blk s3 H3 scope ce ex
  let G : GP := GP.mk B [] N env (X.A.in1.deeper env) a go [a, ce.locals] xs fun i σ' H' => σ' = wipe σ (own.map (·.2)) ∧ W i H'
  have hlt : ∀ b o, sc.heap.get? b = some o → b < env.locals := fun b o e => by rw [eL]; exact Heap.lt_size e
  have frl : ∀ b ∈ frs X.stack, b < env.locals := fun b hb => by
    obtain ⟨_, o, ho, _⟩ := Ic.stack.mem hb
    exact hlt b o ho
  have gd : ∀ v, go.data ≠ .cell v := fun v z => by obtain ⟨vs, e⟩ := dgo; rw [e] at z; cases z
  have hh : X.A.handled = none := I.ok.hd hc
  have gok : G.Ok := by
    refine ⟨ge, ⟨frl, Nat.le_trans Ic.ok.bsz (by show _ ≤ env.locals; rw [eL]; exact Ic.sz), .inr (List.mem_cons_of_mem _ (List.mem_cons_self ..)), ccell, fun p hp => ?_⟩, hh, ?_, fun i σ' H' hB b o e hx => ?_, fun b hb => ?_, List.mem_cons_self .., gd, ?_, ?_, ?_, ?_⟩
    · exact absurd (show p ∈ ([] : List (Addr × Obj)) ++ [] from hp) (by simp)
    · show X.A.in1.frames.map (env :: ·) = _
      rw [show X.A.in1.frames = X.A.frames from rfl, I.ok.frames]
      rfl
    · have e : s3.heap.get? b = some o := e
      have hx : b ∉ ex := hx
      have hb := Heap.lt_size e
      rw [sz3] at hb
      rw [mex] at hx
      by_cases c : b < env.locals
      · exact .inl c
      · obtain ⟨_, acc, hacc⟩ := hW i H' hB.2
        have : b = D := n4 hb c hx dA
        rw [this]
        exact .inr ⟨acc, hacc⟩
    · rcases List.mem_cons.mp hb with rfl | hb
      · exact ⟨ha, .inl rfl⟩
      · rw [List.mem_singleton.mp hb]
        exact ⟨by show env.locals < ce.locals; rw [cL, sz3]; exact n5 ha, .inr rfl⟩
    · show a ≠ ce.locals
      rw [cL, sz3]
      exact n6
    · intro hm
      exact n8 ha (frl a hm)
    · show env.locals ≠ ce.locals
      rw [cL, sz3]
      exact n7 ha
    · intro hm
      exact absurd (frl _ hm) (Nat.lt_irrefl _)
  obtain ⟨t, ht, hq⟩ := bd B [] a go [a, ce.locals] (fun i σ' H' => σ' = wipe σ (own.map (·.2)) ∧ W i H') rfl rfl rfl rfl rfl rfl rfl (fun i σ' H' hB => (hW i H' hB.2).1) gok
  have nH3 : ∀ b, env.locals ≤ b → b ≤ a → H3 b = none := fun b h1 h2 => (f3 b ((mex b).mpr ⟨h1, h2⟩)).1.1
  have I5 : Inv B (G.pl oL0) (wipe σ (own.map (·.2))) H3 s4 := I4.pins_of fun p hp => by
    have hp : p ∈ ([] : List (Addr × Obj)) ++ [(a, go), (env.locals, oL0)] := hp
    rw [List.nil_append] at hp
    rcases List.mem_cons.mp hp with hp | hp
    · rw [hp]
      exact ⟨kp4 _ _ ego, nH3 a (Nat.le_of_lt ha) (Nat.le_refl _), gok.aL, gok.aF, gd⟩
    · rw [List.mem_singleton.mp hp]
      exact ⟨kp4 _ _ hoL, nH3 _ (Nat.le_refl _) (Nat.le_of_lt ha), gok.lL, gok.lF, dL⟩
  have rdy : ∀ s2 σ2 H2, Inv B (G.pl oL0) σ2 H2 s2 → G.B 0 σ2 H2 → (GenState.fresh (.func body env)).Goes (model X.prog X.w) X.A.in1 G.R G.Y (xs.length + 1) (.send .none) s2 := fun s2 σ2 H2 I2 w2 => by
    have e2 := (I2.pin (env.locals, oL0) (List.mem_append_right _ (List.mem_append_right _ (List.mem_cons_of_mem _ (List.mem_cons_self ..))))).1
    exact GP.ready gok rfl ht hl I2 w2 (loc.stay ge hoL e2) (hq H2 (hW 0 H2 w2.2).1)
  have gset : ∀ {pins' : List (Addr × Obj)} {σ' : L2.St} {H' : Hp} {s' : Shared} {y : GenState}, Inv B pins' σ' H' s' → y.bare = true → Inv B pins' σ' H' (s'.setGen gi y) := fun J hy =>
    ⟨J.ok, J.os, allBare_setGen J.bare hy, J.base, J.loc, J.cell, J.free, J.freeC, J.pin, J.hok, J.len⟩
  have pa : ∀ {σ' : L2.St} {H' : Hp} {s' : Shared} {o' : Obj}, Inv B (G.pl o') σ' H' s' → s'.heap.get? a = some go := fun J =>
    (J.pin (a, go) (List.mem_append_right _ (List.mem_append_right _ (List.mem_cons_self ..)))).1
  have loop : codeAny (model X.prog X.w) X.A (.compLoop (.ListComp elt [⟨tgE, iter, [], 0⟩] scope pos) 0 (.ref a) (.ref D) ce) (compPost (model X.prog X.w) X.A X.xe none (EP X pins σ Q) (.ref D) s3.heap.objs.size) s4 := by
    refine compLoop_any (fun n s' => ∃ i H' gs oL, n + i = xs.length + 1 ∧ Inv B (G.pl oL) (wipe σ (own.map (·.2))) H' s' ∧ W i H' ∧ s'.gens[gi]? = some gs ∧ gs.Goes (model X.prog X.w) X.A.in1 G.R G.Y (xs.length + 1 - i) (.send .none) (s'.setGen gi .running)) ?_ (xs.length + 1)
      ⟨0, H3, _, oL0, rfl, I5, w0, gs4, rdy _ _ H3 (gset I5 rfl) ⟨rfl, w0⟩⟩
    rintro n s5 ⟨i, H5, gs, oL, hn, J5, w5, hg5, go5⟩
    have isg5 : s5.heap.IsGen a gi := by
      obtain ⟨o, nm, qn, ho, r⟩ := isg
      rw [ego] at ho
      cases ho
      exact ⟨go, nm, qn, pa J5, r⟩
    have hgz : gi + 1 ≤ s5.gens.size := (Array.getElem?_eq_some_iff.mp hg5).1
    refine GenW.wpAny_gsz hgz ?_
    refine next_genG (F := G.F) (Er := fun _ _ => False) hh J5.nolimit hr.depth isg5 hg5 go5 (fun v s6 gs' hbare hY hsz => ?_) (fun s6 hF h' hk' hsz => ?_) (fun e s6 z => z.elim)
    · -- an item
      obtain ⟨i', x, σ6, H0, H6, oL', hni, hxi, rx, hB, sm, J6, nxt⟩ := hY
      have hxi : xs[i']? = some x := hxi
      have hni : xs.length + 1 - i - 1 + i' = xs.length := hni
      have hil : i' < xs.length := (List.getElem?_eq_some_iff.mp hxi).1
      obtain rfl : i' = i := by omega
      have J6 : Inv B (G.pl oL') σ6 H6 s6 := J6
      obtain ⟨eσ, w6⟩ := hB
      subst eσ
      obtain ⟨body_, _⟩ := turn i' H0 w6
      have hsz : gi + 1 ≤ s6.gens.size := by
        have z : (s6.setGen gi gs').gens.size = s6.gens.size := GenW.setGen_size ..
        rw [z] at hsz
        exact hsz
      have J7 := gset (y := gs') J6 hbare
      have g7 : (s6.setGen gi gs').gens[gi]? = some gs' := setGen_at hsz
      generalize s6.setGen gi gs' = s7 at J7 g7
      obtain ⟨vs, dvs⟩ := dgo
      refine go_of (pa J7) cgo dvs (by decide) ?_
      refine wpAny_mono (still (E := fun _ _ => False) (E' := fun _ _ => False) J7 (fun s' J => pg.run (G.pl oL') s' _ H6 x v _ J rx (body_ x hxi H6 sm)) fun _ _ z => z) (fun _ s8 q8 => ?_) fun _ _ z => z.elim
      obtain ⟨G8, r8, σ8, H8, J8', hw8, q8⟩ := q8
      have J8 : Inv B (G.pl oL') σ8 H8 s8 := Inv_gens J8' (RG.bare r8 J7.bare J8'.bare)
      refine wpAny_tests_nil ?_
      rw [if_pos rfl]
      refine wpAny_mono (still (E := fun _ _ => False) (E' := fun _ _ => False) J8 (fun s' J => pe.run (G.pl oL') s' σ8 H8 _ J q8) fun _ _ z => z) (fun y s9 q9 => ?_) fun _ _ z => z.elim
      obtain ⟨G9, r9, yv, H9, J9', ry, acc, hD9, hz9, w9⟩ := q9
      have J9 : Inv B (G.pl oL') σ8 H9 s9 := Inv_gens J9' (RG.bare r9 J8.bare J9'.bare)
      refine wpAny_mono (still (Q := fun _ s' => Inv B (G.pl oL') σ8 (upd H9 D (.lst (acc ++ [yv]))) s') (E := fun _ _ => False) (E' := fun _ _ => False) J9 (fun s' J => app_ok (X := B) J hD9 hz9 ry fun s'' J' => J') fun _ _ z => z) (fun _ s10 q10 => ?_) fun _ _ z => z.elim
      obtain ⟨G10, r10, J10'⟩ := q10
      have J10 : Inv B (G.pl oL') σ8 (upd H9 D (.lst (acc ++ [yv]))) s10 := Inv_gens J10' (RG.bare r10 J9.bare J10'.bare)
      have hl8 : (wipe σ (own.map (·.2))).length = σ8.length := by rw [← hw8, wipe_length]
      have J11 : Inv B (G.pl oL') (wipe σ (own.map (·.2))) (upd H9 D (.lst (acc ++ [yv]))) s10 := J10.weak hl8 fun j v e => by
        rw [← hw8] at e
        exact (wipe_some e).1
      obtain ⟨k1, k2⟩ := nxt _ _ _ (gset (y := .running) J11 rfl) ⟨rfl, w9⟩
      obtain ⟨m, hm⟩ : ∃ m, xs.length + 1 - i' = m + 1 := ⟨xs.length - i', by omega⟩
      simp only [hm] at k1 k2
      have st := not_fresh k2
      have g8 := (r8.slept gi gs' g7 st).1
      have g9 := (r9.slept gi gs' g8 st).1
      have g10 := (r10.slept gi gs' g9 st).1
      refine ⟨n - 1, by omega, i' + 1, _, gs', oL', by omega, J11, w9, g10, ?_⟩
      rw [show xs.length + 1 - (i' + 1) = m by omega]
      exact k1
    · -- the end
      obtain ⟨σ6, H0, H6, hB, sm, J6⟩ := hF
      have J6 : Inv B [] σ6 H6 s6 := Inv.unpinned (pins := []) J6
      have J7 := gset (y := .finished) J6 rfl
      have hk7 : ∀ b o, (s6.setGen gi .finished).heap.get? b = some o → h'.get? b = some o := hk'
      generalize s6.setGen gi .finished = s7 at J7 hk7
      have J8 : Inv B [] σ6 H6 { s7 with heap := h' } := J7.call' (ch := []) rfl (Un.kept hk7) (J7.hok.kept hk7) J7.bare fun b z => by simp at z
      have qq := (turn _ H0 hB.2).2 rfl H6 sm
      have I7 : Inv X pins σ H6 { s7 with heap := h' } := I3.call' (ch := ex) J8.os J8.base J8.hok J8.bare fun b hb => ⟨(f3 b hb).1.2.2.2.1, (f3 b hb).1.2.1, (f3 b hb).1.2.2.2.2.1, (f3 b hb).1.2.2.2.2.2⟩
      have nC : H6 s3.heap.objs.size = none := by
        have z : H6 ce.locals = none := J8.free
        rw [cL] at z
        exact z
      obtain ⟨m, hn', _⟩ := J8.loc
      have hn' : ({ s7 with heap := h' } : Shared).heap.Ns ce.locals m := hn'
      rw [cL] at hn'
      obtain ⟨f0, f1, f2, f3', f4, f5⟩ := I3.fpOk (Nat.le_refl _) nC
      generalize ({ s7 with heap := h' } : Shared) = s8 at I7 hn' J8
      exact ⟨m, hn', fun h'' sb => ⟨.ref D, H6, I7.turned (t' := s8.toks) (fun b o hb e => (sb.2 b hb).trans e) f0 f1 f3' f4 f5, rfl, qq⟩⟩
  have isg4 : s4.heap.IsGen a gi := by
    obtain ⟨o, nm, qn, ho, r⟩ := isg
    exact ⟨o, nm, qn, kp4 _ _ ho, r⟩
  exact codeAny_compStart_list loop (wpAny_pyIter_gen (s := s4) isg4 loop)
end LG

namespace LG
open PySem L2 PyProof.Rows
/-! ### calls by keyword alone of a method whose class is known at the run alone; list(o.m(..)) of a generator method -/
abbrev GVs := List V → List V → List V
def tgMethK (K : PySem.W.Frag) (m : Str) (f : Addr) (n : Nat) (sp : SpX) (gV : GVs) (ta : TE) (tk : TA) : TGx := fun σ H R => ta σ H fun x H1 => ∃ (a C dx : Addr) (fs : List (Str × V)), x = .ref a ∧ H1 a = some (.ins C dx fs) ∧ Cls K C ∧ Meth K C m f ∧ fs.lookup m = none ∧
  tk σ H1 fun zs H2 => zs.length = n ∧ ∃ xs Need, sp (gV [.ref a] zs) H2 xs Need ∧ R xs Need H2
def tMethKD (K : PySem.W.Frag) (m : Str) (f : Addr) (n : Nat) (sp : Sp) (gV : GVs) (E : XK) (ta : TE) (tk : TA) : TE := fun σ H Q => ta σ H fun x H1 => ∃ (a C dx : Addr) (fs : List (Str × V)), x = .ref a ∧ H1 a = some (.ins C dx fs) ∧ Cls K C ∧ Meth K C m f ∧ fs.lookup m = none ∧
  tk σ H1 fun zs H2 => zs.length = n ∧ sp (gV [.ref a] zs) H2 Q E
def tLgMeth (K : PySem.W.Frag) (m : Str) (f : Addr) (sp : SpG) (E : XK) (ta : TE) (t : TA) : TGen := fun σ H cont => ta σ H fun x H1 => ∃ (a C dx : Addr) (fs : List (Str × V)), x = .ref a ∧ H1 a = some (.ins C dx fs) ∧ Cls K C ∧ Meth K C m f ∧ fs.lookup m = none ∧
  t σ H1 fun vs H2 => sp (x :: vs) H2 cont E
section
variable {X : Cx} {CX : CXT} {k : Nat} {f : Addr} {fd : FuncData} {ps ks : List Str} {m : Str} {apos pos : Pos} {o e : Expr} {es : List Expr} {kws : List Keyword} {ta : TE} {t tk : TA} {g : List Value → List Value → List Value} {gV : GVs} {E : XK}
theorem pgn_methK {sp : SpX} {pl : Sem Bool} (he : PE X o ta) (hk : PySem.W.keepIn X.K (.ref f) = true) (F : GFnX X.prog X.w X.K X.mg X.base k f fd ps sp) (hr : Room k X.A) (hb : KBn X.K fd ps 1 ks g gV) (hkw : PK X kws tk)
    (hall : (backToKw pos (keywordEach kws X.env)).all (·.1.isSome) = true := by rfl) (hks : (backToKw pos (keywordEach kws X.env)).filterMap (·.1) = ks := by rfl)
    (hpl : ((backTo pos (starEach [] X.env)).any (·.1) || (backToKw pos (keywordEach kws X.env)).any (·.1.isNone)) = false := by rfl)
    (ht : eval (.Call (.Attribute o m apos) [] kws pos) X.env = (do
      let ov ← eval o X.env
      standAt apos.atName
      let (f, first) ← holding [ov] (getMethod ov m pl)
      callWith pos f first (backTo pos (starEach [] X.env)) (backToKw pos (keywordEach kws X.env))) := by rfl) :
    PGn X (.Call (.Attribute o m apos) [] kws pos) (tgMethK X.K m f ks.length sp gV ta tk) := by
  refine ⟨fun pins s σ H R I h => ?_⟩
  refine PySem.W.methodCall_KW (pl := pl) (thn (he.run pins s σ H _ I h) fun u s1 ⟨x, H1, I1, rx, a, C, dx, fs, ex, ea, c, hm, l, q⟩ => ?_) ht
  subst ex
  obtain rfl : u = Value.ref a := rx
  refine getmeth_ok I1 ea c hm l ?_
  refine PySem.W.callWith_KW0 (first := [.ref a]) (h₀ := X.base) I1.ok.mod.kin hk hall ?_ hpl
  refine thn (hkw.run pos pins s1 σ H1 _ I1 q) fun ws s2 ⟨zs, H2, I2, rz, l2, xs, Need, q2, q3⟩ => ⟨I2.kIn, ?_⟩
  rw [hks]
  refine wpAny_call (codeAny_mono (F.run X.A X.stack s2 H2 ⟨[.ref a], ks.zip ws⟩ (g [.ref a] ws) (gV [.ref a] zs) xs Need hr I2.env0 (hb.to s2 [.ref a] ws I2.kIn rfl (rz.length.symm.trans l2)) (hb.rel (.cons rfl .nil) rz) q2) fun r s' hq => ?_)
  match r, hq with
  | .ok (.ret u), hq => exact ⟨H2, s2, xs, Need, I2, hq, q3⟩
theorem pe_methKD {sp : Sp} {pl : Sem Bool} (he : PE X o ta) (hk : PySem.W.keepIn X.K (.ref f) = true) (F : FnOk X.prog X.w X.K X.mg X.base CX k f fd ps sp) (hr : Room k X.A) (hb : KBn X.K fd ps 1 ks g gV) (hx : Passes CX X E) (hkw : PK X kws tk)
    (hall : (backToKw pos (keywordEach kws X.env)).all (·.1.isSome) = true := by rfl) (hks : (backToKw pos (keywordEach kws X.env)).filterMap (·.1) = ks := by rfl)
    (hpl : ((backTo pos (starEach [] X.env)).any (·.1) || (backToKw pos (keywordEach kws X.env)).any (·.1.isNone)) = false := by rfl)
    (ht : eval (.Call (.Attribute o m apos) [] kws pos) X.env = (do
      let ov ← eval o X.env
      standAt apos.atName
      let (f, first) ← holding [ov] (getMethod ov m pl)
      callWith pos f first (backTo pos (starEach [] X.env)) (backToKw pos (keywordEach kws X.env))) := by rfl) :
    PE X (.Call (.Attribute o m apos) [] kws pos) (tMethKD X.K m f ks.length sp gV E ta tk) := by
  refine ⟨fun pins s σ H Q I h => ?_⟩
  refine PySem.W.methodCall_KW (pl := pl) (thn (he.run pins s σ H _ I h) fun u s1 ⟨x, H1, I1, rx, a, C, dx, fs, ex, ea, c, hm, l, q⟩ => ?_) ht
  subst ex
  obtain rfl : u = Value.ref a := rx
  refine getmeth_ok I1 ea c hm l ?_
  refine PySem.W.callWith_KW0 (first := [.ref a]) (h₀ := X.base) I1.ok.mod.kin hk hall ?_ hpl
  refine thn (hkw.run pos pins s1 σ H1 _ I1 q) fun ws s2 ⟨zs, H2, I2, rz, l2, q2⟩ => ⟨I2.kIn, ?_⟩
  rw [hks]
  exact run_fnN (us := [.ref a]) (vs := [.ref a]) F hr hb hx I2 (.cons rfl .nil) rz rfl l2 q2
theorem pgen_methD {sp : SpG} {pl : Sem Bool} (he : PE X o ta) (hk : PySem.W.keepIn X.K (.ref f) = true) (F : GFn X.prog X.w X.K X.mg X.base k f fd ps sp) (hr : Room k X.A) (hb : Binds X.K fd ps []) (ha : PA X (e :: es) t)
    (hst : starEach (e :: es) X.env = (false, eval e X.env) :: starEach es X.env := by rfl) (hpl : (backTo pos (starEach es X.env)).any (·.1) = false := by rfl)
    (ht : eval (.Call (.Attribute o m apos) (e :: es) [] pos) X.env = (do
      let ov ← eval o X.env
      standAt apos.atName
      let (f, first) ← holding [ov] (getMethod ov m pl)
      callWith pos f first (backTo pos (starEach (e :: es) X.env)) (backToKw pos (keywordEach [] X.env))) := by rfl) :
    PGen X k (.Call (.Attribute o m apos) (e :: es) [] pos) (tLgMeth X.K m f sp E ta t) E := by
  refine ⟨fun pins s σ H cont I h => ?_⟩
  refine PySem.W.methodCall_KW (pl := pl) (thn (he.run pins s σ H _ I h) fun u s1 ⟨x, H1, I1, rx, a, C, dx, fs, ex, ea, c, hm, l, q⟩ => ?_) ht
  subst ex
  obtain rfl : u = Value.ref a := rx
  refine getmeth_ok I1 ea c hm l ?_
  refine PySem.W.callWith_K (first := [.ref a]) (h₀ := X.base) I.ok.mod.kin hk (thn (ha.run pos pins s1 σ H1 _ I1 q) fun us s2 ⟨vs, H2, I2, r, q2⟩ => ⟨I2.kIn, ?_⟩) hst hpl
  exact run_gfn (us := .ref a :: us) (vs := .ref a :: vs) (dvs := []) F hr hb .nil I2 (.cons rfl r) (by rw [List.append_nil]; exact q2)
theorem pass0C {X : Cx} : Passes (L2.CX X.prog X.w) X E0 := by
  intro pins σ H s e s' I h
  obtain ⟨_, _, _, _, _, _, _, _, _, _, _, _, z⟩ := h
  exact z.elim
end
end LG


namespace k03
open PySem L2 LC
def top (i : Nat) : Stmt := PySem.Challenge.pw_surelet_k03_whole_latest_moments.main.body.getD i (.Pass ⟨0, 0, 0, 0⟩)
abbrev scheck_count : Stmt := top 12
abbrev Nmcheck_count : List Str := ["what", "count", "most"]
abbrev Pcheck_count : List Str := ["what", "count", "most"]
theorem sccheck_count : FnScope Nmcheck_count Pcheck_count (defScope scheck_count) := ⟨rfl, rfl, rfl, by decide +kernel, rfl, by decide +kernel, by decide +kernel⟩
abbrev sis_whole : Stmt := top 14
abbrev Nmis_whole : List Str := ["value"]
abbrev Pis_whole : List Str := ["value"]
theorem scis_whole : FnScope Nmis_whole Pis_whole (defScope sis_whole) := ⟨rfl, rfl, rfl, by decide +kernel, rfl, by decide +kernel, by decide +kernel⟩
abbrev sis_number : Stmt := top 15
abbrev Nmis_number : List Str := ["value", "least", "most"]
abbrev Pis_number : List Str := ["value", "least", "most"]
theorem scis_number : FnScope Nmis_number Pis_number (defScope sis_number) := ⟨rfl, rfl, rfl, by decide +kernel, rfl, by decide +kernel, by decide +kernel⟩
abbrev scheck_borders : Stmt := top 23
abbrev Nmcheck_borders : List Str := ["borders", "least", "at", "border"]
abbrev Pcheck_borders : List Str := ["borders"]
theorem sccheck_borders : FnScope Nmcheck_borders Pcheck_borders (defScope scheck_borders) := ⟨rfl, rfl, rfl, by decide +kernel, rfl, by decide +kernel, by decide +kernel⟩
abbrev sRest_init : Stmt := inClass (top 17) 0
abbrev NmRest_init : List Str := ["self", "text", "forms", "period", "bend"]
abbrev PRest_init : List Str := ["self", "text", "forms", "period", "bend"]
theorem scRest_init : FnScope NmRest_init PRest_init (defScope sRest_init) := ⟨rfl, rfl, rfl, by decide +kernel, rfl, by decide +kernel, by decide +kernel⟩
abbrev sRest_forms : Stmt := inClass (top 17) 4
abbrev NmRest_forms : List Str := ["self"]
abbrev PRest_forms : List Str := ["self"]
theorem scRest_forms : FnScope NmRest_forms PRest_forms (defScope sRest_forms) := ⟨rfl, rfl, rfl, by decide +kernel, rfl, by decide +kernel, by decide +kernel⟩
abbrev sRest_period : Stmt := inClass (top 17) 5
abbrev NmRest_period : List Str := ["self"]
abbrev PRest_period : List Str := ["self"]
theorem scRest_period : FnScope NmRest_period PRest_period (defScope sRest_period) := ⟨rfl, rfl, rfl, by decide +kernel, rfl, by decide +kernel, by decide +kernel⟩
abbrev sRest_bend : Stmt := inClass (top 17) 6
abbrev NmRest_bend : List Str := ["self"]
abbrev PRest_bend : List Str := ["self"]
theorem scRest_bend : FnScope NmRest_bend PRest_bend (defScope sRest_bend) := ⟨rfl, rfl, rfl, by decide +kernel, rfl, by decide +kernel, by decide +kernel⟩
abbrev sRest_written : Stmt := inClass (top 17) 7
abbrev NmRest_written : List Str := ["self"]
abbrev PRest_written : List Str := ["self"]
theorem scRest_written : FnScope NmRest_written PRest_written (defScope sRest_written) := ⟨rfl, rfl, rfl, by decide +kernel, rfl, by decide +kernel, by decide +kernel⟩
abbrev scommon_period : Stmt := top 25
abbrev Nmcommon_period : List Str := ["rest", "other", "period"]
abbrev Pcommon_period : List Str := ["rest", "other"]
theorem sccommon_period : FnScope Nmcommon_period Pcommon_period (defScope scommon_period) := ⟨rfl, rfl, rfl, by decide +kernel, rfl, by decide +kernel, by decide +kernel⟩
abbrev spair_facts : Stmt := top 24
abbrev Nmpair_facts : List Str := ["word", "first", "second", "value", "text", "forms"]
abbrev Ppair_facts : List Str := ["word", "first", "second"]
theorem scpair_facts : FnScope Nmpair_facts Ppair_facts (defScope spair_facts) := ⟨rfl, rfl, rfl, by decide +kernel, rfl, by decide +kernel, by decide +kernel⟩
abbrev sWindow_init : Stmt := inClass (top 18) 0
abbrev NmWindow_init : List Str := ["self", "width", "__class__"]
abbrev PWindow_init : List Str := ["self", "width"]
theorem scWindow_init : NdefX.NScope NmWindow_init PWindow_init ["__class__"] (defScope sWindow_init) := NdefX.nscope_by (by decide +kernel)
abbrev FWindow_init (cc c : Addr) : NdefX.NF := ⟨"__init__", "Window.__init__", defArgs sWindow_init, defBody sWindow_init, defScope sWindow_init, [("__class__", cc)], c⟩
abbrev sDays_init : Stmt := inClass (top 19) 0
abbrev NmDays_init : List Str := ["self", "borders", "every", "__class__", "words", "border"]
abbrev PDays_init : List Str := ["self", "borders", "every"]
theorem scDays_init : NdefX.NScope NmDays_init PDays_init ["__class__"] (defScope sDays_init) := NdefX.nscope_by (by decide +kernel)
abbrev FDays_init (cc c : Addr) : NdefX.NF := ⟨"__init__", "Days.__init__", defArgs sDays_init, defBody sDays_init, defScope sDays_init, [("__class__", cc)], c⟩
abbrev sLater_init : Stmt := inClass (top 20) 0
abbrev NmLater_init : List Str := ["self", "first", "second", "__class__", "facts"]
abbrev PLater_init : List Str := ["self", "first", "second"]
theorem scLater_init : NdefX.NScope NmLater_init PLater_init ["__class__"] (defScope sLater_init) := NdefX.nscope_by (by decide +kernel)
abbrev FLater_init (cc c : Addr) : NdefX.NF := ⟨"__init__", "Later.__init__", defArgs sLater_init, defBody sLater_init, defScope sLater_init, [("__class__", cc)], c⟩
abbrev sSooner_init : Stmt := inClass (top 21) 0
abbrev NmSooner_init : List Str := ["self", "first", "second", "__class__", "facts"]
abbrev PSooner_init : List Str := ["self", "first", "second"]
theorem scSooner_init : NdefX.NScope NmSooner_init PSooner_init ["__class__"] (defScope sSooner_init) := NdefX.nscope_by (by decide +kernel)
abbrev FSooner_init (cc c : Addr) : NdefX.NF := ⟨"__init__", "Sooner.__init__", defArgs sSooner_init, defBody sSooner_init, defScope sSooner_init, [("__class__", cc)], c⟩
abbrev sNext_init : Stmt := inClass (top 22) 0
abbrev NmNext_init : List Str := ["self", "first", "second", "__class__", "facts"]
abbrev PNext_init : List Str := ["self", "first", "second"]
theorem scNext_init : NdefX.NScope NmNext_init PNext_init ["__class__"] (defScope sNext_init) := NdefX.nscope_by (by decide +kernel)
abbrev FNext_init (cc c : Addr) : NdefX.NF := ⟨"__init__", "Next.__init__", defArgs sNext_init, defBody sNext_init, defScope sNext_init, [("__class__", cc)], c⟩
abbrev sWindow_call : Stmt := inClass (top 18) 1
abbrev NmWindow_call : List Str := ["self", "t"]
abbrev PWindow_call : List Str := ["self", "t"]
theorem scWindow_call : FnScope NmWindow_call PWindow_call (defScope sWindow_call) := ⟨rfl, rfl, rfl, by decide +kernel, rfl, by decide +kernel, by decide +kernel⟩
abbrev sDays_call : Stmt := inClass (top 19) 1
abbrev NmDays_call : List Str := ["self", "t", "border", "last"]
abbrev PDays_call : List Str := ["self", "t"]
theorem scDays_call : FnScope NmDays_call PDays_call (defScope sDays_call) := ⟨rfl, rfl, rfl, by decide +kernel, rfl, by decide +kernel, by decide +kernel⟩
abbrev sLater_call : Stmt := inClass (top 20) 1
abbrev NmLater_call : List Str := ["self", "t"]
abbrev PLater_call : List Str := ["self", "t"]
theorem scLater_call : FnScope NmLater_call PLater_call (defScope sLater_call) := ⟨rfl, rfl, rfl, by decide +kernel, rfl, by decide +kernel, by decide +kernel⟩
abbrev sSooner_call : Stmt := inClass (top 21) 1
abbrev NmSooner_call : List Str := ["self", "t"]
abbrev PSooner_call : List Str := ["self", "t"]
theorem scSooner_call : FnScope NmSooner_call PSooner_call (defScope sSooner_call) := ⟨rfl, rfl, rfl, by decide +kernel, rfl, by decide +kernel, by decide +kernel⟩
abbrev sNext_call : Stmt := inClass (top 22) 1
abbrev NmNext_call : List Str := ["self", "t"]
abbrev PNext_call : List Str := ["self", "t"]
theorem scNext_call : FnScope NmNext_call PNext_call (defScope sNext_call) := ⟨rfl, rfl, rfl, by decide +kernel, rfl, by decide +kernel, by decide +kernel⟩
abbrev sRest_steps : Stmt := inClass (top 17) 3
abbrev NmRest_steps : List Str := ["self", "t", "end"]
abbrev PRest_steps : List Str := ["self", "t", "end"]
theorem scRest_steps : GScope NmRest_steps PRest_steps (defScope sRest_steps) := ⟨rfl, rfl, rfl, by decide +kernel, rfl, by decide +kernel, by decide +kernel⟩
theorem ncRest_steps : ∀ y ∈ (defScope sRest_steps).names, y.2 ≠ .cell := by decide +kernel
abbrev sRest_latest : Stmt := inClass (top 17) 2
abbrev NmRest_latest : List Str := ["self", "f", "low", "high", "middle"]
abbrev PRest_latest : List Str := ["self", "f"]
theorem scRest_latest : FnScope NmRest_latest PRest_latest (defScope sRest_latest) := ⟨rfl, rfl, rfl, by decide +kernel, rfl, by decide +kernel, by decide +kernel⟩
abbrev sbag : Stmt := top 27
abbrev Nmbag : List Str := ["_law_script", "_law_seed", "_law_item"]
abbrev Pbag : List Str := ["_law_script"]
theorem scbag : FnScope Nmbag Pbag (defScope sbag) := ⟨rfl, rfl, rfl, by decide +kernel, rfl, by decide +kernel, by decide +kernel⟩
abbrev sdraw : Stmt := top 28
abbrev Nmdraw : List Str := ["_law_bag_here", "_law_limit", "_law_item", "_law_digit"]
abbrev Pdraw : List Str := ["_law_bag_here", "_law_limit"]
theorem scdraw : FnScope Nmdraw Pdraw (defScope sdraw) := ⟨rfl, rfl, rfl, by decide +kernel, rfl, by decide +kernel, by decide +kernel⟩
abbrev sof : Stmt := top 29
abbrev Nmof : List Str := ["_law_bag_here", "_law_things"]
abbrev Pof : List Str := ["_law_bag_here", "_law_things"]
theorem scof : FnScope Nmof Pof (defScope sof) := ⟨rfl, rfl, rfl, by decide +kernel, rfl, by decide +kernel, by decide +kernel⟩
abbrev slike : Stmt := top 30
abbrev Nmlike : List Str := ["_law_told", "_law_due", "_law_a", "_law_b"]
abbrev Plike : List Str := ["_law_told", "_law_due"]
theorem sclike : FnScope Nmlike Plike (defScope slike) := ⟨rfl, rfl, rfl, by decide +kernel, rfl, by decide +kernel, by decide +kernel⟩
abbrev slcm : Stmt := top 31
abbrev Nmlcm : List Str := ["_law_a", "_law_b", "_law_one", "_law_two"]
abbrev Plcm : List Str := ["_law_a", "_law_b"]
theorem sclcm : FnScope Nmlcm Plcm (defScope slcm) := ⟨rfl, rfl, rfl, by decide +kernel, rfl, by decide +kernel, by decide +kernel⟩
abbrev sleaf : Stmt := top 32
abbrev Nmleaf : List Str := ["_law_bag_here", "_law_wide", "_law_box", "_law_gap", "_law_edges_here", "_law_edge", "_law_k"]
abbrev Pleaf : List Str := ["_law_bag_here", "_law_wide", "_law_box"]
theorem scleaf : FnScope Nmleaf Pleaf (defScope sleaf) := ⟨rfl, rfl, rfl, by decide +kernel, rfl, by decide +kernel, by decide +kernel⟩
abbrev sjoined : Stmt := top 33
abbrev Nmjoined : List Str := ["_law_bag_here", "_law_parts", "_law_some", "_law_k", "_law_j", "_law_two"]
abbrev Pjoined : List Str := ["_law_bag_here", "_law_parts"]
theorem scjoined : FnScope Nmjoined Pjoined (defScope sjoined) := ⟨rfl, rfl, rfl, by decide +kernel, rfl, by decide +kernel, by decide +kernel⟩
abbrev splan : Stmt := top 34
abbrev Nmplan : List Str := ["_law_bag_here", "_law_wide", "_law_box", "_law_many", "_law_k"]
abbrev Pplan : List Str := ["_law_bag_here", "_law_wide", "_law_box"]
theorem scplan : FnScope Nmplan Pplan (defScope splan) := ⟨rfl, rfl, rfl, by decide +kernel, rfl, by decide +kernel, by decide +kernel⟩
abbrev sat : Stmt := top 35
abbrev Nmat : List Str := ["_law_plan_here", "_law_s", "_law_edge", "_law_base", "_law_one", "_law_two"]
abbrev Pat : List Str := ["_law_plan_here", "_law_s"]
theorem scat : FnScope Nmat Pat (defScope sat) := ⟨rfl, rfl, rfl, by decide +kernel, rfl, by decide +kernel, by decide +kernel⟩
abbrev smade : Stmt := top 36
abbrev Nmmade : List Str := ["_law_plan_here", "_law_one", "_law_two"]
abbrev Pmade : List Str := ["_law_plan_here"]
theorem scmade : FnScope Nmmade Pmade (defScope smade) := ⟨rfl, rfl, rfl, by decide +kernel, rfl, by decide +kernel, by decide +kernel⟩
abbrev sedges : Stmt := top 37
abbrev Nmedges : List Str := ["_law_plan_here"]
abbrev Pedges : List Str := ["_law_plan_here"]
theorem scedges : FnScope Nmedges Pedges (defScope sedges) := ⟨rfl, rfl, rfl, by decide +kernel, rfl, by decide +kernel, by decide +kernel⟩
abbrev sspot : Stmt := top 38
abbrev Nmspot : List Str := ["_law_bag_here", "_law_plan_here", "_law_pick"]
abbrev Pspot : List Str := ["_law_bag_here", "_law_plan_here"]
theorem scspot : FnScope Nmspot Pspot (defScope sspot) := ⟨rfl, rfl, rfl, by decide +kernel, rfl, by decide +kernel, by decide +kernel⟩
abbrev sbound : Stmt := top 39
abbrev Nmbound : List Str := ["_law_bag_here", "_law_plan_here", "_law_pick"]
abbrev Pbound : List Str := ["_law_bag_here", "_law_plan_here"]
theorem scbound : FnScope Nmbound Pbound (defScope sbound) := ⟨rfl, rfl, rfl, by decide +kernel, rfl, by decide +kernel, by decide +kernel⟩
abbrev slatest_so : Stmt := top 40
abbrev Nmlatest_so : List Str := ["_law_told", "_law_plan_here", "_law_bound_here"]
abbrev Platest_so : List Str := ["_law_told", "_law_plan_here", "_law_bound_here"]
theorem sclatest_so : FnScope Nmlatest_so Platest_so (defScope slatest_so) := ⟨rfl, rfl, rfl, by decide +kernel, rfl, by decide +kernel, by decide +kernel⟩
abbrev srow : Stmt := top 41
abbrev Nmrow : List Str := ["_law_plan_here", "_law_start", "_law_stop", "_law_some", "_law_s", "_law_k"]
abbrev Prow : List Str := ["_law_plan_here", "_law_start", "_law_stop"]
theorem scrow : FnScope Nmrow Prow (defScope srow) := ⟨rfl, rfl, rfl, by decide +kernel, rfl, by decide +kernel, by decide +kernel⟩
abbrev ssteps_so : Stmt := top 42
abbrev Nmsteps_so : List Str := ["_law_bag_here", "_law_plan_here", "_law_thing", "_law_start", "_law_pick", "_law_stop", "_law_due", "_law_some", "_law_s"]
abbrev Psteps_so : List Str := ["_law_bag_here", "_law_plan_here", "_law_thing"]
theorem scsteps_so : FnScope Nmsteps_so Psteps_so (defScope ssteps_so) := ⟨rfl, rfl, rfl, by decide +kernel, rfl, by decide +kernel, by decide +kernel⟩
abbrev snested_so : Stmt := top 43
abbrev Nmnested_so : List Str := ["_law_bag_here", "_law_plan_here", "_law_thing", "_law_start", "_law_stop", "_law_some", "_law_s"]
abbrev Pnested_so : List Str := ["_law_bag_here", "_law_plan_here", "_law_thing"]
theorem scnested_so : FnScope Nmnested_so Pnested_so (defScope snested_so) := ⟨rfl, rfl, rfl, by decide +kernel, rfl, by decide +kernel, by decide +kernel⟩
abbrev slaw : Stmt := top 44
abbrev Nmlaw : List Str := ["_law_script", "_law_bag_here", "_law_wide", "_law_plans", "_law_things", "_law_asked", "_law_k", "_law_j", "_law_thing", "_law_bound_here", "_law_told", "_law_plan_here"]
abbrev Plaw : List Str := ["_law_script"]
theorem sclaw : FnScope Nmlaw Plaw (defScope slaw) := ⟨rfl, rfl, rfl, by decide +kernel, rfl, by decide +kernel, by decide +kernel⟩
structure Txt (K : PySem.W.Frag) (mg : Str → Option Value) : Prop where
  n_all : mg "all" = none
  n_bool : mg "bool" = none
  n_dict : mg "dict" = none
  n_enumerate : mg "enumerate" = none
  n_int : mg "int" = none
  n_isinstance : mg "isinstance" = none
  n_len : mg "len" = none
  n_list : mg "list" = none
  n_max : mg "max" = none
  n_min : mg "min" = none
  n_range : mg "range" = none
  n_str : mg "str" = none
  n_super : mg "super" = none
  n_tuple : mg "tuple" = none
  n_zip : mg "zip" = none
  c_MOST_BORDERS : ∃ t, mg "MOST_BORDERS" = some (.int 12 t)
  c_MOST_FORMS : ∃ t, mg "MOST_FORMS" = some (.int 6 t)
  c_MOST_PERIOD : ∃ t, mg "MOST_PERIOD" = some (.int 2000 t)
  c_MOST_SIZE : ∃ t, mg "MOST_SIZE" = some (.int 1000 t)
open RM
/-- the addresses of what the program's top has made for the rests -/
structure Ad where
  (R W D L S N fRi fF fP fB fW Wi Di Li Si Ni Wc Dc Lc Sc Nc : Addr)
/-- what the written part says of a class of rests -/
structure RC (K : PySem.W.Frag) (a : Ad) (C : Addr) : Prop where
  cl : Cls K C
  nT : NoAttr K C "_text"
  nF : NoAttr K C "_forms"
  nP : NoAttr K C "_period"
  nB : NoAttr K C "_bend"
  mF : Meth K C "forms" a.fF
  mP : Meth K C "period" a.fP
  mB : Meth K C "bend" a.fB
  mW : Meth K C "written" a.fW
  me : PySem.W.kitOne K (.ref C) (.ref a.R) = some true
  ha : PySem.W.findIn K (.ref C) "__class__" = some (some (.builtin "object.__class__"))
  hn : PySem.W.specialIn K (.builtin "object.__class__") "__get__" = some (some (.builtin "getset_descriptor.__get__"))
  htk : PySem.W.takesIn K (.builtin "object.__class__") = some true
  hm : PySem.W.mroIn K C (.type "object") = some true
structure Kn (K : PySem.W.Frag) (mg : Str → Option Value) (a : Ad) : Prop where
  w : RC K a a.W
  d : RC K a a.D
  l : RC K a a.L
  s : RC K a a.S
  n : RC K a a.N
  nw : NoAttr K a.W "width"
  nb : NoAttr K a.D "_borders"
  ne : NoAttr K a.D "every"
  l1 : NoAttr K a.L "first"
  l2 : NoAttr K a.L "second"
  s1 : NoAttr K a.S "first"
  s2 : NoAttr K a.S "second"
  n1 : NoAttr K a.N "first"
  n2 : NoAttr K a.N "second"
  kW : PySem.W.keepIn K (.ref a.fW) = true
  kF : PySem.W.keepIn K (.ref a.fF) = true
  kP : PySem.W.keepIn K (.ref a.fP) = true
  kB : PySem.W.keepIn K (.ref a.fB) = true
  gR : mg "Rest" = some (.ref a.R)
  gl : mg "lcm" = some (.builtin "math.lcm")
  gWindow : mg "Window" = some (.ref a.W)
  gDays : mg "Days" = some (.ref a.D)
  gLater : mg "Later" = some (.ref a.L)
  gSooner : mg "Sooner" = some (.ref a.S)
  gNext : mg "Next" = some (.ref a.N)
  mWindow : Mk K a.W a.Wi
  mDays : Mk K a.D a.Di
  mLater : Mk K a.L a.Li
  mSooner : Mk K a.S a.Si
  mNext : Mk K a.N a.Ni
  cW : StX.CallO K a.W a.Wc
  cD : StX.CallO K a.D a.Dc
  cL : StX.CallO K a.L a.Lc
  cS : StX.CallO K a.S a.Sc
  cN : StX.CallO K a.N a.Nc
/-! ### the plans as they stand in the heap -/
def Kt (H H' : Hp) : Prop := ∀ b xs, H b = some (.tup xs) → H' b = some (.tup xs)
theorem Kt.refl (H : Hp) : Kt H H := fun _ _ h => h
theorem Kt.trans {H H1 H2 : Hp} (a : Kt H H1) (b : Kt H1 H2) : Kt H H2 := fun c o h => b c o (a c o h)
theorem Kt.new {H : Hp} {p : Addr} {o : HO} (h : H p = none) : Kt H (upd H p o) := fun b xs e => by
  rw [upd_ne (ne_of_none e h)]
  exact e
theorem Kt.lst {H : Hp} {p : Addr} {o : HO} {xs : List V} (h : H p = some (.lst xs)) : Kt H (upd H p o) := fun b ys e => by
  rw [upd_ne (ne_of e h (by intro z; cases z))]
  exact e
theorem Kt.same {H H' : Hp} (s : Same H H') : Kt H H' := fun b xs e => s b _ e
theorem Kt.ok {g l : Addr} {H H' : Hp} (r : Ok g l H H') : Kt H H' := fun b xs e => by
  obtain ⟨⟨ys, q⟩, _⟩ := r.b0.there
  refine r.kp b _ (fun z => ?_) e
  rw [z, q] at e
  cases e
def PlanAt (H : Hp) : Pl → Addr → Prop
  | .win w, x => H x = some (.tup [.str "window", .int w])
  | .days bs e, x => ∃ y, H x = some (.tup [.str "days", .ref y, .int e]) ∧ H y = some (.tup (bs.map V.int))
  | .lat p q, x => ∃ y z, H x = some (.tup [.str "later", .ref y, .ref z]) ∧ PlanAt H p y ∧ PlanAt H q z
  | .soo p q, x => ∃ y z, H x = some (.tup [.str "sooner", .ref y, .ref z]) ∧ PlanAt H p y ∧ PlanAt H q z
  | .nex p q, x => ∃ y z, H x = some (.tup [.str "next", .ref y, .ref z]) ∧ PlanAt H p y ∧ PlanAt H q z
theorem PlanAt.kt {H H' : Hp} (k : Kt H H') : ∀ {p : Pl} {x : Addr}, PlanAt H p x → PlanAt H' p x
  | .win w, x, h => k _ _ h
  | .days bs e, x, ⟨y, h1, h2⟩ => ⟨y, k _ _ h1, k _ _ h2⟩
  | .lat p q, x, ⟨y, z, h1, h2, h3⟩ => ⟨y, z, k _ _ h1, h2.kt k, h3.kt k⟩
  | .soo p q, x, ⟨y, z, h1, h2, h3⟩ => ⟨y, z, k _ _ h1, h2.kt k, h3.kt k⟩
  | .nex p q, x, ⟨y, z, h1, h2, h3⟩ => ⟨y, z, k _ _ h1, h2.kt k, h3.kt k⟩
/-! ### the rests as they stand in the heap -/
def tb : Nat → Nat
  | 0 => 40000
  | n + 1 => 2 * tb n + 40
theorem tb_le : ∀ {m n : Nat}, m ≤ n → tb m ≤ tb n
  | m, 0, h => by obtain rfl : m = 0 := by omega
                  exact Nat.le_refl _
  | m, n + 1, h => by
    by_cases e : m = n + 1
    · rw [e]; exact Nat.le_refl _
    · have := tb_le (m := m) (n := n) (by omega)
      show tb m ≤ 2 * tb n + 40
      omega
def four (t : Str) (p : Pl) (fs : List (Str × V)) : List (Str × V) := putF "_bend" (.int p.bend) (putF "_period" (.int p.per) (putF "_forms" (.int p.forms) (putF "_text" (.str t) fs)))
def winF (t : Str) (w : Int) : List (Str × V) := putF "width" (.int w) (four t (.win w) [])
def dayF (t : Str) (bs : List Int) (e : Int) (b : Addr) : List (Str × V) := four t (.days bs e) (putF "every" (.int e) (putF "_borders" (.ref b) []))
def pairF (t : Str) (p : Pl) (y z : Addr) : List (Str × V) := putF "second" (.ref z) (putF "first" (.ref y) (four t p []))
/-- all but what is in F is as it was -/
def KpF (F : Addr → Prop) (H H' : Hp) : Prop := ∀ b o, ¬ F b → H b = some o → H' b = some o
theorem KpF.same {F : Addr → Prop} {H H' : Hp} (s : Same H H') : KpF F H H' := fun b o _ e => s b o e
theorem KpF.kp {F : Addr → Prop} {g : Addr} {H H' : Hp} (hg : F g) (k : Kp g H H') : KpF F H H' := fun b o n e => k b o (fun z => n (z ▸ hg)) e
def RestAt (a : Ad) (g : Addr → Prop) (H : Hp) : Pl → Addr → Prop
  | .win w, x => ¬ g x ∧ ∃ dx t, H x = some (.ins a.W dx (winF t w)) ∧ t.length ≤ tb 0
  | .days bs e, x => ¬ g x ∧ ∃ dx t b, H x = some (.ins a.D dx (dayF t bs e b)) ∧ t.length ≤ tb 0 ∧ ¬ g b ∧ H b = some (.lst (bs.map V.int))
  | .lat p q, x => ¬ g x ∧ ∃ dx t y z, H x = some (.ins a.L dx (pairF t (.lat p q) y z)) ∧ t.length ≤ tb (Pl.lat p q).h ∧ RestAt a g H p y ∧ RestAt a g H q z
  | .soo p q, x => ¬ g x ∧ ∃ dx t y z, H x = some (.ins a.S dx (pairF t (.soo p q) y z)) ∧ t.length ≤ tb (Pl.soo p q).h ∧ RestAt a g H p y ∧ RestAt a g H q z
  | .nex p q, x => ¬ g x ∧ ∃ dx t y z, H x = some (.ins a.N dx (pairF t (.nex p q) y z)) ∧ t.length ≤ tb (Pl.nex p q).h ∧ RestAt a g H p y ∧ RestAt a g H q z
theorem RestAt.kp {a : Ad} {g : Addr → Prop} {H H' : Hp} (k : KpF g H H') : ∀ {p : Pl} {x : Addr}, RestAt a g H p x → RestAt a g H' p x
  | .win w, x, ⟨n, dx, t, h, l⟩ => ⟨n, dx, t, k _ _ n h, l⟩
  | .days bs e, x, ⟨n, dx, t, b, h, l, nb, hb⟩ => ⟨n, dx, t, b, k _ _ n h, l, nb, k _ _ nb hb⟩
  | .lat p q, x, ⟨n, dx, t, y, z, h, l, h2, h3⟩ => ⟨n, dx, t, y, z, k _ _ n h, l, h2.kp k, h3.kp k⟩
  | .soo p q, x, ⟨n, dx, t, y, z, h, l, h2, h3⟩ => ⟨n, dx, t, y, z, k _ _ n h, l, h2.kp k, h3.kp k⟩
  | .nex p q, x, ⟨n, dx, t, y, z, h, l, h2, h3⟩ => ⟨n, dx, t, y, z, k _ _ n h, l, h2.kp k, h3.kp k⟩
theorem RestAt.mono {a : Ad} {F G : Addr → Prop} {H : Hp} (k : ∀ b, G b → F b) : ∀ {p : Pl} {x : Addr}, RestAt a F H p x → RestAt a G H p x
  | .win w, x, ⟨n, dx, t, h, l⟩ => ⟨fun z => n (k _ z), dx, t, h, l⟩
  | .days bs e, x, ⟨n, dx, t, b, h, l, nb, hb⟩ => ⟨fun z => n (k _ z), dx, t, b, h, l, fun z => nb (k _ z), hb⟩
  | .lat p q, x, ⟨n, dx, t, y, z, h, l, h2, h3⟩ => ⟨fun z => n (k _ z), dx, t, y, z, h, l, h2.mono k, h3.mono k⟩
  | .soo p q, x, ⟨n, dx, t, y, z, h, l, h2, h3⟩ => ⟨fun z => n (k _ z), dx, t, y, z, h, l, h2.mono k, h3.mono k⟩
  | .nex p q, x, ⟨n, dx, t, y, z, h, l, h2, h3⟩ => ⟨fun z => n (k _ z), dx, t, y, z, h, l, h2.mono k, h3.mono k⟩
theorem RestAt.same {a : Ad} {g : Addr → Prop} {H H' : Hp} {p : Pl} {x : Addr} (s : Same H H') (r : RestAt a g H p x) : RestAt a g H' p x := r.kp (KpF.same s)
/-- lookups in what was put -/
theorem lk_eq {f : Str} {v : V} {fs : List (Str × V)} : (putF f v fs).lookup f = some v := by rw [lookup_putF, if_pos rfl]
theorem lk_ne {f m : Str} {v : V} {fs : List (Str × V)} (h : decide (m = f) = false) : (putF f v fs).lookup m = fs.lookup m := by rw [lookup_putF, if_neg (of_decide_eq_false h)]
structure Four (t : Str) (p : Pl) (fs : List (Str × V)) : Prop where
  vt : fs.lookup ("_text" : Str) = some (.str t)
  vf : fs.lookup ("_forms" : Str) = some (.int p.forms)
  vp : fs.lookup ("_period" : Str) = some (.int p.per)
  vb : fs.lookup ("_bend" : Str) = some (.int p.bend)
  mw : fs.lookup ("written" : Str) = none
  mf : fs.lookup ("forms" : Str) = none
  mp : fs.lookup ("period" : Str) = none
  mb : fs.lookup ("bend" : Str) = none
theorem four_win {t : Str} {w : Int} : Four t (.win w) (winF t w) := by unfold winF four; exact ⟨by (first | rfl | exact lk_eq | (rw [lk_ne (by decide +kernel)]; (first | rfl | exact lk_eq | (rw [lk_ne (by decide +kernel)]; (first | rfl | exact lk_eq | (rw [lk_ne (by decide +kernel)]; (first | rfl | exact lk_eq | (rw [lk_ne (by decide +kernel)]; (first | rfl | exact lk_eq | (rw [lk_ne (by decide +kernel)]; (first | rfl | exact lk_eq | (rw [lk_ne (by decide +kernel)]; (first | rfl | exact lk_eq | (rw [lk_ne (by decide +kernel)]; (first | rfl | exact lk_eq))))))))))))))), by (first | rfl | exact lk_eq | (rw [lk_ne (by decide +kernel)]; (first | rfl | exact lk_eq | (rw [lk_ne (by decide +kernel)]; (first | rfl | exact lk_eq | (rw [lk_ne (by decide +kernel)]; (first | rfl | exact lk_eq | (rw [lk_ne (by decide +kernel)]; (first | rfl | exact lk_eq | (rw [lk_ne (by decide +kernel)]; (first | rfl | exact lk_eq | (rw [lk_ne (by decide +kernel)]; (first | rfl | exact lk_eq | (rw [lk_ne (by decide +kernel)]; (first | rfl | exact lk_eq))))))))))))))), by (first | rfl | exact lk_eq | (rw [lk_ne (by decide +kernel)]; (first | rfl | exact lk_eq | (rw [lk_ne (by decide +kernel)]; (first | rfl | exact lk_eq | (rw [lk_ne (by decide +kernel)]; (first | rfl | exact lk_eq | (rw [lk_ne (by decide +kernel)]; (first | rfl | exact lk_eq | (rw [lk_ne (by decide +kernel)]; (first | rfl | exact lk_eq | (rw [lk_ne (by decide +kernel)]; (first | rfl | exact lk_eq | (rw [lk_ne (by decide +kernel)]; (first | rfl | exact lk_eq))))))))))))))), by (first | rfl | exact lk_eq | (rw [lk_ne (by decide +kernel)]; (first | rfl | exact lk_eq | (rw [lk_ne (by decide +kernel)]; (first | rfl | exact lk_eq | (rw [lk_ne (by decide +kernel)]; (first | rfl | exact lk_eq | (rw [lk_ne (by decide +kernel)]; (first | rfl | exact lk_eq | (rw [lk_ne (by decide +kernel)]; (first | rfl | exact lk_eq | (rw [lk_ne (by decide +kernel)]; (first | rfl | exact lk_eq | (rw [lk_ne (by decide +kernel)]; (first | rfl | exact lk_eq))))))))))))))), by (first | rfl | exact lk_eq | (rw [lk_ne (by decide +kernel)]; (first | rfl | exact lk_eq | (rw [lk_ne (by decide +kernel)]; (first | rfl | exact lk_eq | (rw [lk_ne (by decide +kernel)]; (first | rfl | exact lk_eq | (rw [lk_ne (by decide +kernel)]; (first | rfl | exact lk_eq | (rw [lk_ne (by decide +kernel)]; (first | rfl | exact lk_eq | (rw [lk_ne (by decide +kernel)]; (first | rfl | exact lk_eq | (rw [lk_ne (by decide +kernel)]; (first | rfl | exact lk_eq))))))))))))))), by (first | rfl | exact lk_eq | (rw [lk_ne (by decide +kernel)]; (first | rfl | exact lk_eq | (rw [lk_ne (by decide +kernel)]; (first | rfl | exact lk_eq | (rw [lk_ne (by decide +kernel)]; (first | rfl | exact lk_eq | (rw [lk_ne (by decide +kernel)]; (first | rfl | exact lk_eq | (rw [lk_ne (by decide +kernel)]; (first | rfl | exact lk_eq | (rw [lk_ne (by decide +kernel)]; (first | rfl | exact lk_eq | (rw [lk_ne (by decide +kernel)]; (first | rfl | exact lk_eq))))))))))))))), by (first | rfl | exact lk_eq | (rw [lk_ne (by decide +kernel)]; (first | rfl | exact lk_eq | (rw [lk_ne (by decide +kernel)]; (first | rfl | exact lk_eq | (rw [lk_ne (by decide +kernel)]; (first | rfl | exact lk_eq | (rw [lk_ne (by decide +kernel)]; (first | rfl | exact lk_eq | (rw [lk_ne (by decide +kernel)]; (first | rfl | exact lk_eq | (rw [lk_ne (by decide +kernel)]; (first | rfl | exact lk_eq | (rw [lk_ne (by decide +kernel)]; (first | rfl | exact lk_eq))))))))))))))), by (first | rfl | exact lk_eq | (rw [lk_ne (by decide +kernel)]; (first | rfl | exact lk_eq | (rw [lk_ne (by decide +kernel)]; (first | rfl | exact lk_eq | (rw [lk_ne (by decide +kernel)]; (first | rfl | exact lk_eq | (rw [lk_ne (by decide +kernel)]; (first | rfl | exact lk_eq | (rw [lk_ne (by decide +kernel)]; (first | rfl | exact lk_eq | (rw [lk_ne (by decide +kernel)]; (first | rfl | exact lk_eq | (rw [lk_ne (by decide +kernel)]; (first | rfl | exact lk_eq)))))))))))))))⟩
theorem four_day {t : Str} {bs : List Int} {e : Int} {b : Addr} : Four t (.days bs e) (dayF t bs e b) := by unfold dayF four; exact ⟨by (first | rfl | exact lk_eq | (rw [lk_ne (by decide +kernel)]; (first | rfl | exact lk_eq | (rw [lk_ne (by decide +kernel)]; (first | rfl | exact lk_eq | (rw [lk_ne (by decide +kernel)]; (first | rfl | exact lk_eq | (rw [lk_ne (by decide +kernel)]; (first | rfl | exact lk_eq | (rw [lk_ne (by decide +kernel)]; (first | rfl | exact lk_eq | (rw [lk_ne (by decide +kernel)]; (first | rfl | exact lk_eq | (rw [lk_ne (by decide +kernel)]; (first | rfl | exact lk_eq))))))))))))))), by (first | rfl | exact lk_eq | (rw [lk_ne (by decide +kernel)]; (first | rfl | exact lk_eq | (rw [lk_ne (by decide +kernel)]; (first | rfl | exact lk_eq | (rw [lk_ne (by decide +kernel)]; (first | rfl | exact lk_eq | (rw [lk_ne (by decide +kernel)]; (first | rfl | exact lk_eq | (rw [lk_ne (by decide +kernel)]; (first | rfl | exact lk_eq | (rw [lk_ne (by decide +kernel)]; (first | rfl | exact lk_eq | (rw [lk_ne (by decide +kernel)]; (first | rfl | exact lk_eq))))))))))))))), by (first | rfl | exact lk_eq | (rw [lk_ne (by decide +kernel)]; (first | rfl | exact lk_eq | (rw [lk_ne (by decide +kernel)]; (first | rfl | exact lk_eq | (rw [lk_ne (by decide +kernel)]; (first | rfl | exact lk_eq | (rw [lk_ne (by decide +kernel)]; (first | rfl | exact lk_eq | (rw [lk_ne (by decide +kernel)]; (first | rfl | exact lk_eq | (rw [lk_ne (by decide +kernel)]; (first | rfl | exact lk_eq | (rw [lk_ne (by decide +kernel)]; (first | rfl | exact lk_eq))))))))))))))), by (first | rfl | exact lk_eq | (rw [lk_ne (by decide +kernel)]; (first | rfl | exact lk_eq | (rw [lk_ne (by decide +kernel)]; (first | rfl | exact lk_eq | (rw [lk_ne (by decide +kernel)]; (first | rfl | exact lk_eq | (rw [lk_ne (by decide +kernel)]; (first | rfl | exact lk_eq | (rw [lk_ne (by decide +kernel)]; (first | rfl | exact lk_eq | (rw [lk_ne (by decide +kernel)]; (first | rfl | exact lk_eq | (rw [lk_ne (by decide +kernel)]; (first | rfl | exact lk_eq))))))))))))))), by (first | rfl | exact lk_eq | (rw [lk_ne (by decide +kernel)]; (first | rfl | exact lk_eq | (rw [lk_ne (by decide +kernel)]; (first | rfl | exact lk_eq | (rw [lk_ne (by decide +kernel)]; (first | rfl | exact lk_eq | (rw [lk_ne (by decide +kernel)]; (first | rfl | exact lk_eq | (rw [lk_ne (by decide +kernel)]; (first | rfl | exact lk_eq | (rw [lk_ne (by decide +kernel)]; (first | rfl | exact lk_eq | (rw [lk_ne (by decide +kernel)]; (first | rfl | exact lk_eq))))))))))))))), by (first | rfl | exact lk_eq | (rw [lk_ne (by decide +kernel)]; (first | rfl | exact lk_eq | (rw [lk_ne (by decide +kernel)]; (first | rfl | exact lk_eq | (rw [lk_ne (by decide +kernel)]; (first | rfl | exact lk_eq | (rw [lk_ne (by decide +kernel)]; (first | rfl | exact lk_eq | (rw [lk_ne (by decide +kernel)]; (first | rfl | exact lk_eq | (rw [lk_ne (by decide +kernel)]; (first | rfl | exact lk_eq | (rw [lk_ne (by decide +kernel)]; (first | rfl | exact lk_eq))))))))))))))), by (first | rfl | exact lk_eq | (rw [lk_ne (by decide +kernel)]; (first | rfl | exact lk_eq | (rw [lk_ne (by decide +kernel)]; (first | rfl | exact lk_eq | (rw [lk_ne (by decide +kernel)]; (first | rfl | exact lk_eq | (rw [lk_ne (by decide +kernel)]; (first | rfl | exact lk_eq | (rw [lk_ne (by decide +kernel)]; (first | rfl | exact lk_eq | (rw [lk_ne (by decide +kernel)]; (first | rfl | exact lk_eq | (rw [lk_ne (by decide +kernel)]; (first | rfl | exact lk_eq))))))))))))))), by (first | rfl | exact lk_eq | (rw [lk_ne (by decide +kernel)]; (first | rfl | exact lk_eq | (rw [lk_ne (by decide +kernel)]; (first | rfl | exact lk_eq | (rw [lk_ne (by decide +kernel)]; (first | rfl | exact lk_eq | (rw [lk_ne (by decide +kernel)]; (first | rfl | exact lk_eq | (rw [lk_ne (by decide +kernel)]; (first | rfl | exact lk_eq | (rw [lk_ne (by decide +kernel)]; (first | rfl | exact lk_eq | (rw [lk_ne (by decide +kernel)]; (first | rfl | exact lk_eq)))))))))))))))⟩
theorem four_pair {t : Str} {p : Pl} {y z : Addr} : Four t p (pairF t p y z) := by unfold pairF four; exact ⟨by (first | rfl | exact lk_eq | (rw [lk_ne (by decide +kernel)]; (first | rfl | exact lk_eq | (rw [lk_ne (by decide +kernel)]; (first | rfl | exact lk_eq | (rw [lk_ne (by decide +kernel)]; (first | rfl | exact lk_eq | (rw [lk_ne (by decide +kernel)]; (first | rfl | exact lk_eq | (rw [lk_ne (by decide +kernel)]; (first | rfl | exact lk_eq | (rw [lk_ne (by decide +kernel)]; (first | rfl | exact lk_eq | (rw [lk_ne (by decide +kernel)]; (first | rfl | exact lk_eq))))))))))))))), by (first | rfl | exact lk_eq | (rw [lk_ne (by decide +kernel)]; (first | rfl | exact lk_eq | (rw [lk_ne (by decide +kernel)]; (first | rfl | exact lk_eq | (rw [lk_ne (by decide +kernel)]; (first | rfl | exact lk_eq | (rw [lk_ne (by decide +kernel)]; (first | rfl | exact lk_eq | (rw [lk_ne (by decide +kernel)]; (first | rfl | exact lk_eq | (rw [lk_ne (by decide +kernel)]; (first | rfl | exact lk_eq | (rw [lk_ne (by decide +kernel)]; (first | rfl | exact lk_eq))))))))))))))), by (first | rfl | exact lk_eq | (rw [lk_ne (by decide +kernel)]; (first | rfl | exact lk_eq | (rw [lk_ne (by decide +kernel)]; (first | rfl | exact lk_eq | (rw [lk_ne (by decide +kernel)]; (first | rfl | exact lk_eq | (rw [lk_ne (by decide +kernel)]; (first | rfl | exact lk_eq | (rw [lk_ne (by decide +kernel)]; (first | rfl | exact lk_eq | (rw [lk_ne (by decide +kernel)]; (first | rfl | exact lk_eq | (rw [lk_ne (by decide +kernel)]; (first | rfl | exact lk_eq))))))))))))))), by (first | rfl | exact lk_eq | (rw [lk_ne (by decide +kernel)]; (first | rfl | exact lk_eq | (rw [lk_ne (by decide +kernel)]; (first | rfl | exact lk_eq | (rw [lk_ne (by decide +kernel)]; (first | rfl | exact lk_eq | (rw [lk_ne (by decide +kernel)]; (first | rfl | exact lk_eq | (rw [lk_ne (by decide +kernel)]; (first | rfl | exact lk_eq | (rw [lk_ne (by decide +kernel)]; (first | rfl | exact lk_eq | (rw [lk_ne (by decide +kernel)]; (first | rfl | exact lk_eq))))))))))))))), by (first | rfl | exact lk_eq | (rw [lk_ne (by decide +kernel)]; (first | rfl | exact lk_eq | (rw [lk_ne (by decide +kernel)]; (first | rfl | exact lk_eq | (rw [lk_ne (by decide +kernel)]; (first | rfl | exact lk_eq | (rw [lk_ne (by decide +kernel)]; (first | rfl | exact lk_eq | (rw [lk_ne (by decide +kernel)]; (first | rfl | exact lk_eq | (rw [lk_ne (by decide +kernel)]; (first | rfl | exact lk_eq | (rw [lk_ne (by decide +kernel)]; (first | rfl | exact lk_eq))))))))))))))), by (first | rfl | exact lk_eq | (rw [lk_ne (by decide +kernel)]; (first | rfl | exact lk_eq | (rw [lk_ne (by decide +kernel)]; (first | rfl | exact lk_eq | (rw [lk_ne (by decide +kernel)]; (first | rfl | exact lk_eq | (rw [lk_ne (by decide +kernel)]; (first | rfl | exact lk_eq | (rw [lk_ne (by decide +kernel)]; (first | rfl | exact lk_eq | (rw [lk_ne (by decide +kernel)]; (first | rfl | exact lk_eq | (rw [lk_ne (by decide +kernel)]; (first | rfl | exact lk_eq))))))))))))))), by (first | rfl | exact lk_eq | (rw [lk_ne (by decide +kernel)]; (first | rfl | exact lk_eq | (rw [lk_ne (by decide +kernel)]; (first | rfl | exact lk_eq | (rw [lk_ne (by decide +kernel)]; (first | rfl | exact lk_eq | (rw [lk_ne (by decide +kernel)]; (first | rfl | exact lk_eq | (rw [lk_ne (by decide +kernel)]; (first | rfl | exact lk_eq | (rw [lk_ne (by decide +kernel)]; (first | rfl | exact lk_eq | (rw [lk_ne (by decide +kernel)]; (first | rfl | exact lk_eq))))))))))))))), by (first | rfl | exact lk_eq | (rw [lk_ne (by decide +kernel)]; (first | rfl | exact lk_eq | (rw [lk_ne (by decide +kernel)]; (first | rfl | exact lk_eq | (rw [lk_ne (by decide +kernel)]; (first | rfl | exact lk_eq | (rw [lk_ne (by decide +kernel)]; (first | rfl | exact lk_eq | (rw [lk_ne (by decide +kernel)]; (first | rfl | exact lk_eq | (rw [lk_ne (by decide +kernel)]; (first | rfl | exact lk_eq | (rw [lk_ne (by decide +kernel)]; (first | rfl | exact lk_eq)))))))))))))))⟩
theorem lk_width {t : Str} {w : Int} : (winF t w).lookup ("width" : Str) = some (.int w) := lk_eq
theorem lk_borders {t : Str} {bs : List Int} {e : Int} {b : Addr} : (dayF t bs e b).lookup ("_borders" : Str) = some (.ref b) := by unfold dayF four; (first | rfl | exact lk_eq | (rw [lk_ne (by decide +kernel)]; (first | rfl | exact lk_eq | (rw [lk_ne (by decide +kernel)]; (first | rfl | exact lk_eq | (rw [lk_ne (by decide +kernel)]; (first | rfl | exact lk_eq | (rw [lk_ne (by decide +kernel)]; (first | rfl | exact lk_eq | (rw [lk_ne (by decide +kernel)]; (first | rfl | exact lk_eq | (rw [lk_ne (by decide +kernel)]; (first | rfl | exact lk_eq | (rw [lk_ne (by decide +kernel)]; (first | rfl | exact lk_eq)))))))))))))))
theorem lk_every {t : Str} {bs : List Int} {e : Int} {b : Addr} : (dayF t bs e b).lookup ("every" : Str) = some (.int e) := by unfold dayF four; (first | rfl | exact lk_eq | (rw [lk_ne (by decide +kernel)]; (first | rfl | exact lk_eq | (rw [lk_ne (by decide +kernel)]; (first | rfl | exact lk_eq | (rw [lk_ne (by decide +kernel)]; (first | rfl | exact lk_eq | (rw [lk_ne (by decide +kernel)]; (first | rfl | exact lk_eq | (rw [lk_ne (by decide +kernel)]; (first | rfl | exact lk_eq | (rw [lk_ne (by decide +kernel)]; (first | rfl | exact lk_eq | (rw [lk_ne (by decide +kernel)]; (first | rfl | exact lk_eq)))))))))))))))
theorem lk_first {t : Str} {p : Pl} {y z : Addr} : (pairF t p y z).lookup ("first" : Str) = some (.ref y) := by unfold pairF; (first | rfl | exact lk_eq | (rw [lk_ne (by decide +kernel)]; (first | rfl | exact lk_eq | (rw [lk_ne (by decide +kernel)]; (first | rfl | exact lk_eq | (rw [lk_ne (by decide +kernel)]; (first | rfl | exact lk_eq | (rw [lk_ne (by decide +kernel)]; (first | rfl | exact lk_eq | (rw [lk_ne (by decide +kernel)]; (first | rfl | exact lk_eq | (rw [lk_ne (by decide +kernel)]; (first | rfl | exact lk_eq | (rw [lk_ne (by decide +kernel)]; (first | rfl | exact lk_eq)))))))))))))))
theorem lk_second {t : Str} {p : Pl} {y z : Addr} : (pairF t p y z).lookup ("second" : Str) = some (.ref z) := lk_eq
theorem RestAt.view {K : PySem.W.Frag} {mg : Str → Option Value} {a : Ad} {g : Addr → Prop} {H : Hp} (KN : Kn K mg a) : ∀ {p : Pl} {x : Addr}, RestAt a g H p x → ∃ C dx fs t, H x = some (.ins C dx fs) ∧ RC K a C ∧ Four t p fs ∧ t.length ≤ tb p.h
  | .win w, x, ⟨n, dx, t, h, l⟩ => ⟨_, _, _, t, h, KN.w, four_win, l⟩
  | .days bs e, x, ⟨n, dx, t, b, h, l, nb, hb⟩ => ⟨_, _, _, t, h, KN.d, four_day, l⟩
  | .lat p q, x, ⟨n, dx, t, y, z, h, l, h2, h3⟩ => ⟨_, _, _, t, h, KN.l, four_pair, l⟩
  | .soo p q, x, ⟨n, dx, t, y, z, h, l, h2, h3⟩ => ⟨_, _, _, t, h, KN.s, four_pair, l⟩
  | .nex p q, x, ⟨n, dx, t, y, z, h, l, h2, h3⟩ => ⟨_, _, _, t, h, KN.n, four_pair, l⟩

theorem join_le (a : Str) {B : Nat} : ∀ {ys : List Str}, (∀ y ∈ ys, y.length ≤ B) → (Str.join a ys).length ≤ ys.length * (B + a.length)
  | [], _ => Nat.zero_le _
  | [y], h => by
    have := h y (by simp)
    show y.length ≤ 1 * (B + a.length)
    omega
  | y :: z :: r, h => by
    have ih := join_le a (ys := z :: r) fun t ht => h t (List.mem_cons_of_mem _ ht)
    have := h y (by simp)
    show (y ++ a ++ Str.join a (z :: r)).length ≤ _
    rw [Str.length_append, Str.length_append]
    have e : (y :: z :: r).length * (B + a.length) = (z :: r).length * (B + a.length) + (B + a.length) := by
      show ((z :: r).length + 1) * (B + a.length) = _
      rw [Nat.add_mul, Nat.one_mul]
    omega
theorem sum_le {B : Nat} : ∀ {ys : List Str}, (∀ y ∈ ys, y.length ≤ B) → (ys.map (·.length)).sum ≤ ys.length * B
  | [], _ => Nat.zero_le _
  | y :: r, h => by
    have ih := sum_le (ys := r) fun t ht => h t (List.mem_cons_of_mem _ ht)
    have := h y (by simp)
    show y.length + (r.map (·.length)).sum ≤ (r.length + 1) * B
    rw [Nat.add_mul, Nat.one_mul]
    omega
theorem int_len {i : Int} (h0 : -1000000 ≤ i) (h1 : i ≤ 1000000) : (PySem.Str.ofString (toString i)).length ≤ 1921 := PyProof.Rows.int_text_len_1921 (log_small h0 h1)

theorem same_mk {Hb H H1 : Hp} {x q : Addr} {o : HO} (hb : Hb x = none) (sb : Same Hb H) (hq : H q = none) (h2 : ∀ y, y ≠ x → H1 y = upd H q o y) : Same Hb H1 := fun c u e => by
  have nx : c ≠ x := ne_of_none e hb
  rw [h2 c nx, upd_ne (ne_of_none (sb c u e) hq)]
  exact sb c u e
theorem same_upd {Hb H : Hp} {x : Addr} {o : HO} (hb : Hb x = none) (s : Same Hb H) : Same Hb (upd H x o) := fun c u e => by
  rw [upd_ne (ne_of_none e hb)]
  exact s c u e
theorem four_len (t : Str) (p : Pl) (fs : List (Str × V)) : (four t p fs).length ≤ fs.length + 4 := by
  unfold four
  have l1 := length_putF "_text" (.str t) fs
  have l2 := length_putF "_forms" (.int p.forms) (putF "_text" (.str t) fs)
  have l3 := length_putF "_period" (.int p.per) (putF "_forms" (.int p.forms) (putF "_text" (.str t) fs))
  have l4 := length_putF "_bend" (.int p.bend) (putF "_period" (.int p.per) (putF "_forms" (.int p.forms) (putF "_text" (.str t) fs)))
  omega

/-! ### beside the bag and the box -/
def Kx (g bx : Addr) (H H' : Hp) : Prop := ∀ b o, b ≠ g → b ≠ bx → H b = some o → H' b = some o
theorem Kx.refl (g bx : Addr) (H : Hp) : Kx g bx H H := fun _ _ _ _ h => h
theorem Kx.trans {g bx : Addr} {H H1 H2 : Hp} (a : Kx g bx H H1) (b : Kx g bx H1 H2) : Kx g bx H H2 := fun c o n m h => b c o n m (a c o n m h)
theorem Kx.ok {g l bx : Addr} {H H1 H2 : Hp} (a : Kx g bx H H1) (r : Ok g l H1 H2) : Kx g bx H H2 := fun c o n m h => r.kp c o n (a c o n m h)
theorem Kx.same {g bx : Addr} {H H1 H2 : Hp} (a : Kx g bx H H1) (r : Same H1 H2) : Kx g bx H H2 := fun c o n m h => r c o (a c o n m h)
theorem Kx.new {g bx p : Addr} {H H1 : Hp} {o : HO} (a : Kx g bx H H1) (h : H1 p = none) : Kx g bx H (upd H1 p o) := fun c u n m e => by
  have q := a c u n m e
  rw [upd_ne (ne_of_none q h)]
  exact q
theorem Kx.box {g bx : Addr} {H H1 : Hp} {o : HO} (a : Kx g bx H H1) : Kx g bx H (upd H1 bx o) := fun c u n m e => by
  rw [upd_ne m]
  exact a c u n m e
theorem Kx.mut {g bx p : Addr} {H H1 : Hp} {o : HO} (a : Kx g bx H H1) (h : H p = none) : Kx g bx H (upd H1 p o) := fun c u n m e => by
  rw [upd_ne (ne_of_none e h)]
  exact a c u n m e
theorem Kx.free {g bx p : Addr} {H H1 : Hp} (a : Kx g bx H H1) (n : p ≠ g) (m : p ≠ bx) (h : H1 p = none) : H p = none := by
  cases q : H p with
  | none => rfl
  | some o =>
    rw [a p o n m q] at h
    cases h
theorem Kx.kt {g l bx : Addr} {H H' : Hp} {ys : List V} (a : Kx g bx H H') (B : Bag l H g) (hb : H bx = some (.lst ys)) : Kt H H' := fun b xs e => by
  obtain ⟨⟨zs, q⟩, _⟩ := B.there
  refine a b _ (fun z => ?_) (fun z => ?_) e
  · rw [z, q] at e
    cases e
  · rw [z, hb] at e
    cases e

/-- a list of plans -/
inductive Plans (H : Hp) (L : Nat) : List Pl → List Addr → Prop where
  | nil : Plans H L [] []
  | cons {p : Pl} {x : Addr} {ps : List Pl} {xs : List Addr} (o : p.ok L) (h : PlanAt H p x) (r : Plans H L ps xs) : Plans H L (p :: ps) (x :: xs)
def leavesOf : List Pl → Nat
  | [] => 0
  | p :: r => p.leaves + leavesOf r
theorem Plans.kt {H H' : Hp} {L : Nat} {ps : List Pl} {xs : List Addr} (k : Kt H H') (h : Plans H L ps xs) : Plans H' L ps xs := by
  induction h with
  | nil => exact .nil
  | cons o h r ih => exact .cons o (h.kt k) ih
theorem Plans.mono {H : Hp} {L M : Nat} (d : L ∣ M) {ps : List Pl} {xs : List Addr} (h : Plans H L ps xs) : Plans H M ps xs := by
  induction h with
  | nil => exact .nil
  | cons o h r ih => exact .cons (Pl.ok_mono d _ o) h ih
theorem Plans.snoc {H : Hp} {L : Nat} {p : Pl} {x : Addr} (o : p.ok L) (hp : PlanAt H p x) {ps : List Pl} {xs : List Addr} (h : Plans H L ps xs) : Plans H L (ps ++ [p]) (xs ++ [x]) := by
  induction h with
  | nil => exact .cons o hp .nil
  | cons o h r ih => exact .cons o h ih
theorem leaves_snoc (p : Pl) : ∀ ps : List Pl, leavesOf (ps ++ [p]) = leavesOf ps + p.leaves
  | [] => by show p.leaves + 0 = 0 + p.leaves; omega
  | q :: r => by
    have := leaves_snoc p r
    show q.leaves + leavesOf (r ++ [p]) = q.leaves + leavesOf r + p.leaves
    omega
theorem Plans.join {H : Hp} {L : Nat} {ps : List Pl} {xs : List Addr} (h : Plans H L ps xs) : ∀ {j : Nat}, j + 1 < xs.length → ∃ (x y : Addr) (p q : Pl), xs[j]? = some x ∧ xs[j + 1]? = some y ∧ p.ok L ∧ q.ok L ∧ PlanAt H p x ∧ PlanAt H q y ∧
    ∀ (H' : Hp) (r : Pl) (T : Addr), Kt H H' → r.ok L → PlanAt H' r T → r.leaves = p.leaves + q.leaves → ∃ ps', Plans H' L ps' ((xs.eraseIdx (j + 1)).set j T) ∧ leavesOf ps' = leavesOf ps := by
  induction h with
  | nil => intro j hj; cases hj
  | @cons p x ps xs o hp r ih =>
    intro j hj
    match j with
    | 0 =>
      cases r with
      | nil => exact absurd hj (by show ¬ 0 + 1 < 1; omega)
      | @cons q y ps2 xs2 o2 hq r2 =>
        refine ⟨x, y, p, q, rfl, rfl, o, o2, hp, hq, fun H' w T k ow hw hl => ⟨w :: ps2, .cons ow hw (r2.kt k), ?_⟩⟩
        show w.leaves + leavesOf ps2 = p.leaves + (q.leaves + leavesOf ps2)
        omega
    | j + 1 =>
      obtain ⟨x1, y1, p1, q1, h1, h2, h3, h4, h5, h6, h7⟩ := ih (j := j) (by simp only [List.length_cons] at hj; omega)
      refine ⟨x1, y1, p1, q1, h1, h2, h3, h4, h5, h6, fun H' w T k ow hw hl => ?_⟩
      obtain ⟨ps', g1, g2⟩ := h7 H' w T k ow hw hl
      refine ⟨p :: ps', .cons o (hp.kt k) g1, ?_⟩
      show p.leaves + leavesOf ps' = p.leaves + leavesOf ps
      omega
theorem map_erase {α β : Type} (f : α → β) : ∀ (l : List α) (i : Nat), (l.map f).eraseIdx i = (l.eraseIdx i).map f
  | [], _ => rfl
  | _ :: _, 0 => rfl
  | a :: r, i + 1 => by
    show f a :: (r.map f).eraseIdx i = f a :: (r.eraseIdx i).map f
    rw [map_erase f r i]
theorem ixN_nat {j n : Nat} (h : j < n) : ixN n (j : Int) = some j := by
  unfold ixN
  rw [if_pos (by omega), if_pos (by omega)]
  simp
theorem last_ix {bs : List Int} (h : bs ≠ []) : atI (bs.map V.int) (-1) = some (V.int (lastOf bs)) := by
  obtain ⟨cs, c, rfl⟩ : ∃ cs c, bs = cs ++ [c] := ⟨bs.dropLast, bs.getLast h, (List.dropLast_concat_getLast h).symm⟩
  rw [List.map_append]
  have e : lastOf (cs ++ [c]) = c := by
    unfold lastOf
    rw [List.getLastD_concat]
  rw [e]
  exact atI_last _ _

theorem Kx.kp {g bx : Addr} {H H' : Hp} {o : HO} (hb : H bx = none) (k : Kx g bx (upd H bx o) H') : Kp g H H' := fun b u n e => by
  have nb : b ≠ bx := ne_of_none e hb
  exact k b u n nb (by rw [upd_ne nb]; exact e)

/-- a plan and its rest -/
def PR (a : Ad) (g : Addr) (H : Hp) (x y : Addr) : Prop := ∃ (p : Pl) (L : Nat), PlanAt H p x ∧ RestAt a (· = g) H p y ∧ p.ok L ∧ 0 < L ∧ L ≤ 2000 ∧ p.leaves ≤ 3
theorem PR.ok {a : Ad} {g l : Addr} {H H' : Hp} {x y : Addr} (r : Ok g l H H') (h : PR a g H x y) : PR a g H' x y := by
  obtain ⟨p, L, h1, h2, h3⟩ := h
  exact ⟨p, L, h1.kt (Kt.ok r), h2.kp (KpF.kp (F := (· = g)) rfl r.kp), h3⟩
theorem PR.same {a : Ad} {g : Addr} {H H' : Hp} {x y : Addr} (s : Same H H') (h : PR a g H x y) : PR a g H' x y := by
  obtain ⟨p, L, h1, h2, h3⟩ := h
  exact ⟨p, L, h1.kt (Kt.same s), h2.same s, h3⟩
/-! ### steps of a rest -/
structure Ks (K : PySem.W.Frag) (a : Ad) (fS : Addr) : Prop where
  w : Meth K a.W "steps" fS
  d : Meth K a.D "steps" fS
  l : Meth K a.L "steps" fS
  s : Meth K a.S "steps" fS
  n : Meth K a.N "steps" fS
  k : PySem.W.keepIn K (.ref fS) = true
theorem no_steps {t : Str} {p : Pl} {fs : List (Str × V)} (h : fs.lookup ("steps" : Str) = none) : (four t p fs).lookup ("steps" : Str) = none := by
  unfold four
  rw [lk_ne (by decide +kernel), lk_ne (by decide +kernel), lk_ne (by decide +kernel), lk_ne (by decide +kernel)]
  exact h
theorem RestAt.steps {K : PySem.W.Frag} {mg : Str → Option Value} {a : Ad} {fS : Addr} {g : Addr → Prop} {H : Hp} (KN : Kn K mg a) (KS : Ks K a fS) : ∀ {p : Pl} {x : Addr}, RestAt a g H p x → ∃ C dx fs, H x = some (.ins C dx fs) ∧ Cls K C ∧ Meth K C "steps" fS ∧ fs.lookup ("steps" : Str) = none
  | .win w, x, ⟨n, dx, t, h, l⟩ => ⟨_, _, _, h, KN.w.cl, KS.w, by unfold winF; rw [lk_ne (by decide +kernel)]; exact no_steps rfl⟩
  | .days bs e, x, ⟨n, dx, t, b, h, l, nb, hb⟩ => ⟨_, _, _, h, KN.d.cl, KS.d, by unfold dayF; exact no_steps (by rw [lk_ne (by decide +kernel), lk_ne (by decide +kernel)]; rfl)⟩
  | .lat p q, x, ⟨n, dx, t, y, z, h, l, h2, h3⟩ => ⟨_, _, _, h, KN.l.cl, KS.l, by unfold pairF; rw [lk_ne (by decide +kernel), lk_ne (by decide +kernel)]; exact no_steps rfl⟩
  | .soo p q, x, ⟨n, dx, t, y, z, h, l, h2, h3⟩ => ⟨_, _, _, h, KN.s.cl, KS.s, by unfold pairF; rw [lk_ne (by decide +kernel), lk_ne (by decide +kernel)]; exact no_steps rfl⟩
  | .nex p q, x, ⟨n, dx, t, y, z, h, l, h2, h3⟩ => ⟨_, _, _, h, KN.n.cl, KS.n, by unfold pairF; rw [lk_ne (by decide +kernel), lk_ne (by decide +kernel)]; exact no_steps rfl⟩
structure Kl (K : PySem.W.Frag) (a : Ad) (fS : Addr) : Prop where
  w : Meth K a.W "latest" fS
  d : Meth K a.D "latest" fS
  l : Meth K a.L "latest" fS
  s : Meth K a.S "latest" fS
  n : Meth K a.N "latest" fS
  k : PySem.W.keepIn K (.ref fS) = true
theorem no_latest {t : Str} {p : Pl} {fs : List (Str × V)} (h : fs.lookup ("latest" : Str) = none) : (four t p fs).lookup ("latest" : Str) = none := by
  unfold four
  rw [lk_ne (by decide +kernel), lk_ne (by decide +kernel), lk_ne (by decide +kernel), lk_ne (by decide +kernel)]
  exact h
theorem RestAt.latest {K : PySem.W.Frag} {mg : Str → Option Value} {a : Ad} {fS : Addr} {g : Addr → Prop} {H : Hp} (KN : Kn K mg a) (KL : Kl K a fS) : ∀ {p : Pl} {x : Addr}, RestAt a g H p x → ∃ C dx fs, H x = some (.ins C dx fs) ∧ Cls K C ∧ Meth K C "latest" fS ∧ fs.lookup ("latest" : Str) = none
  | .win w, x, ⟨n, dx, t, h, l⟩ => ⟨_, _, _, h, KN.w.cl, KL.w, by unfold winF; rw [lk_ne (by decide +kernel)]; exact no_latest rfl⟩
  | .days bs e, x, ⟨n, dx, t, b, h, l, nb, hb⟩ => ⟨_, _, _, h, KN.d.cl, KL.d, by unfold dayF; exact no_latest (by rw [lk_ne (by decide +kernel), lk_ne (by decide +kernel)]; rfl)⟩
  | .lat p q, x, ⟨n, dx, t, y, z, h, l, h2, h3⟩ => ⟨_, _, _, h, KN.l.cl, KL.l, by unfold pairF; rw [lk_ne (by decide +kernel), lk_ne (by decide +kernel)]; exact no_latest rfl⟩
  | .soo p q, x, ⟨n, dx, t, y, z, h, l, h2, h3⟩ => ⟨_, _, _, h, KN.s.cl, KL.s, by unfold pairF; rw [lk_ne (by decide +kernel), lk_ne (by decide +kernel)]; exact no_latest rfl⟩
  | .nex p q, x, ⟨n, dx, t, y, z, h, l, h2, h3⟩ => ⟨_, _, _, h, KN.n.cl, KL.n, by unfold pairF; rw [lk_ne (by decide +kernel), lk_ne (by decide +kernel)]; exact no_latest rfl⟩
def kgS {α : Type} (us ws : List α) : List α := match us, ws with | [s], [e, t] => [s, t, e] | _, _ => []
def kgL {α : Type} (us ws : List α) : List α := match us, ws with | [s], [f] => [s, f] | _, _ => []
theorem Lk.ints {H : Hp} {A B : Addr} {ns : List Int} (hA : H A = some (.lst (ns.map V.int))) (hB : H B = some (.lst (ns.map V.int))) (hl : ns.length ≤ 1000000) (n : Nat) : Lk H (n + 1) (.ref A) (.ref B) := by
  refine .inr ⟨true, A, B, _, _, rfl, rfl, hA, hB, rfl, by rw [List.length_map]; exact hl, fun i u v e1 e2 => ?_⟩
  rw [e1] at e2
  cases e2
  rw [List.getElem?_map] at e1
  cases q : ns[i]? with
  | none => rw [q] at e1; cases e1
  | some z =>
    rw [q] at e1
    cases e1
    exact Lk.sc (show Sc (V.int z) from True.intro) n
/-- what latest gives -/
def Lt (p : Pl) (b : Int) (v : V) : Prop := (b < p.at 0 ∧ v = .non) ∨ ∃ h : Int, v = .int h ∧ 0 ≤ h ∧ p.at h ≤ b ∧ b < p.at (h + 1)
/-- the way does not matter, what is due comes -/
theorem pick_due {D : V → Prop} {c : Bool} {ta tb : TE} {σ : L2.St} {H : Hp} {Q : VK} (h : ∀ v, D v → Q v H) (h1 : ∀ QQ : VK, (∀ v, D v → QQ v H) → ta σ H QQ) (h2 : ∀ QQ : VK, (∀ v, D v → QQ v H) → tb σ H QQ) : if c = true then ta σ H Q else tb σ H Q := by
  cases c with
  | true => rw [if_pos rfl]; exact h1 Q h
  | false => rw [if_neg (by decide)]; exact h2 Q h
def Asks (H : Hp) (ts : List Addr) : Prop := ∀ t ∈ ts, ∃ (j b : Int), H t = some (.tup [.int j, .int b]) ∧ 0 ≤ j ∧ j < 2
theorem Asks.kt {H H' : Hp} {ts : List Addr} (k : Kt H H') (h : Asks H ts) : Asks H' ts := fun t ht => by
  obtain ⟨j, b, e, r⟩ := h t ht
  exact ⟨j, b, k _ _ e, r⟩

end k03
namespace k03
open PySem L2 LC RM
def spcheck_count : Sp := fun vs H Q _ => ∃ (z : Str) (c m : Int), vs = [.str z, .int c, .int m] ∧ c ≤ m ∧ Q .non H
theorem ok_check_count {P : Program} {w : World} {K : PySem.W.Frag} {mg : Str → Option Value} {base : Heap} {f : Addr} {fd : FuncData} (D : Def K mg "check_count" scheck_count Pcheck_count f fd) (T : Txt K mg) :
    FnOk P w K mg base CX0 1 f fd Pcheck_count (spcheck_count) := by
  refine D.F.ok sccheck_count (fun vs H Q E h => ?_) (fun cdv A outer s H vs Q E hr h => ?_)
  · obtain ⟨z, c, m, rfl, hc, k⟩ := h
    rfl
  · obtain ⟨z, c, m, rfl, hc, k⟩ := h
    refine ⟨_, (pss_one (ps_if (pt_cmpR op_gt (pv 1) (pv 2) (nomark _)) (pss_one LC.ps_never) pss_nil)), ?_⟩
    exact ⟨_, rfl, _, rfl, _, _, rfl, rfl, _, rfl, ite_d (fun h => absurd h (by omega)) (fun _ => k)⟩
end k03
namespace k03
open PySem L2 LC RM
def spis_whole : Sp := fun vs H Q _ => ∃ v : Int, vs = [.int v] ∧ Q (.bl true) H
theorem ok_is_whole {P : Program} {w : World} {K : PySem.W.Frag} {mg : Str → Option Value} {base : Heap} {f : Addr} {fd : FuncData} (D : Def K mg "is_whole" sis_whole Pis_whole f fd) (T : Txt K mg) :
    FnOk P w K mg base CX0 1 f fd Pis_whole (spis_whole) := by
  refine D.F.ok scis_whole (fun vs H Q E h => ?_) (fun cdv A outer s H vs Q E hr h => ?_)
  · obtain ⟨v, rfl, k⟩ := h
    rfl
  · obtain ⟨v, rfl, k⟩ := h
    refine ⟨_, (pss_one (ps_ret (pe_and (pe_callB call_isi (by rfl) T.n_isinstance (by decide +kernel) (pa_cons (pv 0) (pa_cons (pe_ty "int" (by rfl) T.n_int (by decide +kernel)) pa_nil))) (pe_one (pe_not (pe_callB call_isi (by rfl) T.n_isinstance (by decide +kernel) (pa_cons (pv 0) (pa_cons (pe_ty "bool" (by rfl) T.n_bool (by decide +kernel)) pa_nil)))))))), ?_⟩
    refine ⟨_, rfl, _, _, _, _, _, rfl, .ty _, .base (.int v), kit_ty (show kitB "int" "int" = some true by decide +kernel), _, rfl, ?_⟩
    exact iteT ⟨_, rfl, _, _, _, _, _, rfl, .ty _, .base (.int v), kit_ty (show kitB "int" "bool" = some false by decide +kernel), _, rfl, k⟩
end k03
namespace k03
open PySem L2 LC RM
def spis_number : Sp := fun vs H Q _ => ∃ (v lo hi : Int), vs = [.int v, .int lo, .int hi] ∧ lo ≤ v ∧ v ≤ hi ∧ Q (.bl true) H
theorem ok_is_number {P : Program} {w : World} {K : PySem.W.Frag} {mg : Str → Option Value} {base : Heap} {f : Addr} {fd : FuncData} (D : Def K mg "is_number" sis_number Pis_number f fd) (T : Txt K mg) {fis_whole : Addr} {fdis_whole : FuncData} (Dis_whole : Def K mg "is_whole" sis_whole Pis_whole fis_whole fdis_whole) (Gis_whole : FnOk P w K mg base CX0 1 fis_whole fdis_whole Pis_whole (spis_whole)) :
    FnOk P w K mg base CX0 2 f fd Pis_number (spis_number) := by
  refine D.F.ok scis_number (fun vs H Q E h => ?_) (fun cdv A outer s H vs Q E hr h => ?_)
  · obtain ⟨v, lo, hi, rfl, h1, h2, k⟩ := h
    rfl
  · obtain ⟨v, lo, hi, rfl, h1, h2, k⟩ := h
    have hris_whole : Room 1 _ := hr.mono (by decide)
    refine ⟨_, (pss_one (ps_ret (pe_and (pe_call Gis_whole hris_whole rfl Dis_whole.g Dis_whole.F.kp Dis_whole.b .nil pass0 (pa_cons (pv 0) pa_nil)) (pe_one (pe_chain op_le op_le (pv 1) (pv 0) (pv 2)))))), ?_⟩
    refine ⟨_, rfl, v, rfl, _, rfl, iteT ?_⟩
    refine ⟨_, rfl, _, rfl, _, _, rfl, rfl, _, rfl, ite_d (fun _ => ?_) (fun h => absurd h1 h)⟩
    refine ⟨_, rfl, _, _, rfl, rfl, ?_⟩
    show Q (.bl (decide (v ≤ hi))) H
    rw [decide_eq_true h2]
    exact k
end k03
namespace k03
open PySem L2 LC RM
def spcheck_borders : Sp := fun vs H Q _ => ∃ (p : Addr) (bs : List Int), vs = [.ref p] ∧ H p = some (.lst (bs.map V.int)) ∧ bs.length ≤ 12 ∧ Asc 1 bs ∧ ∀ H', Same H H' → Q .non H'
theorem ok_check_borders {P : Program} {w : World} {K : PySem.W.Frag} {mg : Str → Option Value} {base : Heap} {f : Addr} {fd : FuncData} (D : Def K mg "check_borders" scheck_borders Pcheck_borders f fd) (T : Txt K mg) {fcheck_count : Addr} {fdcheck_count : FuncData} (Dcheck_count : Def K mg "check_count" scheck_count Pcheck_count fcheck_count fdcheck_count) (Gcheck_count : FnOk P w K mg base CX0 1 fcheck_count fdcheck_count Pcheck_count (spcheck_count)) {fis_number : Addr} {fdis_number : FuncData} (Dis_number : Def K mg "is_number" sis_number Pis_number fis_number fdis_number) (Gis_number : FnOk P w K mg base CX0 2 fis_number fdis_number Pis_number (spis_number)) :
    FnOk P w K mg base CX0 3 f fd Pcheck_borders (spcheck_borders) := by
  refine D.F.ok sccheck_borders (fun vs H Q E h => ?_) (fun cdv A outer s H vs Q E hr h => ?_)
  · obtain ⟨p, bs, rfl, hp, hl, ha, k⟩ := h
    rfl
  · obtain ⟨p, bs, rfl, hp, hl, ha, k⟩ := h
    have hrcheck_count : Room 1 _ := hr.mono (by decide)
    have hris_number : Room 2 _ := hr.mono (by decide)
    obtain ⟨tc_MOST_BORDERS, hc_MOST_BORDERS⟩ := T.c_MOST_BORDERS
    obtain ⟨tc_MOST_SIZE, hc_MOST_SIZE⟩ := T.c_MOST_SIZE
    refine ⟨_, (pss_cons (ps_if (pt_not (pt_val (pe_callB call_isiT (by rfl) T.n_isinstance (by decide +kernel) (pa_cons (pv 0) (pa_cons (pe_tup (pa_cons (pe_ty "list" (by rfl) T.n_list (by decide +kernel)) (pa_cons (pe_ty "tuple" (by rfl) T.n_tuple (by decide +kernel)) pa_nil))) pa_nil))))) (pss_one LC.ps_never) pss_nil)
        (pss_cons (ps_expr (pe_call Gcheck_count hrcheck_count rfl Dcheck_count.g Dcheck_count.F.kp Dcheck_count.b .nil pass0 (pa_cons pe_str (pa_cons (pe_callB call_len_seq (by rfl) T.n_len PySem.boot_len (pa_cons (pv 0) pa_nil)) (pa_cons (pe_gint rfl hc_MOST_BORDERS) pa_nil)))))
        (pss_cons (ps_set (i := 1) sccheck_borders.nd rfl (Or.inl rfl) pe_int)
        (pss_one (ps_for PassesOwn.never rfl (pi_enum (by rfl) T.n_enumerate (pa_cons (pv 0) pa_nil)) ((pg_tup rfl (pgs_cons (pg_name (i := 2) sccheck_borders.nd rfl (Or.inl rfl)) (pgs_cons (pg_name (i := 3) sccheck_borders.nd rfl (Or.inl rfl)) pgs_nil))))
          (pss_cons (ps_if (pt_not (pt_val (pe_call Gis_number hris_number rfl Dis_number.g Dis_number.F.kp Dis_number.b .nil pass0 (pa_cons (pv 3) (pa_cons (pv 1) (pa_cons (pe_gint rfl hc_MOST_SIZE) pa_nil)))))) (pss_one LC.ps_never) pss_nil)
        (pss_one (ps_set (i := 1) sccheck_borders.nd rfl (Or.inl rfl) (pe_op op_add (pv 3) pe_int))))))))), ?_⟩
    refine ⟨_, rfl, (by show 2 ≤ sizeLine; decide), fun tp htp => ?_⟩
    have s1 : Same H (upd H tp (.tup [.ty "list", .ty "tuple"])) := same_new htp
    refine ⟨_, tp, _, _, _, true, rfl, upd_same, .cons (.ty _) (.cons (.ty _) .nil), .base (.lst (s1 _ _ hp)), kLT_lst, _, rfl, iteF ?_⟩
    generalize upd H tp (.tup [.ty "list", .ty "tuple"]) = H1 at s1 ⊢
    have hp1 := s1 _ _ hp
    refine ⟨_, rfl, _, _, rfl, .inl (SqL.of hp1), _, _, _, rfl, by rw [List.length_map]; show ((bs.length : Nat) : Int) ≤ 12; omega, ?_⟩
    refine ⟨_, rfl, _, _, rfl, SqL.of hp1, for_it (walk_enum (K := K) (a := p) (xs := bs.map V.int)) (fun i σ H' => ∃ (n : Int) (v1 v2 : Option V), σ = [some (.ref p), some (.int n), v1, v2] ∧ Same H1 H' ∧ 1 ≤ n ∧ Asc n (bs.drop i))
      ⟨1, none, none, rfl, Same.refl _, by decide, ha⟩ (fun i σ H' _ ⟨_, _, _, _, s, _⟩ => s.seq (SqL.of hp1)) ?_ ?_⟩
    · rintro i x σ H2 H3 hi ⟨n, v1, v2, rfl, s2, n1, hA⟩ ⟨T, x1, x2, rfl, hT, rfl, e1, e2⟩
      rw [List.length_map] at hi
      cases e1
      have e2' : (bs.map V.int)[i]? = some x2 := e2
      rw [List.getElem?_map, List.getElem?_eq_getElem hi] at e2'
      cases e2'
      rw [List.drop_eq_getElem_cons hi] at hA
      obtain ⟨a1, a2, a3⟩ := hA
      refine ⟨T, _, rfl, SqT.of upd_same, rfl, _, _, rfl, _, _, rfl, rfl, ?_⟩
      refine ⟨_, rfl, _, rfl, _, _, _, rfl, a1, a2, _, rfl, iteF ?_⟩
      exact ⟨_, rfl, _, _, rfl, rfl, _, _, _, rfl, s2.trans (same_new hT), by omega, a3⟩
    · rintro σ H2 ⟨n, v1, v2, rfl, s2, _, _⟩
      exact k _ (s1.trans s2)
end k03
namespace k03
open PySem L2 LC RM
def spRest_init (K : PySem.W.Frag) (a : Ad) : Sp := fun vs H Q _ => ∃ (x C dx : Addr) (fs : List (Str × V)) (t : Str) (f p b : Int), vs = [.ref x, .str t, .int f, .int p, .int b] ∧ H x = some (.ins C dx fs) ∧ RC K a C ∧ fs.length ≤ 10 ∧
  ∀ H', H' x = some (.ins C dx (putF "_bend" (.int b) (putF "_period" (.int p) (putF "_forms" (.int f) (putF "_text" (.str t) fs))))) → (∀ y, y ≠ x → H' y = H y) → Q .non H'
theorem ok_Rest_init {P : Program} {w : World} {K : PySem.W.Frag} {mg : Str → Option Value} {base : Heap} {f : Addr} {fd : FuncData} (F0 : Fun K "__init__" "Rest.__init__" sRest_init f fd) (T : Txt K mg) {a : Ad} (KN : Kn K mg a) :
    FnOk P w K mg base CX0 1 f fd PRest_init (spRest_init K a) := by
  refine F0.ok scRest_init (fun vs H Q E h => ?_) (fun cdv A outer s H vs Q E hr h => ?_)
  · obtain ⟨x, C, dx, fs, t, f, p, b, rfl, hx, rc, hl, k⟩ := h
    rfl
  · obtain ⟨x, C, dx, fs, t, f, p, b, rfl, hx, rc, hl, k⟩ := h
    refine ⟨_, (pss_cons (ps_fld (pv 0) (pv 1) rfl)
        (pss_cons (ps_fld (pv 0) (pv 2) rfl)
        (pss_cons (ps_fld (pv 0) (pv 3) rfl)
        (pss_one (ps_fld (pv 0) (pv 4) rfl))))), ?_⟩
    have l1 := length_putF "_text" (.str t) fs
    have l2 := length_putF "_forms" (.int f) (putF "_text" (.str t) fs)
    have l3 := length_putF "_period" (.int p) (putF "_forms" (.int f) (putF "_text" (.str t) fs))
    refine ⟨_, rfl, _, rfl, x, C, dx, _, rfl, hx, rc.cl, rc.nT, by omega, ?_⟩
    refine ⟨_, rfl, _, rfl, x, C, dx, _, rfl, upd_same, rc.cl, rc.nF, by omega, ?_⟩
    refine ⟨_, rfl, _, rfl, x, C, dx, _, rfl, upd_same, rc.cl, rc.nP, by omega, ?_⟩
    refine ⟨_, rfl, _, rfl, x, C, dx, _, rfl, upd_same, rc.cl, rc.nB, by omega, ?_⟩
    exact k _ upd_same fun y n => by rw [upd_ne n, upd_ne n, upd_ne n, upd_ne n]
end k03
namespace k03
open PySem L2 LC RM
def spRest_forms (K : PySem.W.Frag) (a : Ad) : Sp := fun vs H Q _ => ∃ (x : Addr) (g : Addr → Prop) (p : Pl), vs = [.ref x] ∧ RestAt a g H p x ∧ Q (.int p.forms) H
theorem ok_Rest_forms {P : Program} {w : World} {K : PySem.W.Frag} {mg : Str → Option Value} {base : Heap} {f : Addr} {fd : FuncData} (F0 : Fun K "forms" "Rest.forms" sRest_forms f fd) (T : Txt K mg) {a : Ad} (KN : Kn K mg a) :
    FnOk P w K mg base CX0 1 f fd PRest_forms (spRest_forms K a) := by
  refine F0.ok scRest_forms (fun vs H Q E h => ?_) (fun cdv A outer s H vs Q E hr h => ?_)
  · obtain ⟨x, g, p, rfl, R, k⟩ := h
    rfl
  · obtain ⟨x, g, p, rfl, R, k⟩ := h
    refine ⟨_, (pss_one (ps_ret (pe_fld (pv 0) rfl))), ?_⟩
    obtain ⟨C, dx, fs, t, hx, rc, F4, hl⟩ := R.view KN
    exact ⟨_, rfl, x, C, dx, fs, _, rfl, hx, rc.cl, rc.nF, F4.vf, k⟩
end k03
namespace k03
open PySem L2 LC RM
def spRest_period (K : PySem.W.Frag) (a : Ad) : Sp := fun vs H Q _ => ∃ (x : Addr) (g : Addr → Prop) (p : Pl), vs = [.ref x] ∧ RestAt a g H p x ∧ Q (.int p.per) H
theorem ok_Rest_period {P : Program} {w : World} {K : PySem.W.Frag} {mg : Str → Option Value} {base : Heap} {f : Addr} {fd : FuncData} (F0 : Fun K "period" "Rest.period" sRest_period f fd) (T : Txt K mg) {a : Ad} (KN : Kn K mg a) :
    FnOk P w K mg base CX0 1 f fd PRest_period (spRest_period K a) := by
  refine F0.ok scRest_period (fun vs H Q E h => ?_) (fun cdv A outer s H vs Q E hr h => ?_)
  · obtain ⟨x, g, p, rfl, R, k⟩ := h
    rfl
  · obtain ⟨x, g, p, rfl, R, k⟩ := h
    refine ⟨_, (pss_one (ps_ret (pe_fld (pv 0) rfl))), ?_⟩
    obtain ⟨C, dx, fs, t, hx, rc, F4, hl⟩ := R.view KN
    exact ⟨_, rfl, x, C, dx, fs, _, rfl, hx, rc.cl, rc.nP, F4.vp, k⟩
end k03
namespace k03
open PySem L2 LC RM
def spRest_bend (K : PySem.W.Frag) (a : Ad) : Sp := fun vs H Q _ => ∃ (x : Addr) (g : Addr → Prop) (p : Pl), vs = [.ref x] ∧ RestAt a g H p x ∧ Q (.int p.bend) H
theorem ok_Rest_bend {P : Program} {w : World} {K : PySem.W.Frag} {mg : Str → Option Value} {base : Heap} {f : Addr} {fd : FuncData} (F0 : Fun K "bend" "Rest.bend" sRest_bend f fd) (T : Txt K mg) {a : Ad} (KN : Kn K mg a) :
    FnOk P w K mg base CX0 1 f fd PRest_bend (spRest_bend K a) := by
  refine F0.ok scRest_bend (fun vs H Q E h => ?_) (fun cdv A outer s H vs Q E hr h => ?_)
  · obtain ⟨x, g, p, rfl, R, k⟩ := h
    rfl
  · obtain ⟨x, g, p, rfl, R, k⟩ := h
    refine ⟨_, (pss_one (ps_ret (pe_fld (pv 0) rfl))), ?_⟩
    obtain ⟨C, dx, fs, t, hx, rc, F4, hl⟩ := R.view KN
    exact ⟨_, rfl, x, C, dx, fs, _, rfl, hx, rc.cl, rc.nB, F4.vb, k⟩
end k03
namespace k03
open PySem L2 LC RM
def spRest_written (K : PySem.W.Frag) (a : Ad) : Sp := fun vs H Q _ => ∃ (x : Addr) (g : Addr → Prop) (p : Pl), vs = [.ref x] ∧ RestAt a g H p x ∧ ∀ t : Str, t.length ≤ tb p.h → Q (.str t) H
theorem ok_Rest_written {P : Program} {w : World} {K : PySem.W.Frag} {mg : Str → Option Value} {base : Heap} {f : Addr} {fd : FuncData} (F0 : Fun K "written" "Rest.written" sRest_written f fd) (T : Txt K mg) {a : Ad} (KN : Kn K mg a) :
    FnOk P w K mg base CX0 1 f fd PRest_written (spRest_written K a) := by
  refine F0.ok scRest_written (fun vs H Q E h => ?_) (fun cdv A outer s H vs Q E hr h => ?_)
  · obtain ⟨x, g, p, rfl, R, k⟩ := h
    rfl
  · obtain ⟨x, g, p, rfl, R, k⟩ := h
    refine ⟨_, (pss_one (ps_ret (pe_fld (pv 0) rfl))), ?_⟩
    obtain ⟨C, dx, fs, t, hx, rc, F4, hl⟩ := R.view KN
    exact ⟨_, rfl, x, C, dx, fs, _, rfl, hx, rc.cl, rc.nT, F4.vt, k t hl⟩
end k03
namespace k03
open PySem L2 LC RM
def spcommon_period (K : PySem.W.Frag) (a : Ad) : Sp := fun vs H Q _ => ∃ (y z : Addr) (g : Addr → Prop) (p q : Pl) (L : Nat), vs = [.ref y, .ref z] ∧ RestAt a g H p y ∧ RestAt a g H q z ∧ p.ok L ∧ q.ok L ∧ 0 < L ∧ L ≤ 2000 ∧ Q (.int (lcmI p.per q.per)) H
theorem ok_common_period {P : Program} {w : World} {K : PySem.W.Frag} {mg : Str → Option Value} {base : Heap} {f : Addr} {fd : FuncData} (D : Def K mg "common_period" scommon_period Pcommon_period f fd) (T : Txt K mg) {a : Ad} (KN : Kn K mg a) (RP : FnR P w K mg base CX0 1 a.fP (spRest_period K a)) {fcheck_count : Addr} {fdcheck_count : FuncData} (Dcheck_count : Def K mg "check_count" scheck_count Pcheck_count fcheck_count fdcheck_count) (Gcheck_count : FnOk P w K mg base CX0 1 fcheck_count fdcheck_count Pcheck_count (spcheck_count)) :
    FnOk P w K mg base CX0 2 f fd Pcommon_period (spcommon_period K a) := by
  refine D.F.ok sccommon_period (fun vs H Q E h => ?_) (fun cdv A outer s H vs Q E hr h => ?_)
  · obtain ⟨y, z, g, p, q, L, rfl, R1, R2, o1, o2, L0, L1, k⟩ := h
    rfl
  · obtain ⟨y, z, g, p, q, L, rfl, R1, R2, o1, o2, L0, L1, k⟩ := h
    have hrcheck_count : Room 1 _ := hr.mono (by decide)
    obtain ⟨tc_MOST_PERIOD, hc_MOST_PERIOD⟩ := T.c_MOST_PERIOD
    have hrM : Room 1 _ := hr.mono (by decide)
    refine ⟨_, (pss_cons (ps_set (i := 2) sccommon_period.nd rfl (Or.inl rfl) (pe_callBfun LC.cr_lcm (by rfl) KN.gl (pa_cons (LS.pe_methD0 (pv 0) KN.kP RP hrM) (pa_cons (LS.pe_methD0 (pv 1) KN.kP RP hrM) pa_nil))))
        (pss_cons (ps_expr (pe_call Gcheck_count hrcheck_count rfl Dcheck_count.g Dcheck_count.F.kp Dcheck_count.b .nil pass0 (pa_cons pe_str (pa_cons (pv 2) (pa_cons (pe_gint rfl hc_MOST_PERIOD) pa_nil)))))
        (pss_one (ps_ret (pv 2))))), ?_⟩
    obtain ⟨C1, dx1, fs1, t1, hx1, rc1, F1, _⟩ := R1.view KN
    obtain ⟨C2, dx2, fs2, t2, hx2, rc2, F2, _⟩ := R2.view KN
    have b1 := p.per_le o1 L0 L1
    have b2 := q.per_le o2 L0 L1
    have b3 : lcmI p.per q.per ≤ 2000 := ((Pl.lat p q).per_le ⟨o1, o2⟩ L0 L1).2
    refine ⟨_, rfl, y, C1, dx1, fs1, rfl, hx1, rc1.cl, rc1.mP, F1.mp, y, g, p, rfl, R1, ?_⟩
    refine ⟨_, rfl, z, C2, dx2, fs2, rfl, hx2, rc2.cl, rc2.mP, F2.mp, z, g, q, rfl, R2, ?_⟩
    refine ⟨_, _, rfl, Nat.lt_trans (show p.per.natAbs < 10000 by omega) (by decide), Nat.lt_trans (show q.per.natAbs < 10000 by omega) (by decide), ?_⟩
    exact ⟨_, rfl, _, _, _, rfl, b3, _, rfl, k⟩
end k03
namespace k03
open PySem L2 LC RM
def sppair_facts (K : PySem.W.Frag) (a : Ad) : Sp := fun vs H Q _ => ∃ (w : Str) (y z : Addr) (g : Addr → Prop) (p q : Pl) (L : Nat), vs = [.str w, .ref y, .ref z] ∧ w.length ≤ 10 ∧ RestAt a g H p y ∧ RestAt a g H q z ∧ p.ok L ∧ q.ok L ∧ 0 < L ∧ L ≤ 2000 ∧ 1 + p.forms + q.forms ≤ 6 ∧ p.h ≤ 2 ∧ q.h ≤ 2 ∧
  ∀ (T : Addr) (t : Str) H', Same H H' → H T = none → H' T = some (.tup [.str t, .int (1 + p.forms + q.forms), .int (lcmI p.per q.per), .int (maxI p.bend q.bend)]) → t.length ≤ tb (1 + max p.h q.h) → Q (.ref T) H'
theorem ok_pair_facts {P : Program} {w : World} {K : PySem.W.Frag} {mg : Str → Option Value} {base : Heap} {f : Addr} {fd : FuncData} (D : Def K mg "pair_facts" spair_facts Ppair_facts f fd) (T : Txt K mg) {a : Ad} (KN : Kn K mg a) (RW : FnR P w K mg base CX0 1 a.fW (spRest_written K a)) (RF : FnR P w K mg base CX0 1 a.fF (spRest_forms K a)) (RP : FnR P w K mg base CX0 1 a.fP (spRest_period K a)) (RB : FnR P w K mg base CX0 1 a.fB (spRest_bend K a)) {fcheck_count : Addr} {fdcheck_count : FuncData} (Dcheck_count : Def K mg "check_count" scheck_count Pcheck_count fcheck_count fdcheck_count) (Gcheck_count : FnOk P w K mg base CX0 1 fcheck_count fdcheck_count Pcheck_count (spcheck_count)) {fcommon_period : Addr} {fdcommon_period : FuncData} (Dcommon_period : Def K mg "common_period" scommon_period Pcommon_period fcommon_period fdcommon_period) (Gcommon_period : FnOk P w K mg base CX0 2 fcommon_period fdcommon_period Pcommon_period (spcommon_period K a)) :
    FnOk P w K mg base CX0 3 f fd Ppair_facts (sppair_facts K a) := by
  refine D.F.ok scpair_facts (fun vs H Q E h => ?_) (fun cdv A outer s H vs Q E hr h => ?_)
  · obtain ⟨w, y, z, g, p, q, L, rfl, hw, R1, R2, o1, o2, L0, L1, hf, h1, h2, k⟩ := h
    rfl
  · obtain ⟨w, y, z, g, p, q, L, rfl, hw, R1, R2, o1, o2, L0, L1, hf, h1, h2, k⟩ := h
    have hrcheck_count : Room 1 _ := hr.mono (by decide)
    have hrcommon_period : Room 2 _ := hr.mono (by decide)
    obtain ⟨tc_MOST_FORMS, hc_MOST_FORMS⟩ := T.c_MOST_FORMS
    have hrM : Room 1 _ := hr.mono (by decide)
    refine ⟨_, (pss_cons (ps_for PassesOwn.never rfl (pi_tup (pe_tup (pa_cons (pv 1) (pa_cons (pv 2) pa_nil)))) (pg_name (i := 3) scpair_facts.nd rfl (Or.inl rfl))
          (pss_one (ps_if (pt_not (pt_val (pe_callB call_isi (by rfl) T.n_isinstance (by decide +kernel) (pa_cons (pv 3) (pa_cons (pe_glob rfl KN.gR (show RelV (.ref a.R) _ from rfl)) pa_nil))))) (pss_one LC.ps_never) pss_nil)))
        (pss_cons (ps_set (i := 4) scpair_facts.nd rfl (Or.inl rfl) (pe_joined (.cons (pe_fmt (pv 0)) (.cons pe_str (.cons (pe_fmt (LS.pe_methD0 (pv 1) KN.kW RW hrM)) (.cons pe_str (.cons (pe_fmt (LS.pe_methD0 (pv 2) KN.kW RW hrM)) (.cons pe_str .nil))))))))
        (pss_cons (ps_set (i := 5) scpair_facts.nd rfl (Or.inl rfl) (pe_op op_add (pe_op op_add pe_int (LS.pe_methD0 (pv 1) KN.kF RF hrM)) (LS.pe_methD0 (pv 2) KN.kF RF hrM)))
        (pss_cons (ps_expr (pe_call Gcheck_count hrcheck_count rfl Dcheck_count.g Dcheck_count.F.kp Dcheck_count.b .nil pass0 (pa_cons pe_str (pa_cons (pv 5) (pa_cons (pe_gint rfl hc_MOST_FORMS) pa_nil)))))
        (pss_one (ps_ret (pe_tup (pa_cons (pv 4) (pa_cons (pv 5) (pa_cons (pe_call Gcommon_period hrcommon_period rfl Dcommon_period.g Dcommon_period.F.kp Dcommon_period.b .nil pass0 (pa_cons (pv 1) (pa_cons (pv 2) pa_nil))) (pa_cons (pe_callB (call_max2 rfl) (by rfl) T.n_max (by decide +kernel) (pa_cons (LS.pe_methD0 (pv 1) KN.kB RB hrM) (pa_cons (LS.pe_methD0 (pv 2) KN.kB RB hrM) pa_nil))) pa_nil))))))))))), ?_⟩
    refine ⟨_, rfl, _, rfl, (by show 2 ≤ sizeLine; decide), fun T0 hT0 => ?_⟩
    have s0 : Same H (upd H T0 (.tup [.ref y, .ref z])) := same_new hT0
    refine ⟨T0, rfl, ⟨_, SqT.of upd_same⟩, for_tup (K := K) (a := T0) (xs := [V.ref y, V.ref z]) (fun i σ H' => ∃ v : Option V, σ = [some (.str w), some (.ref y), some (.ref z), v, none, none] ∧ H' = upd H T0 (.tup [.ref y, .ref z]))
      ⟨_, rfl, rfl⟩ (fun i σ H' _ ⟨_, _, e⟩ => by rw [e]; exact SqT.of upd_same) ?_ ?_⟩
    · rintro i x σ H' hi ⟨v, rfl, rfl⟩
      have hv : ∃ u p', x = V.ref u ∧ RestAt a g (upd H T0 (.tup [.ref y, .ref z])) p' u := by
        match i, hi with
        | 0, hi => cases hi; exact ⟨y, p, rfl, R1.same s0⟩
        | 1, hi => cases hi; exact ⟨z, q, rfl, R2.same s0⟩
      obtain ⟨u, p', rfl, R⟩ := hv
      obtain ⟨C, dx, fs, t, hx, rc, _, _⟩ := R.view KN
      refine ⟨_, rfl, _, _, _, _, _, rfl, .own _, .base (.ins hx rc.cl rc.ha rc.hn rc.htk rc.hm), rc.me, _, rfl, iteF ?_⟩
      exact ⟨_, rfl, rfl⟩
    · rintro σ H' ⟨v, rfl, rfl⟩
      have R1' := R1.same s0
      have R2' := R2.same s0
      obtain ⟨C1, dx1, fs1, _, hx1, rc1, F1, _⟩ := R1'.view KN
      obtain ⟨C2, dx2, fs2, _, hx2, rc2, F2, _⟩ := R2'.view KN
      have tb1 : tb p.h ≤ 160200 := Nat.le_trans (tb_le h1) (by decide)
      have tb2 : tb q.h ≤ 160200 := Nat.le_trans (tb_le h2) (by decide)
      have z1 : tb p.h ≤ tb (max p.h q.h) := tb_le (Nat.le_max_left _ _)
      have z2 : tb q.h ≤ tb (max p.h q.h) := tb_le (Nat.le_max_right _ _)
      have sz : sizeLine = 16777216 := rfl
      have e0 : Str.empty.length = 0 := rfl
      have e1 : ("(" : Str).length = 1 := by decide +kernel
      have e2 : (", " : Str).length = 2 := by decide +kernel
      have e3 : (")" : Str).length = 1 := by decide +kernel
      have ap := fun x y : Str => Str.length_append x y
      refine ⟨_, rfl, .inl ⟨_, rfl, by omega, _, rfl, by rw [ap]; omega, _, rfl, by rw [ap, ap]; omega, ?_⟩⟩
      refine ⟨_, rfl, y, C1, dx1, fs1, rfl, hx1, rc1.cl, rc1.mW, F1.mw, y, g, p, rfl, R1', fun t1 ht1 => .inl ⟨_, rfl, by omega, _, rfl, by rw [ap, ap, ap]; omega, _, rfl, by rw [ap, ap, ap, ap]; omega, ?_⟩⟩
      refine ⟨_, rfl, z, C2, dx2, fs2, rfl, hx2, rc2.cl, rc2.mW, F2.mw, z, g, q, rfl, R2', fun t2 ht2 => .inl ⟨_, rfl, by omega, _, rfl, by rw [ap, ap, ap, ap, ap]; omega, _, rfl, by rw [ap, ap, ap, ap, ap, ap]; omega, ?_⟩⟩
      refine ⟨_, rfl, y, C1, dx1, fs1, rfl, hx1, rc1.cl, rc1.mF, F1.mf, y, g, p, rfl, R1', _, _, rfl, rfl, _, rfl, z, C2, dx2, fs2, rfl, hx2, rc2.cl, rc2.mF, F2.mf, z, g, q, rfl, R2', _, _, rfl, rfl, ?_⟩
      refine ⟨_, rfl, _, _, _, rfl, hf, ?_⟩
      refine ⟨_, rfl, _, rfl, _, rfl, _, rfl, y, z, g, p, q, L, rfl, R1', R2', o1, o2, L0, L1, ?_⟩
      refine ⟨_, rfl, y, C1, dx1, fs1, rfl, hx1, rc1.cl, rc1.mB, F1.mb, y, g, p, rfl, R1', _, rfl, z, C2, dx2, fs2, rfl, hx2, rc2.cl, rc2.mB, F2.mb, z, g, q, rfl, R2', _, _, rfl, (by show 4 ≤ sizeLine; decide), fun T hT => ?_⟩
      refine k T _ _ (s0.trans (same_new hT)) (s0.free hT) upd_same ?_
      rw [ap, ap, ap, ap, ap, ap]
      have e : tb (1 + max p.h q.h) = 2 * tb (max p.h q.h) + 40 := by rw [Nat.add_comm]; rfl
      omega
end k03
namespace k03
open PySem L2 LC RM
def spWindow_init (K : PySem.W.Frag) (a : Ad) : Sp := fun vs H Q _ => ∃ (x dx : Addr) (g : Addr → Prop) (w : Int) (Hb : Hp), vs = [.ref x, .int w] ∧ H x = some (.ins a.W dx []) ∧ Hb x = none ∧ ¬ g x ∧ Same Hb H ∧ 1 ≤ w ∧ w ≤ 1000 ∧ ∀ H', Same Hb H' → RestAt a g H' (.win w) x → Q .non H'
theorem ok_Window_init {P : Program} {w : World} {K : PySem.W.Frag} {mg : Str → Option Value} {base : Heap} {f cc c : Addr} (T : Txt K mg) {a : Ad} (KN : Kn K mg a) (RI : FnR P w K mg base CX0 1 a.fRi (spRest_init K a)) {fis_number : Addr} {fdis_number : FuncData} (Dis_number : Def K mg "is_number" sis_number Pis_number fis_number fdis_number) (Gis_number : FnOk P w K mg base CX0 2 fis_number fdis_number Pis_number (spis_number)) {doc pm ct oc : Value} {od : Option Addr} {osl : Array (Option Value)} (U : LS.SupF P K (FWindow_init cc c) f a.W a.fRi "__init__") (lf : K.lookup f = some ⟨oc, od, .func ((FWindow_init cc c).fd doc pm ct), osl⟩) :
    FnOk P w K mg base CX0 3 f ((FWindow_init cc c).fd doc pm ct) PWindow_init (spWindow_init K a) := by
  refine LS.fnS_of scWindow_init U lf (fun vs H Q E h => ?_) (fun A outer s H vs Q E hr h => ?_)
  · obtain ⟨x, dx, g, w, Hb, rfl, hx, hb, xg, sb, w0, w1, k⟩ := h
    rfl
  · obtain ⟨x, dx, g, w, Hb, rfl, hx, hb, xg, sb, w0, w1, k⟩ := h
    have hris_number : Room 2 _ := hr.mono (by decide)
    obtain ⟨tc_MOST_SIZE, hc_MOST_SIZE⟩ := T.c_MOST_SIZE
    have hrS : Room 1 _ := hr.mono (by decide)
    refine ⟨_, (LS.pssa_cons (LS.psa (ps_if (pt_not (pt_val (pe_call Gis_number hris_number rfl Dis_number.g Dis_number.F.kp Dis_number.b .nil pass0 (pa_cons (pv 1) (pa_cons pe_int (pa_cons (pe_gint rfl hc_MOST_SIZE) pa_nil)))))) (pss_one LC.ps_never) pss_nil))
        (LS.pssa_cons (LS.ps_sup U ⟨rfl, rfl, rfl, rfl⟩ T.n_super RI hrS (pa_cons (pe_joined (.cons pe_str (.cons (pe_fmt (pv 1)) .nil))) (pa_cons pe_int (pa_cons pe_int (pa_cons pe_int pa_nil)))) ⟨_, rfl, rfl⟩)
        (LS.pssa (pss_one (ps_fld (pv 0) (pv 1) rfl))))), ?_⟩
    have e1 : ("window " : Str).length = 7 := by decide +kernel
    have e0 : Str.empty.length = 0 := rfl
    have sz : sizeLine = 16777216 := rfl
    have il := int_len (i := w) (by omega) (by omega)
    refine ⟨_, rfl, _, _, _, rfl, w0, w1, _, rfl, iteF ?_⟩
    refine ⟨x, dx, [], rfl, hx, fun q hq => ?_⟩
    have nx : x ≠ q := ne_of_none hx hq
    refine ⟨_, rfl, by rw [Str.length_append]; omega, _, rfl, .inr ⟨_, rfl, log_small (by omega) (by omega), _, rfl, by rw [Str.length_append, Str.length_append]; omega, ?_⟩⟩
    refine ⟨upd_same, x, _, dx, [], _, 1, 1, 0, rfl, by rw [upd_ne nx]; exact hx, KN.w, Nat.zero_le _, fun H1 h1 h2 => ?_⟩
    have l1 := four_len (Str.empty ++ "window " ++ Str.ofString (toString w)) (.win w) []
    refine ⟨_, rfl, _, rfl, x, a.W, dx, _, rfl, h1, KN.w.cl, KN.nw, Nat.lt_of_le_of_lt l1 (by decide), ?_⟩
    refine k _ (same_upd hb (same_mk hb sb hq h2)) ⟨xg, dx, _, upd_same, ?_⟩
    rw [Str.length_append, Str.length_append]
    show _ ≤ 40000
    omega
end k03
namespace k03
open PySem L2 LC RM
def spDays_init (K : PySem.W.Frag) (a : Ad) : Sp := fun vs H Q _ => ∃ (x dx : Addr) (g : Addr → Prop) (b : Addr) (bs : List Int) (e : Int) (Hb : Hp), vs = [.ref x, .ref b, .int e] ∧ H x = some (.ins a.D dx []) ∧ Hb x = none ∧ ¬ g x ∧ Same Hb H ∧ (∀ c, g c → ∃ o, Hb c = some o) ∧ Hb b = some (.lst (bs.map V.int)) ∧ bs.length ≤ 12 ∧ Asc 1 bs ∧ 1 ≤ e ∧ e ≤ 2000 ∧ ∀ H', Same Hb H' → RestAt a g H' (.days bs e) x → Q .non H'
theorem ok_Days_init {P : Program} {w : World} {K : PySem.W.Frag} {mg : Str → Option Value} {base : Heap} {f cc c : Addr} (T : Txt K mg) {a : Ad} (KN : Kn K mg a) (RI : FnR P w K mg base CX0 1 a.fRi (spRest_init K a)) {fis_number : Addr} {fdis_number : FuncData} (Dis_number : Def K mg "is_number" sis_number Pis_number fis_number fdis_number) (Gis_number : FnOk P w K mg base CX0 2 fis_number fdis_number Pis_number (spis_number)) {fcheck_borders : Addr} {fdcheck_borders : FuncData} (Dcheck_borders : Def K mg "check_borders" scheck_borders Pcheck_borders fcheck_borders fdcheck_borders) (Gcheck_borders : FnOk P w K mg base CX0 3 fcheck_borders fdcheck_borders Pcheck_borders (spcheck_borders)) {doc pm ct oc : Value} {od : Option Addr} {osl : Array (Option Value)} (U : LS.SupF P K (FDays_init cc c) f a.D a.fRi "__init__") (lf : K.lookup f = some ⟨oc, od, .func ((FDays_init cc c).fd doc pm ct), osl⟩) :
    FnOk P w K mg base CX0 4 f ((FDays_init cc c).fd doc pm ct) PDays_init (spDays_init K a) := by
  refine LS.fnS_of scDays_init U lf (fun vs H Q E h => ?_) (fun A outer s H vs Q E hr h => ?_)
  · obtain ⟨x, dx, g, b, bs, e, Hb, rfl, hx, hb, xg, sb, hg, hbb, hl, hA, e0, e1, k⟩ := h
    rfl
  · obtain ⟨x, dx, g, b, bs, e, Hb, rfl, hx, hb, xg, sb, hg, hbb, hl, hA, e0, e1, k⟩ := h
    have hris_number : Room 2 _ := hr.mono (by decide)
    have hrcheck_borders : Room 3 _ := hr.mono (by decide)
    obtain ⟨tc_MOST_PERIOD, hc_MOST_PERIOD⟩ := T.c_MOST_PERIOD
    have hrS : Room 1 _ := hr.mono (by decide)
    refine ⟨_, (LS.pssa_cons (LS.psa (ps_expr (pe_call Gcheck_borders hrcheck_borders rfl Dcheck_borders.g Dcheck_borders.F.kp Dcheck_borders.b .nil pass0 (pa_cons (pv 1) pa_nil))))
        (LS.pssa_cons (LS.psa (ps_if (pt_not (pt_val (pe_call Gis_number hris_number rfl Dis_number.g Dis_number.F.kp Dis_number.b .nil pass0 (pa_cons (pv 2) (pa_cons pe_int (pa_cons (pe_gint rfl hc_MOST_PERIOD) pa_nil)))))) (pss_one LC.ps_never) pss_nil))
        (LS.pssa_cons (LS.psa (ps_fld (pv 0) (pe_callTy call_list_of (by rfl) T.n_list (by decide +kernel) (pa_cons (pv 1) pa_nil)) rfl))
        (LS.pssa_cons (LS.psa (ps_fld (pv 0) (pv 2) rfl))
        (LS.pssa_cons (LS.psa (ps_set (i := 4) scDays_init.nd rfl (Or.inl rfl) (pe_op op_cat (pe_op op_cat (pe_lst (pa_cons pe_str pa_nil)) (pe_lc (own := [("border", 5)]) (g := gName 5) (tt := tYes) rfl scDays_init.nd (pi_list (pv 1)) (blkOk_by (own := [("border", 5)]) (N := NmDays_init) (sc := defScope sDays_init) (by decide +kernel)) (fun _ _ _ _ _ => pg_name (i := 5) scDays_init.nd rfl (Or.inl rfl)) (fun _ _ _ _ _ => pts_nil) (fun _ _ _ _ _ => (pe_callTy call_str_int (by rfl) T.n_str (by decide +kernel) (pa_cons (pv 5) pa_nil))))) (pe_lst (pa_cons pe_str (pa_cons (pe_callTy call_str_int (by rfl) T.n_str (by decide +kernel) (pa_cons (pv 2) pa_nil)) pa_nil))))))
        (LS.pssa_cons (LS.ps_sup U ⟨rfl, rfl, rfl, rfl⟩ T.n_super RI hrS (pa_cons (pe_join pe_str (pv 4)) (pa_cons pe_int (pa_cons (pv 2) (pa_cons (pe_callB (cr_max rfl) (by rfl) T.n_max (by decide +kernel) (pa_cons (pe_op op_cat (pe_lst (pa_cons pe_int pa_nil)) (pe_fld (pv 0) rfl)) pa_nil)) pa_nil)))) ⟨_, rfl, rfl⟩)
        (LS.pssa pss_nil))))))), ?_⟩
    refine ⟨_, rfl, b, bs, rfl, sb _ _ hbb, hl, hA, fun H1 s1 => ?_⟩
    have hx1 := s1 _ _ hx
    have b1 := s1 _ _ (sb _ _ hbb)
    refine ⟨_, rfl, _, _, _, rfl, e0, e1, _, rfl, iteF ?_⟩
    refine ⟨_, rfl, b, _, rfl, .inl (SqL.of b1), fun l hl1 => ?_⟩
    have xl : x ≠ l := ne_of_none hx1 hl1
    refine ⟨_, rfl, x, a.D, dx, [], rfl, by rw [upd_ne xl]; exact hx1, KN.d.cl, KN.nb, (by show 0 < 1000; decide), ?_⟩
    refine ⟨_, rfl, _, rfl, x, a.D, dx, _, rfl, upd_same, KN.d.cl, KN.ne, (by show 1 < 1000; decide), ?_⟩
    have sH1 : Same Hb H1 := sb.trans s1
    have xb : b ≠ x := ne_of_none hbb hb
    have s3 : Same Hb (upd (upd (upd H1 l (.lst (bs.map V.int))) x (.ins a.D dx (putF "_borders" (.ref l) []))) x (.ins a.D dx (putF "every" (.int e) (putF "_borders" (.ref l) [])))) := same_upd hb (same_upd hb (sH1.trans (same_new hl1)))
    have hl3 : (upd (upd (upd H1 l (.lst (bs.map V.int))) x (.ins a.D dx (putF "_borders" (.ref l) []))) x (.ins a.D dx (putF "every" (.int e) (putF "_borders" (.ref l) [])))) l = some (.lst (bs.map V.int)) := by rw [upd_ne (Ne.symm xl), upd_ne (Ne.symm xl), upd_same]
    have hx3 : (upd (upd (upd H1 l (.lst (bs.map V.int))) x (.ins a.D dx (putF "_borders" (.ref l) []))) x (.ins a.D dx (putF "every" (.int e) (putF "_borders" (.ref l) [])))) x = some (.ins a.D dx (putF "every" (.int e) (putF "_borders" (.ref l) []))) := upd_same
    have lg : ¬ g l := fun z => by
      obtain ⟨og, q⟩ := hg l z
      rw [sH1 _ _ q] at hl1
      cases hl1
    generalize upd (upd (upd H1 l (.lst (bs.map V.int))) x (.ins a.D dx (putF "_borders" (.ref l) []))) x (.ins a.D dx (putF "every" (.int e) (putF "_borders" (.ref l) []))) = H3 at s3 hl3 hx3 ⊢
    have b3 := s3 _ _ hbb
    -- words
    refine ⟨(by show 1 ≤ sizeLine; decide), fun p1 hp1 => ?_⟩
    have t1 := same_new (o := .lst [.str "days"]) hp1
    have p1e : upd H3 p1 (.lst [.str "days"]) p1 = some (.lst [.str "days"]) := upd_same
    generalize upd H3 p1 (.lst [.str "days"]) = H4 at t1 p1e ⊢
    have b4 := t1 _ _ b3
    refine ⟨_, rfl, b, rfl, ⟨_, SqL.of b4⟩, fun D hD => lc_it (walk_list (K := K) (a := b) (xs := bs.map V.int)) (fun i H' => Same H4 H' ∧ H' D = some (.lst ((bs.take i).map fun c => V.str (Str.ofString (toString c)))))
      ⟨same_new hD, upd_same⟩ (fun i H' _ ⟨s, _⟩ => s.seq (SqL.of b4)) ?_ ?_⟩
    · rintro i y H5 H5' hi ⟨s5, d5⟩ ⟨rfl, hy⟩
      rw [List.length_map] at hi
      rw [List.getElem?_map, List.getElem?_eq_getElem hi] at hy
      cases hy
      have bd := hA.all _ (List.getElem_mem hi)
      refine ⟨rfl, _, rfl, _, rfl, log_small (by omega) (by omega), _, d5, ?_, ?_, ?_⟩
      · rw [List.length_map, List.length_take]
        exact Nat.lt_of_le_of_lt (Nat.min_le_left _ _) (Nat.lt_of_lt_of_le hi (Nat.le_trans hl (by decide)))
      · intro c u ec
        rw [upd_ne (ne_of_none ec hD)]
        exact s5 c u ec
      · rw [upd_same, List.take_add_one, List.getElem?_eq_getElem hi, List.map_append]
        rfl
    · rintro H5 ⟨s5, d5⟩
      rw [List.length_map, List.take_length] at d5
      have p15 := s5 _ _ p1e
      refine ⟨p1, D, _, _, rfl, rfl, p15, d5, ?_, fun p2 hp2 => ?_⟩
      · rw [List.length_map]
        show 1 + bs.length ≤ 16777216
        omega
      have t2 := same_new (o := .lst ([.str "days"] ++ bs.map fun c => V.str (Str.ofString (toString c)))) hp2
      have p2e : upd H5 p2 (.lst ([.str "days"] ++ bs.map fun c => V.str (Str.ofString (toString c)))) p2 = some (.lst ([.str "days"] ++ bs.map fun c => V.str (Str.ofString (toString c)))) := upd_same
      generalize upd H5 p2 (.lst ([.str "days"] ++ bs.map fun c => V.str (Str.ofString (toString c)))) = H6 at t2 p2e ⊢
      refine ⟨_, rfl, _, rfl, log_small (by omega) (by omega), (by show 2 ≤ sizeLine; decide), fun p3 hp3 => ?_⟩
      have t3 := same_new (o := .lst [.str "then", .str (Str.ofString (toString e))]) hp3
      have p3e : upd H6 p3 (.lst [.str "then", .str (Str.ofString (toString e))]) p3 = some (.lst [.str "then", .str (Str.ofString (toString e))]) := upd_same
      generalize upd H6 p3 (.lst [.str "then", .str (Str.ofString (toString e))]) = H7 at t3 p3e ⊢
      refine ⟨p2, p3, _, _, rfl, rfl, t3 _ _ p2e, p3e, ?_, fun p4 hp4 => ?_⟩
      · rw [List.length_append, List.length_map]
        show 1 + bs.length + 2 ≤ 16777216
        omega
      have ey : ([V.str "days"] ++ bs.map fun c => V.str (Str.ofString (toString c))) ++ [V.str "then", V.str (Str.ofString (toString e))] = (("days" : Str) :: (bs.map fun c => Str.ofString (toString c)) ++ [("then" : Str), Str.ofString (toString e)]).map V.str := by
        rw [List.map_append, List.map_cons, List.map_map]
        rfl
      rw [ey]
      have yb : ∀ y ∈ (("days" : Str) :: (bs.map fun c => Str.ofString (toString c)) ++ [("then" : Str), Str.ofString (toString e)]), y.length ≤ 1921 := by
        intro y hy
        simp only [List.cons_append, List.mem_cons, List.mem_append, List.mem_map, List.not_mem_nil, or_false] at hy
        rcases hy with rfl | ⟨c, hc, rfl⟩ | rfl | rfl
        · decide +kernel
        · have bd := hA.all _ hc
          exact int_len (by omega) (by omega)
        · decide +kernel
        · exact int_len (by omega) (by omega)
      have yl : (("days" : Str) :: (bs.map fun c => Str.ofString (toString c)) ++ [("then" : Str), Str.ofString (toString e)]).length = bs.length + 3 := by
        rw [List.length_append, List.length_cons, List.length_map]
        rfl
      generalize (("days" : Str) :: (bs.map fun c => Str.ofString (toString c)) ++ [("then" : Str), Str.ofString (toString e)]) = ys at yb yl ⊢
      have t4 := same_new (o := .lst (ys.map V.str)) hp4
      have p4e : upd H7 p4 (.lst (ys.map V.str)) p4 = some (.lst (ys.map V.str)) := upd_same
      generalize upd H7 p4 (.lst (ys.map V.str)) = H8 at t4 p4e ⊢
      have t38 : Same H3 H8 := t1.trans (s5.trans (t2.trans (t3.trans t4)))
      have el1 : (" " : Str).length = 1 := by decide +kernel
      refine ⟨x, dx, _, rfl, t38 _ _ hx3, fun q hq => ?_⟩
      have tq := same_new (o := .met a.fRi x) hq
      have nq : upd H8 q (.met a.fRi x) q = some (.met a.fRi x) := upd_same
      refine ⟨⟨_, rfl⟩, _, rfl, _, p4, ys, rfl, rfl, .inl (SqL.of (tq _ _ p4e)), ?_, ?_⟩
      · have := sum_le yb
        rw [el1]
        omega
      refine ⟨_, rfl, (by show 1 ≤ sizeLine; decide), fun p5 hp5 => ?_⟩
      have t5 := same_new (o := .lst [V.int 0]) hp5
      have p5e : upd (upd H8 q (.met a.fRi x)) p5 (.lst [V.int 0]) p5 = some (.lst [V.int 0]) := upd_same
      have tA := tq.trans t5
      have nq5 := t5 _ _ nq
      generalize upd (upd H8 q (.met a.fRi x)) p5 (.lst [V.int 0]) = H10 at tA p5e nq5 ⊢
      have hx10 := tA _ _ (t38 _ _ hx3)
      have hl10 := tA _ _ (t38 _ _ hl3)
      have lkb : (putF "every" (.int e) (putF "_borders" (.ref l) [])).lookup ("_borders" : Str) = some (.ref l) := by rw [lk_ne (by decide +kernel)]; exact lk_eq
      refine ⟨_, rfl, x, a.D, dx, _, _, rfl, hx10, KN.d.cl, KN.nb, lkb, p5, l, _, _, rfl, rfl, p5e, hl10, ?_, fun p6 hp6 => ?_⟩
      · rw [List.length_map]
        show 1 + bs.length ≤ 16777216
        omega
      have t6 := same_new (o := .lst ([V.int 0] ++ bs.map V.int)) hp6
      have p6e : upd H10 p6 (.lst ([V.int 0] ++ bs.map V.int)) p6 = some (.lst ((0 :: bs).map V.int)) := upd_same
      generalize upd H10 p6 (.lst ([V.int 0] ++ bs.map V.int)) = H11 at t6 p6e ⊢
      refine ⟨p6, 0 :: bs, rfl, SqL.of p6e, Nat.succ_pos _, fun m hm hu => ?_⟩
      have em : m = lastOf bs := hA.max hm hu
      refine ⟨t6 _ _ nq5, x, a.D, dx, _, _, 1, e, m, rfl, t6 _ _ hx10, KN.d, (by show 2 ≤ 10; decide), fun H12 h12 h12' => ?_⟩
      have sF : Same Hb H11 := s3.trans (t38.trans (tA.trans t6))
      have sG : Same Hb H12 := fun c u ec => by
        rw [h12' c (ne_of_none ec hb)]
        exact sF c u ec
      have hl12 : H12 l = some (.lst (bs.map V.int)) := by
        rw [h12' l (Ne.symm xl)]
        exact t6 _ _ hl10
      refine k H12 sG ⟨xg, dx, Txt.join " " ys, l, ?_, ?_, lg, hl12⟩
      · rw [h12, em]
        rfl
      · rw [TL.join_eq]
        have := join_le " " yb
        rw [el1] at this
        show _ ≤ 40000
        have e22 : ys.length * (1921 + 1) ≤ 15 * 1922 := Nat.mul_le_mul_right _ (by omega)
        omega
end k03
namespace k03
open PySem L2 LC RM
def spPair_init (C : Addr) (J : Pl → Pl → Pl) (a : Ad) : Sp := fun vs H Q _ => ∃ (x dx : Addr) (g : Addr → Prop) (y z : Addr) (p q : Pl) (L : Nat) (Hb : Hp), vs = [.ref x, .ref y, .ref z] ∧ H x = some (.ins C dx []) ∧ Hb x = none ∧ ¬ g x ∧ Same Hb H ∧ RestAt a g Hb p y ∧ RestAt a g Hb q z ∧ p.ok L ∧ q.ok L ∧ 0 < L ∧ L ≤ 2000 ∧ 1 + p.forms + q.forms ≤ 6 ∧ p.h ≤ 2 ∧ q.h ≤ 2 ∧ ∀ H', Same Hb H' → RestAt a g H' (J p q) x → Q .non H'
def spLater_init (K : PySem.W.Frag) (a : Ad) : Sp := spPair_init a.L Pl.lat a
theorem ok_Later_init {P : Program} {w : World} {K : PySem.W.Frag} {mg : Str → Option Value} {base : Heap} {f cc c : Addr} (T : Txt K mg) {a : Ad} (KN : Kn K mg a) (RI : FnR P w K mg base CX0 1 a.fRi (spRest_init K a)) {fpair_facts : Addr} {fdpair_facts : FuncData} (Dpair_facts : Def K mg "pair_facts" spair_facts Ppair_facts fpair_facts fdpair_facts) (Gpair_facts : FnOk P w K mg base CX0 3 fpair_facts fdpair_facts Ppair_facts (sppair_facts K a)) {doc pm ct oc : Value} {od : Option Addr} {osl : Array (Option Value)} (U : LS.SupF P K (FLater_init cc c) f a.L a.fRi "__init__") (lf : K.lookup f = some ⟨oc, od, .func ((FLater_init cc c).fd doc pm ct), osl⟩) :
    FnOk P w K mg base CX0 4 f ((FLater_init cc c).fd doc pm ct) PLater_init (spLater_init K a) := by
  refine LS.fnS_of scLater_init U lf (fun vs H Q E h => ?_) (fun A outer s H vs Q E hr h => ?_)
  · obtain ⟨x, dx, g, y, z, p, q, L, Hb, rfl, hx, hb, xg, sb, R1, R2, o1, o2, L0, L1, hf, h1, h2, k⟩ := h
    rfl
  · obtain ⟨x, dx, g, y, z, p, q, L, Hb, rfl, hx, hb, xg, sb, R1, R2, o1, o2, L0, L1, hf, h1, h2, k⟩ := h
    have hrpair_facts : Room 3 _ := hr.mono (by decide)
    have hrS : Room 1 _ := hr.mono (by decide)
    refine ⟨_, (LS.pssa_cons (LS.psa (ps_set (i := 4) scLater_init.nd rfl (Or.inl rfl) (pe_call Gpair_facts hrpair_facts rfl Dpair_facts.g Dpair_facts.F.kp Dpair_facts.b .nil pass0 (pa_cons pe_str (pa_cons (pv 1) (pa_cons (pv 2) pa_nil))))))
        (LS.pssa_cons (LS.ps_supS U ⟨rfl, rfl, rfl, rfl⟩ T.n_super RI hrS (pv 4) ⟨_, rfl, rfl⟩)
        (LS.pssa (pss_cons (ps_fld (pv 0) (pv 1) rfl)
        (pss_one (ps_fld (pv 0) (pv 2) rfl)))))), ?_⟩
    refine ⟨_, rfl, _, rfl, _, y, z, g, p, q, L, rfl, by decide +kernel, R1.same sb, R2.same sb, o1, o2, L0, L1, hf, h1, h2, fun T0 t H1 s1 hT0 hT1 ht => ?_⟩
    have hx1 := s1 _ _ hx
    refine ⟨x, dx, _, rfl, hx1, fun u hu => ?_⟩
    have tu := same_new (o := .met a.fRi x) hu
    refine ⟨_, rfl, T0, _, rfl, .inl (SqT.of (tu _ _ hT1)), upd_same, x, _, dx, [], t, _, _, _, rfl, tu _ _ hx1, KN.l, Nat.zero_le _, fun H2 h3 h4 => ?_⟩
    have sA := sb.trans (s1.trans tu)
    have sB : Same Hb H2 := fun c v ec => by
      rw [h4 c (ne_of_none ec hb)]
      exact sA c v ec
    have l4 := four_len t (.lat p q) []
    refine ⟨_, rfl, _, rfl, x, _, dx, four t (.lat p q) [], rfl, h3, KN.l.cl, KN.l1, Nat.lt_of_le_of_lt l4 (by decide), ?_⟩
    have l5 := length_putF "first" (.ref y) (four t (.lat p q) [])
    refine ⟨_, rfl, _, rfl, x, _, dx, _, rfl, upd_same, KN.l.cl, KN.l2, Nat.lt_of_le_of_lt l5 (Nat.lt_of_le_of_lt (Nat.succ_le_succ l4) (by decide)), ?_⟩
    have sC := same_upd (o := .ins a.L dx (putF "second" (.ref z) (putF "first" (.ref y) (four t (.lat p q) [])))) hb (same_upd (o := .ins a.L dx (putF "first" (.ref y) (four t (.lat p q) []))) hb sB)
    exact k _ sC ⟨xg, dx, t, y, z, upd_same, ht, R1.same sC, R2.same sC⟩
end k03
namespace k03
open PySem L2 LC RM
def spSooner_init (K : PySem.W.Frag) (a : Ad) : Sp := spPair_init a.S Pl.soo a
theorem ok_Sooner_init {P : Program} {w : World} {K : PySem.W.Frag} {mg : Str → Option Value} {base : Heap} {f cc c : Addr} (T : Txt K mg) {a : Ad} (KN : Kn K mg a) (RI : FnR P w K mg base CX0 1 a.fRi (spRest_init K a)) {fpair_facts : Addr} {fdpair_facts : FuncData} (Dpair_facts : Def K mg "pair_facts" spair_facts Ppair_facts fpair_facts fdpair_facts) (Gpair_facts : FnOk P w K mg base CX0 3 fpair_facts fdpair_facts Ppair_facts (sppair_facts K a)) {doc pm ct oc : Value} {od : Option Addr} {osl : Array (Option Value)} (U : LS.SupF P K (FSooner_init cc c) f a.S a.fRi "__init__") (lf : K.lookup f = some ⟨oc, od, .func ((FSooner_init cc c).fd doc pm ct), osl⟩) :
    FnOk P w K mg base CX0 4 f ((FSooner_init cc c).fd doc pm ct) PSooner_init (spSooner_init K a) := by
  refine LS.fnS_of scSooner_init U lf (fun vs H Q E h => ?_) (fun A outer s H vs Q E hr h => ?_)
  · obtain ⟨x, dx, g, y, z, p, q, L, Hb, rfl, hx, hb, xg, sb, R1, R2, o1, o2, L0, L1, hf, h1, h2, k⟩ := h
    rfl
  · obtain ⟨x, dx, g, y, z, p, q, L, Hb, rfl, hx, hb, xg, sb, R1, R2, o1, o2, L0, L1, hf, h1, h2, k⟩ := h
    have hrpair_facts : Room 3 _ := hr.mono (by decide)
    have hrS : Room 1 _ := hr.mono (by decide)
    refine ⟨_, (LS.pssa_cons (LS.psa (ps_set (i := 4) scSooner_init.nd rfl (Or.inl rfl) (pe_call Gpair_facts hrpair_facts rfl Dpair_facts.g Dpair_facts.F.kp Dpair_facts.b .nil pass0 (pa_cons pe_str (pa_cons (pv 1) (pa_cons (pv 2) pa_nil))))))
        (LS.pssa_cons (LS.ps_supS U ⟨rfl, rfl, rfl, rfl⟩ T.n_super RI hrS (pv 4) ⟨_, rfl, rfl⟩)
        (LS.pssa (pss_cons (ps_fld (pv 0) (pv 1) rfl)
        (pss_one (ps_fld (pv 0) (pv 2) rfl)))))), ?_⟩
    refine ⟨_, rfl, _, rfl, _, y, z, g, p, q, L, rfl, by decide +kernel, R1.same sb, R2.same sb, o1, o2, L0, L1, hf, h1, h2, fun T0 t H1 s1 hT0 hT1 ht => ?_⟩
    have hx1 := s1 _ _ hx
    refine ⟨x, dx, _, rfl, hx1, fun u hu => ?_⟩
    have tu := same_new (o := .met a.fRi x) hu
    refine ⟨_, rfl, T0, _, rfl, .inl (SqT.of (tu _ _ hT1)), upd_same, x, _, dx, [], t, _, _, _, rfl, tu _ _ hx1, KN.s, Nat.zero_le _, fun H2 h3 h4 => ?_⟩
    have sA := sb.trans (s1.trans tu)
    have sB : Same Hb H2 := fun c v ec => by
      rw [h4 c (ne_of_none ec hb)]
      exact sA c v ec
    have l4 := four_len t (.soo p q) []
    refine ⟨_, rfl, _, rfl, x, _, dx, four t (.soo p q) [], rfl, h3, KN.s.cl, KN.s1, Nat.lt_of_le_of_lt l4 (by decide), ?_⟩
    have l5 := length_putF "first" (.ref y) (four t (.soo p q) [])
    refine ⟨_, rfl, _, rfl, x, _, dx, _, rfl, upd_same, KN.s.cl, KN.s2, Nat.lt_of_le_of_lt l5 (Nat.lt_of_le_of_lt (Nat.succ_le_succ l4) (by decide)), ?_⟩
    have sC := same_upd (o := .ins a.S dx (putF "second" (.ref z) (putF "first" (.ref y) (four t (.soo p q) [])))) hb (same_upd (o := .ins a.S dx (putF "first" (.ref y) (four t (.soo p q) []))) hb sB)
    exact k _ sC ⟨xg, dx, t, y, z, upd_same, ht, R1.same sC, R2.same sC⟩
end k03
namespace k03
open PySem L2 LC RM
def spNext_init (K : PySem.W.Frag) (a : Ad) : Sp := spPair_init a.N Pl.nex a
theorem ok_Next_init {P : Program} {w : World} {K : PySem.W.Frag} {mg : Str → Option Value} {base : Heap} {f cc c : Addr} (T : Txt K mg) {a : Ad} (KN : Kn K mg a) (RI : FnR P w K mg base CX0 1 a.fRi (spRest_init K a)) {fpair_facts : Addr} {fdpair_facts : FuncData} (Dpair_facts : Def K mg "pair_facts" spair_facts Ppair_facts fpair_facts fdpair_facts) (Gpair_facts : FnOk P w K mg base CX0 3 fpair_facts fdpair_facts Ppair_facts (sppair_facts K a)) {doc pm ct oc : Value} {od : Option Addr} {osl : Array (Option Value)} (U : LS.SupF P K (FNext_init cc c) f a.N a.fRi "__init__") (lf : K.lookup f = some ⟨oc, od, .func ((FNext_init cc c).fd doc pm ct), osl⟩) :
    FnOk P w K mg base CX0 4 f ((FNext_init cc c).fd doc pm ct) PNext_init (spNext_init K a) := by
  refine LS.fnS_of scNext_init U lf (fun vs H Q E h => ?_) (fun A outer s H vs Q E hr h => ?_)
  · obtain ⟨x, dx, g, y, z, p, q, L, Hb, rfl, hx, hb, xg, sb, R1, R2, o1, o2, L0, L1, hf, h1, h2, k⟩ := h
    rfl
  · obtain ⟨x, dx, g, y, z, p, q, L, Hb, rfl, hx, hb, xg, sb, R1, R2, o1, o2, L0, L1, hf, h1, h2, k⟩ := h
    have hrpair_facts : Room 3 _ := hr.mono (by decide)
    have hrS : Room 1 _ := hr.mono (by decide)
    refine ⟨_, (LS.pssa_cons (LS.psa (ps_set (i := 4) scNext_init.nd rfl (Or.inl rfl) (pe_call Gpair_facts hrpair_facts rfl Dpair_facts.g Dpair_facts.F.kp Dpair_facts.b .nil pass0 (pa_cons pe_str (pa_cons (pv 1) (pa_cons (pv 2) pa_nil))))))
        (LS.pssa_cons (LS.ps_supS U ⟨rfl, rfl, rfl, rfl⟩ T.n_super RI hrS (pv 4) ⟨_, rfl, rfl⟩)
        (LS.pssa (pss_cons (ps_fld (pv 0) (pv 1) rfl)
        (pss_one (ps_fld (pv 0) (pv 2) rfl)))))), ?_⟩
    refine ⟨_, rfl, _, rfl, _, y, z, g, p, q, L, rfl, by decide +kernel, R1.same sb, R2.same sb, o1, o2, L0, L1, hf, h1, h2, fun T0 t H1 s1 hT0 hT1 ht => ?_⟩
    have hx1 := s1 _ _ hx
    refine ⟨x, dx, _, rfl, hx1, fun u hu => ?_⟩
    have tu := same_new (o := .met a.fRi x) hu
    refine ⟨_, rfl, T0, _, rfl, .inl (SqT.of (tu _ _ hT1)), upd_same, x, _, dx, [], t, _, _, _, rfl, tu _ _ hx1, KN.n, Nat.zero_le _, fun H2 h3 h4 => ?_⟩
    have sA := sb.trans (s1.trans tu)
    have sB : Same Hb H2 := fun c v ec => by
      rw [h4 c (ne_of_none ec hb)]
      exact sA c v ec
    have l4 := four_len t (.nex p q) []
    refine ⟨_, rfl, _, rfl, x, _, dx, four t (.nex p q) [], rfl, h3, KN.n.cl, KN.n1, Nat.lt_of_le_of_lt l4 (by decide), ?_⟩
    have l5 := length_putF "first" (.ref y) (four t (.nex p q) [])
    refine ⟨_, rfl, _, rfl, x, _, dx, _, rfl, upd_same, KN.n.cl, KN.n2, Nat.lt_of_le_of_lt l5 (Nat.lt_of_le_of_lt (Nat.succ_le_succ l4) (by decide)), ?_⟩
    have sC := same_upd (o := .ins a.N dx (putF "second" (.ref z) (putF "first" (.ref y) (four t (.nex p q) [])))) hb (same_upd (o := .ins a.N dx (putF "first" (.ref y) (four t (.nex p q) []))) hb sB)
    exact k _ sC ⟨xg, dx, t, y, z, upd_same, ht, R1.same sC, R2.same sC⟩
end k03
namespace k03
open PySem L2 LC RM
def spWindow_call (K : PySem.W.Frag) (a : Ad) : Sp := fun vs H Q _ => ∃ (x : Addr) (g : Addr → Prop) (w t : Int), vs = [.ref x, .int t] ∧ RestAt a g H (.win w) x ∧ Q (.int ((Pl.win w).at t)) H
theorem ok_Window_call {P : Program} {w : World} {K : PySem.W.Frag} {mg : Str → Option Value} {base : Heap} {f : Addr} {fd : FuncData} (F0 : Fun K "__call__" "Window.__call__" sWindow_call f fd) (T : Txt K mg) {a : Ad} (KN : Kn K mg a) :
    FnOk P w K mg base CX0 1 f fd PWindow_call (spWindow_call K a) := by
  refine F0.ok scWindow_call (fun vs H Q E h => ?_) (fun cdv A outer s H vs Q E hr h => ?_)
  · obtain ⟨x, g, w, t, rfl, R, k⟩ := h
    rfl
  · obtain ⟨x, g, w, t, rfl, R, k⟩ := h
    refine ⟨_, (pss_one (ps_ret (pe_op op_add (pv 1) (pe_fld (pv 0) rfl)))), ?_⟩
    obtain ⟨n, dx, z, hx, _⟩ := R
    exact ⟨_, rfl, _, rfl, x, a.W, dx, _, _, rfl, hx, KN.w.cl, KN.nw, lk_width, _, _, rfl, rfl, k⟩
end k03
namespace k03
open PySem L2 LC RM
def spDays_call (K : PySem.W.Frag) (a : Ad) : Sp := fun vs H Q _ => ∃ (x : Addr) (g : Addr → Prop) (bs : List Int) (e t : Int), vs = [.ref x, .int t] ∧ RestAt a g H (.days bs e) x ∧ 1 ≤ e ∧ e ≤ 2000 ∧ Q (.int ((Pl.days bs e).at t)) H
theorem ok_Days_call {P : Program} {w : World} {K : PySem.W.Frag} {mg : Str → Option Value} {base : Heap} {f : Addr} {fd : FuncData} (F0 : Fun K "__call__" "Days.__call__" sDays_call f fd) (T : Txt K mg) {a : Ad} (KN : Kn K mg a) (RB : FnR P w K mg base CX0 1 a.fB (spRest_bend K a)) :
    FnOk P w K mg base CX0 2 f fd PDays_call (spDays_call K a) := by
  refine F0.ok scDays_call (fun vs H Q E h => ?_) (fun cdv A outer s H vs Q E hr h => ?_)
  · obtain ⟨x, g, bs, e, t, rfl, R, e0, e2, k⟩ := h
    rfl
  · obtain ⟨x, g, bs, e, t, rfl, R, e0, e2, k⟩ := h
    have hrM : Room 1 _ := hr.mono (by decide)
    refine ⟨_, (pss_cons (ps_for PassesOwn.never rfl (pi_list (pe_fld (pv 0) rfl)) (pg_name (i := 2) scDays_call.nd rfl (Or.inl rfl))
          (pss_one (ps_if (pt_cmpR op_gt (pv 2) (pv 1) (nomark _)) (pss_one (ps_ret (pv 2))) pss_nil)))
        (pss_cons (ps_set (i := 3) scDays_call.nd rfl (Or.inl rfl) (LS.pe_methD0 (pv 0) KN.kB RB hrM))
        (pss_one (ps_ret (pe_op op_add (pv 3) (pe_op op_mul (pe_op op_add (pe_op op_fdivN (pe_op op_sub (pv 1) (pv 3)) (pe_fld (pv 0) rfl)) pe_int) (pe_fld (pv 0) rfl))))))), ?_⟩
    obtain ⟨n, dx, z, b, hx, hz, nb, hb⟩ := id R
    refine ⟨_, rfl, x, a.D, dx, _, _, rfl, hx, KN.d.cl, KN.nb, lk_borders, b, rfl, ⟨_, SqL.of hb⟩, for_list (K := K) (a := b) (xs := bs.map V.int) (fun i σ H' => ∃ v : Option V, σ = [some (.ref x), some (.int t), v, none] ∧ H' = H ∧ bs.find? (fun c => decide (c > t)) = (bs.drop i).find? (fun c => decide (c > t)))
      ⟨none, rfl, rfl, rfl⟩ (fun i σ H' _ ⟨_, _, e, _⟩ => by rw [e]; exact SqL.of hb) ?_ ?_⟩
    · rintro i y σ H' hi ⟨v, rfl, rfl, hf⟩
      rw [List.getElem?_map] at hi
      obtain ⟨c, hc, rfl⟩ : ∃ c, bs[i]? = some c ∧ V.int c = y := by
        cases q : bs[i]? with
        | none => rw [q] at hi; cases hi
        | some c => rw [q] at hi; exact ⟨c, rfl, Option.some.inj hi⟩
      obtain ⟨hlt, rfl⟩ := List.getElem?_eq_some_iff.mp hc
      rw [List.drop_eq_getElem_cons hlt, List.find?_cons] at hf
      refine ⟨_, rfl, _, rfl, _, _, rfl, rfl, _, rfl, ite_d (fun h1 => ?_) (fun h1 => ?_)⟩
      · rw [decide_eq_true (show bs[i] > t from h1)] at hf
        refine ⟨_, rfl, ?_⟩
        have e1 : (Pl.days bs e).at t = bs[i] := dayAt_some hf
        rw [← e1]
        exact k
      · rw [decide_eq_false (show ¬ bs[i] > t from h1)] at hf
        exact ⟨_, rfl, rfl, hf⟩
    · rintro σ H' ⟨v, rfl, rfl, hf⟩
      rw [List.length_map, List.drop_length] at hf
      have e1 : (Pl.days bs e).at t = lastOf bs + ((t - lastOf bs) / e + 1) * e := dayAt_none hf
      have ed : (t - lastOf bs).fdiv e = (t - lastOf bs) / e := Int.fdiv_eq_ediv_of_nonneg _ (by omega)
      refine ⟨_, rfl, x, a.D, dx, _, rfl, hx, KN.d.cl, KN.d.mB, four_day.mb, x, g, .days bs e, rfl, R, ?_⟩
      refine ⟨_, rfl, _, rfl, _, rfl, _, _, rfl, rfl, _, rfl, x, a.D, dx, _, _, rfl, hx, KN.d.cl, KN.ne, lk_every, _, _, rfl, rfl, ⟨by omega, by omega⟩, _, _, rfl, rfl, _, rfl, x, a.D, dx, _, _, rfl, hx, KN.d.cl, KN.ne, lk_every, _, _, rfl, rfl, .inr ⟨by omega, by omega⟩, _, _, rfl, rfl, ?_⟩
      show Q (.int (lastOf bs + ((t - lastOf bs).fdiv e + 1) * e)) _
      rw [ed, ← e1]
      exact k
end k03
namespace k03
open PySem L2 LC RM
def spcallJ (J : Pl → Pl → Pl) (a : Ad) (n : Nat) : Sp := fun vs H Q _ => ∃ (x : Addr) (g : Addr → Prop) (p q : Pl) (L : Nat) (t : Int), vs = [.ref x, .int t] ∧ RestAt a g H (J p q) x ∧ (J p q).h ≤ n ∧ p.ok L ∧ q.ok L ∧ Q (.int ((J p q).at t)) H
abbrev spLater_call (a : Ad) (n : Nat) : Sp := spcallJ Pl.lat a n
abbrev spSooner_call (a : Ad) (n : Nat) : Sp := spcallJ Pl.soo a n
abbrev spNext_call (a : Ad) (n : Nat) : Sp := spcallJ Pl.nex a n
/-- the calls of all rests whose plans are n joins high at most -/
structure Calls (P : Program) (W : World) (K : PySem.W.Frag) (mg : Str → Option Value) (base : Heap) (a : Ad) (n : Nat) : Prop where
  cw : FnR P W K mg base CX0 (n + 2) a.Wc (spWindow_call K a)
  cd : FnR P W K mg base CX0 (n + 2) a.Dc (spDays_call K a)
  cl : FnR P W K mg base CX0 (n + 2) a.Lc (spLater_call a n)
  cs : FnR P W K mg base CX0 (n + 2) a.Sc (spSooner_call a n)
  cn : FnR P W K mg base CX0 (n + 2) a.Nc (spNext_call a n)
theorem Calls.dyn {P : Program} {w : World} {K : PySem.W.Frag} {mg : Str → Option Value} {base : Heap} {a : Ad} {n : Nat} (CC : Calls P w K mg base a n) (KN : Kn K mg a) {g : Addr → Prop} {H : Hp} {L : Nat} : ∀ {p : Pl} {y : Addr}, RestAt a g H p y → p.h ≤ n → p.ok L →
    ∃ (C f : Addr) (sp : Sp), StX.CallO K C f ∧ FnR P w K mg base CX0 (n + 2) f sp ∧ (∃ dx fs, H y = some (.ins C dx fs)) ∧ ∀ (t : Int) (Q : VK) (E : XK), Q (.int (p.at t)) H → sp [.ref y, .int t] H Q E
  | .win w, y, R, _, _ => ⟨_, _, _, KN.cW, CC.cw, (by obtain ⟨_, dx, t, h, _⟩ := R; exact ⟨_, _, h⟩), fun t Q E k => ⟨y, g, w, t, rfl, R, k⟩⟩
  | .days bs e, y, R, _, o => ⟨_, _, _, KN.cD, CC.cd, (by obtain ⟨_, dx, t, b, h, _⟩ := R; exact ⟨_, _, h⟩), fun t Q E k => ⟨y, g, bs, e, t, rfl, R, o.1, o.2.1, k⟩⟩
  | .lat p q, y, R, h, o => ⟨_, _, _, KN.cL, CC.cl, (by obtain ⟨_, dx, t, _, _, h, _⟩ := R; exact ⟨_, _, h⟩), fun t Q E k => ⟨y, g, p, q, L, t, rfl, R, h, o.1, o.2, k⟩⟩
  | .soo p q, y, R, h, o => ⟨_, _, _, KN.cS, CC.cs, (by obtain ⟨_, dx, t, _, _, h, _⟩ := R; exact ⟨_, _, h⟩), fun t Q E k => ⟨y, g, p, q, L, t, rfl, R, h, o.1, o.2, k⟩⟩
  | .nex p q, y, R, h, o => ⟨_, _, _, KN.cN, CC.cn, (by obtain ⟨_, dx, t, _, _, h, _⟩ := R; exact ⟨_, _, h⟩), fun t Q E k => ⟨y, g, p, q, L, t, rfl, R, h, o.1, o.2, k⟩⟩

theorem ok_Later_call {P : Program} {w : World} {K : PySem.W.Frag} {mg : Str → Option Value} {base : Heap} {f : Addr} {fd : FuncData} (F0 : Fun K "__call__" "Later.__call__" sLater_call f fd) (T : Txt K mg) {a : Ad} (KN : Kn K mg a) {n : Nat} (CC : Calls P w K mg base a n) :
    FnOk P w K mg base CX0 (n + 3) f fd PLater_call (spLater_call a (n + 1)) := by
  refine F0.ok scLater_call (fun vs H Q E h => ?_) (fun cdv A outer s H vs Q E hr h => ?_)
  · obtain ⟨x, g, p, q, L, t, rfl, R, hh, o1, o2, k⟩ := h
    rfl
  · obtain ⟨x, g, p, q, L, t, rfl, R, hh, o1, o2, k⟩ := h
    have hrC : Room (n + 2) _ := hr
    refine ⟨_, (pss_one (ps_ret (pe_callB (call_max2 rfl) (by rfl) T.n_max (by decide +kernel) (pa_cons (LS.pe_callFD (pv 0) hrC (pa_cons (pv 1) pa_nil)) (pa_cons (LS.pe_callFD (pv 0) hrC (pa_cons (pv 1) pa_nil)) pa_nil))))), ?_⟩
    obtain ⟨ng, dx, z, y1, y2, hx, hz, R1, R2⟩ := R
    have hh' : 1 + max p.h q.h ≤ n + 1 := hh
    obtain ⟨C1, f1, s1, c1, G1, i1, k1⟩ := CC.dyn KN R1 (by omega) o1
    obtain ⟨C2, f2, s2, c2, G2, i2, k2⟩ := CC.dyn KN R2 (by omega) o2
    refine ⟨_, rfl, x, a.L, dx, _, y1, rfl, hx, KN.l.cl, KN.l1, lk_first, _, rfl, C1, f1, s1, c1, G1, i1, k1 t _ _ ?_⟩
    refine ⟨_, rfl, x, a.L, dx, _, y2, rfl, hx, KN.l.cl, KN.l2, lk_second, _, rfl, C2, f2, s2, c2, G2, i2, k2 t _ _ ?_⟩
    exact ⟨_, _, rfl, k⟩
end k03
namespace k03
open PySem L2 LC RM

theorem ok_Sooner_call {P : Program} {w : World} {K : PySem.W.Frag} {mg : Str → Option Value} {base : Heap} {f : Addr} {fd : FuncData} (F0 : Fun K "__call__" "Sooner.__call__" sSooner_call f fd) (T : Txt K mg) {a : Ad} (KN : Kn K mg a) {n : Nat} (CC : Calls P w K mg base a n) :
    FnOk P w K mg base CX0 (n + 3) f fd PSooner_call (spSooner_call a (n + 1)) := by
  refine F0.ok scSooner_call (fun vs H Q E h => ?_) (fun cdv A outer s H vs Q E hr h => ?_)
  · obtain ⟨x, g, p, q, L, t, rfl, R, hh, o1, o2, k⟩ := h
    rfl
  · obtain ⟨x, g, p, q, L, t, rfl, R, hh, o1, o2, k⟩ := h
    have hrC : Room (n + 2) _ := hr
    refine ⟨_, (pss_one (ps_ret (pe_callB (call_min2 rfl) (by rfl) T.n_min (by decide +kernel) (pa_cons (LS.pe_callFD (pv 0) hrC (pa_cons (pv 1) pa_nil)) (pa_cons (LS.pe_callFD (pv 0) hrC (pa_cons (pv 1) pa_nil)) pa_nil))))), ?_⟩
    obtain ⟨ng, dx, z, y1, y2, hx, hz, R1, R2⟩ := R
    have hh' : 1 + max p.h q.h ≤ n + 1 := hh
    obtain ⟨C1, f1, s1, c1, G1, i1, k1⟩ := CC.dyn KN R1 (by omega) o1
    obtain ⟨C2, f2, s2, c2, G2, i2, k2⟩ := CC.dyn KN R2 (by omega) o2
    refine ⟨_, rfl, x, a.S, dx, _, y1, rfl, hx, KN.s.cl, KN.s1, lk_first, _, rfl, C1, f1, s1, c1, G1, i1, k1 t _ _ ?_⟩
    refine ⟨_, rfl, x, a.S, dx, _, y2, rfl, hx, KN.s.cl, KN.s2, lk_second, _, rfl, C2, f2, s2, c2, G2, i2, k2 t _ _ ?_⟩
    exact ⟨_, _, rfl, k⟩
end k03
namespace k03
open PySem L2 LC RM

theorem ok_Next_call {P : Program} {w : World} {K : PySem.W.Frag} {mg : Str → Option Value} {base : Heap} {f : Addr} {fd : FuncData} (F0 : Fun K "__call__" "Next.__call__" sNext_call f fd) (T : Txt K mg) {a : Ad} (KN : Kn K mg a) {n : Nat} (CC : Calls P w K mg base a n) :
    FnOk P w K mg base CX0 (n + 3) f fd PNext_call (spNext_call a (n + 1)) := by
  refine F0.ok scNext_call (fun vs H Q E h => ?_) (fun cdv A outer s H vs Q E hr h => ?_)
  · obtain ⟨x, g, p, q, L, t, rfl, R, hh, o1, o2, k⟩ := h
    rfl
  · obtain ⟨x, g, p, q, L, t, rfl, R, hh, o1, o2, k⟩ := h
    have hrC : Room (n + 2) _ := hr
    refine ⟨_, (pss_one (ps_ret (LS.pe_callFD (pv 0) hrC (pa_cons (LS.pe_callFD (pv 0) hrC (pa_cons (pv 1) pa_nil)) pa_nil)))), ?_⟩
    obtain ⟨ng, dx, z, y1, y2, hx, hz, R1, R2⟩ := R
    have hh' : 1 + max p.h q.h ≤ n + 1 := hh
    obtain ⟨C1, f1, s1, c1, G1, i1, k1⟩ := CC.dyn KN R1 (by omega) o1
    obtain ⟨C2, f2, s2, c2, G2, i2, k2⟩ := CC.dyn KN R2 (by omega) o2
    refine ⟨_, rfl, x, a.N, dx, _, y2, rfl, hx, KN.n.cl, KN.n2, lk_second, ?_⟩
    refine ⟨_, rfl, x, a.N, dx, _, y1, rfl, hx, KN.n.cl, KN.n1, lk_first, _, rfl, C1, f1, s1, c1, G1, i1, k1 t _ _ ?_⟩
    exact ⟨C2, f2, s2, c2, G2, i2, k2 _ _ _ k⟩
theorem calls_of {P : Program} {w : World} {K : PySem.W.Frag} {mg : Str → Option Value} {base : Heap} {a : Ad} {n : Nat} (GW : FnR P w K mg base CX0 1 a.Wc (spWindow_call K a)) (GD : FnR P w K mg base CX0 2 a.Dc (spDays_call K a))
    (GL : ∀ {n}, Calls P w K mg base a n → FnR P w K mg base CX0 (n + 3) a.Lc (spLater_call a (n + 1))) (GS : ∀ {n}, Calls P w K mg base a n → FnR P w K mg base CX0 (n + 3) a.Sc (spSooner_call a (n + 1))) (GN : ∀ {n}, Calls P w K mg base a n → FnR P w K mg base CX0 (n + 3) a.Nc (spNext_call a (n + 1))) : Calls P w K mg base a n := by
  induction n with
  | zero =>
    have no : ∀ {J : Pl → Pl → Pl} {f : Addr}, (∀ p q, (J p q).h ≠ 0) → FnR P w K mg base CX0 2 f (spcallJ J a 0) := fun hJ => by
      intro A outer s H us vs Q E hr e0 r hs
      obtain ⟨x, g, p, q, L, t, _, _, h, _⟩ := hs
      exact absurd (Nat.le_zero.mp h) (hJ p q)
    exact ⟨GW.mono (by decide), GD.mono (by decide), no fun p q => by simp only [Pl.h]; omega, no fun p q => by simp only [Pl.h]; omega, no fun p q => by simp only [Pl.h]; omega⟩
  | succ n ih => exact ⟨GW.mono (by omega), GD.mono (by omega), GL ih, GS ih, GN ih⟩
end k03
namespace k03
open PySem L2 LC RM
def spRest_steps (a : Ad) : LG.SpX := fun vs H xs Need => ∃ (x : Addr) (g : Addr → Prop) (p : Pl) (L : Nat) (t e : Int), vs = [.ref x, .int t, .int e] ∧ RestAt a g H p x ∧ p.ok L ∧ p.h ≤ 2 ∧ xs = (stp p t e).map V.int ∧ Need = fun H' => RestAt a g H' p x
theorem ok_Rest_steps {P : Program} {w : World} {K : PySem.W.Frag} {mg : Str → Option Value} {base : Heap} {f : Addr} {fd : FuncData} (F0 : Fun K "steps" "Rest.steps" sRest_steps f fd) (T : Txt K mg) {a : Ad} (KN : Kn K mg a) (CC : Calls P w K mg base a 2) :
    LG.GFnX P w K mg base 5 f fd PRest_steps (spRest_steps a) := by
  obtain ⟨oc, od, kV, doc, pm, an, cdv, ct, osl, rfl, lk, hcd⟩ := F0.ex
  refine LG.gfnx_of lk hcd scRest_steps ncRest_steps (fun vs H xs Need h => ?_) fun X pins ga go fp B L0 H vs xs Need e1 e2 e3 e4 e5 hr h hB ok => ?_
  · obtain ⟨x, g, p, L, t, e, rfl, _⟩ := h
    rfl
  · subst e1 e2 e3 e4 e5
    obtain ⟨x, g, p, L, t, e, rfl, R, o, hh, rfl, rfl⟩ := h
    have hrC : ∀ ps s0 H0, Room 4 ((LG.GP.mk X pins NmRest_steps (PyProof.Rows.envOfC "Rest.steps" (defScope sRest_steps) L0 f cdv) (X.A.in1.deeper (PyProof.Rows.envOfC "Rest.steps" (defScope sRest_steps) L0 f cdv)) ga go fp ((stp p t e).map V.int) B).cx ps s0 H0).A := fun _ _ _ => hr
    refine ⟨_, LG.GP.gss_cons (LG.GP.gs_while (fun ps s0 H0 => pt_cmpR op_lt (pv 1) (pv 2) (nomark _)) (LG.GP.gss_cons (LG.GP.gs_yield ok (fun ps s0 H0 => pv 1) rfl) (LG.GP.gss_cons (LG.GP.gs_ps (fun ps s0 H0 => ps_set (i := 1) scRest_steps.nd rfl (Or.inl rfl) (show PE _ _ (LS.tCallD X 4 (tVar 0) (tCons (tVar 1) tNil)) from LS.pe_callD (pv 0) (hrC ps s0 H0) (pa_cons (pv 1) pa_nil)))) LG.GP.gss_nil))) LG.GP.gss_nil, fun H' hN => ?_⟩
    refine ⟨fun m i σ H' => ∃ u : Int, σ = [some (.ref x), some (.int u), some (.int e)] ∧ m = (e - u).toNat ∧ RestAt a g H' p x ∧ i ≤ (stp p t e).length ∧ (stp p t e).drop i = stp p u e, ⟨_, t, rfl, rfl, hN, Nat.zero_le _, rfl⟩, ?_⟩
    rintro m i σ H1 ⟨u, rfl, rfl, R1, hi, hd⟩
    refine ⟨_, rfl, _, rfl, _, _, rfl, rfl, _, rfl, fun _ _ q => q, ite_d (fun hlt => ?_) (fun hge => ?_)⟩
    · have gu := p.at_gt o u
      rw [stp_lt o hlt] at hd
      have hx : (stp p t e)[i]? = some u := by
        have q : ((stp p t e).drop i)[0]? = some u := by rw [hd]; rfl
        rw [List.getElem?_drop] at q
        exact q
      have hn : (stp p t e).drop (i + 1) = stp p (p.at u) e := by
        rw [← List.tail_drop, hd]
        rfl
      refine ⟨_, fun j σ' H' z => z, _, rfl, fun _ _ q => q, by rw [List.getElem?_map, hx]; rfl, fun σc H2 hB2 => ?_⟩
      have R2 := hB _ _ _ hB2
      obtain ⟨C1, f1, s1, c1, G1, i1, k1⟩ := CC.dyn KN R2 hh o
      refine ⟨_, rfl, x, rfl, _, rfl, C1, f1, s1, c1, G1, i1, k1 _ _ _ ?_⟩
      exact ⟨fun _ _ q => q, _, by omega, p.at u, rfl, rfl, R2, (List.getElem?_eq_some_iff.mp hx).1, hn⟩
    · rw [stp_ge hge] at hd
      have := List.drop_eq_nil_iff.mp hd
      show i = ((stp p t e).map V.int).length
      rw [List.length_map]
      omega
def spRest_stepsL (a : Ad) : SpG := fun vs H Q _ => ∃ (x : Addr) (g : Addr → Prop) (p : Pl) (L : Nat) (t e : Int), vs = [.ref x, .int t, .int e] ∧ RestAt a g H p x ∧ p.ok L ∧ p.h ≤ 2 ∧ (stp p t e).length ≤ 1000000 ∧ Q ((stp p t e).map V.int) H
theorem ok_Rest_stepsL {P : Program} {w : World} {K : PySem.W.Frag} {mg : Str → Option Value} {base : Heap} {f : Addr} {fd : FuncData} (F0 : Fun K "steps" "Rest.steps" sRest_steps f fd) (T : Txt K mg) {a : Ad} (KN : Kn K mg a) (CC : Calls P w K mg base a 2) :
    GFn P w K mg base 5 f fd PRest_steps (spRest_stepsL a) := by
  obtain ⟨oc, od, kV, doc, pm, an, cdv, ct, osl, rfl, lk, hcd⟩ := F0.ex
  refine gfn_of lk hcd scRest_steps (fun vs H Q E h => ?_) fun A outer s H vs Q E pn hr h => ?_
  · obtain ⟨x, g, p, L, t, e, rfl, _⟩ := h
    rfl
  · obtain ⟨x, g, p, L, t, e, rfl, R, o, hh, hl, k⟩ := h
    refine ⟨_, gss_cons (gs_while owns_gcx (pt_cmpR op_lt (pv 1) (pv 2) (nomark _)) (gss_cons (gs_yield (pv 1)) (gss_cons (gs_ps (ps_set (i := 1) scRest_steps.nd rfl (Or.inl rfl) (LS.pe_callD (k := 4) (pv 0) hr (pa_cons (pv 1) pa_nil)))) gss_nil))) gss_nil, ?_⟩
    refine ⟨fun m ys σ H' => H' = H ∧ ∃ (u : Int) (i : Nat), σ = [some (.ref x), some (.int u), some (.int e)] ∧ m = (e - u).toNat ∧ ys = ((stp p t e).take i).map V.int ∧ (stp p t e).drop i = stp p u e, ⟨_, rfl, t, 0, rfl, rfl, rfl, rfl⟩, ?_⟩
    rintro m ys σ H1 ⟨rfl, u, i, rfl, rfl, rfl, hd⟩
    refine ⟨_, rfl, _, rfl, _, _, rfl, rfl, _, rfl, ite_d (fun hlt => ?_) (fun hge => ?_)⟩
    · have gu := p.at_gt o u
      rw [stp_lt o hlt] at hd
      have hx : (stp p t e)[i]? = some u := by
        have q : ((stp p t e).drop i)[0]? = some u := by rw [hd]; rfl
        rw [List.getElem?_drop] at q
        exact q
      have hn : (stp p t e).drop (i + 1) = stp p (p.at u) e := by
        rw [← List.tail_drop, hd]
        rfl
      refine ⟨_, fun ys' σ' H' z => z, ?_, _, rfl, ?_⟩
      · rw [List.length_map, List.length_take]
        exact Nat.lt_of_le_of_lt (show _ ≤ 1000000 by omega) (by decide)
      obtain ⟨C1, f1, s1, c1, G1, i1, k1⟩ := CC.dyn KN R hh o
      refine ⟨_, rfl, x, rfl, _, rfl, C1, f1, s1, c1, G1, i1, k1 _ _ _ ?_⟩
      exact ⟨_, by omega, rfl, p.at u, i + 1, rfl, rfl, by rw [List.take_add_one, hx, List.map_append]; rfl, hn⟩
    · rw [stp_ge hge] at hd
      have hl := List.drop_eq_nil_iff.mp hd
      rw [List.take_of_length_le hl]
      exact k
theorem kb_Rest_steps {K : PySem.W.Frag} {f : Addr} {fd : FuncData} (F : Fun K "steps" "Rest.steps" sRest_steps f fd) : KBn K fd PRest_steps 1 ["end", "t"] kgS kgS := by
  obtain ⟨oc, od, kV, doc, pm, an, cdv, ct, osl, rfl, lk, hcd⟩ := F.ex
  refine ⟨fun s us ws _ hu hl => ?_, fun {vs us zs ws} r1 r2 => ?_⟩
  · match us, ws, hu, hl with
    | [a], [b, c], _, _ => exact .of_eq rfl
  · cases r1 with
    | nil => exact .nil
    | cons q1 r1 =>
      cases r1 with
      | cons _ _ => exact .nil
      | nil =>
        match zs, ws, r2 with
        | _, _, .cons r0 (.cons r1 .nil) => exact .cons q1 (.cons r1 (.cons r0 .nil))
        | _, _, .nil => exact .nil
        | _, _, .cons _ .nil => exact .nil
        | _, _, .cons _ (.cons _ (.cons _ _)) => exact .nil
end k03
namespace k03
open PySem L2 LC RM
def spRest_latest (K : PySem.W.Frag) (a : Ad) : Sp := fun vs H Q _ => ∃ (x : Addr) (g : Addr → Prop) (p : Pl) (L : Nat) (f : Int), vs = [.ref x, .int f] ∧ RestAt a g H p x ∧ p.ok L ∧ p.h ≤ 2 ∧ (f < p.at 0 → Q .non H) ∧ ∀ h : Int, 0 ≤ h → p.at h ≤ f → f < p.at (h + 1) → Q (.int h) H
theorem ok_Rest_latest {P : Program} {w : World} {K : PySem.W.Frag} {mg : Str → Option Value} {base : Heap} {f : Addr} {fd : FuncData} (F0 : Fun K "latest" "Rest.latest" sRest_latest f fd) (T : Txt K mg) {a : Ad} (KN : Kn K mg a) (CC : Calls P w K mg base a 2) :
    FnOk P w K mg base CX0 5 f fd PRest_latest (spRest_latest K a) := by
  refine F0.ok scRest_latest (fun vs H Q E h => ?_) (fun cdv A outer s H vs Q E hr h => ?_)
  · obtain ⟨x, g, p, L, f, rfl, R, o, hh, kn, ks⟩ := h
    rfl
  · obtain ⟨x, g, p, L, f, rfl, R, o, hh, kn, ks⟩ := h
    have hrC : Room 4 _ := hr
    refine ⟨_, (pss_cons (ps_if (pt_cmpR op_gt (LS.pe_callD (pv 0) hrC (pa_cons pe_int pa_nil)) (pv 1) (nomark _)) (pss_one (ps_ret pe_non)) pss_nil)
        (pss_cons (ps_set (i := 2) scRest_latest.nd rfl (Or.inl rfl) pe_int)
        (pss_cons (ps_set (i := 3) scRest_latest.nd rfl (Or.inl rfl) (pv 1))
        (pss_cons (ps_while PassesOwn.never (pt_cmpR op_gt (pe_op op_sub (pv 3) (pv 2)) pe_int (nomark _)) (pss_cons (ps_set (i := 4) scRest_latest.nd rfl (Or.inl rfl) (pe_op op_fdiv (pe_op op_add (pv 2) (pv 3)) pe_int))
        (pss_one (ps_if (pt_cmpR op_le (LS.pe_callD (pv 0) hrC (pa_cons (pv 4) pa_nil)) (pv 1) (nomark _)) (pss_one (ps_set (i := 2) scRest_latest.nd rfl (Or.inl rfl) (pv 4))) (pss_one (ps_set (i := 3) scRest_latest.nd rfl (Or.inl rfl) (pv 4)))))))
        (pss_one (ps_ret (pv 2))))))), ?_⟩
    obtain ⟨C1, f1, s1, c1, G1, i1, k1⟩ := CC.dyn KN R hh o
    refine ⟨_, rfl, x, rfl, C1, f1, s1, c1, G1, i1, k1 _ _ _ ?_⟩
    refine ⟨_, rfl, _, _, rfl, rfl, _, rfl, ite_d (fun h0 => kn h0) (fun h0 => ?_)⟩
    have gf := p.at_gt o f
    refine ⟨_, rfl, ?_⟩
    refine ⟨fun m σ H' => ∃ (lo hi : Int) (v : Option V), σ = [some (.ref x), some (.int f), some (.int lo), some (.int hi), v] ∧ H' = H ∧ m = (hi - lo).toNat ∧ 0 ≤ lo ∧ p.at lo ≤ f ∧ f < p.at hi, ⟨_, 0, f, none, rfl, rfl, rfl, Int.le_refl _, by omega, gf⟩, ?_⟩
    rintro m σ H' ⟨lo, hi, v, rfl, rfl, rfl, l0, l1, h1⟩
    have lh : lo < hi := by
      by_cases z : lo < hi
      · exact z
      · have := p.at_mono o hi lo (by omega)
        omega
    refine ⟨_, rfl, _, rfl, _, _, rfl, rfl, _, _, rfl, rfl, _, rfl, ite_d (fun hg => ?_) (fun hg => ?_)⟩
    · have hg : 1 < hi - lo := hg
      refine ⟨_, fun σ' H' z => z, _, rfl, _, rfl, _, _, rfl, rfl, _, _, rfl, rfl, ⟨by omega, by omega⟩, ?_⟩
      obtain ⟨mi, hm, m0, m1⟩ : ∃ mi : Int, (lo + hi) / 2 = mi ∧ lo < mi ∧ mi < hi := ⟨_, rfl, by omega, by omega⟩
      refine ⟨_, rfl, x, rfl, _, rfl, C1, f1, s1, c1, G1, i1, k1 _ _ _ ?_⟩
      refine ⟨_, rfl, _, _, rfl, rfl, _, rfl, ite_d (fun hc => ?_) (fun hc => ?_)⟩
      · have hc : p.at ((lo + hi) / 2) ≤ f := hc
        rw [hm] at hc
        exact ⟨_, rfl, (hi - mi).toNat, by omega, mi, hi, some (.int mi), by rw [← hm]; rfl, rfl, rfl, by omega, hc, h1⟩
      · have hc : ¬ p.at ((lo + hi) / 2) ≤ f := hc
        rw [hm] at hc
        exact ⟨_, rfl, (mi - lo).toNat, by omega, lo, mi, some (.int mi), by rw [← hm]; rfl, rfl, rfl, l0, l1, by omega⟩
    · have hg : ¬ 1 < hi - lo := hg
      have e : hi = lo + 1 := by omega
      rw [e] at h1
      exact ⟨_, rfl, ks lo l0 l1 h1⟩
theorem kb_Rest_latest {K : PySem.W.Frag} {f : Addr} {fd : FuncData} (F : Fun K "latest" "Rest.latest" sRest_latest f fd) : KBn K fd PRest_latest 1 ["f"] kgL kgL := by
  obtain ⟨oc, od, kV, doc, pm, an, cdv, ct, osl, rfl, lk, hcd⟩ := F.ex
  refine ⟨fun s us ws _ hu hl => ?_, fun {vs us zs ws} r1 r2 => ?_⟩
  · match us, ws, hu, hl with
    | [a], [b], _, _ => exact .of_eq rfl
  · cases r1 with
    | nil => exact .nil
    | cons q1 r1 =>
      cases r1 with
      | cons _ _ => exact .nil
      | nil =>
        match zs, ws, r2 with
        | _, _, .cons r0 .nil => exact .cons q1 (.cons r0 .nil)
        | _, _, .nil => exact .nil
        | _, _, .cons _ (.cons _ _) => exact .nil
end k03
namespace k03
open PySem L2 LC RM
def spbag (K : PySem.W.Frag) : Sp := fun vs H Q _ => ∃ (a : Addr) (ns : List Int), vs = [.ref a] ∧ SqL K H a (ns.map V.int) ∧ ns.length ≤ 63 ∧ ∀ g H', H g = none → Same H H' → (∃ l, Bag l H' g) → Q (.ref g) H'
theorem ok_bag {P : Program} {w : World} {K : PySem.W.Frag} {mg : Str → Option Value} {base : Heap} {f : Addr} {fd : FuncData} (D : Def K mg "_law_bag" sbag Pbag f fd) (T : Txt K mg) :
    FnOk P w K mg base CX0 1 f fd Pbag (spbag K) := by
  refine D.F.ok scbag (fun vs H Q E h => ?_) (fun cdv A outer s H vs Q E hr h => ?_)
  · obtain ⟨a, ns, rfl, hS, hl, k⟩ := h
    rfl
  · obtain ⟨a, ns, rfl, hS, hl, k⟩ := h
    refine ⟨_, (pss_cons (ps_set (i := 1) scbag.nd rfl (Or.inl rfl) pe_int)
        (pss_cons (ps_for PassesOwn.never rfl (pi_list (pe_slice sl_list (pv 0) po_none (po_some pe_int))) (pg_name (i := 2) scbag.nd rfl (Or.inl rfl))
          (pss_one (ps_set (i := 1) scbag.nd rfl (Or.inl rfl) (pe_op op_mod (pe_callTy call_int1 (by rfl) T.n_int (by decide +kernel) (pa_cons (pe_op op_add (pe_op op_add (pe_op op_mul (pv 1) pe_int) (pe_op op_mod (pe_callTy call_int1 (by rfl) T.n_int (by decide +kernel) (pa_cons (pv 2) pa_nil)) pe_int)) pe_int) pa_nil)) pe_int))))
        (pss_one (ps_ret (pe_lst (pa_cons (pe_callTy call_list_of (by rfl) T.n_list (by decide +kernel) (pa_cons (pe_slice sl_list (pv 0) po_none (po_some pe_int)) pa_nil)) (pa_cons pe_int (pa_cons pe_int (pa_cons (pv 1) (pa_cons pe_int pa_nil)))))))))), ?_⟩
    obtain ⟨ms, hms, hml⟩ := cut_ints ns none (some 63)
    refine ⟨_, rfl, _, rfl, a, _, rfl, hS, fun p hp => ?_⟩
    rw [hms]
    have s1 : Same H (upd H p (.lst (ms.map V.int))) := same_new hp
    refine ⟨p, rfl, ⟨_, SqL.of upd_same⟩, for_list (K := K) (a := p) (xs := ms.map V.int) (fun i σ H' => ∃ (s : Int) (v : Option V), σ = [some (.ref a), some (.int s), v] ∧ 0 ≤ s ∧ s < 2147483399 ∧ Same (upd H p (.lst (ms.map V.int))) H')
      ⟨13962, none, rfl, by decide, by decide, Same.refl _⟩ (fun i σ H' _ ⟨_, _, _, _, _, R⟩ => R.seq (SqL.of upd_same)) ?_ ?_⟩
    · rintro i y σ H' hi ⟨s, v, rfl, h1, h2, R⟩
      obtain ⟨u, rfl⟩ := int_of hi
      refine ⟨_, rfl, _, _, rfl, rfl, .inr ⟨by decide, by decide⟩, _, rfl, .inl ⟨_, rfl, _, _, rfl, rfl, (by show (0 : Int) < 2147483563; decide), _, _, rfl, rfl, _, _, rfl, rfl, .inl ⟨_, rfl, _, _, rfl, rfl, (by show (0 : Int) < 2147483399; decide), ?_⟩⟩⟩
      refine ⟨_, _, rfl, Int.emod_nonneg _ (by decide), Int.emod_lt_of_pos _ (by decide), R⟩
    · rintro σ H' ⟨s, v, rfl, h1, h2, R⟩
      refine ⟨_, rfl, _, rfl, a, _, rfl, (s1.trans R).seq hS, fun q hq => ?_⟩
      rw [hms]
      refine ⟨q, _, rfl, .inl (SqL.of upd_same), fun l hl' => ?_⟩
      refine ⟨_, rfl, (by show 5 ≤ sizeLine; decide), fun g hg => ?_⟩
      have r1 : Same H' (upd H' q (.lst (ms.map V.int))) := same_new hq
      have r2 := same_new (o := .lst (ms.map V.int)) hl'
      have r3 := same_new (o := .lst [V.ref l, V.int 0, V.int 0, V.int s, V.int 0]) hg
      refine k g _ (s1.free (R.free (r1.free (r2.free hg)))) (s1.trans (R.trans (r1.trans (r2.trans r3)))) ?_
      have ne : l ≠ g := fun e => by
        rw [← e, upd_same] at hg
        cases hg
      exact ⟨l, ms, 0, 0, s, 0, upd_same, ne, by rw [upd_ne ne]; exact upd_same, Int.le_refl _, Int.natCast_nonneg _, Int.le_refl _, h1, h2⟩
end k03
namespace k03
open PySem L2 LC RM
def spdraw : Sp := fun vs H Q _ => ∃ (g l : Addr) (n : Int), vs = [.ref g, .int n] ∧ Bag l H g ∧ 0 < n ∧ n < 1073741824 ∧ ∀ (d : Int) (H' : Hp), 0 ≤ d → d < n → Ok g l H H' → Q (.int d) H'
theorem ok_draw {P : Program} {w : World} {K : PySem.W.Frag} {mg : Str → Option Value} {base : Heap} {f : Addr} {fd : FuncData} (D : Def K mg "_law_draw" sdraw Pdraw f fd) (T : Txt K mg) :
    FnOk P w K mg base CX0 1 f fd Pdraw (spdraw) := by
  refine D.F.ok scdraw (fun vs H Q E h => ?_) (fun cdv A outer s H vs Q E hr h => ?_)
  · obtain ⟨g, l, n, rfl, B, n0, n1, k⟩ := h
    rfl
  · obtain ⟨g, l, n, rfl, B, n0, n1, k⟩ := h
    refine ⟨_, (pss_cons (ps_asg (pe_op op_add (pe_ix ix_list (pv 0) pe_int (fun _ _ => rfl)) pe_int) (pg_sub (pv 0) pe_int set_list))
        (Evl.pss_cut (ps_if (PW.pt (pw_and (pt_cmpR op_eq (pe_ix ix_list (pv 0) pe_int (fun _ _ => rfl)) pe_int (nomark _)) (pw_and1 (pt_cmpR op_lt (pe_ix ix_list (pv 0) pe_int (fun _ _ => rfl)) (pe_callB call_len (by rfl) T.n_len PySem.boot_len (pa_cons (pe_ix ix_list (pv 0) pe_int (fun _ _ => rfl)) pa_nil)) (nomark _))))) (pss_cons (ps_set (i := 2) scdraw.nd rfl (Or.inl rfl) (pe_ix ix_list (pe_ix ix_list (pv 0) pe_int (fun _ _ => rfl)) (pe_ix ix_list (pv 0) pe_int (fun _ _ => rfl)) (fun _ _ => rfl)))
        (pss_cons (ps_asg (pe_op op_add (pe_ix ix_list (pv 0) pe_int (fun _ _ => rfl)) pe_int) (pg_sub (pv 0) pe_int set_list))
        (pss_one (ps_if (pt_cmpR op_ge (pv 2) (pe_op op_pow pe_int pe_int) (nomark _)) (pss_one (ps_asg (pv 2) (pg_sub (pv 0) pe_int set_list))) (pss_one (ps_asg (pe_op op_mod (pe_callTy call_int1 (by rfl) T.n_int (by decide +kernel) (pa_cons (pe_op op_add (pe_op op_add (pe_op op_mul (pe_ix ix_list (pv 0) pe_int (fun _ _ => rfl)) pe_int) (pe_op op_mul (pe_op op_mod (pe_callTy call_int1 (by rfl) T.n_int (by decide +kernel) (pa_cons (pv 2) pa_nil)) pe_int) pe_int)) pe_int) pa_nil)) pe_int) (pg_sub (pv 0) pe_int set_list))))))) pss_nil)
        (pss_cons (ps_if (pt_cmpR op_gt (pe_ix ix_list (pv 0) pe_int (fun _ _ => rfl)) pe_int (nomark _)) (pss_cons (ps_set (i := 3) scdraw.nd rfl (Or.inl rfl) (pe_op op_modN (pe_callTy call_int1 (by rfl) T.n_int (by decide +kernel) (pa_cons (pe_ix ix_list (pv 0) pe_int (fun _ _ => rfl)) pa_nil)) (pv 1)))
        (pss_cons (ps_asg (pe_op op_fdivN (pe_ix ix_list (pv 0) pe_int (fun _ _ => rfl)) (pv 1)) (pg_sub (pv 0) pe_int set_list))
        (pss_one (ps_ret (pv 3))))) pss_nil)
        (pss_cons (ps_asg (pe_op op_mod (pe_callTy call_int1 (by rfl) T.n_int (by decide +kernel) (pa_cons (pe_op op_add (pe_op op_add (pe_op op_pow (pe_ix ix_list (pv 0) pe_int (fun _ _ => rfl)) pe_int) (pe_op op_mul (pe_ix ix_list (pv 0) pe_int (fun _ _ => rfl)) pe_int)) pe_int) pa_nil)) pe_int) (pg_sub (pv 0) pe_int set_list))
        (pss_one (ps_ret (pe_op op_modN (pe_callTy call_int1 (by rfl) T.n_int (by decide +kernel) (pa_cons (pe_op op_add (pe_op op_fdiv (pe_ix ix_list (pv 0) pe_int (fun _ _ => rfl)) pe_int) (pe_op op_mul (pe_op op_mod (pe_callTy call_int1 (by rfl) T.n_int (by decide +kernel) (pa_cons (pe_ix ix_list (pv 0) pe_int (fun _ _ => rfl)) pa_nil)) pe_int) pe_int)) pa_nil)) (pv 1)))))))), ?_⟩
    obtain ⟨ns, i, d, s, c, hg, lg, hl, i0, i1, d0, s0, s1⟩ := id B
    have up : ∀ (i' d' s' c' : Int) (H1 : Hp), Kp g H H1 → H1 l = some (.lst (ns.map V.int)) → Kp g H (upd H1 g (.lst [.ref l, .int i', .int d', .int s', .int c'])) ∧ upd H1 g (.lst [.ref l, .int i', .int d', .int s', .int c']) l = some (.lst (ns.map V.int)) :=
      fun i' d' s' c' H1 r q => ⟨r.bag, by rw [upd_ne lg]; exact q⟩
    -- b[4] = b[4] + 1
    refine ⟨_, rfl, _, _, _, _, rfl, rfl, SqL.of hg, rfl, _, _, rfl, rfl, _, rfl, g, _, _, 4, rfl, rfl, hg, rfl, ?_⟩
    obtain ⟨K1, L1⟩ := up i d s (c + 1) H (Kp.refl g H) hl
    -- the joined ways
    refine ⟨fun σ H' => ∃ (i' d' s' : Int) (v w : Option V), σ = [some (.ref g), some (.int n), v, w] ∧ H' g = some (.lst [.ref l, .int i', .int d', .int s', .int (c + 1)]) ∧ Kp g H H' ∧ H' l = some (.lst (ns.map V.int)) ∧ 0 ≤ i' ∧ i' ≤ ns.length ∧ 0 ≤ d' ∧ 0 ≤ s' ∧ s' < 2147483399, ?_, ?_⟩
    · refine ⟨_, rfl, _, _, _, _, rfl, rfl, SqL.of upd_same, rfl, rfl, _, rfl, ?_⟩
      refine ite_eq (fun e1 => ?_) (fun e1 => ?_)
      · refine ⟨_, rfl, _, _, _, _, rfl, rfl, SqL.of upd_same, rfl, _, rfl, _, _, _, _, rfl, rfl, SqL.of upd_same, rfl, _, _, rfl, .inl ⟨_, SqL.of L1, rfl⟩, _, _, rfl, rfl, _, rfl, ?_⟩
        refine ite_d (fun e2 => ?_) (fun e2 => ?_)
        · rw [List.length_map] at e2
          obtain ⟨j, rfl⟩ : ∃ j : Nat, i = (j : Int) := ⟨i.toNat, by omega⟩
          have hj : j < ns.length := by omega
          have hx : (ns.map V.int)[j]? = some (V.int ns[j]) := by rw [List.getElem?_map, List.getElem?_eq_getElem hj]; rfl
          -- item = b[0][b[1]]; b[1] = b[1] + 1
          refine ⟨_, rfl, _, _, _, _, rfl, rfl, SqL.of upd_same, rfl, _, rfl, _, _, _, _, rfl, rfl, SqL.of upd_same, rfl, _, _, _, _, rfl, rfl, SqL.of L1, atI_nat hx, ?_⟩
          refine ⟨_, rfl, _, _, _, _, rfl, rfl, SqL.of upd_same, rfl, _, _, rfl, rfl, _, rfl, g, _, _, 1, rfl, rfl, upd_same, rfl, ?_⟩
          obtain ⟨K2, L2⟩ := up ((j : Int) + 1) d s (c + 1) _ K1 L1
          refine ⟨_, rfl, _, _, rfl, rfl, ⟨by decide, by decide, by decide⟩, _, _, rfl, rfl, _, rfl, ?_⟩
          refine ite_d (fun e3 => ?_) (fun e3 => ?_)
          · refine ⟨_, rfl, _, rfl, g, _, _, 2, rfl, rfl, upd_same, rfl, ?_⟩
            obtain ⟨K3, L3⟩ := up ((j : Int) + 1) ns[j] s (c + 1) _ K2 L2
            exact ⟨_, _, _, _, _, rfl, upd_same, K3, L3, by omega, by omega, Int.le_trans (by decide) e3, s0, s1⟩
          · refine ⟨_, rfl, _, _, _, _, rfl, rfl, SqL.of upd_same, rfl, _, _, rfl, rfl, .inr ⟨by decide, by decide⟩, _, rfl, .inl ⟨_, rfl, _, _, rfl, rfl, (by show (0 : Int) < 2147483549; decide), _, _, rfl, rfl, .inr ⟨by decide, by decide⟩, _, _, rfl, rfl, _, _, rfl, rfl, .inl ⟨_, rfl, _, _, rfl, rfl, (by show (0 : Int) < 2147483399; decide), ?_⟩⟩⟩
            refine ⟨_, rfl, g, _, _, 3, rfl, rfl, upd_same, rfl, ?_⟩
            obtain ⟨K3, L3⟩ := up ((j : Int) + 1) d ((s * 69621 + ns[j] % 2147483549 * 30103 + 89) % 2147483399) (c + 1) _ K2 L2
            exact ⟨_, _, _, _, _, rfl, upd_same, K3, L3, by omega, by omega, d0, Int.emod_nonneg _ (by decide), Int.emod_lt_of_pos _ (by decide)⟩
        · exact ⟨_, _, _, _, _, rfl, upd_same, K1, L1, i0, i1, d0, s0, s1⟩
      · refine iteF ?_
        exact ⟨_, _, _, _, _, rfl, upd_same, K1, L1, i0, i1, d0, s0, s1⟩
    · rintro σ H' ⟨i', d', s', v, w, rfl, hg', K1, L1, i0, i1, d0, s0, s1⟩
      have bag : ∀ (d'' s'' : Int), 0 ≤ d'' → 0 ≤ s'' → s'' < 2147483399 → Bag l (upd H' g (.lst [.ref l, .int i', .int d'', .int s'', .int (c + 1)])) g := fun d'' s'' h1 h2 h3 =>
        ⟨ns, i', d'', s'', c + 1, upd_same, lg, by rw [upd_ne lg]; exact L1, i0, i1, h1, h2, h3⟩
      refine ⟨_, rfl, _, _, _, _, rfl, rfl, SqL.of hg', rfl, _, _, rfl, rfl, _, rfl, ?_⟩
      refine ite_d (fun e1 => ?_) (fun e1 => ?_)
      · refine ⟨_, rfl, _, _, _, _, rfl, rfl, SqL.of hg', rfl, .inl ⟨_, rfl, _, rfl, _, _, rfl, rfl, (by omega), ?_⟩⟩
        refine ⟨_, rfl, _, _, _, _, rfl, rfl, SqL.of hg', rfl, _, rfl, _, _, rfl, rfl, ⟨by omega, by omega⟩, _, rfl, g, _, _, 2, rfl, rfl, hg', rfl, _, rfl, ?_⟩
        refine k _ _ (fmod_nn _ n0) (fmod_lt _ n0) ⟨B, K1.bag, bag _ s' ?_ s0 s1⟩
        rw [Int.fdiv_eq_ediv_of_nonneg _ (Int.le_of_lt n0)]
        exact Int.ediv_nonneg d0 (Int.le_of_lt n0)
      · refine ⟨_, rfl, _, _, _, _, rfl, rfl, SqL.of hg', rfl, _, _, rfl, rfl, ⟨by decide, by decide, by omega⟩, _, rfl, _, _, _, _, rfl, rfl, SqL.of hg', rfl, _, _, rfl, rfl, .inr ⟨by decide, by decide⟩, _, _, rfl, rfl, _, _, rfl, rfl, .inl ⟨_, rfl, _, _, rfl, rfl, (by show (0 : Int) < 2147483399; decide), ?_⟩⟩
        refine ⟨_, rfl, g, _, _, 3, rfl, rfl, hg', rfl, ?_⟩
        refine ⟨_, rfl, _, _, _, _, rfl, rfl, SqL.of upd_same, rfl, _, _, rfl, rfl, ⟨by decide, by decide⟩, _, rfl, _, _, _, _, rfl, rfl, SqL.of upd_same, rfl, .inl ⟨_, rfl, _, _, rfl, rfl, (by show (0 : Int) < 7901; decide), _, _, rfl, rfl, .inr ⟨by decide, by decide⟩, _, _, rfl, rfl, .inl ⟨_, rfl, _, rfl, _, _, rfl, rfl, (by omega), ?_⟩⟩⟩
        exact k _ _ (fmod_nn _ n0) (fmod_lt _ n0) ⟨B, K1.bag, bag d' _ d0 (Int.emod_nonneg _ (by decide)) (Int.emod_lt_of_pos _ (by decide))⟩
end k03
namespace k03
open PySem L2 LC RM
inductive Src (K : PySem.W.Frag) (g : Addr) (H : Hp) : V → (V → Prop) → Prop where
  | lst {a : Addr} {xs : List V} (h : SqL K H a xs) (n : a ≠ g) (h0 : 0 < xs.length) (h1 : xs.length ≤ 1000000) : Src K g H (.ref a) fun x => x ∈ xs
  | tup {a : Addr} {xs : List V} (h : SqT K H a xs) (n : a ≠ g) (h0 : 0 < xs.length) (h1 : xs.length ≤ 1000000) : Src K g H (.ref a) fun x => x ∈ xs
  | str {z : Str} (h0 : 0 < z.length) (h1 : z.length ≤ 1000000) : Src K g H (.str z) fun x => ∃ c ∈ z.cps.toList, x = .str ⟨#[c]⟩
def spof (K : PySem.W.Frag) : Sp := fun vs H Q _ => ∃ (g l : Addr) (t : V) (F : V → Prop), vs = [.ref g, t] ∧ Bag l H g ∧ Src K g H t F ∧ ∀ x H', F x → Ok g l H H' → Q x H'
theorem ok_of {P : Program} {w : World} {K : PySem.W.Frag} {mg : Str → Option Value} {base : Heap} {f : Addr} {fd : FuncData} (D : Def K mg "_law_of" sof Pof f fd) (T : Txt K mg) {fdraw : Addr} {fddraw : FuncData} (Ddraw : Def K mg "_law_draw" sdraw Pdraw fdraw fddraw) (Gdraw : FnOk P w K mg base CX0 1 fdraw fddraw Pdraw (spdraw)) :
    FnOk P w K mg base CX0 2 f fd Pof (spof K) := by
  refine D.F.ok scof (fun vs H Q E h => ?_) (fun cdv A outer s H vs Q E hr h => ?_)
  · obtain ⟨g, l, t, F, rfl, B, S, k⟩ := h
    rfl
  · obtain ⟨g, l, t, F, rfl, B, S, k⟩ := h
    have hrdraw : Room 1 _ := hr.mono (by decide)
    refine ⟨_, (pss_one (ps_ret (pe_ix ix_seq (pv 1) (pe_call Gdraw hrdraw rfl Ddraw.g Ddraw.F.kp Ddraw.b .nil pass0 (pa_cons (pv 0) (pa_cons (pe_callB call_len (by rfl) T.n_len PySem.boot_len (pa_cons (pv 1) pa_nil)) pa_nil))) (fun _ _ => rfl)))), ?_⟩
    cases S with
    | @lst a xs h n h0 h1 =>
      refine ⟨_, rfl, _, rfl, _, rfl, _, _, rfl, .inl ⟨xs, h, rfl⟩, g, l, _, rfl, B, by omega, by omega, fun d H' d0 d1 r => ?_⟩
      obtain ⟨j, rfl⟩ : ∃ j : Nat, d = (j : Int) := ⟨d.toNat, by omega⟩
      have hj : j < xs.length := by omega
      exact .inl ⟨_, _, _, _, rfl, rfl, SqL.kp r.kp n h, atI_nat (List.getElem?_eq_getElem hj), k _ _ (List.getElem_mem hj) r⟩
    | @tup a xs h n h0 h1 =>
      refine ⟨_, rfl, _, rfl, _, rfl, _, _, rfl, .inr ⟨xs, h, rfl⟩, g, l, _, rfl, B, by omega, by omega, fun d H' d0 d1 r => ?_⟩
      obtain ⟨j, rfl⟩ : ∃ j : Nat, d = (j : Int) := ⟨d.toNat, by omega⟩
      have hj : j < xs.length := by omega
      exact .inr (.inl ⟨_, _, _, _, rfl, rfl, SqT.kp r.kp n h, atI_nat (List.getElem?_eq_getElem hj), k _ _ (List.getElem_mem hj) r⟩)
    | @str z h0 h1 =>
      have hz : z.length ≤ sizeLine := Nat.le_trans h1 (by decide)
      refine ⟨_, rfl, _, rfl, _, rfl, _, _, rfl, ⟨hz, rfl⟩, g, l, _, rfl, B, by omega, by omega, fun d H' d0 d1 r => ?_⟩
      obtain ⟨j, rfl⟩ : ∃ j : Nat, d = (j : Int) := ⟨d.toNat, by omega⟩
      have hj : j < z.cps.toList.length := by
        have e : z.cps.toList.length = z.length := rfl
        omega
      exact .inr (.inr ⟨_, _, _, rfl, rfl, hz, atI_nat (List.getElem?_eq_getElem hj), k _ _ ⟨_, List.getElem_mem hj, rfl⟩ r⟩)
/-- one of the things of a new list -/
theorem of_disp {K : PySem.W.Frag} {g l p : Addr} {H0 H : Hp} {xs : List V} {Q : VK} {E : XK} (R : Ok g l H0 H) (hp : H p = none) (h0 : 0 < xs.length) (h1 : xs.length ≤ 1000000) (k : ∀ x H', x ∈ xs → Kp g H H' → Ok g l H0 H' → Q x H') :
    spof K [.ref g, .ref p] (upd H p (.lst xs)) Q E := by
  refine ⟨g, l, .ref p, _, rfl, (R.new hp).bag, .lst (SqL.of upd_same) (R.bag.ne hp).1 h0 h1, fun x H' hx r => ?_⟩
  exact k x H' hx ((Ok.new (Ok.refl R.bag) hp).kp.trans r.kp) ((R.new hp).trans r)
end k03
namespace k03
open PySem L2 LC RM
def splike (n : Nat) : Sp := fun vs H Q _ => ∃ (u v : V) (m : Nat), vs = [u, v] ∧ m < n ∧ Lk H m u v ∧ ∀ H', Same H H' → Q (.bl true) H'
theorem no_like {vs : List V} {H : Hp} {Q : VK} {E : XK} (h : splike 0 vs H Q E) : False := by
  obtain ⟨_, _, _, _, h, _⟩ := h
  exact Nat.not_lt_zero _ h

theorem step_like {P : Program} {w : World} {K : PySem.W.Frag} {mg : Str → Option Value} {base : Heap} {f : Addr} {fd : FuncData} (D : Def K mg "_law_like" slike Plike f fd) (T : Txt K mg) {n : Nat} (Glike : FnOk P w K mg base CX0 (n + 0) f fd Plike (splike n)) :
    FnOk P w K mg base CX0 (n + 1) f fd Plike (splike (n + 1)) := by
  refine D.F.ok sclike (fun vs H Q E h => ?_) (fun cdv A outer s H vs Q E hr h => ?_)
  · obtain ⟨u, v, m, rfl, hm, hl, k⟩ := h
    rfl
  · obtain ⟨u, v, m, rfl, hm, hl, k⟩ := h
    have Dlike := D
    have hrlike : Room (n + 0) _ := hr
    refine ⟨_, (pss_cons (ps_if (pt_val (pe_callB call_isiT (by rfl) T.n_isinstance (by decide +kernel) (pa_cons (pv 1) (pa_cons (pe_tup (pa_cons (pe_ty "list" (by rfl) T.n_list (by decide +kernel)) (pa_cons (pe_ty "tuple" (by rfl) T.n_tuple (by decide +kernel)) pa_nil))) pa_nil)))) (pss_cons (ps_if (PW.pt (pw_or (pt_cmpR op_ne (pe_callB call_isi (by rfl) T.n_isinstance (by decide +kernel) (pa_cons (pv 0) (pa_cons (pe_ty "list" (by rfl) T.n_list (by decide +kernel)) pa_nil))) (pe_callB call_isi (by rfl) T.n_isinstance (by decide +kernel) (pa_cons (pv 1) (pa_cons (pe_ty "list" (by rfl) T.n_list (by decide +kernel)) pa_nil))) (nomark _)) (pw_or1 (pt_cmpR op_ne (pe_callB call_isi (by rfl) T.n_isinstance (by decide +kernel) (pa_cons (pv 0) (pa_cons (pe_ty "tuple" (by rfl) T.n_tuple (by decide +kernel)) pa_nil))) (pe_callB call_isi (by rfl) T.n_isinstance (by decide +kernel) (pa_cons (pv 1) (pa_cons (pe_ty "tuple" (by rfl) T.n_tuple (by decide +kernel)) pa_nil))) (nomark _))))) (pss_one (ps_ret pe_bl)) pss_nil)
        (pss_one (ps_ret (pe_and (pe_cmpR op_eq (pe_callB call_len (by rfl) T.n_len PySem.boot_len (pa_cons (pv 0) pa_nil)) (pe_callB call_len (by rfl) T.n_len PySem.boot_len (pa_cons (pv 1) pa_nil)) (nomark _)) (pe_one (pe_callB (cr_all rfl) (by rfl) T.n_all (by decide +kernel) (pa_cons (pe_lc (own := [("_law_a", 2), ("_law_b", 3)]) (g := gTup _ 2 (gCons (gName 2) (gCons (gName 3) gNil))) (tt := tYes) rfl sclike.nd (RZ.pi_zipA (by rfl) T.n_zip (pa_cons (pv 0) (pa_cons (pv 1) pa_nil))) (blkOk_by (own := [("_law_a", 2), ("_law_b", 3)]) (N := Nmlike) (sc := defScope slike) (by decide +kernel)) (fun _ _ _ _ _ => by exact (pg_tup rfl (pgs_cons (pg_name (i := 2) sclike.nd rfl (Or.inl rfl)) (pgs_cons (pg_name (i := 3) sclike.nd rfl (Or.inl rfl)) pgs_nil)))) (fun _ _ _ _ _ => pts_nil) (fun _ _ _ _ _ => (pe_call Glike hrlike rfl Dlike.g Dlike.F.kp Dlike.b .nil pass0 (pa_cons (pv 2) (pa_cons (pv 3) pa_nil))))) pa_nil))))))) pss_nil)
        (pss_cons (ps_if (PW.pt (pw_or (pt_cmpR op_isN (pv 1) pe_non (nomark _)) (pw_or1 (pt_cmpR op_isN (pv 0) pe_non (nomark _))))) (pss_one (ps_ret (pe_and (pe_cmpR op_isN (pv 1) pe_non (nomark _)) (pe_one (pe_cmpR op_isN (pv 0) pe_non (nomark _)))))) pss_nil)
        (pss_cons (ps_if (PW.pt (pw_or (pt_val (pe_callB call_isiT (by rfl) T.n_isinstance (by decide +kernel) (pa_cons (pv 0) (pa_cons (pe_tup (pa_cons (pe_ty "list" (by rfl) T.n_list (by decide +kernel)) (pa_cons (pe_ty "tuple" (by rfl) T.n_tuple (by decide +kernel)) pa_nil))) pa_nil)))) (pw_or1 (pt_cmpR op_ne (pe_callB call_isi (by rfl) T.n_isinstance (by decide +kernel) (pa_cons (pv 0) (pa_cons (pe_ty "bool" (by rfl) T.n_bool (by decide +kernel)) pa_nil))) (pe_callB call_isi (by rfl) T.n_isinstance (by decide +kernel) (pa_cons (pv 1) (pa_cons (pe_ty "bool" (by rfl) T.n_bool (by decide +kernel)) pa_nil))) (nomark _))))) (pss_one (ps_ret pe_bl)) pss_nil)
        (pss_cons (ps_if (PW.pt (pw_or (pt_cmpR op_ne (pe_callB call_isi (by rfl) T.n_isinstance (by decide +kernel) (pa_cons (pv 0) (pa_cons (pe_ty "str" (by rfl) T.n_str (by decide +kernel)) pa_nil))) (pe_callB call_isi (by rfl) T.n_isinstance (by decide +kernel) (pa_cons (pv 1) (pa_cons (pe_ty "str" (by rfl) T.n_str (by decide +kernel)) pa_nil))) (nomark _)) (pw_or1 (pt_cmpR op_ne (pe_callB call_isi (by rfl) T.n_isinstance (by decide +kernel) (pa_cons (pv 0) (pa_cons (pe_ty "int" (by rfl) T.n_int (by decide +kernel)) pa_nil))) (pe_callB call_isi (by rfl) T.n_isinstance (by decide +kernel) (pa_cons (pv 1) (pa_cons (pe_ty "int" (by rfl) T.n_int (by decide +kernel)) pa_nil))) (nomark _))))) (pss_one (ps_ret pe_bl)) pss_nil)
        (pss_cons (ps_if (pt_cmpR op_ne (pe_callB call_isi (by rfl) T.n_isinstance (by decide +kernel) (pa_cons (pv 0) (pa_cons (pe_ty "dict" (by rfl) T.n_dict (by decide +kernel)) pa_nil))) (pe_callB call_isi (by rfl) T.n_isinstance (by decide +kernel) (pa_cons (pv 1) (pa_cons (pe_ty "dict" (by rfl) T.n_dict (by decide +kernel)) pa_nil))) (nomark _)) (pss_one (ps_ret pe_bl)) pss_nil)
        (pss_one (ps_ret (pe_callTy call_bool1 (by rfl) T.n_bool (by decide +kernel) (pa_cons (pe_cmpR op_eq (pv 0) (pv 1) (nomark _)) pa_nil))))))))), ?_⟩
    rcases hl.cases with ⟨rfl, hs⟩ | ⟨j, rfl, bb, p, q, xs, ys, rfl, rfl, hp, hq, hn, hz, hi⟩
    · cases u with
      | int c =>
        refine ⟨_, rfl, (by show 2 ≤ sizeLine; decide), fun t1 ht1 => ?_⟩
        have s1 := same_new (o := .tup [.ty "list", .ty "tuple"]) ht1
        refine ⟨_, t1, _, _, _, false, rfl, upd_same, .cons (.ty _) (.cons (.ty _) .nil), .base (.int c), kLT_int, _, rfl, iteF ?_⟩
        generalize upd H t1 (.tup [.ty "list", .ty "tuple"]) = H1 at s1 ⊢
        refine ⟨_, rfl, rfl, _, rfl, ite_d (fun h => by cases h) (fun _ => ⟨_, rfl, rfl, _, rfl, ite_d (fun h => by cases h) (fun _ => ?_)⟩)⟩
        refine ⟨_, rfl, (by show 2 ≤ sizeLine; decide), fun t2 ht2 => ?_⟩
        have s2 := s1.trans (same_new (o := .tup [.ty "list", .ty "tuple"]) ht2)
        refine ⟨_, t2, _, _, _, false, rfl, upd_same, .cons (.ty _) (.cons (.ty _) .nil), .base (.int c), kLT_int, _, rfl, iteF ?_⟩
        generalize upd H1 t2 (.tup [.ty "list", .ty "tuple"]) = H2 at s2 ⊢
        refine ⟨_, rfl, _, _, _, _, _, rfl, .ty _, .base (.int c), kit_ty (show kitB "int" "bool" = some false by decide +kernel), _, rfl, _, _, _, _, _, rfl, .ty _, .base (.int c), kit_ty (show kitB "int" "bool" = some false by decide +kernel), rfl, _, rfl, iteF ?_⟩
        refine ⟨_, rfl, _, _, _, _, _, rfl, .ty _, .base (.int c), kit_ty (show kitB "int" "str" = some false by decide +kernel), _, rfl, _, _, _, _, _, rfl, .ty _, .base (.int c), kit_ty (show kitB "int" "str" = some false by decide +kernel), rfl, _, rfl, iteF ?_⟩
        refine ⟨_, rfl, _, _, _, _, _, rfl, .ty _, .base (.int c), kit_ty (show kitB "int" "int" = some true by decide +kernel), _, rfl, _, _, _, _, _, rfl, .ty _, .base (.int c), kit_ty (show kitB "int" "int" = some true by decide +kernel), rfl, _, rfl, iteF ?_⟩
        refine ⟨_, rfl, _, _, _, _, _, rfl, .ty _, .base (.int c), kit_ty (show kitB "int" "dict" = some false by decide +kernel), _, rfl, _, _, _, _, _, rfl, .ty _, .base (.int c), kit_ty (show kitB "int" "dict" = some false by decide +kernel), rfl, _, rfl, iteF ?_⟩
        refine ⟨_, rfl, _, rfl, rfl, .inr ⟨_, rfl, ?_⟩⟩
        rw [decide_eq_true rfl]
        exact k H2 s2
      | bl c =>
        refine ⟨_, rfl, (by show 2 ≤ sizeLine; decide), fun t1 ht1 => ?_⟩
        have s1 := same_new (o := .tup [.ty "list", .ty "tuple"]) ht1
        refine ⟨_, t1, _, _, _, false, rfl, upd_same, .cons (.ty _) (.cons (.ty _) .nil), .base (.bl c), kLT_bool, _, rfl, iteF ?_⟩
        generalize upd H t1 (.tup [.ty "list", .ty "tuple"]) = H1 at s1 ⊢
        refine ⟨_, rfl, rfl, _, rfl, ite_d (fun h => by cases h) (fun _ => ⟨_, rfl, rfl, _, rfl, ite_d (fun h => by cases h) (fun _ => ?_)⟩)⟩
        refine ⟨_, rfl, (by show 2 ≤ sizeLine; decide), fun t2 ht2 => ?_⟩
        have s2 := s1.trans (same_new (o := .tup [.ty "list", .ty "tuple"]) ht2)
        refine ⟨_, t2, _, _, _, false, rfl, upd_same, .cons (.ty _) (.cons (.ty _) .nil), .base (.bl c), kLT_bool, _, rfl, iteF ?_⟩
        generalize upd H1 t2 (.tup [.ty "list", .ty "tuple"]) = H2 at s2 ⊢
        refine ⟨_, rfl, _, _, _, _, _, rfl, .ty _, .base (.bl c), kit_ty (show kitB "bool" "bool" = some true by decide +kernel), _, rfl, _, _, _, _, _, rfl, .ty _, .base (.bl c), kit_ty (show kitB "bool" "bool" = some true by decide +kernel), rfl, _, rfl, iteF ?_⟩
        refine ⟨_, rfl, _, _, _, _, _, rfl, .ty _, .base (.bl c), kit_ty (show kitB "bool" "str" = some false by decide +kernel), _, rfl, _, _, _, _, _, rfl, .ty _, .base (.bl c), kit_ty (show kitB "bool" "str" = some false by decide +kernel), rfl, _, rfl, iteF ?_⟩
        refine ⟨_, rfl, _, _, _, _, _, rfl, .ty _, .base (.bl c), kit_ty (show kitB "bool" "int" = some true by decide +kernel), _, rfl, _, _, _, _, _, rfl, .ty _, .base (.bl c), kit_ty (show kitB "bool" "int" = some true by decide +kernel), rfl, _, rfl, iteF ?_⟩
        refine ⟨_, rfl, _, _, _, _, _, rfl, .ty _, .base (.bl c), kit_ty (show kitB "bool" "dict" = some false by decide +kernel), _, rfl, _, _, _, _, _, rfl, .ty _, .base (.bl c), kit_ty (show kitB "bool" "dict" = some false by decide +kernel), rfl, _, rfl, iteF ?_⟩
        refine ⟨_, rfl, _, rfl, rfl, .inr ⟨_, rfl, ?_⟩⟩
        rw [decide_eq_true rfl]
        exact k H2 s2
      | str c =>
        refine ⟨_, rfl, (by show 2 ≤ sizeLine; decide), fun t1 ht1 => ?_⟩
        have s1 := same_new (o := .tup [.ty "list", .ty "tuple"]) ht1
        refine ⟨_, t1, _, _, _, false, rfl, upd_same, .cons (.ty _) (.cons (.ty _) .nil), .base (.str c), kLT_str, _, rfl, iteF ?_⟩
        generalize upd H t1 (.tup [.ty "list", .ty "tuple"]) = H1 at s1 ⊢
        refine ⟨_, rfl, rfl, _, rfl, ite_d (fun h => by cases h) (fun _ => ⟨_, rfl, rfl, _, rfl, ite_d (fun h => by cases h) (fun _ => ?_)⟩)⟩
        refine ⟨_, rfl, (by show 2 ≤ sizeLine; decide), fun t2 ht2 => ?_⟩
        have s2 := s1.trans (same_new (o := .tup [.ty "list", .ty "tuple"]) ht2)
        refine ⟨_, t2, _, _, _, false, rfl, upd_same, .cons (.ty _) (.cons (.ty _) .nil), .base (.str c), kLT_str, _, rfl, iteF ?_⟩
        generalize upd H1 t2 (.tup [.ty "list", .ty "tuple"]) = H2 at s2 ⊢
        refine ⟨_, rfl, _, _, _, _, _, rfl, .ty _, .base (.str c), kit_ty (show kitB "str" "bool" = some false by decide +kernel), _, rfl, _, _, _, _, _, rfl, .ty _, .base (.str c), kit_ty (show kitB "str" "bool" = some false by decide +kernel), rfl, _, rfl, iteF ?_⟩
        refine ⟨_, rfl, _, _, _, _, _, rfl, .ty _, .base (.str c), kit_ty (show kitB "str" "str" = some true by decide +kernel), _, rfl, _, _, _, _, _, rfl, .ty _, .base (.str c), kit_ty (show kitB "str" "str" = some true by decide +kernel), rfl, _, rfl, iteF ?_⟩
        refine ⟨_, rfl, _, _, _, _, _, rfl, .ty _, .base (.str c), kit_ty (show kitB "str" "int" = some false by decide +kernel), _, rfl, _, _, _, _, _, rfl, .ty _, .base (.str c), kit_ty (show kitB "str" "int" = some false by decide +kernel), rfl, _, rfl, iteF ?_⟩
        refine ⟨_, rfl, _, _, _, _, _, rfl, .ty _, .base (.str c), kit_ty (show kitB "str" "dict" = some false by decide +kernel), _, rfl, _, _, _, _, _, rfl, .ty _, .base (.str c), kit_ty (show kitB "str" "dict" = some false by decide +kernel), rfl, _, rfl, iteF ?_⟩
        refine ⟨_, rfl, _, rfl, rfl, .inr ⟨_, rfl, ?_⟩⟩
        rw [decide_eq_true rfl]
        exact k H2 s2
      | non =>
        refine ⟨_, rfl, (by show 2 ≤ sizeLine; decide), fun t1 ht1 => ?_⟩
        have s1 := same_new (o := .tup [.ty "list", .ty "tuple"]) ht1
        refine ⟨_, t1, _, _, _, false, rfl, upd_same, .cons (.ty _) (.cons (.ty _) .nil), .base .non, kLT_non, _, rfl, iteF ?_⟩
        generalize upd H t1 (.tup [.ty "list", .ty "tuple"]) = H1 at s1 ⊢
        refine ⟨_, rfl, rfl, _, rfl, ite_d (fun _ => ⟨_, rfl, rfl, _, rfl, ite_d (fun _ => ⟨_, rfl, rfl, ?_⟩) (fun h => absurd rfl h)⟩) (fun h => absurd rfl h)⟩
        rw [decide_eq_true rfl]
        exact k H1 s1
      | _ => exact hs.elim
    · cases bb with
      | true =>
        have hp : H p = some (.lst xs) := hp
        have hq : H q = some (.lst ys) := hq
        refine ⟨_, rfl, (by show 2 ≤ sizeLine; decide), fun t1 ht1 => ?_⟩
        have s1 := same_new (o := .tup [.ty "list", .ty "tuple"]) ht1
        have hp1 := s1 _ _ hp
        have hq1 := s1 _ _ hq
        refine ⟨_, t1, _, _, _, true, rfl, upd_same, .cons (.ty _) (.cons (.ty _) .nil), .base (.lst hq1), kLT_lst, _, rfl, iteT ?_⟩
        generalize upd H t1 (.tup [.ty "list", .ty "tuple"]) = H1 at s1 hp1 hq1 ⊢
        refine ⟨_, rfl, _, _, _, _, _, rfl, .ty _, .base (.lst hp1), kit_ty (show kitB "list" "list" = some true by decide +kernel), _, rfl, _, _, _, _, _, rfl, .ty _, .base (.lst hq1), kit_ty (show kitB "list" "list" = some true by decide +kernel), rfl, _, rfl, iteF ?_⟩
        refine ⟨_, rfl, _, _, _, _, _, rfl, .ty _, .base (.lst hp1), kit_ty (show kitB "list" "tuple" = some false by decide +kernel), _, rfl, _, _, _, _, _, rfl, .ty _, .base (.lst hq1), kit_ty (show kitB "list" "tuple" = some false by decide +kernel), rfl, _, rfl, iteF ?_⟩
        refine ⟨_, rfl, _, _, rfl, .inl ⟨_, SqL.of hp1, rfl⟩, _, rfl, _, _, rfl, .inl ⟨_, SqL.of hq1, rfl⟩, rfl, _, rfl, ite_d (fun _ => ?_) (fun h => absurd (by rw [hn]) h)⟩
        refine ⟨_, rfl, _, rfl, p, q, _, _, rfl, .inl ⟨SqL.of hp1, SqL.of hq1, fun D hD => ?_⟩⟩
        refine lc_it (walk_zip (K := K) (a := p) (b := q) (xs := xs) (ys := ys) (n := xs.length) (by rw [← hn, Nat.min_self])) (fun i H' => i ≤ xs.length ∧ Same H1 H' ∧ H' D = some (.lst ((List.replicate i true).map V.bl)))
          ⟨Nat.zero_le _, same_new hD, upd_same⟩ (fun i H' _ ⟨_, s, _⟩ => ⟨s.seq (SqL.of hp1), s.seq (SqL.of hq1)⟩) ?_ ?_
        · rintro i x H2 H3 hlt ⟨_, s2, h2⟩ ⟨T, x1, x2, rfl, hT, rfl, e1, e2⟩
          have nT : D ≠ T := ne_of_none h2 hT
          refine ⟨T, _, rfl, SqT.of upd_same, rfl, _, _, rfl, _, _, rfl, rfl, rfl, ?_⟩
          have s3 := same_new (o := .tup [x1, x2]) hT
          refine ⟨_, rfl, _, rfl, x1, x2, j, rfl, by omega, ((hi i x1 x2 e1 e2).same s1).same (s2.trans s3), fun H4 s4 => ⟨_, s4 _ _ (s3 _ _ h2), ?_, hlt, fun b o e => ?_, ?_⟩⟩
          · rw [List.length_map, List.length_replicate]
            exact Nat.lt_of_le_of_lt (Nat.le_trans (Nat.le_of_lt hlt) hz) (by decide)
          · rw [upd_ne (ne_of_none e hD)]
            exact s4 _ _ (s3 _ _ (s2 _ _ e))
          · rw [upd_same, List.replicate_succ', List.map_append]
            rfl
        · rintro H2 ⟨_, s2, h2⟩
          refine ⟨D, List.replicate xs.length true, rfl, SqL.of h2, ?_⟩
          have e : (List.replicate xs.length true).all id = true := by simp
          rw [e]
          exact k H2 (s1.trans s2)
      | false =>
        have hp : H p = some (.tup xs) := hp
        have hq : H q = some (.tup ys) := hq
        refine ⟨_, rfl, (by show 2 ≤ sizeLine; decide), fun t1 ht1 => ?_⟩
        have s1 := same_new (o := .tup [.ty "list", .ty "tuple"]) ht1
        have hp1 := s1 _ _ hp
        have hq1 := s1 _ _ hq
        refine ⟨_, t1, _, _, _, true, rfl, upd_same, .cons (.ty _) (.cons (.ty _) .nil), .base (.tup hq1), kLT_tup, _, rfl, iteT ?_⟩
        generalize upd H t1 (.tup [.ty "list", .ty "tuple"]) = H1 at s1 hp1 hq1 ⊢
        refine ⟨_, rfl, _, _, _, _, _, rfl, .ty _, .base (.tup hp1), kit_ty (show kitB "tuple" "list" = some false by decide +kernel), _, rfl, _, _, _, _, _, rfl, .ty _, .base (.tup hq1), kit_ty (show kitB "tuple" "list" = some false by decide +kernel), rfl, _, rfl, iteF ?_⟩
        refine ⟨_, rfl, _, _, _, _, _, rfl, .ty _, .base (.tup hp1), kit_ty (show kitB "tuple" "tuple" = some true by decide +kernel), _, rfl, _, _, _, _, _, rfl, .ty _, .base (.tup hq1), kit_ty (show kitB "tuple" "tuple" = some true by decide +kernel), rfl, _, rfl, iteF ?_⟩
        refine ⟨_, rfl, _, _, rfl, .inr ⟨_, SqT.of hp1, rfl⟩, _, rfl, _, _, rfl, .inr ⟨_, SqT.of hq1, rfl⟩, rfl, _, rfl, ite_d (fun _ => ?_) (fun h => absurd (by rw [hn]) h)⟩
        refine ⟨_, rfl, _, rfl, p, q, _, _, rfl, .inr ⟨SqT.of hp1, SqT.of hq1, fun D hD => ?_⟩⟩
        refine lc_it (walk_zipT (K := K) (a := p) (b := q) (xs := xs) (ys := ys) (n := xs.length) (by rw [← hn, Nat.min_self])) (fun i H' => i ≤ xs.length ∧ Same H1 H' ∧ H' D = some (.lst ((List.replicate i true).map V.bl)))
          ⟨Nat.zero_le _, same_new hD, upd_same⟩ (fun i H' _ ⟨_, s, _⟩ => ⟨sameT s (SqT.of hp1), sameT s (SqT.of hq1)⟩) ?_ ?_
        · rintro i x H2 H3 hlt ⟨_, s2, h2⟩ ⟨T, x1, x2, rfl, hT, rfl, e1, e2⟩
          have nT : D ≠ T := ne_of_none h2 hT
          refine ⟨T, _, rfl, SqT.of upd_same, rfl, _, _, rfl, _, _, rfl, rfl, rfl, ?_⟩
          have s3 := same_new (o := .tup [x1, x2]) hT
          refine ⟨_, rfl, _, rfl, x1, x2, j, rfl, by omega, ((hi i x1 x2 e1 e2).same s1).same (s2.trans s3), fun H4 s4 => ⟨_, s4 _ _ (s3 _ _ h2), ?_, hlt, fun b o e => ?_, ?_⟩⟩
          · rw [List.length_map, List.length_replicate]
            exact Nat.lt_of_le_of_lt (Nat.le_trans (Nat.le_of_lt hlt) hz) (by decide)
          · rw [upd_ne (ne_of_none e hD)]
            exact s4 _ _ (s3 _ _ (s2 _ _ e))
          · rw [upd_same, List.replicate_succ', List.map_append]
            rfl
        · rintro H2 ⟨_, s2, h2⟩
          refine ⟨D, List.replicate xs.length true, rfl, SqL.of h2, ?_⟩
          have e : (List.replicate xs.length true).all id = true := by simp
          rw [e]
          exact k H2 (s1.trans s2)
theorem ok_like {P : Program} {w : World} {K : PySem.W.Frag} {mg : Str → Option Value} {base : Heap} {f : Addr} {fd : FuncData} (D : Def K mg "_law_like" slike Plike f fd) (T : Txt K mg) :
    FnOk P w K mg base CX0 4 f fd Plike (splike 4) := by
  have go : ∀ n : Nat, FnOk P w K mg base CX0 (n + 0) f fd Plike (splike n) := fun n => by
    induction n with
    | zero => exact LC.fn_none fun vs H Q E h => no_like h
    | succ n ih => exact step_like D T ih
  exact go 4
end k03
namespace k03
open PySem L2 LC RM
def splcm : Sp := fun vs H Q _ => ∃ (a b : Int), vs = [.int a, .int b] ∧ 1 ≤ a ∧ a ≤ 1000000 ∧ 1 ≤ b ∧ b ≤ 1000000 ∧ Q (.int (lcmI a b)) H
theorem ok_lcm {P : Program} {w : World} {K : PySem.W.Frag} {mg : Str → Option Value} {base : Heap} {f : Addr} {fd : FuncData} (D : Def K mg "_law_lcm" slcm Plcm f fd) (T : Txt K mg) :
    FnOk P w K mg base CX0 1 f fd Plcm (splcm) := by
  refine D.F.ok sclcm (fun vs H Q E h => ?_) (fun cdv A outer s H vs Q E hr h => ?_)
  · obtain ⟨a, b, rfl, a0, a1, b0, b1, k⟩ := h
    rfl
  · obtain ⟨a, b, rfl, a0, a1, b0, b1, k⟩ := h
    refine ⟨_, (pss_cons (ps_par (i := 2) (j := 3) (by rfl) sclcm.nd rfl rfl (by decide) rfl rfl (pa_cons (pv 0) (pa_cons (pv 1) pa_nil)) (by rfl))
        (pss_cons (ps_while PassesOwn.never (pt_cmpR op_gt (pv 3) pe_int (nomark _)) (pss_one (ps_par (i := 2) (j := 3) (by rfl) sclcm.nd rfl rfl (by decide) rfl rfl (pa_cons (pv 3) (pa_cons (pe_op op_modN (pe_callTy call_int1 (by rfl) T.n_int (by decide +kernel) (pa_cons (pv 2) pa_nil)) (pv 3)) pa_nil)) (by rfl))))
        (pss_one (ps_ret (pe_op op_mul (pe_op op_fdivN (pv 0) (pv 2)) (pv 1)))))), ?_⟩
    obtain ⟨A, rfl⟩ : ∃ A : Nat, a = (A : Int) := ⟨a.toNat, by omega⟩
    obtain ⟨B, rfl⟩ : ∃ B : Nat, b = (B : Int) := ⟨b.toNat, by omega⟩
    refine ⟨_, rfl, _, rfl, _, _, rfl, ?_⟩
    refine ⟨fun m σ H' => ∃ X Y : Nat, σ = [some (.int A), some (.int B), some (.int X), some (.int Y)] ∧ H' = H ∧ m = Y ∧ 0 < X ∧ X ≤ 1000000 ∧ Y ≤ 1000000 ∧ Nat.gcd X Y = Nat.gcd A B, ⟨B, A, B, rfl, rfl, rfl, by omega, by omega, by omega, rfl⟩, ?_⟩
    rintro m σ H' ⟨X, Y, rfl, rfl, rfl, x0, x1, y1, hg⟩
    refine ⟨_, rfl, _, _, rfl, rfl, _, rfl, ite_d (fun hy => ?_) (fun hy => ?_)⟩
    · have hy' : 0 < m := by omega
      have lt := Nat.mod_lt X hy'
      refine ⟨_, fun σ' H' z => z, _, rfl, _, rfl, .inl ⟨_, rfl, _, rfl, _, _, rfl, rfl, by omega, _, _, rfl, X % m, lt, m, X % m, ?_, rfl, rfl, hy', y1, by omega, by rw [gcd_step]; exact hg⟩⟩
      show [some (V.int A), some (V.int B), some (V.int m), some (V.int ((X : Int).fmod (m : Int)))] = _
      rw [fmod_nat]
    · obtain rfl : m = 0 := by omega
      rw [Nat.gcd_zero_right] at hg
      refine ⟨_, rfl, _, rfl, _, _, rfl, rfl, ⟨by omega, by omega⟩, _, rfl, _, _, rfl, rfl, .inr ⟨by omega, by omega⟩, ?_⟩
      show Q (.int ((A : Int).fdiv (X : Int) * (B : Int))) _
      rw [hg, lcm_by]
      exact k
end k03
namespace k03
open PySem L2 LC RM
def spleaf : Sp := fun vs H Q _ => ∃ (g l bx : Addr) (wd : Int) (B : Nat), vs = [.ref g, .int wd, .ref bx] ∧ Bag l H g ∧ bx ≠ g ∧ bx ≠ l ∧ 1 ≤ wd ∧ wd ≤ 1000 ∧ H bx = some (.lst [.int B, .int 2000]) ∧ 1 ≤ B ∧ B ≤ 2000 ∧
  ∀ (p : Pl) (x : Addr) (B' : Nat) H', Kx g bx H H' → Bag l H' g → H' bx = some (.lst [.int B', .int 2000]) → 1 ≤ B' → B' ≤ 2000 → B ∣ B' → p.ok B' → p.leaves = 1 → PlanAt H' p x → Q (.ref x) H'
theorem ok_leaf {P : Program} {w : World} {K : PySem.W.Frag} {mg : Str → Option Value} {base : Heap} {f : Addr} {fd : FuncData} (D : Def K mg "_law_leaf" sleaf Pleaf f fd) (T : Txt K mg) {fdraw : Addr} {fddraw : FuncData} (Ddraw : Def K mg "_law_draw" sdraw Pdraw fdraw fddraw) (Gdraw : FnOk P w K mg base CX0 1 fdraw fddraw Pdraw (spdraw)) {fof : Addr} {fdof : FuncData} (Dof : Def K mg "_law_of" sof Pof fof fdof) (Gof : FnOk P w K mg base CX0 2 fof fdof Pof (spof K)) {flcm : Addr} {fdlcm : FuncData} (Dlcm : Def K mg "_law_lcm" slcm Plcm flcm fdlcm) (Glcm : FnOk P w K mg base CX0 1 flcm fdlcm Plcm (splcm)) :
    FnOk P w K mg base CX0 3 f fd Pleaf (spleaf) := by
  refine D.F.ok scleaf (fun vs H Q E h => ?_) (fun cdv A outer s H vs Q E hr h => ?_)
  · obtain ⟨g, l, bx, wd, B, rfl, bag, bg, bl, w0, w1, hbx, B0, B1, k⟩ := h
    rfl
  · obtain ⟨g, l, bx, wd, B, rfl, bag, bg, bl, w0, w1, hbx, B0, B1, k⟩ := h
    have hrdraw : Room 1 _ := hr.mono (by decide)
    have hrof : Room 2 _ := hr.mono (by decide)
    have hrlcm : Room 1 _ := hr.mono (by decide)
    refine ⟨_, (pss_cons (ps_if (pt_cmpR op_eq (pe_call Gdraw hrdraw rfl Ddraw.g Ddraw.F.kp Ddraw.b .nil pass0 (pa_cons (pv 0) (pa_cons pe_int pa_nil))) pe_int (nomark _)) (pss_one (ps_ret (pe_tup (pa_cons pe_str (pa_cons (pe_op op_add pe_int (pe_call Gdraw hrdraw rfl Ddraw.g Ddraw.F.kp Ddraw.b .nil pass0 (pa_cons (pv 0) (pa_cons (pv 1) pa_nil)))) pa_nil))))) pss_nil)
        (pss_cons (ps_set (i := 3) scleaf.nd rfl (Or.inl rfl) (pe_op op_add pe_int (pe_call Gdraw hrdraw rfl Ddraw.g Ddraw.F.kp Ddraw.b .nil pass0 (pa_cons (pv 0) (pa_cons (pe_ifExp (pt_cmpR op_gt (pv 1) pe_int (nomark _)) pe_int (pv 1)) pa_nil)))))
        (Evl.pss_cut (ps_if (pt_cmpR op_gt (pe_call Glcm hrlcm rfl Dlcm.g Dlcm.F.kp Dlcm.b .nil pass0 (pa_cons (pe_ix ix_list (pv 2) pe_int (fun _ _ => rfl)) (pa_cons (pv 3) pa_nil))) (pe_ix ix_list (pv 2) pe_int (fun _ _ => rfl)) (nomark _)) (pss_one (ps_set (i := 3) scleaf.nd rfl (Or.inl rfl) (pe_call Gof hrof rfl Dof.g Dof.F.kp Dof.b .nil pass0 (pa_cons (pv 0) (pa_cons (pe_lst (pa_cons pe_int (pa_cons (pe_ix ix_list (pv 2) pe_int (fun _ _ => rfl)) pa_nil))) pa_nil))))) pss_nil)
        (pss_cons (ps_asg (pe_call Glcm hrlcm rfl Dlcm.g Dlcm.F.kp Dlcm.b .nil pass0 (pa_cons (pe_ix ix_list (pv 2) pe_int (fun _ _ => rfl)) (pa_cons (pv 3) pa_nil))) (pg_sub (pv 2) pe_int set_list))
        (pss_cons (ps_par (i := 4) (j := 5) (by rfl) scleaf.nd rfl rfl (by decide) rfl rfl (pa_cons (pe_lst pa_nil) (pa_cons pe_int pa_nil)) (by rfl))
        (pss_cons (ps_for PassesOwn.never rfl (pi_range1 rfl T.n_range (pa_cons (pe_call Gof hrof rfl Dof.g Dof.F.kp Dof.b .nil pass0 (pa_cons (pv 0) (pa_cons (pe_lst (pa_cons pe_int (pa_cons pe_int (pa_cons pe_int (pa_cons pe_int (pa_cons pe_int (pa_cons pe_int (pa_cons pe_int (pa_cons pe_int (pa_cons pe_int (pa_cons pe_int pa_nil))))))))))) pa_nil))) pa_nil)) (pg_name (i := 6) scleaf.nd rfl (Or.inl rfl))
          (pss_cons (ps_set (i := 5) scleaf.nd rfl (Or.inl rfl) (pe_op op_add (pe_op op_add (pv 5) pe_int) (pe_call Gdraw hrdraw rfl Ddraw.g Ddraw.F.kp Ddraw.b .nil pass0 (pa_cons (pv 0) (pa_cons (pe_callB (call_min2 rfl) (by rfl) T.n_min (by decide +kernel) (pa_cons (pv 1) (pa_cons pe_int pa_nil))) pa_nil)))))
        (pss_one (ps_expr (pe_bm PySem.F.plainAttrs_list PySem.F.slot_list_append PySem.F.type_list_append mt_append (pv 4) (pa_cons (pv 5) pa_nil))))))
        (pss_one (ps_ret (pe_tup (pa_cons pe_str (pa_cons (pe_callTy call_tuple_of (by rfl) T.n_tuple (by decide +kernel) (pa_cons (pv 4) pa_nil)) (pa_cons (pv 3) pa_nil)))))))))))), ?_⟩
    refine ⟨_, rfl, g, l, 2, rfl, bag, by decide, by decide, fun d H1 d0 d1 r1 => ⟨rfl, _, rfl, ?_⟩⟩
    have x1 : Kx g bx H H1 := (Kx.refl g bx H).ok r1
    have hb1 := r1.at_ hbx bg
    refine ite_eq (fun _ => ?_) (fun _ => ?_)
    · refine ⟨_, rfl, _, rfl, g, l, wd, rfl, r1.bag, by omega, by omega, fun e H2 e0 e1 r2 => ⟨_, _, rfl, rfl, (by show 2 ≤ sizeLine; decide), fun p hp => ?_⟩⟩
      exact k (.win (1 + e)) p B _ ((x1.ok r2).new hp) (r2.new hp).bag (by rw [upd_ne (ne_of_none (r2.at_ hb1 bg) hp)]; exact r2.at_ hb1 bg) B0 B1 (Nat.dvd_refl _) ⟨by omega, by omega⟩ rfl upd_same
    refine ⟨_, rfl, _, rfl, _, _, rfl, rfl, _, rfl, ite_same ?_ (fun c => ⟨g, l, 2000, rfl, r1.bag, by decide, by decide, c⟩) (fun c => ⟨_, rfl, g, l, wd, rfl, r1.bag, by omega, by omega, fun d H' d0 d1 r => c d H' d0 (by omega) r⟩)⟩
    intro d H2 d0 d1 r2
    refine ⟨_, _, rfl, rfl, ?_⟩
    have x2 := x1.ok r2
    have hb2 := r2.at_ hb1 bg
    refine ⟨fun σ H' => ∃ G : Int, σ = [some (.ref g), some (.int wd), some (.ref bx), some (.int G), none, none, none] ∧ 1 ≤ G ∧ G ≤ 2000 ∧ lcmI B G ≤ 2000 ∧ Kx g bx H H' ∧ Bag l H' g ∧ H' bx = some (.lst [.int B, .int 2000]), ?_, ?_⟩
    · refine ⟨_, rfl, _, _, _, _, rfl, rfl, SqL.of hb2, rfl, _, rfl, _, _, rfl, by omega, by omega, by omega, by omega, ?_⟩
      refine ⟨_, rfl, _, _, _, _, rfl, rfl, SqL.of hb2, rfl, _, _, rfl, rfl, _, rfl, ite_d (fun h1 => ?_) (fun h1 => ?_)⟩
      · refine ⟨_, rfl, _, rfl, _, _, _, _, rfl, rfl, SqL.of hb2, rfl, (by show 2 ≤ sizeLine; decide), fun p hp => of_disp (E := E0) r2 hp (by show 0 < 2; decide) (by show 2 ≤ 1000000; decide) fun x H3 hx kk r3 => ?_⟩
        have x3 : Kx g bx H H3 := fun c o n m e => kk c o n (x2 c o n m e)
        have hb3 := kk _ _ bg hb2
        simp only [List.mem_cons, List.not_mem_nil, or_false] at hx
        rcases hx with rfl | rfl
        · exact ⟨_, rfl, by decide, by decide, by rw [lcmI_one]; omega, x3, r3.bag, hb3⟩
        · exact ⟨_, rfl, by omega, by omega, by rw [lcmI_self]; omega, x3, r3.bag, hb3⟩
      · exact ⟨_, rfl, by omega, by omega, by omega, x2, r2.bag, hb2⟩
    · rintro σ H3 ⟨G, rfl, G0, G1, hL, x3, bag3, hb3⟩
      refine ⟨_, rfl, _, _, _, _, rfl, rfl, SqL.of hb3, rfl, _, rfl, _, _, rfl, by omega, by omega, by omega, by omega, ?_⟩
      refine ⟨_, rfl, bx, _, _, 0, rfl, rfl, hb3, rfl, ?_⟩
      have L0 := lcmI_pos (a := B) (b := G) (by omega) (by omega)
      obtain ⟨B', hB'⟩ : ∃ B' : Nat, lcmI B G = (B' : Int) := ⟨_, rfl⟩
      have dB : B ∣ B' := by
        have e : (B : Int) ∣ lcmI B G := (dvd_l (Int.dvd_refl _)).1
        rw [hB'] at e
        exact Int.natCast_dvd_natCast.mp e
      have dG : G.natAbs ∣ B' := by
        have e : G ∣ lcmI B G := (dvd_l (Int.dvd_refl _)).2
        rw [hB'] at e
        exact Int.natCast_dvd_natCast.mp (Int.dvd_trans (Int.natAbs_dvd.mpr (Int.dvd_refl _)) e)
      have hb4 : upd H3 bx (.lst [.int (lcmI B G), .int 2000]) bx = some (.lst [.int B', .int 2000]) := by rw [upd_same, hB']
      have x4 : Kx g bx H (upd H3 bx (.lst [.int (lcmI B G), .int 2000])) := x3.box
      have bag4 : Bag l (upd H3 bx (.lst [.int (lcmI B G), .int 2000])) g := bag3.mut bg bl
      show tSeq _ _ _ _ (upd H3 bx (.lst [.int (lcmI B G), .int 2000]))
      generalize upd H3 bx (.lst [.int (lcmI B G), .int 2000]) = H4 at hb4 x4 bag4 ⊢
      refine ⟨Nat.zero_le _, fun q hq => ⟨_, _, rfl, ?_⟩⟩
      have R5 := (Ok.refl bag4).new (o := .lst []) hq
      have nq := bag4.ne hq
      have qb : bx ≠ q := ne_of_none hb4 hq
      refine ⟨_, rfl, (by show 10 ≤ sizeLine; decide), fun p hp => of_disp (E := E0) R5 hp (by show 0 < 10; decide) (by show 10 ≤ 1000000; decide) fun x H6 hx kk R6 => ?_⟩
      have hq6 := kk _ _ nq.1 (upd_same (H := H4) (a := q) (o := .lst []))
      obtain ⟨n, rfl, n12⟩ : ∃ n : Nat, x = .int n ∧ n ≤ 12 := by
        simp only [List.mem_cons, List.not_mem_nil, or_false] at hx
        rcases hx with rfl | rfl | rfl | rfl | rfl | rfl | rfl | rfl | rfl | rfl
        · exact ⟨0, rfl, by decide⟩
        · exact ⟨1, rfl, by decide⟩
        · exact ⟨2, rfl, by decide⟩
        · exact ⟨0, rfl, by decide⟩
        · exact ⟨1, rfl, by decide⟩
        · exact ⟨3, rfl, by decide⟩
        · exact ⟨0, rfl, by decide⟩
        · exact ⟨2, rfl, by decide⟩
        · exact ⟨12, rfl, by decide⟩
        · exact ⟨5, rfl, by decide⟩
      refine ⟨_, rfl, by omega, by omega, for_range (lo := 0) (n := n) (fun i σ H' => ∃ (bs : List Int) (ed : Int) (v : Option V), σ = [some (.ref g), some (.int wd), some (.ref bx), some (.int G), some (.ref q), some (.int ed), v] ∧ Ok g l H4 H' ∧ H' q = some (.lst (bs.map V.int)) ∧ bs.length = i ∧ Asc 1 bs ∧ (∀ b ∈ bs, b ≤ ed) ∧ 0 ≤ ed ∧ ed ≤ 80 * i)
        ⟨[], 0, none, rfl, R6, hq6, rfl, True.intro, (fun b hb => by cases hb), by decide, by decide⟩ ?_ ?_⟩
      · rintro i σ H7 hi ⟨bs, ed, v, rfl, R7, hq7, hl, hA, hu, e0, e1⟩
        refine ⟨_, rfl, _, _, rfl, rfl, _, rfl, _, rfl, _, _, rfl, ?_⟩
        have mn : (if (80 : Int) < wd then (80 : Int) else wd) ≤ 80 ∧ 0 < (if (80 : Int) < wd then (80 : Int) else wd) := by split <;> omega
        refine ⟨g, l, _, rfl, R7.bag, mn.2, by omega, fun d H8 d0 d1 r8 => ?_⟩
        have hq8 := r8.at_ hq7 nq.1
        refine ⟨_, _, rfl, rfl, ?_⟩
        refine ⟨_, rfl, .inl ⟨rfl, _, SqL.of hq8⟩, _, rfl, q, _, _, rfl, rfl, hq8, by rw [List.length_map, hl]; exact Nat.lt_trans (show i < 13 by omega) (by decide), ?_⟩
        have d2 : d < 80 := by omega
        refine ⟨bs ++ [ed + 1 + d], ed + 1 + d, _, rfl, (R7.trans r8).mut hq, ?_, by rw [List.length_append, hl]; rfl, hA.snoc hu (by omega) (by omega) (by omega), ?_, by omega, by omega⟩
        · rw [upd_same, List.map_append]
          rfl
        · intro b hb
          rcases List.mem_append.mp hb with hb | hb
          · have := hu b hb
            omega
          · rw [List.mem_singleton] at hb
            omega
      · rintro σ H7 ⟨bs, ed, v, rfl, R7, hq7, hl, hA, hu, e0, e1⟩
        refine ⟨_, rfl, q, _, rfl, .inl ⟨SqL.of hq7, fun y hy => ⟨_, rfl, (by show 3 ≤ sizeLine; decide), fun x hx => ?_⟩⟩⟩
        have R8 := R7.new (o := .tup (bs.map V.int)) hy
        have hb8 := R8.at_ hb4 bg
        refine k (.days bs G) x B' _ ((x4.ok R8).new hx) (R8.new hx).bag ?_ (by omega) (by omega) dB ⟨G0, G1, dG, by omega, hA⟩ rfl ⟨y, upd_same, ?_⟩
        · rw [upd_ne (ne_of_none hb8 hx)]
          exact hb8
        · rw [upd_ne (ne_of_none (upd_same (H := H7) (a := y) (o := .tup (bs.map V.int))) hx)]
          exact upd_same
end k03
namespace k03
open PySem L2 LC RM
def spjoined : Sp := fun vs H Q _ => ∃ (g l a : Addr) (L : Nat) (ps : List Pl) (xs : List Addr), vs = [.ref g, .ref a] ∧ Bag l H g ∧ a ≠ g ∧ H a = some (.lst (xs.map V.ref)) ∧ Plans H L ps xs ∧ 1 ≤ xs.length ∧ xs.length ≤ 10 ∧
  ∀ (p : Pl) (x : Addr) H', Ok g l H H' → p.ok L → p.leaves = leavesOf ps → PlanAt H' p x → Q (.ref x) H'
theorem ok_joined {P : Program} {w : World} {K : PySem.W.Frag} {mg : Str → Option Value} {base : Heap} {f : Addr} {fd : FuncData} (D : Def K mg "_law_joined" sjoined Pjoined f fd) (T : Txt K mg) {fdraw : Addr} {fddraw : FuncData} (Ddraw : Def K mg "_law_draw" sdraw Pdraw fdraw fddraw) (Gdraw : FnOk P w K mg base CX0 1 fdraw fddraw Pdraw (spdraw)) {fof : Addr} {fdof : FuncData} (Dof : Def K mg "_law_of" sof Pof fof fdof) (Gof : FnOk P w K mg base CX0 2 fof fdof Pof (spof K)) :
    FnOk P w K mg base CX0 3 f fd Pjoined (spjoined) := by
  refine D.F.ok scjoined (fun vs H Q E h => ?_) (fun cdv A outer s H vs Q E hr h => ?_)
  · obtain ⟨g, l, a, L, ps, xs, rfl, bag, ag, ha, hP, h0, h1, k⟩ := h
    rfl
  · obtain ⟨g, l, a, L, ps, xs, rfl, bag, ag, ha, hP, h0, h1, k⟩ := h
    have hrdraw : Room 1 _ := hr.mono (by decide)
    have hrof : Room 2 _ := hr.mono (by decide)
    refine ⟨_, (pss_cons (ps_set (i := 2) scjoined.nd rfl (Or.inl rfl) (pe_callTy call_list_of (by rfl) T.n_list (by decide +kernel) (pa_cons (pv 1) pa_nil)))
        (pss_cons (ps_for PassesOwn.never rfl (pi_range1 rfl T.n_range (pa_cons (pe_op op_sub (pe_callB call_len_seq (by rfl) T.n_len PySem.boot_len (pa_cons (pv 1) pa_nil)) pe_int) pa_nil)) (pg_name (i := 3) scjoined.nd rfl (Or.inl rfl))
          (pss_cons (ps_set (i := 4) scjoined.nd rfl (Or.inl rfl) (pe_call Gdraw hrdraw rfl Ddraw.g Ddraw.F.kp Ddraw.b .nil pass0 (pa_cons (pv 0) (pa_cons (pe_op op_sub (pe_callB call_len_seq (by rfl) T.n_len PySem.boot_len (pa_cons (pv 2) pa_nil)) pe_int) pa_nil))))
        (pss_cons (ps_set (i := 5) scjoined.nd rfl (Or.inl rfl) (pe_bm PySem.F.plainAttrs_list PySem.F.slot_list_pop PySem.F.type_list_pop mt_popAt (pv 2) (pa_cons (pe_op op_add (pv 4) pe_int) pa_nil)))
        (pss_one (ps_asg (pe_tup (pa_cons (pe_call Gof hrof rfl Dof.g Dof.F.kp Dof.b .nil pass0 (pa_cons (pv 0) (pa_cons (pe_lst (pa_cons pe_str (pa_cons pe_str (pa_cons pe_str pa_nil)))) pa_nil))) (pa_cons (pe_ix ix_list (pv 2) (pv 4) (fun _ _ => rfl)) (pa_cons (pv 5) pa_nil)))) (pg_sub (pv 2) (pv 4) set_list))))))
        (pss_one (ps_ret (pe_ix ix_list (pv 2) pe_int (fun _ _ => rfl)))))), ?_⟩
    refine ⟨_, rfl, _, _, rfl, .inl (SqL.of ha), fun sm hsm => ?_⟩
    have r0 := (Ok.refl bag).new (o := .lst (xs.map V.ref)) hsm
    have nsm := bag.ne hsm
    have ha1 : upd H sm (.lst (xs.map V.ref)) a = some (.lst (xs.map V.ref)) := by rw [upd_ne (ne_of_none ha hsm)]; exact ha
    have en : (((xs.map V.ref).length : Int) - 1).toNat = xs.length - 1 := by rw [List.length_map]; omega
    refine ⟨_, rfl, _, _, rfl, .inl (SqL.of ha1), _, _, rfl, rfl, _, rfl, by rw [List.length_map]; omega, by rw [List.length_map]; omega, for_range (lo := 0) (fun i σ H' => ∃ (ps' : List Pl) (xs' : List Addr) (v1 v2 v3 : Option V), σ = [some (.ref g), some (.ref a), some (.ref sm), v1, v2, v3] ∧ Ok g l H H' ∧ H' sm = some (.lst (xs'.map V.ref)) ∧ Plans H' L ps' xs' ∧ xs'.length + i = xs.length ∧ leavesOf ps' = leavesOf ps)
      ⟨ps, xs, none, none, none, rfl, r0, upd_same, hP.kt (Kt.new hsm), rfl, rfl⟩ ?_ ?_⟩
    · rintro i σ H1 hi ⟨ps', xs', v1, v2, v3, rfl, r1, hs1, hP1, hn, hlv⟩
      rw [en] at hi
      refine ⟨_, rfl, _, rfl, _, _, rfl, .inl (SqL.of hs1), _, _, rfl, rfl, ?_⟩
      refine ⟨g, l, _, rfl, r1.bag, by rw [List.length_map]; omega, by rw [List.length_map]; omega, fun d H2 d0 d1 r2 => ?_⟩
      rw [List.length_map] at d1
      obtain ⟨j, rfl⟩ : ∃ j : Nat, d = (j : Int) := ⟨d.toNat, by omega⟩
      have j1 : j + 1 < xs'.length := by omega
      have hs2 := r2.at_ hs1 nsm.1
      have hP2 := hP1.kt (Kt.ok r2)
      obtain ⟨x, y, p, q, ex, ey, op, oq, hp2, hq2, hJ⟩ := hP2.join j1
      refine ⟨_, rfl, .inl ⟨rfl, _, SqL.of hs2⟩, _, rfl, _, _, rfl, rfl, sm, _, _, j + 1, .ref y, rfl, rfl, hs2, by omega, by omega, ?_, ?_, ?_⟩
      · rw [List.length_map]
        exact (ixN_seq (i := (j : Int) + 1) (ixN_nat j1)).1
      · rw [List.getElem?_map, ey]
        rfl
      have R3 := (r1.trans r2).mut (o := .lst ((xs'.map V.ref).eraseIdx (j + 1))) hsm
      have hs3 : upd H2 sm (.lst ((xs'.map V.ref).eraseIdx (j + 1))) sm = some (.lst ((xs'.map V.ref).eraseIdx (j + 1))) := upd_same
      have k3 := Kt.lst (o := .lst ((xs'.map V.ref).eraseIdx (j + 1))) hs2
      generalize upd H2 sm (.lst ((xs'.map V.ref).eraseIdx (j + 1))) = H3 at R3 hs3 k3 ⊢
      refine ⟨_, rfl, (by show 3 ≤ sizeLine; decide), fun pd hpd => of_disp (E := E0) R3 hpd (by show 0 < 3; decide) (by show 3 ≤ 1000000; decide) fun z H4 hz kk R4 => ?_⟩
      have hs4 := kk _ _ nsm.1 hs3
      have k4 : Kt H2 H4 := fun b ts e => by
        have e3 := k3 b ts e
        refine kk b _ (fun zz => ?_) e3
        obtain ⟨⟨ys, q3⟩, _⟩ := R3.bag.there
        rw [zz, q3] at e3
        cases e3
      have hx4 : ((xs'.map V.ref).eraseIdx (j + 1))[j]? = some (.ref x) := by
        rw [List.getElem?_eraseIdx, if_pos (Nat.lt_succ_self j), List.getElem?_map, ex]
        rfl
      refine ⟨_, rfl, _, rfl, _, _, _, _, rfl, rfl, SqL.of hs4, atI_nat hx4, _, rfl, (by show 3 ≤ sizeLine; decide), fun T hT => ?_⟩
      have R5 := R4.new (o := .tup [z, .ref x, .ref y]) hT
      have hs5 : upd H4 T (.tup [z, .ref x, .ref y]) sm = some (.lst ((xs'.map V.ref).eraseIdx (j + 1))) := by rw [upd_ne (ne_of_none hs4 hT)]; exact hs4
      have jl : j < ((xs'.map V.ref).eraseIdx (j + 1)).length := (List.getElem?_eq_some_iff.mp hx4).1
      refine ⟨_, rfl, _, rfl, sm, _, _, j, rfl, rfl, hs5, ixN_nat jl, ?_⟩
      have R6 := R5.mut (o := .lst (((xs'.map V.ref).eraseIdx (j + 1)).set j (.ref T))) hsm
      have k6 : Kt H2 (upd (upd H4 T (.tup [z, .ref x, .ref y])) sm (.lst (((xs'.map V.ref).eraseIdx (j + 1)).set j (.ref T)))) := k4.trans ((Kt.new hT).trans (Kt.lst hs5))
      have hT6 : (upd (upd H4 T (.tup [z, .ref x, .ref y])) sm (.lst (((xs'.map V.ref).eraseIdx (j + 1)).set j (.ref T)))) T = some (.tup [z, .ref x, .ref y]) := by rw [upd_ne (Ne.symm (ne_of_none hs4 hT)), upd_same]
      have fin : ∀ r : Pl, r.ok L → PlanAt (upd (upd H4 T (.tup [z, .ref x, .ref y])) sm (.lst (((xs'.map V.ref).eraseIdx (j + 1)).set j (.ref T)))) r T → r.leaves = p.leaves + q.leaves → ∃ (ps2 : List Pl) (xs2 : List Addr), (upd (upd H4 T (.tup [z, .ref x, .ref y])) sm (.lst (((xs'.map V.ref).eraseIdx (j + 1)).set j (.ref T)))) sm = some (.lst (xs2.map V.ref)) ∧ Plans (upd (upd H4 T (.tup [z, .ref x, .ref y])) sm (.lst (((xs'.map V.ref).eraseIdx (j + 1)).set j (.ref T)))) L ps2 xs2 ∧ xs2.length + (i + 1) = xs.length ∧ leavesOf ps2 = leavesOf ps := fun r o1 o2 o3 => by
        obtain ⟨ps2, g1, g2⟩ := hJ _ r T k6 o1 o2 o3
        refine ⟨ps2, _, ?_, g1, ?_, g2.trans hlv⟩
        · rw [upd_same, map_erase, ← List.map_set]
        · rw [List.length_set, List.length_eraseIdx, if_pos j1]
          omega
      simp only [List.mem_cons, List.not_mem_nil, or_false] at hz
      rcases hz with rfl | rfl | rfl
      · obtain ⟨ps2, xs2, g1, g2, g3, g4⟩ := fin (.lat p q) ⟨op, oq⟩ ⟨x, y, hT6, hp2.kt k6, hq2.kt k6⟩ rfl
        exact ⟨ps2, xs2, _, _, _, rfl, R6, g1, g2, g3, g4⟩
      · obtain ⟨ps2, xs2, g1, g2, g3, g4⟩ := fin (.soo p q) ⟨op, oq⟩ ⟨x, y, hT6, hp2.kt k6, hq2.kt k6⟩ rfl
        exact ⟨ps2, xs2, _, _, _, rfl, R6, g1, g2, g3, g4⟩
      · obtain ⟨ps2, xs2, g1, g2, g3, g4⟩ := fin (.nex p q) ⟨op, oq⟩ ⟨x, y, hT6, hp2.kt k6, hq2.kt k6⟩ rfl
        exact ⟨ps2, xs2, _, _, _, rfl, R6, g1, g2, g3, g4⟩
    · rintro σ H1 ⟨ps', xs', v1, v2, v3, rfl, r1, hs1, hP1, hn, hlv⟩
      rw [en] at hn
      match ps', xs', hP1, hn, hlv, hs1 with
      | [p], [x], .cons o hp .nil, _, hlv, hs1 =>
        refine ⟨_, rfl, _, _, _, _, rfl, rfl, SqL.of hs1, rfl, k p x H1 r1 o ?_ hp⟩
        rw [← hlv]
        rfl
      | [], [], .nil, hn, _, _ => exact absurd hn (by show ¬ 0 + (xs.length - 1) = xs.length; omega)
      | _ :: _ :: ps2, _ :: _ :: xs2, .cons _ _ (.cons _ _ _), hn, _, _ => exact absurd hn (by simp only [List.length_cons]; omega)
end k03
namespace k03
open PySem L2 LC RM
def spplan : Sp := fun vs H Q _ => ∃ (g l bx : Addr) (wd : Int), vs = [.ref g, .int wd, .ref bx] ∧ Bag l H g ∧ bx ≠ g ∧ bx ≠ l ∧ 1 ≤ wd ∧ wd ≤ 1000 ∧ H bx = some (.lst [.int 1, .int 2000]) ∧
  ∀ (p : Pl) (x : Addr) (B : Nat) H', Kx g bx H H' → Bag l H' g → 1 ≤ B → B ≤ 2000 → p.ok B → p.leaves ≤ 3 → PlanAt H' p x → Q (.ref x) H'
theorem ok_plan {P : Program} {w : World} {K : PySem.W.Frag} {mg : Str → Option Value} {base : Heap} {f : Addr} {fd : FuncData} (D : Def K mg "_law_plan" splan Pplan f fd) (T : Txt K mg) {fof : Addr} {fdof : FuncData} (Dof : Def K mg "_law_of" sof Pof fof fdof) (Gof : FnOk P w K mg base CX0 2 fof fdof Pof (spof K)) {fleaf : Addr} {fdleaf : FuncData} (Dleaf : Def K mg "_law_leaf" sleaf Pleaf fleaf fdleaf) (Gleaf : FnOk P w K mg base CX0 3 fleaf fdleaf Pleaf (spleaf)) {fjoined : Addr} {fdjoined : FuncData} (Djoined : Def K mg "_law_joined" sjoined Pjoined fjoined fdjoined) (Gjoined : FnOk P w K mg base CX0 3 fjoined fdjoined Pjoined (spjoined)) :
    FnOk P w K mg base CX0 4 f fd Pplan (spplan) := by
  refine D.F.ok scplan (fun vs H Q E h => ?_) (fun cdv A outer s H vs Q E hr h => ?_)
  · obtain ⟨g, l, bx, wd, rfl, bag, bg, bl, w0, w1, hbx, k⟩ := h
    rfl
  · obtain ⟨g, l, bx, wd, rfl, bag, bg, bl, w0, w1, hbx, k⟩ := h
    have hrof : Room 2 _ := hr.mono (by decide)
    have hrleaf : Room 3 _ := hr.mono (by decide)
    have hrjoined : Room 3 _ := hr.mono (by decide)
    refine ⟨_, (pss_cons (ps_set (i := 3) scplan.nd rfl (Or.inl rfl) (pe_call Gof hrof rfl Dof.g Dof.F.kp Dof.b .nil pass0 (pa_cons (pv 0) (pa_cons (pe_lst (pa_cons pe_int (pa_cons pe_int (pa_cons pe_int (pa_cons pe_int (pa_cons pe_int pa_nil)))))) pa_nil))))
        (pss_one (ps_ret (pe_call Gjoined hrjoined rfl Djoined.g Djoined.F.kp Djoined.b .nil pass0 (pa_cons (pv 0) (pa_cons (pe_lc (own := [("_law_k", 4)]) (g := gName 4) (tt := tYes) rfl scplan.nd (pi_range1 rfl T.n_range (pa_cons (pv 3) pa_nil)) (blkOk_by (own := [("_law_k", 4)]) (N := Nmplan) (sc := defScope splan) (by decide +kernel)) (fun _ _ _ _ _ => pg_name (i := 4) scplan.nd rfl (Or.inl rfl)) (fun _ _ _ _ _ => pts_nil) (fun _ _ _ _ _ => (pe_call Gleaf hrleaf rfl Dleaf.g Dleaf.F.kp Dleaf.b .nil pass0 (pa_cons (pv 0) (pa_cons (pv 1) (pa_cons (pv 2) pa_nil)))))) pa_nil)))))), ?_⟩
    refine ⟨_, rfl, (by show 5 ≤ sizeLine; decide), fun p hp => of_disp (E := E0) (Ok.refl bag) hp (by show 0 < 5; decide) (by show 5 ≤ 1000000; decide) fun x H1 hx kk r1 => ?_⟩
    obtain ⟨n, rfl, n0, n3⟩ : ∃ n : Nat, x = .int n ∧ 1 ≤ n ∧ n ≤ 3 := by
      simp only [List.mem_cons, List.not_mem_nil, or_false] at hx
      rcases hx with rfl | rfl | rfl | rfl | rfl
      · exact ⟨1, rfl, by decide, by decide⟩
      · exact ⟨2, rfl, by decide, by decide⟩
      · exact ⟨1, rfl, by decide, by decide⟩
      · exact ⟨3, rfl, by decide, by decide⟩
      · exact ⟨2, rfl, by decide, by decide⟩
    have hb1 := r1.at_ hbx bg
    have x1 : Kx g bx H H1 := (Kx.refl g bx H).ok r1
    refine ⟨_, rfl, _, rfl, _, rfl, by omega, by omega, fun D hD => ?_⟩
    have nD := r1.bag.ne hD
    have nDb : bx ≠ D := ne_of_none hb1 hD
    have hb1' : upd H1 D (.lst []) bx = some (.lst [.int 1, .int 2000]) := by rw [upd_ne nDb]; exact hb1
    refine lc_it (walk_range (lo := 0) (n := n)) (fun i H' => ∃ (ps : List Pl) (xs : List Addr) (B : Nat), Kx g bx H H' ∧ Bag l H' g ∧ H' bx = some (.lst [.int B, .int 2000]) ∧ 1 ≤ B ∧ B ≤ 2000 ∧ H' D = some (.lst (xs.map V.ref)) ∧ Plans H' B ps xs ∧ xs.length = i ∧ leavesOf ps = i)
      ⟨[], [], 1, x1.new hD, (r1.new hD).bag, hb1', by decide, by decide, upd_same, .nil, rfl, rfl⟩ (fun _ _ _ _ => True.intro) ?_ ?_
    · rintro i y H2 H2' hi ⟨ps, xs, B, x2, bag2, hb2, B0, B1, hD2, hP, hl, hlv⟩ ⟨rfl, rfl⟩
      refine ⟨rfl, _, rfl, _, rfl, _, rfl, g, l, bx, wd, B, rfl, bag2, bg, bl, w0, w1, hb2, B0, B1, fun q z B' H3 x3 bag3 hb3 B0' B1' dB oq lq hq => ?_⟩
      have hD3 := x3 _ _ nD.1 (Ne.symm nDb) hD2
      have kt3 := x3.kt bag2 hb2
      refine ⟨_, hD3, by rw [List.length_map, hl]; exact Nat.lt_trans (show i < 4 by omega) (by decide), ps ++ [q], xs ++ [z], B', (x2.trans x3).mut ?_, bag3.mut nD.1 nD.2, by rw [upd_ne nDb]; exact hb3, B0', B1', ?_, ?_, by rw [List.length_append, hl]; rfl, by rw [leaves_snoc, hlv, lq]⟩
      · exact x1.free nD.1 (Ne.symm nDb) hD
      · rw [upd_same, List.map_append]
        rfl
      · exact (((hP.kt kt3).mono dB).snoc oq hq).kt (Kt.lst hD3)
    · rintro H2 ⟨ps, xs, B, x2, bag2, hb2, B0, B1, hD2, hP, hl, hlv⟩
      exact ⟨g, l, D, B, ps, xs, rfl, bag2, nD.1, hD2, hP, by omega, by omega, fun q z H3 r3 oq lq hq => k q z B H3 (x2.ok r3) r3.bag B0 B1 oq (by omega) hq⟩
end k03
namespace k03
open PySem L2 LC RM
def spat (n : Nat) : Sp := fun vs H Q _ => ∃ (x : Addr) (p : Pl) (L : Nat) (s : Int), vs = [.ref x, .int s] ∧ PlanAt H p x ∧ p.ok L ∧ p.h < n ∧ Q (.int (p.at s)) H
theorem no_at {vs : List V} {H : Hp} {Q : VK} {E : XK} (h : spat 0 vs H Q E) : False := by
  obtain ⟨_, _, _, _, _, _, _, h, _⟩ := h
  exact Nat.not_lt_zero _ h

theorem step_at {P : Program} {w : World} {K : PySem.W.Frag} {mg : Str → Option Value} {base : Heap} {f : Addr} {fd : FuncData} (D : Def K mg "_law_at" sat Pat f fd) (T : Txt K mg) {n : Nat} (Gat : FnOk P w K mg base CX0 (n + 0) f fd Pat (spat n)) :
    FnOk P w K mg base CX0 (n + 1) f fd Pat (spat (n + 1)) := by
  refine D.F.ok scat (fun vs H Q E h => ?_) (fun cdv A outer s H vs Q E hr h => ?_)
  · obtain ⟨x, p, L, s', rfl, hx, o, hh, k⟩ := h
    rfl
  · obtain ⟨x, p, L, s', rfl, hx, o, hh, k⟩ := h
    have Dat := D
    have hrat : Room (n + 0) _ := hr
    refine ⟨_, (pss_cons (ps_if (pt_cmpR op_eq (pe_ix ix_tup (pv 0) pe_int (fun _ _ => rfl)) pe_str (nomark _)) (pss_one (ps_ret (pe_op op_add (pv 1) (pe_ix ix_tup (pv 0) pe_int (fun _ _ => rfl))))) pss_nil)
        (pss_cons (ps_if (pt_cmpR op_eq (pe_ix ix_tup (pv 0) pe_int (fun _ _ => rfl)) pe_str (nomark _)) (pss_cons (ps_for PassesOwn.never rfl (pi_tup (pe_ix ix_tup (pv 0) pe_int (fun _ _ => rfl))) (pg_name (i := 2) scat.nd rfl (Or.inl rfl))
          (pss_one (ps_if (pt_cmpR op_gt (pv 2) (pv 1) (nomark _)) (pss_one (ps_ret (pv 2))) pss_nil)))
        (pss_cons (ps_set (i := 3) scat.nd rfl (Or.inl rfl) (pe_ifExp (pt_truth (pe_ix ix_tup (pv 0) pe_int (fun _ _ => rfl)) (by intro _; rfl)) (pe_ix ix_tup (pe_ix ix_tup (pv 0) pe_int (fun _ _ => rfl)) (pe_un un_neg pe_int) (fun _ _ => rfl)) pe_int))
        (pss_one (ps_ret (pe_op op_add (pv 3) (pe_op op_mul (pe_op op_add (pe_op op_fdivN (pe_op op_sub (pv 1) (pv 3)) (pe_ix ix_tup (pv 0) pe_int (fun _ _ => rfl))) pe_int) (pe_ix ix_tup (pv 0) pe_int (fun _ _ => rfl)))))))) pss_nil)
        (pss_cons (ps_if (pt_cmpR op_eq (pe_ix ix_tup (pv 0) pe_int (fun _ _ => rfl)) pe_str (nomark _)) (pss_one (ps_ret (pe_call Gat hrat rfl Dat.g Dat.F.kp Dat.b .nil pass0 (pa_cons (pe_ix ix_tup (pv 0) pe_int (fun _ _ => rfl)) (pa_cons (pe_call Gat hrat rfl Dat.g Dat.F.kp Dat.b .nil pass0 (pa_cons (pe_ix ix_tup (pv 0) pe_int (fun _ _ => rfl)) (pa_cons (pv 1) pa_nil))) pa_nil))))) pss_nil)
        (pss_cons (ps_par (i := 4) (j := 5) (by rfl) scat.nd rfl rfl (by decide) rfl rfl (pa_cons (pe_call Gat hrat rfl Dat.g Dat.F.kp Dat.b .nil pass0 (pa_cons (pe_ix ix_tup (pv 0) pe_int (fun _ _ => rfl)) (pa_cons (pv 1) pa_nil))) (pa_cons (pe_call Gat hrat rfl Dat.g Dat.F.kp Dat.b .nil pass0 (pa_cons (pe_ix ix_tup (pv 0) pe_int (fun _ _ => rfl)) (pa_cons (pv 1) pa_nil))) pa_nil)) (by rfl))
        (pss_one (ps_ret (pe_ifExp (pt_cmpR op_eq (pe_ix ix_tup (pv 0) pe_int (fun _ _ => rfl)) pe_str (nomark _)) (pe_callB (call_max2 rfl) (by rfl) T.n_max (by decide +kernel) (pa_cons (pv 4) (pa_cons (pv 5) pa_nil))) (pe_callB (call_min2 rfl) (by rfl) T.n_min (by decide +kernel) (pa_cons (pv 4) (pa_cons (pv 5) pa_nil)))))))))), ?_⟩
    have ev : ∀ {m : Int} {Z : VK}, Z (.int m) H → m = p.at s' → Q (.int (p.at s')) H := fun _ _ => k
    cases p with
    | win w =>
      refine ⟨_, rfl, _, _, _, _, rfl, rfl, SqT.of hx, rfl, rfl, _, rfl, iteT ?_⟩
      exact ⟨_, rfl, _, rfl, _, _, _, _, rfl, rfl, SqT.of hx, rfl, _, _, rfl, rfl, k⟩
    | days bs e =>
      obtain ⟨y, hx, hy⟩ := hx
      refine ⟨_, rfl, _, _, _, _, rfl, rfl, SqT.of hx, rfl, rfl, _, rfl, iteF ?_⟩
      refine ⟨_, rfl, _, _, _, _, rfl, rfl, SqT.of hx, rfl, rfl, _, rfl, iteT ?_⟩
      refine ⟨_, rfl, _, _, _, _, rfl, rfl, SqT.of hx, rfl, y, rfl, ⟨_, SqT.of hy⟩, for_tup (K := K) (a := y) (xs := bs.map V.int) (fun i σ H' => ∃ v : Option V, σ = [some (.ref x), some (.int s'), v, none, none, none] ∧ H' = H ∧ bs.find? (fun c => decide (c > s')) = (bs.drop i).find? (fun c => decide (c > s')))
        ⟨none, rfl, rfl, rfl⟩ (fun i σ H' _ ⟨_, _, e, _⟩ => by rw [e]; exact SqT.of hy) ?_ ?_⟩
      · rintro i yy σ H' hi ⟨v, rfl, rfl, hf⟩
        rw [List.getElem?_map] at hi
        obtain ⟨c, hc, rfl⟩ : ∃ c, bs[i]? = some c ∧ V.int c = yy := by
          cases q : bs[i]? with
          | none => rw [q] at hi; cases hi
          | some c => rw [q] at hi; exact ⟨c, rfl, Option.some.inj hi⟩
        obtain ⟨hlt, rfl⟩ := List.getElem?_eq_some_iff.mp hc
        rw [List.drop_eq_getElem_cons hlt, List.find?_cons] at hf
        refine ⟨_, rfl, _, rfl, _, _, rfl, rfl, _, rfl, ite_d (fun h1 => ?_) (fun h1 => ?_)⟩
        · rw [decide_eq_true (show bs[i] > s' from h1)] at hf
          refine ⟨_, rfl, ?_⟩
          have e1 : (Pl.days bs e).at s' = bs[i] := dayAt_some hf
          rw [← e1]
          exact k
        · rw [decide_eq_false (show ¬ bs[i] > s' from h1)] at hf
          exact ⟨_, rfl, rfl, hf⟩
      · rintro σ H' ⟨v, rfl, rfl, hf⟩
        rw [List.length_map, List.drop_length] at hf
        have e1 : (Pl.days bs e).at s' = lastOf bs + ((s' - lastOf bs) / e + 1) * e := dayAt_none hf
        have e0 := o.1
        have e2 := o.2.1
        have ed : (s' - lastOf bs).fdiv e = (s' - lastOf bs) / e := Int.fdiv_eq_ediv_of_nonneg _ (by omega)
        refine ⟨_, rfl, _, _, _, _, rfl, rfl, SqT.of hx, rfl, !(bs.map V.int).isEmpty, .inr (.inl ⟨_, SqT.of hy, rfl⟩), ?_⟩
        cases bs with
        | nil =>
          refine iteF ?_
          refine ⟨_, rfl, _, rfl, _, rfl, _, _, rfl, rfl, _, rfl, _, _, _, _, rfl, rfl, SqT.of hx, rfl, _, _, rfl, rfl, ⟨by omega, by omega⟩, _, _, rfl, rfl, _, rfl, _, _, _, _, rfl, rfl, SqT.of hx, rfl, _, _, rfl, rfl, .inr ⟨by omega, by omega⟩, _, _, rfl, rfl, ?_⟩
          show Q (.int (lastOf [] + ((s' - lastOf []).fdiv e + 1) * e)) _
          rw [ed, ← e1]
          exact k
        | cons b r =>
          refine iteT ⟨_, rfl, _, _, _, _, rfl, rfl, SqT.of hx, rfl, _, rfl, _, _, _, _, rfl, rfl, SqT.of hy, last_ix (by simp), ?_⟩
          refine ⟨_, rfl, _, rfl, _, rfl, _, _, rfl, rfl, _, rfl, _, _, _, _, rfl, rfl, SqT.of hx, rfl, _, _, rfl, rfl, ⟨by omega, by omega⟩, _, _, rfl, rfl, _, rfl, _, _, _, _, rfl, rfl, SqT.of hx, rfl, _, _, rfl, rfl, .inr ⟨by omega, by omega⟩, _, _, rfl, rfl, ?_⟩
          show Q (.int (lastOf (b :: r) + ((s' - lastOf (b :: r)).fdiv e + 1) * e)) _
          rw [ed, ← e1]
          exact k
    | lat p q =>
      obtain ⟨y, z, hx, hp, hq⟩ := hx
      have hh' : 1 + max p.h q.h < n + 1 := hh
      refine ⟨_, rfl, _, _, _, _, rfl, rfl, SqT.of hx, rfl, rfl, _, rfl, iteF ?_⟩
      refine ⟨_, rfl, _, _, _, _, rfl, rfl, SqT.of hx, rfl, rfl, _, rfl, iteF ?_⟩
      refine ⟨_, rfl, _, _, _, _, rfl, rfl, SqT.of hx, rfl, rfl, _, rfl, iteF ?_⟩
      refine ⟨_, rfl, _, _, _, _, rfl, rfl, SqT.of hx, rfl, _, rfl, y, p, L, s', rfl, hp, o.1, by omega, ?_⟩
      refine ⟨_, rfl, _, _, _, _, rfl, rfl, SqT.of hx, rfl, _, rfl, z, q, L, s', rfl, hq, o.2, by omega, _, _, rfl, ?_⟩
      exact ⟨_, rfl, _, _, _, _, rfl, rfl, SqT.of hx, rfl, rfl, _, rfl, iteT ⟨_, rfl, _, rfl, _, _, rfl, k⟩⟩
    | soo p q =>
      obtain ⟨y, z, hx, hp, hq⟩ := hx
      have hh' : 1 + max p.h q.h < n + 1 := hh
      refine ⟨_, rfl, _, _, _, _, rfl, rfl, SqT.of hx, rfl, rfl, _, rfl, iteF ?_⟩
      refine ⟨_, rfl, _, _, _, _, rfl, rfl, SqT.of hx, rfl, rfl, _, rfl, iteF ?_⟩
      refine ⟨_, rfl, _, _, _, _, rfl, rfl, SqT.of hx, rfl, rfl, _, rfl, iteF ?_⟩
      refine ⟨_, rfl, _, _, _, _, rfl, rfl, SqT.of hx, rfl, _, rfl, y, p, L, s', rfl, hp, o.1, by omega, ?_⟩
      refine ⟨_, rfl, _, _, _, _, rfl, rfl, SqT.of hx, rfl, _, rfl, z, q, L, s', rfl, hq, o.2, by omega, _, _, rfl, ?_⟩
      exact ⟨_, rfl, _, _, _, _, rfl, rfl, SqT.of hx, rfl, rfl, _, rfl, iteF ⟨_, rfl, _, rfl, _, _, rfl, k⟩⟩
    | nex p q =>
      obtain ⟨y, z, hx, hp, hq⟩ := hx
      have hh' : 1 + max p.h q.h < n + 1 := hh
      refine ⟨_, rfl, _, _, _, _, rfl, rfl, SqT.of hx, rfl, rfl, _, rfl, iteF ?_⟩
      refine ⟨_, rfl, _, _, _, _, rfl, rfl, SqT.of hx, rfl, rfl, _, rfl, iteF ?_⟩
      refine ⟨_, rfl, _, _, _, _, rfl, rfl, SqT.of hx, rfl, rfl, _, rfl, iteT ?_⟩
      refine ⟨_, rfl, _, _, _, _, rfl, rfl, SqT.of hx, rfl, ?_⟩
      refine ⟨_, rfl, _, _, _, _, rfl, rfl, SqT.of hx, rfl, _, rfl, y, p, L, s', rfl, hp, o.1, by omega, ?_⟩
      exact ⟨z, q, L, _, rfl, hq, o.2, by omega, k⟩
theorem ok_at {P : Program} {w : World} {K : PySem.W.Frag} {mg : Str → Option Value} {base : Heap} {f : Addr} {fd : FuncData} (D : Def K mg "_law_at" sat Pat f fd) (T : Txt K mg) :
    FnOk P w K mg base CX0 3 f fd Pat (spat 3) := by
  have go : ∀ n : Nat, FnOk P w K mg base CX0 (n + 0) f fd Pat (spat n) := fun n => by
    induction n with
    | zero => exact LC.fn_none fun vs H Q E h => no_at h
    | succ n ih => exact step_at D T ih
  exact go 3
end k03
namespace k03
open PySem L2 LC RM
def spmade (a : Ad) (n : Nat) : Sp := fun vs H Q _ => ∃ (g : Addr → Prop) (x : Addr) (p : Pl) (L : Nat), vs = [.ref x] ∧ PlanAt H p x ∧ p.ok L ∧ 0 < L ∧ L ≤ 2000 ∧ p.leaves ≤ 3 ∧ p.h < n ∧ (∀ c, g c → ∃ o, H c = some o) ∧ ∀ (y : Addr) H', Same H H' → RestAt a g H' p y → Q (.ref y) H'
theorem no_made {a : Ad} {vs : List V} {H : Hp} {Q : VK} {E : XK} (h : spmade a 0 vs H Q E) : False := by
  obtain ⟨_, _, _, _, _, _, _, _, _, _, h, _⟩ := h
  exact Nat.not_lt_zero _ h
theorem same_two {H : Hp} {x dx : Addr} {o o' : HO} (hx : H x = none) (hdx : H dx = none) : Same H (upd (upd H dx o) x o') := same_upd hx (same_new hdx)
theorem ne_gone {H : Hp} {x : Addr} {g : Addr → Prop} (hx : H x = none) (hg : ∀ c, g c → ∃ o, H c = some o) : ¬ g x := fun z => by
  obtain ⟨o, e⟩ := hg x z
  rw [hx] at e
  cases e

theorem step_made {P : Program} {w : World} {K : PySem.W.Frag} {mg : Str → Option Value} {base : Heap} {f : Addr} {fd : FuncData} (D : Def K mg "_law_made" smade Pmade f fd) (T : Txt K mg) {a : Ad} (KN : Kn K mg a) (IWindow : FnR P w K mg base CX0 4 a.Wi (spWindow_init K a)) (IDays : FnR P w K mg base CX0 4 a.Di (spDays_init K a)) (ILater : FnR P w K mg base CX0 4 a.Li (spLater_init K a)) (ISooner : FnR P w K mg base CX0 4 a.Si (spSooner_init K a)) (INext : FnR P w K mg base CX0 4 a.Ni (spNext_init K a)) {n : Nat} (Gmade : FnOk P w K mg base CX0 (n + 5) f fd Pmade (spmade a n)) :
    FnOk P w K mg base CX0 (n + 6) f fd Pmade (spmade a (n + 1)) := by
  refine D.F.ok scmade (fun vs H Q E h => ?_) (fun cdv A outer s H vs Q E hr h => ?_)
  · obtain ⟨g, x, p, L, rfl, hx, o, L0, L1, hl, hh, hg, k⟩ := h
    rfl
  · obtain ⟨g, x, p, L, rfl, hx, o, L0, L1, hl, hh, hg, k⟩ := h
    have Dmade := D
    have hrmade : Room (n + 5) _ := hr
    have hrI : Room 5 _ := hr.mono (by omega)
    refine ⟨_, (pss_cons (ps_if (pt_cmpR op_eq (pe_ix ix_tup (pv 0) pe_int (fun _ _ => rfl)) pe_str (nomark _)) (pss_one (ps_ret (StX.pe_makeR KN.mWindow IWindow hrI rfl KN.gWindow pass0 (pa_cons (pe_ix ix_tup (pv 0) pe_int (fun _ _ => rfl)) pa_nil)))) pss_nil)
        (pss_cons (ps_if (pt_cmpR op_eq (pe_ix ix_tup (pv 0) pe_int (fun _ _ => rfl)) pe_str (nomark _)) (pss_one (ps_ret (StX.pe_makeR KN.mDays IDays hrI rfl KN.gDays pass0 (pa_cons (pe_callTy call_list_of (by rfl) T.n_list (by decide +kernel) (pa_cons (pe_ix ix_tup (pv 0) pe_int (fun _ _ => rfl)) pa_nil)) (pa_cons (pe_ix ix_tup (pv 0) pe_int (fun _ _ => rfl)) pa_nil))))) pss_nil)
        (pss_cons (ps_par (i := 1) (j := 2) (by rfl) scmade.nd rfl rfl (by decide) rfl rfl (pa_cons (pe_call Gmade hrmade rfl Dmade.g Dmade.F.kp Dmade.b .nil pass0 (pa_cons (pe_ix ix_tup (pv 0) pe_int (fun _ _ => rfl)) pa_nil)) (pa_cons (pe_call Gmade hrmade rfl Dmade.g Dmade.F.kp Dmade.b .nil pass0 (pa_cons (pe_ix ix_tup (pv 0) pe_int (fun _ _ => rfl)) pa_nil)) pa_nil)) (by rfl))
        (pss_cons (ps_if (pt_cmpR op_eq (pe_ix ix_tup (pv 0) pe_int (fun _ _ => rfl)) pe_str (nomark _)) (pss_one (ps_ret (StX.pe_makeR KN.mLater ILater hrI rfl KN.gLater pass0 (pa_cons (pv 1) (pa_cons (pv 2) pa_nil))))) pss_nil)
        (pss_one (ps_ret (pe_ifExp (pt_cmpR op_eq (pe_ix ix_tup (pv 0) pe_int (fun _ _ => rfl)) pe_str (nomark _)) (StX.pe_makeR KN.mSooner ISooner hrI rfl KN.gSooner pass0 (pa_cons (pv 1) (pa_cons (pv 2) pa_nil))) (StX.pe_makeR KN.mNext INext hrI rfl KN.gNext pass0 (pa_cons (pv 1) (pa_cons (pv 2) pa_nil)))))))))), ?_⟩
    cases p with
    | win w =>
      refine ⟨_, rfl, _, _, _, _, rfl, rfl, SqT.of hx, rfl, rfl, _, rfl, iteT ?_⟩
      refine ⟨_, rfl, _, _, _, _, rfl, rfl, SqT.of hx, rfl, fun y dy hy hdy ne => ⟨y, dy, g, w, H, rfl, upd_same, hy, ne_gone hy hg, same_two hy hdy, o.1, o.2, fun H' s' R => ⟨rfl, k y H' s' R⟩⟩⟩
    | days bs e =>
      obtain ⟨z, hx, hz⟩ := hx
      refine ⟨_, rfl, _, _, _, _, rfl, rfl, SqT.of hx, rfl, rfl, _, rfl, iteF ?_⟩
      refine ⟨_, rfl, _, _, _, _, rfl, rfl, SqT.of hx, rfl, rfl, _, rfl, iteT ?_⟩
      refine ⟨_, rfl, _, _, _, _, rfl, rfl, SqT.of hx, rfl, _, _, rfl, .inr (SqT.of hz), fun b hb => ?_⟩
      have s1 := same_new (o := .lst (bs.map V.int)) hb
      have hb1 : upd H b (.lst (bs.map V.int)) b = some (.lst (bs.map V.int)) := upd_same
      generalize upd H b (.lst (bs.map V.int)) = H1 at s1 hb1 ⊢
      have hg1 : ∀ c, g c → ∃ o, H1 c = some o := fun c z => by obtain ⟨u, e⟩ := hg c z; exact ⟨u, s1 _ _ e⟩
      refine ⟨_, rfl, _, _, _, _, rfl, rfl, SqT.of (s1 _ _ hx), rfl, fun y dy hy hdy ne => ⟨y, dy, g, b, bs, e, H1, rfl, upd_same, hy, ne_gone hy hg1, same_two hy hdy, hg1, hb1, o.2.2.2.1, o.2.2.2.2, o.1, o.2.1, fun H' s' R => ⟨rfl, k y H' (s1.trans s') R⟩⟩⟩
    | lat p q =>
      obtain ⟨y, z, hx, hp, hq⟩ := hx
      have hh' : 1 + max p.h q.h < n + 1 := hh
      have hl' : p.leaves + q.leaves ≤ 3 := hl
      have lp := p.leaves_pos
      have lq := q.leaves_pos
      have fp := p.forms_eq
      have fq := q.forms_eq
      have gp := p.h_lt
      have gq := q.h_lt
      refine ⟨_, rfl, _, _, _, _, rfl, rfl, SqT.of hx, rfl, rfl, _, rfl, iteF ?_⟩
      refine ⟨_, rfl, _, _, _, _, rfl, rfl, SqT.of hx, rfl, rfl, _, rfl, iteF ?_⟩
      refine ⟨_, rfl, _, _, _, _, rfl, rfl, SqT.of hx, rfl, g, y, p, L, rfl, hp, o.1, L0, L1, by omega, by omega, hg, fun y1 H1 s1 R1 => ?_⟩
      have hg1 : ∀ c, g c → ∃ o, H1 c = some o := fun c z => by obtain ⟨u, e⟩ := hg c z; exact ⟨u, s1 _ _ e⟩
      refine ⟨_, rfl, _, _, _, _, rfl, rfl, SqT.of (s1 _ _ hx), rfl, g, z, q, L, rfl, hq.kt (Kt.same s1), o.2, L0, L1, by omega, by omega, hg1, fun y2 H2 s2 R2 => ⟨_, _, rfl, ?_⟩⟩
      have s12 := s1.trans s2
      have hx2 := s12 _ _ hx
      have hg2 : ∀ c, g c → ∃ o, H2 c = some o := fun c z => by obtain ⟨u, e⟩ := hg c z; exact ⟨u, s12 _ _ e⟩
      exact ⟨_, rfl, _, _, _, _, rfl, rfl, SqT.of hx2, rfl, rfl, _, rfl, iteT ⟨_, rfl, _, rfl, fun w dw hw hdw ne => ⟨w, dw, g, y1, y2, p, q, L, H2, rfl, upd_same, hw, ne_gone hw hg2, same_two hw hdw, R1.same s2, R2, o.1, o.2, L0, L1, by omega, by omega, by omega, fun H' s' R => ⟨rfl, k w H' (s12.trans s') R⟩⟩⟩⟩
    | soo p q =>
      obtain ⟨y, z, hx, hp, hq⟩ := hx
      have hh' : 1 + max p.h q.h < n + 1 := hh
      have hl' : p.leaves + q.leaves ≤ 3 := hl
      have lp := p.leaves_pos
      have lq := q.leaves_pos
      have fp := p.forms_eq
      have fq := q.forms_eq
      have gp := p.h_lt
      have gq := q.h_lt
      refine ⟨_, rfl, _, _, _, _, rfl, rfl, SqT.of hx, rfl, rfl, _, rfl, iteF ?_⟩
      refine ⟨_, rfl, _, _, _, _, rfl, rfl, SqT.of hx, rfl, rfl, _, rfl, iteF ?_⟩
      refine ⟨_, rfl, _, _, _, _, rfl, rfl, SqT.of hx, rfl, g, y, p, L, rfl, hp, o.1, L0, L1, by omega, by omega, hg, fun y1 H1 s1 R1 => ?_⟩
      have hg1 : ∀ c, g c → ∃ o, H1 c = some o := fun c z => by obtain ⟨u, e⟩ := hg c z; exact ⟨u, s1 _ _ e⟩
      refine ⟨_, rfl, _, _, _, _, rfl, rfl, SqT.of (s1 _ _ hx), rfl, g, z, q, L, rfl, hq.kt (Kt.same s1), o.2, L0, L1, by omega, by omega, hg1, fun y2 H2 s2 R2 => ⟨_, _, rfl, ?_⟩⟩
      have s12 := s1.trans s2
      have hx2 := s12 _ _ hx
      have hg2 : ∀ c, g c → ∃ o, H2 c = some o := fun c z => by obtain ⟨u, e⟩ := hg c z; exact ⟨u, s12 _ _ e⟩
      refine ⟨_, rfl, _, _, _, _, rfl, rfl, SqT.of hx2, rfl, rfl, _, rfl, iteF ?_⟩
      exact ⟨_, rfl, _, _, _, _, rfl, rfl, SqT.of hx2, rfl, rfl, _, rfl, iteT ⟨_, rfl, _, rfl, fun w dw hw hdw ne => ⟨w, dw, g, y1, y2, p, q, L, H2, rfl, upd_same, hw, ne_gone hw hg2, same_two hw hdw, R1.same s2, R2, o.1, o.2, L0, L1, by omega, by omega, by omega, fun H' s' R => ⟨rfl, k w H' (s12.trans s') R⟩⟩⟩⟩
    | nex p q =>
      obtain ⟨y, z, hx, hp, hq⟩ := hx
      have hh' : 1 + max p.h q.h < n + 1 := hh
      have hl' : p.leaves + q.leaves ≤ 3 := hl
      have lp := p.leaves_pos
      have lq := q.leaves_pos
      have fp := p.forms_eq
      have fq := q.forms_eq
      have gp := p.h_lt
      have gq := q.h_lt
      refine ⟨_, rfl, _, _, _, _, rfl, rfl, SqT.of hx, rfl, rfl, _, rfl, iteF ?_⟩
      refine ⟨_, rfl, _, _, _, _, rfl, rfl, SqT.of hx, rfl, rfl, _, rfl, iteF ?_⟩
      refine ⟨_, rfl, _, _, _, _, rfl, rfl, SqT.of hx, rfl, g, y, p, L, rfl, hp, o.1, L0, L1, by omega, by omega, hg, fun y1 H1 s1 R1 => ?_⟩
      have hg1 : ∀ c, g c → ∃ o, H1 c = some o := fun c z => by obtain ⟨u, e⟩ := hg c z; exact ⟨u, s1 _ _ e⟩
      refine ⟨_, rfl, _, _, _, _, rfl, rfl, SqT.of (s1 _ _ hx), rfl, g, z, q, L, rfl, hq.kt (Kt.same s1), o.2, L0, L1, by omega, by omega, hg1, fun y2 H2 s2 R2 => ⟨_, _, rfl, ?_⟩⟩
      have s12 := s1.trans s2
      have hx2 := s12 _ _ hx
      have hg2 : ∀ c, g c → ∃ o, H2 c = some o := fun c z => by obtain ⟨u, e⟩ := hg c z; exact ⟨u, s12 _ _ e⟩
      refine ⟨_, rfl, _, _, _, _, rfl, rfl, SqT.of hx2, rfl, rfl, _, rfl, iteF ?_⟩
      exact ⟨_, rfl, _, _, _, _, rfl, rfl, SqT.of hx2, rfl, rfl, _, rfl, iteF ⟨_, rfl, _, rfl, fun w dw hw hdw ne => ⟨w, dw, g, y1, y2, p, q, L, H2, rfl, upd_same, hw, ne_gone hw hg2, same_two hw hdw, R1.same s2, R2, o.1, o.2, L0, L1, by omega, by omega, by omega, fun H' s' R => ⟨rfl, k w H' (s12.trans s') R⟩⟩⟩⟩
theorem ok_made {P : Program} {w : World} {K : PySem.W.Frag} {mg : Str → Option Value} {base : Heap} {f : Addr} {fd : FuncData} (D : Def K mg "_law_made" smade Pmade f fd) (T : Txt K mg) {a : Ad} (KN : Kn K mg a) (IWindow : FnR P w K mg base CX0 4 a.Wi (spWindow_init K a)) (IDays : FnR P w K mg base CX0 4 a.Di (spDays_init K a)) (ILater : FnR P w K mg base CX0 4 a.Li (spLater_init K a)) (ISooner : FnR P w K mg base CX0 4 a.Si (spSooner_init K a)) (INext : FnR P w K mg base CX0 4 a.Ni (spNext_init K a)) :
    FnOk P w K mg base CX0 8 f fd Pmade (spmade a 3) := by
  have go : ∀ n : Nat, FnOk P w K mg base CX0 (n + 5) f fd Pmade (spmade a n) := fun n => by
    induction n with
    | zero => exact LC.fn_none fun vs H Q E h => no_made h
    | succ n ih => exact step_made D T KN IWindow IDays ILater ISooner INext ih
  exact go 3
end k03
namespace k03
open PySem L2 LC RM
def spedges (n : Nat) : Sp := fun vs H Q _ => ∃ (x : Addr) (p : Pl) (L : Nat), vs = [.ref x] ∧ PlanAt H p x ∧ p.ok L ∧ p.leaves ≤ 10 ∧ p.h < n ∧ ∀ (T : Addr) (ns : List Int) H', Same H H' → H T = none → H' T = some (.lst (ns.map V.int)) → ns.length ≤ 12 * p.leaves → (∀ z ∈ ns, 1 ≤ z ∧ z ≤ 1000) → Q (.ref T) H'
theorem no_edges {vs : List V} {H : Hp} {Q : VK} {E : XK} (h : spedges 0 vs H Q E) : False := by
  obtain ⟨_, _, _, _, _, _, _, h, _⟩ := h
  exact Nat.not_lt_zero _ h

theorem step_edges {P : Program} {w : World} {K : PySem.W.Frag} {mg : Str → Option Value} {base : Heap} {f : Addr} {fd : FuncData} (D : Def K mg "_law_edges" sedges Pedges f fd) (T : Txt K mg) {n : Nat} (Gedges : FnOk P w K mg base CX0 (n + 0) f fd Pedges (spedges n)) :
    FnOk P w K mg base CX0 (n + 1) f fd Pedges (spedges (n + 1)) := by
  refine D.F.ok scedges (fun vs H Q E h => ?_) (fun cdv A outer s H vs Q E hr h => ?_)
  · obtain ⟨x, p, L, rfl, hx, o, hl, hh, k⟩ := h
    rfl
  · obtain ⟨x, p, L, rfl, hx, o, hl, hh, k⟩ := h
    have Dedges := D
    have hredges : Room (n + 0) _ := hr
    refine ⟨_, (pss_cons (ps_if (pt_cmpR op_eq (pe_ix ix_tup (pv 0) pe_int (fun _ _ => rfl)) pe_str (nomark _)) (pss_one (ps_ret (pe_lst pa_nil))) pss_nil)
        (pss_cons (ps_if (pt_cmpR op_eq (pe_ix ix_tup (pv 0) pe_int (fun _ _ => rfl)) pe_str (nomark _)) (pss_one (ps_ret (pe_callTy call_list_of (by rfl) T.n_list (by decide +kernel) (pa_cons (pe_ix ix_tup (pv 0) pe_int (fun _ _ => rfl)) pa_nil)))) pss_nil)
        (pss_one (ps_ret (pe_op op_cat (pe_call Gedges hredges rfl Dedges.g Dedges.F.kp Dedges.b .nil pass0 (pa_cons (pe_ix ix_tup (pv 0) pe_int (fun _ _ => rfl)) pa_nil)) (pe_call Gedges hredges rfl Dedges.g Dedges.F.kp Dedges.b .nil pass0 (pa_cons (pe_ix ix_tup (pv 0) pe_int (fun _ _ => rfl)) pa_nil))))))), ?_⟩
    cases p with
    | win w =>
      refine ⟨_, rfl, _, _, _, _, rfl, rfl, SqT.of hx, rfl, rfl, _, rfl, iteT ?_⟩
      exact ⟨Nat.zero_le _, fun T hT => k T [] _ (same_new hT) hT upd_same (Nat.zero_le _) fun z hz => by cases hz⟩
    | days bs e =>
      obtain ⟨z, hx, hz⟩ := hx
      refine ⟨_, rfl, _, _, _, _, rfl, rfl, SqT.of hx, rfl, rfl, _, rfl, iteF ?_⟩
      refine ⟨_, rfl, _, _, _, _, rfl, rfl, SqT.of hx, rfl, rfl, _, rfl, iteT ?_⟩
      exact ⟨_, rfl, _, _, _, _, rfl, rfl, SqT.of hx, rfl, _, _, rfl, .inr (SqT.of hz), fun T hT => k T bs _ (same_new hT) hT upd_same o.2.2.2.1 o.2.2.2.2.all⟩
    | lat p q =>
      obtain ⟨y, z, hx, hp, hq⟩ := hx
      have hh' : 1 + max p.h q.h < n + 1 := hh
      have hl' : p.leaves + q.leaves ≤ 10 := hl
      refine ⟨_, rfl, _, _, _, _, rfl, rfl, SqT.of hx, rfl, rfl, _, rfl, iteF ?_⟩
      refine ⟨_, rfl, _, _, _, _, rfl, rfl, SqT.of hx, rfl, rfl, _, rfl, iteF ?_⟩
      refine ⟨_, rfl, _, _, _, _, rfl, rfl, SqT.of hx, rfl, y, p, L, rfl, hp, o.1, by omega, by omega, fun T1 ns1 H1 s1 n1 e1 l1 b1 => ?_⟩
      refine ⟨_, rfl, _, _, _, _, rfl, rfl, SqT.of (s1 _ _ hx), rfl, z, q, L, rfl, hq.kt (Kt.same s1), o.2, by omega, by omega, fun T2 ns2 H2 s2 n2 e2 l2 b2 => ?_⟩
      refine ⟨T1, T2, _, _, rfl, rfl, s2 _ _ e1, e2, by rw [List.length_map, List.length_map]; show _ ≤ 16777216; omega, fun T hT => ?_⟩
      refine k T (ns1 ++ ns2) _ (s1.trans (s2.trans (same_new hT))) (s1.free (s2.free hT)) (by rw [upd_same, List.map_append]) ?_ ?_
      · rw [List.length_append]
        show _ ≤ 12 * (p.leaves + q.leaves)
        omega
      · intro u hu
        rcases List.mem_append.mp hu with hu | hu
        · exact b1 u hu
        · exact b2 u hu
    | soo p q =>
      obtain ⟨y, z, hx, hp, hq⟩ := hx
      have hh' : 1 + max p.h q.h < n + 1 := hh
      have hl' : p.leaves + q.leaves ≤ 10 := hl
      refine ⟨_, rfl, _, _, _, _, rfl, rfl, SqT.of hx, rfl, rfl, _, rfl, iteF ?_⟩
      refine ⟨_, rfl, _, _, _, _, rfl, rfl, SqT.of hx, rfl, rfl, _, rfl, iteF ?_⟩
      refine ⟨_, rfl, _, _, _, _, rfl, rfl, SqT.of hx, rfl, y, p, L, rfl, hp, o.1, by omega, by omega, fun T1 ns1 H1 s1 n1 e1 l1 b1 => ?_⟩
      refine ⟨_, rfl, _, _, _, _, rfl, rfl, SqT.of (s1 _ _ hx), rfl, z, q, L, rfl, hq.kt (Kt.same s1), o.2, by omega, by omega, fun T2 ns2 H2 s2 n2 e2 l2 b2 => ?_⟩
      refine ⟨T1, T2, _, _, rfl, rfl, s2 _ _ e1, e2, by rw [List.length_map, List.length_map]; show _ ≤ 16777216; omega, fun T hT => ?_⟩
      refine k T (ns1 ++ ns2) _ (s1.trans (s2.trans (same_new hT))) (s1.free (s2.free hT)) (by rw [upd_same, List.map_append]) ?_ ?_
      · rw [List.length_append]
        show _ ≤ 12 * (p.leaves + q.leaves)
        omega
      · intro u hu
        rcases List.mem_append.mp hu with hu | hu
        · exact b1 u hu
        · exact b2 u hu
    | nex p q =>
      obtain ⟨y, z, hx, hp, hq⟩ := hx
      have hh' : 1 + max p.h q.h < n + 1 := hh
      have hl' : p.leaves + q.leaves ≤ 10 := hl
      refine ⟨_, rfl, _, _, _, _, rfl, rfl, SqT.of hx, rfl, rfl, _, rfl, iteF ?_⟩
      refine ⟨_, rfl, _, _, _, _, rfl, rfl, SqT.of hx, rfl, rfl, _, rfl, iteF ?_⟩
      refine ⟨_, rfl, _, _, _, _, rfl, rfl, SqT.of hx, rfl, y, p, L, rfl, hp, o.1, by omega, by omega, fun T1 ns1 H1 s1 n1 e1 l1 b1 => ?_⟩
      refine ⟨_, rfl, _, _, _, _, rfl, rfl, SqT.of (s1 _ _ hx), rfl, z, q, L, rfl, hq.kt (Kt.same s1), o.2, by omega, by omega, fun T2 ns2 H2 s2 n2 e2 l2 b2 => ?_⟩
      refine ⟨T1, T2, _, _, rfl, rfl, s2 _ _ e1, e2, by rw [List.length_map, List.length_map]; show _ ≤ 16777216; omega, fun T hT => ?_⟩
      refine k T (ns1 ++ ns2) _ (s1.trans (s2.trans (same_new hT))) (s1.free (s2.free hT)) (by rw [upd_same, List.map_append]) ?_ ?_
      · rw [List.length_append]
        show _ ≤ 12 * (p.leaves + q.leaves)
        omega
      · intro u hu
        rcases List.mem_append.mp hu with hu | hu
        · exact b1 u hu
        · exact b2 u hu
theorem ok_edges {P : Program} {w : World} {K : PySem.W.Frag} {mg : Str → Option Value} {base : Heap} {f : Addr} {fd : FuncData} (D : Def K mg "_law_edges" sedges Pedges f fd) (T : Txt K mg) :
    FnOk P w K mg base CX0 3 f fd Pedges (spedges 3) := by
  have go : ∀ n : Nat, FnOk P w K mg base CX0 (n + 0) f fd Pedges (spedges n) := fun n => by
    induction n with
    | zero => exact LC.fn_none fun vs H Q E h => no_edges h
    | succ n ih => exact step_edges D T ih
  exact go 3
end k03
namespace k03
open PySem L2 LC RM
def spspot : Sp := fun vs H Q _ => ∃ (g l x : Addr) (p : Pl) (L : Nat), vs = [.ref g, .ref x] ∧ Bag l H g ∧ PlanAt H p x ∧ p.ok L ∧ p.leaves ≤ 3 ∧ ∀ (s : Int) H', 0 ≤ s → s ≤ 100000 → Ok g l H H' → Q (.int s) H'
theorem ok_spot {P : Program} {w : World} {K : PySem.W.Frag} {mg : Str → Option Value} {base : Heap} {f : Addr} {fd : FuncData} (D : Def K mg "_law_spot" sspot Pspot f fd) (T : Txt K mg) {fdraw : Addr} {fddraw : FuncData} (Ddraw : Def K mg "_law_draw" sdraw Pdraw fdraw fddraw) (Gdraw : FnOk P w K mg base CX0 1 fdraw fddraw Pdraw (spdraw)) {fof : Addr} {fdof : FuncData} (Dof : Def K mg "_law_of" sof Pof fof fdof) (Gof : FnOk P w K mg base CX0 2 fof fdof Pof (spof K)) {fat : Addr} {fdat : FuncData} (Dat : Def K mg "_law_at" sat Pat fat fdat) (Gat : FnOk P w K mg base CX0 3 fat fdat Pat (spat 3)) {fedges : Addr} {fdedges : FuncData} (Dedges : Def K mg "_law_edges" sedges Pedges fedges fdedges) (Gedges : FnOk P w K mg base CX0 3 fedges fdedges Pedges (spedges 3)) :
    FnOk P w K mg base CX0 4 f fd Pspot (spspot) := by
  refine D.F.ok scspot (fun vs H Q E h => ?_) (fun cdv A outer s H vs Q E hr h => ?_)
  · obtain ⟨g, l, x, p, L, rfl, bag, hx, o, hl, k⟩ := h
    rfl
  · obtain ⟨g, l, x, p, L, rfl, bag, hx, o, hl, k⟩ := h
    have hrdraw : Room 1 _ := hr.mono (by decide)
    have hrof : Room 2 _ := hr.mono (by decide)
    have hrat : Room 3 _ := hr.mono (by decide)
    have hredges : Room 3 _ := hr.mono (by decide)
    refine ⟨_, (pss_cons (ps_set (i := 2) scspot.nd rfl (Or.inl rfl) (pe_call Gdraw hrdraw rfl Ddraw.g Ddraw.F.kp Ddraw.b .nil pass0 (pa_cons (pv 0) (pa_cons pe_int pa_nil))))
        (pss_cons (ps_if (pt_cmpR op_eq (pv 2) pe_int (nomark _)) (pss_one (ps_ret (pe_call Gdraw hrdraw rfl Ddraw.g Ddraw.F.kp Ddraw.b .nil pass0 (pa_cons (pv 0) (pa_cons pe_int pa_nil))))) pss_nil)
        (pss_cons (ps_if (pt_cmpR op_eq (pv 2) pe_int (nomark _)) (pss_one (ps_ret (pe_callB (call_max2 rfl) (by rfl) T.n_max (by decide +kernel) (pa_cons pe_int (pa_cons (pe_op op_sub (pe_op op_add (pe_call Gof hrof rfl Dof.g Dof.F.kp Dof.b .nil pass0 (pa_cons (pv 0) (pa_cons (pe_op op_cat (pe_call Gedges hredges rfl Dedges.g Dedges.F.kp Dedges.b .nil pass0 (pa_cons (pv 1) pa_nil)) (pe_lst (pa_cons pe_int pa_nil))) pa_nil))) (pe_call Gdraw hrdraw rfl Ddraw.g Ddraw.F.kp Ddraw.b .nil pass0 (pa_cons (pv 0) (pa_cons pe_int pa_nil)))) pe_int) pa_nil))))) pss_nil)
        (pss_cons (ps_if (pt_cmpR op_eq (pv 2) pe_int (nomark _)) (pss_one (ps_ret (pe_op op_sub (pe_call Gat hrat rfl Dat.g Dat.F.kp Dat.b .nil pass0 (pa_cons (pv 1) (pa_cons (pe_call Gdraw hrdraw rfl Ddraw.g Ddraw.F.kp Ddraw.b .nil pass0 (pa_cons (pv 0) (pa_cons pe_int pa_nil))) pa_nil))) (pe_call Gdraw hrdraw rfl Ddraw.g Ddraw.F.kp Ddraw.b .nil pass0 (pa_cons (pv 0) (pa_cons pe_int pa_nil)))))) pss_nil)
        (pss_cons (ps_if (pt_cmpR op_eq (pv 2) pe_int (nomark _)) (pss_one (ps_ret (pe_call Gdraw hrdraw rfl Ddraw.g Ddraw.F.kp Ddraw.b .nil pass0 (pa_cons (pv 0) (pa_cons pe_int pa_nil))))) pss_nil)
        (pss_one (ps_ret (pe_call Gdraw hrdraw rfl Ddraw.g Ddraw.F.kp Ddraw.b .nil pass0 (pa_cons (pv 0) (pa_cons pe_int pa_nil)))))))))), ?_⟩
    have hh := p.h_lt
    refine ⟨_, rfl, g, l, 5, rfl, bag, by decide, by decide, fun d H1 d0 d1 r1 => ?_⟩
    have hx1 := hx.kt (Kt.ok r1)
    refine ⟨_, rfl, rfl, _, rfl, ite_eq (fun _ => ?_) (fun _ => ?_)⟩
    · exact ⟨_, rfl, g, l, 24, rfl, r1.bag, by decide, by decide, fun e H2 e0 e1 r2 => k e H2 e0 (by omega) (r1.trans r2)⟩
    refine ⟨_, rfl, rfl, _, rfl, ite_eq (fun _ => ?_) (fun _ => ?_)⟩
    · refine ⟨_, rfl, _, rfl, x, p, L, rfl, hx1, o, by omega, by omega, fun T ns H2 s2 n2 e2 l2 b2 => ?_⟩
      refine ⟨(by show 1 ≤ sizeLine; decide), fun q hq => ?_⟩
      have s3 := s2.trans (same_new (o := .lst [.int 0]) hq)
      have e3 : upd H2 q (.lst [.int 0]) T = some (.lst (ns.map V.int)) := by rw [upd_ne (ne_of_none e2 hq)]; exact e2
      refine ⟨T, q, _, _, rfl, rfl, e3, upd_same, by rw [List.length_map]; show ns.length + 1 ≤ 16777216; omega, fun c hc => ?_⟩
      have R3 := r1.same s3
      refine of_disp (E := E0) R3 hc (by rw [List.length_append]; exact Nat.succ_pos _) (by rw [List.length_append, List.length_map]; show ns.length + 1 ≤ 1000000; omega) fun y H4 hy kk R4 => ?_
      obtain ⟨m, rfl, m0, m1⟩ : ∃ m : Int, y = .int m ∧ 0 ≤ m ∧ m ≤ 1000 := by
        rcases List.mem_append.mp hy with hy | hy
        · obtain ⟨m, hm, rfl⟩ := List.mem_map.mp hy
          have := b2 m hm
          exact ⟨m, rfl, by omega, by omega⟩
        · rw [List.mem_singleton] at hy
          exact ⟨0, hy, by decide, by decide⟩
      refine ⟨_, rfl, g, l, 3, rfl, R4.bag, by decide, by decide, fun e H5 e0 e1 r5 => ⟨_, _, rfl, rfl, _, _, rfl, rfl, _, _, rfl, ?_⟩⟩
      refine k _ H5 ?_ ?_ (R4.trans r5)
      · split <;> omega
      · split <;> omega
    refine ⟨_, rfl, rfl, _, rfl, ite_eq (fun _ => ?_) (fun _ => ?_)⟩
    · refine ⟨_, rfl, _, rfl, g, l, 40, rfl, r1.bag, by decide, by decide, fun e H2 e0 e1 r2 => ?_⟩
      have a1 := p.at_gt o e
      have a2 := p.at_le o e e0
      refine ⟨x, p, L, e, rfl, hx1.kt (Kt.ok r2), o, by omega, ?_⟩
      exact ⟨_, rfl, g, l, 2, rfl, r2.bag, by decide, by decide, fun u H3 u0 u1 r3 => ⟨_, _, rfl, rfl, k _ H3 (by omega) (by omega) (r1.trans (r2.trans r3))⟩⟩
    refine ⟨_, rfl, rfl, _, rfl, ite_eq (fun _ => ?_) (fun _ => ?_)⟩
    · exact ⟨_, rfl, g, l, 3000, rfl, r1.bag, by decide, by decide, fun e H2 e0 e1 r2 => k e H2 e0 (by omega) (r1.trans r2)⟩
    exact ⟨_, rfl, g, l, 97000, rfl, r1.bag, by decide, by decide, fun e H2 e0 e1 r2 => k e H2 e0 (by omega) (r1.trans r2)⟩
end k03
namespace k03
open PySem L2 LC RM
def spbound : Sp := fun vs H Q _ => ∃ (g l x : Addr) (p : Pl) (L : Nat), vs = [.ref g, .ref x] ∧ Bag l H g ∧ PlanAt H p x ∧ p.ok L ∧ p.leaves ≤ 3 ∧ ∀ (s : Int) H', 0 ≤ s → Ok g l H H' → Q (.int s) H'
theorem ok_bound {P : Program} {w : World} {K : PySem.W.Frag} {mg : Str → Option Value} {base : Heap} {f : Addr} {fd : FuncData} (D : Def K mg "_law_bound" sbound Pbound f fd) (T : Txt K mg) {fdraw : Addr} {fddraw : FuncData} (Ddraw : Def K mg "_law_draw" sdraw Pdraw fdraw fddraw) (Gdraw : FnOk P w K mg base CX0 1 fdraw fddraw Pdraw (spdraw)) {fat : Addr} {fdat : FuncData} (Dat : Def K mg "_law_at" sat Pat fat fdat) (Gat : FnOk P w K mg base CX0 3 fat fdat Pat (spat 3)) {fspot : Addr} {fdspot : FuncData} (Dspot : Def K mg "_law_spot" sspot Pspot fspot fdspot) (Gspot : FnOk P w K mg base CX0 4 fspot fdspot Pspot (spspot)) :
    FnOk P w K mg base CX0 5 f fd Pbound (spbound) := by
  refine D.F.ok scbound (fun vs H Q E h => ?_) (fun cdv A outer s H vs Q E hr h => ?_)
  · obtain ⟨g, l, x, p, L, rfl, bag, hx, o, hl, k⟩ := h
    rfl
  · obtain ⟨g, l, x, p, L, rfl, bag, hx, o, hl, k⟩ := h
    have hrdraw : Room 1 _ := hr.mono (by decide)
    have hrat : Room 3 _ := hr.mono (by decide)
    have hrspot : Room 4 _ := hr.mono (by decide)
    refine ⟨_, (pss_cons (ps_set (i := 2) scbound.nd rfl (Or.inl rfl) (pe_call Gdraw hrdraw rfl Ddraw.g Ddraw.F.kp Ddraw.b .nil pass0 (pa_cons (pv 0) (pa_cons pe_int pa_nil))))
        (pss_cons (ps_if (pt_cmpR op_eq (pv 2) pe_int (nomark _)) (pss_one (ps_ret (pe_call Gdraw hrdraw rfl Ddraw.g Ddraw.F.kp Ddraw.b .nil pass0 (pa_cons (pv 0) (pa_cons pe_int pa_nil))))) pss_nil)
        (pss_cons (ps_if (pt_cmpR op_eq (pv 2) pe_int (nomark _)) (pss_one (ps_ret (pe_call Gdraw hrdraw rfl Ddraw.g Ddraw.F.kp Ddraw.b .nil pass0 (pa_cons (pv 0) (pa_cons pe_int pa_nil))))) pss_nil)
        (pss_one (ps_ret (pe_op op_sub (pe_op op_add (pe_call Gat hrat rfl Dat.g Dat.F.kp Dat.b .nil pass0 (pa_cons (pv 1) (pa_cons (pe_call Gspot hrspot rfl Dspot.g Dspot.F.kp Dspot.b .nil pass0 (pa_cons (pv 0) (pa_cons (pv 1) pa_nil))) pa_nil))) (pe_call Gdraw hrdraw rfl Ddraw.g Ddraw.F.kp Ddraw.b .nil pass0 (pa_cons (pv 0) (pa_cons pe_int pa_nil)))) pe_int)))))), ?_⟩
    have hh := p.h_lt
    refine ⟨_, rfl, g, l, 5, rfl, bag, by decide, by decide, fun d H1 d0 d1 r1 => ?_⟩
    have hx1 := hx.kt (Kt.ok r1)
    refine ⟨_, rfl, rfl, _, rfl, ite_eq (fun _ => ?_) (fun _ => ?_)⟩
    · exact ⟨_, rfl, g, l, 30, rfl, r1.bag, by decide, by decide, fun e H2 e0 e1 r2 => k e H2 e0 (r1.trans r2)⟩
    refine ⟨_, rfl, rfl, _, rfl, ite_eq (fun _ => ?_) (fun _ => ?_)⟩
    · exact ⟨_, rfl, g, l, 1000000000, rfl, r1.bag, by decide, by decide, fun e H2 e0 e1 r2 => k e H2 e0 (r1.trans r2)⟩
    refine ⟨_, rfl, _, rfl, _, rfl, g, l, x, p, L, rfl, r1.bag, hx1, o, hl, fun s H2 s0 s1 r2 => ?_⟩
    have a1 := p.at_gt o s
    refine ⟨x, p, L, s, rfl, hx1.kt (Kt.ok r2), o, by omega, ?_⟩
    exact ⟨_, rfl, g, l, 3, rfl, r2.bag, by decide, by decide, fun u H3 u0 u1 r3 => ⟨_, _, rfl, rfl, _, _, rfl, rfl, k _ H3 (by omega) (r1.trans (r2.trans r3))⟩⟩
end k03
namespace k03
open PySem L2 LC RM
def splatest_so (K : PySem.W.Frag) : Sp := fun vs H Q _ => ∃ (x : Addr) (p : Pl) (L : Nat) (b : Int) (v : V), vs = [v, .ref x, .int b] ∧ PlanAt H p x ∧ p.ok L ∧ p.h ≤ 2 ∧ Lt p b v ∧ Q (.bl true) H
theorem ok_latest_so {P : Program} {w : World} {K : PySem.W.Frag} {mg : Str → Option Value} {base : Heap} {f : Addr} {fd : FuncData} (D : Def K mg "_law_latest_so" slatest_so Platest_so f fd) (T : Txt K mg) {fat : Addr} {fdat : FuncData} (Dat : Def K mg "_law_at" sat Pat fat fdat) (Gat : FnOk P w K mg base CX0 3 fat fdat Pat (spat 3)) :
    FnOk P w K mg base CX0 4 f fd Platest_so (splatest_so K) := by
  refine D.F.ok sclatest_so (fun vs H Q E h => ?_) (fun cdv A outer s H vs Q E hr h => ?_)
  · obtain ⟨x, p, L, b, v, rfl, hp, o, hh, hv, k⟩ := h
    rfl
  · obtain ⟨x, p, L, b, v, rfl, hp, o, hh, hv, k⟩ := h
    have hrat : Room 3 _ := hr.mono (by decide)
    refine ⟨_, (pss_cons (ps_if (pt_cmpR op_gt (pe_call Gat hrat rfl Dat.g Dat.F.kp Dat.b .nil pass0 (pa_cons (pv 1) (pa_cons pe_int pa_nil))) (pv 2) (nomark _)) (pss_one (ps_ret (pe_cmpR op_isN (pv 0) pe_non (nomark _)))) pss_nil)
        (pss_cons (ps_if (PW.pt (pw_or (pt_not (pt_val (pe_callB call_isi (by rfl) T.n_isinstance (by decide +kernel) (pa_cons (pv 0) (pa_cons (pe_ty "int" (by rfl) T.n_int (by decide +kernel)) pa_nil))))) (pw_or (pt_val (pe_callB call_isi (by rfl) T.n_isinstance (by decide +kernel) (pa_cons (pv 0) (pa_cons (pe_ty "bool" (by rfl) T.n_bool (by decide +kernel)) pa_nil)))) (pw_or1 (pt_cmpR op_lt (pv 0) pe_int (nomark _)))))) (pss_one (ps_ret pe_bl)) pss_nil)
        (pss_one (ps_ret (pe_and (pe_cmpR op_le (pe_call Gat hrat rfl Dat.g Dat.F.kp Dat.b .nil pass0 (pa_cons (pv 1) (pa_cons (pv 0) pa_nil))) (pv 2) (nomark _)) (pe_one (pe_cmpR op_gt (pe_call Gat hrat rfl Dat.g Dat.F.kp Dat.b .nil pass0 (pa_cons (pv 1) (pa_cons (pe_op op_add (pv 0) pe_int) pa_nil))) (pv 2) (nomark _)))))))), ?_⟩
    refine ⟨_, rfl, x, p, L, 0, rfl, hp, o, by omega, _, rfl, _, _, rfl, rfl, _, rfl, ?_⟩
    rcases hv with ⟨h0, rfl⟩ | ⟨h, rfl, h0, h1, h2⟩
    · refine ite_d (fun _ => ⟨_, rfl, rfl, ?_⟩) (fun z => absurd h0 z)
      rw [decide_eq_true rfl]
      exact k
    have m0 := p.at_mono o 0 h h0
    refine ite_d (fun z => absurd h1 (by omega)) (fun _ => ?_)
    refine ⟨_, rfl, _, _, _, _, _, rfl, .ty _, .base (.int h), kit_ty (show kitB "int" "int" = some true by decide +kernel), _, rfl, iteF ?_⟩
    refine ⟨_, rfl, _, _, _, _, _, rfl, .ty _, .base (.int h), kit_ty (show kitB "int" "bool" = some false by decide +kernel), _, rfl, iteF ?_⟩
    refine ⟨_, rfl, _, _, rfl, rfl, _, rfl, ite_d (fun z => absurd h0 (by omega)) (fun _ => ?_)⟩
    refine ⟨_, rfl, _, rfl, x, p, L, h, rfl, hp, o, by omega, _, rfl, _, _, rfl, rfl, _, rfl, ?_⟩
    rw [decide_eq_true h1]
    refine iteT ⟨_, rfl, _, rfl, _, _, rfl, rfl, x, p, L, h + 1, rfl, hp, o, by omega, _, rfl, _, _, rfl, rfl, ?_⟩
    show Q (.bl (decide (b < p.at (h + 1)))) H
    rw [decide_eq_true h2]
    exact k
end k03
namespace k03
open PySem L2 LC RM
def sprow : Sp := fun vs H Q _ => ∃ (x : Addr) (p : Pl) (L : Nat) (s e : Int), vs = [.ref x, .int s, .int e] ∧ PlanAt H p x ∧ p.ok L ∧ p.h ≤ 2 ∧ -1000000 ≤ s ∧ s ≤ 1000000 ∧ -1000000 ≤ e ∧ e ≤ 1000000 ∧ (e - s).toNat ≤ 20000 ∧
  ∀ (A : Addr) H', Same H H' → H A = none → H' A = some (.lst ((stp p s e).map V.int)) → Q (.ref A) H'
theorem ok_row {P : Program} {w : World} {K : PySem.W.Frag} {mg : Str → Option Value} {base : Heap} {f : Addr} {fd : FuncData} (D : Def K mg "_law_row" srow Prow f fd) (T : Txt K mg) {fat : Addr} {fdat : FuncData} (Dat : Def K mg "_law_at" sat Pat fat fdat) (Gat : FnOk P w K mg base CX0 3 fat fdat Pat (spat 3)) :
    FnOk P w K mg base CX0 4 f fd Prow (sprow) := by
  refine D.F.ok scrow (fun vs H Q E h => ?_) (fun cdv A outer s H vs Q E hr h => ?_)
  · obtain ⟨x, p, L, s0, e0, rfl, hp, o1, hh, a0, a1, b0, b1, hle, k⟩ := h
    rfl
  · obtain ⟨x, p, L, s0, e0, rfl, hp, o1, hh, a0, a1, b0, b1, hle, k⟩ := h
    have hrat : Room 3 _ := hr.mono (by decide)
    refine ⟨_, (pss_cons (ps_par (i := 3) (j := 4) (by rfl) scrow.nd rfl rfl (by decide) rfl rfl (pa_cons (pe_lst pa_nil) (pa_cons (pv 1) pa_nil)) (by rfl))
        (pss_cons (ps_for PassesOwn.never rfl (pi_range1 rfl T.n_range (pa_cons (pe_op op_sub (pv 2) (pv 1)) pa_nil)) (pg_name (i := 5) scrow.nd rfl (Or.inl rfl))
          (pss_cons (ps_if (pt_cmpR op_ge (pv 4) (pv 2) (nomark _)) (pss_one ps_break) pss_nil)
        (pss_cons (ps_expr (pe_bm PySem.F.plainAttrs_list PySem.F.slot_list_append PySem.F.type_list_append mt_append (pv 3) (pa_cons (pv 4) pa_nil)))
        (pss_one (ps_set (i := 4) scrow.nd rfl (Or.inl rfl) (pe_call Gat hrat rfl Dat.g Dat.F.kp Dat.b .nil pass0 (pa_cons (pv 0) (pa_cons (pv 4) pa_nil))))))))
        (pss_one (ps_ret (pv 3))))), ?_⟩
    have hsl := stp_len o1 (e := e0) s0
    refine ⟨Nat.zero_le _, fun A hA => ⟨_, rfl, _, _, rfl, ?_⟩⟩
    have sA := same_new (o := .lst []) hA
    refine ⟨_, rfl, _, rfl, _, _, rfl, rfl, _, rfl, by omega, by omega, for_range (lo := 0) (fun i σ H' => ∃ (u : Int) (v : Option V), σ = [some (.ref x), some (.int s0), some (.int e0), some (.ref A), some (.int u), v] ∧ Same H H' ∧ H' A = some (.lst (((stp p s0 e0).take i).map V.int)) ∧ (stp p s0 e0).drop i = stp p u e0)
      ⟨s0, none, rfl, sA, upd_same, rfl⟩ ?_ ?_⟩
    · rintro i σ H1 hi ⟨u, v, rfl, s1, e1, hd⟩
      refine ⟨_, rfl, _, rfl, _, _, rfl, rfl, _, rfl, ite_d (fun hge => ?_) (fun hlt => ?_)⟩
      · rw [stp_ge (t := u) (by omega)] at hd
        have hl := List.drop_eq_nil_iff.mp hd
        rw [List.take_of_length_le hl] at e1
        exact ⟨_, rfl, k A H1 s1 hA e1⟩
      · have hu : u < e0 := by omega
        rw [stp_lt o1 hu] at hd
        have hx : (stp p s0 e0)[i]? = some u := by
          have z : ((stp p s0 e0).drop i)[0]? = some u := by rw [hd]; rfl
          rw [List.getElem?_drop] at z
          exact z
        have hn : (stp p s0 e0).drop (i + 1) = stp p (p.at u) e0 := by
          rw [← List.tail_drop, hd]
          rfl
        refine ⟨_, rfl, .inl ⟨rfl, _, SqL.of e1⟩, _, rfl, A, _, _, rfl, rfl, e1, ?_, ?_⟩
        · rw [List.length_map, List.length_take]
          exact Nat.lt_of_le_of_lt (show _ ≤ 20000 by omega) (by decide)
        · have kl := Kt.lst (o := .lst (((stp p s0 e0).take i).map V.int ++ [.int u])) e1
          refine ⟨_, rfl, _, rfl, x, p, L, u, rfl, (hp.kt (Kt.same s1)).kt kl, o1, by omega, p.at u, _, rfl, fun b w e => ?_, ?_, hn⟩
          · rw [upd_ne (ne_of_none e hA)]
            exact s1 _ _ e
          · rw [upd_same, List.take_add_one, hx, List.map_append]
            rfl
    · rintro σ H1 ⟨u, v, rfl, s1, e1, hd⟩
      rw [List.take_of_length_le (by omega)] at e1
      exact ⟨_, rfl, k A H1 s1 hA e1⟩
end k03
namespace k03
open PySem L2 LC RM
def spsteps_so (a : Ad) : Sp := fun vs H Q _ => ∃ (g l x y : Addr) (p : Pl) (L : Nat), vs = [.ref g, .ref x, .ref y] ∧ Bag l H g ∧ PlanAt H p x ∧ RestAt a (· = g) H p y ∧ p.ok L ∧ p.leaves ≤ 3 ∧ ∀ H', Ok g l H H' → Q (.bl true) H'
theorem ok_steps_so {P : Program} {w : World} {K : PySem.W.Frag} {mg : Str → Option Value} {base : Heap} {f : Addr} {fd : FuncData} (D : Def K mg "_law_steps_so" ssteps_so Psteps_so f fd) (T : Txt K mg) {a : Ad} (KN : Kn K mg a) {fS : Addr} (KS : Ks K a fS) {fdS : FuncData} (GS : LG.GFnX P w K mg base 5 fS fdS PRest_steps (spRest_steps a)) (GL : GFn P w K mg base 5 fS fdS PRest_steps (spRest_stepsL a)) (BS : Binds K fdS PRest_steps []) (KBS : KBn K fdS PRest_steps 1 ["end", "t"] kgS kgS) {fdraw : Addr} {fddraw : FuncData} (Ddraw : Def K mg "_law_draw" sdraw Pdraw fdraw fddraw) (Gdraw : FnOk P w K mg base CX0 1 fdraw fddraw Pdraw (spdraw)) {flike : Addr} {fdlike : FuncData} (Dlike : Def K mg "_law_like" slike Plike flike fdlike) (Glike : FnOk P w K mg base CX0 4 flike fdlike Plike (splike 4)) {fat : Addr} {fdat : FuncData} (Dat : Def K mg "_law_at" sat Pat fat fdat) (Gat : FnOk P w K mg base CX0 3 fat fdat Pat (spat 3)) {fspot : Addr} {fdspot : FuncData} (Dspot : Def K mg "_law_spot" sspot Pspot fspot fdspot) (Gspot : FnOk P w K mg base CX0 4 fspot fdspot Pspot (spspot)) {frow : Addr} {fdrow : FuncData} (Drow : Def K mg "_law_row" srow Prow frow fdrow) (Grow : FnOk P w K mg base CX0 4 frow fdrow Prow (sprow)) :
    FnOk P w K mg base CX0 10 f fd Psteps_so (spsteps_so a) := by
  refine D.F.ok scsteps_so (fun vs H Q E h => ?_) (fun cdv A outer s H vs Q E hr h => ?_)
  · obtain ⟨g, l, x, y, p, L, rfl, bag, hp, R, o, hl, k⟩ := h
    rfl
  · obtain ⟨g, l, x, y, p, L, rfl, bag, hp, R, o, hl, k⟩ := h
    have hrdraw : Room 1 _ := hr.mono (by decide)
    have hrlike : Room 4 _ := hr.mono (by decide)
    have hrat : Room 3 _ := hr.mono (by decide)
    have hrspot : Room 4 _ := hr.mono (by decide)
    have hrrow : Room 4 _ := hr.mono (by decide)
    have hrG : Room 5 _ := hr.mono (by decide)
    have hrL : Room 8 _ := hr.mono (by decide)
    refine ⟨_, (pss_cons (ps_set (i := 3) scsteps_so.nd rfl (Or.inl rfl) (pe_callB (call_min2 rfl) (by rfl) T.n_min (by decide +kernel) (pa_cons pe_int (pa_cons (pe_call Gspot hrspot rfl Dspot.g Dspot.F.kp Dspot.b .nil pass0 (pa_cons (pv 0) (pa_cons (pv 1) pa_nil))) pa_nil))))
        (pss_cons (ps_set (i := 4) scsteps_so.nd rfl (Or.inl rfl) (pe_call Gdraw hrdraw rfl Ddraw.g Ddraw.F.kp Ddraw.b .nil pass0 (pa_cons (pv 0) (pa_cons pe_int pa_nil))))
        (pss_cons (ps_set (i := 5) scsteps_so.nd rfl (Or.inl rfl) (pe_op op_sub (pe_op op_add (pv 3) (pe_call Gdraw hrdraw rfl Ddraw.g Ddraw.F.kp Ddraw.b .nil pass0 (pa_cons (pv 0) (pa_cons pe_int pa_nil)))) pe_int))
        (Evl.pss_cut (ps_if (pt_cmpR op_eq (pv 4) pe_int (nomark _)) (pss_one (ps_set (i := 5) scsteps_so.nd rfl (Or.inl rfl) (pe_op op_sub (pe_op op_add (pe_call Gat hrat rfl Dat.g Dat.F.kp Dat.b .nil pass0 (pa_cons (pv 1) (pa_cons (pv 3) pa_nil))) (pe_call Gdraw hrdraw rfl Ddraw.g Ddraw.F.kp Ddraw.b .nil pass0 (pa_cons (pv 0) (pa_cons pe_int pa_nil)))) pe_int))) pss_nil)
        (Evl.pss_cut (ps_if (pt_cmpR op_eq (pv 4) pe_int (nomark _)) (pss_one (ps_set (i := 5) scsteps_so.nd rfl (Or.inl rfl) (pe_call Gat hrat rfl Dat.g Dat.F.kp Dat.b .nil pass0 (pa_cons (pv 1) (pa_cons (pe_call Gat hrat rfl Dat.g Dat.F.kp Dat.b .nil pass0 (pa_cons (pv 1) (pa_cons (pv 3) pa_nil))) pa_nil))))) pss_nil)
        (Evl.pss_cut (ps_if (pt_cmpR op_lt (pv 5) pe_int (nomark _)) (pss_one (ps_set (i := 5) scsteps_so.nd rfl (Or.inl rfl) pe_int)) pss_nil)
        (pss_cons (ps_set (i := 6) scsteps_so.nd rfl (Or.inl rfl) (pe_call Grow hrrow rfl Drow.g Drow.F.kp Drow.b .nil pass0 (pa_cons (pv 1) (pa_cons (pv 3) (pa_cons (pv 5) pa_nil)))))
        (pss_cons (ps_if (pt_not (pt_val (pe_call Glike hrlike rfl Dlike.g Dlike.F.kp Dlike.b .nil pass0 (pa_cons (pe_listG (LG.pgen_methD (pv 2) KS.k GL hrG BS (pa_cons (pv 3) (pa_cons (pv 5) pa_nil))) LG.pass0C (fun _ _ _ h => False.elim h) hrL (by rfl) T.n_list (by decide +kernel)) (pa_cons (pv 6) pa_nil))))) (pss_one (ps_ret pe_bl)) pss_nil)
        (pss_cons (ps_set (i := 7) scsteps_so.nd rfl (Or.inl rfl) (pe_lst pa_nil))
        (pss_cons (LG.ps_forG (fun _ _ z => z) rfl hrG (LG.pgn_methK (pv 2) KS.k GS hrG KBS (pk_cons (pv 5) (pk_cons (pv 3) pk_nil))) (pg_name (i := 8) scsteps_so.nd rfl (Or.inl rfl))
          (pss_one (ps_expr (pe_bm PySem.F.plainAttrs_list PySem.F.slot_list_append PySem.F.type_list_append mt_append (pv 7) (pa_cons (pv 8) pa_nil)))))
        (pss_one (ps_ret (pe_call Glike hrlike rfl Dlike.g Dlike.F.kp Dlike.b .nil pass0 (pa_cons (pv 7) (pa_cons (pv 6) pa_nil))))))))))))))), ?_⟩
    have hh := p.h_lt
    have h2 : p.h ≤ 2 := by omega
    refine ⟨_, rfl, _, rfl, g, l, x, p, L, rfl, bag, hp, o, hl, fun s H1 s0 s1 r1 => ⟨_, _, rfl, ?_⟩⟩
    obtain ⟨t, ht⟩ : ∃ t, t = if s < 85000 then s else 85000 := ⟨_, rfl⟩
    rw [← ht]
    have t0 : 0 ≤ t := by rw [ht]; split <;> omega
    have t1 : t ≤ 85000 := by rw [ht]; split <;> omega
    clear ht
    have a1 := p.at_gt o t
    have a2 := p.at_le o t t0
    have a3 := p.at_le o (p.at t) (by omega)
    have a4 := p.at_gt o (p.at t)
    refine ⟨_, rfl, g, l, 5, rfl, r1.bag, by decide, by decide, fun d H2 d0 d1 r2 => ?_⟩
    refine ⟨_, rfl, _, rfl, g, l, 150, rfl, r2.bag, by decide, by decide, fun e H3 e0 e1 r3 => ⟨_, _, rfl, rfl, _, _, rfl, rfl, ?_⟩⟩
    have R3 := (r1.trans r2).trans r3
    refine ⟨fun σ H' => ∃ e : Int, σ = [some (.ref g), some (.ref x), some (.ref y), some (.int t), some (.int d), some (.int e), none, none, none] ∧ Ok g l H H' ∧ -100 ≤ e ∧ e ≤ t + 13000, ?_, ?_⟩
    · refine ⟨_, rfl, rfl, _, rfl, ite_eq (fun _ => ?_) (fun _ => ⟨_, rfl, R3, by omega, by omega⟩)⟩
      refine ⟨_, rfl, _, rfl, x, p, L, t, rfl, hp.kt (Kt.ok R3), o, by omega, _, rfl, g, l, 3, rfl, R3.bag, by decide, by decide, fun u H4 u0 u1 r4 => ⟨_, _, rfl, rfl, _, _, rfl, rfl, ?_⟩⟩
      exact ⟨_, rfl, R3.trans r4, by omega, by omega⟩
    rintro σ H4 ⟨e, rfl, R4, e0, e1⟩
    refine ⟨fun σ H' => ∃ e : Int, σ = [some (.ref g), some (.ref x), some (.ref y), some (.int t), some (.int d), some (.int e), none, none, none] ∧ Ok g l H H' ∧ -100 ≤ e ∧ e ≤ t + 13000, ?_, ?_⟩
    · refine ⟨_, rfl, rfl, _, rfl, ite_eq (fun _ => ?_) (fun _ => ⟨_, rfl, R4, by omega, by omega⟩)⟩
      refine ⟨_, rfl, _, rfl, _, rfl, x, p, L, t, rfl, hp.kt (Kt.ok R4), o, by omega, x, p, L, _, rfl, hp.kt (Kt.ok R4), o, by omega, ?_⟩
      exact ⟨_, rfl, R4, by omega, by omega⟩
    rintro σ H5 ⟨e, rfl, R5, e0, e1⟩
    refine ⟨fun σ H' => ∃ e : Int, σ = [some (.ref g), some (.ref x), some (.ref y), some (.int t), some (.int d), some (.int e), none, none, none] ∧ Ok g l H H' ∧ 0 ≤ e ∧ e ≤ t + 13000, ?_, ?_⟩
    · exact ⟨_, rfl, _, _, rfl, rfl, _, rfl, ite_d (fun _ => ⟨_, rfl, R5, by omega, by omega⟩) (fun _ => ⟨_, rfl, R5, by omega, by omega⟩)⟩
    rintro σ H6 ⟨e, rfl, R6, e0, e1⟩
    have hsl := stp_len o (e := e) t
    refine ⟨_, rfl, _, rfl, _, rfl, x, p, L, t, e, rfl, hp.kt (Kt.ok R6), o, h2, by omega, by omega, by omega, by omega, by omega, fun D H7 s7 n7 eD => ?_⟩
    have R7 := R6.same s7
    have Ry := R.kp (KpF.kp (F := (· = g)) rfl R7.kp)
    obtain ⟨C, dx, fs, hx, c, m, lk⟩ := Ry.steps KN KS
    refine ⟨_, rfl, y, C, dx, fs, rfl, hx, c, m, lk, _, rfl, _, rfl, y, _, p, L, t, e, rfl, Ry, o, h2, by omega, fun B hB => ?_⟩
    have sB := same_new (o := .lst ((stp p t e).map V.int)) hB
    refine ⟨_, rfl, _, _, 1, rfl, by decide, Lk.ints upd_same (sB _ _ eD) (by omega) 0, fun H8 s8 => ⟨_, rfl, iteF ?_⟩⟩
    have s78 := sB.trans s8
    have eD8 := s78 _ _ eD
    refine ⟨Nat.zero_le _, fun A hA => ?_⟩
    have sA := same_new (o := .lst []) hA
    have Ry8 := Ry.same s78
    obtain ⟨C, dx, fs, hx, c, m, lk⟩ := (Ry8.same sA).steps KN KS
    refine ⟨_, rfl, y, C, dx, fs, rfl, hx, c, m, lk, _, rfl, _, rfl, rfl, _, _, ⟨y, _, p, L, t, e, rfl, Ry8.same sA, o, h2, rfl, rfl⟩, ?_⟩
    refine ⟨fun i σ H' => ∃ v : Option V, σ = [some (.ref g), some (.ref x), some (.ref y), some (.int t), some (.int d), some (.int e), some (.ref D), some (.ref A), v] ∧ Same H8 H' ∧ H' A = some (.lst (((stp p t e).take i).map V.int)), ⟨none, rfl, sA, upd_same⟩, fun i σ H' ⟨v, _, s, _⟩ => Ry8.same s, ?_⟩
    rintro i σ H9 ⟨v, rfl, s9, e9⟩
    refine ⟨fun z hz H10 s10 => ?_, fun e2 H10 s10 => ?_⟩
    · rw [List.getElem?_map] at hz
      cases hu : (stp p t e)[i]? with
      | none => rw [hu] at hz; cases hz
      | some u =>
        rw [hu] at hz
        cases hz
        have e10 := s10 _ _ e9
        have il := (List.getElem?_eq_some_iff.mp hu).1
        refine ⟨_, rfl, .inl ⟨rfl, _, SqL.of e10⟩, _, rfl, A, _, _, rfl, rfl, e10, ?_, _, rfl, fun b w eb => ?_, ?_⟩
        · rw [List.length_map, List.length_take]
          exact Nat.lt_of_le_of_lt (show _ ≤ 1000000 by omega) (by decide)
        · rw [upd_ne (ne_of_none eb hA)]
          exact s10 _ _ (s9 _ _ eb)
        · rw [upd_same, List.take_add_one, hu, List.map_append]
          rfl
    · rw [List.length_map] at e2
      have e10 := s10 _ _ e9
      rw [List.take_of_length_le (by omega)] at e10
      have s810 := s9.trans s10
      refine ⟨_, rfl, _, rfl, _, _, 1, rfl, by decide, Lk.ints e10 (s810 _ _ eD8) (by omega) 0, fun H11 s11 => ?_⟩
      exact k H11 (R7.same ((s78.trans s810).trans s11))
end k03
namespace k03
open PySem L2 LC RM
def spnested_so (a : Ad) : Sp := fun vs H Q _ => ∃ (g l x y : Addr) (p : Pl) (L : Nat), vs = [.ref g, .ref x, .ref y] ∧ Bag l H g ∧ PlanAt H p x ∧ RestAt a (· = g) H p y ∧ p.ok L ∧ p.leaves ≤ 3 ∧ ∀ H', Ok g l H H' → Q (.bl true) H'
theorem ok_nested_so {P : Program} {w : World} {K : PySem.W.Frag} {mg : Str → Option Value} {base : Heap} {f : Addr} {fd : FuncData} (D : Def K mg "_law_nested_so" snested_so Pnested_so f fd) (T : Txt K mg) {a : Ad} (KN : Kn K mg a) {fS : Addr} (KS : Ks K a fS) {fdS : FuncData} (GS : LG.GFnX P w K mg base 5 fS fdS PRest_steps (spRest_steps a)) (GL : GFn P w K mg base 5 fS fdS PRest_steps (spRest_stepsL a)) (BS : Binds K fdS PRest_steps []) (KBS : KBn K fdS PRest_steps 1 ["end", "t"] kgS kgS) {fdraw : Addr} {fddraw : FuncData} (Ddraw : Def K mg "_law_draw" sdraw Pdraw fdraw fddraw) (Gdraw : FnOk P w K mg base CX0 1 fdraw fddraw Pdraw (spdraw)) {flike : Addr} {fdlike : FuncData} (Dlike : Def K mg "_law_like" slike Plike flike fdlike) (Glike : FnOk P w K mg base CX0 4 flike fdlike Plike (splike 4)) {frow : Addr} {fdrow : FuncData} (Drow : Def K mg "_law_row" srow Prow frow fdrow) (Grow : FnOk P w K mg base CX0 4 frow fdrow Prow (sprow)) :
    FnOk P w K mg base CX0 10 f fd Pnested_so (spnested_so a) := by
  refine D.F.ok scnested_so (fun vs H Q E h => ?_) (fun cdv A outer s H vs Q E hr h => ?_)
  · obtain ⟨g, l, x, y, p, L, rfl, bag, hp, R, o, hl, k⟩ := h
    rfl
  · obtain ⟨g, l, x, y, p, L, rfl, bag, hp, R, o, hl, k⟩ := h
    have hrdraw : Room 1 _ := hr.mono (by decide)
    have hrlike : Room 4 _ := hr.mono (by decide)
    have hrrow : Room 4 _ := hr.mono (by decide)
    have hrG : Room 5 _ := hr.mono (by decide)
    have hrL : Room 8 _ := hr.mono (by decide)
    refine ⟨_, (pss_cons (ps_set (i := 3) scnested_so.nd rfl (Or.inl rfl) (pe_call Gdraw hrdraw rfl Ddraw.g Ddraw.F.kp Ddraw.b .nil pass0 (pa_cons (pv 0) (pa_cons pe_int pa_nil))))
        (pss_cons (ps_par (i := 4) (j := 5) (by rfl) scnested_so.nd rfl rfl (by decide) rfl rfl (pa_cons (pe_op op_add (pv 3) (pe_call Gdraw hrdraw rfl Ddraw.g Ddraw.F.kp Ddraw.b .nil pass0 (pa_cons (pv 0) (pa_cons pe_int pa_nil)))) (pa_cons (pe_lst pa_nil) pa_nil)) (by rfl))
        (pss_cons (LG.ps_forG (fun _ _ z => z) rfl hrG (LG.pgn_meth (pv 2) KS.k GS hrG BS (pa_cons (pv 3) (pa_cons (pv 4) pa_nil))) (pg_name (i := 6) scnested_so.nd rfl (Or.inl rfl))
          (pss_cons (ps_expr (pe_bm PySem.F.plainAttrs_list PySem.F.slot_list_append PySem.F.type_list_append mt_append (pv 5) (pa_cons (pv 6) pa_nil)))
        (pss_one (ps_if (pt_not (pt_val (pe_call Glike hrlike rfl Dlike.g Dlike.F.kp Dlike.b .nil pass0 (pa_cons (pe_listG (LG.pgen_methD (pv 2) KS.k GL hrG BS (pa_cons (pv 6) (pa_cons (pv 4) pa_nil))) LG.pass0C (fun _ _ _ h => False.elim h) hrL (by rfl) T.n_list (by decide +kernel)) (pa_cons (pe_call Grow hrrow rfl Drow.g Drow.F.kp Drow.b .nil pass0 (pa_cons (pv 1) (pa_cons (pv 6) (pa_cons (pv 4) pa_nil)))) pa_nil))))) (pss_one (ps_ret pe_bl)) pss_nil))))
        (pss_one (ps_ret (pe_call Glike hrlike rfl Dlike.g Dlike.F.kp Dlike.b .nil pass0 (pa_cons (pv 5) (pa_cons (pe_call Grow hrrow rfl Drow.g Drow.F.kp Drow.b .nil pass0 (pa_cons (pv 1) (pa_cons (pv 3) (pa_cons (pv 4) pa_nil)))) pa_nil)))))))), ?_⟩
    have hh := p.h_lt
    have h2 : p.h ≤ 2 := by omega
    refine ⟨_, rfl, g, l, 60, rfl, bag, by decide, by decide, fun t H1 t0 t1 r1 => ?_⟩
    refine ⟨_, rfl, _, rfl, g, l, 50, rfl, r1.bag, by decide, by decide, fun d H2 d0 d1 r2 => ⟨_, _, rfl, rfl, Nat.zero_le _, fun A hA => ⟨_, _, rfl, ?_⟩⟩⟩
    obtain ⟨e, he⟩ : ∃ e, e = t + d := ⟨_, rfl⟩
    rw [show (fun (i j : Int) => V.int (i + j)) t d = V.int e by rw [he]]
    have hsl := stp_len o (e := e) t
    have R2 := r1.trans r2
    have sA := same_new (o := .lst []) hA
    have hp2 := hp.kt (Kt.ok R2)
    have Ry := R.kp (KpF.kp (F := (· = g)) rfl R2.kp)
    obtain ⟨C, dx, fs, hx, c, m, lk⟩ := (Ry.same sA).steps KN KS
    refine ⟨_, rfl, y, C, dx, fs, rfl, hx, c, m, lk, _, rfl, _, rfl, _, _, ⟨y, _, p, L, t, e, rfl, Ry.same sA, o, h2, rfl, rfl⟩, ?_⟩
    refine ⟨fun i σ H' => ∃ v : Option V, σ = [some (.ref g), some (.ref x), some (.ref y), some (.int t), some (.int e), some (.ref A), v] ∧ Same H2 H' ∧ H' A = some (.lst (((stp p t e).take i).map V.int)), ⟨none, rfl, sA, upd_same⟩, fun i σ H' ⟨v, _, s, _⟩ => Ry.same s, ?_⟩
    rintro i σ H3 ⟨v, rfl, s3, e3⟩
    refine ⟨fun z hz H4 s4 => ?_, fun e2 H4 s4 => ?_⟩
    · rw [List.getElem?_map] at hz
      cases hu : (stp p t e)[i]? with
      | none => rw [hu] at hz; cases hz
      | some u =>
        rw [hu] at hz
        cases hz
        have e4 := s4 _ _ e3
        have il := (List.getElem?_eq_some_iff.mp hu).1
        have um := stp_mem o (e := e) t u (List.mem_of_getElem? hu)
        have s24 := s3.trans s4
        have eA5 : upd H4 A (.lst (((stp p t e).take i).map V.int ++ [.int u])) A = some (.lst (((stp p t e).take (i + 1)).map V.int)) := by
          rw [upd_same, List.take_add_one, hu, List.map_append]
          rfl
        have s25 : Same H2 (upd H4 A (.lst (((stp p t e).take i).map V.int ++ [.int u]))) := fun b w eb => by
          rw [upd_ne (ne_of_none eb hA)]
          exact s24 _ _ eb
        refine ⟨_, rfl, .inl ⟨rfl, _, SqL.of e4⟩, _, rfl, A, _, _, rfl, rfl, e4, ?_, ?_⟩
        · rw [List.length_map, List.length_take]
          exact Nat.lt_of_le_of_lt (show _ ≤ 1000000 by omega) (by decide)
        generalize upd H4 A (.lst (((stp p t e).take i).map V.int ++ [.int u])) = H5 at eA5 s25 ⊢
        have hsu := stp_len o (e := e) u
        have Ry5 := Ry.same s25
        obtain ⟨C, dx, fs, hx, c, m, lk⟩ := Ry5.steps KN KS
        refine ⟨_, rfl, y, C, dx, fs, rfl, hx, c, m, lk, _, rfl, _, rfl, y, _, p, L, u, e, rfl, Ry5, o, h2, by omega, fun B hB => ?_⟩
        have sB := same_new (o := .lst ((stp p u e).map V.int)) hB
        have s26 := s25.trans sB
        refine ⟨_, rfl, _, rfl, _, rfl, x, p, L, u, e, rfl, hp2.kt (Kt.same s26), o, h2, by omega, by omega, by omega, by omega, by omega, fun D H7 s7 n7 eD => ?_⟩
        refine ⟨_, _, 1, rfl, by decide, Lk.ints (s7 _ _ upd_same) eD (by omega) 0, fun H8 s8 => ⟨_, rfl, iteF ?_⟩⟩
        exact ⟨_, rfl, (s26.trans s7).trans s8, s8 _ _ (s7 _ _ (sB _ _ eA5))⟩
    · rw [List.length_map] at e2
      have e4 := s4 _ _ e3
      rw [List.take_of_length_le (by omega)] at e4
      have s24 := s3.trans s4
      refine ⟨_, rfl, _, rfl, _, rfl, _, rfl, x, p, L, t, e, rfl, hp2.kt (Kt.same s24), o, h2, by omega, by omega, by omega, by omega, by omega, fun D H7 s7 n7 eD => ?_⟩
      refine ⟨_, _, 1, rfl, by decide, Lk.ints (s7 _ _ e4) eD (by omega) 0, fun H8 s8 => ?_⟩
      exact k H8 (R2.same ((s24.trans s7).trans s8))
end k03
namespace k03
open PySem L2 LC RM
def splaw (K : PySem.W.Frag) : Sp := fun vs H Q _ => ∃ (a : Addr) (ns : List Int), vs = [.ref a] ∧ SqL K H a (ns.map V.int) ∧ ns.length ≤ 63 ∧ ∀ H', Q (.bl true) H'
theorem ok_law {P : Program} {w : World} {K : PySem.W.Frag} {mg : Str → Option Value} {base : Heap} {f : Addr} {fd : FuncData} (D : Def K mg "law" slaw Plaw f fd) (T : Txt K mg) {a : Ad} (KN : Kn K mg a) (IWindow : FnR P w K mg base CX0 4 a.Wi (spWindow_init K a)) (IDays : FnR P w K mg base CX0 4 a.Di (spDays_init K a)) (ILater : FnR P w K mg base CX0 4 a.Li (spLater_init K a)) (ISooner : FnR P w K mg base CX0 4 a.Si (spSooner_init K a)) (INext : FnR P w K mg base CX0 4 a.Ni (spNext_init K a)) {fS : Addr} (KS : Ks K a fS) {fdS : FuncData} (GS : LG.GFnX P w K mg base 5 fS fdS PRest_steps (spRest_steps a)) (GL : GFn P w K mg base 5 fS fdS PRest_steps (spRest_stepsL a)) (BS : Binds K fdS PRest_steps []) (KBS : KBn K fdS PRest_steps 1 ["end", "t"] kgS kgS) {fT : Addr} (KL : Kl K a fT) {fdT : FuncData} (GT : FnOk P w K mg base CX0 5 fT fdT PRest_latest (spRest_latest K a)) (RT : FnR P w K mg base CX0 5 fT (spRest_latest K a)) (KBT : KBn K fdT PRest_latest 1 ["f"] kgL kgL) {fbag : Addr} {fdbag : FuncData} (Dbag : Def K mg "_law_bag" sbag Pbag fbag fdbag) (Gbag : FnOk P w K mg base CX0 1 fbag fdbag Pbag (spbag K)) {fdraw : Addr} {fddraw : FuncData} (Ddraw : Def K mg "_law_draw" sdraw Pdraw fdraw fddraw) (Gdraw : FnOk P w K mg base CX0 1 fdraw fddraw Pdraw (spdraw)) {fof : Addr} {fdof : FuncData} (Dof : Def K mg "_law_of" sof Pof fof fdof) (Gof : FnOk P w K mg base CX0 2 fof fdof Pof (spof K)) {fplan : Addr} {fdplan : FuncData} (Dplan : Def K mg "_law_plan" splan Pplan fplan fdplan) (Gplan : FnOk P w K mg base CX0 4 fplan fdplan Pplan (spplan)) {fmade : Addr} {fdmade : FuncData} (Dmade : Def K mg "_law_made" smade Pmade fmade fdmade) (Gmade : FnOk P w K mg base CX0 8 fmade fdmade Pmade (spmade a 3)) {fbound : Addr} {fdbound : FuncData} (Dbound : Def K mg "_law_bound" sbound Pbound fbound fdbound) (Gbound : FnOk P w K mg base CX0 5 fbound fdbound Pbound (spbound)) {flatest_so : Addr} {fdlatest_so : FuncData} (Dlatest_so : Def K mg "_law_latest_so" slatest_so Platest_so flatest_so fdlatest_so) (Glatest_so : FnOk P w K mg base CX0 4 flatest_so fdlatest_so Platest_so (splatest_so K)) {fsteps_so : Addr} {fdsteps_so : FuncData} (Dsteps_so : Def K mg "_law_steps_so" ssteps_so Psteps_so fsteps_so fdsteps_so) (Gsteps_so : FnOk P w K mg base CX0 10 fsteps_so fdsteps_so Psteps_so (spsteps_so a)) {fnested_so : Addr} {fdnested_so : FuncData} (Dnested_so : Def K mg "_law_nested_so" snested_so Pnested_so fnested_so fdnested_so) (Gnested_so : FnOk P w K mg base CX0 10 fnested_so fdnested_so Pnested_so (spnested_so a)) :
    FnOk P w K mg base CX0 11 f fd Plaw (splaw K) := by
  refine D.F.ok sclaw (fun vs H Q E h => ?_) (fun cdv A outer s H vs Q E hr h => ?_)
  · obtain ⟨sc, ns, rfl, hS, hl, k⟩ := h
    rfl
  · obtain ⟨sc, ns, rfl, hS, hl, k⟩ := h
    have hrbag : Room 1 _ := hr.mono (by decide)
    have hrdraw : Room 1 _ := hr.mono (by decide)
    have hrof : Room 2 _ := hr.mono (by decide)
    have hrplan : Room 4 _ := hr.mono (by decide)
    have hrmade : Room 8 _ := hr.mono (by decide)
    have hrbound : Room 5 _ := hr.mono (by decide)
    have hrlatest_so : Room 4 _ := hr.mono (by decide)
    have hrsteps_so : Room 10 _ := hr.mono (by decide)
    have hrnested_so : Room 10 _ := hr.mono (by decide)
    have hrT : Room 5 _ := hr.mono (by decide)
    have hrI : Room 5 _ := hr.mono (by decide)
    refine ⟨_, (pss_cons (ps_set (i := 1) sclaw.nd rfl (Or.inl rfl) (pe_call Gbag hrbag rfl Dbag.g Dbag.F.kp Dbag.b .nil pass0 (pa_cons (pv 0) pa_nil)))
        (pss_cons (ps_set (i := 2) sclaw.nd rfl (Or.inl rfl) (pe_call Gof hrof rfl Dof.g Dof.F.kp Dof.b .nil pass0 (pa_cons (pv 1) (pa_cons (pe_lst (pa_cons pe_int (pa_cons pe_int (pa_cons pe_int (pa_cons pe_int (pa_cons pe_int (pa_cons pe_int (pa_cons pe_int (pa_cons pe_int pa_nil))))))))) pa_nil))))
        (pss_cons (ps_set (i := 3) sclaw.nd rfl (Or.inl rfl) (pe_lst (pa_cons (pe_call Gplan hrplan rfl Dplan.g Dplan.F.kp Dplan.b .nil pass0 (pa_cons (pv 1) (pa_cons (pv 2) (pa_cons (pe_lst (pa_cons pe_int (pa_cons pe_int pa_nil))) pa_nil)))) (pa_cons (pe_call Gplan hrplan rfl Dplan.g Dplan.F.kp Dplan.b .nil pass0 (pa_cons (pv 1) (pa_cons (pe_call Gof hrof rfl Dof.g Dof.F.kp Dof.b .nil pass0 (pa_cons (pv 1) (pa_cons (pe_lst (pa_cons pe_int (pa_cons pe_int (pa_cons (pv 2) pa_nil)))) pa_nil))) (pa_cons (pe_lst (pa_cons pe_int (pa_cons pe_int pa_nil))) pa_nil)))) pa_nil))))
        (pss_cons (ps_setLc (i := 4) (own := [("_law_plan_here", 11)]) (g := gName 11) (tt := tYes) rfl sclaw.nd rfl rfl (sw_true rfl rfl rfl (by decide +kernel)) (pi_list (pv 3)) (blkOk_by (own := [("_law_plan_here", 11)]) (N := Nmlaw) (sc := defScope slaw) (by decide +kernel)) (fun _ _ _ _ _ => pg_name (i := 11) sclaw.nd rfl (Or.inl rfl)) (fun _ _ _ _ _ => pts_nil) (fun _ _ _ _ _ => (pe_call Gmade hrmade rfl Dmade.g Dmade.F.kp Dmade.b .nil pass0 (pa_cons (pv 11) pa_nil))))
        (pss_cons (ps_set (i := 5) sclaw.nd rfl (Or.inl rfl) (pe_lst pa_nil))
        (pss_cons (ps_for PassesOwn.never rfl (pi_range1 rfl T.n_range (pa_cons pe_int pa_nil)) (pg_name (i := 6) sclaw.nd rfl (Or.inl rfl))
          (pss_cons (ps_set (i := 7) sclaw.nd rfl (Or.inl rfl) (pe_call Gdraw hrdraw rfl Ddraw.g Ddraw.F.kp Ddraw.b .nil pass0 (pa_cons (pv 1) (pa_cons pe_int pa_nil))))
        (pss_cons (ps_par (i := 8) (j := 9) (by rfl) sclaw.nd rfl rfl (by decide) rfl rfl (pa_cons (pe_ix ix_list (pv 4) (pv 7) (fun _ _ => rfl)) (pa_cons (pe_call Gbound hrbound rfl Dbound.g Dbound.F.kp Dbound.b .nil pass0 (pa_cons (pv 1) (pa_cons (pe_ix ix_list (pv 3) (pv 7) (fun _ _ => rfl)) pa_nil))) pa_nil)) (by rfl))
        (pss_cons (ps_set (i := 10) sclaw.nd rfl (Or.inl rfl) (pe_ifExp (pt_cmpR op_eq (pe_call Gdraw hrdraw rfl Ddraw.g Ddraw.F.kp Ddraw.b .nil pass0 (pa_cons (pv 1) (pa_cons pe_int pa_nil))) pe_int (nomark _)) (LG.pe_methKD (pv 8) KL.k GT hrT KBT pass0 (pk_cons (pv 9) pk_nil)) (LS.pe_methD (pv 8) KL.k RT hrT (pa_cons (pv 9) pa_nil))))
        (pss_cons (ps_if (pt_not (pt_val (pe_call Glatest_so hrlatest_so rfl Dlatest_so.g Dlatest_so.F.kp Dlatest_so.b .nil pass0 (pa_cons (pv 10) (pa_cons (pe_ix ix_list (pv 3) (pv 7) (fun _ _ => rfl)) (pa_cons (pv 9) pa_nil)))))) (pss_one (ps_ret pe_bl)) pss_nil)
        (pss_one (ps_expr (pe_bm PySem.F.plainAttrs_list PySem.F.slot_list_append PySem.F.type_list_append mt_append (pv 5) (pa_cons (pe_tup (pa_cons (pv 7) (pa_cons (pv 9) pa_nil))) pa_nil)))))))))
        (pss_cons (ps_for PassesOwn.never rfl (pi_tup (pe_tup (pa_cons pe_int (pa_cons pe_int (pa_cons pe_int (pa_cons pe_int pa_nil)))))) (pg_name (i := 7) sclaw.nd rfl (Or.inl rfl))
          (pss_one (ps_if (pt_not (pt_val (pe_call Gsteps_so hrsteps_so rfl Dsteps_so.g Dsteps_so.F.kp Dsteps_so.b .nil pass0 (pa_cons (pv 1) (pa_cons (pe_ix ix_list (pv 3) (pv 7) (fun _ _ => rfl)) (pa_cons (pe_ix ix_list (pv 4) (pv 7) (fun _ _ => rfl)) pa_nil)))))) (pss_one (ps_ret pe_bl)) pss_nil)))
        (pss_cons (ps_set (i := 7) sclaw.nd rfl (Or.inl rfl) (pe_call Gdraw hrdraw rfl Ddraw.g Ddraw.F.kp Ddraw.b .nil pass0 (pa_cons (pv 1) (pa_cons pe_int pa_nil))))
        (pss_cons (ps_if (pt_not (pt_val (pe_call Gnested_so hrnested_so rfl Dnested_so.g Dnested_so.F.kp Dnested_so.b .nil pass0 (pa_cons (pv 1) (pa_cons (pe_ix ix_list (pv 3) (pv 7) (fun _ _ => rfl)) (pa_cons (pe_ix ix_list (pv 4) (pv 7) (fun _ _ => rfl)) pa_nil)))))) (pss_one (ps_ret pe_bl)) pss_nil)
        (pss_cons (ps_for PassesOwn.never rfl (pi_list (pe_slice sl_list (pv 5) po_none (po_some pe_int))) ((pg_tup rfl (pgs_cons (pg_name (i := 7) sclaw.nd rfl (Or.inl rfl)) (pgs_cons (pg_name (i := 9) sclaw.nd rfl (Or.inl rfl)) pgs_nil))))
          (pss_one (ps_if (pt_not (pt_val (pe_call Glatest_so hrlatest_so rfl Dlatest_so.g Dlatest_so.F.kp Dlatest_so.b .nil pass0 (pa_cons (LS.pe_methD (pe_ix ix_list (pv 4) (pv 7) (fun _ _ => rfl)) KL.k RT hrT (pa_cons (pv 9) pa_nil)) (pa_cons (pe_ix ix_list (pv 3) (pv 7) (fun _ _ => rfl)) (pa_cons (pv 9) pa_nil)))))) (pss_one (ps_ret pe_bl)) pss_nil)))
        (pss_one (ps_ret pe_bl)))))))))))), ?_⟩
    refine ⟨_, rfl, sc, ns, rfl, hS, hl, fun g H1 ng s1 ⟨l, B⟩ => ?_⟩
    refine ⟨_, rfl, (by show 8 ≤ sizeLine; decide), fun pw hpw => of_disp (E := E0) (Ok.refl B) hpw (by show 0 < 8; decide) (by show 8 ≤ 1000000; decide) fun xw H2 hx kk r2 => ?_⟩
    obtain ⟨wd, rfl, w0, w1⟩ : ∃ wd : Int, xw = .int wd ∧ 1 ≤ wd ∧ wd ≤ 1000 := by
      simp only [List.mem_cons, List.not_mem_nil, or_false] at hx
      rcases hx with rfl | rfl | rfl | rfl | rfl | rfl | rfl | rfl
      all_goals exact ⟨_, rfl, by decide, by decide⟩
    -- the plans
    refine ⟨_, rfl, _, rfl, (by show 2 ≤ sizeLine; decide), fun b1 hb1 => ⟨g, l, b1, wd, rfl, (r2.new hb1).bag, (r2.bag.ne hb1).1, (r2.bag.ne hb1).2, w0, w1, upd_same, fun p0 x0 B0 H3 kx3 bag3 B00 B01 o0 l0 hp0 => ?_⟩⟩
    have r3 : Ok g l H2 H3 := ⟨r2.bag, kx3.kp hb1, bag3⟩
    refine ⟨_, rfl, _, rfl, _, rfl, (by show 3 ≤ sizeLine; decide), fun p3 hp3 => of_disp (E := E0) (Ok.refl bag3) hp3 (by show 0 < 3; decide) (by show 3 ≤ 1000000; decide) fun xv H4 hx kk4 r4 => ?_⟩
    obtain ⟨wv, rfl, v0, v1⟩ : ∃ wv : Int, xv = .int wv ∧ 1 ≤ wv ∧ wv ≤ 1000 := by
      simp only [List.mem_cons, List.not_mem_nil, or_false] at hx
      rcases hx with rfl | rfl | rfl
      · exact ⟨_, rfl, by decide, by decide⟩
      · exact ⟨_, rfl, by decide, by decide⟩
      · exact ⟨_, rfl, w0, w1⟩
    refine ⟨(by show 2 ≤ sizeLine; decide), fun b2 hb2 => ⟨g, l, b2, wv, rfl, (r4.new hb2).bag, (r4.bag.ne hb2).1, (r4.bag.ne hb2).2, v0, v1, upd_same, fun q1 x1 B1 H5 kx5 bag5 B10 B11 o1 l1 hp1 => ?_⟩⟩
    have r5 : Ok g l H4 H5 := ⟨r4.bag, kx5.kp hb2, bag5⟩
    have hp0' := hp0.kt (Kt.ok (r4.trans r5))
    refine ⟨(by show 2 ≤ sizeLine; decide), fun PL hPL => ?_⟩
    have r6 := (Ok.refl bag5).new (o := .lst [.ref x0, .ref x1]) hPL
    have nPL := bag5.ne hPL
    have ePL : upd H5 PL (.lst [.ref x0, .ref x1]) PL = some (.lst [.ref x0, .ref x1]) := upd_same
    have hq0 := hp0'.kt (Kt.ok r6)
    have hq1 := hp1.kt (Kt.ok r6)
    have bag6 := r6.bag
    generalize upd H5 PL (.lst [.ref x0, .ref x1]) = H6 at r6 ePL hq0 hq1 bag6 ⊢
    -- the rests
    refine ⟨_, rfl, PL, rfl, ⟨_, SqL.of ePL⟩, fun D hD => ?_⟩
    have nD := bag6.ne hD
    have PLD : PL ≠ D := ne_of_none ePL hD
    have rD := (Ok.refl bag6).new (o := .lst []) hD
    refine lc_it (walk_list (K := K) (a := PL) (xs := [V.ref x0, V.ref x1])) (fun i H' => Ok g l H6 H' ∧ ∃ ys : List Addr, H' D = some (.lst (ys.map V.ref)) ∧ ys.length = i ∧ (∀ y, ys[0]? = some y → RestAt a (fun b => b = g ∨ b = D) H' p0 y) ∧ (∀ y, ys[1]? = some y → RestAt a (fun b => b = g ∨ b = D) H' q1 y))
      ⟨rD, [], upd_same, rfl, (fun y e => by cases e), (fun y e => by cases e)⟩ (fun i H' _ ⟨r, _⟩ => SqL.of (r.at_ ePL nPL.1)) ?_ ?_
    · rintro i y H7 H7' hi ⟨R7, ys, eD, ly, ry0, ry1⟩ ⟨rfl, hy⟩
      have pick : ∃ (p : Pl) (x : Addr) (B : Nat), y = V.ref x ∧ PlanAt H6 p x ∧ p.ok B ∧ 0 < B ∧ B ≤ 2000 ∧ p.leaves ≤ 3 ∧ ((i = 0 ∧ p = p0) ∨ (i = 1 ∧ p = q1)) := by
        match i, hy with
        | 0, hy => cases hy; exact ⟨p0, x0, B0, rfl, hq0, o0, B00, B01, l0, .inl ⟨rfl, rfl⟩⟩
        | 1, hy => cases hy; exact ⟨q1, x1, B1, rfl, hq1, o1, B10, B11, l1, .inr ⟨rfl, rfl⟩⟩
      obtain ⟨p, x, BB, rfl, hpx, oo, b0, b1', ll, cs⟩ := pick
      have hh := p.h_lt
      refine ⟨rfl, _, rfl, (fun b => b = g ∨ b = D), x, p, BB, rfl, hpx.kt (Kt.ok R7), oo, b0, b1', ll, by omega, ?_, fun z H8 s8 R8 => ?_⟩
      · rintro c (rfl | rfl)
        · obtain ⟨⟨us, e⟩, _⟩ := R7.bag.there
          exact ⟨_, e⟩
        · exact ⟨_, eD⟩
      have eD8 := s8 _ _ eD
      have fr : KpF (fun b => b = g ∨ b = D) H8 (upd H8 D (.lst (ys.map V.ref ++ [.ref z]))) := fun b o n e => by
        rw [upd_ne (fun zz => n (.inr zz))]
        exact e
      refine ⟨_, eD8, by rw [List.length_map, ly]; exact Nat.lt_of_lt_of_le hi (by show 2 ≤ sizeLine; decide), (R7.same s8).mut hD, ys ++ [z], by rw [upd_same, List.map_append]; rfl, by rw [List.length_append, ly]; rfl, ?_, ?_⟩
      · intro u hu
        rcases cs with ⟨rfl, rfl⟩ | ⟨rfl, rfl⟩
        · match ys, ly, hu with
          | [], _, hu => cases hu; exact R8.kp fr
        · match ys, ly, hu, ry0 with
          | [w], _, hu, ry0 => cases hu; exact ((ry0 _ rfl).same s8).kp fr
      · intro u hu
        rcases cs with ⟨rfl, rfl⟩ | ⟨rfl, rfl⟩
        · match ys, ly, hu with
          | [], _, hu => cases hu
        · match ys, ly, hu with
          | [w], _, hu => cases hu; exact R8.kp fr
    rintro H7 ⟨R7, ys, eD, ly, ry0, ry1⟩
    obtain ⟨y0, y1, rfl⟩ : ∃ y0 y1, ys = [y0, y1] := match ys, ly with | [y0, y1], _ => ⟨y0, y1, rfl⟩
    have RR0 := (ry0 y0 rfl).mono (G := (· = g)) fun b z => .inl z
    have RR1 := (ry1 y1 rfl).mono (G := (· = g)) fun b z => .inl z
    have PP0 := hq0.kt (Kt.ok R7)
    have PP1 := hq1.kt (Kt.ok R7)
    have ePL7 := R7.at_ ePL nPL.1
    have bag7 := R7.bag
    have eD7 : H7 D = some (.lst [.ref y0, .ref y1]) := eD
    clear ry0 ry1 eD ePL hq0 hq1
    have nPLg := nPL.1
    have nDg := nD.1
    have pick : ∀ j : Int, 0 ≤ j → j < 2 → ∃ (jn : Nat) (u z : Addr) (p : Pl) (L : Nat), j = jn ∧ ([V.ref x0, V.ref x1])[jn]? = some (.ref u) ∧ ([V.ref y0, V.ref y1])[jn]? = some (.ref z) ∧ PlanAt H7 p u ∧ RestAt a (· = g) H7 p z ∧ p.ok L ∧ p.leaves ≤ 3 := fun j j0 j1 => by
      by_cases z : j = 0
      · exact ⟨0, x0, y0, p0, B0, z, rfl, rfl, PP0, RR0, o0, l0⟩
      · exact ⟨1, x1, y1, q1, B1, by omega, rfl, rfl, PP1, RR1, o1, l1⟩
    have rf : Ok g l H7 H7 := Ok.refl bag7
    refine ⟨Nat.zero_le _, fun As hAs => ?_⟩
    have nAs := (bag7.ne hAs).1
    have r8 := rf.new (o := .lst []) hAs
    have e8 : upd H7 As (.lst []) As = some (.lst (([] : List Addr).map V.ref)) := upd_same
    generalize upd H7 As (.lst []) = H8 at r8 e8 ⊢
    refine ⟨_, rfl, by decide, by decide, for_range (lo := 0) (n := 14) (fun i σ H' => ∃ (ts : List Addr) (v6 v7 v8 v9 v10 : Option V), σ = [some (.ref sc), some (.ref g), some (.int wd), some (.ref PL), some (.ref D), some (.ref As), v6, v7, v8, v9, v10, none] ∧ Ok g l H7 H' ∧ H' As = some (.lst (ts.map V.ref)) ∧ ts.length ≤ i ∧ Asks H' ts)
      ⟨[], _, _, _, _, _, rfl, r8, e8, Nat.le_refl _, (fun t ht => by cases ht)⟩ ?_ ?_⟩
    · rintro i σ H9 hi ⟨ts, v6, v7, v8, v9, v10, rfl, r9, e9, lt, rows⟩
      refine ⟨_, rfl, g, l, 2, rfl, r9.bag, by decide, by decide, fun j H10 j0 j1 r10 => ?_⟩
      obtain ⟨jn, u, z, p, L, rfl, eu, ez, hp, R, o, lv⟩ := pick j j0 j1
      have hh := p.h_lt
      have R10 := r9.trans r10
      refine ⟨_, rfl, _, rfl, _, _, _, _, rfl, rfl, SqL.of (R10.at_ eD7 nDg), atI_nat ez, _, rfl, _, rfl, _, rfl, _, _, _, _, rfl, rfl, SqL.of (R10.at_ ePL7 nPLg), atI_nat eu, g, l, u, p, L, rfl, R10.bag, hp.kt (Kt.ok R10), o, lv, fun b H11 b0 r11 => ⟨_, _, rfl, ?_⟩⟩
      have R11 := R10.trans r11
      refine ⟨_, rfl, g, l, 3, rfl, R11.bag, by decide, by decide, fun e H12 e0 e1 r12 => ⟨rfl, _, rfl, ?_⟩⟩
      have R12 := R11.trans r12
      have Rz := R.kp (KpF.kp (F := (· = g)) rfl R12.kp)
      have e12 := (r10.trans (r11.trans r12)).at_ e9 nAs
      have rows12 := rows.kt (Kt.ok (r10.trans (r11.trans r12)))
      obtain ⟨C, dx, fs, hx, c, m, lk⟩ := Rz.latest KN KL
      refine pick_due (D := Lt p b) (fun v hv => ?_) (fun QQ q => ?_) (fun QQ q => ?_)
      rotate_left
      · exact ⟨_, rfl, z, C, dx, fs, rfl, hx, c, m, lk, _, rfl, rfl, z, _, p, L, b, rfl, Rz, o, by omega, fun h0 => q _ (.inl ⟨h0, rfl⟩), fun h h0 h1 h2 => q _ (.inr ⟨h, rfl, h0, h1, h2⟩)⟩
      · exact ⟨_, rfl, z, C, dx, fs, rfl, hx, c, m, lk, _, rfl, z, _, p, L, b, rfl, Rz, o, by omega, fun h0 => q _ (.inl ⟨h0, rfl⟩), fun h h0 h1 h2 => q _ (.inr ⟨h, rfl, h0, h1, h2⟩)⟩
      refine ⟨_, rfl, _, rfl, _, rfl, _, _, _, _, rfl, rfl, SqL.of (R12.at_ ePL7 nPLg), atI_nat eu, _, rfl, u, p, L, b, v, rfl, hp.kt (Kt.ok R12), o, by omega, hv, ⟨_, rfl, iteF ?_⟩⟩
      refine ⟨_, rfl, .inl ⟨rfl, _, SqL.of e12⟩, _, rfl, _, rfl, (by show 2 ≤ sizeLine; decide), fun t ht => ?_⟩
      have kt := Kt.new (o := .tup [.int jn, .int b]) ht
      have e13 : upd H12 t (.tup [.int jn, .int b]) As = some (.lst (ts.map V.ref)) := by rw [upd_ne (ne_of_none e12 ht)]; exact e12
      have et : upd H12 t (.tup [.int jn, .int b]) t = some (.tup [.int jn, .int b]) := upd_same
      refine ⟨As, _, _, rfl, rfl, e13, by rw [List.length_map]; exact Nat.lt_of_le_of_lt (show _ ≤ 24 by omega) (by decide), ?_⟩
      have kl := Kt.lst (o := .lst (ts.map V.ref ++ [.ref t])) e13
      refine ⟨ts ++ [t], _, _, _, _, _, rfl, (R12.new ht).mut hAs, by rw [upd_same, List.map_append]; rfl, by rw [List.length_append]; show ts.length + 1 ≤ i + 1; omega, fun t' ht' => ?_⟩
      rcases List.mem_append.mp ht' with ht' | ht'
      · exact ((rows12.kt kt).kt kl) t' ht'
      · rw [List.mem_singleton] at ht'
        rw [ht']
        exact ⟨jn, b, kl _ _ et, j0, j1⟩
    rintro σ H9 ⟨ts, v6, v7, v8, v9, v10, rfl, R9, e9, lt, rows⟩
    refine ⟨(by show 4 ≤ sizeLine; decide), fun tp htp => ?_⟩
    have r10 := (Ok.refl R9.bag).new (o := .tup [.int 0, .int 1, .int 0, .int 1]) htp
    have etp : upd H9 tp (.tup [.int 0, .int 1, .int 0, .int 1]) tp = some (.tup [.int 0, .int 1, .int 0, .int 1]) := upd_same
    have tpg := (R9.bag.ne htp).1
    generalize upd H9 tp (.tup [.int 0, .int 1, .int 0, .int 1]) = H10 at r10 etp ⊢
    refine ⟨tp, rfl, ⟨_, SqT.of etp⟩, for_tup (K := K) (a := tp) (xs := [V.int 0, V.int 1, V.int 0, V.int 1]) (fun i σ H' => ∃ (v7 : Option V), σ = [some (.ref sc), some (.ref g), some (.int wd), some (.ref PL), some (.ref D), some (.ref As), v6, v7, v8, v9, v10, none] ∧ Ok g l H10 H')
      ⟨_, rfl, Ok.refl r10.bag⟩ (fun i σ H' _ ⟨_, _, r⟩ => SqT.of (r.at_ etp tpg)) ?_ ?_⟩
    · rintro i y σ H11 hi ⟨v7, rfl, R11⟩
      obtain ⟨j, rfl, j0, j1⟩ : ∃ j : Int, y = .int j ∧ 0 ≤ j ∧ j < 2 := by
        match i, hi with
        | 0, hi => cases hi; exact ⟨0, rfl, by decide, by decide⟩
        | 1, hi => cases hi; exact ⟨1, rfl, by decide, by decide⟩
        | 2, hi => cases hi; exact ⟨0, rfl, by decide, by decide⟩
        | 3, hi => cases hi; exact ⟨1, rfl, by decide, by decide⟩
      obtain ⟨jn, u, z, p, L, rfl, eu, ez, hp, R, o, lv⟩ := pick j j0 j1
      have RA := R9.trans (r10.trans R11)
      refine ⟨_, rfl, _, rfl, _, rfl, _, _, _, _, rfl, rfl, SqL.of (RA.at_ ePL7 nPLg), atI_nat eu, _, rfl, _, rfl, _, _, _, _, rfl, rfl, SqL.of (RA.at_ eD7 nDg), atI_nat ez, g, l, u, z, p, L, rfl, RA.bag, hp.kt (Kt.ok RA), R.kp (KpF.kp (F := (· = g)) rfl RA.kp), o, lv, fun H12 r12 => ⟨_, rfl, iteF ?_⟩⟩
      exact ⟨_, rfl, R11.trans r12⟩
    rintro σ H11 ⟨v7, rfl, R11⟩
    refine ⟨_, rfl, g, l, 2, rfl, R11.bag, by decide, by decide, fun j H12 j0 j1 r12 => ?_⟩
    obtain ⟨jn, u, z, p, L, rfl, eu, ez, hp, R, o, lv⟩ := pick j j0 j1
    have RA := R9.trans (r10.trans (R11.trans r12))
    refine ⟨_, rfl, _, rfl, _, rfl, _, _, _, _, rfl, rfl, SqL.of (RA.at_ ePL7 nPLg), atI_nat eu, _, rfl, _, rfl, _, _, _, _, rfl, rfl, SqL.of (RA.at_ eD7 nDg), atI_nat ez, g, l, u, z, p, L, rfl, RA.bag, hp.kt (Kt.ok RA), R.kp (KpF.kp (F := (· = g)) rfl RA.kp), o, lv, fun H13 r13 => ⟨_, rfl, iteF ?_⟩⟩
    have RB := RA.trans r13
    have rB := (r10.trans (R11.trans r12)).trans r13
    have eB := rB.at_ e9 nAs
    have rowsB := rows.kt (Kt.ok rB)
    refine ⟨_, rfl, _, rfl, As, _, rfl, SqL.of eB, fun cp hcp => ?_⟩
    have hcs : ∀ y ∈ cutV (ts.map V.ref) none (some 5), ∃ t ∈ ts, y = V.ref t := fun y hy => by
      unfold cutV at hy
      obtain ⟨t, ht, e⟩ := List.mem_map.mp (List.mem_of_mem_drop (List.mem_of_mem_take hy))
      exact ⟨t, ht, e.symm⟩
    generalize cutV (ts.map V.ref) none (some 5) = cs at hcs ⊢
    have sC := same_new (o := .lst cs) hcp
    refine ⟨cp, rfl, ⟨_, SqL.of upd_same⟩, for_list (K := K) (a := cp) (xs := cs) (fun i σ H' => ∃ (v7 v9 : Option V), σ = [some (.ref sc), some (.ref g), some (.int wd), some (.ref PL), some (.ref D), some (.ref As), v6, v7, v8, v9, v10, none] ∧ Same (upd H13 cp (.lst cs)) H')
      ⟨_, _, rfl, Same.refl _⟩ (fun i σ H' _ ⟨_, _, _, s⟩ => s.seq (SqL.of upd_same)) ?_ ?_⟩
    · rintro i y σ H14 hi ⟨v7, v9, rfl, s14⟩
      obtain ⟨t, ht, rfl⟩ := hcs y (List.mem_of_getElem? hi)
      obtain ⟨j, b, et, j0, j1⟩ := rowsB t ht
      obtain ⟨jn, u, z, p, L, rfl, eu, ez, hp, R, o, lv⟩ := pick j j0 j1
      have hh := p.h_lt
      have RC := RB.same (sC.trans s14)
      have et14 := s14 _ _ (sC _ _ et)
      have Rz := R.kp (KpF.kp (F := (· = g)) rfl RC.kp)
      obtain ⟨C, dx, fs, hx, c, m, lk⟩ := Rz.latest KN KL
      refine ⟨t, _, rfl, SqT.of et14, rfl, _, _, rfl, _, _, rfl, rfl, ?_⟩
      refine ⟨_, rfl, _, rfl, _, _, _, _, rfl, rfl, SqL.of (RC.at_ eD7 nDg), atI_nat ez, z, C, dx, fs, rfl, hx, c, m, lk, _, rfl, z, _, p, L, b, rfl, Rz, o, by omega, fun h0 => ?_, fun h h0 h1 h2 => ?_⟩
      · exact ⟨_, rfl, _, rfl, _, _, _, _, rfl, rfl, SqL.of (RC.at_ ePL7 nPLg), atI_nat eu, _, rfl, u, p, L, b, _, rfl, hp.kt (Kt.ok RC), o, by omega, .inl ⟨h0, rfl⟩, ⟨_, rfl, iteF ⟨_, _, rfl, s14⟩⟩⟩
      · exact ⟨_, rfl, _, rfl, _, _, _, _, rfl, rfl, SqL.of (RC.at_ ePL7 nPLg), atI_nat eu, _, rfl, u, p, L, b, _, rfl, hp.kt (Kt.ok RC), o, by omega, .inr ⟨h, rfl, h0, h1, h2⟩, ⟨_, rfl, iteF ⟨_, _, rfl, s14⟩⟩⟩
    · rintro σ H14 ⟨v7, v9, rfl, s14⟩
      exact k _
end k03
namespace k03
open PySem L2 LC RM
theorem all_mk {l : PySem.W.OpenLaw} {w : World} {K : PySem.W.Frag} {h : Heap} {mg : Str → Option Value} {fa : Addr} (X : K.In h) (G : h.Ns mainGlobals mg) (hfa : mg "law" = some (.ref fa))
    {fcheck_count : Addr} {odcheck_count ancheck_count : Option Addr} {slcheck_count : Array (Option Value)} {occheck_count kVcheck_count dccheck_count pmcheck_count cdcheck_count ctcheck_count : Value}
    (acheck_count : PySem.W.nsIn K mainGlobals "check_count" = some (some (.ref fcheck_count)))
    (lcheck_count : K.lookup fcheck_count = some ⟨occheck_count, odcheck_count, .func (PySem.W.fnOf "check_count" "check_count" (defArgs scheck_count) (defBody scheck_count) (defScope scheck_count) .none kVcheck_count dccheck_count pmcheck_count ancheck_count cdcheck_count ctcheck_count), slcheck_count⟩)
    (ccheck_count : PySem.W.codeIn K cdcheck_count "check_count" = true)
    (kcheck_count : PySem.W.keepIn K (.ref fcheck_count) = true)
    {fis_whole : Addr} {odis_whole anis_whole : Option Addr} {slis_whole : Array (Option Value)} {ocis_whole kVis_whole dcis_whole pmis_whole cdis_whole ctis_whole : Value}
    (ais_whole : PySem.W.nsIn K mainGlobals "is_whole" = some (some (.ref fis_whole)))
    (lis_whole : K.lookup fis_whole = some ⟨ocis_whole, odis_whole, .func (PySem.W.fnOf "is_whole" "is_whole" (defArgs sis_whole) (defBody sis_whole) (defScope sis_whole) .none kVis_whole dcis_whole pmis_whole anis_whole cdis_whole ctis_whole), slis_whole⟩)
    (cis_whole : PySem.W.codeIn K cdis_whole "is_whole" = true)
    (kis_whole : PySem.W.keepIn K (.ref fis_whole) = true)
    {fis_number : Addr} {odis_number anis_number : Option Addr} {slis_number : Array (Option Value)} {ocis_number kVis_number dcis_number pmis_number cdis_number ctis_number : Value}
    (ais_number : PySem.W.nsIn K mainGlobals "is_number" = some (some (.ref fis_number)))
    (lis_number : K.lookup fis_number = some ⟨ocis_number, odis_number, .func (PySem.W.fnOf "is_number" "is_number" (defArgs sis_number) (defBody sis_number) (defScope sis_number) .none kVis_number dcis_number pmis_number anis_number cdis_number ctis_number), slis_number⟩)
    (cis_number : PySem.W.codeIn K cdis_number "is_number" = true)
    (kis_number : PySem.W.keepIn K (.ref fis_number) = true)
    {fcheck_borders : Addr} {odcheck_borders ancheck_borders : Option Addr} {slcheck_borders : Array (Option Value)} {occheck_borders kVcheck_borders dccheck_borders pmcheck_borders cdcheck_borders ctcheck_borders : Value}
    (acheck_borders : PySem.W.nsIn K mainGlobals "check_borders" = some (some (.ref fcheck_borders)))
    (lcheck_borders : K.lookup fcheck_borders = some ⟨occheck_borders, odcheck_borders, .func (PySem.W.fnOf "check_borders" "check_borders" (defArgs scheck_borders) (defBody scheck_borders) (defScope scheck_borders) .none kVcheck_borders dccheck_borders pmcheck_borders ancheck_borders cdcheck_borders ctcheck_borders), slcheck_borders⟩)
    (ccheck_borders : PySem.W.codeIn K cdcheck_borders "check_borders" = true)
    (kcheck_borders : PySem.W.keepIn K (.ref fcheck_borders) = true)
    {fcommon_period : Addr} {odcommon_period ancommon_period : Option Addr} {slcommon_period : Array (Option Value)} {occommon_period kVcommon_period dccommon_period pmcommon_period cdcommon_period ctcommon_period : Value}
    (acommon_period : PySem.W.nsIn K mainGlobals "common_period" = some (some (.ref fcommon_period)))
    (lcommon_period : K.lookup fcommon_period = some ⟨occommon_period, odcommon_period, .func (PySem.W.fnOf "common_period" "common_period" (defArgs scommon_period) (defBody scommon_period) (defScope scommon_period) .none kVcommon_period dccommon_period pmcommon_period ancommon_period cdcommon_period ctcommon_period), slcommon_period⟩)
    (ccommon_period : PySem.W.codeIn K cdcommon_period "common_period" = true)
    (kcommon_period : PySem.W.keepIn K (.ref fcommon_period) = true)
    {fpair_facts : Addr} {odpair_facts anpair_facts : Option Addr} {slpair_facts : Array (Option Value)} {ocpair_facts kVpair_facts dcpair_facts pmpair_facts cdpair_facts ctpair_facts : Value}
    (apair_facts : PySem.W.nsIn K mainGlobals "pair_facts" = some (some (.ref fpair_facts)))
    (lpair_facts : K.lookup fpair_facts = some ⟨ocpair_facts, odpair_facts, .func (PySem.W.fnOf "pair_facts" "pair_facts" (defArgs spair_facts) (defBody spair_facts) (defScope spair_facts) .none kVpair_facts dcpair_facts pmpair_facts anpair_facts cdpair_facts ctpair_facts), slpair_facts⟩)
    (cpair_facts : PySem.W.codeIn K cdpair_facts "pair_facts" = true)
    (kpair_facts : PySem.W.keepIn K (.ref fpair_facts) = true)
    {fbag : Addr} {odbag anbag : Option Addr} {slbag : Array (Option Value)} {ocbag kVbag dcbag pmbag cdbag ctbag : Value}
    (abag : PySem.W.nsIn K mainGlobals "_law_bag" = some (some (.ref fbag)))
    (lbag : K.lookup fbag = some ⟨ocbag, odbag, .func (PySem.W.fnOf "_law_bag" "_law_bag" (defArgs sbag) (defBody sbag) (defScope sbag) .none kVbag dcbag pmbag anbag cdbag ctbag), slbag⟩)
    (cbag : PySem.W.codeIn K cdbag "_law_bag" = true)
    (kbag : PySem.W.keepIn K (.ref fbag) = true)
    {fdraw : Addr} {oddraw andraw : Option Addr} {sldraw : Array (Option Value)} {ocdraw kVdraw dcdraw pmdraw cddraw ctdraw : Value}
    (adraw : PySem.W.nsIn K mainGlobals "_law_draw" = some (some (.ref fdraw)))
    (ldraw : K.lookup fdraw = some ⟨ocdraw, oddraw, .func (PySem.W.fnOf "_law_draw" "_law_draw" (defArgs sdraw) (defBody sdraw) (defScope sdraw) .none kVdraw dcdraw pmdraw andraw cddraw ctdraw), sldraw⟩)
    (cdraw : PySem.W.codeIn K cddraw "_law_draw" = true)
    (kdraw : PySem.W.keepIn K (.ref fdraw) = true)
    {fof : Addr} {odof anof : Option Addr} {slof : Array (Option Value)} {ocof kVof dcof pmof cdof ctof : Value}
    (aof : PySem.W.nsIn K mainGlobals "_law_of" = some (some (.ref fof)))
    (lof : K.lookup fof = some ⟨ocof, odof, .func (PySem.W.fnOf "_law_of" "_law_of" (defArgs sof) (defBody sof) (defScope sof) .none kVof dcof pmof anof cdof ctof), slof⟩)
    (cof : PySem.W.codeIn K cdof "_law_of" = true)
    (kof : PySem.W.keepIn K (.ref fof) = true)
    {flike : Addr} {odlike anlike : Option Addr} {sllike : Array (Option Value)} {oclike kVlike dclike pmlike cdlike ctlike : Value}
    (alike : PySem.W.nsIn K mainGlobals "_law_like" = some (some (.ref flike)))
    (llike : K.lookup flike = some ⟨oclike, odlike, .func (PySem.W.fnOf "_law_like" "_law_like" (defArgs slike) (defBody slike) (defScope slike) .none kVlike dclike pmlike anlike cdlike ctlike), sllike⟩)
    (clike : PySem.W.codeIn K cdlike "_law_like" = true)
    (klike : PySem.W.keepIn K (.ref flike) = true)
    {flcm : Addr} {odlcm anlcm : Option Addr} {sllcm : Array (Option Value)} {oclcm kVlcm dclcm pmlcm cdlcm ctlcm : Value}
    (alcm : PySem.W.nsIn K mainGlobals "_law_lcm" = some (some (.ref flcm)))
    (llcm : K.lookup flcm = some ⟨oclcm, odlcm, .func (PySem.W.fnOf "_law_lcm" "_law_lcm" (defArgs slcm) (defBody slcm) (defScope slcm) .none kVlcm dclcm pmlcm anlcm cdlcm ctlcm), sllcm⟩)
    (clcm : PySem.W.codeIn K cdlcm "_law_lcm" = true)
    (klcm : PySem.W.keepIn K (.ref flcm) = true)
    {fleaf : Addr} {odleaf anleaf : Option Addr} {slleaf : Array (Option Value)} {ocleaf kVleaf dcleaf pmleaf cdleaf ctleaf : Value}
    (aleaf : PySem.W.nsIn K mainGlobals "_law_leaf" = some (some (.ref fleaf)))
    (lleaf : K.lookup fleaf = some ⟨ocleaf, odleaf, .func (PySem.W.fnOf "_law_leaf" "_law_leaf" (defArgs sleaf) (defBody sleaf) (defScope sleaf) .none kVleaf dcleaf pmleaf anleaf cdleaf ctleaf), slleaf⟩)
    (cleaf : PySem.W.codeIn K cdleaf "_law_leaf" = true)
    (kleaf : PySem.W.keepIn K (.ref fleaf) = true)
    {fjoined : Addr} {odjoined anjoined : Option Addr} {sljoined : Array (Option Value)} {ocjoined kVjoined dcjoined pmjoined cdjoined ctjoined : Value}
    (ajoined : PySem.W.nsIn K mainGlobals "_law_joined" = some (some (.ref fjoined)))
    (ljoined : K.lookup fjoined = some ⟨ocjoined, odjoined, .func (PySem.W.fnOf "_law_joined" "_law_joined" (defArgs sjoined) (defBody sjoined) (defScope sjoined) .none kVjoined dcjoined pmjoined anjoined cdjoined ctjoined), sljoined⟩)
    (cjoined : PySem.W.codeIn K cdjoined "_law_joined" = true)
    (kjoined : PySem.W.keepIn K (.ref fjoined) = true)
    {fplan : Addr} {odplan anplan : Option Addr} {slplan : Array (Option Value)} {ocplan kVplan dcplan pmplan cdplan ctplan : Value}
    (aplan : PySem.W.nsIn K mainGlobals "_law_plan" = some (some (.ref fplan)))
    (lplan : K.lookup fplan = some ⟨ocplan, odplan, .func (PySem.W.fnOf "_law_plan" "_law_plan" (defArgs splan) (defBody splan) (defScope splan) .none kVplan dcplan pmplan anplan cdplan ctplan), slplan⟩)
    (cplan : PySem.W.codeIn K cdplan "_law_plan" = true)
    (kplan : PySem.W.keepIn K (.ref fplan) = true)
    {fat : Addr} {odat anat : Option Addr} {slat : Array (Option Value)} {ocat kVat dcat pmat cdat ctat : Value}
    (aat : PySem.W.nsIn K mainGlobals "_law_at" = some (some (.ref fat)))
    (lat : K.lookup fat = some ⟨ocat, odat, .func (PySem.W.fnOf "_law_at" "_law_at" (defArgs sat) (defBody sat) (defScope sat) .none kVat dcat pmat anat cdat ctat), slat⟩)
    (cat : PySem.W.codeIn K cdat "_law_at" = true)
    (kat : PySem.W.keepIn K (.ref fat) = true)
    {fmade : Addr} {odmade anmade : Option Addr} {slmade : Array (Option Value)} {ocmade kVmade dcmade pmmade cdmade ctmade : Value}
    (amade : PySem.W.nsIn K mainGlobals "_law_made" = some (some (.ref fmade)))
    (lmade : K.lookup fmade = some ⟨ocmade, odmade, .func (PySem.W.fnOf "_law_made" "_law_made" (defArgs smade) (defBody smade) (defScope smade) .none kVmade dcmade pmmade anmade cdmade ctmade), slmade⟩)
    (cmade : PySem.W.codeIn K cdmade "_law_made" = true)
    (kmade : PySem.W.keepIn K (.ref fmade) = true)
    {fedges : Addr} {odedges anedges : Option Addr} {sledges : Array (Option Value)} {ocedges kVedges dcedges pmedges cdedges ctedges : Value}
    (aedges : PySem.W.nsIn K mainGlobals "_law_edges" = some (some (.ref fedges)))
    (ledges : K.lookup fedges = some ⟨ocedges, odedges, .func (PySem.W.fnOf "_law_edges" "_law_edges" (defArgs sedges) (defBody sedges) (defScope sedges) .none kVedges dcedges pmedges anedges cdedges ctedges), sledges⟩)
    (cedges : PySem.W.codeIn K cdedges "_law_edges" = true)
    (kedges : PySem.W.keepIn K (.ref fedges) = true)
    {fspot : Addr} {odspot anspot : Option Addr} {slspot : Array (Option Value)} {ocspot kVspot dcspot pmspot cdspot ctspot : Value}
    (aspot : PySem.W.nsIn K mainGlobals "_law_spot" = some (some (.ref fspot)))
    (lspot : K.lookup fspot = some ⟨ocspot, odspot, .func (PySem.W.fnOf "_law_spot" "_law_spot" (defArgs sspot) (defBody sspot) (defScope sspot) .none kVspot dcspot pmspot anspot cdspot ctspot), slspot⟩)
    (cspot : PySem.W.codeIn K cdspot "_law_spot" = true)
    (kspot : PySem.W.keepIn K (.ref fspot) = true)
    {fbound : Addr} {odbound anbound : Option Addr} {slbound : Array (Option Value)} {ocbound kVbound dcbound pmbound cdbound ctbound : Value}
    (abound : PySem.W.nsIn K mainGlobals "_law_bound" = some (some (.ref fbound)))
    (lbound : K.lookup fbound = some ⟨ocbound, odbound, .func (PySem.W.fnOf "_law_bound" "_law_bound" (defArgs sbound) (defBody sbound) (defScope sbound) .none kVbound dcbound pmbound anbound cdbound ctbound), slbound⟩)
    (cbound : PySem.W.codeIn K cdbound "_law_bound" = true)
    (kbound : PySem.W.keepIn K (.ref fbound) = true)
    {flatest_so : Addr} {odlatest_so anlatest_so : Option Addr} {sllatest_so : Array (Option Value)} {oclatest_so kVlatest_so dclatest_so pmlatest_so cdlatest_so ctlatest_so : Value}
    (alatest_so : PySem.W.nsIn K mainGlobals "_law_latest_so" = some (some (.ref flatest_so)))
    (llatest_so : K.lookup flatest_so = some ⟨oclatest_so, odlatest_so, .func (PySem.W.fnOf "_law_latest_so" "_law_latest_so" (defArgs slatest_so) (defBody slatest_so) (defScope slatest_so) .none kVlatest_so dclatest_so pmlatest_so anlatest_so cdlatest_so ctlatest_so), sllatest_so⟩)
    (clatest_so : PySem.W.codeIn K cdlatest_so "_law_latest_so" = true)
    (klatest_so : PySem.W.keepIn K (.ref flatest_so) = true)
    {frow : Addr} {odrow anrow : Option Addr} {slrow : Array (Option Value)} {ocrow kVrow dcrow pmrow cdrow ctrow : Value}
    (arow : PySem.W.nsIn K mainGlobals "_law_row" = some (some (.ref frow)))
    (lrow : K.lookup frow = some ⟨ocrow, odrow, .func (PySem.W.fnOf "_law_row" "_law_row" (defArgs srow) (defBody srow) (defScope srow) .none kVrow dcrow pmrow anrow cdrow ctrow), slrow⟩)
    (crow : PySem.W.codeIn K cdrow "_law_row" = true)
    (krow : PySem.W.keepIn K (.ref frow) = true)
    {fsteps_so : Addr} {odsteps_so ansteps_so : Option Addr} {slsteps_so : Array (Option Value)} {ocsteps_so kVsteps_so dcsteps_so pmsteps_so cdsteps_so ctsteps_so : Value}
    (asteps_so : PySem.W.nsIn K mainGlobals "_law_steps_so" = some (some (.ref fsteps_so)))
    (lsteps_so : K.lookup fsteps_so = some ⟨ocsteps_so, odsteps_so, .func (PySem.W.fnOf "_law_steps_so" "_law_steps_so" (defArgs ssteps_so) (defBody ssteps_so) (defScope ssteps_so) .none kVsteps_so dcsteps_so pmsteps_so ansteps_so cdsteps_so ctsteps_so), slsteps_so⟩)
    (csteps_so : PySem.W.codeIn K cdsteps_so "_law_steps_so" = true)
    (ksteps_so : PySem.W.keepIn K (.ref fsteps_so) = true)
    {fnested_so : Addr} {odnested_so annested_so : Option Addr} {slnested_so : Array (Option Value)} {ocnested_so kVnested_so dcnested_so pmnested_so cdnested_so ctnested_so : Value}
    (anested_so : PySem.W.nsIn K mainGlobals "_law_nested_so" = some (some (.ref fnested_so)))
    (lnested_so : K.lookup fnested_so = some ⟨ocnested_so, odnested_so, .func (PySem.W.fnOf "_law_nested_so" "_law_nested_so" (defArgs snested_so) (defBody snested_so) (defScope snested_so) .none kVnested_so dcnested_so pmnested_so annested_so cdnested_so ctnested_so), slnested_so⟩)
    (cnested_so : PySem.W.codeIn K cdnested_so "_law_nested_so" = true)
    (knested_so : PySem.W.keepIn K (.ref fnested_so) = true)
    {flaw : Addr} {odlaw anlaw : Option Addr} {sllaw : Array (Option Value)} {oclaw kVlaw dclaw pmlaw cdlaw ctlaw : Value}
    (alaw : PySem.W.nsIn K mainGlobals "law" = some (some (.ref flaw)))
    (llaw : K.lookup flaw = some ⟨oclaw, odlaw, .func (PySem.W.fnOf "law" "law" (defArgs slaw) (defBody slaw) (defScope slaw) .none kVlaw dclaw pmlaw anlaw cdlaw ctlaw), sllaw⟩)
    (claw : PySem.W.codeIn K cdlaw "law" = true)
    (klaw : PySem.W.keepIn K (.ref flaw) = true)
    (zall : PySem.W.nsIn K mainGlobals "all" = some none)
    (zbool : PySem.W.nsIn K mainGlobals "bool" = some none)
    (zdict : PySem.W.nsIn K mainGlobals "dict" = some none)
    (zenumerate : PySem.W.nsIn K mainGlobals "enumerate" = some none)
    (zint : PySem.W.nsIn K mainGlobals "int" = some none)
    (zisinstance : PySem.W.nsIn K mainGlobals "isinstance" = some none)
    (zlen : PySem.W.nsIn K mainGlobals "len" = some none)
    (zlist : PySem.W.nsIn K mainGlobals "list" = some none)
    (zmax : PySem.W.nsIn K mainGlobals "max" = some none)
    (zmin : PySem.W.nsIn K mainGlobals "min" = some none)
    (zrange : PySem.W.nsIn K mainGlobals "range" = some none)
    (zstr : PySem.W.nsIn K mainGlobals "str" = some none)
    (zsuper : PySem.W.nsIn K mainGlobals "super" = some none)
    (ztuple : PySem.W.nsIn K mainGlobals "tuple" = some none)
    (zzip : PySem.W.nsIn K mainGlobals "zip" = some none)
    {tkMOST_BORDERS : Tok} (yMOST_BORDERS : PySem.W.nsIn K mainGlobals "MOST_BORDERS" = some (some (.int 12 tkMOST_BORDERS)))
    {tkMOST_FORMS : Tok} (yMOST_FORMS : PySem.W.nsIn K mainGlobals "MOST_FORMS" = some (some (.int 6 tkMOST_FORMS)))
    {tkMOST_PERIOD : Tok} (yMOST_PERIOD : PySem.W.nsIn K mainGlobals "MOST_PERIOD" = some (some (.int 2000 tkMOST_PERIOD)))
    {tkMOST_SIZE : Tok} (yMOST_SIZE : PySem.W.nsIn K mainGlobals "MOST_SIZE" = some (some (.int 1000 tkMOST_SIZE)))
        {aR fRi fF fP fB fW : Addr}
    (aRest : PySem.W.nsIn K mainGlobals "Rest" = some (some (.ref aR)))
    {ocxR : Value} {odxR : Option Addr} {cdxR : ClassData} {slxR : Array (Option Value)}
    (xRest : K.lookup aR = some ⟨ocxR, odxR, .cls cdxR, slxR⟩)
    (tyCR : PySem.W.typeIn K (.ref aR) = some (.type "type"))
    (ffRi : PySem.W.findIn K (.ref aR) "__init__" = some (some (.ref fRi)))
    {odRest_init anRest_init : Option Addr} {slRest_init : Array (Option Value)} {ocRest_init kVRest_init dcRest_init pmRest_init cdRest_init ctRest_init : Value}
    (lRest_init : K.lookup fRi = some ⟨ocRest_init, odRest_init, .func (PySem.W.fnOf "__init__" "Rest.__init__" (defArgs sRest_init) (defBody sRest_init) (defScope sRest_init) .none kVRest_init dcRest_init pmRest_init anRest_init cdRest_init ctRest_init), slRest_init⟩)
    (cRest_init : PySem.W.codeIn K cdRest_init "Rest.__init__" = true)
    (kRest_init : PySem.W.keepIn K (.ref fRi) = true)
    (iRest_init : PySem.W.isFn K (.ref fRi) = true)
    (ffF : PySem.W.findIn K (.ref aR) "forms" = some (some (.ref fF)))
    {odRest_forms anRest_forms : Option Addr} {slRest_forms : Array (Option Value)} {ocRest_forms kVRest_forms dcRest_forms pmRest_forms cdRest_forms ctRest_forms : Value}
    (lRest_forms : K.lookup fF = some ⟨ocRest_forms, odRest_forms, .func (PySem.W.fnOf "forms" "Rest.forms" (defArgs sRest_forms) (defBody sRest_forms) (defScope sRest_forms) .none kVRest_forms dcRest_forms pmRest_forms anRest_forms cdRest_forms ctRest_forms), slRest_forms⟩)
    (cRest_forms : PySem.W.codeIn K cdRest_forms "Rest.forms" = true)
    (kRest_forms : PySem.W.keepIn K (.ref fF) = true)
    (iRest_forms : PySem.W.isFn K (.ref fF) = true)
    (ffP : PySem.W.findIn K (.ref aR) "period" = some (some (.ref fP)))
    {odRest_period anRest_period : Option Addr} {slRest_period : Array (Option Value)} {ocRest_period kVRest_period dcRest_period pmRest_period cdRest_period ctRest_period : Value}
    (lRest_period : K.lookup fP = some ⟨ocRest_period, odRest_period, .func (PySem.W.fnOf "period" "Rest.period" (defArgs sRest_period) (defBody sRest_period) (defScope sRest_period) .none kVRest_period dcRest_period pmRest_period anRest_period cdRest_period ctRest_period), slRest_period⟩)
    (cRest_period : PySem.W.codeIn K cdRest_period "Rest.period" = true)
    (kRest_period : PySem.W.keepIn K (.ref fP) = true)
    (iRest_period : PySem.W.isFn K (.ref fP) = true)
    (ffB : PySem.W.findIn K (.ref aR) "bend" = some (some (.ref fB)))
    {odRest_bend anRest_bend : Option Addr} {slRest_bend : Array (Option Value)} {ocRest_bend kVRest_bend dcRest_bend pmRest_bend cdRest_bend ctRest_bend : Value}
    (lRest_bend : K.lookup fB = some ⟨ocRest_bend, odRest_bend, .func (PySem.W.fnOf "bend" "Rest.bend" (defArgs sRest_bend) (defBody sRest_bend) (defScope sRest_bend) .none kVRest_bend dcRest_bend pmRest_bend anRest_bend cdRest_bend ctRest_bend), slRest_bend⟩)
    (cRest_bend : PySem.W.codeIn K cdRest_bend "Rest.bend" = true)
    (kRest_bend : PySem.W.keepIn K (.ref fB) = true)
    (iRest_bend : PySem.W.isFn K (.ref fB) = true)
    (ffW : PySem.W.findIn K (.ref aR) "written" = some (some (.ref fW)))
    {odRest_written anRest_written : Option Addr} {slRest_written : Array (Option Value)} {ocRest_written kVRest_written dcRest_written pmRest_written cdRest_written ctRest_written : Value}
    (lRest_written : K.lookup fW = some ⟨ocRest_written, odRest_written, .func (PySem.W.fnOf "written" "Rest.written" (defArgs sRest_written) (defBody sRest_written) (defScope sRest_written) .none kVRest_written dcRest_written pmRest_written anRest_written cdRest_written ctRest_written), slRest_written⟩)
    (cRest_written : PySem.W.codeIn K cdRest_written "Rest.written" = true)
    (kRest_written : PySem.W.keepIn K (.ref fW) = true)
    (iRest_written : PySem.W.isFn K (.ref fW) = true)
    (tyR : PySem.W.typeIn K (.ref fRi) = some (.type "function"))
    (fiR : PySem.W.fnIn K fRi = true)
    (opq : PySem.W.nsIn K cStatics "thirdparty.any" = some none)
    (tp : (l.prog.main.scope.names.lookup ("super" : Str)).isSome = false)
    {aWindow fWindow_init fWindow_call : Addr}
    (a_Window : PySem.W.nsIn K mainGlobals "Window" = some (some (.ref aWindow)))
    (pgWindow : PySem.W.plainGet K aWindow Str.empty = true)
    (hdWindow : PySem.W.hasDictIn K aWindow = true)
    (poWindow : PySem.W.plainOver K aWindow = true)
    (saWindow : PySem.W.findIn K (.ref aWindow) "__setattr__" = some (some (.builtin "object.__setattr__")))
    (mkWindow : PySem.W.makesIn K aWindow = true)
    (kpWindow : PySem.W.keepIn K (.ref aWindow) = true)
    (fiWindow : PySem.W.findIn K (.ref aWindow) "__init__" = some (some (.ref fWindow_init)))
    {cWindow_init ccWindow_init : Addr} {odfWindow_init odcWindow_init odlWindow_init : Option Addr} {slfWindow_init slcWindow_init sllWindow_init : Array (Option Value)} {ocfWindow_init occWindow_init oclWindow_init dcWindow_init pmWindow_init ctWindow_init : Value} {vsWindow_init : Array Value} {flWindow_init : Str} {tkWindow_init : Tok}
    (lWindow_init : K.lookup fWindow_init = some ⟨ocfWindow_init, odfWindow_init, .func ((FWindow_init ccWindow_init cWindow_init).fd dcWindow_init pmWindow_init ctWindow_init), slfWindow_init⟩)
    (lcWindow_init : K.lookup cWindow_init = some ⟨occWindow_init, odcWindow_init, .fields vsWindow_init, slcWindow_init⟩)
    (vfWindow_init : vsWindow_init[2]? = some (.str flWindow_init tkWindow_init))
    (ffWindow_init : ((l.prog.main.file : Str) == flWindow_init) = true)
    (llWindow_init : K.lookup ccWindow_init = some ⟨oclWindow_init, odlWindow_init, .cell (some (.ref aWindow)), sllWindow_init⟩)
    (cdWindow_init : PySem.W.codeIn K (.ref cWindow_init) "Window.__init__" = true)
    (isfWindow_init : PySem.W.isFn K (.ref fWindow_init) = true)
    {ocxWindow : Value} {odxWindow : Option Addr} {cdxWindow : ClassData} {slxWindow : Array (Option Value)}
    (xWindow : K.lookup aWindow = some ⟨ocxWindow, odxWindow, .cls cdxWindow, slxWindow⟩)
    (mrWindow : PySem.W.mroIn K aWindow (.ref aWindow) = some true)
    (moWindow : (cdxWindow.mro.dropWhile (· != .ref aWindow)).drop 1 = cdxR.mro)
    (nWindow_text : PySem.W.findIn K (.ref aWindow) "_text" = some none)
    (nWindow_forms : PySem.W.findIn K (.ref aWindow) "_forms" = some none)
    (nWindow_period : PySem.W.findIn K (.ref aWindow) "_period" = some none)
    (nWindow_bend : PySem.W.findIn K (.ref aWindow) "_bend" = some none)
    (nWindowwidth : PySem.W.findIn K (.ref aWindow) "width" = some none)
    (mWindowforms : PySem.W.findIn K (.ref aWindow) "forms" = some (some (.ref fF)))
    (mWindowperiod : PySem.W.findIn K (.ref aWindow) "period" = some (some (.ref fP)))
    (mWindowbend : PySem.W.findIn K (.ref aWindow) "bend" = some (some (.ref fB)))
    (mWindowwritten : PySem.W.findIn K (.ref aWindow) "written" = some (some (.ref fW)))
    (fcWindow : PySem.W.findIn K (.ref aWindow) "__call__" = some (some (.ref fWindow_call)))
    {odWindow_call anWindow_call : Option Addr} {slWindow_call : Array (Option Value)} {ocWindow_call kVWindow_call dcWindow_call pmWindow_call cdWindow_call ctWindow_call : Value}
    (lWindow_call : K.lookup fWindow_call = some ⟨ocWindow_call, odWindow_call, .func (PySem.W.fnOf "__call__" "Window.__call__" (defArgs sWindow_call) (defBody sWindow_call) (defScope sWindow_call) .none kVWindow_call dcWindow_call pmWindow_call anWindow_call cdWindow_call ctWindow_call), slWindow_call⟩)
    (cWindow_call : PySem.W.codeIn K cdWindow_call "Window.__call__" = true)
    (kWindow_call : PySem.W.keepIn K (.ref fWindow_call) = true)
    (iWindow_call : PySem.W.isFn K (.ref fWindow_call) = true)
    (fnWindow : PySem.W.fnIn K fWindow_call = true)
    (isWindow : PySem.W.subIn K (.ref aWindow) (.ref aR) = some true)
    (haWindow : PySem.W.findIn K (.ref aWindow) "__class__" = some (some (.builtin "object.__class__")))
    (hmWindow : PySem.W.mroIn K aWindow (.type "object") = some true)
    {aDays fDays_init fDays_call : Addr}
    (a_Days : PySem.W.nsIn K mainGlobals "Days" = some (some (.ref aDays)))
    (pgDays : PySem.W.plainGet K aDays Str.empty = true)
    (hdDays : PySem.W.hasDictIn K aDays = true)
    (poDays : PySem.W.plainOver K aDays = true)
    (saDays : PySem.W.findIn K (.ref aDays) "__setattr__" = some (some (.builtin "object.__setattr__")))
    (mkDays : PySem.W.makesIn K aDays = true)
    (kpDays : PySem.W.keepIn K (.ref aDays) = true)
    (fiDays : PySem.W.findIn K (.ref aDays) "__init__" = some (some (.ref fDays_init)))
    {cDays_init ccDays_init : Addr} {odfDays_init odcDays_init odlDays_init : Option Addr} {slfDays_init slcDays_init sllDays_init : Array (Option Value)} {ocfDays_init occDays_init oclDays_init dcDays_init pmDays_init ctDays_init : Value} {vsDays_init : Array Value} {flDays_init : Str} {tkDays_init : Tok}
    (lDays_init : K.lookup fDays_init = some ⟨ocfDays_init, odfDays_init, .func ((FDays_init ccDays_init cDays_init).fd dcDays_init pmDays_init ctDays_init), slfDays_init⟩)
    (lcDays_init : K.lookup cDays_init = some ⟨occDays_init, odcDays_init, .fields vsDays_init, slcDays_init⟩)
    (vfDays_init : vsDays_init[2]? = some (.str flDays_init tkDays_init))
    (ffDays_init : ((l.prog.main.file : Str) == flDays_init) = true)
    (llDays_init : K.lookup ccDays_init = some ⟨oclDays_init, odlDays_init, .cell (some (.ref aDays)), sllDays_init⟩)
    (cdDays_init : PySem.W.codeIn K (.ref cDays_init) "Days.__init__" = true)
    (isfDays_init : PySem.W.isFn K (.ref fDays_init) = true)
    {ocxDays : Value} {odxDays : Option Addr} {cdxDays : ClassData} {slxDays : Array (Option Value)}
    (xDays : K.lookup aDays = some ⟨ocxDays, odxDays, .cls cdxDays, slxDays⟩)
    (mrDays : PySem.W.mroIn K aDays (.ref aDays) = some true)
    (moDays : (cdxDays.mro.dropWhile (· != .ref aDays)).drop 1 = cdxR.mro)
    (nDays_text : PySem.W.findIn K (.ref aDays) "_text" = some none)
    (nDays_forms : PySem.W.findIn K (.ref aDays) "_forms" = some none)
    (nDays_period : PySem.W.findIn K (.ref aDays) "_period" = some none)
    (nDays_bend : PySem.W.findIn K (.ref aDays) "_bend" = some none)
    (nDays_borders : PySem.W.findIn K (.ref aDays) "_borders" = some none)
    (nDaysevery : PySem.W.findIn K (.ref aDays) "every" = some none)
    (mDaysforms : PySem.W.findIn K (.ref aDays) "forms" = some (some (.ref fF)))
    (mDaysperiod : PySem.W.findIn K (.ref aDays) "period" = some (some (.ref fP)))
    (mDaysbend : PySem.W.findIn K (.ref aDays) "bend" = some (some (.ref fB)))
    (mDayswritten : PySem.W.findIn K (.ref aDays) "written" = some (some (.ref fW)))
    (fcDays : PySem.W.findIn K (.ref aDays) "__call__" = some (some (.ref fDays_call)))
    {odDays_call anDays_call : Option Addr} {slDays_call : Array (Option Value)} {ocDays_call kVDays_call dcDays_call pmDays_call cdDays_call ctDays_call : Value}
    (lDays_call : K.lookup fDays_call = some ⟨ocDays_call, odDays_call, .func (PySem.W.fnOf "__call__" "Days.__call__" (defArgs sDays_call) (defBody sDays_call) (defScope sDays_call) .none kVDays_call dcDays_call pmDays_call anDays_call cdDays_call ctDays_call), slDays_call⟩)
    (cDays_call : PySem.W.codeIn K cdDays_call "Days.__call__" = true)
    (kDays_call : PySem.W.keepIn K (.ref fDays_call) = true)
    (iDays_call : PySem.W.isFn K (.ref fDays_call) = true)
    (fnDays : PySem.W.fnIn K fDays_call = true)
    (isDays : PySem.W.subIn K (.ref aDays) (.ref aR) = some true)
    (haDays : PySem.W.findIn K (.ref aDays) "__class__" = some (some (.builtin "object.__class__")))
    (hmDays : PySem.W.mroIn K aDays (.type "object") = some true)
    {aLater fLater_init fLater_call : Addr}
    (a_Later : PySem.W.nsIn K mainGlobals "Later" = some (some (.ref aLater)))
    (pgLater : PySem.W.plainGet K aLater Str.empty = true)
    (hdLater : PySem.W.hasDictIn K aLater = true)
    (poLater : PySem.W.plainOver K aLater = true)
    (saLater : PySem.W.findIn K (.ref aLater) "__setattr__" = some (some (.builtin "object.__setattr__")))
    (mkLater : PySem.W.makesIn K aLater = true)
    (kpLater : PySem.W.keepIn K (.ref aLater) = true)
    (fiLater : PySem.W.findIn K (.ref aLater) "__init__" = some (some (.ref fLater_init)))
    {cLater_init ccLater_init : Addr} {odfLater_init odcLater_init odlLater_init : Option Addr} {slfLater_init slcLater_init sllLater_init : Array (Option Value)} {ocfLater_init occLater_init oclLater_init dcLater_init pmLater_init ctLater_init : Value} {vsLater_init : Array Value} {flLater_init : Str} {tkLater_init : Tok}
    (lLater_init : K.lookup fLater_init = some ⟨ocfLater_init, odfLater_init, .func ((FLater_init ccLater_init cLater_init).fd dcLater_init pmLater_init ctLater_init), slfLater_init⟩)
    (lcLater_init : K.lookup cLater_init = some ⟨occLater_init, odcLater_init, .fields vsLater_init, slcLater_init⟩)
    (vfLater_init : vsLater_init[2]? = some (.str flLater_init tkLater_init))
    (ffLater_init : ((l.prog.main.file : Str) == flLater_init) = true)
    (llLater_init : K.lookup ccLater_init = some ⟨oclLater_init, odlLater_init, .cell (some (.ref aLater)), sllLater_init⟩)
    (cdLater_init : PySem.W.codeIn K (.ref cLater_init) "Later.__init__" = true)
    (isfLater_init : PySem.W.isFn K (.ref fLater_init) = true)
    {ocxLater : Value} {odxLater : Option Addr} {cdxLater : ClassData} {slxLater : Array (Option Value)}
    (xLater : K.lookup aLater = some ⟨ocxLater, odxLater, .cls cdxLater, slxLater⟩)
    (mrLater : PySem.W.mroIn K aLater (.ref aLater) = some true)
    (moLater : (cdxLater.mro.dropWhile (· != .ref aLater)).drop 1 = cdxR.mro)
    (nLater_text : PySem.W.findIn K (.ref aLater) "_text" = some none)
    (nLater_forms : PySem.W.findIn K (.ref aLater) "_forms" = some none)
    (nLater_period : PySem.W.findIn K (.ref aLater) "_period" = some none)
    (nLater_bend : PySem.W.findIn K (.ref aLater) "_bend" = some none)
    (nLaterfirst : PySem.W.findIn K (.ref aLater) "first" = some none)
    (nLatersecond : PySem.W.findIn K (.ref aLater) "second" = some none)
    (mLaterforms : PySem.W.findIn K (.ref aLater) "forms" = some (some (.ref fF)))
    (mLaterperiod : PySem.W.findIn K (.ref aLater) "period" = some (some (.ref fP)))
    (mLaterbend : PySem.W.findIn K (.ref aLater) "bend" = some (some (.ref fB)))
    (mLaterwritten : PySem.W.findIn K (.ref aLater) "written" = some (some (.ref fW)))
    (fcLater : PySem.W.findIn K (.ref aLater) "__call__" = some (some (.ref fLater_call)))
    {odLater_call anLater_call : Option Addr} {slLater_call : Array (Option Value)} {ocLater_call kVLater_call dcLater_call pmLater_call cdLater_call ctLater_call : Value}
    (lLater_call : K.lookup fLater_call = some ⟨ocLater_call, odLater_call, .func (PySem.W.fnOf "__call__" "Later.__call__" (defArgs sLater_call) (defBody sLater_call) (defScope sLater_call) .none kVLater_call dcLater_call pmLater_call anLater_call cdLater_call ctLater_call), slLater_call⟩)
    (cLater_call : PySem.W.codeIn K cdLater_call "Later.__call__" = true)
    (kLater_call : PySem.W.keepIn K (.ref fLater_call) = true)
    (iLater_call : PySem.W.isFn K (.ref fLater_call) = true)
    (fnLater : PySem.W.fnIn K fLater_call = true)
    (isLater : PySem.W.subIn K (.ref aLater) (.ref aR) = some true)
    (haLater : PySem.W.findIn K (.ref aLater) "__class__" = some (some (.builtin "object.__class__")))
    (hmLater : PySem.W.mroIn K aLater (.type "object") = some true)
    {aSooner fSooner_init fSooner_call : Addr}
    (a_Sooner : PySem.W.nsIn K mainGlobals "Sooner" = some (some (.ref aSooner)))
    (pgSooner : PySem.W.plainGet K aSooner Str.empty = true)
    (hdSooner : PySem.W.hasDictIn K aSooner = true)
    (poSooner : PySem.W.plainOver K aSooner = true)
    (saSooner : PySem.W.findIn K (.ref aSooner) "__setattr__" = some (some (.builtin "object.__setattr__")))
    (mkSooner : PySem.W.makesIn K aSooner = true)
    (kpSooner : PySem.W.keepIn K (.ref aSooner) = true)
    (fiSooner : PySem.W.findIn K (.ref aSooner) "__init__" = some (some (.ref fSooner_init)))
    {cSooner_init ccSooner_init : Addr} {odfSooner_init odcSooner_init odlSooner_init : Option Addr} {slfSooner_init slcSooner_init sllSooner_init : Array (Option Value)} {ocfSooner_init occSooner_init oclSooner_init dcSooner_init pmSooner_init ctSooner_init : Value} {vsSooner_init : Array Value} {flSooner_init : Str} {tkSooner_init : Tok}
    (lSooner_init : K.lookup fSooner_init = some ⟨ocfSooner_init, odfSooner_init, .func ((FSooner_init ccSooner_init cSooner_init).fd dcSooner_init pmSooner_init ctSooner_init), slfSooner_init⟩)
    (lcSooner_init : K.lookup cSooner_init = some ⟨occSooner_init, odcSooner_init, .fields vsSooner_init, slcSooner_init⟩)
    (vfSooner_init : vsSooner_init[2]? = some (.str flSooner_init tkSooner_init))
    (ffSooner_init : ((l.prog.main.file : Str) == flSooner_init) = true)
    (llSooner_init : K.lookup ccSooner_init = some ⟨oclSooner_init, odlSooner_init, .cell (some (.ref aSooner)), sllSooner_init⟩)
    (cdSooner_init : PySem.W.codeIn K (.ref cSooner_init) "Sooner.__init__" = true)
    (isfSooner_init : PySem.W.isFn K (.ref fSooner_init) = true)
    {ocxSooner : Value} {odxSooner : Option Addr} {cdxSooner : ClassData} {slxSooner : Array (Option Value)}
    (xSooner : K.lookup aSooner = some ⟨ocxSooner, odxSooner, .cls cdxSooner, slxSooner⟩)
    (mrSooner : PySem.W.mroIn K aSooner (.ref aSooner) = some true)
    (moSooner : (cdxSooner.mro.dropWhile (· != .ref aSooner)).drop 1 = cdxR.mro)
    (nSooner_text : PySem.W.findIn K (.ref aSooner) "_text" = some none)
    (nSooner_forms : PySem.W.findIn K (.ref aSooner) "_forms" = some none)
    (nSooner_period : PySem.W.findIn K (.ref aSooner) "_period" = some none)
    (nSooner_bend : PySem.W.findIn K (.ref aSooner) "_bend" = some none)
    (nSoonerfirst : PySem.W.findIn K (.ref aSooner) "first" = some none)
    (nSoonersecond : PySem.W.findIn K (.ref aSooner) "second" = some none)
    (mSoonerforms : PySem.W.findIn K (.ref aSooner) "forms" = some (some (.ref fF)))
    (mSoonerperiod : PySem.W.findIn K (.ref aSooner) "period" = some (some (.ref fP)))
    (mSoonerbend : PySem.W.findIn K (.ref aSooner) "bend" = some (some (.ref fB)))
    (mSoonerwritten : PySem.W.findIn K (.ref aSooner) "written" = some (some (.ref fW)))
    (fcSooner : PySem.W.findIn K (.ref aSooner) "__call__" = some (some (.ref fSooner_call)))
    {odSooner_call anSooner_call : Option Addr} {slSooner_call : Array (Option Value)} {ocSooner_call kVSooner_call dcSooner_call pmSooner_call cdSooner_call ctSooner_call : Value}
    (lSooner_call : K.lookup fSooner_call = some ⟨ocSooner_call, odSooner_call, .func (PySem.W.fnOf "__call__" "Sooner.__call__" (defArgs sSooner_call) (defBody sSooner_call) (defScope sSooner_call) .none kVSooner_call dcSooner_call pmSooner_call anSooner_call cdSooner_call ctSooner_call), slSooner_call⟩)
    (cSooner_call : PySem.W.codeIn K cdSooner_call "Sooner.__call__" = true)
    (kSooner_call : PySem.W.keepIn K (.ref fSooner_call) = true)
    (iSooner_call : PySem.W.isFn K (.ref fSooner_call) = true)
    (fnSooner : PySem.W.fnIn K fSooner_call = true)
    (isSooner : PySem.W.subIn K (.ref aSooner) (.ref aR) = some true)
    (haSooner : PySem.W.findIn K (.ref aSooner) "__class__" = some (some (.builtin "object.__class__")))
    (hmSooner : PySem.W.mroIn K aSooner (.type "object") = some true)
    {aNext fNext_init fNext_call : Addr}
    (a_Next : PySem.W.nsIn K mainGlobals "Next" = some (some (.ref aNext)))
    (pgNext : PySem.W.plainGet K aNext Str.empty = true)
    (hdNext : PySem.W.hasDictIn K aNext = true)
    (poNext : PySem.W.plainOver K aNext = true)
    (saNext : PySem.W.findIn K (.ref aNext) "__setattr__" = some (some (.builtin "object.__setattr__")))
    (mkNext : PySem.W.makesIn K aNext = true)
    (kpNext : PySem.W.keepIn K (.ref aNext) = true)
    (fiNext : PySem.W.findIn K (.ref aNext) "__init__" = some (some (.ref fNext_init)))
    {cNext_init ccNext_init : Addr} {odfNext_init odcNext_init odlNext_init : Option Addr} {slfNext_init slcNext_init sllNext_init : Array (Option Value)} {ocfNext_init occNext_init oclNext_init dcNext_init pmNext_init ctNext_init : Value} {vsNext_init : Array Value} {flNext_init : Str} {tkNext_init : Tok}
    (lNext_init : K.lookup fNext_init = some ⟨ocfNext_init, odfNext_init, .func ((FNext_init ccNext_init cNext_init).fd dcNext_init pmNext_init ctNext_init), slfNext_init⟩)
    (lcNext_init : K.lookup cNext_init = some ⟨occNext_init, odcNext_init, .fields vsNext_init, slcNext_init⟩)
    (vfNext_init : vsNext_init[2]? = some (.str flNext_init tkNext_init))
    (ffNext_init : ((l.prog.main.file : Str) == flNext_init) = true)
    (llNext_init : K.lookup ccNext_init = some ⟨oclNext_init, odlNext_init, .cell (some (.ref aNext)), sllNext_init⟩)
    (cdNext_init : PySem.W.codeIn K (.ref cNext_init) "Next.__init__" = true)
    (isfNext_init : PySem.W.isFn K (.ref fNext_init) = true)
    {ocxNext : Value} {odxNext : Option Addr} {cdxNext : ClassData} {slxNext : Array (Option Value)}
    (xNext : K.lookup aNext = some ⟨ocxNext, odxNext, .cls cdxNext, slxNext⟩)
    (mrNext : PySem.W.mroIn K aNext (.ref aNext) = some true)
    (moNext : (cdxNext.mro.dropWhile (· != .ref aNext)).drop 1 = cdxR.mro)
    (nNext_text : PySem.W.findIn K (.ref aNext) "_text" = some none)
    (nNext_forms : PySem.W.findIn K (.ref aNext) "_forms" = some none)
    (nNext_period : PySem.W.findIn K (.ref aNext) "_period" = some none)
    (nNext_bend : PySem.W.findIn K (.ref aNext) "_bend" = some none)
    (nNextfirst : PySem.W.findIn K (.ref aNext) "first" = some none)
    (nNextsecond : PySem.W.findIn K (.ref aNext) "second" = some none)
    (mNextforms : PySem.W.findIn K (.ref aNext) "forms" = some (some (.ref fF)))
    (mNextperiod : PySem.W.findIn K (.ref aNext) "period" = some (some (.ref fP)))
    (mNextbend : PySem.W.findIn K (.ref aNext) "bend" = some (some (.ref fB)))
    (mNextwritten : PySem.W.findIn K (.ref aNext) "written" = some (some (.ref fW)))
    (fcNext : PySem.W.findIn K (.ref aNext) "__call__" = some (some (.ref fNext_call)))
    {odNext_call anNext_call : Option Addr} {slNext_call : Array (Option Value)} {ocNext_call kVNext_call dcNext_call pmNext_call cdNext_call ctNext_call : Value}
    (lNext_call : K.lookup fNext_call = some ⟨ocNext_call, odNext_call, .func (PySem.W.fnOf "__call__" "Next.__call__" (defArgs sNext_call) (defBody sNext_call) (defScope sNext_call) .none kVNext_call dcNext_call pmNext_call anNext_call cdNext_call ctNext_call), slNext_call⟩)
    (cNext_call : PySem.W.codeIn K cdNext_call "Next.__call__" = true)
    (kNext_call : PySem.W.keepIn K (.ref fNext_call) = true)
    (iNext_call : PySem.W.isFn K (.ref fNext_call) = true)
    (fnNext : PySem.W.fnIn K fNext_call = true)
    (isNext : PySem.W.subIn K (.ref aNext) (.ref aR) = some true)
    (haNext : PySem.W.findIn K (.ref aNext) "__class__" = some (some (.builtin "object.__class__")))
    (hmNext : PySem.W.mroIn K aNext (.type "object") = some true)
    (hn : PySem.W.specialIn K (.builtin "object.__class__") "__get__" = some (some (.builtin "getset_descriptor.__get__")))
    (ht : PySem.W.takesIn K (.builtin "object.__class__") = some true)
    (xlcm : PySem.W.nsIn K mainGlobals "lcm" = some (some (.builtin "math.lcm")))
    {fRest_steps fRest_latest : Addr}
    (mWindowsteps : PySem.W.findIn K (.ref aWindow) "steps" = some (some (.ref fRest_steps)))
    (mWindowlatest : PySem.W.findIn K (.ref aWindow) "latest" = some (some (.ref fRest_latest)))
    (mDayssteps : PySem.W.findIn K (.ref aDays) "steps" = some (some (.ref fRest_steps)))
    (mDayslatest : PySem.W.findIn K (.ref aDays) "latest" = some (some (.ref fRest_latest)))
    (mLatersteps : PySem.W.findIn K (.ref aLater) "steps" = some (some (.ref fRest_steps)))
    (mLaterlatest : PySem.W.findIn K (.ref aLater) "latest" = some (some (.ref fRest_latest)))
    (mSoonersteps : PySem.W.findIn K (.ref aSooner) "steps" = some (some (.ref fRest_steps)))
    (mSoonerlatest : PySem.W.findIn K (.ref aSooner) "latest" = some (some (.ref fRest_latest)))
    (mNextsteps : PySem.W.findIn K (.ref aNext) "steps" = some (some (.ref fRest_steps)))
    (mNextlatest : PySem.W.findIn K (.ref aNext) "latest" = some (some (.ref fRest_latest)))
    {odRest_steps anRest_steps : Option Addr} {slRest_steps : Array (Option Value)} {ocRest_steps kVRest_steps dcRest_steps pmRest_steps cdRest_steps ctRest_steps : Value}
    (lRest_steps : K.lookup fRest_steps = some ⟨ocRest_steps, odRest_steps, .func (PySem.W.fnOf "steps" "Rest.steps" (defArgs sRest_steps) (defBody sRest_steps) (defScope sRest_steps) .none kVRest_steps dcRest_steps pmRest_steps anRest_steps cdRest_steps ctRest_steps), slRest_steps⟩)
    (cRest_steps : PySem.W.codeIn K cdRest_steps "Rest.steps" = true)
    (kRest_steps : PySem.W.keepIn K (.ref fRest_steps) = true)
    (iRest_steps : PySem.W.isFn K (.ref fRest_steps) = true)
    {odRest_latest anRest_latest : Option Addr} {slRest_latest : Array (Option Value)} {ocRest_latest kVRest_latest dcRest_latest pmRest_latest cdRest_latest ctRest_latest : Value}
    (lRest_latest : K.lookup fRest_latest = some ⟨ocRest_latest, odRest_latest, .func (PySem.W.fnOf "latest" "Rest.latest" (defArgs sRest_latest) (defBody sRest_latest) (defScope sRest_latest) .none kVRest_latest dcRest_latest pmRest_latest anRest_latest cdRest_latest ctRest_latest), slRest_latest⟩)
    (cRest_latest : PySem.W.codeIn K cdRest_latest "Rest.latest" = true)
    (kRest_latest : PySem.W.keepIn K (.ref fRest_latest) = true)
    (iRest_latest : PySem.W.isFn K (.ref fRest_latest) = true) :
    ∃ fd : FuncData, (∀ (s : Shared) (v : Value), BindsTo s fd ⟨[v], []⟩ [("_law_script", v)]) ∧ ∀ base : Heap, K.In base → base.Ns mainGlobals mg → FnOk l.prog w K mg base CX0 11 fa fd ["_law_script"] (splaw K) := by
  have e := hfa.symm.trans (PySem.W.mg_of X G alaw)
  cases e
  have T : Txt K mg := ⟨PySem.W.mg_none_of X G zall, PySem.W.mg_none_of X G zbool, PySem.W.mg_none_of X G zdict, PySem.W.mg_none_of X G zenumerate, PySem.W.mg_none_of X G zint, PySem.W.mg_none_of X G zisinstance, PySem.W.mg_none_of X G zlen, PySem.W.mg_none_of X G zlist, PySem.W.mg_none_of X G zmax, PySem.W.mg_none_of X G zmin, PySem.W.mg_none_of X G zrange, PySem.W.mg_none_of X G zstr, PySem.W.mg_none_of X G zsuper, PySem.W.mg_none_of X G ztuple, PySem.W.mg_none_of X G zzip, ⟨_, PySem.W.mg_of X G yMOST_BORDERS⟩, ⟨_, PySem.W.mg_of X G yMOST_FORMS⟩, ⟨_, PySem.W.mg_of X G yMOST_PERIOD⟩, ⟨_, PySem.W.mg_of X G yMOST_SIZE⟩⟩
  have Fcheck_count := fun_mk (st := scheck_count) lcheck_count ccheck_count kcheck_count
  have Dcheck_count : Def K mg "check_count" scheck_count Pcheck_count _ _ := ⟨Fcheck_count, PySem.W.mg_of X G acheck_count, Fcheck_count.binds (ps := Pcheck_count) fun _ _ _ _ _ _ us hl => match us, hl with | [_, _, _], _ => rfl⟩
  have Fis_whole := fun_mk (st := sis_whole) lis_whole cis_whole kis_whole
  have Dis_whole : Def K mg "is_whole" sis_whole Pis_whole _ _ := ⟨Fis_whole, PySem.W.mg_of X G ais_whole, Fis_whole.binds (ps := Pis_whole) fun _ _ _ _ _ _ us hl => match us, hl with | [_], _ => rfl⟩
  have Fis_number := fun_mk (st := sis_number) lis_number cis_number kis_number
  have Dis_number : Def K mg "is_number" sis_number Pis_number _ _ := ⟨Fis_number, PySem.W.mg_of X G ais_number, Fis_number.binds (ps := Pis_number) fun _ _ _ _ _ _ us hl => match us, hl with | [_, _, _], _ => rfl⟩
  have Fcheck_borders := fun_mk (st := scheck_borders) lcheck_borders ccheck_borders kcheck_borders
  have Dcheck_borders : Def K mg "check_borders" scheck_borders Pcheck_borders _ _ := ⟨Fcheck_borders, PySem.W.mg_of X G acheck_borders, Fcheck_borders.binds (ps := Pcheck_borders) fun _ _ _ _ _ _ us hl => match us, hl with | [_], _ => rfl⟩
  have Fcommon_period := fun_mk (st := scommon_period) lcommon_period ccommon_period kcommon_period
  have Dcommon_period : Def K mg "common_period" scommon_period Pcommon_period _ _ := ⟨Fcommon_period, PySem.W.mg_of X G acommon_period, Fcommon_period.binds (ps := Pcommon_period) fun _ _ _ _ _ _ us hl => match us, hl with | [_, _], _ => rfl⟩
  have Fpair_facts := fun_mk (st := spair_facts) lpair_facts cpair_facts kpair_facts
  have Dpair_facts : Def K mg "pair_facts" spair_facts Ppair_facts _ _ := ⟨Fpair_facts, PySem.W.mg_of X G apair_facts, Fpair_facts.binds (ps := Ppair_facts) fun _ _ _ _ _ _ us hl => match us, hl with | [_, _, _], _ => rfl⟩
  have Fbag := fun_mk (st := sbag) lbag cbag kbag
  have Dbag : Def K mg "_law_bag" sbag Pbag _ _ := ⟨Fbag, PySem.W.mg_of X G abag, Fbag.binds (ps := Pbag) fun _ _ _ _ _ _ us hl => match us, hl with | [_], _ => rfl⟩
  have Fdraw := fun_mk (st := sdraw) ldraw cdraw kdraw
  have Ddraw : Def K mg "_law_draw" sdraw Pdraw _ _ := ⟨Fdraw, PySem.W.mg_of X G adraw, Fdraw.binds (ps := Pdraw) fun _ _ _ _ _ _ us hl => match us, hl with | [_, _], _ => rfl⟩
  have Fof := fun_mk (st := sof) lof cof kof
  have Dof : Def K mg "_law_of" sof Pof _ _ := ⟨Fof, PySem.W.mg_of X G aof, Fof.binds (ps := Pof) fun _ _ _ _ _ _ us hl => match us, hl with | [_, _], _ => rfl⟩
  have Flike := fun_mk (st := slike) llike clike klike
  have Dlike : Def K mg "_law_like" slike Plike _ _ := ⟨Flike, PySem.W.mg_of X G alike, Flike.binds (ps := Plike) fun _ _ _ _ _ _ us hl => match us, hl with | [_, _], _ => rfl⟩
  have Flcm := fun_mk (st := slcm) llcm clcm klcm
  have Dlcm : Def K mg "_law_lcm" slcm Plcm _ _ := ⟨Flcm, PySem.W.mg_of X G alcm, Flcm.binds (ps := Plcm) fun _ _ _ _ _ _ us hl => match us, hl with | [_, _], _ => rfl⟩
  have Fleaf := fun_mk (st := sleaf) lleaf cleaf kleaf
  have Dleaf : Def K mg "_law_leaf" sleaf Pleaf _ _ := ⟨Fleaf, PySem.W.mg_of X G aleaf, Fleaf.binds (ps := Pleaf) fun _ _ _ _ _ _ us hl => match us, hl with | [_, _, _], _ => rfl⟩
  have Fjoined := fun_mk (st := sjoined) ljoined cjoined kjoined
  have Djoined : Def K mg "_law_joined" sjoined Pjoined _ _ := ⟨Fjoined, PySem.W.mg_of X G ajoined, Fjoined.binds (ps := Pjoined) fun _ _ _ _ _ _ us hl => match us, hl with | [_, _], _ => rfl⟩
  have Fplan := fun_mk (st := splan) lplan cplan kplan
  have Dplan : Def K mg "_law_plan" splan Pplan _ _ := ⟨Fplan, PySem.W.mg_of X G aplan, Fplan.binds (ps := Pplan) fun _ _ _ _ _ _ us hl => match us, hl with | [_, _, _], _ => rfl⟩
  have Fat := fun_mk (st := sat) lat cat kat
  have Dat : Def K mg "_law_at" sat Pat _ _ := ⟨Fat, PySem.W.mg_of X G aat, Fat.binds (ps := Pat) fun _ _ _ _ _ _ us hl => match us, hl with | [_, _], _ => rfl⟩
  have Fmade := fun_mk (st := smade) lmade cmade kmade
  have Dmade : Def K mg "_law_made" smade Pmade _ _ := ⟨Fmade, PySem.W.mg_of X G amade, Fmade.binds (ps := Pmade) fun _ _ _ _ _ _ us hl => match us, hl with | [_], _ => rfl⟩
  have Fedges := fun_mk (st := sedges) ledges cedges kedges
  have Dedges : Def K mg "_law_edges" sedges Pedges _ _ := ⟨Fedges, PySem.W.mg_of X G aedges, Fedges.binds (ps := Pedges) fun _ _ _ _ _ _ us hl => match us, hl with | [_], _ => rfl⟩
  have Fspot := fun_mk (st := sspot) lspot cspot kspot
  have Dspot : Def K mg "_law_spot" sspot Pspot _ _ := ⟨Fspot, PySem.W.mg_of X G aspot, Fspot.binds (ps := Pspot) fun _ _ _ _ _ _ us hl => match us, hl with | [_, _], _ => rfl⟩
  have Fbound := fun_mk (st := sbound) lbound cbound kbound
  have Dbound : Def K mg "_law_bound" sbound Pbound _ _ := ⟨Fbound, PySem.W.mg_of X G abound, Fbound.binds (ps := Pbound) fun _ _ _ _ _ _ us hl => match us, hl with | [_, _], _ => rfl⟩
  have Flatest_so := fun_mk (st := slatest_so) llatest_so clatest_so klatest_so
  have Dlatest_so : Def K mg "_law_latest_so" slatest_so Platest_so _ _ := ⟨Flatest_so, PySem.W.mg_of X G alatest_so, Flatest_so.binds (ps := Platest_so) fun _ _ _ _ _ _ us hl => match us, hl with | [_, _, _], _ => rfl⟩
  have Frow := fun_mk (st := srow) lrow crow krow
  have Drow : Def K mg "_law_row" srow Prow _ _ := ⟨Frow, PySem.W.mg_of X G arow, Frow.binds (ps := Prow) fun _ _ _ _ _ _ us hl => match us, hl with | [_, _, _], _ => rfl⟩
  have Fsteps_so := fun_mk (st := ssteps_so) lsteps_so csteps_so ksteps_so
  have Dsteps_so : Def K mg "_law_steps_so" ssteps_so Psteps_so _ _ := ⟨Fsteps_so, PySem.W.mg_of X G asteps_so, Fsteps_so.binds (ps := Psteps_so) fun _ _ _ _ _ _ us hl => match us, hl with | [_, _, _], _ => rfl⟩
  have Fnested_so := fun_mk (st := snested_so) lnested_so cnested_so knested_so
  have Dnested_so : Def K mg "_law_nested_so" snested_so Pnested_so _ _ := ⟨Fnested_so, PySem.W.mg_of X G anested_so, Fnested_so.binds (ps := Pnested_so) fun _ _ _ _ _ _ us hl => match us, hl with | [_, _, _], _ => rfl⟩
  have Flaw := fun_mk (st := slaw) llaw claw klaw
  have Dlaw : Def K mg "law" slaw Plaw _ _ := ⟨Flaw, PySem.W.mg_of X G alaw, Flaw.binds (ps := Plaw) fun _ _ _ _ _ _ us hl => match us, hl with | [_], _ => rfl⟩
  let a : Ad := ⟨aR, aWindow, aDays, aLater, aSooner, aNext, fRi, fF, fP, fB, fW, fWindow_init, fDays_init, fLater_init, fSooner_init, fNext_init, fWindow_call, fDays_call, fLater_call, fSooner_call, fNext_call⟩
  have rcWindow : RC K a aWindow := ⟨⟨pgWindow, hdWindow, poWindow, saWindow⟩, nWindow_text, nWindow_forms, nWindow_period, nWindow_bend, ⟨mWindowforms, iRest_forms, kRest_forms⟩, ⟨mWindowperiod, iRest_period, kRest_period⟩, ⟨mWindowbend, iRest_bend, kRest_bend⟩, ⟨mWindowwritten, iRest_written, kRest_written⟩, LS.kit_own xRest tyCR isWindow, haWindow, hn, ht, hmWindow⟩
  have rcDays : RC K a aDays := ⟨⟨pgDays, hdDays, poDays, saDays⟩, nDays_text, nDays_forms, nDays_period, nDays_bend, ⟨mDaysforms, iRest_forms, kRest_forms⟩, ⟨mDaysperiod, iRest_period, kRest_period⟩, ⟨mDaysbend, iRest_bend, kRest_bend⟩, ⟨mDayswritten, iRest_written, kRest_written⟩, LS.kit_own xRest tyCR isDays, haDays, hn, ht, hmDays⟩
  have rcLater : RC K a aLater := ⟨⟨pgLater, hdLater, poLater, saLater⟩, nLater_text, nLater_forms, nLater_period, nLater_bend, ⟨mLaterforms, iRest_forms, kRest_forms⟩, ⟨mLaterperiod, iRest_period, kRest_period⟩, ⟨mLaterbend, iRest_bend, kRest_bend⟩, ⟨mLaterwritten, iRest_written, kRest_written⟩, LS.kit_own xRest tyCR isLater, haLater, hn, ht, hmLater⟩
  have rcSooner : RC K a aSooner := ⟨⟨pgSooner, hdSooner, poSooner, saSooner⟩, nSooner_text, nSooner_forms, nSooner_period, nSooner_bend, ⟨mSoonerforms, iRest_forms, kRest_forms⟩, ⟨mSoonerperiod, iRest_period, kRest_period⟩, ⟨mSoonerbend, iRest_bend, kRest_bend⟩, ⟨mSoonerwritten, iRest_written, kRest_written⟩, LS.kit_own xRest tyCR isSooner, haSooner, hn, ht, hmSooner⟩
  have rcNext : RC K a aNext := ⟨⟨pgNext, hdNext, poNext, saNext⟩, nNext_text, nNext_forms, nNext_period, nNext_bend, ⟨mNextforms, iRest_forms, kRest_forms⟩, ⟨mNextperiod, iRest_period, kRest_period⟩, ⟨mNextbend, iRest_bend, kRest_bend⟩, ⟨mNextwritten, iRest_written, kRest_written⟩, LS.kit_own xRest tyCR isNext, haNext, hn, ht, hmNext⟩
  have KN : Kn K mg a := ⟨rcWindow, rcDays, rcLater, rcSooner, rcNext, nWindowwidth, nDays_borders, nDaysevery, nLaterfirst, nLatersecond, nSoonerfirst, nSoonersecond, nNextfirst, nNextsecond, kRest_written, kRest_forms, kRest_period, kRest_bend, PySem.W.mg_of X G aRest, PySem.W.mg_of X G xlcm, PySem.W.mg_of X G a_Window, PySem.W.mg_of X G a_Days, PySem.W.mg_of X G a_Later, PySem.W.mg_of X G a_Sooner, PySem.W.mg_of X G a_Next, ⟨mkWindow, fiWindow, isfWindow_init, kpWindow⟩, ⟨mkDays, fiDays, isfDays_init, kpDays⟩, ⟨mkLater, fiLater, isfLater_init, kpLater⟩, ⟨mkSooner, fiSooner, isfSooner_init, kpSooner⟩, ⟨mkNext, fiNext, isfNext_init, kpNext⟩, ⟨fcWindow, iWindow_call, fnWindow⟩, ⟨fcDays, iDays_call, fnDays⟩, ⟨fcLater, iLater_call, fnLater⟩, ⟨fcSooner, iSooner_call, fnSooner⟩, ⟨fcNext, iNext_call, fnNext⟩⟩
  have UWindow_init : LS.SupF l.prog K (FWindow_init ccWindow_init cWindow_init) fWindow_init aWindow fRi "__init__" := ⟨⟨_, _, _, _, _, _, lWindow_init⟩, cdWindow_init, ⟨_, _, _, _, _, _, lcWindow_init, vfWindow_init, ffWindow_init⟩, ⟨_, _, _, _, rfl, llWindow_init⟩, ⟨_, LS.cls_of xWindow⟩, mrWindow, LS.sup_of xWindow moWindow xRest ffRi, tyR, opq, fiR, tp⟩
  have UDays_init : LS.SupF l.prog K (FDays_init ccDays_init cDays_init) fDays_init aDays fRi "__init__" := ⟨⟨_, _, _, _, _, _, lDays_init⟩, cdDays_init, ⟨_, _, _, _, _, _, lcDays_init, vfDays_init, ffDays_init⟩, ⟨_, _, _, _, rfl, llDays_init⟩, ⟨_, LS.cls_of xDays⟩, mrDays, LS.sup_of xDays moDays xRest ffRi, tyR, opq, fiR, tp⟩
  have ULater_init : LS.SupF l.prog K (FLater_init ccLater_init cLater_init) fLater_init aLater fRi "__init__" := ⟨⟨_, _, _, _, _, _, lLater_init⟩, cdLater_init, ⟨_, _, _, _, _, _, lcLater_init, vfLater_init, ffLater_init⟩, ⟨_, _, _, _, rfl, llLater_init⟩, ⟨_, LS.cls_of xLater⟩, mrLater, LS.sup_of xLater moLater xRest ffRi, tyR, opq, fiR, tp⟩
  have USooner_init : LS.SupF l.prog K (FSooner_init ccSooner_init cSooner_init) fSooner_init aSooner fRi "__init__" := ⟨⟨_, _, _, _, _, _, lSooner_init⟩, cdSooner_init, ⟨_, _, _, _, _, _, lcSooner_init, vfSooner_init, ffSooner_init⟩, ⟨_, _, _, _, rfl, llSooner_init⟩, ⟨_, LS.cls_of xSooner⟩, mrSooner, LS.sup_of xSooner moSooner xRest ffRi, tyR, opq, fiR, tp⟩
  have UNext_init : LS.SupF l.prog K (FNext_init ccNext_init cNext_init) fNext_init aNext fRi "__init__" := ⟨⟨_, _, _, _, _, _, lNext_init⟩, cdNext_init, ⟨_, _, _, _, _, _, lcNext_init, vfNext_init, ffNext_init⟩, ⟨_, _, _, _, rfl, llNext_init⟩, ⟨_, LS.cls_of xNext⟩, mrNext, LS.sup_of xNext moNext xRest ffRi, tyR, opq, fiR, tp⟩
  have KS : Ks K a fRest_steps := ⟨⟨mWindowsteps, iRest_steps, kRest_steps⟩, ⟨mDayssteps, iRest_steps, kRest_steps⟩, ⟨mLatersteps, iRest_steps, kRest_steps⟩, ⟨mSoonersteps, iRest_steps, kRest_steps⟩, ⟨mNextsteps, iRest_steps, kRest_steps⟩, kRest_steps⟩
  have KL : Kl K a fRest_latest := ⟨⟨mWindowlatest, iRest_latest, kRest_latest⟩, ⟨mDayslatest, iRest_latest, kRest_latest⟩, ⟨mLaterlatest, iRest_latest, kRest_latest⟩, ⟨mSoonerlatest, iRest_latest, kRest_latest⟩, ⟨mNextlatest, iRest_latest, kRest_latest⟩, kRest_latest⟩
  refine ⟨PySem.W.fnOf "law" "law" (defArgs slaw) (defBody slaw) (defScope slaw) .none kVlaw dclaw pmlaw anlaw cdlaw ctlaw, fun s v => .of_eq rfl, fun base _ _ => ?_⟩
  have Gcheck_count := ok_check_count (P := l.prog) (w := w) (base := base) Dcheck_count T
  have Gis_whole := ok_is_whole (P := l.prog) (w := w) (base := base) Dis_whole T
  have Gis_number := ok_is_number (P := l.prog) (w := w) (base := base) Dis_number T Dis_whole Gis_whole
  have Gcheck_borders := ok_check_borders (P := l.prog) (w := w) (base := base) Dcheck_borders T Dcheck_count Gcheck_count Dis_number Gis_number
  have FRest_init := fun_mk (st := sRest_init) lRest_init cRest_init kRest_init
  have BRest_init := FRest_init.binds (ps := PRest_init) fun _ _ _ _ _ _ us hl => match us, hl with | [_, _, _, _, _], _ => rfl
  have GRest_init := ok_Rest_init (P := l.prog) (w := w) (base := base) FRest_init T KN
  have RI : FnR l.prog w K mg base CX0 1 fRi (spRest_init K a) := LC.raw0 GRest_init BRest_init
  have FRest_forms := fun_mk (st := sRest_forms) lRest_forms cRest_forms kRest_forms
  have BRest_forms := FRest_forms.binds (ps := PRest_forms) fun _ _ _ _ _ _ us hl => match us, hl with | [_], _ => rfl
  have GRest_forms := ok_Rest_forms (P := l.prog) (w := w) (base := base) FRest_forms T KN
  have RF : FnR l.prog w K mg base CX0 1 fF (spRest_forms K a) := LC.raw0 GRest_forms BRest_forms
  have FRest_period := fun_mk (st := sRest_period) lRest_period cRest_period kRest_period
  have BRest_period := FRest_period.binds (ps := PRest_period) fun _ _ _ _ _ _ us hl => match us, hl with | [_], _ => rfl
  have GRest_period := ok_Rest_period (P := l.prog) (w := w) (base := base) FRest_period T KN
  have RP : FnR l.prog w K mg base CX0 1 fP (spRest_period K a) := LC.raw0 GRest_period BRest_period
  have FRest_bend := fun_mk (st := sRest_bend) lRest_bend cRest_bend kRest_bend
  have BRest_bend := FRest_bend.binds (ps := PRest_bend) fun _ _ _ _ _ _ us hl => match us, hl with | [_], _ => rfl
  have GRest_bend := ok_Rest_bend (P := l.prog) (w := w) (base := base) FRest_bend T KN
  have RB : FnR l.prog w K mg base CX0 1 fB (spRest_bend K a) := LC.raw0 GRest_bend BRest_bend
  have FRest_written := fun_mk (st := sRest_written) lRest_written cRest_written kRest_written
  have BRest_written := FRest_written.binds (ps := PRest_written) fun _ _ _ _ _ _ us hl => match us, hl with | [_], _ => rfl
  have GRest_written := ok_Rest_written (P := l.prog) (w := w) (base := base) FRest_written T KN
  have RW : FnR l.prog w K mg base CX0 1 fW (spRest_written K a) := LC.raw0 GRest_written BRest_written
  have Gcommon_period := ok_common_period (P := l.prog) (w := w) (base := base) Dcommon_period T KN RP Dcheck_count Gcheck_count
  have Gpair_facts := ok_pair_facts (P := l.prog) (w := w) (base := base) Dpair_facts T KN RW RF RP RB Dcheck_count Gcheck_count Dcommon_period Gcommon_period
  have GWindow_init := ok_Window_init (P := l.prog) (w := w) (base := base) T KN RI Dis_number Gis_number UWindow_init lWindow_init
  have BWindow_init : Binds K ((FWindow_init ccWindow_init cWindow_init).fd dcWindow_init pmWindow_init ctWindow_init) PWindow_init [] := Binds.all fun us hl => match us, hl with | [_, _], _ => rfl
  have RWindow_init : FnR l.prog w K mg base CX0 3 fWindow_init (spWindow_init K a) := LC.raw0 GWindow_init BWindow_init
  have IWindow := RWindow_init.mono (show 3 ≤ 4 by decide)
  have GDays_init := ok_Days_init (P := l.prog) (w := w) (base := base) T KN RI Dis_number Gis_number Dcheck_borders Gcheck_borders UDays_init lDays_init
  have BDays_init : Binds K ((FDays_init ccDays_init cDays_init).fd dcDays_init pmDays_init ctDays_init) PDays_init [] := Binds.all fun us hl => match us, hl with | [_, _, _], _ => rfl
  have RDays_init : FnR l.prog w K mg base CX0 4 fDays_init (spDays_init K a) := LC.raw0 GDays_init BDays_init
  have IDays := RDays_init.mono (show 4 ≤ 4 by decide)
  have GLater_init := ok_Later_init (P := l.prog) (w := w) (base := base) T KN RI Dpair_facts Gpair_facts ULater_init lLater_init
  have BLater_init : Binds K ((FLater_init ccLater_init cLater_init).fd dcLater_init pmLater_init ctLater_init) PLater_init [] := Binds.all fun us hl => match us, hl with | [_, _, _], _ => rfl
  have RLater_init : FnR l.prog w K mg base CX0 4 fLater_init (spLater_init K a) := LC.raw0 GLater_init BLater_init
  have ILater := RLater_init.mono (show 4 ≤ 4 by decide)
  have GSooner_init := ok_Sooner_init (P := l.prog) (w := w) (base := base) T KN RI Dpair_facts Gpair_facts USooner_init lSooner_init
  have BSooner_init : Binds K ((FSooner_init ccSooner_init cSooner_init).fd dcSooner_init pmSooner_init ctSooner_init) PSooner_init [] := Binds.all fun us hl => match us, hl with | [_, _, _], _ => rfl
  have RSooner_init : FnR l.prog w K mg base CX0 4 fSooner_init (spSooner_init K a) := LC.raw0 GSooner_init BSooner_init
  have ISooner := RSooner_init.mono (show 4 ≤ 4 by decide)
  have GNext_init := ok_Next_init (P := l.prog) (w := w) (base := base) T KN RI Dpair_facts Gpair_facts UNext_init lNext_init
  have BNext_init : Binds K ((FNext_init ccNext_init cNext_init).fd dcNext_init pmNext_init ctNext_init) PNext_init [] := Binds.all fun us hl => match us, hl with | [_, _, _], _ => rfl
  have RNext_init : FnR l.prog w K mg base CX0 4 fNext_init (spNext_init K a) := LC.raw0 GNext_init BNext_init
  have INext := RNext_init.mono (show 4 ≤ 4 by decide)
  have FWindow_call := fun_mk (st := sWindow_call) lWindow_call cWindow_call kWindow_call
  have BWindow_call := FWindow_call.binds (ps := PWindow_call) fun _ _ _ _ _ _ us hl => match us, hl with | [_, _], _ => rfl
  have GWindow_call := ok_Window_call (P := l.prog) (w := w) (base := base) FWindow_call T KN
  have RWindow_call : FnR l.prog w K mg base CX0 1 fWindow_call (spWindow_call K a) := LC.raw0 GWindow_call BWindow_call
  have FDays_call := fun_mk (st := sDays_call) lDays_call cDays_call kDays_call
  have BDays_call := FDays_call.binds (ps := PDays_call) fun _ _ _ _ _ _ us hl => match us, hl with | [_, _], _ => rfl
  have GDays_call := ok_Days_call (P := l.prog) (w := w) (base := base) FDays_call T KN RB
  have RDays_call : FnR l.prog w K mg base CX0 2 fDays_call (spDays_call K a) := LC.raw0 GDays_call BDays_call
  have FLater_call := fun_mk (st := sLater_call) lLater_call cLater_call kLater_call
  have BLater_call := FLater_call.binds (ps := PLater_call) fun _ _ _ _ _ _ us hl => match us, hl with | [_, _], _ => rfl
  have RLater_call : ∀ {n}, Calls l.prog w K mg base a n → FnR l.prog w K mg base CX0 (n + 3) fLater_call (spLater_call a (n + 1)) := fun CC => LC.raw0 (ok_Later_call (P := l.prog) (w := w) (base := base) FLater_call T KN CC) BLater_call
  have FSooner_call := fun_mk (st := sSooner_call) lSooner_call cSooner_call kSooner_call
  have BSooner_call := FSooner_call.binds (ps := PSooner_call) fun _ _ _ _ _ _ us hl => match us, hl with | [_, _], _ => rfl
  have RSooner_call : ∀ {n}, Calls l.prog w K mg base a n → FnR l.prog w K mg base CX0 (n + 3) fSooner_call (spSooner_call a (n + 1)) := fun CC => LC.raw0 (ok_Sooner_call (P := l.prog) (w := w) (base := base) FSooner_call T KN CC) BSooner_call
  have FNext_call := fun_mk (st := sNext_call) lNext_call cNext_call kNext_call
  have BNext_call := FNext_call.binds (ps := PNext_call) fun _ _ _ _ _ _ us hl => match us, hl with | [_, _], _ => rfl
  have RNext_call : ∀ {n}, Calls l.prog w K mg base a n → FnR l.prog w K mg base CX0 (n + 3) fNext_call (spNext_call a (n + 1)) := fun CC => LC.raw0 (ok_Next_call (P := l.prog) (w := w) (base := base) FNext_call T KN CC) BNext_call
  have CC : Calls l.prog w K mg base a 2 := calls_of RWindow_call RDays_call RLater_call RSooner_call RNext_call
  have FRest_steps := fun_mk (st := sRest_steps) lRest_steps cRest_steps kRest_steps
  have BS := FRest_steps.binds (ps := PRest_steps) fun _ _ _ _ _ _ us hl => match us, hl with | [_, _, _], _ => rfl
  have GS := ok_Rest_steps (P := l.prog) (w := w) (base := base) FRest_steps T KN CC
  have GL := ok_Rest_stepsL (P := l.prog) (w := w) (base := base) FRest_steps T KN CC
  have KBS := kb_Rest_steps FRest_steps
  have FRest_latest := fun_mk (st := sRest_latest) lRest_latest cRest_latest kRest_latest
  have GT := ok_Rest_latest (P := l.prog) (w := w) (base := base) FRest_latest T KN CC
  have RT : FnR l.prog w K mg base CX0 5 fRest_latest (spRest_latest K a) := LC.raw0 GT (FRest_latest.binds (ps := PRest_latest) fun _ _ _ _ _ _ us hl => match us, hl with | [_, _], _ => rfl)
  have KBT := kb_Rest_latest FRest_latest
  have Gbag := ok_bag (P := l.prog) (w := w) (base := base) Dbag T
  have Gdraw := ok_draw (P := l.prog) (w := w) (base := base) Ddraw T
  have Gof := ok_of (P := l.prog) (w := w) (base := base) Dof T Ddraw Gdraw
  have Glike := ok_like (P := l.prog) (w := w) (base := base) Dlike T
  have Glcm := ok_lcm (P := l.prog) (w := w) (base := base) Dlcm T
  have Gleaf := ok_leaf (P := l.prog) (w := w) (base := base) Dleaf T Ddraw Gdraw Dof Gof Dlcm Glcm
  have Gjoined := ok_joined (P := l.prog) (w := w) (base := base) Djoined T Ddraw Gdraw Dof Gof
  have Gplan := ok_plan (P := l.prog) (w := w) (base := base) Dplan T Dof Gof Dleaf Gleaf Djoined Gjoined
  have Gat := ok_at (P := l.prog) (w := w) (base := base) Dat T
  have Gmade := ok_made (P := l.prog) (w := w) (base := base) Dmade T KN IWindow IDays ILater ISooner INext
  have Gedges := ok_edges (P := l.prog) (w := w) (base := base) Dedges T
  have Gspot := ok_spot (P := l.prog) (w := w) (base := base) Dspot T Ddraw Gdraw Dof Gof Dat Gat Dedges Gedges
  have Gbound := ok_bound (P := l.prog) (w := w) (base := base) Dbound T Ddraw Gdraw Dat Gat Dspot Gspot
  have Glatest_so := ok_latest_so (P := l.prog) (w := w) (base := base) Dlatest_so T Dat Gat
  have Grow := ok_row (P := l.prog) (w := w) (base := base) Drow T Dat Gat
  have Gsteps_so := ok_steps_so (P := l.prog) (w := w) (base := base) Dsteps_so T KN KS GS GL BS KBS Ddraw Gdraw Dlike Glike Dat Gat Dspot Gspot Drow Grow
  have Gnested_so := ok_nested_so (P := l.prog) (w := w) (base := base) Dnested_so T KN KS GS GL BS KBS Ddraw Gdraw Dlike Glike Drow Grow
  have Glaw := ok_law (P := l.prog) (w := w) (base := base) Dlaw T KN IWindow IDays ILater ISooner INext KS GS GL BS KBS KL GT RT KBT Dbag Gbag Ddraw Gdraw Dof Gof Dplan Gplan Dmade Gmade Dbound Gbound Dlatest_so Glatest_so Dsteps_so Gsteps_so Dnested_so Gnested_so
  exact Glaw
theorem walk {l : PySem.W.OpenLaw} {q : Program} {loose : List Str} {XP : (Str → Option Value) → Heap → Prop} {YP : World → Heap → Prop} {d : DefRec} {K : Params → PySem.W.Frag} (hn : l.most = some 63) (hdf : d.params.defaults = [])
    (hY : ∀ (w : World) (h : Heap), YP w h → (K w.params).In h)
    (F : ∀ (w : World) (mg : Str → Option Value) (fa : Addr) (h : Heap), (K w.params).In h → h.Ns mainGlobals mg → mg d.name = some (.ref fa) →
      ∃ fd : FuncData, (∀ (s : Shared) (u : Value), BindsTo s fd ⟨[u], []⟩ [("_law_script", u)]) ∧ ∀ base : Heap, (K w.params).In base → base.Ns mainGlobals mg → FnOk l.prog w (K w.params) mg base CX0 11 fa fd ["_law_script"] (splaw (K w.params))) :
    PySem.W.WalkO q loose XP YP l.row.toRowW d [] (fun f vs => PySem.call f vs) :=
  L2.walk_of (n := 63) (k := 11) (x := "_law_script") (CX := fun _ => CX0) (sp := fun w => splaw (K w.params)) hn (by decide) hdf ⟨rfl, by decide, by decide⟩ hY F (fun _ _ a ns hl _ hS => ⟨a, ns, rfl, hS, hl, fun _ => rfl⟩) fun _ _ _ _ _ z => z
end k03
open PySem PySem.W PyProof.Rows
set_option maxRecDepth 100000 in
set_option maxHeartbeats 0 in
theorem PySem.Challenge.cw_surelet_k03_whole_latest_moments_holds : PySem.Challenge.rw_surelet_k03_whole_latest_moments.Holds := by
  w_on; o_law; k_head; (case hw => w_witness2)
  k_fill
  refine k03.walk (l := PySem.Challenge.rw_surelet_k03_whole_latest_moments) rfl rfl (fun w h Y => PySem.W.kIn_of Y) ?F
  case F =>
    intro w mg fa h KX G hmg
    refine' k03.all_mk KX G hmg ?acheck_count ?lcheck_count ?ccheck_count ?kcheck_count ?ais_whole ?lis_whole ?cis_whole ?kis_whole ?ais_number ?lis_number ?cis_number ?kis_number ?acheck_borders ?lcheck_borders ?ccheck_borders ?kcheck_borders ?acommon_period ?lcommon_period ?ccommon_period ?kcommon_period ?apair_facts ?lpair_facts ?cpair_facts ?kpair_facts ?abag ?lbag ?cbag ?kbag ?adraw ?ldraw ?cdraw ?kdraw ?aof ?lof ?cof ?kof ?alike ?llike ?clike ?klike ?alcm ?llcm ?clcm ?klcm ?aleaf ?lleaf ?cleaf ?kleaf ?ajoined ?ljoined ?cjoined ?kjoined ?aplan ?lplan ?cplan ?kplan ?aat ?lat ?cat ?kat ?amade ?lmade ?cmade ?kmade ?aedges ?ledges ?cedges ?kedges ?aspot ?lspot ?cspot ?kspot ?abound ?lbound ?cbound ?kbound ?alatest_so ?llatest_so ?clatest_so ?klatest_so ?arow ?lrow ?crow ?krow ?asteps_so ?lsteps_so ?csteps_so ?ksteps_so ?anested_so ?lnested_so ?cnested_so ?knested_so ?alaw ?llaw ?claw ?klaw ?zall ?zbool ?zdict ?zenumerate ?zint ?zisinstance ?zlen ?zlist ?zmax ?zmin ?zrange ?zstr ?zsuper ?ztuple ?zzip ?yMOST_BORDERS ?yMOST_FORMS ?yMOST_PERIOD ?yMOST_SIZE ?aRest ?xRest ?tyCR ?ffRi ?lRest_init ?cRest_init ?kRest_init ?iRest_init ?ffF ?lRest_forms ?cRest_forms ?kRest_forms ?iRest_forms ?ffP ?lRest_period ?cRest_period ?kRest_period ?iRest_period ?ffB ?lRest_bend ?cRest_bend ?kRest_bend ?iRest_bend ?ffW ?lRest_written ?cRest_written ?kRest_written ?iRest_written ?tyR ?fiR ?opq ?tp ?a_Window ?pgWindow ?hdWindow ?poWindow ?saWindow ?mkWindow ?kpWindow ?fiWindow ?lWindow_init ?lcWindow_init ?vfWindow_init ?ffWindow_init ?llWindow_init ?cdWindow_init ?isfWindow_init ?xWindow ?mrWindow ?moWindow ?nWindow_text ?nWindow_forms ?nWindow_period ?nWindow_bend ?nWindowwidth ?mWindowforms ?mWindowperiod ?mWindowbend ?mWindowwritten ?fcWindow ?lWindow_call ?cWindow_call ?kWindow_call ?iWindow_call ?fnWindow ?isWindow ?haWindow ?hmWindow ?a_Days ?pgDays ?hdDays ?poDays ?saDays ?mkDays ?kpDays ?fiDays ?lDays_init ?lcDays_init ?vfDays_init ?ffDays_init ?llDays_init ?cdDays_init ?isfDays_init ?xDays ?mrDays ?moDays ?nDays_text ?nDays_forms ?nDays_period ?nDays_bend ?nDays_borders ?nDaysevery ?mDaysforms ?mDaysperiod ?mDaysbend ?mDayswritten ?fcDays ?lDays_call ?cDays_call ?kDays_call ?iDays_call ?fnDays ?isDays ?haDays ?hmDays ?a_Later ?pgLater ?hdLater ?poLater ?saLater ?mkLater ?kpLater ?fiLater ?lLater_init ?lcLater_init ?vfLater_init ?ffLater_init ?llLater_init ?cdLater_init ?isfLater_init ?xLater ?mrLater ?moLater ?nLater_text ?nLater_forms ?nLater_period ?nLater_bend ?nLaterfirst ?nLatersecond ?mLaterforms ?mLaterperiod ?mLaterbend ?mLaterwritten ?fcLater ?lLater_call ?cLater_call ?kLater_call ?iLater_call ?fnLater ?isLater ?haLater ?hmLater ?a_Sooner ?pgSooner ?hdSooner ?poSooner ?saSooner ?mkSooner ?kpSooner ?fiSooner ?lSooner_init ?lcSooner_init ?vfSooner_init ?ffSooner_init ?llSooner_init ?cdSooner_init ?isfSooner_init ?xSooner ?mrSooner ?moSooner ?nSooner_text ?nSooner_forms ?nSooner_period ?nSooner_bend ?nSoonerfirst ?nSoonersecond ?mSoonerforms ?mSoonerperiod ?mSoonerbend ?mSoonerwritten ?fcSooner ?lSooner_call ?cSooner_call ?kSooner_call ?iSooner_call ?fnSooner ?isSooner ?haSooner ?hmSooner ?a_Next ?pgNext ?hdNext ?poNext ?saNext ?mkNext ?kpNext ?fiNext ?lNext_init ?lcNext_init ?vfNext_init ?ffNext_init ?llNext_init ?cdNext_init ?isfNext_init ?xNext ?mrNext ?moNext ?nNext_text ?nNext_forms ?nNext_period ?nNext_bend ?nNextfirst ?nNextsecond ?mNextforms ?mNextperiod ?mNextbend ?mNextwritten ?fcNext ?lNext_call ?cNext_call ?kNext_call ?iNext_call ?fnNext ?isNext ?haNext ?hmNext ?hn ?ht ?xlcm ?mWindowsteps ?mWindowlatest ?mDayssteps ?mDayslatest ?mLatersteps ?mLaterlatest ?mSoonersteps ?mSoonerlatest ?mNextsteps ?mNextlatest ?lRest_steps ?cRest_steps ?kRest_steps ?iRest_steps ?lRest_latest ?cRest_latest ?kRest_latest ?iRest_latest
    (case acheck_count => k_is)
    (case lcheck_count => k_is)
    (case ccheck_count => k_is)
    (case kcheck_count => k_is)
    (case ais_whole => k_is)
    (case lis_whole => k_is)
    (case cis_whole => k_is)
    (case kis_whole => k_is)
    (case ais_number => k_is)
    (case lis_number => k_is)
    (case cis_number => k_is)
    (case kis_number => k_is)
    (case acheck_borders => k_is)
    (case lcheck_borders => k_is)
    (case ccheck_borders => k_is)
    (case kcheck_borders => k_is)
    (case acommon_period => k_is)
    (case lcommon_period => k_is)
    (case ccommon_period => k_is)
    (case kcommon_period => k_is)
    (case apair_facts => k_is)
    (case lpair_facts => k_is)
    (case cpair_facts => k_is)
    (case kpair_facts => k_is)
    (case abag => k_is)
    (case lbag => k_is)
    (case cbag => k_is)
    (case kbag => k_is)
    (case adraw => k_is)
    (case ldraw => k_is)
    (case cdraw => k_is)
    (case kdraw => k_is)
    (case aof => k_is)
    (case lof => k_is)
    (case cof => k_is)
    (case kof => k_is)
    (case alike => k_is)
    (case llike => k_is)
    (case clike => k_is)
    (case klike => k_is)
    (case alcm => k_is)
    (case llcm => k_is)
    (case clcm => k_is)
    (case klcm => k_is)
    (case aleaf => k_is)
    (case lleaf => k_is)
    (case cleaf => k_is)
    (case kleaf => k_is)
    (case ajoined => k_is)
    (case ljoined => k_is)
    (case cjoined => k_is)
    (case kjoined => k_is)
    (case aplan => k_is)
    (case lplan => k_is)
    (case cplan => k_is)
    (case kplan => k_is)
    (case aat => k_is)
    (case lat => k_is)
    (case cat => k_is)
    (case kat => k_is)
    (case amade => k_is)
    (case lmade => k_is)
    (case cmade => k_is)
    (case kmade => k_is)
    (case aedges => k_is)
    (case ledges => k_is)
    (case cedges => k_is)
    (case kedges => k_is)
    (case aspot => k_is)
    (case lspot => k_is)
    (case cspot => k_is)
    (case kspot => k_is)
    (case abound => k_is)
    (case lbound => k_is)
    (case cbound => k_is)
    (case kbound => k_is)
    (case alatest_so => k_is)
    (case llatest_so => k_is)
    (case clatest_so => k_is)
    (case klatest_so => k_is)
    (case arow => k_is)
    (case lrow => k_is)
    (case crow => k_is)
    (case krow => k_is)
    (case asteps_so => k_is)
    (case lsteps_so => k_is)
    (case csteps_so => k_is)
    (case ksteps_so => k_is)
    (case anested_so => k_is)
    (case lnested_so => k_is)
    (case cnested_so => k_is)
    (case knested_so => k_is)
    (case alaw => k_is)
    (case llaw => k_is)
    (case claw => k_is)
    (case klaw => k_is)
    (case zall => k_is)
    (case zbool => k_is)
    (case zdict => k_is)
    (case zenumerate => k_is)
    (case zint => k_is)
    (case zisinstance => k_is)
    (case zlen => k_is)
    (case zlist => k_is)
    (case zmax => k_is)
    (case zmin => k_is)
    (case zrange => k_is)
    (case zstr => k_is)
    (case zsuper => k_is)
    (case ztuple => k_is)
    (case zzip => k_is)
    (case yMOST_BORDERS => k_is)
    (case yMOST_FORMS => k_is)
    (case yMOST_PERIOD => k_is)
    (case yMOST_SIZE => k_is)
    (case aRest => k_is)
    (case xRest => k_is)
    (case tyCR => k_is)
    (case ffRi => k_is)
    (case lRest_init => k_is)
    (case cRest_init => k_is)
    (case kRest_init => k_is)
    (case iRest_init => k_is)
    (case ffF => k_is)
    (case lRest_forms => k_is)
    (case cRest_forms => k_is)
    (case kRest_forms => k_is)
    (case iRest_forms => k_is)
    (case ffP => k_is)
    (case lRest_period => k_is)
    (case cRest_period => k_is)
    (case kRest_period => k_is)
    (case iRest_period => k_is)
    (case ffB => k_is)
    (case lRest_bend => k_is)
    (case cRest_bend => k_is)
    (case kRest_bend => k_is)
    (case iRest_bend => k_is)
    (case ffW => k_is)
    (case lRest_written => k_is)
    (case cRest_written => k_is)
    (case kRest_written => k_is)
    (case iRest_written => k_is)
    (case tyR => k_is)
    (case fiR => k_is)
    (case opq => k_is)
    (case tp => rfl)
    (case a_Window => k_is)
    (case pgWindow => k_is)
    (case hdWindow => k_is)
    (case poWindow => k_is)
    (case saWindow => k_is)
    (case mkWindow => k_is)
    (case kpWindow => k_is)
    (case fiWindow => k_is)
    (case lWindow_init => k_is)
    (case lcWindow_init => k_is)
    (case vfWindow_init => rfl)
    (case ffWindow_init => rfl)
    (case llWindow_init => k_is)
    (case cdWindow_init => k_is)
    (case isfWindow_init => k_is)
    (case xWindow => k_is)
    (case mrWindow => k_is)
    (case moWindow => rfl)
    (case nWindow_text => k_is)
    (case nWindow_forms => k_is)
    (case nWindow_period => k_is)
    (case nWindow_bend => k_is)
    (case nWindowwidth => k_is)
    (case mWindowforms => k_is)
    (case mWindowperiod => k_is)
    (case mWindowbend => k_is)
    (case mWindowwritten => k_is)
    (case fcWindow => k_is)
    (case lWindow_call => k_is)
    (case cWindow_call => k_is)
    (case kWindow_call => k_is)
    (case iWindow_call => k_is)
    (case fnWindow => k_is)
    (case isWindow => k_is)
    (case haWindow => k_is)
    (case hmWindow => k_is)
    (case a_Days => k_is)
    (case pgDays => k_is)
    (case hdDays => k_is)
    (case poDays => k_is)
    (case saDays => k_is)
    (case mkDays => k_is)
    (case kpDays => k_is)
    (case fiDays => k_is)
    (case lDays_init => k_is)
    (case lcDays_init => k_is)
    (case vfDays_init => rfl)
    (case ffDays_init => rfl)
    (case llDays_init => k_is)
    (case cdDays_init => k_is)
    (case isfDays_init => k_is)
    (case xDays => k_is)
    (case mrDays => k_is)
    (case moDays => rfl)
    (case nDays_text => k_is)
    (case nDays_forms => k_is)
    (case nDays_period => k_is)
    (case nDays_bend => k_is)
    (case nDays_borders => k_is)
    (case nDaysevery => k_is)
    (case mDaysforms => k_is)
    (case mDaysperiod => k_is)
    (case mDaysbend => k_is)
    (case mDayswritten => k_is)
    (case fcDays => k_is)
    (case lDays_call => k_is)
    (case cDays_call => k_is)
    (case kDays_call => k_is)
    (case iDays_call => k_is)
    (case fnDays => k_is)
    (case isDays => k_is)
    (case haDays => k_is)
    (case hmDays => k_is)
    (case a_Later => k_is)
    (case pgLater => k_is)
    (case hdLater => k_is)
    (case poLater => k_is)
    (case saLater => k_is)
    (case mkLater => k_is)
    (case kpLater => k_is)
    (case fiLater => k_is)
    (case lLater_init => k_is)
    (case lcLater_init => k_is)
    (case vfLater_init => rfl)
    (case ffLater_init => rfl)
    (case llLater_init => k_is)
    (case cdLater_init => k_is)
    (case isfLater_init => k_is)
    (case xLater => k_is)
    (case mrLater => k_is)
    (case moLater => rfl)
    (case nLater_text => k_is)
    (case nLater_forms => k_is)
    (case nLater_period => k_is)
    (case nLater_bend => k_is)
    (case nLaterfirst => k_is)
    (case nLatersecond => k_is)
    (case mLaterforms => k_is)
    (case mLaterperiod => k_is)
    (case mLaterbend => k_is)
    (case mLaterwritten => k_is)
    (case fcLater => k_is)
    (case lLater_call => k_is)
    (case cLater_call => k_is)
    (case kLater_call => k_is)
    (case iLater_call => k_is)
    (case fnLater => k_is)
    (case isLater => k_is)
    (case haLater => k_is)
    (case hmLater => k_is)
    (case a_Sooner => k_is)
    (case pgSooner => k_is)
    (case hdSooner => k_is)
    (case poSooner => k_is)
    (case saSooner => k_is)
    (case mkSooner => k_is)
    (case kpSooner => k_is)
    (case fiSooner => k_is)
    (case lSooner_init => k_is)
    (case lcSooner_init => k_is)
    (case vfSooner_init => rfl)
    (case ffSooner_init => rfl)
    (case llSooner_init => k_is)
    (case cdSooner_init => k_is)
    (case isfSooner_init => k_is)
    (case xSooner => k_is)
    (case mrSooner => k_is)
    (case moSooner => rfl)
    (case nSooner_text => k_is)
    (case nSooner_forms => k_is)
    (case nSooner_period => k_is)
    (case nSooner_bend => k_is)
    (case nSoonerfirst => k_is)
    (case nSoonersecond => k_is)
    (case mSoonerforms => k_is)
    (case mSoonerperiod => k_is)
    (case mSoonerbend => k_is)
    (case mSoonerwritten => k_is)
    (case fcSooner => k_is)
    (case lSooner_call => k_is)
    (case cSooner_call => k_is)
    (case kSooner_call => k_is)
    (case iSooner_call => k_is)
    (case fnSooner => k_is)
    (case isSooner => k_is)
    (case haSooner => k_is)
    (case hmSooner => k_is)
    (case a_Next => k_is)
    (case pgNext => k_is)
    (case hdNext => k_is)
    (case poNext => k_is)
    (case saNext => k_is)
    (case mkNext => k_is)
    (case kpNext => k_is)
    (case fiNext => k_is)
    (case lNext_init => k_is)
    (case lcNext_init => k_is)
    (case vfNext_init => rfl)
    (case ffNext_init => rfl)
    (case llNext_init => k_is)
    (case cdNext_init => k_is)
    (case isfNext_init => k_is)
    (case xNext => k_is)
    (case mrNext => k_is)
    (case moNext => rfl)
    (case nNext_text => k_is)
    (case nNext_forms => k_is)
    (case nNext_period => k_is)
    (case nNext_bend => k_is)
    (case nNextfirst => k_is)
    (case nNextsecond => k_is)
    (case mNextforms => k_is)
    (case mNextperiod => k_is)
    (case mNextbend => k_is)
    (case mNextwritten => k_is)
    (case fcNext => k_is)
    (case lNext_call => k_is)
    (case cNext_call => k_is)
    (case kNext_call => k_is)
    (case iNext_call => k_is)
    (case fnNext => k_is)
    (case isNext => k_is)
    (case haNext => k_is)
    (case hmNext => k_is)
    (case hn => k_is)
    (case ht => k_is)
    (case xlcm => k_is)
    (case mWindowsteps => k_is)
    (case mWindowlatest => k_is)
    (case mDayssteps => k_is)
    (case mDayslatest => k_is)
    (case mLatersteps => k_is)
    (case mLaterlatest => k_is)
    (case mSoonersteps => k_is)
    (case mSoonerlatest => k_is)
    (case mNextsteps => k_is)
    (case mNextlatest => k_is)
    (case lRest_steps => k_is)
    (case cRest_steps => k_is)
    (case kRest_steps => k_is)
    (case iRest_steps => k_is)
    (case lRest_latest => k_is)
    (case cRest_latest => k_is)
    (case kRest_latest => k_is)
    (case iRest_latest => k_is)