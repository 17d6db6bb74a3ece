import PyProof.Rows.All
import Wide.All
import OpenK.AllK
import Wide.FinOn
import HandS.ForMost
import HandS.IsInst
import HandS.Evl
import HandS.Zip
import HandS.ExcInit
import HandS.ExcIs
import HandS.Walk
import KE.KExcIs
import KE.KxText
import HandS.Nested
import HandS.Star
import HandS.More
import HandS.MethStar
import KE.KSuper
import HandS.FStr
import HandS.Gcd
import KE.KMathGC
import HandS.TupSets
import HandS.RaiseMore
import HandS.TupAny
import HandS.SetFor
import HandS.Deep
import HandS.Dict
import HandS.DictComp
import HandS.Defaults
import HandS.MakeKwOnly
import HandS.DictTup
import HandS.WordsDict
import HandS.Style
import HandS.Rev
import KE.GoesMore
import HandS.Ends
import PyProof.Rows.ReprR
import PySem.Challenge.RW_surelet_k80_whole_leads_are_transitive
set_option Elab.async false
set_option linter.all false
set_option maxRecDepth 100000
set_option maxHeartbeats 4000000
namespace LC
open PySem L2
/-- a def as it stands behind the top: its text, its name, how its arguments bind -/
structure Def (K : PySem.W.Frag) (mg : Str → Option Value) (x : Str) (st : Stmt) (ps : List Str) (f : Addr) (fd : FuncData) : Prop where
  F : Fun K x x st f fd
  g : mg x = some (.ref f)
  b : Binds K fd ps []
/-- all but the bag at g is as it was -/
def Kp (g : Addr) (H H' : Hp) : Prop := ∀ b o, b ≠ g → H b = some o → H' b = some o
theorem Kp.refl (g : Addr) (H : Hp) : Kp g H H := fun _ _ _ h => h
theorem Kp.trans {g : Addr} {H H1 H2 : Hp} (a : Kp g H H1) (b : Kp g H1 H2) : Kp g H H2 := fun c o n h => b c o n (a c o n h)
theorem Kp.upd {g : Addr} {H H1 : Hp} {p : Addr} {o : HO} (a : Kp g H H1) (h : H1 p = none) : Kp g H (upd H1 p o) := fun c u n e => by
  have q := a c u n e
  rw [upd_ne (ne_of_none q h)]
  exact q
theorem Kp.bag {g : Addr} {H H1 : Hp} {o : HO} (a : Kp g H H1) : Kp g H (L2.upd H1 g o) := fun c u n e => by
  rw [upd_ne n]
  exact a c u n e
theorem Kp.free {g : Addr} {H H' : Hp} (e : Kp g H H') {l : Addr} (hl : l ≠ g) (h : H' l = Option.none) : H l = Option.none := by
  cases q : H l with
  | none => rfl
  | some o =>
    rw [e l o hl q] at h
    cases h
/-- the bag of draws at g, the script's copy at l -/
def Bag (l : Addr) (H : Hp) (g : Addr) : Prop := ∃ (ns : List Int) (i d s c : Int), H g = some (.lst [.ref l, .int i, .int d, .int s, .int c]) ∧ l ≠ g ∧ H l = some (.lst (ns.map V.int)) ∧
  0 ≤ i ∧ i ≤ ns.length ∧ 0 ≤ d ∧ 0 ≤ s ∧ s < 2147483399
theorem Bag.there {l : Addr} {H : Hp} {g : Addr} (B : Bag l H g) : (∃ xs, H g = some (.lst xs)) ∧ ∃ xs, H l = some (.lst xs) := by
  obtain ⟨ns, i, d, s, c, h, _, h2, _⟩ := B
  exact ⟨⟨_, h⟩, ⟨_, h2⟩⟩
theorem Bag.ne {l : Addr} {H : Hp} {g p : Addr} (B : Bag l H g) (h : H p = none) : p ≠ g ∧ p ≠ l := by
  obtain ⟨⟨xs, q⟩, ⟨ys, r⟩⟩ := B.there
  refine ⟨fun e => ?_, fun e => ?_⟩
  · rw [e, q] at h
    cases h
  · rw [e, r] at h
    cases h
theorem Bag.mut {l : Addr} {H : Hp} {g p : Addr} {o : HO} (B : Bag l H g) (h : p ≠ g) (h' : p ≠ l) : Bag l (L2.upd H p o) g := by
  obtain ⟨ns, i, d, s, c, h1, h2, h3, r⟩ := B
  exact ⟨ns, i, d, s, c, by rw [upd_ne (Ne.symm h)]; exact h1, h2, by rw [upd_ne (Ne.symm h')]; exact h3, r⟩
/-- from H0 to H: all but the bag stands, things came beside it, the bag is one -/
structure Ok (g l : Addr) (H0 H : Hp) : Prop where
  b0 : Bag l H0 g
  kp : Kp g H0 H
  bag : Bag l H g
theorem Ok.refl {g l : Addr} {H : Hp} (B : Bag l H g) : Ok g l H H := ⟨B, Kp.refl g H, B⟩
theorem Ok.trans {g l : Addr} {H H1 H2 : Hp} (a : Ok g l H H1) (b : Ok g l H1 H2) : Ok g l H H2 := ⟨a.b0, a.kp.trans b.kp, b.bag⟩
theorem Ok.new {g l p : Addr} {H H1 : Hp} {o : HO} (a : Ok g l H H1) (h : H1 p = none) : Ok g l H (L2.upd H1 p o) := ⟨a.b0, a.kp.upd h, a.bag.mut (a.bag.ne h).1 (a.bag.ne h).2⟩
theorem Ok.free {g l p : Addr} {H H1 : Hp} (a : Ok g l H H1) (h : H1 p = none) : H p = none := a.kp.free (a.bag.ne h).1 h
theorem Ok.mut {g l p : Addr} {H H1 : Hp} {o : HO} (a : Ok g l H H1) (h : H p = none) : Ok g l H (L2.upd H1 p o) :=
  ⟨a.b0, fun b u n e => by rw [upd_ne (ne_of_none e h)]; exact a.kp b u n e, a.bag.mut (a.b0.ne h).1 (a.b0.ne h).2⟩
theorem Ok.at_ {g l p : Addr} {H H1 : Hp} {o : HO} (a : Ok g l H H1) (h : H p = some o) (n : p ≠ g) : H1 p = some o := a.kp p o n h
theorem SqL.kp {K : PySem.W.Frag} {g : Addr} {H H' : Hp} {a : Addr} {xs : List V} (e : Kp g H H') (n : a ≠ g) (h : SqL K H a xs) : SqL K H' a xs := by
  rcases h with (h | ⟨o, h⟩) | h
  · exact .inl (.inl (e _ _ n h))
  · exact .inl (.inr ⟨o, e _ _ n h⟩)
  · exact .inr h
theorem SqT.kp {K : PySem.W.Frag} {g : Addr} {H H' : Hp} {a : Addr} {xs : List V} (e : Kp g H H') (n : a ≠ g) (h : SqT K H a xs) : SqT K H' a xs := by
  rcases h with (h | ⟨o, h⟩) | h
  · exact .inl (.inl (e _ _ n h))
  · exact .inl (.inr ⟨o, e _ _ n h⟩)
  · exact .inr h
theorem ite_b {c : Bool} {A B : Prop} (h1 : c = true → A) (h2 : c = false → B) : if c = true then A else B := by
  cases c with
  | true => exact iteT (h1 rfl)
  | false => exact iteF (h2 rfl)
/-- a test of two ints -/
theorem ite_d {p : Prop} [Decidable p] {A B : Prop} (h1 : p → A) (h2 : ¬ p → B) : if decide p = true then A else B := by
  by_cases h : p
  · rw [decide_eq_true h]
    exact iteT (h1 h)
  · rw [decide_eq_false h]
    exact iteF (h2 h)
theorem ite_eq {i j : Int} {A B : Prop} (h1 : i = j → A) (h2 : i ≠ j → B) : if decide (V.int i = V.int j) = true then A else B :=
  ite_d (fun h => h1 (V.int.inj h)) fun h => h2 fun e => h (by rw [e])
section
variable {X : Cx} {CX : CXT} {k : Nat} {f : Addr} {fd : FuncData} {ps ks : List Str} {sp : Sp} {E : XK} {x : Str} {p pos : Pos} {kws : List Keyword} {tk : TA} {g : List Value → List Value → List Value} {gV : List V → List V → List V}
theorem pe_callK0 (F : FnOk X.prog X.w X.K X.mg X.base CX k f fd ps sp) (hr : Room k X.A) (hg : Gl X x) (hm : X.mg x = some (.ref f)) (hk : PySem.W.keepIn X.K (.ref f) = true) (hb : KBinds X.K fd ps ks g gV) (hx : Passes CX X E)
    (hkw : PK X kws tk) (hall : (backToKw pos (keywordEach kws X.env)).all (·.1.isSome) = true := by rfl) (hks : (backToKw pos (keywordEach kws X.env)).filterMap (·.1) = ks := by rfl)
    (hdb : (x == ("__debug__" : Str)) = false := by decide) (hpl : ((backTo pos (starEach [] X.env)).any (·.1) || (backToKw pos (keywordEach kws X.env)).any (·.1.isNone)) = false := by rfl) :
    PE X (.Call (.Name x p) [] kws pos) (tCallK sp gV E tNil tk) := by
  refine ⟨fun pins s σ H Q I h => ?_⟩
  refine wpAny_Call_Name_kw (ld_glob I hg hm ?_ hdb)
  refine PySem.W.callWith_KW0 (h₀ := X.base) I.ok.mod.kin hk hall ?_ hpl
  refine thn (hkw.run pos pins s σ H _ I h) fun ws s2 ⟨zs, H2, I2, rz, q2⟩ => ⟨I2.kIn, ?_⟩
  rw [hks]
  exact run_fnk (us := []) F hr hb hx I2 .nil rz q2
end
end LC
namespace LC
open PySem L2
theorem cut_ints (ns : List Int) (lo hi : Option Int) : ∃ ms : List Int, cutV (ns.map V.int) lo hi = ms.map V.int ∧ ms.length ≤ ns.length := by
  refine ⟨(ns.drop (HT.sIx ns.length 0 lo)).take (HT.sIx ns.length ns.length hi - HT.sIx ns.length 0 lo), ?_, ?_⟩
  · unfold cutV
    rw [List.length_map, ← List.map_drop, ← List.map_take]
  · rw [List.length_take, List.length_drop]
    omega
theorem same_new {H : Hp} {p : Addr} {o : HO} (h : H p = none) : Same H (upd H p o) := fun b u e => by
  rw [upd_ne (ne_of_none e h)]
  exact e
theorem int_of {ns : List Int} {i : Nat} {y : V} (h : (ns.map V.int)[i]? = some y) : ∃ u, y = V.int u := by
  rw [List.getElem?_map] at h
  cases e : ns[i]? with
  | none =>
    rw [e] at h
    cases h
  | some u =>
    rw [e] at h
    exact ⟨u, (Option.some.inj h).symm⟩
end LC

namespace LC
theorem fmod_nn (a : Int) {n : Int} (h : 0 < n) : 0 ≤ a.fmod n := by
  rw [Int.fmod_eq_emod_of_nonneg _ (Int.le_of_lt h)]
  exact Int.emod_nonneg _ (by omega)
theorem fmod_lt (a : Int) {n : Int} (h : 0 < n) : a.fmod n < n := by
  rw [Int.fmod_eq_emod_of_nonneg _ (Int.le_of_lt h)]
  exact Int.emod_lt_of_pos _ h
end LC

namespace LC
open PySem L2
/-- a value of any of the drawn kinds; C: the error's class -/
inductive Th (C g : Addr) (H : Hp) : V → Prop where
  | non : Th C g H .non
  | bl (b : Bool) : Th C g H (.bl b)
  | int (i : Int) : Th C g H (.int i)
  | str (z : Str) (h : z.length ≤ 1000000) : Th C g H (.str z)
  | lst {a : Addr} {xs : List V} (h : H a = some (.lst xs)) (n : a ≠ g) : Th C g H (.ref a)
  | tup {a : Addr} {xs : List V} (h : H a = some (.tup xs)) (n : a ≠ g) : Th C g H (.ref a)
  | dK {a : Addr} {kvs : List (Key × V)} (h : H a = some (.dK kvs)) (n : a ≠ g) : Th C g H (.ref a)
  | exo {a d : Addr} {fs : List (Str × V)} (h : H a = some (exo a C (some d))) (n : a ≠ g) (hd : H d = some (exd d fs)) (nd : d ≠ g) : Th C g H (.ref a)
theorem Th.kp {C g : Addr} {H H' : Hp} {v : V} (r : Kp g H H') (t : Th C g H v) : Th C g H' v := by
  cases t with
  | non => exact .non
  | bl b => exact .bl b
  | int i => exact .int i
  | str z h => exact .str z h
  | lst h n => exact .lst (r _ _ n h) n
  | tup h n => exact .tup (r _ _ n h) n
  | dK h n => exact .dK (r _ _ n h) n
  | exo h n hd nd => exact .exo (r _ _ n h) n (r _ _ nd hd) nd
theorem Th.list {C g l : Addr} {H0 H : Hp} {p : Addr} {xs : List V} (a : Ok g l H0 H) (h : H p = none) : Th C g (upd H p (.lst xs)) (.ref p) := .lst upd_same (a.bag.ne h).1
theorem Th.tupl {C g l : Addr} {H0 H : Hp} {p : Addr} {xs : List V} (a : Ok g l H0 H) (h : H p = none) : Th C g (upd H p (.tup xs)) (.ref p) := .tup upd_same (a.bag.ne h).1
theorem upd_kp {g l : Addr} {H0 H : Hp} {p : Addr} {o : HO} (a : Ok g l H0 H) (h : H p = none) : Kp g H (upd H p o) := (Ok.new (Ok.refl a.bag) h).kp
/-- a comprehension over a text whose element leaves the heap -/
theorem lc_text {z : Str} {j : Nat} {te : TE} {vs : List Nat} {σ : L2.St} {H1 : Hp} {D : Addr} {Qd : Hp → Prop} (f : Nat → V) (hD : H1 D = none) (hz : z.length ≤ 1000000) (hw : ∀ x, wipe ((wipe σ vs).set j (some x)) vs = wipe σ vs)
    (he : ∀ (c : Nat) (H : Hp) (Q : VK), c ∈ z.cps.toList → Q (f c) H → te ((wipe σ vs).set j (some (.str ⟨#[c]⟩))) H Q) (hd : Qd (upd H1 D (.lst (z.cps.toList.map f)))) :
    ∃ W : Nat → Nat → Hp → Prop, (∃ m, W 0 m (upd H1 D (.lst []))) ∧ ∀ i m H, W i m H →
      ((Its z).stop i H ∧ Qd H) ∨ ((Its z).go i H ∧ ∃ Nx : Hp → Prop, (∀ H', Nx H' → ∃ m', m' < m ∧ W (i + 1) m' H') ∧ ∀ x H', (Its z).yld i H x H' → gName j x (wipe σ vs) H' fun σ2 H2 => wipe σ2 vs = wipe σ vs ∧ tYes σ2 H2 fun b H3 =>
        if b = true then te σ2 H3 fun y H4 => ∃ acc, H4 D = some (.lst acc) ∧ acc.length < sizeLine ∧ Nx (upd H4 D (.lst (acc ++ [y]))) else Nx H3) := by
  have hn : z.cps.toList.length = z.cps.size := Array.length_toList
  refine lc_it (walk_str (z := z)) (fun i H => i ≤ z.cps.size ∧ H = upd H1 D (.lst ((z.cps.toList.take i).map f))) ⟨Nat.zero_le _, rfl⟩ (fun _ _ _ _ => trivial) ?_ ?_
  · rintro i x H H' hi ⟨_, rfl⟩ ⟨rfl, c, hc, rfl⟩
    refine ⟨hw _, ?_⟩
    have hc' : z.cps.toList[i]? = some c := by rw [Array.getElem?_toList]; exact hc
    refine he c _ _ (List.mem_of_getElem? hc') ?_
    refine ⟨_, upd_same, ?_, hi, ?_⟩
    · rw [List.length_map, List.length_take]
      have e1 : z.cps.size = z.length := rfl
      exact Nat.lt_of_le_of_lt (Nat.min_le_right _ _) (Nat.lt_of_le_of_lt (by rw [hn, e1]; exact hz) (by decide : 1000000 < sizeLine))
    · rw [upd_upd, List.take_add_one, hc', List.map_append]
      rfl
  · rintro H ⟨_, rfl⟩
    rw [← hn, List.take_length]
    exact hd
end LC
namespace LC
open PySem L2 PySem.Spec PyProof.Rows
/-- C(e, ..) as a value, C an own error class over ValueError with its own __init__, which keeps sp -/
def tMkV (C : Addr) (sp : Sp) (ta : TA) : TE := fun σ H Q => ta σ H fun vs H1 => vs.length ≤ 1000 ∧ ∀ a, H1 a = none → sp (.ref a :: vs) (upd H1 a (exo a C none)) (fun v H2 => v = .non ∧ Q (.ref a) H2) (fun _ _ _ => False)
section
variable {X : Cx} {e : Expr} {es : List Expr} {ta : TA} {p pos : Pos}
theorem pe_oexV {CX : CXT} {x : Str} {C fI : Addr} {k : Nat} {fd : FuncData} {ps : List Str} {sp : Sp} (T : OexC X.K C) (iC : PySem.W.findIn X.K (.ref C) "__init__" = some (some (.ref fI))) (tI : PySem.W.typeIn X.K (.ref fI) = some (.type "function"))
    (F1 : FnOk X.prog X.w X.K X.mg X.base CX k fI fd ps sp) (hr : Room (k + 1) X.A) (hb : Binds X.K fd ps []) (hx : Passes CX X (fun _ _ _ => False)) (hg : Gl X x) (hm : X.mg x = some (.ref C)) (ha : PA X (e :: es) ta)
    (hdb : (x == ("__debug__" : Str)) = false := by decide) (he : starEach (e :: es) X.env = (false, eval e X.env) :: starEach es X.env := by rfl) (hpl : (backTo pos (starEach es X.env)).any (·.1) = false := by rfl) :
    PE X (.Call (.Name x p) (e :: es) [] pos) (tMkV C sp ta) := by
  refine ⟨fun pins s σ H Q I h => ?_⟩
  obtain ⟨nm, q, N, bs, bm, sn, sub, ab, col, dd, k0, k1, k2, k3, k5, hC, hbm⟩ := T.cls
  refine wpAny_Call_Name_kw (ld_glob I hg hm ?_ hdb)
  refine PySem.W.callWith_K (h₀ := X.base) I.ok.mod.kin T.kC (thn (ha.run pos pins s σ H _ I h) fun us s1 ⟨vs, H1, I1, r1, hz, q1⟩ => ⟨I1.kIn, ?_⟩) he hpl
  show wpAny _ _ (call (.ref C) us) _ _ _
  obtain ⟨hp, g, dr, tk, os⟩ := s1
  have hsz : hp.objs.size ≤ hp.objs.size + 1 := Nat.le_succ _
  have hn : H1 (hp.objs.size + 1) = none := I1.hok.fresh hsz
  have hq := q1 (hp.objs.size + 1) hn
  have kk : ∀ b o, hp.get? b = some o → ((hp.push (PySem.W.kdv_tup us)).push (PySem.HandSPX.excO C hp.objs.size)).get? b = some o := fun b o e => Heap.get?_push_of_some _ (Heap.get?_push_of_some _ e)
  have hget : ((hp.push (PySem.W.kdv_tup us)).push (PySem.HandSPX.excO C hp.objs.size)).get? (hp.objs.size + 1) = some (PySem.HandSPX.excO C hp.objs.size) := by heap_get
  have I2 : L2.Inv X pins σ (upd H1 (hp.objs.size + 1) (exo (hp.objs.size + 1) C none)) ⟨(hp.push (PySem.W.kdv_tup us)).push (PySem.HandSPX.excO C hp.objs.size), g, dr, tk, os⟩ :=
    I1.laid (t' := tk) (a := hp.objs.size + 1) (o := exo (hp.objs.size + 1) C none) (h' := (hp.push (PySem.W.kdv_tup us)).push (PySem.HandSPX.excO C hp.objs.size)) kk hsz (exo_ok hget)
  have r2 : Vals (V.ref (hp.objs.size + 1) :: vs) (Value.ref (hp.objs.size + 1) :: us) := .cons rfl r1
  have hl : (Value.ref (hp.objs.size + 1) :: us ++ []).length = ps.length := by
    have e := r2.length
    rw [F1.len _ _ _ _ hq] at e
    rw [List.append_nil]
    exact e.symm
  have hus : us.length ≤ sizeLine := by
    rw [← Paired.length r1, sizeLine_eq]
    omega
  have hbb := hb _ (Value.ref (hp.objs.size + 1) :: us) I2.kIn hl
  rw [List.append_nil] at hbb
  refine wpAny_call (PySem.HandSPX.call_own F.excBase_ValueError (fun Y => PySem.HandSPX.refsVE_contains Y bm hbm) (I1.kIn _ _ hC) (PySem.W.looks_findIn I1.kIn iC) (fun self => PySem.W.bind_fn I1.kIn self tI) hus
    (codeAny_mono (F1.run _ X.stack _ _ ⟨Value.ref (hp.objs.size + 1) :: us, []⟩ (Value.ref (hp.objs.size + 1) :: us) _ _ (fun _ _ _ => False) (hr.make C us []) (I2.env0.make C us []) hbb r2 hq) fun r s' hq' => ?_))
  cases r with
  | error er => exact hx pins σ _ _ er s' I2 hq'
  | ok fl =>
    cases fl with
    | ret u =>
      obtain ⟨v, H2, os2, bare2, un2, hok2, rv, ev, q2⟩ := hq'
      subst ev
      exact ⟨rv, .ref (hp.objs.size + 1), H2, I2.call' (ch := []) os2 un2 hok2 bare2 (fun b hb => by cases hb), rfl, q2⟩
    | next => exact False.elim hq'
    | brk => exact False.elim hq'
    | cont => exact False.elim hq'
end
/-- what the written part says of an own error class, for isinstance -/
structure IsC (K : PySem.W.Frag) (C : Addr) : Prop where
  hcl : (PySem.W.clsIn K C).isSome = true
  hga : PySem.W.findIn K (.ref C) "__getattribute__" = some (some (.builtin "BaseException.__getattribute__"))
  hgt : PySem.W.findIn K (.ref C) "__getattr__" = some none
  hsub : PySem.W.subIn K (.ref C) (.type "BaseException") = some true
  ha : PySem.W.findIn K (.ref C) "__class__" = some (some (.builtin "object.__class__"))
  hn : PySem.W.specialIn K (.builtin "object.__class__") "__get__" = some (some (.builtin "getset_descriptor.__get__"))
  htk : PySem.W.takesIn K (.builtin "object.__class__") = some true
  hm : PySem.W.mroIn K C (.type "object") = some true
/-- isinstance(x, c), x an own error too -/
def rIsX (K : PySem.W.Frag) : List V → Hp → VK → Prop := fun xs H Q => rIsi K xs H Q ∨
  ∃ (a C d : Addr) (c : V) (cv : Value) (b : Bool) (fs : List (Str × V)), xs = [.ref a, c] ∧ IsC K C ∧ H a = some (exo a C (some d)) ∧ H d = some (exd d fs) ∧ ClsV c cv ∧ PySem.W.kitOne K (.ref C) cv = some b ∧ Q (.bl b) H
theorem call_isX {X : Cx} : CallR X (.builtin "isinstance") (rIsX X.K) := by
  intro pins s σ H xs us Q I r h
  rcases h with h | ⟨a, C, d, c, cv, b, fs, rfl, T, ha, hd, k, e, q⟩
  · exact call_isi pins s σ H xs us Q I r h
  · obtain ⟨u1, u2, rfl, r1, r2⟩ := vals2 r
    have e2 := k.eq r2
    subst e2
    obtain rfl : u1 = Value.ref a := r1
    obtain ⟨t1, ho⟩ := exo_at I.hok ha
    obtain ⟨od, hod⟩ : ∃ od, s.heap.get? d = some od := by
      obtain ⟨_, z, _⟩ := I.hok d _ hd
      exact z
    have J : PySem.W.InstAt s.heap a { cls := .ref C, dict := some d, data := .fields #[.ref t1, .none, .none, .none, .bool false, .none] } C (some od) := ⟨ho, rfl, rfl, hod⟩
    exact PySem.W.kia_one (PySem.W.kitx_exc T.hcl T.hga T.hgt T.hsub T.ha T.hn T.htk T.hm) I.kIn J e (fun z => nomatch z) fun tk => ⟨.bl b, H, I.tok tk, rfl, q⟩
end LC

namespace LC
open PySem L2
/-! the values of isinstance(x, int | bool | str) -/
def isI : V → Bool | .int _ => true | .bl _ => true | _ => false
def isB : V → Bool | .bl _ => true | _ => false
def isS : V → Bool | .str _ => true | _ => false
/-- what the error's class answers -/
structure NoB (K : PySem.W.Frag) (C : Addr) : Prop where
  is : IsC K C
  i : PySem.W.kitOne K (.ref C) (.type "int") = some false
  b : PySem.W.kitOne K (.ref C) (.type "bool") = some false
  s : PySem.W.kitOne K (.ref C) (.type "str") = some false
theorem isi_th {K : PySem.W.Frag} {C g : Addr} {H : Hp} {v : V} {Q : VK} (N : NoB K C) (t : Th C g H v) : (Q (.bl (isI v)) H → rIsX K [v, .ty "int"] H Q) ∧ (Q (.bl (isB v)) H → rIsX K [v, .ty "bool"] H Q) ∧ (Q (.bl (isS v)) H → rIsX K [v, .ty "str"] H Q) := by
  have go : ∀ {x : V} {T S : String} {b : Bool}, TyOf K H x (.type T) → kitB T S = some b → Q (.bl b) H → rIsX K [x, .ty S] H Q := fun ty e q => .inl ⟨_, _, _, _, _, rfl, .ty _, .base ty, kit_ty e, q⟩
  cases t with
  | non => exact ⟨go .non (show kitB "NoneType" "int" = some false by decide +kernel), go .non (show kitB "NoneType" "bool" = some false by decide +kernel), go .non (show kitB "NoneType" "str" = some false by decide +kernel)⟩
  | bl b => exact ⟨go (.bl b) (show kitB "bool" "int" = some true by decide +kernel), go (.bl b) (show kitB "bool" "bool" = some true by decide +kernel), go (.bl b) (show kitB "bool" "str" = some false by decide +kernel)⟩
  | int i => exact ⟨go (.int i) (show kitB "int" "int" = some true by decide +kernel), go (.int i) (show kitB "int" "bool" = some false by decide +kernel), go (.int i) (show kitB "int" "str" = some false by decide +kernel)⟩
  | str z h => exact ⟨go (.str z) (show kitB "str" "int" = some false by decide +kernel), go (.str z) (show kitB "str" "bool" = some false by decide +kernel), go (.str z) (show kitB "str" "str" = some true by decide +kernel)⟩
  | lst h n => exact ⟨go (.lst h) (show kitB "list" "int" = some false by decide +kernel), go (.lst h) (show kitB "list" "bool" = some false by decide +kernel), go (.lst h) (show kitB "list" "str" = some false by decide +kernel)⟩
  | tup h n => exact ⟨go (.tup h) (show kitB "tuple" "int" = some false by decide +kernel), go (.tup h) (show kitB "tuple" "bool" = some false by decide +kernel), go (.tup h) (show kitB "tuple" "str" = some false by decide +kernel)⟩
  | dK h n => exact ⟨go (.dK h) (show kitB "dict" "int" = some false by decide +kernel), go (.dK h) (show kitB "dict" "bool" = some false by decide +kernel), go (.dK h) (show kitB "dict" "str" = some false by decide +kernel)⟩
  | exo h n hd nd => exact ⟨fun q => .inr ⟨_, C, _, _, _, _, _, rfl, N.is, h, hd, .ty _, N.i, q⟩, fun q => .inr ⟨_, C, _, _, _, _, _, rfl, N.is, h, hd, .ty _, N.b, q⟩, fun q => .inr ⟨_, C, _, _, _, _, _, rfl, N.is, h, hd, .ty _, N.s, q⟩⟩
def isNum (v : V) (lo hi : Int) : Bool := match v with | .int i => decide (lo ≤ i) && decide (i ≤ hi) | _ => false
def chL (c : Nat) : Bool := decide (97 ≤ c) && decide (c ≤ 122)
def chD (c : Nat) : Bool := decide (48 ≤ c) && decide (c ≤ 57)
def isNam (v : V) : Bool := match v with | .str z => decide (1 ≤ z.length) && decide (z.length ≤ 8) && chL (z.cps.toList.getD 0 0) && z.cps.toList.all (fun c => chL c || chD c) | _ => false
theorem mem_low (c : Nat) : decide (c ∈ ("abcdefghijklmnopqrstuvwxyz" : Str).cps.toList) = chL c := by
  have e : ("abcdefghijklmnopqrstuvwxyz" : Str).cps.toList = List.range' 97 26 := by decide +kernel
  rw [e]
  unfold chL
  rw [← Bool.decide_and]
  refine decide_eq_decide.mpr ?_
  rw [List.mem_range'_1]
  omega
theorem mem_dig (c : Nat) : decide (c ∈ ("0123456789" : Str).cps.toList) = chD c := by
  have e : ("0123456789" : Str).cps.toList = List.range' 48 10 := by decide +kernel
  rw [e]
  unfold chD
  rw [← Bool.decide_and]
  refine decide_eq_decide.mpr ?_
  rw [List.mem_range'_1]
  omega
end LC
namespace LC
open PySem L2
theorem pe_ty {X : Cx} {x : Str} {pos : Pos} (n : String) (hg : Gl X x) (hm : X.mg x = none) (hv : bootBuiltins x = some (.type n)) (hn : x ≠ "__name__" := by decide) (hd : (x == ("__debug__" : Str)) = false := by decide) : PE X (.Name x pos) (tC (.ty n)) :=
  pe_bltn hg hm hv rfl hn hd
end LC
namespace LC
open PySem L2
theorem ite_nd {p : Prop} [Decidable p] {A B : Prop} (h1 : ¬ p → A) (h2 : p → B) : if (!decide p) = true then A else B := by
  by_cases h : p
  · rw [decide_eq_true h]
    exact iteF (h2 h)
  · rw [decide_eq_false h]
    exact iteT (h1 h)
theorem ite_nb {c : Bool} {A B : Prop} (h1 : c = false → A) (h2 : c = true → B) : if (!c) = true then A else B := by
  cases c with
  | true => exact iteF (h2 rfl)
  | false => exact iteT (h1 rfl)
theorem ite_is {a b : Bool} {A B : Prop} (e : a = b) (h1 : b = true → A) (h2 : b = false → B) : if a = true then A else B := by
  subst e
  exact ite_b h1 h2
theorem Ok.same {g l : Addr} {H0 H H' : Hp} (a : Ok g l H0 H) (s : Same H H') : Ok g l H0 H' := by
  refine ⟨a.b0, fun b o n e => s _ _ (a.kp b o n e), ?_⟩
  obtain ⟨ns, i, d, t, c, h1, h2, h3, r⟩ := a.bag
  exact ⟨ns, i, d, t, c, s _ _ h1, h2, s _ _ h3, r⟩
theorem Th.same {C g : Addr} {H H' : Hp} {v : V} (t : Th C g H v) (s : Same H H') : Th C g H' v := t.kp fun b o _ e => s b o e
theorem len1 {z : Str} (h : 1 ≤ z.length) : ∃ c, z.cps.toList[0]? = some c ∧ z.cps.toList.getD 0 0 = c := by
  have e : z.cps.toList.length = z.length := rfl
  have h0 : 0 < z.cps.toList.length := by omega
  refine ⟨z.cps.toList[0], List.getElem?_eq_getElem h0, ?_⟩
  rw [List.getD_eq_getElem?_getD, List.getElem?_eq_getElem h0]
  rfl
theorem sz_str {z : Str} (h : z.length ≤ 1000000) : z.length ≤ sizeLine := Nat.le_trans h (by decide)
theorem bls_map {α : Type} (l : List α) (f : α → Bool) : (l.map fun c => V.bl (f c)) = (l.map f).map V.bl := by
  rw [List.map_map]
  rfl
theorem all_id {α : Type} (l : List α) (f : α → Bool) : (l.map f).all id = l.all f := by
  rw [List.all_map]
  rfl
theorem isNam_str (z : Str) : isNam (.str z) = (decide (1 ≤ z.length) && decide (z.length ≤ 8) && chL (z.cps.toList.getD 0 0) && z.cps.toList.all (fun c => chL c || chD c)) := rfl
end LC
namespace LC
open PySem L2
theorem pe_gstr {X : Cx} {x z : Str} {t : Tok} {pos : Pos} (hg : Gl X x) (hm : X.mg x = some (.str z t)) (hd : (x == ("__debug__" : Str)) = false := by decide) : PE X (.Name x pos) (tC (.str z)) := pe_glob hg hm ⟨_, rfl⟩ hd
theorem pe_gint {X : Cx} {x : Str} {z : Int} {t : Tok} {pos : Pos} (hg : Gl X x) (hm : X.mg x = some (.int z t)) (hd : (x == ("__debug__" : Str)) = false := by decide) : PE X (.Name x pos) (tC (.int z)) := pe_glob hg hm ⟨_, rfl⟩ hd
end LC

namespace LC
open PySem L2
/-- ord('a') <= ord(sign) <= ord('z') as an element -/
theorem ord_in {a b : Str} {c i lo hi : Nat} {σ : L2.St} {H : Hp} {Q : VK} {f : Nat → Bool} (h1 : a.length = 1 ∧ a.cps.getD 0 0 = lo) (h2 : b.length = 1 ∧ b.cps.getD 0 0 = hi) (hf : f c = (decide (lo ≤ c) && decide (c ≤ hi))) (hs : σ[i]? = some (some (.str ⟨#[c]⟩))) (q : Q (.bl (f c)) H) :
    tChain (rI0 fun i j => .bl (decide (i ≤ j))) (rI0 fun i j => .bl (decide (i ≤ j))) (tCB (fun xs H Q => ∃ x, xs = [.str x] ∧ x.length = 1 ∧ Q (.int (x.cps.getD 0 0 : Nat)) H) (tCons (tC (.str a)) tNil))
      (tCB (fun xs H Q => ∃ x, xs = [.str x] ∧ x.length = 1 ∧ Q (.int (x.cps.getD 0 0 : Nat)) H) (tCons (tVar i) tNil)) (tCB (fun xs H Q => ∃ x, xs = [.str x] ∧ x.length = 1 ∧ Q (.int (x.cps.getD 0 0 : Nat)) H) (tCons (tC (.str b)) tNil)) σ H Q := by
  refine ⟨a, rfl, h1.1, _, hs, _, rfl, rfl, _, _, rfl, rfl, _, rfl, ?_⟩
  rw [h1.2]
  refine ite_d (fun e1 => ?_) (fun e1 => ?_)
  · refine ⟨b, rfl, h2.1, _, _, rfl, rfl, ?_⟩
    rw [h2.2]
    have e : f c = decide ((c : Int) ≤ (hi : Int)) := by
      rw [hf, decide_eq_true (show lo ≤ c by exact Int.ofNat_le.mp e1), Bool.true_and]
      exact decide_eq_decide.mpr Int.ofNat_le.symm
    rw [e] at q
    exact q
  · have e : f c = false := by
      rw [hf, decide_eq_false (show ¬ lo ≤ c from fun z => e1 (Int.ofNat_le.mpr z)), Bool.false_and]
    rw [e] at q
    exact q
end LC
namespace LC
open PySem L2
/-- a comprehension over range(n) whose element draws: the list's items all in F -/
theorem lc_draws {n : Nat} {j : Nat} {te : TE} {vs : List Nat} {σ : L2.St} {g l : Addr} {H0 H1 : Hp} {D : Addr} {Qd : Hp → Prop} (F : Hp → V → Prop) (R : Ok g l H0 H1) (hD : H1 D = none) (hn : n ≤ 1000000)
    (hw : ∀ x, wipe ((wipe σ vs).set j (some x)) vs = wipe σ vs) (hF : ∀ x H H', F H x → Kp g H H' → F H' x) (hG : ∀ x H xs ys, H D = some (.lst xs) → F H x → F (upd H D (.lst ys)) x)
    (he : ∀ (i : Nat) (H : Hp) (Q : VK), i < n → Ok g l H0 H → (∀ x H', F H' x → Ok g l H H' → Q x H') → te ((wipe σ vs).set j (some (.int (0 + (i : Int))))) H Q)
    (hd : ∀ H xs, Ok g l H0 H → Kp g H1 H → H D = some (.lst xs) → xs.length = n → (∀ x ∈ xs, F H x) → Qd H) :
    ∃ W : Nat → Nat → Hp → Prop, (∃ m, W 0 m (upd H1 D (.lst []))) ∧ ∀ i m H, W i m H →
      ((Itr 0 n).stop i H ∧ Qd H) ∨ ((Itr 0 n).go i H ∧ ∃ Nx : Hp → Prop, (∀ H', Nx H' → ∃ m', m' < m ∧ W (i + 1) m' H') ∧ ∀ x H', (Itr 0 n).yld i H x H' → gName j x (wipe σ vs) H' fun σ2 H2 => wipe σ2 vs = wipe σ vs ∧ tYes σ2 H2 fun b H3 =>
        if b = true then te σ2 H3 fun y H4 => ∃ acc, H4 D = some (.lst acc) ∧ acc.length < sizeLine ∧ Nx (upd H4 D (.lst (acc ++ [y]))) else Nx H3) := by
  have nD := R.bag.ne hD
  refine lc_it walk_range (fun i H => i ≤ n ∧ Ok g l H1 H ∧ ∃ xs, H D = some (.lst xs) ∧ xs.length = i ∧ ∀ x ∈ xs, F H x) ⟨Nat.zero_le _, Ok.new (Ok.refl R.bag) hD, [], upd_same, rfl, fun x hx => by cases hx⟩ (fun _ _ _ _ => trivial) ?_ ?_
  · rintro i x H H' hi ⟨_, r, xs, h1, h2, h3⟩ ⟨rfl, rfl⟩
    refine ⟨hw _, ?_⟩
    refine he i _ _ hi (R.trans r) fun x H2 fx r2 => ?_
    have h4 := r2.kp D _ nD.1 h1
    refine ⟨xs, h4, Nat.lt_of_lt_of_le (by omega : xs.length < 1000000 + 1) (by decide), hi, (r.trans r2).mut hD, xs ++ [x], upd_same, by rw [List.length_append, h2]; rfl, fun y hy => ?_⟩
    refine hG y H2 xs _ h4 ?_
    rcases List.mem_append.mp hy with hy | hy
    · exact hF y _ _ (h3 y hy) r2.kp
    · rw [List.mem_singleton] at hy
      rw [hy]
      exact fx
  · rintro H ⟨_, r, xs, h1, h2, h3⟩
    exact hd H xs (R.trans r) r.kp h1 h2 h3
end LC

namespace LC
open PySem L2
theorem Th.lstmut {C g : Addr} {H : Hp} {D : Addr} {v : V} {xs ys : List V} (h : H D = some (.lst xs)) (t : Th C g H v) : Th C g (upd H D (.lst ys)) v := by
  cases t with
  | non => exact .non
  | bl b => exact .bl b
  | int i => exact .int i
  | str z h => exact .str z h
  | @lst a xs' h' n =>
    by_cases e : a = D
    · subst e
      exact .lst upd_same n
    · exact .lst (by rw [upd_ne e]; exact h') n
  | tup h' n => exact .tup (by rw [upd_ne (ne_of h' h (by intro z; cases z))]; exact h') n
  | dK h' n => exact .dK (by rw [upd_ne (ne_of h' h (by intro z; cases z))]; exact h') n
  | exo h' n hd nd => exact .exo (by rw [upd_ne (ne_of h' h (by intro z; cases z))]; exact h') n (by rw [upd_ne (ne_of hd h (by intro z; cases z))]; exact hd) nd
end LC

namespace LC
open PySem L2
theorem Th.dKmut {C g : Addr} {H : Hp} {D : Addr} {v : V} {xs ys : List (Key × V)} (h : H D = some (.dK xs)) (t : Th C g H v) : Th C g (upd H D (.dK ys)) v := by
  cases t with
  | non => exact .non
  | bl b => exact .bl b
  | int i => exact .int i
  | str z h => exact .str z h
  | @dK a xs' h' n =>
    by_cases e : a = D
    · subst e
      exact .dK upd_same n
    · exact .dK (by rw [upd_ne e]; exact h') n
  | tup h' n => exact .tup (by rw [upd_ne (ne_of h' h (by intro z; cases z))]; exact h') n
  | lst h' n => exact .lst (by rw [upd_ne (ne_of h' h (by intro z; cases z))]; exact h') n
  | exo h' n hd nd => exact .exo (by rw [upd_ne (ne_of h' h (by intro z; cases z))]; exact h') n (by rw [upd_ne (ne_of hd h (by intro z; cases z))]; exact hd) nd
theorem Th.upd {C g l : Addr} {H0 H : Hp} {p : Addr} {o : HO} {v : V} (a : Ok g l H0 H) (h : H p = none) (t : Th C g H v) : Th C g (L2.upd H p o) v := t.kp (upd_kp a h)
theorem Th.dict {C g l : Addr} {H0 H : Hp} {p : Addr} {xs : List (Key × V)} (a : Ok g l H0 H) (h : H p = none) : Th C g (L2.upd H p (.dK xs)) (.ref p) := .dK upd_same (a.bag.ne h).1
end LC

namespace LC
open PySem L2
/-- a dict stands at p -/
def Dd (g : Addr) (H : Hp) (p : Addr) : Prop := p ≠ g ∧ ∃ kvs, H p = some (.dK kvs)
theorem Dd.new {g : Addr} {H : Hp} {p q : Addr} {o : HO} (d : Dd g H p) (h : H q = none) : Dd g (L2.upd H q o) p := by
  obtain ⟨n, kvs, e⟩ := d
  exact ⟨n, kvs, by rw [upd_ne (ne_of_none e h)]; exact e⟩
theorem Dd.dict {g : Addr} {H : Hp} {p q : Addr} {kvs : List (Key × V)} (d : Dd g H p) : Dd g (L2.upd H q (.dK kvs)) p := by
  obtain ⟨n, ks, e⟩ := d
  by_cases h : p = q
  · subst h
    exact ⟨n, kvs, upd_same⟩
  · exact ⟨n, ks, by rw [upd_ne h]; exact e⟩
theorem Dd.mk' {g l : Addr} {H0 H : Hp} {p : Addr} {kvs : List (Key × V)} (a : Ok g l H0 H) (h : H p = none) : Dd g (L2.upd H p (.dK kvs)) p := ⟨(a.bag.ne h).1, kvs, upd_same⟩
theorem Dd.th {C g : Addr} {H : Hp} {p : Addr} (d : Dd g H p) : Th C g H (.ref p) := by
  obtain ⟨n, kvs, e⟩ := d
  exact .dK e n
end LC
namespace LC
open PySem L2
theorem strs_of (z : Str) : ∀ xs : List V, (∀ x ∈ xs, ∃ c ∈ z.cps.toList, x = V.str ⟨#[c]⟩) → ∃ ys : List Str, xs = ys.map V.str ∧ (∀ y ∈ ys, y.length = 1) ∧ ys.length = xs.length
  | [], _ => ⟨[], rfl, (fun y hy => by cases hy), rfl⟩
  | x :: r, h => by
    obtain ⟨ys, e, h1, h2⟩ := strs_of z r fun y hy => h y (List.mem_cons_of_mem _ hy)
    obtain ⟨c, _, rfl⟩ := h x (List.mem_cons_self ..)
    refine ⟨⟨#[c]⟩ :: ys, by rw [e]; rfl, fun y hy => ?_, by rw [List.length_cons, h2]; rfl⟩
    rcases List.mem_cons.mp hy with rfl | hy
    · rfl
    · exact h1 y hy
theorem sum_ones : ∀ ys : List Str, (∀ y ∈ ys, y.length = 1) → (ys.map (·.length)).sum = ys.length
  | [], _ => rfl
  | y :: r, h => by
    have e := sum_ones r fun z hz => h z (List.mem_cons_of_mem _ hz)
    show (y.length :: r.map (·.length)).sum = r.length + 1
    rw [List.sum_cons, e, h y (List.mem_cons_self ..)]
    omega
theorem cutS_le (z : Str) (lo hi : Option Int) : (cutS z lo hi).length ≤ z.length := by
  show (cutS z lo hi).cps.size ≤ z.cps.size
  unfold cutS
  rw [List.size_toArray, List.length_take, List.length_drop, Array.length_toList]
  omega
end LC

namespace LC
open PySem L2
theorem kp_of {g : Addr} {H1 H2 : Hp} {a : Addr} {o : HO} (ha : H1 a = none) (k : ∀ b u, b ≠ a → L2.upd H1 a o b = some u → H2 b = some u) : Kp g H1 H2 := fun b u _ e => k b u (ne_of_none e ha) (by rw [upd_ne (ne_of_none e ha)]; exact e)
theorem log_small {i : Int} (h0 : -1000000 ≤ i) (h1 : i ≤ 1000000) : i.natAbs.log2 < 1920 := Nat.lt_trans (PySem.Flt.log2_lt_of (k := 20) (by decide) (Nat.lt_of_le_of_lt (show i.natAbs ≤ 1000000 by omega) (by decide))) (by decide)
end LC

namespace LC
theorem ite_same {c : Prop} [Decidable c] {A B C : Prop} (h : C) (h1 : C → A) (h2 : C → B) : if c then A else B := by
  by_cases q : c
  · rw [if_pos q]
    exact h1 h
  · rw [if_neg q]
    exact h2 h
theorem ite_nbeq {b : Bool} {A B : Prop} (h : B) : if (!(b == b)) = true then A else B := by
  rw [beq_self_eq_true]
  exact L2.iteF h
end LC

namespace LC
open PySem L2
theorem kit_sub {K : PySem.W.Frag} {C : Addr} {T : String} {b : Bool} (m : PySem.W.kitMeta T = true) (h : PySem.W.subIn K (.ref C) (.type T) = some b) : PySem.W.kitOne K (.ref C) (.type T) = some b := by
  have e : ((Value.ref C : Value) == Value.type T) = false := rfl
  unfold PySem.W.kitOne
  rw [e, if_neg Bool.false_ne_true]
  show (if PySem.W.kitMeta T = true then PySem.W.subIn K (.ref C) (.type T) else none) = some b
  rw [m, if_pos rfl]
  exact h
theorem cls_some {K : PySem.W.Frag} {C : Addr} {nm q : Str} {N : Addr} {bs bm : List Value} {sn : List Str} {sub : List Value} {ab : Bool} {col : Option Bool} {dd : Option Addr} {k0 k1 k2 k3 k5 : Option Value} {nw : String} (h : K.lookup C = some (excClassObj nm q C N bs bm true sn sub ab col dd k0 k1 k2 k3 k5 nw)) : (PySem.W.clsIn K C).isSome = true := by
  unfold PySem.W.clsIn
  rw [h] <;> rfl
theorem refs_ve (S : Addr) : PySem.HandSPX.refsVE [.ref S, .type "ValueError", .type "Exception", .type "BaseException", .type "object"] = true := by
  show PySem.HandSPX.refsVE [.type "ValueError", .type "Exception", .type "BaseException", .type "object"] = true
  decide +kernel
end LC

namespace LS
open PySem L2 NdefX
/-! ### bodies that say super(): run at their own code -/
structure PSAt (X : Cx) (c : Code) (st : Stmt) (t : TS) : Prop where
  run : ∀ (pins : List (Addr × Obj)) (s : Shared) (σ : L2.St) (H : Hp) (D : Ends), Inv X pins σ H s → t D σ H → PySem.wpAt (model X.prog X.w) X.A c (exec st X.env) (SP X pins D) X.xe s
structure PSsAt (X : Cx) (c : Code) (ss : List Stmt) (t : TS) : Prop where
  run : ∀ (pins : List (Addr × Obj)) (s : Shared) (σ : L2.St) (H : Hp) (D : Ends), Inv X pins σ H s → t D σ H → PySem.wpAt (model X.prog X.w) X.A c (execs ss X.env) (SP X pins D) X.xe s
section
variable {X : Cx} {c : Code} {st : Stmt} {rest : List Stmt} {t u : TS}
theorem psa (h : PS X st t) : PSAt X c st t := ⟨fun pins s σ H D I q => PySem.wpAt_of_wpAny (h.run pins s σ H D I q)⟩
theorem pssa (h : PSs X rest t) : PSsAt X c rest t := ⟨fun pins s σ H D I q => PySem.wpAt_of_wpAny (h.run pins s σ H D I q)⟩
theorem pssa_cons (h1 : PSAt X c st t) (h2 : PSsAt X c rest u) : PSsAt X c (st :: rest) (tSeq t u) := by
  refine ⟨fun pins s σ H D I h => ?_⟩
  refine ks_wpAt_execs_cons (PySem.wpAt_mono (h1.run pins s σ H { D with nx := u D } I h) (fun f s1 q => ?_) fun _ _ x => x)
  cases f with
  | next =>
    obtain ⟨σ', H', I', q⟩ := q
    exact h2.run pins s1 σ' H' D I' q
  | ret v => exact q
  | brk => exact q
  | cont => exact q
end
/-- what the written part says of the method f of the class D, which says super(): its def, its code, the cell of its class; the base's method f2 -/
structure SupF (P : Program) (K : PySem.W.Frag) (F : NF) (f D f2 : Addr) (m : Str) : Prop where
  fn : ∃ (oc : Value) (od : Option Addr) (doc pm ct : Value) (osl : Array (Option Value)), K.lookup f = some ⟨oc, od, .func (F.fd doc pm ct), osl⟩
  cd : PySem.W.codeIn K (.ref F.c) F.qual = true
  code : ∃ (oc : Value) (od : Option Addr) (vs : Array Value) (sl : Array (Option Value)) (file : Str) (tf : Tok), K.lookup F.c = some ⟨oc, od, .fields vs, sl⟩ ∧ vs[2]? = some (.str file tf) ∧ ((P.main.file : Str) == file) = true
  cell : ∃ (cc : Addr) (oc : Value) (od : Option Addr) (sl : Array (Option Value)), F.cl = [(("__class__" : Str), cc)] ∧ K.lookup cc = some ⟨oc, od, .cell (some (.ref D)), sl⟩
  cls : ∃ cd, PySem.W.clsIn K D = some cd
  sub : PySem.W.mroIn K D (.ref D) = some true
  sup : PySem.W.ks_superIn K D D m = some (some (.ref f2))
  ty : PySem.W.typeIn K (.ref f2) = some (.type "function")
  op : PySem.W.nsIn K cStatics "thirdparty.any" = some none
  fi : PySem.W.fnIn K f2 = true
  top : (P.main.scope.names.lookup ("super" : Str)).isSome = false
/-- super().m(e, ..): the base's method, its promise sp; self in slot 0 -/
def tSup (D f2 : Addr) (sp : Sp) (ta : TA) : TE := fun σ H Q => ∃ (x dx : Addr) (fs : List (Str × V)), σ[0]? = some (some (.ref x)) ∧ H x = some (.ins D dx fs) ∧
  ∀ q, H q = none → ta σ (upd H q (.met f2 x)) fun vs H1 => H1 q = some (.met f2 x) ∧ sp (.ref x :: vs) H1 Q E0
section
variable {X : Cx} {F : NF} {f D f2 : Addr} {m : Str} {sp : Sp} {k : Nat} {e : Expr} {es : List Expr} {ta : TA} {p0 p1 p2 pos pos' : Pos}
theorem sup_core (S : SupF X.prog X.K F f D f2 m) (hF : X.env.scope = F.scope ∧ X.env.func = some f ∧ X.env.code = .ref F.c ∧ X.env.cells = F.cl) (hmg : X.mg "super" = none) (hat : (m == ("__class__" : Str)) = false)
    (hks : F.scope.names.lookup ("super" : Str) = some .globalImplicit) (hkc : F.scope.names.lookup ("__class__" : Str) = some .free) (hka : F.scope.names.lookup ("self" : Str) = some .local) (hN : X.N[0]? = some ("self" : Str))
    (hp : ∃ ar, (F.params.posonlyargs ++ F.params.args).head? = some ar ∧ ar.arg = "self") {body : List Stmt} {whole : Sem Value} {Q : Value → Shared → Prop}
    {pins : List (Addr × Obj)} {s : Shared} {σ : L2.St} {H : Hp} {x dx : Addr} {fs : List (Str × V)} (I : Inv X pins σ H s) (hs : σ[0]? = some (some (.ref x))) (hx : H x = some (.ins D dx fs))
    (h : ∀ (so : Addr) (s' : Shared), Inv X pins σ H s' → s'.heap.get? so = some { cls := .type "super", dict := none, data := .fields #[.ref D, .ref x, .ref D], slots := #[] } → Q (.ref so) s') :
    PySem.wpAt (model X.prog X.w) X.A (.func body X.env) (attributeBase (.Call (.Name "super" p0) [] [] p1) m X.env whole) Q X.xe s := by
  obtain ⟨hsc, hfu, hco, hce⟩ := hF
  obtain ⟨oc, od, doc, pm, ct, osl, lf⟩ := S.fn
  obtain ⟨occ, occd, vs, ccs, file, tf, lc, hvs, hfile⟩ := S.code
  obtain ⟨cc, cl, cld, csl, ecl, lcell⟩ := S.cell
  obtain ⟨cdD, hD⟩ := S.cls
  obtain ⟨ar, ha1, ha2⟩ := hp
  have KX := I.kIn
  obtain ⟨oD, hD1, hD2⟩ : ∃ oD, s.heap.get? D = some oD ∧ oD.data = .cls cdD := by
    unfold PySem.W.clsIn at hD
    split at hD
    · rename_i c d cd' sl ho
      cases hD
      exact ⟨_, KX _ _ ho, rfl⟩
    · cases hD
  have kks : X.env.kindOf "super" = some .globalImplicit := by
    show X.env.scope.names.lookup ("super" : Str) = _
    rw [hsc]; exact hks
  have kkc : X.env.kindOf "__class__" = some .free := by
    show X.env.scope.names.lookup ("__class__" : Str) = _
    rw [hsc]; exact hkc
  have kka : X.env.kindOf "self" = some .local := by
    show X.env.scope.names.lookup ("self" : Str) = _
    rw [hsc]; exact hka
  obtain ⟨mb, b1, b2⟩ := I.mod.blt
  obtain ⟨mA, O, _, _, _, _⟩ := ins_get I.hok hx
  obtain ⟨odx, J, _⟩ := O.look
  obtain ⟨ml, hns, hl⟩ := I.loc
  have vself : ml "self" = some (.ref x) := by
    obtain ⟨u, ru, lk⟩ := hl 0 "self" (.ref x) hN hs (.inl (by rw [hsc]; exact hka))
    cases ru
    rcases lk with ⟨_, e1⟩ | ⟨z, _⟩
    · exact e1
    · rw [kka] at z
      rcases z with z | z <;> cases z
  refine ks_wpAt_super_base (env := X.env) kks kkc hat hfu (KX _ _ lf) rfl ha1 hco (KX _ _ lc) rfl hvs hfile S.top ?_
  refine PySem.W.ks_loadName_global I.ok.kind kks (Calls.loadGlobal_builtin (by rw [I.ok.glob]; exact I.mod.glob.keeps I.bk) hmg (by rw [I.ok.blt]; exact b1.keeps I.bk) ((b2 "super" (by decide +kernel)).trans (by decide +kernel : bootBuiltins "super" = some (.type "super"))) ⟨rfl, ?_⟩)
  refine wpAny_loadName_free I.ok.kind kkc (by rw [hce, ecl]; rfl) ⟨_, KX _ _ lcell, rfl⟩ ?_
  rw [ha2]
  refine wpAny_loadName_local I.ok.kind kka hns vself ?_
  refine ks_wpAny_isType_cls hD1 hD2 ⟨rfl, ?_⟩
  obtain ⟨hh, g, dr, t, os⟩ := s
  refine ks_wpAny_call_super hD1 hD2 J.at_ J.cls (fun c e => ?_) (PySem.W.looks_mroIn KX S.sub) (fun h' eso kk => ?_)
  · have z := J.no
    unfold PySem.W.notCls at z
    rw [e] at z
    exact Bool.noConfusion z
  exact h _ _ (I.kept (t' := t) kk) eso
theorem sup_facts (S : SupF X.prog X.K F f D f2 m) {pins : List (Addr × Obj)} {s : Shared} {σ : L2.St} {H : Hp} {x dx : Addr} {fs : List (Str × V)} (I : Inv X pins σ H s) (hx : H x = some (.ins D dx fs)) :
    PySem.W.Looks (model X.prog X.w) s.heap (opaqueClassAbove (.ref D)) none ∧ ∃ (l0 : List Value) (of : Obj), PySem.W.Looks (model X.prog X.w) s.heap (mroOf (.ref D)) l0 ∧ PySem.W.alongIn X.K m ((l0.dropWhile (· != .ref D)).drop 1) = some (some (.ref f2)) ∧ s.heap.get? f2 = some of ∧ of.cls = .type "function" ∧ x ≠ D := by
  obtain ⟨cdD, hD⟩ := S.cls
  have KX2 := I.kIn
  have hm := S.sup
  unfold PySem.W.ks_superIn at hm
  rw [hD] at hm
  obtain ⟨of, hof, hofc⟩ : ∃ of, s.heap.get? f2 = some of ∧ of.cls = .type "function" := by
    have ht' : (X.K.lookup f2).map (·.cls) = some (.type "function") := S.ty
    cases z : X.K.lookup f2 with
    | none => rw [z] at ht'; cases ht'
    | some of => rw [z] at ht'; exact ⟨of, KX2 _ _ z, Option.some.inj ht'⟩
  obtain ⟨mA, O, _, _, _, _⟩ := ins_get I.hok hx
  obtain ⟨odx, J, _⟩ := O.look
  exact ⟨PySem.W.looks_opaque KX2 S.op, cdD.mro, of, fun A Q E s k q => wpAny_bind ((PySem.W.looks_clsIn KX2 hD) A _ E s k (wpAny_pure q)), hm, hof, hofc, PySem.W.ks_ne KX2 J hD⟩
theorem sup_meth (S : SupF X.prog X.K F f D f2 m) (hat : (m == ("__class__" : Str)) = false) {pl : Sem Bool} {Q : Value × List Value → Shared → Prop}
    {pins : List (Addr × Obj)} {s : Shared} {σ : L2.St} {H : Hp} {x dx so : Addr} {fs : List (Str × V)} (I : Inv X pins σ H s) (hx : H x = some (.ins D dx fs))
    (eso : s.heap.get? so = some { cls := .type "super", dict := none, data := .fields #[.ref D, .ref x, .ref D], slots := #[] })
    (h : ∀ (q : Addr) (s' : Shared), H q = none → Inv X pins σ (upd H q (.met f2 x)) s' → Q (.ref q, []) s') : wpAny (model X.prog X.w) X.A (getMethod (.ref so) m pl) Q X.xe s := by
  obtain ⟨h1, l0, of, h2, hm, hof, hofc, hne⟩ := sup_facts S I hx
  have KX := I.kIn
  obtain ⟨h', g, dr, t, os⟩ := s
  refine ks_wpAny_getMethod_super eso h1 h2 rfl KX hm hof hofc hne hat ?_
  refine h h'.objs.size _ (I.hok.fresh (Nat.le_refl _)) ?_
  exact I.laid (t' := t + 1) (a := h'.objs.size) (o := .met f2 x) (fun b u z => Heap.get?_push_of_some _ z) (Nat.le_refl _)
    (show (h'.push (PySem.W.methodObj (.ref f2) (.ref x))).get? h'.objs.size = some (PySem.W.methodObj (.ref f2) (.ref x)) from Heap.get?_push_size h' rfl)
theorem getAttr_super {prog : Program} {w : World} {A : Around} {E : Value → Shared → Prop} {h : Heap} {g : Array GenState} {d : Drawn} {t : Nat} {os : OsState} {so D x C f : Addr} {of : Obj} {l₀ l : List Value} {K : PySem.W.Frag} {name : Str} {b : Bool} {Q : Value → Shared → Prop}
    (hso : h.get? so = some { cls := .type "super", dict := none, data := .fields #[.ref D, .ref x, .ref C], slots := #[] }) (hno : PySem.W.Looks (model prog w) h (opaqueClassAbove (.ref C)) none)
    (hC : PySem.W.Looks (model prog w) h (mroOf (.ref C)) l₀) (hl : (l₀.dropWhile (· != .ref D)).drop 1 = l) (X : K.In h)
    (hf : PySem.W.alongIn K name l = some (some (.ref f))) (hfo : h.get? f = some of) (hfc : of.cls = .type "function") (hxC : x ≠ C) (hn : (name == ("__class__" : Str)) = false)
    (hq : Q (.ref h.objs.size) ⟨h.push { cls := .type "method", data := .fields #[.ref f, .ref x] }, g, d, t + 1, os⟩) :
    wpAny (model prog w) A (getAttr (.ref so) name b) Q E ⟨h, g, d, t, os⟩ := by
  have hlk := F.ks_slot_super_ga.lookup
  have hT : ∀ t', (⟨h, g, d, t', os⟩ : Shared).TypeIs (.ref so) "super" := fun _ => ⟨_, hso, rfl⟩
  unfold getAttr getAttrBy
  refine wpAny_bind (wpAny_mkText (wpAny_holding (wpAny_bind (wpAny_typeOf (hT _) (wpAny_bind (wpAny_of_eq hlk ?_))))))
  show wpAny _ _ (getAttrByItsOwn (.ref so) (.str name t) (.type "super") (.builtin "super.__getattribute__") true b) _ _ _
  unfold getAttrByItsOwn hookBefore callGetattribute boundAndCalled
  refine wpAny_bind (wpAny_of_eq (show (if onTheHeap (.type "super") then typeLookup (.type "super") "__getattr__" else pure none) = pure none from rfl) ?_)
  refine wpAny_bind (wpAny_attempt (wpAny_holding ?_))
  have e0 : (b && onTheHeap (Value.builtin "super.__getattribute__")) = false := by cases b <;> rfl
  rw [e0, if_neg Bool.false_ne_true]
  refine wpAny_bind (wpAny_of_eq (F.ks_slot_super_ga.bind _) ?_)
  refine wpAny_mono (Q := fun v s' => v = .ref h.objs.size ∧ s' = ⟨h.push { cls := .type "method", data := .fields #[.ref f, .ref x] }, g, d, t + 1, os⟩) (E := fun _ _ => False)
    (wpAny_call_entry F.ks_slot_super_ga (hT _) F.ks_entry_super_ga (ks_wpAny_super_ga hso hno hC hl X hf hfo hfc hxC hn ⟨_, rfl, rfl, rfl⟩) (F.ks_gaArgs_super _ _)) (fun v s' hv => ?_) fun _ _ z => z.elim
  obtain ⟨rfl, rfl⟩ := hv
  exact wpAny_pure hq
/-- super().m(e, ..) as a statement -/
theorem ps_sup (S : SupF X.prog X.K F f D f2 m) (hF : X.env.scope = F.scope ∧ X.env.func = some f ∧ X.env.code = .ref F.c ∧ X.env.cells = F.cl) (hmg : X.mg "super" = none) (F2 : FnR X.prog X.w X.K X.mg X.base CX0 k f2 sp) (hr : Room k X.A) (ha : PA X (e :: es) ta)
    (hp : ∃ ar, (F.params.posonlyargs ++ F.params.args).head? = some ar ∧ ar.arg = "self") (hat : (m == ("__class__" : Str)) = false := by decide)
    (hks : F.scope.names.lookup ("super" : Str) = some .globalImplicit := by rfl) (hkc : F.scope.names.lookup ("__class__" : Str) = some .free := by rfl) (hka : F.scope.names.lookup ("self" : Str) = some .local := by rfl) (hN : X.N[0]? = some ("self" : Str) := by rfl)
    {pl : Sem Bool} (he : eval (.Call (.Attribute (.Call (.Name "super" p0) [] [] p1) m p2) (e :: es) [] pos) X.env = (do
      let ov ← attributeBase (.Call (.Name "super" p0) [] [] p1) m X.env (eval (.Call (.Name "super" p0) [] [] p1) X.env)
      standAt p2.atName
      let (f, first) ← holding [ov] (getMethod ov m pl)
      callWith pos f first (backTo pos (starEach (e :: es) X.env)) []) := by rfl)
    (hst : starEach (e :: es) X.env = (false, eval e X.env) :: starEach es X.env := by rfl) (hpl : (backTo pos (starEach es X.env)).any (·.1) = false := by rfl)
    (hsw : swapsWith (.Call (.Attribute (.Call (.Name "super" p0) [] [] p1) m p2) (e :: es) [] pos) none pos'.line X.env = pure false := by rfl) :
    PSAt X (.func F.body X.env) (.Expr (.Call (.Attribute (.Call (.Name "super" p0) [] [] p1) m p2) (e :: es) [] pos) pos') (tDrop (tSup D f2 sp ta)) := by
  refine ⟨fun pins s σ H Dn I h => ?_⟩
  obtain ⟨x, dx, fs, hs, hx, q⟩ := h
  refine ks_wpAt_Expr_any (ks_wpAt_MethodCall (pl := pl) (sup_core S hF hmg hat hks hkc hka hN hp I hs hx fun so s0 I0 eso => sup_meth S hat I0 hx eso fun q1 s1 hq1 I1 => ?_) he) I.quiet hsw
  refine callwith_met (a := x) (by rw [hst]; show ((false || (backTo pos (starEach es X.env)).any (·.1)) || false) = false; rw [hpl]; rfl) S.fi ?_
  have hrun := ha.run pos pins s1 σ _ _ I1 (q q1 hq1)
  rw [hst] at hrun ⊢
  refine Calls.evalArgs_plain (thn hrun fun us s2 ⟨vs, H2, I2, rv, hm2, q2⟩ => ?_)
  refine ⟨met_P I2 hm2, ?_⟩
  refine wpAny_call (PySem.W.method_call (met_P I2 hm2).1 (codeAny_mono (run_fnR (us := .ref x :: us) (vs := .ref x :: vs) F2 hr pass0 I2 (.cons rfl rv) q2) fun r s' hr' => ?_))
  cases r with
  | error e => exact hr'
  | ok fl =>
    cases fl with
    | ret u =>
      obtain ⟨v, H', I', _, q'⟩ := hr'
      exact ⟨σ, H', I', q'⟩
    | next => exact hr'
    | brk => exact hr'
    | cont => exact hr'
end
/-- super().m(*e), e a tuple or a list -/
def tSupS (K : PySem.W.Frag) (D f2 : Addr) (sp : Sp) (te : TE) : TE := fun σ H Q => ∃ (x dx : Addr) (fs : List (Str × V)), σ[0]? = some (some (.ref x)) ∧ H x = some (.ins D dx fs) ∧
  ∀ q, H q = none → te σ (upd H q (.met f2 x)) fun y H1 => ∃ b vs, y = .ref b ∧ (SqT K H1 b vs ∨ SqL K H1 b vs) ∧ H1 q = some (.met f2 x) ∧ sp (.ref x :: vs) H1 Q E0
section
variable {X : Cx} {F : NF} {f D f2 : Addr} {m : Str} {sp : Sp} {k : Nat} {e : Expr} {te : TE} {p p0 p1 p2 pos pos' : Pos}
theorem ps_supS (S : SupF X.prog X.K F f D f2 m) (hF : X.env.scope = F.scope ∧ X.env.func = some f ∧ X.env.code = .ref F.c ∧ X.env.cells = F.cl) (hmg : X.mg "super" = none) (F2 : FnR X.prog X.w X.K X.mg X.base CX0 k f2 sp) (hr : Room k X.A) (ha : PE X e te)
    (hp : ∃ ar, (F.params.posonlyargs ++ F.params.args).head? = some ar ∧ ar.arg = "self") (hat : (m == ("__class__" : Str)) = false := by decide)
    (hks : F.scope.names.lookup ("super" : Str) = some .globalImplicit := by rfl) (hkc : F.scope.names.lookup ("__class__" : Str) = some .free := by rfl) (hka : F.scope.names.lookup ("self" : Str) = some .local := by rfl) (hN : X.N[0]? = some ("self" : Str) := by rfl)
    (hsw : swapsWith (.Call (.Attribute (.Call (.Name "super" p0) [] [] p1) m p2) [.Starred e p] [] pos) none pos'.line X.env = pure false := by rfl) :
    PSAt X (.func F.body X.env) (.Expr (.Call (.Attribute (.Call (.Name "super" p0) [] [] p1) m p2) [.Starred e p] [] pos) pos') (tDrop (tSupS X.K D f2 sp te)) := by
  refine ⟨fun pins s σ H Dn I h => ?_⟩
  obtain ⟨x, dx, fs, hs, hx, q⟩ := h
  have hse : starEach [.Starred e p] X.env = [(true, eval e X.env)] := rfl
  have hke : backToKw pos (keywordEach [] X.env) = [] := rfl
  have hform : methodCallForm ([Expr.Starred e p].length + ([] : List Keyword).length) (backTo pos [(true, eval e X.env)]) [] = false := rfl
  have hpos : methodCallPos false (.Call (.Name "super" p0) [] [] p1) X.env p2 pos = pure pos := rfl
  have hcal : ∀ ov, calleeOf false (.Call (.Name "super" p0) [] [] p1) X.env ov m = (getAttr ov m true >>= fun v => pure (v, [])) := fun _ => rfl
  refine ks_wpAt_Expr_any ?_ I.quiet hsw
  rw [arm_eval_Call, hse, hke]
  refine PySem.wpAt_bind (sup_core S hF hmg hat hks hkc hka hN hp I hs hx fun so s0 I0 eso => ?_)
  refine PySem.wpAt_of_wpAny ?_
  refine wpAny_bind (wpAny_standAt ?_)
  unfold methodCall
  rw [hform, hpos, hcal]
  obtain ⟨h1, l0, of, h2, hm, hof, hofc, hne⟩ := sup_facts S I0 hx
  have KX := I0.kIn
  obtain ⟨h', g, dr, t, os⟩ := s0
  refine wpAny_bind (wpAny_holding (wpAny_bind (getAttr_super eso h1 h2 rfl KX hm hof hofc hne hat (wpAny_pure ?_))))
  have hq1 := I0.hok.fresh (Nat.le_refl _)
  have I1 : Inv X pins σ (upd H h'.objs.size (.met f2 x)) ⟨h'.push (PySem.W.methodObj (.ref f2) (.ref x)), g, dr, t + 1, os⟩ :=
    I0.laid (t' := t + 1) (a := h'.objs.size) (o := .met f2 x) (fun b u z => Heap.get?_push_of_some _ z) (Nat.le_refl _)
      (show (h'.push (PySem.W.methodObj (.ref f2) (.ref x))).get? h'.objs.size = some (PySem.W.methodObj (.ref f2) (.ref x)) from Heap.get?_push_size h' rfl)
  refine wpAny_bind (wpAny_pure ?_)
  refine PySem.W.ks_call (P := PySem.W.MethP X.K h'.objs.size f2 (.ref x)) rfl (PySem.W.keeps_M S.fi) (PySem.W.ks_lone ?_)
  refine thn (ha.run pins _ σ _ _ I1 (q _ hq1)) fun v s3 ⟨y, H2, I3, ry, b, vs, ey, ht, hm2, hsp⟩ => ?_
  subst ey
  obtain rfl : v = Value.ref b := ry
  refine StX.star_any I3 ht fun us s4 I4 rv => ⟨met_P I4 hm2, ?_⟩
  refine wpAny_call (PySem.W.method_call (met_P I4 hm2).1 (codeAny_mono (run_fnR (us := .ref x :: us) (vs := .ref x :: vs) F2 hr pass0 I4 (.cons rfl rv) hsp) fun r s' hr' => ?_))
  cases r with
  | error e => exact hr'
  | ok fl =>
    cases fl with
    | ret u =>
      obtain ⟨v, H', I', _, q'⟩ := hr'
      exact ⟨σ, H', I', q'⟩
    | next => exact hr'
    | brk => exact hr'
    | cont => exact hr'
end
section
variable {P : Program} {w : World} {K : PySem.W.Frag} {mg : Str → Option Value} {base : Heap} {F : NF} {f D f2 : Addr} {m : Str} {N ps : List Str} {sp : Sp} {k : Nat}
theorem cell_at (U : SupF P K F f D f2 m) {A : Around} {outer : List Env} {s : Shared} {H : Hp} (e0 : Env0 P w K mg base A outer s H) : CellsAt F.cl [("__class__" : Str)] [some (.ref D)] s.heap H := by
  obtain ⟨cc, oc, od, sl, ecl, lc⟩ := U.cell
  obtain ⟨h1, h2⟩ := e0.bs cc _ (e0.mod.kin _ _ lc)
  have one : ∀ y c, F.cl.lookup y = some c → y = ("__class__" : Str) ∧ c = cc := fun y c e => by
    rw [ecl] at e
    by_cases q : y = ("__class__" : Str)
    · subst q
      have z : ([(("__class__" : Str), cc)] : List (Str × Addr)).lookup ("__class__" : Str) = some cc := by simp [List.lookup]
      rw [z] at e
      exact ⟨rfl, (Option.some.inj e).symm⟩
    · have z : (y == ("__class__" : Str)) = false := by simpa using q
      simp [List.lookup, z] at e
  refine ⟨rfl, fun y c e => ?_, fun x y c e1 e2 => (one x c e1).1.trans (one y c e2).1.symm, fun i y hi => ?_⟩
  · obtain ⟨rfl, rfl⟩ := one y c e
    exact ⟨h2, _, _, h1, rfl⟩
  · match i, hi with
    | 0, hi =>
      cases hi
      refine ⟨cc, by rw [ecl]; simp [List.lookup], fun v hv => ?_⟩
      cases hv
      exact ⟨_, rfl, _, h1, rfl⟩
    | i + 1, hi => simp at hi
/-- THE RULE for a method that says super() -/
theorem fnS_of (S : NScope N ps ["__class__"] F.scope) (U : SupF P K F f D f2 m) {doc pm ct oc : Value} {od : Option Addr} {osl : Array (Option Value)} (lf : K.lookup f = some ⟨oc, od, .func (F.fd doc pm ct), osl⟩) (len : ∀ vs H Q E, sp vs H Q E → vs.length = ps.length)
    (hbody : ∀ (A : Around) (outer : List Env) (s : Shared) (H : Hp) (vs : List V) (Q : VK) (E : XK), Room k (A.deeper (envF F f s.heap.objs.size)) → sp vs H Q E →
      ∃ t, PSsAt (ncx CX0 P w K mg base N F f A outer s H E) (.func F.body (ncx CX0 P w K mg base N F f A outer s H E).env) F.body t ∧ t { nx := fun _ H' => Q .non H', rt := Q } (startF N vs [some (.ref D)]) H) :
    FnOk P w K mg base CX0 (k + 1) f (F.fd doc pm ct) ps sp := by
  refine ⟨len, fun A outer s H args us vs Q E hr e0 hb r hsp => ?_⟩
  have hl := len _ _ _ _ hsp
  have KX : K.In s.heap := e0.mod.kin.keeps fun b o e => (e0.bs b o e).1
  have lim : s.heap.NoLimit := e0.mod.nolimit.keeps fun b o e => (e0.bs b o e).1
  have hloc : ∀ x ∈ ps.zip us, F.scope.names.lookup x.1 = some .local := fun ⟨n, v⟩ hy => S.par n (List.of_mem_zip hy).1
  refine ks_codeAny_call_defAt (fd := F.fd doc pm ct) (body := F.body) (binds := ps.zip us) hr.depth (KX _ _ lf) rfl lim (PySem.W.codeRec_of KX U.cd) rfl hb S.nocell hloc (fun h₁ hns kp => ?_) S.co S.gen S.kind
  obtain ⟨t, ht, hq⟩ := hbody A outer s H vs Q E (hr.deeper _) hsp
  have I : Inv (ncx CX0 P w K mg base N F f A outer s H E) [] (startF N vs [some (.ref D)]) H { s with heap := h₁, toks := s.toks + (ps.zip us).length } := inv_startN S hr.hd e0 hl r (cell_at U e0) hns kp
  refine PySem.wpAt_mono (ht.run [] _ (startF N vs [some (.ref D)]) H _ I hq) (fun fl s' hs => ?_) fun e s' hs => hs
  have fin : ∀ {σ' : L2.St} {H' : Hp} {v : V} {u : Value}, Inv (ncx CX0 P w K mg base N F f A outer s H E) [] σ' H' s' → L2.RelV v u → Q v H' → CE outer P w H s Q u s' :=
    fun {σ' H' v u} J rv q => ⟨v, H', J.os, J.bare, J.base, J.hok, rv, q⟩
  cases fl with
  | ret u =>
    obtain ⟨v, σ', H', J, rv, q⟩ := hs
    exact fin J rv q
  | next =>
    obtain ⟨σ', H', J, q⟩ := hs
    exact fin (v := V.non) (u := Value.none) J rfl q
  | brk =>
    obtain ⟨_, _, _, q⟩ := hs
    exact False.elim q
  | cont =>
    obtain ⟨_, _, _, q⟩ := hs
    exact False.elim q
end
/-! ### calls whose class is known at the run alone -/
section
variable {X : Cx} {k : Nat} {fe e o : Expr} {es : List Expr} {tf ta : TE} {t : TA} {pos apos : Pos} {m : Str} {f : Addr} {sp : Sp}
def tCallD (X : Cx) (k : Nat) (tf : TE) (t : TA) : TE := fun σ H Q => tf σ H fun y H1 => ∃ a, y = V.ref a ∧ t σ H1 fun vs H2 => ∃ (C g : Addr) (sp : Sp), StX.CallO X.K C g ∧ FnR X.prog X.w X.K X.mg X.base CX0 k g sp ∧ (∃ dx fs, H2 a = some (.ins C dx fs)) ∧ sp (V.ref a :: vs) H2 Q E0
theorem pe_callD (hf : PE X fe tf) (hr : Room k X.A) (ha : PA X (e :: es) t)
    (ht : eval (.Call fe (e :: es) [] pos) X.env = (do callWith pos (← eval fe X.env) [] (backTo pos (starEach (e :: es) X.env)) (backToKw pos (keywordEach [] X.env))) := by rfl)
    (he : starEach (e :: es) X.env = (false, eval e X.env) :: starEach es X.env := by rfl) (hpl : (backTo pos (starEach es X.env)).any (·.1) = false := by rfl) : PE X (.Call fe (e :: es) [] pos) (tCallD X k tf t) := by
  refine ⟨fun pins s σ H Q I h => ?_⟩
  refine PyProof.Rows.Call_ (thn (hf.run pins s σ H _ I h) fun u s1 ⟨y, H1, I1, ry, a, ey, q⟩ => ?_) ht
  subst ey
  obtain rfl : u = Value.ref a := ry
  refine StX.callO_with (thn (ha.run pos pins s1 σ H1 _ I1 q) fun us s2 ⟨vs, H2, I2, r, C, g, sp, c, F, hi, q2⟩ => ?_) he hpl
  obtain ⟨ox, od, J, hd⟩ := StX.insC_at (X := X) I2 (.inr hi)
  exact ⟨⟨C, ox, od, J, hd⟩, StX.run_callO c F hr pass0 I2 (.inr hi) r q2⟩
def tMethD (K : PySem.W.Frag) (m : Str) (f : Addr) (sp : Sp) (ta : TE) (t : TA) : TE := fun σ H Q => ta σ H fun x H1 => ∃ a C dx fs, x = .ref a ∧ H1 a = some (.ins C dx fs) ∧ Cls K C ∧ Meth K C m f ∧ fs.lookup m = none ∧ t σ H1 fun vs H2 => sp (x :: vs) H2 Q E0
theorem pe_methD {pl : Sem Bool} (he : PE X o ta) (hk : PySem.W.keepIn X.K (.ref f) = true) (F : FnR X.prog X.w X.K X.mg X.base CX0 k f sp) (hr : Room k X.A) (ha : PA X (e :: es) t)
    (hst : starEach (e :: es) X.env = (false, eval e X.env) :: starEach es X.env := by rfl) (hpl : (backTo pos (starEach es X.env)).any (·.1) = false := by rfl)
    (ht : eval (.Call (.Attribute o m apos) (e :: es) [] pos) X.env = (do
      let ov ← eval o X.env
      standAt apos.atName
      let (f, first) ← holding [ov] (getMethod ov m pl)
      callWith pos f first (backTo pos (starEach (e :: es) X.env)) (backToKw pos (keywordEach [] X.env))) := by rfl) :
    PE X (.Call (.Attribute o m apos) (e :: es) [] pos) (tMethD X.K m f sp ta t) := by
  refine ⟨fun pins s σ H Q I h => ?_⟩
  refine PySem.W.methodCall_KW (pl := pl) (thn (he.run pins s σ H _ I h) fun u s1 ⟨x, H1, I1, rx, a, C, dx, fs, ex, ea, c, hm, l, q⟩ => ?_) ht
  subst ex
  obtain rfl : u = Value.ref a := rx
  refine getmeth_ok I1 ea c hm l ?_
  refine PySem.W.callWith_K (first := [.ref a]) (h₀ := X.base) I.ok.mod.kin hk (thn (ha.run pos pins s1 σ H1 _ I1 q) fun us s2 ⟨vs, H2, I2, r, q2⟩ => ⟨I2.kIn, ?_⟩) hst hpl
  exact wpAny_call (codeAny_mono (run_fnR (us := .ref a :: us) (vs := .ref a :: vs) F hr pass0 I2 (.cons rfl r) q2) fun r s' h => h)
theorem pe_methD0 {pl : Sem Bool} (he : PE X o ta) (hk : PySem.W.keepIn X.K (.ref f) = true) (F : FnR X.prog X.w X.K X.mg X.base CX0 k f sp) (hr : Room k X.A)
    (ht : eval (.Call (.Attribute o m apos) [] [] pos) X.env = (do
      let ov ← eval o X.env
      standAt apos.atName
      let (f, first) ← holding [ov] (getMethod ov m pl)
      callWith pos f first (backTo pos (starEach [] X.env)) (backToKw pos (keywordEach [] X.env))) := by rfl) :
    PE X (.Call (.Attribute o m apos) [] [] pos) (tMethD X.K m f sp ta tNil) := by
  refine ⟨fun pins s σ H Q I h => ?_⟩
  refine PySem.W.methodCall_KW (pl := pl) (thn (he.run pins s σ H _ I h) fun u s1 ⟨x, H1, I1, rx, a, C, dx, fs, ex, ea, c, hm, l, q⟩ => ?_) ht
  subst ex
  obtain rfl : u = Value.ref a := rx
  refine getmeth_ok I1 ea c hm l ?_
  refine PySem.W.callWith_K0 (first := [.ref a]) I1.kIn hk ?_
  exact wpAny_call (codeAny_mono (run_fnR (us := [.ref a]) (vs := [.ref a]) F hr pass0 I1 (.cons rfl .nil) q) fun r s' h => h)
/-- o.m(e, ..), m a field of the instance that holds an instance of a class that may be called -/
def tCallFD (X : Cx) (k : Nat) (m : Str) (to : TE) (t : TA) : TE := fun σ H Q => to σ H fun x H1 => ∃ (b D dx : Addr) (fs : List (Str × V)) (a : Addr), x = V.ref b ∧ H1 b = some (.ins D dx fs) ∧ Cls X.K D ∧ NoAttr X.K D m ∧ fs.lookup m = some (.ref a) ∧
  t σ H1 fun vs H2 => ∃ (C g : Addr) (sp : Sp), StX.CallO X.K C g ∧ FnR X.prog X.w X.K X.mg X.base CX0 k g sp ∧ (∃ dx fs, H2 a = some (.ins C dx fs)) ∧ sp (V.ref a :: vs) H2 Q E0
theorem pe_callFD {pl : Sem Bool} (ho : PE X o ta) (hr : Room k X.A) (ha : PA X (e :: es) t)
    (ht : eval (.Call (.Attribute o m apos) (e :: es) [] pos) X.env = (do
      let ov ← eval o X.env
      standAt apos.atName
      let (f, first) ← holding [ov] (getMethod ov m pl)
      callWith pos f first (backTo pos (starEach (e :: es) X.env)) (backToKw pos (keywordEach [] X.env))) := by rfl)
    (he : starEach (e :: es) X.env = (false, eval e X.env) :: starEach es X.env := by rfl) (hpl : (backTo pos (starEach es X.env)).any (·.1) = false := by rfl) : PE X (.Call (.Attribute o m apos) (e :: es) [] pos) (tCallFD X k m ta t) := by
  refine ⟨fun pins s σ H Q I h => ?_⟩
  refine PySem.W.methodCall_KW (pl := pl) (thn (ho.run pins s σ H _ I h) fun u s1 ⟨x, H1, I1, rx, b, D, dx, fs, a, ex, eb, c, n, l, q⟩ => ?_) ht
  subst ex
  obtain rfl : u = Value.ref b := rx
  refine getmeth_fld I1 eb c n l fun v s2 I2 rv => ?_
  obtain rfl : v = Value.ref a := rv
  refine StX.callO_with (thn (ha.run pos pins s2 σ H1 _ I2 q) fun us s3 ⟨vs, H2, I3, r, C, g, sp, c, F, hi, q2⟩ => ?_) he hpl
  obtain ⟨ox, od, J, hd⟩ := StX.insC_at (X := X) I3 (.inr hi)
  exact ⟨⟨C, ox, od, J, hd⟩, StX.run_callO c F hr pass0 I3 (.inr hi) r q2⟩
end
theorem cls_of {K : PySem.W.Frag} {C : Addr} {oc : Value} {od : Option Addr} {cd : ClassData} {sl : Array (Option Value)} (h : K.lookup C = some ⟨oc, od, .cls cd, sl⟩) : PySem.W.clsIn K C = some cd := by
  unfold PySem.W.clsIn
  rw [h]
theorem kit_own {K : PySem.W.Frag} {C R : Addr} {oc : Value} {od : Option Addr} {cd : ClassData} {sl : Array (Option Value)} (x : K.lookup R = some ⟨oc, od, .cls cd, sl⟩) (t : PySem.W.typeIn K (.ref R) = some (.type "type")) (h : PySem.W.subIn K (.ref C) (.ref R) = some true) : PySem.W.kitOne K (.ref C) (.ref R) = some true := by
  unfold PySem.W.kitOne
  by_cases q : ((Value.ref C : Value) == Value.ref R) = true
  · rw [if_pos q]
  · rw [if_neg q]
    show (if ((PySem.W.clsIn K R).isSome && PySem.W.typeIn K (.ref R) == some (.type "type")) = true then PySem.W.subIn K (.ref C) (.ref R) else none) = some true
    rw [cls_of x, t, if_pos (by simp)]
    exact h
theorem sup_of {K : PySem.W.Frag} {C R f : Addr} {oc oc2 : Value} {od od2 : Option Addr} {cd cd2 : ClassData} {sl sl2 : Array (Option Value)} {m : Str} (h : K.lookup C = some ⟨oc, od, .cls cd, sl⟩) (e : (cd.mro.dropWhile (· != .ref C)).drop 1 = cd2.mro) (h2 : K.lookup R = some ⟨oc2, od2, .cls cd2, sl2⟩)
    (hf : PySem.W.findIn K (.ref R) m = some (some (.ref f))) : PySem.W.ks_superIn K C C m = some (some (.ref f)) := by
  unfold PySem.W.ks_superIn
  rw [cls_of h]
  show PySem.W.alongIn K m ((cd.mro.dropWhile (· != .ref C)).drop 1) = _
  rw [e]
  have hf' : (match K.lookup R with | some ⟨_, _, .cls cd, _⟩ => PySem.W.alongIn K m cd.mro | _ => none) = some (some (.ref f)) := hf
  rw [h2] at hf'
  exact hf'
end LS

namespace RM
/-- the plan of a rest -/
inductive Pl where
  | win (w : Int)
  | days (bs : List Int) (e : Int)
  | lat (p q : Pl)
  | soo (p q : Pl)
  | nex (p q : Pl)
def lastOf (bs : List Int) : Int := bs.getLastD 0
def dayAt (bs : List Int) (e t : Int) : Int := match bs.find? (fun b => decide (b > t)) with
  | some b => b
  | none => lastOf bs + ((t - lastOf bs) / e + 1) * e
def Pl.at : Pl → Int → Int
  | .win w, t => t + w
  | .days bs e, t => dayAt bs e t
  | .lat p q, t => if q.at t > p.at t then q.at t else p.at t
  | .soo p q, t => if q.at t < p.at t then q.at t else p.at t
  | .nex p q, t => q.at (p.at t)
def Pl.leaves : Pl → Nat
  | .win _ => 1
  | .days _ _ => 1
  | .lat p q => p.leaves + q.leaves
  | .soo p q => p.leaves + q.leaves
  | .nex p q => p.leaves + q.leaves
def Pl.forms : Pl → Int
  | .win _ => 1
  | .days _ _ => 1
  | .lat p q => 1 + p.forms + q.forms
  | .soo p q => 1 + p.forms + q.forms
  | .nex p q => 1 + p.forms + q.forms
def lcmI (a b : Int) : Int := ((a.natAbs.lcm b.natAbs : Nat) : Int)
def Pl.per : Pl → Int
  | .win _ => 1
  | .days _ e => e
  | .lat p q => lcmI p.per q.per
  | .soo p q => lcmI p.per q.per
  | .nex p q => lcmI p.per q.per
def maxI (a b : Int) : Int := if b > a then b else a
def Pl.bend : Pl → Int
  | .win _ => 0
  | .days bs _ => lastOf bs
  | .lat p q => maxI p.bend q.bend
  | .soo p q => maxI p.bend q.bend
  | .nex p q => maxI p.bend q.bend
def Pl.h : Pl → Nat
  | .win _ => 0
  | .days _ _ => 0
  | .lat p q => 1 + max p.h q.h
  | .soo p q => 1 + max p.h q.h
  | .nex p q => 1 + max p.h q.h
/-- borders that rise from n on -/
def Asc : Int → List Int → Prop
  | _, [] => True
  | n, b :: r => n ≤ b ∧ b ≤ 1000 ∧ Asc (b + 1) r
def Pl.ok (L : Nat) : Pl → Prop
  | .win w => 1 ≤ w ∧ w ≤ 1000
  | .days bs e => 1 ≤ e ∧ e ≤ 2000 ∧ e.natAbs ∣ L ∧ bs.length ≤ 12 ∧ Asc 1 bs
  | .lat p q => p.ok L ∧ q.ok L
  | .soo p q => p.ok L ∧ q.ok L
  | .nex p q => p.ok L ∧ q.ok L
theorem Pl.leaves_pos : ∀ p : Pl, 1 ≤ p.leaves
  | .win _ => Nat.le_refl _
  | .days _ _ => Nat.le_refl _
  | .lat p q => Nat.le_trans p.leaves_pos (Nat.le_add_right _ _)
  | .soo p q => Nat.le_trans p.leaves_pos (Nat.le_add_right _ _)
  | .nex p q => Nat.le_trans p.leaves_pos (Nat.le_add_right _ _)
theorem Pl.h_lt : ∀ p : Pl, p.h + 1 ≤ p.leaves
  | .win _ => Nat.le_refl _
  | .days _ _ => Nat.le_refl _
  | .lat p q => by have := p.h_lt; have := q.h_lt; simp only [Pl.h, Pl.leaves]; omega
  | .soo p q => by have := p.h_lt; have := q.h_lt; simp only [Pl.h, Pl.leaves]; omega
  | .nex p q => by have := p.h_lt; have := q.h_lt; simp only [Pl.h, Pl.leaves]; omega
theorem Pl.forms_eq : ∀ p : Pl, p.forms = 2 * p.leaves - 1
  | .win _ => rfl
  | .days _ _ => rfl
  | .lat p q => by have := p.forms_eq; have := q.forms_eq; simp only [Pl.forms, Pl.leaves]; omega
  | .soo p q => by have := p.forms_eq; have := q.forms_eq; simp only [Pl.forms, Pl.leaves]; omega
  | .nex p q => by have := p.forms_eq; have := q.forms_eq; simp only [Pl.forms, Pl.leaves]; omega
theorem Pl.ok_mono {L M : Nat} (d : L ∣ M) : ∀ p : Pl, p.ok L → p.ok M
  | .win _, h => h
  | .days _ _, h => ⟨h.1, h.2.1, Nat.dvd_trans h.2.2.1 d, h.2.2.2⟩
  | .lat p q, h => ⟨p.ok_mono d h.1, q.ok_mono d h.2⟩
  | .soo p q, h => ⟨p.ok_mono d h.1, q.ok_mono d h.2⟩
  | .nex p q, h => ⟨p.ok_mono d h.1, q.ok_mono d h.2⟩
theorem lcmI_dvd {a b : Int} {L : Nat} (h1 : a.natAbs ∣ L) (h2 : b.natAbs ∣ L) : (lcmI a b).natAbs ∣ L := by
  unfold lcmI
  rw [Int.natAbs_natCast]
  exact Nat.lcm_dvd h1 h2
theorem lcmI_pos {a b : Int} (h1 : 0 < a) (h2 : 0 < b) : 0 < lcmI a b := by
  unfold lcmI
  have := Nat.lcm_pos (m := a.natAbs) (n := b.natAbs) (by omega) (by omega)
  omega
theorem Pl.per_ok {L : Nat} : ∀ p : Pl, p.ok L → p.per.natAbs ∣ L ∧ 0 < p.per
  | .win _, _ => ⟨Nat.one_dvd _, (show (0 : Int) < 1 by decide)⟩
  | .days _ e, h => ⟨h.2.2.1, by have := h.1; simp only [Pl.per]; omega⟩
  | .lat p q, h => ⟨lcmI_dvd (p.per_ok h.1).1 (q.per_ok h.2).1, lcmI_pos (p.per_ok h.1).2 (q.per_ok h.2).2⟩
  | .soo p q, h => ⟨lcmI_dvd (p.per_ok h.1).1 (q.per_ok h.2).1, lcmI_pos (p.per_ok h.1).2 (q.per_ok h.2).2⟩
  | .nex p q, h => ⟨lcmI_dvd (p.per_ok h.1).1 (q.per_ok h.2).1, lcmI_pos (p.per_ok h.1).2 (q.per_ok h.2).2⟩
theorem Pl.per_le {L : Nat} (p : Pl) (h : p.ok L) (h0 : 0 < L) (h1 : L ≤ 2000) : 1 ≤ p.per ∧ p.per ≤ 2000 := by
  obtain ⟨d, q⟩ := p.per_ok h
  have := Nat.le_of_dvd h0 d
  omega
theorem Asc.all : ∀ {n : Int} {bs : List Int}, Asc n bs → ∀ b ∈ bs, n ≤ b ∧ b ≤ 1000
  | _, [], _, b, hb => by cases hb
  | n, c :: r, h, b, hb => by
    rcases List.mem_cons.mp hb with rfl | hb
    · exact ⟨h.1, h.2.1⟩
    · have := Asc.all h.2.2 b hb
      have := h.1
      omega
theorem lastOf_nil : lastOf [] = 0 := rfl
theorem lastOf_mem : ∀ {bs : List Int}, bs ≠ [] → lastOf bs ∈ bs
  | [], h => absurd rfl h
  | [b], _ => List.mem_singleton.mpr rfl
  | b :: c :: r, _ => by
    have := lastOf_mem (bs := c :: r) (by simp)
    exact List.mem_cons_of_mem _ this
theorem Asc.last {n : Int} : ∀ {bs : List Int}, Asc n bs → ∀ b ∈ bs, b ≤ lastOf bs
  | [], _, b, hb => by cases hb
  | [c], _, b, hb => by
    rw [List.mem_singleton] at hb
    rw [hb]
    exact Int.le_refl _
  | c :: d :: r, h, b, hb => by
    have ih := Asc.last (bs := d :: r) h.2.2
    show b ≤ lastOf (d :: r)
    rcases List.mem_cons.mp hb with rfl | hb
    · have := ih d (by simp)
      have := h.2.2.1
      omega
    · exact ih b hb
theorem Asc.last_bd {bs : List Int} (h : Asc 1 bs) : 0 ≤ lastOf bs ∧ lastOf bs ≤ 1000 := by
  by_cases e : bs = []
  · subst e
    exact ⟨Int.le_refl _, by decide⟩
  · have := h.all _ (lastOf_mem e)
    omega
/-- the greatest of 0 and the borders -/
theorem Asc.max {bs : List Int} (h : Asc 1 bs) {m : Int} (hm : m ∈ 0 :: bs) (hu : ∀ y ∈ 0 :: bs, y ≤ m) : m = lastOf bs := by
  have l0 := h.last_bd
  rcases List.mem_cons.mp hm with rfl | hm
  · by_cases e : bs = []
    · subst e; rfl
    · have := h.all _ (lastOf_mem e)
      have := hu _ (List.mem_cons_of_mem _ (lastOf_mem e))
      omega
  · have e : bs ≠ [] := fun z => by rw [z] at hm; cases hm
    have := h.last m hm
    have := hu _ (List.mem_cons_of_mem _ (lastOf_mem e))
    omega
theorem dayAt_some {bs : List Int} {e t b : Int} (h : bs.find? (fun b => decide (b > t)) = some b) : dayAt bs e t = b := by unfold dayAt; rw [h]
theorem dayAt_none {bs : List Int} {e t : Int} (h : bs.find? (fun b => decide (b > t)) = none) : dayAt bs e t = lastOf bs + ((t - lastOf bs) / e + 1) * e := by unfold dayAt; rw [h]
theorem find_none {bs : List Int} {t : Int} (h : bs.find? (fun b => decide (b > t)) = none) : ∀ b ∈ bs, b ≤ t := by
  intro b hb
  have := List.find?_eq_none.mp h b hb
  simp at this
  exact this
theorem last_le {bs : List Int} {t : Int} (h0 : 0 ≤ t) (h : ∀ b ∈ bs, b ≤ t) : lastOf bs ≤ t := by
  by_cases e : bs = []
  · subst e; exact h0
  · exact h _ (lastOf_mem e)
theorem div_step (x e : Int) (he : 0 < e) : x < (x / e + 1) * e ∧ (x / e) * e ≤ x := by
  have h1 := Int.emod_nonneg x (by omega : e ≠ 0)
  have h2 := Int.emod_lt_of_pos x he
  have h3 := Int.mul_ediv_add_emod x e
  have h4 : (x / e + 1) * e = e * (x / e) + e := by rw [Int.add_mul, Int.one_mul, Int.mul_comm]
  have h5 : (x / e) * e = e * (x / e) := Int.mul_comm _ _
  omega
theorem dayAt_gt {bs : List Int} {e t : Int} (he : 0 < e) : t < dayAt bs e t := by
  cases q : bs.find? (fun b => decide (b > t)) with
  | some b =>
    rw [dayAt_some q]
    have := List.find?_some q
    simpa using this
  | none =>
    rw [dayAt_none q]
    have := (div_step (t - lastOf bs) e he).1
    omega
theorem dayAt_le {bs : List Int} {e t : Int} (he : 0 < e) (h1 : e ≤ 2000) (ha : Asc 1 bs) (h0 : 0 ≤ t) : dayAt bs e t ≤ t + 2000 := by
  cases q : bs.find? (fun b => decide (b > t)) with
  | some b =>
    rw [dayAt_some q]
    have := ha.all _ (List.mem_of_find?_eq_some q)
    omega
  | none =>
    rw [dayAt_none q]
    have := (div_step (t - lastOf bs) e he).2
    have h4 : ((t - lastOf bs) / e + 1) * e = (t - lastOf bs) / e * e + e := by rw [Int.add_mul, Int.one_mul]
    omega
theorem find_first {t t' : Int} (htt : t ≤ t') : ∀ {n : Int} {bs : List Int} {b b' : Int}, Asc n bs → bs.find? (fun b => decide (b > t)) = some b → bs.find? (fun b => decide (b > t')) = some b' → b ≤ b'
  | _, [], _, _, _, h, _ => by cases h
  | n, c :: r, b, b', ha, h, h' => by
    rw [List.find?_cons] at h h'
    by_cases q : c > t
    · rw [decide_eq_true q] at h
      cases h
      by_cases q' : c > t'
      · rw [decide_eq_true q'] at h'
        cases h'
        exact Int.le_refl _
      · rw [decide_eq_false q'] at h'
        have := ha.2.2.all _ (List.mem_of_find?_eq_some h')
        omega
    · rw [decide_eq_false q] at h
      rw [decide_eq_false (show ¬ c > t' by omega)] at h'
      exact find_first htt ha.2.2 h h'
theorem dayAt_mono {bs : List Int} {e t t' : Int} (he : 0 < e) (ha : Asc 1 bs) (htt : t ≤ t') : dayAt bs e t ≤ dayAt bs e t' := by
  cases q : bs.find? (fun b => decide (b > t)) with
  | some b =>
    rw [dayAt_some q]
    cases q' : bs.find? (fun b => decide (b > t')) with
    | some b' =>
      rw [dayAt_some q']
      exact find_first htt ha q q'
    | none =>
      have h1 := ha.last _ (List.mem_of_find?_eq_some q)
      have h2 := find_none q' _ (List.mem_of_find?_eq_some q)
      have := dayAt_gt (bs := bs) (t := t') he
      omega
  | none =>
    rw [dayAt_none q]
    have q2 : bs.find? (fun b => decide (b > t')) = none := by
      rw [List.find?_eq_none]
      intro b hb
      have := find_none q b hb
      simp
      omega
    rw [dayAt_none q2]
    have hd : (t - lastOf bs) / e ≤ (t' - lastOf bs) / e := Int.ediv_le_ediv he (by omega)
    have := Int.mul_le_mul_of_nonneg_right (show (t - lastOf bs) / e + 1 ≤ (t' - lastOf bs) / e + 1 by omega) (Int.le_of_lt he)
    omega
theorem dayAt_per {bs : List Int} {e t m : Int} (he : 0 < e) (ha : Asc 1 bs) (hb : lastOf bs ≤ t) (hm : 0 ≤ m) (hd : e ∣ m) : dayAt bs e (t + m) = dayAt bs e t + m := by
  have no : ∀ {u : Int}, lastOf bs ≤ u → bs.find? (fun b => decide (b > u)) = none := fun {u} hu => by
    rw [List.find?_eq_none]
    intro b hb
    have := ha.last b hb
    simp
    omega
  rw [dayAt_none (no hb), dayAt_none (no (show lastOf bs ≤ t + m by omega))]
  obtain ⟨c, rfl⟩ := hd
  have e1 : t + e * c - lastOf bs = (t - lastOf bs) + e * c := by omega
  rw [e1, Int.add_mul_ediv_left _ _ (by omega : e ≠ 0)]
  have e2 : ((t - lastOf bs) / e + c + 1) * e = ((t - lastOf bs) / e + 1) * e + e * c := by
    rw [Int.add_mul, Int.add_mul, Int.add_mul, Int.mul_comm c e]
    omega
  rw [e2]
  omega
theorem Pl.at_gt {L : Nat} : ∀ (p : Pl), p.ok L → ∀ t, t < p.at t
  | .win w, h, t => by have := h.1; simp only [Pl.at]; omega
  | .days bs e, h, t => dayAt_gt (by have := h.1; omega)
  | .lat p q, h, t => by
    have := p.at_gt h.1 t
    have := q.at_gt h.2 t
    simp only [Pl.at]
    split <;> omega
  | .soo p q, h, t => by
    have := p.at_gt h.1 t
    have := q.at_gt h.2 t
    simp only [Pl.at]
    split <;> omega
  | .nex p q, h, t => Int.lt_trans (p.at_gt h.1 t) (q.at_gt h.2 _)
theorem Pl.at_le {L : Nat} : ∀ (p : Pl), p.ok L → ∀ t, 0 ≤ t → p.at t ≤ t + 2000 * p.leaves
  | .win w, h, t, _ => by have := h.2; simp only [Pl.at, Pl.leaves]; omega
  | .days bs e, h, t, h0 => by
    have := dayAt_le (bs := bs) (by have := h.1; omega) h.2.1 h.2.2.2.2 h0
    simp only [Pl.at, Pl.leaves]
    omega
  | .lat p q, h, t, h0 => by
    have := p.at_le h.1 t h0
    have := q.at_le h.2 t h0
    simp only [Pl.at, Pl.leaves]
    split <;> omega
  | .soo p q, h, t, h0 => by
    have := p.at_le h.1 t h0
    have := q.at_le h.2 t h0
    simp only [Pl.at, Pl.leaves]
    split <;> omega
  | .nex p q, h, t, h0 => by
    have h1 := p.at_gt h.1 t
    have := p.at_le h.1 t h0
    have := q.at_le h.2 (p.at t) (by omega)
    simp only [Pl.at, Pl.leaves]
    omega
theorem Pl.at_mono {L : Nat} : ∀ (p : Pl), p.ok L → ∀ t t', t ≤ t' → p.at t ≤ p.at t'
  | .win w, h, t, t', ht => by simp only [Pl.at]; omega
  | .days bs e, h, t, t', ht => dayAt_mono (by have := h.1; omega) h.2.2.2.2 ht
  | .lat p q, h, t, t', ht => by
    have := p.at_mono h.1 t t' ht
    have := q.at_mono h.2 t t' ht
    simp only [Pl.at]
    split <;> split <;> omega
  | .soo p q, h, t, t', ht => by
    have := p.at_mono h.1 t t' ht
    have := q.at_mono h.2 t t' ht
    simp only [Pl.at]
    split <;> split <;> omega
  | .nex p q, h, t, t', ht => q.at_mono h.2 _ _ (p.at_mono h.1 t t' ht)
theorem maxI_le {a b t : Int} (h : maxI a b ≤ t) : a ≤ t ∧ b ≤ t := by
  unfold maxI at h
  split at h <;> omega
theorem dvd_l {a b m : Int} (h : lcmI a b ∣ m) : a ∣ m ∧ b ∣ m := by
  have h1 : a ∣ lcmI a b := Int.natAbs_dvd_natAbs.mp (by unfold lcmI; rw [Int.natAbs_natCast]; exact Nat.dvd_lcm_left _ _)
  have h2 : b ∣ lcmI a b := Int.natAbs_dvd_natAbs.mp (by unfold lcmI; rw [Int.natAbs_natCast]; exact Nat.dvd_lcm_right _ _)
  exact ⟨Int.dvd_trans h1 h, Int.dvd_trans h2 h⟩
theorem Pl.at_per {L : Nat} : ∀ (p : Pl), p.ok L → ∀ t m, p.bend ≤ t → 0 ≤ m → p.per ∣ m → p.at (t + m) = p.at t + m
  | .win w, h, t, m, _, _, _ => by simp only [Pl.at]; omega
  | .days bs e, h, t, m, hb, hm, hd => dayAt_per (by have := h.1; omega) h.2.2.2.2 hb hm hd
  | .lat p q, h, t, m, hb, hm, hd => by
    obtain ⟨d1, d2⟩ := dvd_l hd
    obtain ⟨b1, b2⟩ := maxI_le hb
    have h1 := p.at_per h.1 t m b1 hm d1
    have h2 := q.at_per h.2 t m b2 hm d2
    simp only [Pl.at, h1, h2]
    split <;> split <;> omega
  | .soo p q, h, t, m, hb, hm, hd => by
    obtain ⟨d1, d2⟩ := dvd_l hd
    obtain ⟨b1, b2⟩ := maxI_le hb
    have h1 := p.at_per h.1 t m b1 hm d1
    have h2 := q.at_per h.2 t m b2 hm d2
    simp only [Pl.at, h1, h2]
    split <;> split <;> omega
  | .nex p q, h, t, m, hb, hm, hd => by
    obtain ⟨d1, d2⟩ := dvd_l hd
    obtain ⟨b1, b2⟩ := maxI_le hb
    have h1 := p.at_per h.1 t m b1 hm d1
    have := p.at_gt h.1 t
    have h2 := q.at_per h.2 (p.at t) m (by omega) hm d2
    simp only [Pl.at, h1, h2]
theorem Pl.bend_bd {L : Nat} : ∀ p : Pl, p.ok L → 0 ≤ p.bend ∧ p.bend ≤ 1000
  | .win _, _ => ⟨Int.le_refl _, (show (0 : Int) ≤ 1000 by decide)⟩
  | .days _ _, h => h.2.2.2.2.last_bd
  | .lat p q, h => by have := p.bend_bd h.1; have := q.bend_bd h.2; simp only [Pl.bend, maxI]; split <;> omega
  | .soo p q, h => by have := p.bend_bd h.1; have := q.bend_bd h.2; simp only [Pl.bend, maxI]; split <;> omega
  | .nex p q, h => by have := p.bend_bd h.1; have := q.bend_bd h.2; simp only [Pl.bend, maxI]; split <;> omega
end RM
namespace RM
theorem fmod_nat (X Y : Nat) : (X : Int).fmod (Y : Int) = ((X % Y : Nat) : Int) := by
  rw [Int.fmod_eq_emod_of_nonneg _ (Int.natCast_nonneg _)]
  rfl
theorem fdiv_nat (X Y : Nat) : (X : Int).fdiv (Y : Int) = ((X / Y : Nat) : Int) := by
  rw [Int.fdiv_eq_ediv_of_nonneg _ (Int.natCast_nonneg _)]
  rfl
theorem lcm_by (A B : Nat) : ((A : Int).fdiv ((Nat.gcd A B : Nat) : Int)) * (B : Int) = lcmI A B := by
  rw [fdiv_nat]
  unfold lcmI
  rw [Int.natAbs_natCast, Int.natAbs_natCast, ← Int.natCast_mul]
  congr 1
  rw [Nat.div_mul_right_comm (Nat.gcd_dvd_left A B)]
  rfl
theorem gcd_step (X Y : Nat) : Nat.gcd Y (X % Y) = Nat.gcd X Y := by
  rw [Nat.gcd_comm X Y, Nat.gcd_rec Y X, Nat.gcd_comm]
end RM
namespace RM
theorem Asc.snoc {e c : Int} : ∀ {n : Int} {bs : List Int}, Asc n bs → (∀ b ∈ bs, b ≤ e) → n ≤ c → e < c → c ≤ 1000 → Asc n (bs ++ [c])
  | n, [], _, _, h1, _, h3 => ⟨h1, h3, True.intro⟩
  | n, b :: r, h, hb, h1, h2, h3 => ⟨h.1, h.2.1, Asc.snoc h.2.2 (fun x hx => hb x (List.mem_cons_of_mem _ hx)) (by have := hb b (by simp); omega) h2 h3⟩
theorem lcmI_one (B : Nat) : lcmI B 1 = B := by
  unfold lcmI
  rw [Int.natAbs_natCast]
  show ((B.lcm 1 : Nat) : Int) = B
  rw [Nat.lcm_one_right]
theorem lcmI_self (B : Nat) : lcmI B B = B := by
  unfold lcmI
  rw [Int.natAbs_natCast, Nat.lcm_self]
end RM
namespace RM
/-- a plan is as good with its own period -/
theorem Pl.ok_per {L : Nat} : ∀ p : Pl, p.ok L → p.ok p.per.natAbs
  | .win _, h => h
  | .days _ e, h => ⟨h.1, h.2.1, Nat.dvd_refl _, h.2.2.2⟩
  | .lat p q, h => ⟨Pl.ok_mono (by simp only [Pl.per, lcmI, Int.natAbs_natCast]; exact Nat.dvd_lcm_left _ _) p (p.ok_per h.1), Pl.ok_mono (by simp only [Pl.per, lcmI, Int.natAbs_natCast]; exact Nat.dvd_lcm_right _ _) q (q.ok_per h.2)⟩
  | .soo p q, h => ⟨Pl.ok_mono (by simp only [Pl.per, lcmI, Int.natAbs_natCast]; exact Nat.dvd_lcm_left _ _) p (p.ok_per h.1), Pl.ok_mono (by simp only [Pl.per, lcmI, Int.natAbs_natCast]; exact Nat.dvd_lcm_right _ _) q (q.ok_per h.2)⟩
  | .nex p q, h => ⟨Pl.ok_mono (by simp only [Pl.per, lcmI, Int.natAbs_natCast]; exact Nat.dvd_lcm_left _ _) p (p.ok_per h.1), Pl.ok_mono (by simp only [Pl.per, lcmI, Int.natAbs_natCast]; exact Nat.dvd_lcm_right _ _) q (q.ok_per h.2)⟩
theorem lcmI_comm (a b : Int) : lcmI a b = lcmI b a := by
  unfold lcmI
  rw [Nat.lcm_comm]
end RM

namespace LC
open PySem L2
section
variable {X : Cx} {st : Stmt} {ss : List Stmt}
/-- a statement that is never come to -/
theorem ps_never : PS X st (fun _ _ _ => False) := ⟨fun _ _ _ _ _ _ h => h.elim⟩
theorem pss_never : PSs X ss (fun _ _ _ => False) := ⟨fun _ _ _ _ _ _ h => h.elim⟩
def rLcm : List V → Hp → VK → Prop := fun vs H Q => ∃ a b : Int, vs = [.int a, .int b] ∧ a.natAbs < 2 ^ 64 ∧ b.natAbs < 2 ^ 64 ∧ Q (.int (RM.lcmI a b)) H
theorem cr_lcm : CallR X (.builtin "math.lcm") rLcm := by
  intro pins s σ H vs us Q I r h
  obtain ⟨a, b, rfl, h1, h2, q⟩ := h
  obtain ⟨t, u, rfl⟩ := Vals.int2 r
  exact PySem.W.mc_lcm h1 h2 fun _ => ⟨.int _, H, I.tok _, ⟨_, rfl⟩, q⟩
end
theorem fn_none {P : Program} {w : World} {K : PySem.W.Frag} {mg : Str → Option Value} {base : Heap} {CX : CXT} {k : Nat} {f : Addr} {fd : FuncData} {ps : List Str} {sp : Sp} (h : ∀ vs H Q E, ¬ sp vs H Q E) : FnOk P w K mg base CX k f fd ps sp :=
  ⟨fun vs H Q E q => (h _ _ _ _ q).elim, fun A outer s H args us vs Q E hr e0 hb r q => (h _ _ _ _ q).elim⟩
theorem raw0 {P : Program} {w : World} {K : PySem.W.Frag} {mg : Str → Option Value} {base : Heap} {CX : CXT} {k : Nat} {f : Addr} {fd : FuncData} {ps : List Str} {sp : Sp} (F : FnOk P w K mg base CX k f fd ps sp) (hb : Binds K fd ps []) : FnR P w K mg base CX k f sp :=
  (F.raw hb .nil).imp fun vs H Q E h => by
    rw [List.append_nil]
    exact h
theorem kLT_int {K : PySem.W.Frag} : PySem.W.kitAny K (.type "int") [.type "list", .type "tuple"] = some false := kitAny_cons (kit_ty (show kitB "int" "list" = some false by decide +kernel)) (fun _ => kitAny_cons (kit_ty (show kitB "int" "tuple" = some false by decide +kernel)) (fun _ => kitAny_nil) fun z => by cases z) (fun z => by cases z)
theorem kLT_lst {K : PySem.W.Frag} : PySem.W.kitAny K (.type "list") [.type "list", .type "tuple"] = some true := kitAny_cons (kit_ty (show kitB "list" "list" = some true by decide +kernel)) (fun z => by cases z) (fun _ => rfl)
end LC

namespace LN
open PySem PySem.Spec PyProof.Rows L2
/-- a def called with positional values and one keyword: the keyword's value stands first in the promise's list -/
def FnRK (P : Program) (w : World) (K : PySem.W.Frag) (mg : Str → Option Value) (base : Heap) (CX : CXT) (k : Nat) (f : Addr) (key : Str) (sp : Sp) : Prop :=
  ∀ (A : Around) (outer : List Env) (s : Shared) (H : Hp) (us : List Value) (u : Value) (vs : List V) (v : V) (Q : VK) (E : XK), Room k A → Env0 P w K mg base A outer s H → Vals vs us → RelV v u → sp (v :: vs) H Q E → codeAny (model P w) A (.call (.ref f) ⟨us, [(key, u)]⟩) (CR CX outer P w H s Q E) s
section
variable {CX : CXT} {P : Program} {w : World} {K : PySem.W.Frag} {mg : Str → Option Value} {base : Heap} {k : Nat} {f : Addr} {name qual : Str} {params : Arguments} {body : List Stmt} {scope : Scope} {dV kV doc pm cdv ct oc : Value} {an od : Option Addr}
  {osl : Array (Option Value)} {N : List Str} {sp : Sp} {p1 key pv : Str}
/-- def f(p1, *pv, key): the rest of the positional values is a new tuple -/
theorem fn_starK (lk : K.lookup f = some ⟨oc, od, .func (PySem.W.fnOf name qual params body scope dV kV doc pm an cdv ct), osl⟩) (hcd : PySem.W.codeIn K cdv qual = true) (S : FnScope N [p1, key, pv] scope) (up : StX.CXUp CX)
    (hb : ∀ (a u x : Value) (r : List Value), bindArgs (PySem.W.fnOf name qual params body scope dV kV doc pm an cdv ct) ⟨a :: x :: r, [(key, u)]⟩ = (newTuple (x :: r) >>= fun t => pure [(p1, a), (key, u), (pv, t)]))
    (hbody : ∀ (A : Around) (outer : List Env) (s : Shared) (H : Hp) (vs : List V) (Q : VK) (E : XK), Room k (A.deeper (envOfC qual scope s.heap.objs.size f cdv)) → sp vs H Q E →
      ∃ t, PSs (cxOf CX P w K mg base N qual scope f cdv A outer s H E) body t ∧ t { nx := fun _ H' => Q .non H', rt := Q } (start N vs) H) :
    FnRK P w K mg base CX (k + 1) f key (fun vs H Q E => ∃ v a y rest, vs = v :: a :: y :: rest ∧ (y :: rest).length ≤ sizeLine ∧ ∀ p, H p = none → sp [a, v, V.ref p] (upd H p (.tup (y :: rest))) Q E) := by
  intro A outer s H us u vs v Q E hr e0 r rv hsp
  obtain ⟨v', a, y, rest, ev, hz, hq⟩ := hsp
  cases ev
  cases r with
  | @cons _ ua _ ur ra r =>
  cases r with
  | @cons _ ux _ ur ry r =>
  have r2 : Vals (y :: rest) (ux :: ur) := .cons ry r
  have hn : H s.heap.objs.size = Option.none := e0.hok.fresh (Nat.le_refl _)
  have hl2 : (ux :: ur).length ≤ sizeLine := by rw [← r2.length]; exact hz
  refine StX.run_bnd lk hcd S hr e0 (G := fun xs H2 => ∃ p, H p = Option.none ∧ xs = [a, v, V.ref p] ∧ H2 = upd H p (.tup (y :: rest))) (fun A' Ex Q' h => ?_) (fun s2 H2 xs ⟨p, hp, ex, eH⟩ hr' => by subst ex eH; exact hbody A outer s2 _ _ Q E hr' (hq p hp))
  rw [hb ua u ux ur]
  refine wpAny_bind (wpAny_newTuple (wpAny_pure ?_) hl2)
  have hp : (s.heap.push ({ cls := .type "tuple", data := .seq (ux :: ur).toArray } : Obj)).get? s.heap.objs.size = some { cls := .type "tuple", data := .seq (ux :: ur).toArray } := Heap.get?_push_size _ rfl
  have un := StX.un_laid (fs := frs outer) (s := s) (o := ({ cls := .type "tuple", data := .seq (ux :: ur).toArray } : Obj)) (u := .tup (y :: rest)) hn
  have new : ObjOk P w (upd H s.heap.objs.size (.tup (y :: rest))) (s.heap.push ({ cls := .type "tuple", data := .seq (ux :: ur).toArray } : Obj)) s.heap.objs.size (.tup (y :: rest)) := ⟨hz, ux :: ur, r2, ⟨_, hp, rfl, _, rfl⟩⟩
  exact h _ _ [a, v, V.ref s.heap.objs.size] [ua, u, Value.ref s.heap.objs.size] (StX.env0_laid e0 new) un rfl (fun e s' => up outer s H _ _ E e s' un (fun b o q => Heap.get?_push_of_some _ q) rfl) (.cons ra (.cons rv (.cons rfl .nil))) rfl ⟨_, hn, rfl, rfl⟩
end
/-- C(e, .., key = v): a new instance and its dict, then __init__ -/
def tMakeKS (C : Addr) (sp : Sp) (E : XK) (t tk : TA) : TE := fun σ H Q => t σ H fun vs H1 => tk σ H1 fun zs H2 => ∃ v, zs = [v] ∧ ∀ x dx, H2 x = none → H2 dx = none → dx ≠ x →
  sp (v :: V.ref x :: vs) (upd (upd H2 dx (.own x)) x (.ins C dx [])) (fun u H3 => u = .non ∧ Q (.ref x) H3) E
section
variable {X : Cx} {CX : CXT} {k : Nat} {f C : Addr} {key : Str} {sp : Sp} {E : XK} {x : Str} {p pos : Pos} {e : Expr} {es : List Expr} {kws : List Keyword} {t tk : TA}
theorem pe_makeKS (M : Mk X.K C f) (F : FnRK X.prog X.w X.K X.mg X.base CX k f key sp) (hr : Room (k + 1) X.A) (hg : Gl X x) (hm : X.mg x = some (.ref C)) (hx : Passes CX X E) (ha : PA X (e :: es) t) (hkw : PK X kws tk)
    (hall : (backToKw pos (keywordEach kws X.env)).all (·.1.isSome) = true := by rfl) (hks : (backToKw pos (keywordEach kws X.env)).filterMap (·.1) = [key] := by rfl) (hdb : (x == ("__debug__" : Str)) = false := by decide)
    (he : starEach (e :: es) X.env = (false, eval e X.env) :: starEach es X.env := by rfl) (hpl : ((backTo pos (starEach (e :: es) X.env)).any (·.1) || (backToKw pos (keywordEach kws X.env)).any (·.1.isNone)) = false := by rfl) :
    PE X (.Call (.Name x p) (e :: es) kws pos) (tMakeKS C sp E t tk) := by
  refine ⟨fun pins s σ H Q I h => ?_⟩
  refine wpAny_Call_Name_kw (ld_glob I hg hm ?_ hdb)
  refine PySem.W.callWith_KW (h₀ := X.base) I.ok.mod.kin M.kp hall (thn (ha.run pos pins s σ H _ I h) fun us s1 ⟨vs, H1, I1, r, q⟩ => ?_) hpl he
  refine thn (hkw.run pos pins s1 σ H1 _ I1 q) fun ws s2 ⟨zs, H2, I2, rz, v, ez, q2⟩ => ⟨I2.kIn, ?_⟩
  rw [hks]
  subst ez
  obtain ⟨u, rfl, ru⟩ := rz.one
  have hq := q2 (s2.heap.objs.size + 1) s2.heap.objs.size (I2.hok.fresh (Nat.le_succ _)) (I2.hok.fresh (Nat.le_refl _)) (Nat.ne_of_lt (Nat.lt_succ_self _))
  have I3 := Inv.made (C := C) I2
  have r3 : Vals (V.ref (s2.heap.objs.size + 1) :: vs) (Value.ref (s2.heap.objs.size + 1) :: us) := .cons rfl r
  refine wpAny_call (make_map (f := f) I2.kIn M.makes M.init (beq_iff_eq.mp M.fn) (codeAny_mono (F _ X.stack _ _ (Value.ref (s2.heap.objs.size + 1) :: us) u _ v _ E (hr.make C us [(key, u)]) (I3.env0.make C us [(key, u)]) r3 ru hq) fun r s' hq' => ?_))
  cases r with
  | error er => exact hx pins σ _ _ er s' I3 hq'
  | ok fl => cases fl with
    | ret w' =>
      obtain ⟨v', H', I', rv', ev', q'⟩ := I3.after hq'
      subst ev'
      exact ⟨rv', ⟨V.ref (s2.heap.objs.size + 1), H', I', rfl, q'⟩⟩
    | _ => exact False.elim hq'
end
section
variable {prog : Program} {w : World} {A : Around} {E : Value → Shared → Prop} {s : Shared} {l : Addr} {its : List Value} {ns : List Int}
/-- sum(t), t a tuple of whole numbers -/
theorem sum_tup {Q : Value → Shared → Prop} (hh : A.handled = none) (hl : s.heap.IsTuple l its.toArray) (hi : IntsAre its ns)
    (h : ∀ h' tk t', (∀ b o, s.heap.get? b = some o → h'.get? b = some o) → Q (.int ns.sum t') { s with heap := h', toks := tk }) : wpAny (model prog w) A (call (.builtin "sum") [.ref l]) Q E s := by
  obtain ⟨xs, e⟩ := hi.allInts.items
  have hn : numsOf (intItems xs).toList = ns := by rw [← e]; exact hi.numsOf
  rw [nums_intItems] at hn
  rw [e] at hl
  have hlt : l < s.heap.objs.size := by obtain ⟨_, e, _⟩ := hl; exact Heap.lt_size e
  refine PySem.call_sum_walkG (wpAny_pyIter_tuple hl ?_)
  refine ⟨_, _, _, _, _, _, numAt xs, rfl, Walks.tuple (A := A.in1) hh _ l (Nat.ne_of_lt hlt) (intItems xs), ⟨⟨_, Heap.get?_push_size _ rfl, rfl, rfl⟩, hl.push _⟩, fun b hb => ?_, (fun _ _ => intItems_at), fun h' tk t' hk => ?_⟩
  · show b < (s.heap.push _).objs.size
    rw [Heap.size_push]
    rcases List.mem_cons.mp hb with rfl | hb
    · exact Nat.lt_succ_self _
    · rcases List.mem_cons.mp hb with rfl | hb
      · exact Nat.lt_succ_of_lt hlt
      · cases hb
  · have := h h' tk t' fun b o e => hk b o (fun z => by rw [List.mem_singleton.mp z] at e; exact absurd (Heap.lt_size e) (Nat.lt_irrefl _)) (Heap.get?_push_of_some _ e)
    rw [preSum_eq, List.take_of_length_le (by simp [intItems]), hn]
    exact this
end
section
variable {X : Cx}
def rSumT (K : PySem.W.Frag) : List V → Hp → VK → Prop := fun vs H Q => ∃ (a : Addr) (ns : List Int), vs = [V.ref a] ∧ SqT K H a (ns.map V.int) ∧ Q (.int ns.sum) H
theorem cr_sumT (hc : X.calm = true) : CallR X (.builtin "sum") (rSumT X.K) := by
  intro pins s σ H vs us Q I r h
  obtain ⟨a, ns, rfl, hs, q⟩ := h
  obtain ⟨its, rv, hl, _⟩ := I.tuple hs
  rw [Vals.ref1 r]
  exact sum_tup (I.ok.hd hc) hl rv.ints fun h' tk t' hk => ⟨.int _, H, I.kept hk, ⟨_, rfl⟩, q⟩
end
/-! ### enumerate over a tuple -/
/-- enumerate(v): what its making leaves -/
theorem newT {v : Value} {o : Obj} {H : Heap → Prop} (B : Begins v o H) :
    Meets (Builtin.«enumerate.__new__» ⟨[.type "enumerate", v], []⟩) (fun _ R s' => H s'.heap ∧
      R (.ok (.ret (.ref (s'.heap.push o).objs.size)))
        { s' with heap := (s'.heap.push o).push ({ cls := .type "enumerate", data := .fields #[.none, .bool false, .ref s'.heap.objs.size, rawInt 0, .none, .none] } : Obj) }) :=
  .of_wp fun prog w A R st h0 => by
    obtain ⟨hp, gg, dd, tk, os⟩ := st
    obtain ⟨h1, h⟩ := h0
    have su := sub_enumerate
    have go : ∀ {A' : Around} {E : Value → Shared → Prop} {Q : Value → Shared → Prop}, Q (.ref hp.objs.size) ⟨hp.push o, gg, dd, tk, os⟩ →
        wpAny (model prog w) A' (pyIter v) Q E ⟨hp, gg, dd, tk, os⟩ := fun q => B.iter prog w _ _ ⟨hp, gg, dd, tk, os⟩ _ h1 q
    wp_walk using go
    refine wpAny_stack_any fun _ => wpAny_pure ?_
    split
    · rename_i c _ _ _ _ _
      cases (c == Value.type "enumerate") <;> (wp_walk using go; exact ⟨_, rfl, h⟩)
    · (wp_walk using go; exact ⟨_, rfl, h⟩)
section
variable {prog : Program} {w : World} {A : Around} {E : Value → Shared → Prop} {s : Shared}
theorem call_enumT {t : Addr} {items : Array Value} {Q : Value → Shared → Prop} (ht : s.heap.IsTuple t items)
    (h : ∀ h', IsEnum h' (s.heap.objs.size + 1) s.heap.objs.size 0 .none → h'.IsTupleIter s.heap.objs.size t 0 →
      (∀ b o, s.heap.get? b = some o → h'.get? b = some o) → Q (.ref (s.heap.objs.size + 1)) { s with heap := h' }) :
    wpAny (model prog w) A (call (.type "enumerate") [.ref t]) Q E s := by
  let ob : Obj := { cls := .type "tuple_iterator", data := .fields #[.ref t, .int 0 0] }
  let oe : Obj := { cls := .type "enumerate", data := .fields #[.none, .bool false, .ref s.heap.objs.size, rawInt 0, .none, .none] }
  refine callType_new F.called_enumerate (by decide) (F.typeCall_enumerate_1 _)
    (F.newCall_enumerate_1 _) (fun obj => F.args_object_init_2 obj _) F.entry_enumerate_new (newT (begins_tuple t items)) ⟨ht, ?_⟩
  have hz : (s.heap.push ob).objs.size = s.heap.objs.size + 1 := Heap.size_push ..
  have q := Heap.get?_push_size (s.heap.push ob) (o := oe) rfl
  show _ ∧ _
  rw [hz] at q ⊢
  have he : IsEnum ((s.heap.push ob).push oe) (s.heap.objs.size + 1) s.heap.objs.size 0 .none := q
  refine ⟨⟨_, he, rfl⟩, h _ he ⟨ob, Heap.get?_push_of_some _ (Heap.get?_push_size _ (o := ob) rfl), rfl, rfl⟩ fun b o x => ?_⟩
  exact Heap.get?_push_of_some _ (Heap.get?_push_of_some _ x)
end
def IteT (K : PySem.W.Frag) (a : Addr) : It :=
  ⟨fun i H => ∃ (xs : List V) (x : V), SqT K H a xs ∧ xs[i]? = some x,
    fun i H v H' => ∃ T x, v = .ref T ∧ H T = none ∧ H' = upd H T (.tup [.int (i : Nat), x]) ∧ ∀ xs, SqT K H a xs → xs[i]? = some x,
    fun i H => ∃ xs : List V, SqT K H a xs ∧ xs.length = i⟩
theorem turn_enumT {P : Program} {w : World} {K : PySem.W.Frag} {elts : List Expr} {kk : Nat} {tpos : Pos} (a e it : Addr) :
    Turn P w K (.Tuple elts kk tpos) (IteT K a) [e, it] e
      (fun i h => (∃ old, IsEnum h e it ((i : Nat) : Int) old) ∧ h.IsTupleIter it a i ∧ e ≠ it ∧ e ≠ a ∧ a ≠ it) where
  mem := by simp
  obj := fun i h st b hb => by
    obtain ⟨⟨old, he⟩, ⟨o, ho, hc, hd⟩, _⟩ := st
    rcases (show b = e ∨ b = it by simpa using hb) with z | z
    · rw [z]
      exact ⟨_, he, fun v q => nomatch q⟩
    · rw [z]
      exact ⟨o, ho, fun v q => by rw [hd] at q; cases q⟩
  keep := fun i h h' st k => by
    obtain ⟨⟨old, he⟩, hi, r⟩ := st
    exact ⟨⟨old, k e (by simp) _ he⟩, hi.at fun o q => k it (by simp) o q, r⟩
  item := by
    intro X hP hw hK hc i pins s σ H E I hf st hg
    subst hP hw hK
    obtain ⟨⟨old, he⟩, hit, hne, hea, hai⟩ := st
    obtain ⟨xs, x, hq, hx⟩ := hg
    obtain ⟨its, rv, p, hz⟩ := I.tuple hq
    obtain ⟨u, hu, ru⟩ := rv.get hx
    have hel : e < s.heap.objs.size := Heap.lt_size he
    have hil : it < s.heap.objs.size := by
      obtain ⟨_, q, _⟩ := hit
      exact Heap.lt_size q
    have hlt : i < its.toArray.size := by
      have := (List.getElem?_eq_some_iff.mp hu).1
      simpa using this
    refine wpAny_pyNext_enum_itemD (Draws.tuple (A := X.A.in1) (I.ok.hd hc) it a hai its.toArray) he ⟨hit, p⟩ hlt hne (by simp [hne, hea]) fun x' h' tk hx' ho st' hT hsz hk => ?_
    obtain rfl : x' = u := by
      rw [show its.toArray[i]? = its[i]? by simp, hu] at hx'
      exact (Option.some.inj hx').symm
    refine ⟨_, rfl, wpAny_letOwnedTupleGo_enum (s := { s with heap := h', toks := tk + 1 }) ho fun h'' he' sb => ?_⟩
    have hT2 := (sb.2 _ (Nat.ne_of_gt hel)).trans hT
    have new : ObjOk X.prog X.w (upd H s.heap.objs.size (.tup [.int (i : Nat), x])) h'' s.heap.objs.size (.tup [.int (i : Nat), x]) :=
      ⟨by show 2 ≤ sizeLine; decide, [.int i tk, x'], .cons ⟨_, rfl⟩ (.cons ru .nil), ⟨_, hT2, rfl, _, rfl⟩⟩
    have I1 : Inv X pins σ (upd H s.heap.objs.size (.tup [.int (i : Nat), x])) { s with heap := h'', toks := tk + 1 } :=
      I.turnedNew (t' := tk + 1) (ch := [e, it]) (fun b ob hb q => (sb.2 b (fun z => hb (by simp [z]))).trans (hk b ob (fun z => hb (by simp [z])) (fun z => hb (by simp [z])) q)) hf (Nat.le_refl _) new
    refine ⟨.ref s.heap.objs.size, _, I1, rfl, ⟨_, x, rfl, I.hok.fresh (Nat.le_refl _), rfl, fun ys hy => ?_⟩, ⟨⟨x', ?_⟩, st'.1.at fun o q => (sb.2 it (Ne.symm hne)).trans q, hne, hea, hai⟩, fun b hb => ?_⟩
    · rw [I.tuple_inj hy hq]
      exact hx
    · rw [show ((i + 1 : Nat) : Int) = (i : Int) + 1 by omega]
      exact he'
    · have hb' : b < s.heap.objs.size := by
        rcases (show b = e ∨ b = it by simpa using hb) with z | z
        · exact z ▸ hel
        · exact z ▸ hil
      rw [upd_ne (Nat.ne_of_lt hb')]
      exact (hf b hb).1
  done := by
    intro X hP hw hK hc i pins s σ H E I hf st hg
    subst hP hw hK
    obtain ⟨⟨old, he⟩, hit, hne, hea, hai⟩ := st
    obtain ⟨xs, hq, hx⟩ := hg
    obtain ⟨its, rv, p, hz⟩ := I.tuple hq
    obtain ⟨f0, f1, f2, f3, f4, f5⟩ := hf it (by simp)
    have hl := rv.length
    have hi : i = its.toArray.size := by rw [List.size_toArray, ← hl, hx]
    subst hi
    refine wpAny_pyNext_enum_endD (Draws.tuple (A := X.A.in1) (I.ok.hd hc) it a hai its.toArray) he ⟨hit, p⟩ fun h' eb => ?_
    exact ⟨rfl, I.turned (t' := s.toks) (fun b o hb q => eb b o hb q) f0 f1 f3 f4 f5⟩
  self := fun A i s Q E st h => by
    obtain ⟨⟨_, he⟩, _⟩ := st
    exact wpAny_pyIter_enum he h
def iEnumT (K : PySem.W.Frag) (ta : TA) : TI := fun σ H R => ta σ H fun vs H1 => ∃ (a : Addr) (xs : List V), vs = [.ref a] ∧ SqT K H1 a xs ∧ R (IteT K a) H1
theorem pi_enumT {X : Cx} {e : Expr} {ta : TA} {p pos tpos : Pos} {elts : List Expr} {kk : Nat} (hg : Gl X "enumerate") (hm : X.mg "enumerate" = none) (ha : PA X [e] ta) (hs : starEach [e] X.env = [(false, eval e X.env)] := by rfl) :
    PI X (.Tuple elts kk tpos) (.Call (.Name "enumerate" p) [e] [] pos) (iEnumT X.K ta) := by
  refine ⟨fun pins s σ H R I h => Call_ (ld_blt I hg hm boot_enumerate (PyProof.Rows.callWith_type1 (thn (ha.run pos pins s σ H _ I h) fun us s1 ⟨vs, H1, I1, r1, a, xs, ex, hq, q⟩ => ?_) hs rfl))⟩
  subst ex
  rw [Vals.ref1 r1]
  obtain ⟨its, rv, pt, hz⟩ := I1.tuple hq
  have hal : a < s1.heap.objs.size := by
    obtain ⟨_, z, _⟩ := pt
    exact Heap.lt_size z
  refine call_enumT pt fun h' he hit hk => wpAny_pyIter_enum he ?_
  have I2 : Inv X pins σ H1 { s1 with heap := h' } := I1.kept (t' := s1.toks) hk
  refine ⟨s1.heap.objs.size + 1, [s1.heap.objs.size + 1, s1.heap.objs.size], _, _, H1, rfl, I2, turn_enumT a (s1.heap.objs.size + 1) s1.heap.objs.size, ⟨⟨.none, he⟩, hit, Nat.succ_ne_self _, Ne.symm (Nat.ne_of_lt (Nat.lt_succ_of_lt hal)), Nat.ne_of_lt hal⟩, fun b hb => ?_, q⟩
  have hle : s1.heap.objs.size ≤ b := by
    rcases (show b = s1.heap.objs.size + 1 ∨ b = s1.heap.objs.size by simpa using hb) with z | z
    · rw [z]; exact Nat.le_succ _
    · rw [z]; exact Nat.le_refl _
  exact I1.fpOk hle (I1.hok.fresh hle)
theorem walk_enumT {K : PySem.W.Frag} {a : Addr} {xs : List V} : Walk (IteT K a) xs.length (fun H => SqT K H a xs) (YPair (fun i => some (.int (i : Nat))) (fun i => xs[i]?)) := by
  refine ⟨fun i _ hi q => ⟨xs, xs[i], q, by simp [hi]⟩, fun _ q => ⟨xs, q, rfl⟩, fun i H v H' _ q y => ?_⟩
  obtain ⟨T, x, h1, h2, h3, h4⟩ := y
  exact ⟨T, .int (i : Nat), x, h1, h2, h3, rfl, h4 xs q⟩
/-! ### repr of six booleans -/
def six6 (b : Bool × Bool × Bool × Bool × Bool × Bool) : List Bool := [b.1, b.2.1, b.2.2.1, b.2.2.2.1, b.2.2.2.2.1, b.2.2.2.2.2]
def shB (bs : List Bool) : PyData := .list (bs.map PyData.bool)
theorem sh_ok : ∀ b0 b1 b2 b3 b4 b5 : Bool, (shB [b0, b1, b2, b3, b4, b5]).showable = true ∧ (shB [b0, b1, b2, b3, b4, b5]).hasDict = false ∧ (shB [b0, b1, b2, b3, b4, b5]).depth ≤ 4 ∧ (shB [b0, b1, b2, b3, b4, b5]).shown.length ≤ sizeLine := by decide +kernel
theorem reads_all {h : Heap} : ∀ {bs : List Bool} {its : List Value}, Vals (bs.map V.bl) its → ReadsAll h its (bs.map PyData.bool) []
  | [], _, .nil => .nil
  | b :: bs, _, .cons r t => by
    cases r
    exact .cons (as := []) (.bool b) (reads_all t)
section
variable {X : Cx}
def rRepr6 (K : PySem.W.Frag) : List V → Hp → VK → Prop := fun vs H Q => ∃ (a : Addr) (bs : List Bool), vs = [V.ref a] ∧ SqL K H a (bs.map V.bl) ∧ bs.length = 6 ∧ Q (.str (shB bs).shown) H
theorem call_reprB (hG : X.A.guards = some []) (hu : X.A.units + 64 < cLine) : CallR X (.builtin "repr") (rRepr6 X.K) := by
  intro pins s σ H vs us Q I r h
  obtain ⟨a, bs, rfl, hs, h6, q⟩ := h
  obtain ⟨its, rv, hl, _⟩ := I.list hs
  rw [Vals.ref1 r]
  obtain ⟨o, ho, hc, n, hd⟩ := hl.isList
  match bs, h6 with
  | [b0, b1, b2, b3, b4, b5], _ =>
    obtain ⟨k1, k2, k3, k4⟩ := sh_ok b0 b1 b2 b3 b4 b5
    have rd : Reads s.heap (.ref a) (shB [b0, b1, b2, b3, b4, b5]) [a] := .list ho hc hd (by simpa using reads_all rv)
    exact repr_of_reads' rd k1 (fun z => by rw [k2] at z; cases z) hG (by omega) (fun _ _ e => e) (fun h' u tk hk => ⟨.str _, H, I.kept hk, ⟨_, rfl⟩, q⟩) k4
end
/-! ### a law that asks for the guards: its promise at the caller alone -/
def LawB (P : Program) (w : World) (K : PySem.W.Frag) (mg : Str → Option Value) (base : Heap) (k : Nat) (f : Addr) (sp : Sp) : Prop :=
  ∀ (A : Around) (s : Shared) (H : Hp) (u : Value) (v : V) (Q : VK) (E : XK), A.guards = some [] → Room k A → Env0 P w K mg base A [] s H → RelV v u → sp [v] H Q E →
    codeAny (model P w) A (.call (.ref f) ⟨[u], []⟩) (CR CX0 [] P w H s Q E) s
theorem lawB_of {P : Program} {w : World} {K : PySem.W.Frag} {mg : Str → Option Value} {base : Heap} {x qual p1 : Str} {st : Stmt} {f : Addr} {fd : FuncData} {N : List Str} {k : Nat} {sp : Sp} (F : Fun K x qual st f fd) (S : FnScope N [p1] (defScope st)) (B : Binds K fd [p1] [])
    (hbody : ∀ (cdv : Value) (A : Around) (outer : List Env) (s : Shared) (H : Hp) (vs : List V) (Q : VK) (E : XK), (A.deeper (envOfC qual (defScope st) s.heap.objs.size f cdv)).guards = some [] → Room k (A.deeper (envOfC qual (defScope st) s.heap.objs.size f cdv)) → sp vs H Q E →
      ∃ t, PSs (cxOf CX0 P w K mg base N qual (defScope st) f cdv A outer s H E).nox (defBody st) t ∧ t { nx := fun _ H' => Q .non H', rt := Q } (start N vs) H) :
    LawB P w K mg base (k + 1) f sp := by
  obtain ⟨oc, od, kV, doc, pm, an, cdv, ct, osl, rfl, lk, hcd⟩ := F.ex
  intro A s H u v Q E hG hr e0 rv hsp
  refine StX.run_bnd (G := fun xs H2 => xs = [v] ∧ H2 = H) lk hcd S hr e0 (fun A' Ex Q' h => ?_) (fun s2 H2 xs ⟨ex, eH⟩ hr' => ?_)
  · have KX : K.In s.heap := e0.mod.kin.keeps fun b o e => (e0.bs b o e).1
    exact B s [u] KX rfl _ _ _ _ (h s H [v] [u] e0 .refl rfl (fun _ _ z => z) (.cons rv .nil) rfl ⟨rfl, rfl⟩)
  · subst ex eH
    obtain ⟨t, h, q⟩ := hbody cdv A [] s2 H2 [v] Q E hG hr' hsp
    exact ⟨t, h.nox, q⟩
end LN
namespace LN
open PySem PySem.Spec PyProof.Rows L2
/-- what a law with one list of numbers asks of its caller: the heap behind the top, the list as it stands -/
theorem call_at {P : Program} {w : World} {K : PySem.W.Frag} {mg mb : Str → Option Value} {k : Nat} {fa a : Addr} {sp : Sp} {s₁ : Shared} {vs : List Value} {ns : List Int} (inK : K.In s₁.heap) (glob : s₁.heap.Ns mainGlobals mg) (blt : s₁.heap.Ns builtinsNs mb)
    (boot : ∀ x : Str, x ≠ "__name__" → mb x = bootBuiltins x) (lim : s₁.heap.NoLimit) (gens : s₁.gens = #[]) (at_a : s₁.heap.get? a = some { cls := .type "list", data := .seq vs.toArray }) (nums : IntsAre vs ns) (short : ns.length ≤ sizeLine) (room : Room k callerA)
    (F : ∀ base : Heap, K.In base → base.Ns mainGlobals mg → LawB P w K mg base k fa sp) (say : ∀ H : Hp, SqL K H a (ns.map V.int) → sp [.ref a] H (fun v _ => v = .bl true) E0) :
    codeAny (model P w) callerA (.call (.ref fa) ⟨[.ref a], []⟩) (fun r s' => r = .ok (.ret (.bool true)) ∧ OldK s₁.heap s'.heap ∧ s'.os = s₁.os ∧ AllBare s'.gens) s₁ := by
  have rv := vals_ints nums
  have len := nums.length
  let ob : Obj := { cls := .type "list", data := .seq vs.toArray }
  let fz : HO := .frz ob (.lst (ns.map V.int))
  let T : Hp := fun b => if b = a ∧ K.lookup a = none then some fz else none
  have there : ∀ b u, T b = some u → b = a ∧ K.lookup a = none ∧ u = fz := fun b u z => by
    by_cases c : b = a ∧ K.lookup a = none
    · have z' := (if_pos c).symm.trans z
      exact ⟨c.1, c.2, (Option.some.inj z').symm⟩
    · have z' := (if_neg c).symm.trans z
      cases z'
  have gone : ∀ b, b ≠ a ∨ K.lookup a ≠ none → T b = none := fun b c => by
    cases q : T b with
    | none => rfl
    | some u =>
      obtain ⟨c1, c2, _⟩ := there b u q
      exact c.elim (fun z => absurd c1 z) fun z => absurd c2 z
  have keepB : ∀ {b : Addr} {o : Obj}, s₁.heap.get? b = some o → T b = none → (hidT s₁.heap T).get? b = some o := fun e n => hidT_get e n
  have ns_of : ∀ {b : Addr} {m : Str → Option Value}, s₁.heap.Ns b m → (hidT s₁.heap T).Ns b m := fun {b m} ⟨o, es, ep, e, d, rest⟩ => by
    refine ⟨o, es, ep, keepB e (gone b (.inl fun z => ?_)), d, rest⟩
    rw [z, at_a] at e
    cases e
    cases d
  have inB : K.In (hidT s₁.heap T) := fun b o e => keepB (inK b o e) (gone b (by
    by_cases z : b = a
    · exact .inr fun n => by rw [z, n] at e; cases e
    · exact .inl z))
  have M : Mod K mg (hidT s₁.heap T) := ⟨inB, ns_of glob, ⟨mb, ns_of blt, boot⟩, by
    obtain ⟨mc, h1, h2⟩ := lim
    exact ⟨mc, ns_of h1, h2⟩⟩
  have okT : HOk P w T s₁.heap := fun b u z => by
    obtain ⟨rfl, _, rfl⟩ := there b u z
    exact ⟨at_a, by rw [List.length_map]; exact short, vs, _, rv, at_a⟩
  have e0 : Env0 P w K mg (hidT s₁.heap T) callerA [] s₁ T :=
    ⟨rfl, M, fun b o e => of_hidT e, Nat.le_of_eq (hidT_size _ _), trivial, fun b hb => absurd hb List.not_mem_nil, okT, .of_eq gens⟩
  have lst : SqL K T a (ns.map V.int) := by
    cases q : K.lookup a with
    | none => exact .inl (.inr ⟨ob, if_pos ⟨rfl, q⟩⟩)
    | some o =>
      have e := inK a o q
      rw [at_a] at e
      cases e
      exact .inr ⟨_, vs.toArray, _, q, rfl, rfl, rfl, by rw [List.size_toArray, len]; exact short, by simpa using rv⟩
  refine codeAny_mono (F _ inB (ns_of glob) callerA s₁ T (.ref a) (.ref a) _ _ rfl room e0 rfl (say T lst)) fun r s' z => ?_
  match r, z with
  | .ok (.ret u), ⟨v, H', os, bare, un, ok', rel, (tr : v = .bl true)⟩ =>
    subst tr
    obtain rfl : u = Value.bool true := rel
    refine ⟨rfl, OldK.of_keep fun b o e => ?_, os, bare⟩
    cases q : T b with
    | none => exact un.keep b o e q (fun z => absurd z List.not_mem_nil) (by simp)
    | some u =>
      obtain ⟨rfl, _, rfl⟩ := there b u q
      have z2 := un.frzs b ob _ q
      obtain ⟨e2, _⟩ := ok' b _ z2
      rw [at_a] at e
      cases e
      exact e2
/-- the goal behind the head -/
theorem walk_at {l : PySem.W.OpenLaw} {k : Nat} {q : Program} {loose : List Str} {XP : (Str → Option Value) → Heap → Prop} {YP : World → Heap → Prop} {d : DefRec} {K : Params → PySem.W.Frag} {sp : PySem.W.Frag → Sp} (most : l.most = some 63) (nodef : d.params.defaults = []) (room : Room k callerA)
    (inY : ∀ (w : World) (h : Heap), YP w h → (K w.params).In h)
    (F : ∀ (w : World) (mg : Str → Option Value) (fa : Addr) (h : Heap), (K w.params).In h → h.Ns mainGlobals mg → mg d.name = some (.ref fa) → ∀ base : Heap, (K w.params).In base → base.Ns mainGlobals mg → LawB l.prog w (K w.params) mg base k fa (sp (K w.params)))
    (say : ∀ (K : PySem.W.Frag) (H : Hp) (a : Addr) (ns : List Int), ns.length ≤ 63 → SqL K H a (ns.map V.int) → sp K [.ref a] H (fun v _ => v = .bl true) E0) : PySem.W.WalkO q loose XP YP l.row.toRowW d [] (fun f vs => PySem.call f vs) := by
  refine Att.attach_call most nodef fun w s₀ s₁ mg mb fa o pm cd doc a vs ns G Y ho hd hcd hmg hobj hints hlen hg => ?_
  exact call_at (inY w _ Y) G.T.g G.T.b G.T.builtins G.T.nolimit hg hobj hints (Nat.le_trans hlen (by decide)) room (F w mg fa _ (inY w _ Y) G.T.g hmg) fun H hS => say _ H a ns hlen hS
end LN


namespace k80
open PySem L2 LC
def top (i : Nat) : Stmt := PySem.Challenge.pw_surelet_k80_whole_leads_are_transitive.main.body.getD i (.Pass ⟨0, 0, 0, 0⟩)
abbrev scheck_count : Stmt := top 18
abbrev Nmcheck_count : List Str := ["what", "count", "most"]
abbrev Pcheck_count : List Str := ["what", "count", "most"]
theorem sccheck_count : FnScope Nmcheck_count Pcheck_count (defScope scheck_count) := ⟨rfl, rfl, rfl, by decide +kernel, rfl, by decide +kernel, by decide +kernel⟩
abbrev sis_whole : Stmt := top 22
abbrev Nmis_whole : List Str := ["value"]
abbrev Pis_whole : List Str := ["value"]
theorem scis_whole : FnScope Nmis_whole Pis_whole (defScope sis_whole) := ⟨rfl, rfl, rfl, by decide +kernel, rfl, by decide +kernel, by decide +kernel⟩
abbrev sis_number : Stmt := top 23
abbrev Nmis_number : List Str := ["value", "least", "most"]
abbrev Pis_number : List Str := ["value", "least", "most"]
theorem scis_number : FnScope Nmis_number Pis_number (defScope sis_number) := ⟨rfl, rfl, rfl, by decide +kernel, rfl, by decide +kernel, by decide +kernel⟩
abbrev scheck_borders : Stmt := top 36
abbrev Nmcheck_borders : List Str := ["borders", "least", "at", "border"]
abbrev Pcheck_borders : List Str := ["borders"]
theorem sccheck_borders : FnScope Nmcheck_borders Pcheck_borders (defScope scheck_borders) := ⟨rfl, rfl, rfl, by decide +kernel, rfl, by decide +kernel, by decide +kernel⟩
abbrev sRest_init : Stmt := inClass (top 30) 0
abbrev NmRest_init : List Str := ["self", "text", "forms", "period", "bend"]
abbrev PRest_init : List Str := ["self", "text", "forms", "period", "bend"]
theorem scRest_init : FnScope NmRest_init PRest_init (defScope sRest_init) := ⟨rfl, rfl, rfl, by decide +kernel, rfl, by decide +kernel, by decide +kernel⟩
abbrev sRest_forms : Stmt := inClass (top 30) 4
abbrev NmRest_forms : List Str := ["self"]
abbrev PRest_forms : List Str := ["self"]
theorem scRest_forms : FnScope NmRest_forms PRest_forms (defScope sRest_forms) := ⟨rfl, rfl, rfl, by decide +kernel, rfl, by decide +kernel, by decide +kernel⟩
abbrev sRest_period : Stmt := inClass (top 30) 5
abbrev NmRest_period : List Str := ["self"]
abbrev PRest_period : List Str := ["self"]
theorem scRest_period : FnScope NmRest_period PRest_period (defScope sRest_period) := ⟨rfl, rfl, rfl, by decide +kernel, rfl, by decide +kernel, by decide +kernel⟩
abbrev sRest_bend : Stmt := inClass (top 30) 6
abbrev NmRest_bend : List Str := ["self"]
abbrev PRest_bend : List Str := ["self"]
theorem scRest_bend : FnScope NmRest_bend PRest_bend (defScope sRest_bend) := ⟨rfl, rfl, rfl, by decide +kernel, rfl, by decide +kernel, by decide +kernel⟩
abbrev sRest_written : Stmt := inClass (top 30) 7
abbrev NmRest_written : List Str := ["self"]
abbrev PRest_written : List Str := ["self"]
theorem scRest_written : FnScope NmRest_written PRest_written (defScope sRest_written) := ⟨rfl, rfl, rfl, by decide +kernel, rfl, by decide +kernel, by decide +kernel⟩
abbrev scommon_period : Stmt := top 38
abbrev Nmcommon_period : List Str := ["rest", "other", "period"]
abbrev Pcommon_period : List Str := ["rest", "other"]
theorem sccommon_period : FnScope Nmcommon_period Pcommon_period (defScope scommon_period) := ⟨rfl, rfl, rfl, by decide +kernel, rfl, by decide +kernel, by decide +kernel⟩
abbrev spair_facts : Stmt := top 37
abbrev Nmpair_facts : List Str := ["word", "first", "second", "value", "text", "forms"]
abbrev Ppair_facts : List Str := ["word", "first", "second"]
theorem scpair_facts : FnScope Nmpair_facts Ppair_facts (defScope spair_facts) := ⟨rfl, rfl, rfl, by decide +kernel, rfl, by decide +kernel, by decide +kernel⟩
abbrev sWindow_init : Stmt := inClass (top 31) 0
abbrev NmWindow_init : List Str := ["self", "width", "__class__"]
abbrev PWindow_init : List Str := ["self", "width"]
theorem scWindow_init : NdefX.NScope NmWindow_init PWindow_init ["__class__"] (defScope sWindow_init) := NdefX.nscope_by (by decide +kernel)
abbrev FWindow_init (cc c : Addr) : NdefX.NF := ⟨"__init__", "Window.__init__", defArgs sWindow_init, defBody sWindow_init, defScope sWindow_init, [("__class__", cc)], c⟩
abbrev sDays_init : Stmt := inClass (top 32) 0
abbrev NmDays_init : List Str := ["self", "borders", "every", "__class__", "words", "border"]
abbrev PDays_init : List Str := ["self", "borders", "every"]
theorem scDays_init : NdefX.NScope NmDays_init PDays_init ["__class__"] (defScope sDays_init) := NdefX.nscope_by (by decide +kernel)
abbrev FDays_init (cc c : Addr) : NdefX.NF := ⟨"__init__", "Days.__init__", defArgs sDays_init, defBody sDays_init, defScope sDays_init, [("__class__", cc)], c⟩
abbrev sLater_init : Stmt := inClass (top 33) 0
abbrev NmLater_init : List Str := ["self", "first", "second", "__class__", "facts"]
abbrev PLater_init : List Str := ["self", "first", "second"]
theorem scLater_init : NdefX.NScope NmLater_init PLater_init ["__class__"] (defScope sLater_init) := NdefX.nscope_by (by decide +kernel)
abbrev FLater_init (cc c : Addr) : NdefX.NF := ⟨"__init__", "Later.__init__", defArgs sLater_init, defBody sLater_init, defScope sLater_init, [("__class__", cc)], c⟩
abbrev sSooner_init : Stmt := inClass (top 34) 0
abbrev NmSooner_init : List Str := ["self", "first", "second", "__class__", "facts"]
abbrev PSooner_init : List Str := ["self", "first", "second"]
theorem scSooner_init : NdefX.NScope NmSooner_init PSooner_init ["__class__"] (defScope sSooner_init) := NdefX.nscope_by (by decide +kernel)
abbrev FSooner_init (cc c : Addr) : NdefX.NF := ⟨"__init__", "Sooner.__init__", defArgs sSooner_init, defBody sSooner_init, defScope sSooner_init, [("__class__", cc)], c⟩
abbrev sNext_init : Stmt := inClass (top 35) 0
abbrev NmNext_init : List Str := ["self", "first", "second", "__class__", "facts"]
abbrev PNext_init : List Str := ["self", "first", "second"]
theorem scNext_init : NdefX.NScope NmNext_init PNext_init ["__class__"] (defScope sNext_init) := NdefX.nscope_by (by decide +kernel)
abbrev FNext_init (cc c : Addr) : NdefX.NF := ⟨"__init__", "Next.__init__", defArgs sNext_init, defBody sNext_init, defScope sNext_init, [("__class__", cc)], c⟩
abbrev sWindow_call : Stmt := inClass (top 31) 1
abbrev NmWindow_call : List Str := ["self", "t"]
abbrev PWindow_call : List Str := ["self", "t"]
theorem scWindow_call : FnScope NmWindow_call PWindow_call (defScope sWindow_call) := ⟨rfl, rfl, rfl, by decide +kernel, rfl, by decide +kernel, by decide +kernel⟩
abbrev sDays_call : Stmt := inClass (top 32) 1
abbrev NmDays_call : List Str := ["self", "t", "border", "last"]
abbrev PDays_call : List Str := ["self", "t"]
theorem scDays_call : FnScope NmDays_call PDays_call (defScope sDays_call) := ⟨rfl, rfl, rfl, by decide +kernel, rfl, by decide +kernel, by decide +kernel⟩
abbrev sLater_call : Stmt := inClass (top 33) 1
abbrev NmLater_call : List Str := ["self", "t"]
abbrev PLater_call : List Str := ["self", "t"]
theorem scLater_call : FnScope NmLater_call PLater_call (defScope sLater_call) := ⟨rfl, rfl, rfl, by decide +kernel, rfl, by decide +kernel, by decide +kernel⟩
abbrev sSooner_call : Stmt := inClass (top 34) 1
abbrev NmSooner_call : List Str := ["self", "t"]
abbrev PSooner_call : List Str := ["self", "t"]
theorem scSooner_call : FnScope NmSooner_call PSooner_call (defScope sSooner_call) := ⟨rfl, rfl, rfl, by decide +kernel, rfl, by decide +kernel, by decide +kernel⟩
abbrev sNext_call : Stmt := inClass (top 35) 1
abbrev NmNext_call : List Str := ["self", "t"]
abbrev PNext_call : List Str := ["self", "t"]
theorem scNext_call : FnScope NmNext_call PNext_call (defScope sNext_call) := ⟨rfl, rfl, rfl, by decide +kernel, rfl, by decide +kernel, by decide +kernel⟩
abbrev sis_name : Stmt := top 24
abbrev Nmis_name : List Str := ["value", "sign"]
abbrev Pis_name : List Str := ["value"]
theorem scis_name : FnScope Nmis_name Pis_name (defScope sis_name) := ⟨rfl, rfl, rfl, by decide +kernel, rfl, by decide +kernel, by decide +kernel⟩
abbrev shas_name : Stmt := top 25
abbrev Nmhas_name : List Str := ["table", "value"]
abbrev Phas_name : List Str := ["table", "value"]
theorem schas_name : FnScope Nmhas_name Phas_name (defScope shas_name) := ⟨rfl, rfl, rfl, by decide +kernel, rfl, by decide +kernel, by decide +kernel⟩
abbrev slook_up : Stmt := top 26
abbrev Nmlook_up : List Str := ["table", "value"]
abbrev Plook_up : List Str := ["table", "value"]
theorem sclook_up : FnScope Nmlook_up Plook_up (defScope slook_up) := ⟨rfl, rfl, rfl, by decide +kernel, rfl, by decide +kernel, by decide +kernel⟩
abbrev sis_row : Stmt := top 42
abbrev Nmis_row : List Str := ["value", "ahead", "name", "elder", "error", "delay"]
abbrev Pis_row : List Str := ["value", "ahead"]
theorem scis_row : FnScope Nmis_row Pis_row (defScope sis_row) := ⟨rfl, rfl, rfl, by decide +kernel, rfl, by decide +kernel, by decide +kernel⟩
abbrev srows_by_name : Stmt := top 41
abbrev Nmrows_by_name : List Str := ["rows", "found", "at", "row"]
abbrev Prows_by_name : List Str := ["rows"]
theorem scrows_by_name : FnScope Nmrows_by_name Prows_by_name (defScope srows_by_name) := ⟨rfl, rfl, rfl, by decide +kernel, rfl, by decide +kernel, by decide +kernel⟩
abbrev sNet_elder_of : Stmt := inClass (top 40) 2
abbrev NmNet_elder_of : List Str := ["self", "name"]
abbrev PNet_elder_of : List Str := ["self", "name"]
theorem scNet_elder_of : FnScope NmNet_elder_of PNet_elder_of (defScope sNet_elder_of) := ⟨rfl, rfl, rfl, by decide +kernel, rfl, by decide +kernel, by decide +kernel⟩
abbrev sNet_error_of : Stmt := inClass (top 40) 3
abbrev NmNet_error_of : List Str := ["self", "name"]
abbrev PNet_error_of : List Str := ["self", "name"]
theorem scNet_error_of : FnScope NmNet_error_of PNet_error_of (defScope sNet_error_of) := ⟨rfl, rfl, rfl, by decide +kernel, rfl, by decide +kernel, by decide +kernel⟩
abbrev sNet_delay_of : Stmt := inClass (top 40) 4
abbrev NmNet_delay_of : List Str := ["self", "name"]
abbrev PNet_delay_of : List Str := ["self", "name"]
theorem scNet_delay_of : FnScope NmNet_delay_of PNet_delay_of (defScope sNet_delay_of) := ⟨rfl, rfl, rfl, by decide +kernel, rfl, by decide +kernel, by decide +kernel⟩
abbrev sNet_ups : Stmt := inClass (top 40) 5
abbrev NmNet_ups : List Str := ["self", "name", "names", "elder"]
abbrev PNet_ups : List Str := ["self", "name"]
theorem scNet_ups : FnScope NmNet_ups PNet_ups (defScope sNet_ups) := ⟨rfl, rfl, rfl, by decide +kernel, rfl, by decide +kernel, by decide +kernel⟩
abbrev sNet_way : Stmt := inClass (top 40) 6
abbrev NmNet_way : List Str := ["self", "name", "other", "up", "down"]
abbrev PNet_way : List Str := ["self", "name", "other"]
theorem scNet_way : FnScope NmNet_way PNet_way (defScope sNet_way) := ⟨rfl, rfl, rfl, by decide +kernel, rfl, by decide +kernel, by decide +kernel⟩
abbrev sNet_pair : Stmt := inClass (top 40) 10
abbrev NmNet_pair : List Str := ["self", "name", "other"]
abbrev PNet_pair : List Str := ["self", "name", "other"]
theorem scNet_pair : FnScope NmNet_pair PNet_pair (defScope sNet_pair) := ⟨rfl, rfl, rfl, by decide +kernel, rfl, by decide +kernel, by decide +kernel⟩
abbrev sNet_kappa : Stmt := inClass (top 40) 8
abbrev NmNet_kappa : List Str := ["self", "name", "other"]
abbrev PNet_kappa : List Str := ["self", "name", "other"]
theorem scNet_kappa : FnScope NmNet_kappa PNet_kappa (defScope sNet_kappa) := ⟨rfl, rfl, rfl, by decide +kernel, rfl, by decide +kernel, by decide +kernel⟩
abbrev sNet_delays_between : Stmt := inClass (top 40) 11
abbrev NmNet_delays_between : List Str := ["self", "name", "other", "way", "place"]
abbrev PNet_delays_between : List Str := ["self", "name", "other"]
theorem scNet_delays_between : FnScope NmNet_delays_between PNet_delays_between (defScope sNet_delays_between) := ⟨rfl, rfl, rfl, by decide +kernel, rfl, by decide +kernel, by decide +kernel⟩
abbrev sNet_least_kappa : Stmt := inClass (top 40) 12
abbrev NmNet_least_kappa : List Str := ["self", "name", "other", "best", "place", "number"]
abbrev PNet_least_kappa : List Str := ["self", "name", "other"]
theorem scNet_least_kappa : FnScope NmNet_least_kappa PNet_least_kappa (defScope sNet_least_kappa) := ⟨rfl, rfl, rfl, by decide +kernel, rfl, by decide +kernel, by decide +kernel⟩
abbrev sNet_init : Stmt := inClass (top 40) 0
abbrev NmNet_init : List Str := ["self", "rest", "rows", "name", "other"]
abbrev PNet_init : List Str := ["self", "rest", "rows"]
theorem scNet_init : FnScope NmNet_init PNet_init (defScope sNet_init) := ⟨rfl, rfl, rfl, by decide +kernel, rfl, by decide +kernel, by decide +kernel⟩
abbrev sleads : Stmt := top 28
abbrev Nmleads : List Str := ["net", "demand", "other", "place", "reading", "target", "wanted", "rest", "rested"]
abbrev Pleads : List Str := ["net", "demand", "other"]
theorem scleads : FnScope Nmleads Pleads (defScope sleads) := ⟨rfl, rfl, rfl, by decide +kernel, rfl, by decide +kernel, by decide +kernel⟩
abbrev sbox : Stmt := top 44
abbrev Nmbox : List Str := ["_law_script", "_law_cells", "_law_cell"]
abbrev Pbox : List Str := ["_law_script"]
theorem scbox : FnScope Nmbox Pbox (defScope sbox) := ⟨rfl, rfl, rfl, by decide +kernel, rfl, by decide +kernel, by decide +kernel⟩
abbrev stake : Stmt := top 45
abbrev Nmtake : List Str := ["_law_box_here", "_law_many", "_law_cells", "_law_at", "_law_turn", "_law_cell"]
abbrev Ptake : List Str := ["_law_box_here", "_law_many"]
theorem sctake : FnScope Nmtake Ptake (defScope stake) := ⟨rfl, rfl, rfl, by decide +kernel, rfl, by decide +kernel, by decide +kernel⟩
abbrev splain_form : Stmt := top 46
abbrev Nmplain_form : List Str := ["_law_box_here", "_law_borders", "_law_k"]
abbrev Pplain_form : List Str := ["_law_box_here"]
theorem scplain_form : FnScope Nmplain_form Pplain_form (defScope splain_form) := ⟨rfl, rfl, rfl, by decide +kernel, rfl, by decide +kernel, by decide +kernel⟩
abbrev sform : Stmt := top 47
abbrev Nmform : List Str := ["_law_box_here", "_law_word", "_law_first"]
abbrev Pform : List Str := ["_law_box_here"]
theorem scform : FnScope Nmform Pform (defScope sform) := ⟨rfl, rfl, rfl, by decide +kernel, rfl, by decide +kernel, by decide +kernel⟩
abbrev safter : Stmt := top 48
abbrev Nmafter : List Str := ["_law_form_here", "_law_t", "_law_border", "_law_start", "_law_one"]
abbrev Pafter : List Str := ["_law_form_here", "_law_t"]
theorem scafter : FnScope Nmafter Pafter (defScope safter) := ⟨rfl, rfl, rfl, by decide +kernel, rfl, by decide +kernel, by decide +kernel⟩
abbrev smade : Stmt := top 49
abbrev Nmmade : List Str := ["_law_form_here"]
abbrev Pmade : List Str := ["_law_form_here"]
theorem scmade : FnScope Nmmade Pmade (defScope smade) := ⟨rfl, rfl, rfl, by decide +kernel, rfl, by decide +kernel, by decide +kernel⟩
abbrev srows : Stmt := top 50
abbrev Nmrows : List Str := ["_law_box_here", "_law_size", "_law_errors", "_law_delays", "_law_names", "_law_shift", "_law_rows_here", "_law_k", "_law_above"]
abbrev Prows : List Str := ["_law_box_here", "_law_size", "_law_errors", "_law_delays"]
theorem scrows : FnScope Nmrows Prows (defScope srows) := ⟨rfl, rfl, rfl, by decide +kernel, rfl, by decide +kernel, by decide +kernel⟩
abbrev snet : Stmt := top 51
abbrev Nmnet : List Str := ["_law_rows_here", "_law_form_here", "_law_own"]
abbrev Pnet : List Str := ["_law_rows_here", "_law_form_here"]
theorem scnet : FnScope Nmnet Pnet (defScope snet) := ⟨rfl, rfl, rfl, by decide +kernel, rfl, by decide +kernel, by decide +kernel⟩
abbrev srow : Stmt := top 52
abbrev Nmrow : List Str := ["_law_rows_here", "_law_spot", "_law_row_here"]
abbrev Prow : List Str := ["_law_rows_here", "_law_spot"]
theorem scrow : FnScope Nmrow Prow (defScope srow) := ⟨rfl, rfl, rfl, by decide +kernel, rfl, by decide +kernel, by decide +kernel⟩
abbrev sline : Stmt := top 53
abbrev Nmline : List Str := ["_law_rows_here", "_law_spot", "_law_line_here", "_law_row_here"]
abbrev Pline : List Str := ["_law_rows_here", "_law_spot"]
theorem scline : FnScope Nmline Pline (defScope sline) := ⟨rfl, rfl, rfl, by decide +kernel, rfl, by decide +kernel, by decide +kernel⟩
abbrev sfar : Stmt := top 54
abbrev Nmfar : List Str := ["_law_rows_here", "_law_one", "_law_two", "_law_first", "_law_second", "_law_edges", "_law_spot"]
abbrev Pfar : List Str := ["_law_rows_here", "_law_one", "_law_two"]
theorem scfar : FnScope Nmfar Pfar (defScope sfar) := ⟨rfl, rfl, rfl, by decide +kernel, rfl, by decide +kernel, by decide +kernel⟩
abbrev sgap : Stmt := top 55
abbrev Nmgap : List Str := ["_law_rows_here", "_law_one", "_law_two", "_law_best", "_law_spot", "_law_size"]
abbrev Pgap : List Str := ["_law_rows_here", "_law_one", "_law_two"]
theorem scgap : FnScope Nmgap Pgap (defScope sgap) := ⟨rfl, rfl, rfl, by decide +kernel, rfl, by decide +kernel, by decide +kernel⟩
abbrev sneed : Stmt := top 56
abbrev Nmneed : List Str := ["_law_rows_here", "_law_form_here", "_law_one", "_law_two"]
abbrev Pneed : List Str := ["_law_rows_here", "_law_form_here", "_law_one", "_law_two"]
theorem scneed : FnScope Nmneed Pneed (defScope sneed) := ⟨rfl, rfl, rfl, by decide +kernel, rfl, by decide +kernel, by decide +kernel⟩
abbrev sxleads : Stmt := top 57
abbrev Nmxleads : List Str := ["_law_rows_here", "_law_form_here", "_law_one", "_law_two"]
abbrev Pxleads : List Str := ["_law_rows_here", "_law_form_here", "_law_one", "_law_two"]
theorem scxleads : FnScope Nmxleads Pxleads (defScope sxleads) := ⟨rfl, rfl, rfl, by decide +kernel, rfl, by decide +kernel, by decide +kernel⟩
abbrev schain : Stmt := top 58
abbrev Nmchain : List Str := ["_law_box_here", "_law_rows_here", "_law_form_here", "_law_room", "_law_demands", "_law_k", "_law_one", "_law_spot", "_law_edge"]
abbrev Pchain : List Str := ["_law_box_here", "_law_rows_here", "_law_form_here"]
theorem scchain : FnScope Nmchain Pchain (defScope schain) := ⟨rfl, rfl, rfl, by decide +kernel, rfl, by decide +kernel, by decide +kernel⟩
abbrev slaw : Stmt := top 59
abbrev Nmlaw : List Str := ["_law_script", "_law_box_here", "_law_rows_here", "_law_form_here", "_law_net_here", "_law_demands", "_law_told", "_law_one", "_law_line_here", "_law_two", "_law_again", "_law_due", "_law_three"]
abbrev Plaw : List Str := ["_law_script"]
theorem sclaw : FnScope Nmlaw Plaw (defScope slaw) := ⟨rfl, rfl, rfl, by decide +kernel, rfl, by decide +kernel, by decide +kernel⟩
structure Txt (K : PySem.W.Frag) (mg : Str → Option Value) : Prop where
  n_all : mg "all" = none
  n_bool : mg "bool" = none
  n_dict : mg "dict" = none
  n_enumerate : mg "enumerate" = none
  n_int : mg "int" = none
  n_isinstance : mg "isinstance" = none
  n_len : mg "len" = none
  n_list : mg "list" = none
  n_max : mg "max" = none
  n_min : mg "min" = none
  n_range : mg "range" = none
  n_repr : mg "repr" = none
  n_reversed : mg "reversed" = none
  n_str : mg "str" = none
  n_sum : mg "sum" = none
  n_super : mg "super" = none
  n_tuple : mg "tuple" = none
  c_DIGITS : ∃ t, mg "DIGITS" = some (.str "0123456789" t)
  c_LETTERS : ∃ t, mg "LETTERS" = some (.str "abcdefghijklmnopqrstuvwxyz" t)
  c_MOST_BORDERS : ∃ t, mg "MOST_BORDERS" = some (.int 12 t)
  c_MOST_ERROR : ∃ t, mg "MOST_ERROR" = some (.int 100 t)
  c_MOST_FORMS : ∃ t, mg "MOST_FORMS" = some (.int 6 t)
  c_MOST_NET_PLACES : ∃ t, mg "MOST_NET_PLACES" = some (.int 12 t)
  c_MOST_PERIOD : ∃ t, mg "MOST_PERIOD" = some (.int 2000 t)
  c_MOST_SIZE : ∃ t, mg "MOST_SIZE" = some (.int 1000 t)
open RM
/-- the addresses of what the program's top has made for the rests -/
structure Ad where
  (R W D L S N fRi fF fP fB fW Wi Di Li Si Ni Wc Dc Lc Sc Nc : Addr)
/-- what the written part says of a class of rests -/
structure RC (K : PySem.W.Frag) (a : Ad) (C : Addr) : Prop where
  cl : Cls K C
  nT : NoAttr K C "_text"
  nF : NoAttr K C "_forms"
  nP : NoAttr K C "_period"
  nB : NoAttr K C "_bend"
  mF : Meth K C "forms" a.fF
  mP : Meth K C "period" a.fP
  mB : Meth K C "bend" a.fB
  mW : Meth K C "written" a.fW
  me : PySem.W.kitOne K (.ref C) (.ref a.R) = some true
  ha : PySem.W.findIn K (.ref C) "__class__" = some (some (.builtin "object.__class__"))
  hn : PySem.W.specialIn K (.builtin "object.__class__") "__get__" = some (some (.builtin "getset_descriptor.__get__"))
  htk : PySem.W.takesIn K (.builtin "object.__class__") = some true
  hm : PySem.W.mroIn K C (.type "object") = some true
structure Kn (K : PySem.W.Frag) (mg : Str → Option Value) (a : Ad) : Prop where
  w : RC K a a.W
  d : RC K a a.D
  l : RC K a a.L
  s : RC K a a.S
  n : RC K a a.N
  nw : NoAttr K a.W "width"
  nb : NoAttr K a.D "_borders"
  ne : NoAttr K a.D "every"
  l1 : NoAttr K a.L "first"
  l2 : NoAttr K a.L "second"
  s1 : NoAttr K a.S "first"
  s2 : NoAttr K a.S "second"
  n1 : NoAttr K a.N "first"
  n2 : NoAttr K a.N "second"
  kW : PySem.W.keepIn K (.ref a.fW) = true
  kF : PySem.W.keepIn K (.ref a.fF) = true
  kP : PySem.W.keepIn K (.ref a.fP) = true
  kB : PySem.W.keepIn K (.ref a.fB) = true
  gR : mg "Rest" = some (.ref a.R)
  gl : mg "lcm" = some (.builtin "math.lcm")
  gWindow : mg "Window" = some (.ref a.W)
  gDays : mg "Days" = some (.ref a.D)
  gLater : mg "Later" = some (.ref a.L)
  gSooner : mg "Sooner" = some (.ref a.S)
  gNext : mg "Next" = some (.ref a.N)
  mWindow : Mk K a.W a.Wi
  mDays : Mk K a.D a.Di
  mLater : Mk K a.L a.Li
  mSooner : Mk K a.S a.Si
  mNext : Mk K a.N a.Ni
  cW : StX.CallO K a.W a.Wc
  cD : StX.CallO K a.D a.Dc
  cL : StX.CallO K a.L a.Lc
  cS : StX.CallO K a.S a.Sc
  cN : StX.CallO K a.N a.Nc
/-! ### the plans as they stand in the heap -/
def Kt (H H' : Hp) : Prop := ∀ b xs, H b = some (.tup xs) → H' b = some (.tup xs)
theorem Kt.refl (H : Hp) : Kt H H := fun _ _ h => h
theorem Kt.trans {H H1 H2 : Hp} (a : Kt H H1) (b : Kt H1 H2) : Kt H H2 := fun c o h => b c o (a c o h)
theorem Kt.new {H : Hp} {p : Addr} {o : HO} (h : H p = none) : Kt H (upd H p o) := fun b xs e => by
  rw [upd_ne (ne_of_none e h)]
  exact e
theorem Kt.lst {H : Hp} {p : Addr} {o : HO} {xs : List V} (h : H p = some (.lst xs)) : Kt H (upd H p o) := fun b ys e => by
  rw [upd_ne (ne_of e h (by intro z; cases z))]
  exact e
theorem Kt.same {H H' : Hp} (s : Same H H') : Kt H H' := fun b xs e => s b _ e
theorem Kt.ok {g l : Addr} {H H' : Hp} (r : Ok g l H H') : Kt H H' := fun b xs e => by
  obtain ⟨⟨ys, q⟩, _⟩ := r.b0.there
  refine r.kp b _ (fun z => ?_) e
  rw [z, q] at e
  cases e
def PlanAt (H : Hp) : Pl → Addr → Prop
  | .win w, x => H x = some (.tup [.str "window", .int w])
  | .days bs e, x => ∃ y, H x = some (.tup [.str "days", .ref y, .int e]) ∧ H y = some (.tup (bs.map V.int))
  | .lat p q, x => ∃ y z, H x = some (.tup [.str "later", .ref y, .ref z]) ∧ PlanAt H p y ∧ PlanAt H q z
  | .soo p q, x => ∃ y z, H x = some (.tup [.str "sooner", .ref y, .ref z]) ∧ PlanAt H p y ∧ PlanAt H q z
  | .nex p q, x => ∃ y z, H x = some (.tup [.str "next", .ref y, .ref z]) ∧ PlanAt H p y ∧ PlanAt H q z
theorem PlanAt.kt {H H' : Hp} (k : Kt H H') : ∀ {p : Pl} {x : Addr}, PlanAt H p x → PlanAt H' p x
  | .win w, x, h => k _ _ h
  | .days bs e, x, ⟨y, h1, h2⟩ => ⟨y, k _ _ h1, k _ _ h2⟩
  | .lat p q, x, ⟨y, z, h1, h2, h3⟩ => ⟨y, z, k _ _ h1, h2.kt k, h3.kt k⟩
  | .soo p q, x, ⟨y, z, h1, h2, h3⟩ => ⟨y, z, k _ _ h1, h2.kt k, h3.kt k⟩
  | .nex p q, x, ⟨y, z, h1, h2, h3⟩ => ⟨y, z, k _ _ h1, h2.kt k, h3.kt k⟩
/-! ### the rests as they stand in the heap -/
def tb : Nat → Nat
  | 0 => 40000
  | n + 1 => 2 * tb n + 40
theorem tb_le : ∀ {m n : Nat}, m ≤ n → tb m ≤ tb n
  | m, 0, h => by obtain rfl : m = 0 := by omega
                  exact Nat.le_refl _
  | m, n + 1, h => by
    by_cases e : m = n + 1
    · rw [e]; exact Nat.le_refl _
    · have := tb_le (m := m) (n := n) (by omega)
      show tb m ≤ 2 * tb n + 40
      omega
def four (t : Str) (p : Pl) (fs : List (Str × V)) : List (Str × V) := putF "_bend" (.int p.bend) (putF "_period" (.int p.per) (putF "_forms" (.int p.forms) (putF "_text" (.str t) fs)))
def winF (t : Str) (w : Int) : List (Str × V) := putF "width" (.int w) (four t (.win w) [])
def dayF (t : Str) (bs : List Int) (e : Int) (b : Addr) : List (Str × V) := four t (.days bs e) (putF "every" (.int e) (putF "_borders" (.ref b) []))
def pairF (t : Str) (p : Pl) (y z : Addr) : List (Str × V) := putF "second" (.ref z) (putF "first" (.ref y) (four t p []))
/-- all but what is in F is as it was -/
def KpF (F : Addr → Prop) (H H' : Hp) : Prop := ∀ b o, ¬ F b → H b = some o → H' b = some o
theorem KpF.same {F : Addr → Prop} {H H' : Hp} (s : Same H H') : KpF F H H' := fun b o _ e => s b o e
theorem KpF.kp {F : Addr → Prop} {g : Addr} {H H' : Hp} (hg : F g) (k : Kp g H H') : KpF F H H' := fun b o n e => k b o (fun z => n (z ▸ hg)) e
def RestAt (a : Ad) (g : Addr → Prop) (H : Hp) : Pl → Addr → Prop
  | .win w, x => ¬ g x ∧ ∃ dx t, H x = some (.ins a.W dx (winF t w)) ∧ t.length ≤ tb 0
  | .days bs e, x => ¬ g x ∧ ∃ dx t b, H x = some (.ins a.D dx (dayF t bs e b)) ∧ t.length ≤ tb 0 ∧ ¬ g b ∧ H b = some (.lst (bs.map V.int))
  | .lat p q, x => ¬ g x ∧ ∃ dx t y z, H x = some (.ins a.L dx (pairF t (.lat p q) y z)) ∧ t.length ≤ tb (Pl.lat p q).h ∧ RestAt a g H p y ∧ RestAt a g H q z
  | .soo p q, x => ¬ g x ∧ ∃ dx t y z, H x = some (.ins a.S dx (pairF t (.soo p q) y z)) ∧ t.length ≤ tb (Pl.soo p q).h ∧ RestAt a g H p y ∧ RestAt a g H q z
  | .nex p q, x => ¬ g x ∧ ∃ dx t y z, H x = some (.ins a.N dx (pairF t (.nex p q) y z)) ∧ t.length ≤ tb (Pl.nex p q).h ∧ RestAt a g H p y ∧ RestAt a g H q z
theorem RestAt.kp {a : Ad} {g : Addr → Prop} {H H' : Hp} (k : KpF g H H') : ∀ {p : Pl} {x : Addr}, RestAt a g H p x → RestAt a g H' p x
  | .win w, x, ⟨n, dx, t, h, l⟩ => ⟨n, dx, t, k _ _ n h, l⟩
  | .days bs e, x, ⟨n, dx, t, b, h, l, nb, hb⟩ => ⟨n, dx, t, b, k _ _ n h, l, nb, k _ _ nb hb⟩
  | .lat p q, x, ⟨n, dx, t, y, z, h, l, h2, h3⟩ => ⟨n, dx, t, y, z, k _ _ n h, l, h2.kp k, h3.kp k⟩
  | .soo p q, x, ⟨n, dx, t, y, z, h, l, h2, h3⟩ => ⟨n, dx, t, y, z, k _ _ n h, l, h2.kp k, h3.kp k⟩
  | .nex p q, x, ⟨n, dx, t, y, z, h, l, h2, h3⟩ => ⟨n, dx, t, y, z, k _ _ n h, l, h2.kp k, h3.kp k⟩
theorem RestAt.mono {a : Ad} {F G : Addr → Prop} {H : Hp} (k : ∀ b, G b → F b) : ∀ {p : Pl} {x : Addr}, RestAt a F H p x → RestAt a G H p x
  | .win w, x, ⟨n, dx, t, h, l⟩ => ⟨fun z => n (k _ z), dx, t, h, l⟩
  | .days bs e, x, ⟨n, dx, t, b, h, l, nb, hb⟩ => ⟨fun z => n (k _ z), dx, t, b, h, l, fun z => nb (k _ z), hb⟩
  | .lat p q, x, ⟨n, dx, t, y, z, h, l, h2, h3⟩ => ⟨fun z => n (k _ z), dx, t, y, z, h, l, h2.mono k, h3.mono k⟩
  | .soo p q, x, ⟨n, dx, t, y, z, h, l, h2, h3⟩ => ⟨fun z => n (k _ z), dx, t, y, z, h, l, h2.mono k, h3.mono k⟩
  | .nex p q, x, ⟨n, dx, t, y, z, h, l, h2, h3⟩ => ⟨fun z => n (k _ z), dx, t, y, z, h, l, h2.mono k, h3.mono k⟩
theorem RestAt.same {a : Ad} {g : Addr → Prop} {H H' : Hp} {p : Pl} {x : Addr} (s : Same H H') (r : RestAt a g H p x) : RestAt a g H' p x := r.kp (KpF.same s)
/-- lookups in what was put -/
theorem lk_eq {f : Str} {v : V} {fs : List (Str × V)} : (putF f v fs).lookup f = some v := by rw [lookup_putF, if_pos rfl]
theorem lk_ne {f m : Str} {v : V} {fs : List (Str × V)} (h : decide (m = f) = false) : (putF f v fs).lookup m = fs.lookup m := by rw [lookup_putF, if_neg (of_decide_eq_false h)]
structure Four (t : Str) (p : Pl) (fs : List (Str × V)) : Prop where
  vt : fs.lookup ("_text" : Str) = some (.str t)
  vf : fs.lookup ("_forms" : Str) = some (.int p.forms)
  vp : fs.lookup ("_period" : Str) = some (.int p.per)
  vb : fs.lookup ("_bend" : Str) = some (.int p.bend)
  mw : fs.lookup ("written" : Str) = none
  mf : fs.lookup ("forms" : Str) = none
  mp : fs.lookup ("period" : Str) = none
  mb : fs.lookup ("bend" : Str) = none
theorem four_win {t : Str} {w : Int} : Four t (.win w) (winF t w) := by unfold winF four; exact ⟨by (first | rfl | exact lk_eq | (rw [lk_ne (by decide +kernel)]; (first | rfl | exact lk_eq | (rw [lk_ne (by decide +kernel)]; (first | rfl | exact lk_eq | (rw [lk_ne (by decide +kernel)]; (first | rfl | exact lk_eq | (rw [lk_ne (by decide +kernel)]; (first | rfl | exact lk_eq | (rw [lk_ne (by decide +kernel)]; (first | rfl | exact lk_eq | (rw [lk_ne (by decide +kernel)]; (first | rfl | exact lk_eq | (rw [lk_ne (by decide +kernel)]; (first | rfl | exact lk_eq))))))))))))))), by (first | rfl | exact lk_eq | (rw [lk_ne (by decide +kernel)]; (first | rfl | exact lk_eq | (rw [lk_ne (by decide +kernel)]; (first | rfl | exact lk_eq | (rw [lk_ne (by decide +kernel)]; (first | rfl | exact lk_eq | (rw [lk_ne (by decide +kernel)]; (first | rfl | exact lk_eq | (rw [lk_ne (by decide +kernel)]; (first | rfl | exact lk_eq | (rw [lk_ne (by decide +kernel)]; (first | rfl | exact lk_eq | (rw [lk_ne (by decide +kernel)]; (first | rfl | exact lk_eq))))))))))))))), by (first | rfl | exact lk_eq | (rw [lk_ne (by decide +kernel)]; (first | rfl | exact lk_eq | (rw [lk_ne (by decide +kernel)]; (first | rfl | exact lk_eq | (rw [lk_ne (by decide +kernel)]; (first | rfl | exact lk_eq | (rw [lk_ne (by decide +kernel)]; (first | rfl | exact lk_eq | (rw [lk_ne (by decide +kernel)]; (first | rfl | exact lk_eq | (rw [lk_ne (by decide +kernel)]; (first | rfl | exact lk_eq | (rw [lk_ne (by decide +kernel)]; (first | rfl | exact lk_eq))))))))))))))), by (first | rfl | exact lk_eq | (rw [lk_ne (by decide +kernel)]; (first | rfl | exact lk_eq | (rw [lk_ne (by decide +kernel)]; (first | rfl | exact lk_eq | (rw [lk_ne (by decide +kernel)]; (first | rfl | exact lk_eq | (rw [lk_ne (by decide +kernel)]; (first | rfl | exact lk_eq | (rw [lk_ne (by decide +kernel)]; (first | rfl | exact lk_eq | (rw [lk_ne (by decide +kernel)]; (first | rfl | exact lk_eq | (rw [lk_ne (by decide +kernel)]; (first | rfl | exact lk_eq))))))))))))))), by (first | rfl | exact lk_eq | (rw [lk_ne (by decide +kernel)]; (first | rfl | exact lk_eq | (rw [lk_ne (by decide +kernel)]; (first | rfl | exact lk_eq | (rw [lk_ne (by decide +kernel)]; (first | rfl | exact lk_eq | (rw [lk_ne (by decide +kernel)]; (first | rfl | exact lk_eq | (rw [lk_ne (by decide +kernel)]; (first | rfl | exact lk_eq | (rw [lk_ne (by decide +kernel)]; (first | rfl | exact lk_eq | (rw [lk_ne (by decide +kernel)]; (first | rfl | exact lk_eq))))))))))))))), by (first | rfl | exact lk_eq | (rw [lk_ne (by decide +kernel)]; (first | rfl | exact lk_eq | (rw [lk_ne (by decide +kernel)]; (first | rfl | exact lk_eq | (rw [lk_ne (by decide +kernel)]; (first | rfl | exact lk_eq | (rw [lk_ne (by decide +kernel)]; (first | rfl | exact lk_eq | (rw [lk_ne (by decide +kernel)]; (first | rfl | exact lk_eq | (rw [lk_ne (by decide +kernel)]; (first | rfl | exact lk_eq | (rw [lk_ne (by decide +kernel)]; (first | rfl | exact lk_eq))))))))))))))), by (first | rfl | exact lk_eq | (rw [lk_ne (by decide +kernel)]; (first | rfl | exact lk_eq | (rw [lk_ne (by decide +kernel)]; (first | rfl | exact lk_eq | (rw [lk_ne (by decide +kernel)]; (first | rfl | exact lk_eq | (rw [lk_ne (by decide +kernel)]; (first | rfl | exact lk_eq | (rw [lk_ne (by decide +kernel)]; (first | rfl | exact lk_eq | (rw [lk_ne (by decide +kernel)]; (first | rfl | exact lk_eq | (rw [lk_ne (by decide +kernel)]; (first | rfl | exact lk_eq))))))))))))))), by (first | rfl | exact lk_eq | (rw [lk_ne (by decide +kernel)]; (first | rfl | exact lk_eq | (rw [lk_ne (by decide +kernel)]; (first | rfl | exact lk_eq | (rw [lk_ne (by decide +kernel)]; (first | rfl | exact lk_eq | (rw [lk_ne (by decide +kernel)]; (first | rfl | exact lk_eq | (rw [lk_ne (by decide +kernel)]; (first | rfl | exact lk_eq | (rw [lk_ne (by decide +kernel)]; (first | rfl | exact lk_eq | (rw [lk_ne (by decide +kernel)]; (first | rfl | exact lk_eq)))))))))))))))⟩
theorem four_day {t : Str} {bs : List Int} {e : Int} {b : Addr} : Four t (.days bs e) (dayF t bs e b) := by unfold dayF four; exact ⟨by (first | rfl | exact lk_eq | (rw [lk_ne (by decide +kernel)]; (first | rfl | exact lk_eq | (rw [lk_ne (by decide +kernel)]; (first | rfl | exact lk_eq | (rw [lk_ne (by decide +kernel)]; (first | rfl | exact lk_eq | (rw [lk_ne (by decide +kernel)]; (first | rfl | exact lk_eq | (rw [lk_ne (by decide +kernel)]; (first | rfl | exact lk_eq | (rw [lk_ne (by decide +kernel)]; (first | rfl | exact lk_eq | (rw [lk_ne (by decide +kernel)]; (first | rfl | exact lk_eq))))))))))))))), by (first | rfl | exact lk_eq | (rw [lk_ne (by decide +kernel)]; (first | rfl | exact lk_eq | (rw [lk_ne (by decide +kernel)]; (first | rfl | exact lk_eq | (rw [lk_ne (by decide +kernel)]; (first | rfl | exact lk_eq | (rw [lk_ne (by decide +kernel)]; (first | rfl | exact lk_eq | (rw [lk_ne (by decide +kernel)]; (first | rfl | exact lk_eq | (rw [lk_ne (by decide +kernel)]; (first | rfl | exact lk_eq | (rw [lk_ne (by decide +kernel)]; (first | rfl | exact lk_eq))))))))))))))), by (first | rfl | exact lk_eq | (rw [lk_ne (by decide +kernel)]; (first | rfl | exact lk_eq | (rw [lk_ne (by decide +kernel)]; (first | rfl | exact lk_eq | (rw [lk_ne (by decide +kernel)]; (first | rfl | exact lk_eq | (rw [lk_ne (by decide +kernel)]; (first | rfl | exact lk_eq | (rw [lk_ne (by decide +kernel)]; (first | rfl | exact lk_eq | (rw [lk_ne (by decide +kernel)]; (first | rfl | exact lk_eq | (rw [lk_ne (by decide +kernel)]; (first | rfl | exact lk_eq))))))))))))))), by (first | rfl | exact lk_eq | (rw [lk_ne (by decide +kernel)]; (first | rfl | exact lk_eq | (rw [lk_ne (by decide +kernel)]; (first | rfl | exact lk_eq | (rw [lk_ne (by decide +kernel)]; (first | rfl | exact lk_eq | (rw [lk_ne (by decide +kernel)]; (first | rfl | exact lk_eq | (rw [lk_ne (by decide +kernel)]; (first | rfl | exact lk_eq | (rw [lk_ne (by decide +kernel)]; (first | rfl | exact lk_eq | (rw [lk_ne (by decide +kernel)]; (first | rfl | exact lk_eq))))))))))))))), by (first | rfl | exact lk_eq | (rw [lk_ne (by decide +kernel)]; (first | rfl | exact lk_eq | (rw [lk_ne (by decide +kernel)]; (first | rfl | exact lk_eq | (rw [lk_ne (by decide +kernel)]; (first | rfl | exact lk_eq | (rw [lk_ne (by decide +kernel)]; (first | rfl | exact lk_eq | (rw [lk_ne (by decide +kernel)]; (first | rfl | exact lk_eq | (rw [lk_ne (by decide +kernel)]; (first | rfl | exact lk_eq | (rw [lk_ne (by decide +kernel)]; (first | rfl | exact lk_eq))))))))))))))), by (first | rfl | exact lk_eq | (rw [lk_ne (by decide +kernel)]; (first | rfl | exact lk_eq | (rw [lk_ne (by decide +kernel)]; (first | rfl | exact lk_eq | (rw [lk_ne (by decide +kernel)]; (first | rfl | exact lk_eq | (rw [lk_ne (by decide +kernel)]; (first | rfl | exact lk_eq | (rw [lk_ne (by decide +kernel)]; (first | rfl | exact lk_eq | (rw [lk_ne (by decide +kernel)]; (first | rfl | exact lk_eq | (rw [lk_ne (by decide +kernel)]; (first | rfl | exact lk_eq))))))))))))))), by (first | rfl | exact lk_eq | (rw [lk_ne (by decide +kernel)]; (first | rfl | exact lk_eq | (rw [lk_ne (by decide +kernel)]; (first | rfl | exact lk_eq | (rw [lk_ne (by decide +kernel)]; (first | rfl | exact lk_eq | (rw [lk_ne (by decide +kernel)]; (first | rfl | exact lk_eq | (rw [lk_ne (by decide +kernel)]; (first | rfl | exact lk_eq | (rw [lk_ne (by decide +kernel)]; (first | rfl | exact lk_eq | (rw [lk_ne (by decide +kernel)]; (first | rfl | exact lk_eq))))))))))))))), by (first | rfl | exact lk_eq | (rw [lk_ne (by decide +kernel)]; (first | rfl | exact lk_eq | (rw [lk_ne (by decide +kernel)]; (first | rfl | exact lk_eq | (rw [lk_ne (by decide +kernel)]; (first | rfl | exact lk_eq | (rw [lk_ne (by decide +kernel)]; (first | rfl | exact lk_eq | (rw [lk_ne (by decide +kernel)]; (first | rfl | exact lk_eq | (rw [lk_ne (by decide +kernel)]; (first | rfl | exact lk_eq | (rw [lk_ne (by decide +kernel)]; (first | rfl | exact lk_eq)))))))))))))))⟩
theorem four_pair {t : Str} {p : Pl} {y z : Addr} : Four t p (pairF t p y z) := by unfold pairF four; exact ⟨by (first | rfl | exact lk_eq | (rw [lk_ne (by decide +kernel)]; (first | rfl | exact lk_eq | (rw [lk_ne (by decide +kernel)]; (first | rfl | exact lk_eq | (rw [lk_ne (by decide +kernel)]; (first | rfl | exact lk_eq | (rw [lk_ne (by decide +kernel)]; (first | rfl | exact lk_eq | (rw [lk_ne (by decide +kernel)]; (first | rfl | exact lk_eq | (rw [lk_ne (by decide +kernel)]; (first | rfl | exact lk_eq | (rw [lk_ne (by decide +kernel)]; (first | rfl | exact lk_eq))))))))))))))), by (first | rfl | exact lk_eq | (rw [lk_ne (by decide +kernel)]; (first | rfl | exact lk_eq | (rw [lk_ne (by decide +kernel)]; (first | rfl | exact lk_eq | (rw [lk_ne (by decide +kernel)]; (first | rfl | exact lk_eq | (rw [lk_ne (by decide +kernel)]; (first | rfl | exact lk_eq | (rw [lk_ne (by decide +kernel)]; (first | rfl | exact lk_eq | (rw [lk_ne (by decide +kernel)]; (first | rfl | exact lk_eq | (rw [lk_ne (by decide +kernel)]; (first | rfl | exact lk_eq))))))))))))))), by (first | rfl | exact lk_eq | (rw [lk_ne (by decide +kernel)]; (first | rfl | exact lk_eq | (rw [lk_ne (by decide +kernel)]; (first | rfl | exact lk_eq | (rw [lk_ne (by decide +kernel)]; (first | rfl | exact lk_eq | (rw [lk_ne (by decide +kernel)]; (first | rfl | exact lk_eq | (rw [lk_ne (by decide +kernel)]; (first | rfl | exact lk_eq | (rw [lk_ne (by decide +kernel)]; (first | rfl | exact lk_eq | (rw [lk_ne (by decide +kernel)]; (first | rfl | exact lk_eq))))))))))))))), by (first | rfl | exact lk_eq | (rw [lk_ne (by decide +kernel)]; (first | rfl | exact lk_eq | (rw [lk_ne (by decide +kernel)]; (first | rfl | exact lk_eq | (rw [lk_ne (by decide +kernel)]; (first | rfl | exact lk_eq | (rw [lk_ne (by decide +kernel)]; (first | rfl | exact lk_eq | (rw [lk_ne (by decide +kernel)]; (first | rfl | exact lk_eq | (rw [lk_ne (by decide +kernel)]; (first | rfl | exact lk_eq | (rw [lk_ne (by decide +kernel)]; (first | rfl | exact lk_eq))))))))))))))), by (first | rfl | exact lk_eq | (rw [lk_ne (by decide +kernel)]; (first | rfl | exact lk_eq | (rw [lk_ne (by decide +kernel)]; (first | rfl | exact lk_eq | (rw [lk_ne (by decide +kernel)]; (first | rfl | exact lk_eq | (rw [lk_ne (by decide +kernel)]; (first | rfl | exact lk_eq | (rw [lk_ne (by decide +kernel)]; (first | rfl | exact lk_eq | (rw [lk_ne (by decide +kernel)]; (first | rfl | exact lk_eq | (rw [lk_ne (by decide +kernel)]; (first | rfl | exact lk_eq))))))))))))))), by (first | rfl | exact lk_eq | (rw [lk_ne (by decide +kernel)]; (first | rfl | exact lk_eq | (rw [lk_ne (by decide +kernel)]; (first | rfl | exact lk_eq | (rw [lk_ne (by decide +kernel)]; (first | rfl | exact lk_eq | (rw [lk_ne (by decide +kernel)]; (first | rfl | exact lk_eq | (rw [lk_ne (by decide +kernel)]; (first | rfl | exact lk_eq | (rw [lk_ne (by decide +kernel)]; (first | rfl | exact lk_eq | (rw [lk_ne (by decide +kernel)]; (first | rfl | exact lk_eq))))))))))))))), by (first | rfl | exact lk_eq | (rw [lk_ne (by decide +kernel)]; (first | rfl | exact lk_eq | (rw [lk_ne (by decide +kernel)]; (first | rfl | exact lk_eq | (rw [lk_ne (by decide +kernel)]; (first | rfl | exact lk_eq | (rw [lk_ne (by decide +kernel)]; (first | rfl | exact lk_eq | (rw [lk_ne (by decide +kernel)]; (first | rfl | exact lk_eq | (rw [lk_ne (by decide +kernel)]; (first | rfl | exact lk_eq | (rw [lk_ne (by decide +kernel)]; (first | rfl | exact lk_eq))))))))))))))), by (first | rfl | exact lk_eq | (rw [lk_ne (by decide +kernel)]; (first | rfl | exact lk_eq | (rw [lk_ne (by decide +kernel)]; (first | rfl | exact lk_eq | (rw [lk_ne (by decide +kernel)]; (first | rfl | exact lk_eq | (rw [lk_ne (by decide +kernel)]; (first | rfl | exact lk_eq | (rw [lk_ne (by decide +kernel)]; (first | rfl | exact lk_eq | (rw [lk_ne (by decide +kernel)]; (first | rfl | exact lk_eq | (rw [lk_ne (by decide +kernel)]; (first | rfl | exact lk_eq)))))))))))))))⟩
theorem lk_width {t : Str} {w : Int} : (winF t w).lookup ("width" : Str) = some (.int w) := lk_eq
theorem lk_borders {t : Str} {bs : List Int} {e : Int} {b : Addr} : (dayF t bs e b).lookup ("_borders" : Str) = some (.ref b) := by unfold dayF four; (first | rfl | exact lk_eq | (rw [lk_ne (by decide +kernel)]; (first | rfl | exact lk_eq | (rw [lk_ne (by decide +kernel)]; (first | rfl | exact lk_eq | (rw [lk_ne (by decide +kernel)]; (first | rfl | exact lk_eq | (rw [lk_ne (by decide +kernel)]; (first | rfl | exact lk_eq | (rw [lk_ne (by decide +kernel)]; (first | rfl | exact lk_eq | (rw [lk_ne (by decide +kernel)]; (first | rfl | exact lk_eq | (rw [lk_ne (by decide +kernel)]; (first | rfl | exact lk_eq)))))))))))))))
theorem lk_every {t : Str} {bs : List Int} {e : Int} {b : Addr} : (dayF t bs e b).lookup ("every" : Str) = some (.int e) := by unfold dayF four; (first | rfl | exact lk_eq | (rw [lk_ne (by decide +kernel)]; (first | rfl | exact lk_eq | (rw [lk_ne (by decide +kernel)]; (first | rfl | exact lk_eq | (rw [lk_ne (by decide +kernel)]; (first | rfl | exact lk_eq | (rw [lk_ne (by decide +kernel)]; (first | rfl | exact lk_eq | (rw [lk_ne (by decide +kernel)]; (first | rfl | exact lk_eq | (rw [lk_ne (by decide +kernel)]; (first | rfl | exact lk_eq | (rw [lk_ne (by decide +kernel)]; (first | rfl | exact lk_eq)))))))))))))))
theorem lk_first {t : Str} {p : Pl} {y z : Addr} : (pairF t p y z).lookup ("first" : Str) = some (.ref y) := by unfold pairF; (first | rfl | exact lk_eq | (rw [lk_ne (by decide +kernel)]; (first | rfl | exact lk_eq | (rw [lk_ne (by decide +kernel)]; (first | rfl | exact lk_eq | (rw [lk_ne (by decide +kernel)]; (first | rfl | exact lk_eq | (rw [lk_ne (by decide +kernel)]; (first | rfl | exact lk_eq | (rw [lk_ne (by decide +kernel)]; (first | rfl | exact lk_eq | (rw [lk_ne (by decide +kernel)]; (first | rfl | exact lk_eq | (rw [lk_ne (by decide +kernel)]; (first | rfl | exact lk_eq)))))))))))))))
theorem lk_second {t : Str} {p : Pl} {y z : Addr} : (pairF t p y z).lookup ("second" : Str) = some (.ref z) := lk_eq
theorem RestAt.view {K : PySem.W.Frag} {mg : Str → Option Value} {a : Ad} {g : Addr → Prop} {H : Hp} (KN : Kn K mg a) : ∀ {p : Pl} {x : Addr}, RestAt a g H p x → ∃ C dx fs t, H x = some (.ins C dx fs) ∧ RC K a C ∧ Four t p fs ∧ t.length ≤ tb p.h
  | .win w, x, ⟨n, dx, t, h, l⟩ => ⟨_, _, _, t, h, KN.w, four_win, l⟩
  | .days bs e, x, ⟨n, dx, t, b, h, l, nb, hb⟩ => ⟨_, _, _, t, h, KN.d, four_day, l⟩
  | .lat p q, x, ⟨n, dx, t, y, z, h, l, h2, h3⟩ => ⟨_, _, _, t, h, KN.l, four_pair, l⟩
  | .soo p q, x, ⟨n, dx, t, y, z, h, l, h2, h3⟩ => ⟨_, _, _, t, h, KN.s, four_pair, l⟩
  | .nex p q, x, ⟨n, dx, t, y, z, h, l, h2, h3⟩ => ⟨_, _, _, t, h, KN.n, four_pair, l⟩

theorem join_le (a : Str) {B : Nat} : ∀ {ys : List Str}, (∀ y ∈ ys, y.length ≤ B) → (Str.join a ys).length ≤ ys.length * (B + a.length)
  | [], _ => Nat.zero_le _
  | [y], h => by
    have := h y (by simp)
    show y.length ≤ 1 * (B + a.length)
    omega
  | y :: z :: r, h => by
    have ih := join_le a (ys := z :: r) fun t ht => h t (List.mem_cons_of_mem _ ht)
    have := h y (by simp)
    show (y ++ a ++ Str.join a (z :: r)).length ≤ _
    rw [Str.length_append, Str.length_append]
    have e : (y :: z :: r).length * (B + a.length) = (z :: r).length * (B + a.length) + (B + a.length) := by
      show ((z :: r).length + 1) * (B + a.length) = _
      rw [Nat.add_mul, Nat.one_mul]
    omega
theorem sum_le {B : Nat} : ∀ {ys : List Str}, (∀ y ∈ ys, y.length ≤ B) → (ys.map (·.length)).sum ≤ ys.length * B
  | [], _ => Nat.zero_le _
  | y :: r, h => by
    have ih := sum_le (ys := r) fun t ht => h t (List.mem_cons_of_mem _ ht)
    have := h y (by simp)
    show y.length + (r.map (·.length)).sum ≤ (r.length + 1) * B
    rw [Nat.add_mul, Nat.one_mul]
    omega
theorem int_len {i : Int} (h0 : -1000000 ≤ i) (h1 : i ≤ 1000000) : (PySem.Str.ofString (toString i)).length ≤ 1921 := PyProof.Rows.int_text_len_1921 (log_small h0 h1)

theorem same_mk {Hb H H1 : Hp} {x q : Addr} {o : HO} (hb : Hb x = none) (sb : Same Hb H) (hq : H q = none) (h2 : ∀ y, y ≠ x → H1 y = upd H q o y) : Same Hb H1 := fun c u e => by
  have nx : c ≠ x := ne_of_none e hb
  rw [h2 c nx, upd_ne (ne_of_none (sb c u e) hq)]
  exact sb c u e
theorem same_upd {Hb H : Hp} {x : Addr} {o : HO} (hb : Hb x = none) (s : Same Hb H) : Same Hb (upd H x o) := fun c u e => by
  rw [upd_ne (ne_of_none e hb)]
  exact s c u e
theorem four_len (t : Str) (p : Pl) (fs : List (Str × V)) : (four t p fs).length ≤ fs.length + 4 := by
  unfold four
  have l1 := length_putF "_text" (.str t) fs
  have l2 := length_putF "_forms" (.int p.forms) (putF "_text" (.str t) fs)
  have l3 := length_putF "_period" (.int p.per) (putF "_forms" (.int p.forms) (putF "_text" (.str t) fs))
  have l4 := length_putF "_bend" (.int p.bend) (putF "_period" (.int p.per) (putF "_forms" (.int p.forms) (putF "_text" (.str t) fs)))
  omega

/-! ### beside the bag and the box -/
def Kx (g bx : Addr) (H H' : Hp) : Prop := ∀ b o, b ≠ g → b ≠ bx → H b = some o → H' b = some o
theorem Kx.refl (g bx : Addr) (H : Hp) : Kx g bx H H := fun _ _ _ _ h => h
theorem Kx.trans {g bx : Addr} {H H1 H2 : Hp} (a : Kx g bx H H1) (b : Kx g bx H1 H2) : Kx g bx H H2 := fun c o n m h => b c o n m (a c o n m h)
theorem Kx.ok {g l bx : Addr} {H H1 H2 : Hp} (a : Kx g bx H H1) (r : Ok g l H1 H2) : Kx g bx H H2 := fun c o n m h => r.kp c o n (a c o n m h)
theorem Kx.same {g bx : Addr} {H H1 H2 : Hp} (a : Kx g bx H H1) (r : Same H1 H2) : Kx g bx H H2 := fun c o n m h => r c o (a c o n m h)
theorem Kx.new {g bx p : Addr} {H H1 : Hp} {o : HO} (a : Kx g bx H H1) (h : H1 p = none) : Kx g bx H (upd H1 p o) := fun c u n m e => by
  have q := a c u n m e
  rw [upd_ne (ne_of_none q h)]
  exact q
theorem Kx.box {g bx : Addr} {H H1 : Hp} {o : HO} (a : Kx g bx H H1) : Kx g bx H (upd H1 bx o) := fun c u n m e => by
  rw [upd_ne m]
  exact a c u n m e
theorem Kx.mut {g bx p : Addr} {H H1 : Hp} {o : HO} (a : Kx g bx H H1) (h : H p = none) : Kx g bx H (upd H1 p o) := fun c u n m e => by
  rw [upd_ne (ne_of_none e h)]
  exact a c u n m e
theorem Kx.free {g bx p : Addr} {H H1 : Hp} (a : Kx g bx H H1) (n : p ≠ g) (m : p ≠ bx) (h : H1 p = none) : H p = none := by
  cases q : H p with
  | none => rfl
  | some o =>
    rw [a p o n m q] at h
    cases h
theorem Kx.kt {g l bx : Addr} {H H' : Hp} {ys : List V} (a : Kx g bx H H') (B : Bag l H g) (hb : H bx = some (.lst ys)) : Kt H H' := fun b xs e => by
  obtain ⟨⟨zs, q⟩, _⟩ := B.there
  refine a b _ (fun z => ?_) (fun z => ?_) e
  · rw [z, q] at e
    cases e
  · rw [z, hb] at e
    cases e

/-- a list of plans -/
inductive Plans (H : Hp) (L : Nat) : List Pl → List Addr → Prop where
  | nil : Plans H L [] []
  | cons {p : Pl} {x : Addr} {ps : List Pl} {xs : List Addr} (o : p.ok L) (h : PlanAt H p x) (r : Plans H L ps xs) : Plans H L (p :: ps) (x :: xs)
def leavesOf : List Pl → Nat
  | [] => 0
  | p :: r => p.leaves + leavesOf r
theorem Plans.kt {H H' : Hp} {L : Nat} {ps : List Pl} {xs : List Addr} (k : Kt H H') (h : Plans H L ps xs) : Plans H' L ps xs := by
  induction h with
  | nil => exact .nil
  | cons o h r ih => exact .cons o (h.kt k) ih
theorem Plans.mono {H : Hp} {L M : Nat} (d : L ∣ M) {ps : List Pl} {xs : List Addr} (h : Plans H L ps xs) : Plans H M ps xs := by
  induction h with
  | nil => exact .nil
  | cons o h r ih => exact .cons (Pl.ok_mono d _ o) h ih
theorem Plans.snoc {H : Hp} {L : Nat} {p : Pl} {x : Addr} (o : p.ok L) (hp : PlanAt H p x) {ps : List Pl} {xs : List Addr} (h : Plans H L ps xs) : Plans H L (ps ++ [p]) (xs ++ [x]) := by
  induction h with
  | nil => exact .cons o hp .nil
  | cons o h r ih => exact .cons o h ih
theorem leaves_snoc (p : Pl) : ∀ ps : List Pl, leavesOf (ps ++ [p]) = leavesOf ps + p.leaves
  | [] => by show p.leaves + 0 = 0 + p.leaves; omega
  | q :: r => by
    have := leaves_snoc p r
    show q.leaves + leavesOf (r ++ [p]) = q.leaves + leavesOf r + p.leaves
    omega
theorem Plans.join {H : Hp} {L : Nat} {ps : List Pl} {xs : List Addr} (h : Plans H L ps xs) : ∀ {j : Nat}, j + 1 < xs.length → ∃ (x y : Addr) (p q : Pl), xs[j]? = some x ∧ xs[j + 1]? = some y ∧ p.ok L ∧ q.ok L ∧ PlanAt H p x ∧ PlanAt H q y ∧
    ∀ (H' : Hp) (r : Pl) (T : Addr), Kt H H' → r.ok L → PlanAt H' r T → r.leaves = p.leaves + q.leaves → ∃ ps', Plans H' L ps' ((xs.eraseIdx (j + 1)).set j T) ∧ leavesOf ps' = leavesOf ps := by
  induction h with
  | nil => intro j hj; cases hj
  | @cons p x ps xs o hp r ih =>
    intro j hj
    match j with
    | 0 =>
      cases r with
      | nil => exact absurd hj (by show ¬ 0 + 1 < 1; omega)
      | @cons q y ps2 xs2 o2 hq r2 =>
        refine ⟨x, y, p, q, rfl, rfl, o, o2, hp, hq, fun H' w T k ow hw hl => ⟨w :: ps2, .cons ow hw (r2.kt k), ?_⟩⟩
        show w.leaves + leavesOf ps2 = p.leaves + (q.leaves + leavesOf ps2)
        omega
    | j + 1 =>
      obtain ⟨x1, y1, p1, q1, h1, h2, h3, h4, h5, h6, h7⟩ := ih (j := j) (by simp only [List.length_cons] at hj; omega)
      refine ⟨x1, y1, p1, q1, h1, h2, h3, h4, h5, h6, fun H' w T k ow hw hl => ?_⟩
      obtain ⟨ps', g1, g2⟩ := h7 H' w T k ow hw hl
      refine ⟨p :: ps', .cons o (hp.kt k) g1, ?_⟩
      show p.leaves + leavesOf ps' = p.leaves + leavesOf ps
      omega
theorem map_erase {α β : Type} (f : α → β) : ∀ (l : List α) (i : Nat), (l.map f).eraseIdx i = (l.eraseIdx i).map f
  | [], _ => rfl
  | _ :: _, 0 => rfl
  | a :: r, i + 1 => by
    show f a :: (r.map f).eraseIdx i = f a :: (r.eraseIdx i).map f
    rw [map_erase f r i]
theorem ixN_nat {j n : Nat} (h : j < n) : ixN n (j : Int) = some j := by
  unfold ixN
  rw [if_pos (by omega), if_pos (by omega)]
  simp
theorem last_ix {bs : List Int} (h : bs ≠ []) : atI (bs.map V.int) (-1) = some (V.int (lastOf bs)) := by
  obtain ⟨cs, c, rfl⟩ : ∃ cs c, bs = cs ++ [c] := ⟨bs.dropLast, bs.getLast h, (List.dropLast_concat_getLast h).symm⟩
  rw [List.map_append]
  have e : lastOf (cs ++ [c]) = c := by
    unfold lastOf
    rw [List.getLastD_concat]
  rw [e]
  exact atI_last _ _

theorem Kx.kp {g bx : Addr} {H H' : Hp} {o : HO} (hb : H bx = none) (k : Kx g bx (upd H bx o) H') : Kp g H H' := fun b u n e => by
  have nb : b ≠ bx := ne_of_none e hb
  exact k b u n nb (by rw [upd_ne nb]; exact e)

/-- a plan and its rest -/
def PR (a : Ad) (g : Addr) (H : Hp) (x y : Addr) : Prop := ∃ (p : Pl) (L : Nat), PlanAt H p x ∧ RestAt a (· = g) H p y ∧ p.ok L ∧ 0 < L ∧ L ≤ 2000 ∧ p.leaves ≤ 3
theorem PR.ok {a : Ad} {g l : Addr} {H H' : Hp} {x y : Addr} (r : Ok g l H H') (h : PR a g H x y) : PR a g H' x y := by
  obtain ⟨p, L, h1, h2, h3⟩ := h
  exact ⟨p, L, h1.kt (Kt.ok r), h2.kp (KpF.kp (F := (· = g)) rfl r.kp), h3⟩
theorem PR.same {a : Ad} {g : Addr} {H H' : Hp} {x y : Addr} (s : Same H H') (h : PR a g H x y) : PR a g H' x y := by
  obtain ⟨p, L, h1, h2, h3⟩ := h
  exact ⟨p, L, h1.kt (Kt.same s), h2.same s, h3⟩
/-! ### rows of a net -/
structure Rw where
  nm : Str
  el : Option Str
  er : Int
  de : Int
/-- the rows from the latest on: each elder lies ahead -/
def Wf : List Rw → Prop
  | [] => True
  | r :: rest => (∀ x ∈ rest, x.nm ≠ r.nm) ∧ 0 ≤ r.er ∧ r.er ≤ 100 ∧ 0 ≤ r.de ∧ r.de ≤ 100 ∧ (match rest with | [] => r.el = none ∧ r.de = 0 | _ :: _ => ∃ e x, r.el = some e ∧ x ∈ rest ∧ x.nm = e) ∧ Wf rest
theorem Wf.tail {r : Rw} {rest : List Rw} (h : Wf (r :: rest)) : Wf rest := h.2.2.2.2.2.2
def up : List Rw → Str → List Str
  | [], n => [n]
  | r :: rest, n => if r.nm = n then n :: (match r.el with | none => [] | some e => up rest e) else up rest n
theorem up_head : ∀ (rv : List Rw) (n : Str), ∃ t, up rv n = n :: t
  | [], n => ⟨[], rfl⟩
  | r :: rest, n => by
    unfold up
    by_cases h : r.nm = n
    · rw [if_pos h]; exact ⟨_, rfl⟩
    · rw [if_neg h]; exact up_head rest n
def Has (rv : List Rw) (n : Str) : Prop := ∃ x ∈ rv, x.nm = n
theorem up_mem : ∀ {rv : List Rw} {n : Str}, Has rv n → Wf rv → ∀ m ∈ up rv n, Has rv m
  | [], n, ⟨x, hx, _⟩, _, _, _ => absurd hx List.not_mem_nil
  | r :: rest, n, hn, wf, m, hm => by
    unfold up at hm
    by_cases h : r.nm = n
    · rw [if_pos h] at hm
      rcases List.mem_cons.mp hm with rfl | hm
      · exact ⟨r, List.mem_cons_self, h⟩
      · cases rest with
        | nil =>
          have e : r.el = none := wf.2.2.2.2.2.1.1
          rw [e] at hm
          exact absurd hm List.not_mem_nil
        | cons r2 rest =>
          obtain ⟨e, x, he, hx, hxe⟩ := wf.2.2.2.2.2.1
          rw [he] at hm
          obtain ⟨y, hy, hym⟩ := up_mem (rv := r2 :: rest) ⟨x, hx, hxe⟩ wf.tail m hm
          exact ⟨y, List.mem_cons_of_mem _ hy, hym⟩
    · rw [if_neg h] at hm
      obtain ⟨x, hx, hxn⟩ := hn
      rcases List.mem_cons.mp hx with rfl | hx
      · exact absurd hxn h
      · obtain ⟨y, hy, hym⟩ := up_mem ⟨x, hx, hxn⟩ wf.tail m hm
        exact ⟨y, List.mem_cons_of_mem _ hy, hym⟩
theorem up_skip {r : Rw} {rest : List Rw} {n : Str} (wf : Wf (r :: rest)) (h : Has rest n) : up (r :: rest) n = up rest n := by
  obtain ⟨x, hx, e⟩ := h
  rw [up, if_neg fun z => wf.1 x hx (e.trans z.symm)]
/-- a row by its name -/
def rowOf (rv : List Rw) (n : Str) : Option Rw := rv.find? fun r => decide (r.nm = n)
theorem rowOf_has {rv : List Rw} {n : Str} (h : Has rv n) : ∃ r, rowOf rv n = some r ∧ r ∈ rv ∧ r.nm = n := by
  obtain ⟨x, hx, e⟩ := h
  cases q : rowOf rv n with
  | none => exact absurd (decide_eq_true e) (by have := List.find?_eq_none.mp q x hx; exact this)
  | some r => exact ⟨r, rfl, List.mem_of_find?_eq_some q, of_decide_eq_true (List.find?_some (p := fun r => decide (Rw.nm r = n)) q)⟩
/-- a line by its first step -/
theorem up_step : ∀ {rv : List Rw} {n : Str} {r : Rw}, Wf rv → rowOf rv n = some r → up rv n = n :: (match r.el with | none => [] | some e => up rv e) ∧ (∀ e, r.el = some e → Has rv e)
  | [], n, r, _, h => by cases h
  | q :: rest, n, r, wf, h => by
    unfold rowOf at h
    rw [List.find?_cons] at h
    by_cases hq : q.nm = n
    · rw [decide_eq_true hq] at h
      cases h
      have hh : ∀ e, q.el = some e → Has rest e := fun e he => by
        cases rest with
        | nil => rw [wf.2.2.2.2.2.1.1] at he; cases he
        | cons r2 rest =>
          obtain ⟨e', x, he', hx, hxe⟩ := wf.2.2.2.2.2.1
          rw [he] at he'
          cases he'
          exact ⟨x, hx, hxe⟩
      refine ⟨?_, fun e he => by obtain ⟨x, hx, hxe⟩ := hh e he; exact ⟨x, List.mem_cons_of_mem _ hx, hxe⟩⟩
      rw [up, if_pos hq]
      cases he : q.el with
      | none => rfl
      | some e => show n :: up rest e = n :: up (q :: rest) e; rw [up_skip wf (hh e he)]
    · rw [decide_eq_false hq] at h
      obtain ⟨h1, h2⟩ := up_step (rv := rest) wf.tail h
      have hn : Has rest n := ⟨r, List.mem_of_find?_eq_some h, of_decide_eq_true (List.find?_some (p := fun r => decide (Rw.nm r = n)) h)⟩
      refine ⟨?_, fun e he => by obtain ⟨x, hx, hxe⟩ := h2 e he; exact ⟨x, List.mem_cons_of_mem _ hx, hxe⟩⟩
      rw [up_skip wf hn, h1]
      cases he : r.el with
      | none => rfl
      | some e => show n :: up rest e = n :: up (q :: rest) e; rw [up_skip wf (h2 e he)]
/-- the end of a line from each of its places on is that one's line -/
theorem up_suf {rv : List Rw} (wf : Wf rv) : ∀ {n m : Str}, Has rv n → m ∈ up rv n → ∃ pre, up rv n = pre ++ up rv m ∧ m ∉ pre := by
  have go : ∀ (k : Nat) {n m : Str}, (up rv n).length ≤ k → Has rv n → m ∈ up rv n → ∃ pre, up rv n = pre ++ up rv m ∧ m ∉ pre := by
    intro k
    induction k with
    | zero =>
      intro n m hk
      obtain ⟨t, e⟩ := up_head rv n
      rw [e] at hk
      exact absurd hk (by simp)
    | succ k ih =>
      intro n m hk hn hm
      by_cases e : n = m
      · exact ⟨[], by rw [e]; rfl, List.not_mem_nil⟩
      · obtain ⟨r, hr, _, _⟩ := rowOf_has hn
        obtain ⟨h1, h2⟩ := up_step wf hr
        cases he : r.el with
        | none =>
          rw [he] at h1
          rw [h1] at hm
          exact absurd (List.mem_singleton.mp hm).symm e
        | some x =>
          rw [he] at h1
          have h1' : up rv n = n :: up rv x := h1
          rw [h1'] at hm hk
          obtain ⟨pre, q1, q2⟩ := ih (n := x) (m := m) (by simpa using hk) (h2 x he) (by
            rcases List.mem_cons.mp hm with z | z
            · exact absurd z.symm e
            · exact z)
          refine ⟨n :: pre, by rw [h1', q1]; rfl, fun z => ?_⟩
          rcases List.mem_cons.mp z with z | z
          · exact e z.symm
          · exact q2 z
  intro n m hn hm
  exact go _ (Nat.le_refl _) hn hm
/-- the names of a line stand in the order of the rows -/
theorem up_sub : ∀ {rv : List Rw} {n : Str}, Wf rv → Has rv n → List.Sublist (up rv n) (rv.map Rw.nm)
  | [], n, _, ⟨x, hx, _⟩ => absurd hx List.not_mem_nil
  | r :: rest, n, wf, hn => by
    by_cases h : r.nm = n
    · rw [up, if_pos h]
      rw [List.map_cons, h]
      refine List.Sublist.cons₂ _ ?_
      cases he : r.el with
      | none => exact List.nil_sublist _
      | some e =>
        cases rest with
        | nil => rw [wf.2.2.2.2.2.1.1] at he; cases he
        | cons r2 rest =>
          obtain ⟨e', x, he', hx, hxe⟩ := wf.2.2.2.2.2.1
          rw [he] at he'
          cases he'
          exact up_sub (rv := r2 :: rest) wf.tail ⟨x, hx, hxe⟩
    · obtain ⟨x, hx, hxn⟩ := hn
      rcases List.mem_cons.mp hx with rfl | hx
      · exact absurd hxn h
      · rw [up_skip wf ⟨x, hx, hxn⟩, List.map_cons]
        exact List.Sublist.cons _ (up_sub wf.tail ⟨x, hx, hxn⟩)
theorem Wf.nodup : ∀ {rv : List Rw}, Wf rv → (rv.map Rw.nm).Nodup
  | [], _ => List.nodup_nil
  | r :: rest, wf => by
    rw [List.map_cons, List.nodup_cons]
    refine ⟨fun z => ?_, wf.tail.nodup⟩
    obtain ⟨x, hx, e⟩ := List.mem_map.mp z
    exact wf.1 x hx e
theorem up_nodup {rv : List Rw} {n : Str} (wf : Wf rv) (h : Has rv n) : (up rv n).Nodup := List.Sublist.nodup (up_sub wf h) wf.nodup
theorem sub_filter {α : Type} [DecidableEq α] : ∀ {l m : List α}, List.Sublist l m → m.Nodup → m.filter (fun x => decide (x ∈ l)) = l
  | _, _, .slnil, _ => rfl
  | l, a :: m, .cons _ h, nd => by
    have nd' := List.nodup_cons.mp nd
    rw [List.filter_cons, if_neg]
    · exact sub_filter h nd'.2
    · simp only [decide_eq_true_eq]
      exact fun z => nd'.1 (h.subset z)
  | a :: l, _ :: m, .cons₂ _ h, nd => by
    have nd' := List.nodup_cons.mp nd
    rw [List.filter_cons, if_pos (by simp)]
    have e : m.filter (fun x => decide (x ∈ a :: l)) = m.filter (fun x => decide (x ∈ l)) := by
      refine List.filter_congr fun x hx => ?_
      have : x ≠ a := fun z => nd'.1 (z ▸ hx)
      simp [this]
    rw [e, sub_filter h nd'.2]
def sumI (xs : List Int) : Int := xs.foldr (· + ·) 0
theorem sumI_app : ∀ xs ys : List Int, sumI (xs ++ ys) = sumI xs + sumI ys
  | [], ys => by show sumI ys = 0 + sumI ys; omega
  | x :: xs, ys => by
    have := sumI_app xs ys
    show x + sumI (xs ++ ys) = x + sumI xs + sumI ys
    omega
def deOf (rv : List Rw) (n : Str) : Int := ((rowOf rv n).map Rw.de).getD 0
def erOf (rv : List Rw) (n : Str) : Int := ((rowOf rv n).map Rw.er).getD 0
theorem Wf.bd : ∀ {rv : List Rw}, Wf rv → ∀ r ∈ rv, 0 ≤ r.er ∧ r.er ≤ 100 ∧ 0 ≤ r.de ∧ r.de ≤ 100
  | [], _, r, h => absurd h List.not_mem_nil
  | q :: rest, wf, r, h => by
    rcases List.mem_cons.mp h with rfl | h
    · exact ⟨wf.2.1, wf.2.2.1, wf.2.2.2.1, wf.2.2.2.2.1⟩
    · exact wf.tail.bd r h
theorem de_bd {rv : List Rw} (wf : Wf rv) (n : Str) : 0 ≤ deOf rv n ∧ deOf rv n ≤ 100 := by
  unfold deOf
  cases e : rowOf rv n with
  | none => exact ⟨Int.le_refl _, by decide⟩
  | some r => have := wf.bd r (List.mem_of_find?_eq_some e); exact ⟨this.2.2.1, this.2.2.2⟩
theorem er_bd {rv : List Rw} (wf : Wf rv) (n : Str) : 0 ≤ erOf rv n ∧ erOf rv n ≤ 100 := by
  unfold erOf
  cases e : rowOf rv n with
  | none => exact ⟨Int.le_refl _, by decide⟩
  | some r => have := wf.bd r (List.mem_of_find?_eq_some e); exact ⟨this.1, this.2.1⟩
/-- the law's sum: the delays of what stands in one of the two lines alone -/
def far (rv : List Rw) (a b : Str) : Int := sumI ((((up rv a).filter fun x => !decide (x ∈ up rv b)) ++ (up rv b).filter fun x => !decide (x ∈ up rv a)).map (deOf rv))
/-- over all rows -/
def wt (rv : List Rw) (p : Str → Bool) : Int := sumI ((rv.map Rw.nm).map fun x => if p x then deOf rv x else 0)
theorem sum_filter (f : Str → Int) (p : Str → Bool) : ∀ l : List Str, sumI ((l.filter p).map f) = sumI (l.map fun x => if p x then f x else 0)
  | [] => rfl
  | x :: l => by
    have ih := sum_filter f p l
    rw [List.filter_cons]
    cases h : p x with
    | true =>
      show f x + sumI _ = (if p x = true then f x else 0) + sumI _
      rw [ih, h]
      rfl
    | false =>
      rw [if_neg (by simp), ih]
      show _ = (if p x = true then f x else 0) + sumI _
      rw [h, if_neg (by simp), Int.zero_add]
theorem sum_one {rv : List Rw} (wf : Wf rv) {a b : Str} (ha : Has rv a) : sumI (((up rv a).filter fun x => !decide (x ∈ up rv b)).map (deOf rv)) = wt rv (fun x => decide (x ∈ up rv a) && !decide (x ∈ up rv b)) := by
  have e := sub_filter (up_sub wf ha) wf.nodup
  have : (up rv a).filter (fun x => !decide (x ∈ up rv b)) = (rv.map Rw.nm).filter (fun x => decide (x ∈ up rv a) && !decide (x ∈ up rv b)) := by
    conv => lhs; rw [← e]
    rw [List.filter_filter]
    refine List.filter_congr fun x _ => ?_
    rw [Bool.and_comm]
  rw [this, sum_filter]
  rfl
theorem sum_le2 (f g : Str → Int) : ∀ l : List Str, (∀ x ∈ l, f x ≤ g x) → sumI (l.map f) ≤ sumI (l.map g)
  | [], _ => Int.le_refl _
  | x :: l, h => by
    have := sum_le2 f g l fun y hy => h y (List.mem_cons_of_mem _ hy)
    have := h x List.mem_cons_self
    show f x + sumI (l.map f) ≤ g x + sumI (l.map g)
    omega
theorem sum_add (f g : Str → Int) : ∀ l : List Str, sumI (l.map f) + sumI (l.map g) = sumI (l.map fun x => f x + g x)
  | [] => rfl
  | x :: l => by
    have := sum_add f g l
    show f x + sumI (l.map f) + (g x + sumI (l.map g)) = f x + g x + sumI (l.map fun x => f x + g x)
    omega
theorem wt_add (rv : List Rw) (p q : Str → Bool) : wt rv p + wt rv q = sumI ((rv.map Rw.nm).map fun x => (if p x then deOf rv x else 0) + (if q x then deOf rv x else 0)) := sum_add _ _ _
theorem far_wt {rv : List Rw} (wf : Wf rv) {a b : Str} (ha : Has rv a) (hb : Has rv b) : far rv a b = wt rv (fun x => decide (x ∈ up rv a) && !decide (x ∈ up rv b)) + wt rv (fun x => decide (x ∈ up rv b) && !decide (x ∈ up rv a)) := by
  unfold far
  rw [List.map_append, sumI_app, sum_one wf ha, sum_one wf hb]
theorem far_nn {rv : List Rw} (wf : Wf rv) (a b : Str) : 0 ≤ far rv a b := by
  unfold far
  generalize (((up rv a).filter fun x => !decide (x ∈ up rv b)) ++ (up rv b).filter fun x => !decide (x ∈ up rv a)) = l
  have := sum_le2 (fun _ => 0) (deOf rv) l fun x _ => (de_bd wf x).1
  have e : ∀ l : List Str, sumI (l.map fun _ => (0 : Int)) = 0 := fun l => by
    induction l with
    | nil => rfl
    | cons x l ih => show 0 + sumI (l.map fun _ => (0 : Int)) = 0; rw [ih]; rfl
  rw [e] at this
  exact this
theorem far_tri {rv : List Rw} (wf : Wf rv) {a b c : Str} (ha : Has rv a) (hb : Has rv b) (hc : Has rv c) : far rv a c ≤ far rv a b + far rv b c := by
  rw [far_wt wf ha hc, far_wt wf ha hb, far_wt wf hb hc, wt_add, wt_add, wt_add, sum_add]
  refine sum_le2 _ _ _ fun x _ => ?_
  have := (de_bd wf x).1
  by_cases h1 : x ∈ up rv a <;> by_cases h2 : x ∈ up rv b <;> by_cases h3 : x ∈ up rv c <;> simp [h1, h2, h3] <;> omega
/-- who stands on the way: q above o, not above p -/
theorem far_on {rv : List Rw} (wf : Wf rv) {p o q : Str} (hp : Has rv p) (ho : Has rv o) (hq : q ∈ up rv o) (nq : q ∉ up rv p) : far rv p q ≤ far rv p o := by
  have hq' : Has rv q := up_mem ho wf q hq
  obtain ⟨pre, e, npre⟩ := up_suf wf ho hq
  rw [far_wt wf hp hq', far_wt wf hp ho, wt_add, wt_add]
  refine sum_le2 _ _ _ fun x _ => ?_
  have := (de_bd wf x).1
  -- of p's line nothing lies between o and q
  have key : x ∈ up rv p → x ∈ up rv o → x ∈ up rv q := fun h1 h2 => by
    rw [e] at h2
    rcases List.mem_append.mp h2 with h2 | h2
    · -- x below q on o's line: q in x's line
      obtain ⟨pre2, e2, n2⟩ := up_suf wf ho (m := x) (by rw [e]; exact List.mem_append_left _ h2)
      have hx : Has rv x := up_mem hp wf x h1
      have : q ∈ up rv x := by
        have hqo : q ∈ pre2 ++ up rv x := by rw [← e2]; exact hq
        rcases List.mem_append.mp hqo with z | z
        · exfalso
          -- both within o's line: pre2 ahead of x, and q within pre2, yet x within pre ahead of q
          have nd := up_nodup wf ho
          obtain ⟨s, t, rfl⟩ := List.append_of_mem z
          obtain ⟨tx, ex⟩ := up_head rv x
          obtain ⟨tq, eq⟩ := up_head rv q
          have e3 : pre ++ (q :: tq) = s ++ (q :: (t ++ (x :: tx))) := by
            rw [← eq, ← e, e2, ex]
            simp
          have nd1 : (pre ++ (q :: tq)).Nodup := by rw [← eq, ← e]; exact nd
          have hs : pre = s := by
            have a1 : q ∉ pre := npre
            have a2 : q ∉ s := fun z => by
              rw [e3] at nd1
              have := (List.nodup_append.mp nd1).2.2 q z q List.mem_cons_self
              exact this rfl
            have b1 : (pre ++ (q :: tq)).takeWhile (fun y => !decide (y = q)) = pre := by
              rw [List.takeWhile_append_of_pos (fun y hy => by simp; exact fun z => a1 (z ▸ hy))]
              simp
            have b2 : (s ++ (q :: (t ++ (x :: tx)))).takeWhile (fun y => !decide (y = q)) = s := by
              rw [List.takeWhile_append_of_pos (fun y hy => by simp; exact fun z => a2 (z ▸ hy))]
              simp
            rw [← b1, e3, b2]
          rw [e3] at nd1
          rw [hs] at h2
          exact (List.nodup_append.mp nd1).2.2 x h2 x (by simp) rfl
        · exact z
      exact absurd (by obtain ⟨pr, ep, _⟩ := up_suf wf hp h1; rw [ep]; exact List.mem_append_right _ this) nq
    · exact h2
  have key2 : x ∈ up rv q → x ∈ up rv o := fun h => by rw [e]; exact List.mem_append_right _ h
  by_cases h1 : x ∈ up rv p <;> by_cases h2 : x ∈ up rv o <;> by_cases h3 : x ∈ up rv q <;> simp [h1, h2, h3] <;> first | omega | exact absurd (key h1 h2) h3 | exact absurd (key2 h3) h2
/-! ### the least number over the places above -/
def val (rv : List Rw) (b p : Str) : Int := if p = b then -1 else 2 * erOf rv p + far rv p b
def bstep (rv : List Rw) (b : Str) (s : Option (Int × Str)) (p : Str) : Option (Int × Str) :=
  match s with
  | none => some (val rv b p, p)
  | some t => if val rv b p < t.1 then some (val rv b p, p) else some t
def best (rv : List Rw) (b : Str) (l : List Str) : Option (Int × Str) := l.foldl (bstep rv b) none
def kap (rv : List Rw) (a b : Str) : Int := ((best rv b (up rv a)).map (·.1)).getD 0
theorem best_go (rv : List Rw) (b : Str) : ∀ (l : List Str) (t : Int × Str), ∃ u, l.foldl (bstep rv b) (some t) = some u ∧ u.1 ≤ t.1 ∧ (∀ p ∈ l, u.1 ≤ val rv b p) ∧ (u = t ∨ ∃ p ∈ l, u.1 = val rv b p)
  | [], t => ⟨t, rfl, Int.le_refl _, fun p hp => absurd hp List.not_mem_nil, .inl rfl⟩
  | p :: l, t => by
    rw [List.foldl_cons]
    show ∃ u, l.foldl (bstep rv b) (if val rv b p < t.1 then some (val rv b p, p) else some t) = some u ∧ _
    by_cases h : val rv b p < t.1
    · rw [if_pos h]
      obtain ⟨u, e, h1, h2, h3⟩ := best_go rv b l (val rv b p, p)
      refine ⟨u, e, by have : u.1 ≤ val rv b p := h1; omega, fun q hq => ?_, .inr ?_⟩
      · rcases List.mem_cons.mp hq with rfl | hq
        · exact h1
        · exact h2 q hq
      · rcases h3 with rfl | ⟨q, hq, e⟩
        · exact ⟨p, List.mem_cons_self, rfl⟩
        · exact ⟨q, List.mem_cons_of_mem _ hq, e⟩
    · rw [if_neg h]
      obtain ⟨u, e, h1, h2, h3⟩ := best_go rv b l t
      refine ⟨u, e, h1, fun q hq => ?_, ?_⟩
      · rcases List.mem_cons.mp hq with rfl | hq
        · omega
        · exact h2 q hq
      · rcases h3 with h3 | ⟨q, hq, e⟩
        · exact .inl h3
        · exact .inr ⟨q, List.mem_cons_of_mem _ hq, e⟩
theorem best_some (rv : List Rw) (a b : Str) : ∃ q, best rv b (up rv a) = some (kap rv a b, q) := by
  obtain ⟨t, e⟩ := up_head rv a
  obtain ⟨u, h, _⟩ := best_go rv b t (val rv b a, a)
  have : best rv b (up rv a) = some u := by rw [e]; exact h
  refine ⟨u.2, ?_⟩
  unfold kap
  rw [this]
  rfl
theorem kap_le (rv : List Rw) (a b : Str) : (∀ p ∈ up rv a, kap rv a b ≤ val rv b p) ∧ ∃ p ∈ up rv a, kap rv a b = val rv b p := by
  obtain ⟨t, e⟩ := up_head rv a
  obtain ⟨u, h, h1, h2, h3⟩ := best_go rv b t (val rv b a, a)
  have hb : best rv b (up rv a) = some u := by rw [e]; exact h
  have hk : kap rv a b = u.1 := by unfold kap; rw [hb]; rfl
  rw [hk, e]
  refine ⟨fun p hp => ?_, ?_⟩
  · rcases List.mem_cons.mp hp with rfl | hp
    · exact h1
    · exact h2 p hp
  · rcases h3 with rfl | ⟨p, hp, e⟩
    · exact ⟨a, List.mem_cons_self, rfl⟩
    · exact ⟨p, List.mem_cons_of_mem _ hp, e⟩
theorem up_self (rv : List Rw) (n : Str) : n ∈ up rv n := by
  obtain ⟨t, e⟩ := up_head rv n
  rw [e]
  exact List.mem_cons_self
theorem up_trans {rv : List Rw} (wf : Wf rv) {a b c : Str} (ha : Has rv a) (h1 : b ∈ up rv a) (h2 : c ∈ up rv b) : c ∈ up rv a := by
  obtain ⟨pre, e, _⟩ := up_suf wf ha h1
  rw [e]
  exact List.mem_append_right _ h2
theorem val_ge {rv : List Rw} (wf : Wf rv) (b p : Str) : -1 ≤ val rv b p := by
  unfold val
  have := (er_bd wf p).1
  have := far_nn wf p b
  split <;> omega
theorem kap_self {rv : List Rw} (wf : Wf rv) (a : Str) : kap rv a a = -1 := by
  obtain ⟨h1, p, hp, e⟩ := kap_le rv a a
  have := h1 a (up_self rv a)
  have h2 := val_ge wf a p
  have h3 : val rv a a = -1 := by unfold val; rw [if_pos rfl]
  omega
theorem kap_tri {rv : List Rw} (wf : Wf rv) {d o q : Str} (hd : Has rv d) (ho : Has rv o) (hq : Has rv q) : kap rv d q ≤ kap rv d o + 2 * erOf rv o + 2 + kap rv o q := by
  obtain ⟨k1, p, hp, ep⟩ := kap_le rv d o
  obtain ⟨k2, p', hp', ep'⟩ := kap_le rv o q
  obtain ⟨k3, _⟩ := kap_le rv d q
  have eo := (er_bd wf o).1
  have vp := val_ge wf o p
  have vp' := val_ge wf q p'
  have hP : Has rv p := up_mem hd wf p hp
  have hP' : Has rv p' := up_mem ho wf p' hp'
  by_cases h : p' ∈ up rv p
  · -- above p already
    have := k3 p' (up_trans wf hd hp h)
    omega
  · by_cases e1 : p = o
    · subst e1
      exact absurd hp' h
    · have v1 : val rv o p = 2 * erOf rv p + far rv p o := by unfold val; rw [if_neg e1]
      have f1 := far_on wf hP ho hp' h
      have c := k3 p hp
      by_cases e2 : p = q
      · have v2 : val rv q p = -1 := by unfold val; rw [if_pos e2]
        omega
      · have v2 : val rv q p = 2 * erOf rv p + far rv p q := by unfold val; rw [if_neg e2]
        by_cases e3 : p' = q
        · subst e3
          omega
        · have v3 : val rv q p' = 2 * erOf rv p' + far rv p' q := by unfold val; rw [if_neg e3]
          have f2 := far_tri wf hP hP' hq
          have := (er_bd wf p').1
          omega
theorem val_le {rv : List Rw} (wf : Wf rv) (b p : Str) (B : Int) (hB : far rv p b ≤ B) (h0 : 0 ≤ B) : val rv b p ≤ 200 + B := by
  unfold val
  have := (er_bd wf p).2
  split <;> omega
/-! ### the net in the heap -/
structure Ar where
  (c finit felder_of ferror_of fdelay_of fups fway fpair fkappa fdelays_between fleast_kappa : Addr)
structure Kr (K : PySem.W.Frag) (mg : Str → Option Value) (r : Ar) : Prop where
  cl : Cls K r.c
  nr : NoAttr K r.c "rest"
  nR : NoAttr K r.c "_rows"
  nd : NoAttr K r.c "_dists"
  nk : NoAttr K r.c "_kappas"
  melder_of : Meth K r.c "elder_of" r.felder_of
  merror_of : Meth K r.c "error_of" r.ferror_of
  mdelay_of : Meth K r.c "delay_of" r.fdelay_of
  mups : Meth K r.c "ups" r.fups
  mway : Meth K r.c "way" r.fway
  mpair : Meth K r.c "pair" r.fpair
  mkappa : Meth K r.c "kappa" r.fkappa
  mdelays_between : Meth K r.c "delays_between" r.fdelays_between
  mleast_kappa : Meth K r.c "least_kappa" r.fleast_kappa
  m : Mk K r.c r.finit
  g : mg "Net" = some (.ref r.c)
def methN : List Str := ["elder_of", "error_of", "delay_of", "ups", "way", "pair", "kappa", "delays_between", "least_kappa"]
/-- no field hides a method -/
def Nf (fs : List (Str × V)) : Prop := ∀ m ∈ methN, fs.lookup m = none
theorem Nf.put {f : Str} {v : V} {fs : List (Str × V)} (hf : methN.all (fun m => !decide (m = f)) = true) (h : Nf fs) : Nf (putF f v fs) := fun m hm => by
  have q := List.all_eq_true.mp hf m hm
  rw [lookup_putF, if_neg (fun z => by rw [z] at q; simp at q)]
  exact h m hm
theorem Nf.at {fs : List (Str × V)} (h : Nf fs) {m : Str} (hm : m ∈ methN := by simp [methN]) : fs.lookup m = none := h m hm
def kS (z : Str) : Key := .inr z
def elV : Option Str → V
  | none => .non
  | some e => .str e
def rowV (r : Rw) : HO := .tup [.str r.nm, elV r.el, .int r.er, .int r.de]
inductive RowsAt (H : Hp) : List Rw → List Addr → Prop where
  | nil : RowsAt H [] []
  | cons {r : Rw} {x : Addr} {rs : List Rw} {xs : List Addr} (h : H x = some (rowV r)) (t : RowsAt H rs xs) : RowsAt H (r :: rs) (x :: xs)
theorem RowsAt.len {H : Hp} {rs : List Rw} {xs : List Addr} (h : RowsAt H rs xs) : xs.length = rs.length := by
  induction h with
  | nil => rfl
  | cons _ _ ih => simp [ih]
theorem RowsAt.kp {H H' : Hp} (k : ∀ b ys, H b = some (.tup ys) → H' b = some (.tup ys)) {rs : List Rw} {xs : List Addr} (h : RowsAt H rs xs) : RowsAt H' rs xs := by
  induction h with
  | nil => exact .nil
  | cons h _ ih => exact .cons (k _ _ h) ih
theorem RowsAt.snoc {H : Hp} {r : Rw} {x : Addr} (hx : H x = some (rowV r)) {rs : List Rw} {xs : List Addr} (h : RowsAt H rs xs) : RowsAt H (rs ++ [r]) (xs ++ [x]) := by
  induction h with
  | nil => exact .cons hx .nil
  | cons h _ ih => exact .cons h ih
theorem RowsAt.get {H : Hp} {rs : List Rw} {xs : List Addr} (h : RowsAt H rs xs) : ∀ {i : Nat} {r : Rw}, rs[i]? = some r → ∃ x, xs[i]? = some x ∧ H x = some (rowV r) := by
  induction h with
  | nil => intro i r e; simp at e
  | cons h _ ih =>
    intro i r e
    cases i with
    | zero => simp at e; subst e; exact ⟨_, rfl, h⟩
    | succ i => exact ih (by simpa using e)
def kvs : List Rw → List Addr → List (Key × V)
  | r :: rs, x :: xs => (kS r.nm, V.ref x) :: kvs rs xs
  | _, _ => []
theorem kvs_len {H : Hp} {rs : List Rw} {xs : List Addr} (h : RowsAt H rs xs) : (kvs rs xs).length = rs.length := by
  induction h with
  | nil => rfl
  | cons _ _ ih => show _ + 1 = _ + 1; rw [ih]
theorem kvs_get {H : Hp} {rs : List Rw} {xs : List Addr} (h : RowsAt H rs xs) : ∀ i : Nat, (kvs rs xs)[i]?.map (·.1) = rs[i]?.map fun r => kS r.nm := by
  induction h with
  | nil => intro i; simp [kvs]
  | cons _ _ ih =>
    intro i
    cases i with
    | zero => simp [kvs]
    | succ i => simpa [kvs] using ih i
theorem kvs_val {H : Hp} {rs : List Rw} {xs : List Addr} (h : RowsAt H rs xs) (n : Str) : match rowOf rs n with | none => valV (kvs rs xs) (kS n) = none | some r => ∃ x, valV (kvs rs xs) (kS n) = some (.ref x) ∧ H x = some (rowV r) := by
  induction h with
  | nil => exact rfl
  | @cons r x rs xs hx t ih =>
    by_cases e : r.nm = n
    · have e1 : rowOf (r :: rs) n = some r := List.find?_cons_of_pos (p := fun r => decide (Rw.nm r = n)) (decide_eq_true e)
      have e2 : valV (kvs (r :: rs) (x :: xs)) (kS n) = some (.ref x) := by
        unfold valV kvs
        rw [List.find?_cons_of_pos (p := fun kv : Key × V => decide (kv.1 = kS n)) (decide_eq_true (show kS r.nm = kS n by rw [e]))]
        rfl
      rw [e1]
      exact ⟨x, e2, hx⟩
    · have e1 : rowOf (r :: rs) n = rowOf rs n := List.find?_cons_of_neg (p := fun r => decide (Rw.nm r = n)) (by simpa using e)
      have e2 : valV (kvs (r :: rs) (x :: xs)) (kS n) = valV (kvs rs xs) (kS n) := by
        unfold valV
        show Option.map _ (List.find? _ ((kS r.nm, V.ref x) :: kvs rs xs)) = _
        rw [List.find?_cons_of_neg (p := fun kv : Key × V => decide (kv.1 = kS n)) (by simpa using fun z : kS r.nm = kS n => e (Sum.inr.inj z))]
      rw [e1, e2]
      exact ih
theorem kvs_some {H : Hp} {rs : List Rw} {xs : List Addr} (h : RowsAt H rs xs) {n : Str} {r : Rw} (e : rowOf rs n = some r) : ∃ x, valV (kvs rs xs) (kS n) = some (.ref x) ∧ H x = some (rowV r) := by
  have := kvs_val h n
  rw [e] at this
  exact this
theorem kvs_none {H : Hp} {rs : List Rw} {xs : List Addr} (h : RowsAt H rs xs) {n : Str} (e : rowOf rs n = none) : valV (kvs rs xs) (kS n) = none := by
  have := kvs_val h n
  rw [e] at this
  exact this
/-- the rows' names, each once, and right -/
structure Rws (rs : List Rw) : Prop where
  wf : Wf rs.reverse
  nms : ∀ x ∈ rs, isNam (.str x.nm) = true
  len : rs.length ≤ 6
  pos : 1 ≤ rs.length
abbrev rv (rs : List Rw) := rs.reverse
theorem rowOf_none {l : List Rw} {n : Str} (h : ¬ Has l n) : rowOf l n = none := by
  refine List.find?_eq_none.mpr fun x hx z => h ⟨x, hx, of_decide_eq_true z⟩
theorem rowOf_rev {rs : List Rw} (wf : Wf rs.reverse) (n : Str) : rowOf rs.reverse n = rowOf rs n := by
  have nd := wf.nodup
  have key : ∀ {l : List Rw}, (l.map Rw.nm).Nodup → ∀ r ∈ l, r.nm = n → rowOf l n = some r := fun {l} nd r hr e => by
    induction l with
    | nil => cases hr
    | cons q l ih =>
      rw [List.map_cons] at nd
      have nd' := List.nodup_cons.mp nd
      unfold rowOf
      rw [List.find?_cons]
      by_cases hq : q.nm = n
      · rw [decide_eq_true hq]
        rcases List.mem_cons.mp hr with rfl | hr
        · rfl
        · exact absurd (List.mem_map.mpr ⟨r, hr, e.trans hq.symm⟩) nd'.1
      · rw [decide_eq_false hq]
        rcases List.mem_cons.mp hr with rfl | hr
        · exact absurd e hq
        · exact ih nd'.2 hr
  cases h : rowOf rs n with
  | none =>
    refine rowOf_none fun ⟨x, hx, e⟩ => ?_
    have := List.find?_eq_none.mp h x (List.mem_reverse.mp hx)
    exact this (decide_eq_true e)
  | some r => exact key nd r (List.mem_reverse.mpr (List.mem_of_find?_eq_some h)) (of_decide_eq_true (List.find?_some (p := fun r => decide (Rw.nm r = n)) h))
theorem nam_len {z : Str} (h : isNam (.str z) = true) : z.length ≤ 1000000 := by
  rw [isNam_str] at h
  simp only [Bool.and_eq_true, decide_eq_true_eq] at h
  omega
/-- an instance of Net at N, its rows' dict at D -/
def NetR (r : Ar) (H : Hp) (N D : Addr) (rs : List Rw) (fs : List (Str × V)) : Prop := ∃ dx xs, H N = some (.ins r.c dx fs) ∧ Nf fs ∧ fs.lookup ("_rows" : Str) = some (.ref D) ∧ Rd H D (.dK (kvs rs xs)) ∧ RowsAt H rs xs ∧ Rws rs
theorem Rd.same {H H' : Hp} (s : Same H H') {a : Addr} {u : HO} (h : Rd H a u) : Rd H' a u := by
  rcases h with h | ⟨o, h⟩
  · exact .inl (s _ _ h)
  · exact .inr ⟨o, s _ _ h⟩
theorem NetR.same {r : Ar} {H H' : Hp} {N D : Addr} {rs : List Rw} {fs : List (Str × V)} (s : Same H H') (h : NetR r H N D rs fs) : NetR r H' N D rs fs := by
  obtain ⟨dx, xs, h1, h2, h3, h4, h5, h6⟩ := h
  exact ⟨dx, xs, s _ _ h1, h2, h3, Rd.same s h4, h5.kp fun b ys e => s _ _ e, h6⟩
/-- an elder by a name -/
def elOf (l : List Rw) (n : Str) : Option Str := (rowOf l n).bind Rw.el
/-- the names of the rows, by their tuples of keys -/
def DistOk (rs : List Rw) (kd : List (List Key × V)) : Prop := ∀ a b, Has (rv rs) a → Has (rv rs) b → valV kd [kS a, kS b] = some (.int (far (rv rs) a b))
def KapOk (H : Hp) (rs : List Rw) (kk : List (List Key × V)) : Prop := ∀ a b, Has (rv rs) a → Has (rv rs) b → ∃ T q, valV kk [kS a, kS b] = some (.ref T) ∧ H T = some (.tup [.int (kap (rv rs) a b), .str q])
theorem KapOk.kp {H H' : Hp} (k : ∀ b ys, H b = some (.tup ys) → H' b = some (.tup ys)) {rs : List Rw} {kk : List (List Key × V)} (h : KapOk H rs kk) : KapOk H' rs kk := fun a b ha hb => by
  obtain ⟨T, q, h1, h2⟩ := h a b ha hb
  exact ⟨T, q, h1, k _ _ h2⟩
/-! ### the last of a list, as a list -/
def lst (bs : List Int) : List Int := bs.drop (bs.length - 1)
theorem lst_sum (bs : List Int) : (lst bs).sum = lastOf bs := by
  by_cases h : bs = []
  · subst h; rfl
  · obtain ⟨cs, c, rfl⟩ : ∃ cs c, bs = cs ++ [c] := ⟨bs.dropLast, bs.getLast h, (List.dropLast_concat_getLast h).symm⟩
    unfold lst lastOf
    rw [List.getLastD_concat, List.length_append]
    show (List.drop (cs.length + 1 - 1) (cs ++ [c])).sum = c
    rw [show cs.length + 1 - 1 = cs.length by omega, List.drop_left]
    simp
theorem cut_last (bs : List Int) : cutV (bs.map V.int) (some (-1)) none = (lst bs).map V.int := by
  unfold cutV lst
  have e1 : HT.sIx (bs.map V.int).length 0 (some (-1)) = bs.length - 1 := by
    show (if (-1 : Int) < 0 then ((-1 : Int) + ((bs.map V.int).length : Int)).toNat else min (-1 : Int).toNat (bs.map V.int).length) = _
    rw [if_pos (by decide), List.length_map]
    omega
  have e2 : HT.sIx (bs.map V.int).length (bs.map V.int).length none = bs.length := by rw [List.length_map]; rfl
  rw [e1, e2, ← List.map_drop, List.take_of_length_le (by rw [List.length_map, List.length_drop]; omega)]
theorem cut_whole {bs : List Int} (h : HT.sIx (bs.map V.int).length 0 (some (-1)) = 0 ∧ HT.sIx (bs.map V.int).length (bs.map V.int).length none = (bs.map V.int).length) : lst bs = bs := by
  have e1 : HT.sIx (bs.map V.int).length 0 (some (-1)) = bs.length - 1 := by
    show (if (-1 : Int) < 0 then ((-1 : Int) + ((bs.map V.int).length : Int)).toNat else min (-1 : Int).toNat (bs.map V.int).length) = _
    rw [if_pos (by decide), List.length_map]
    omega
  unfold lst
  rw [← e1, h.1]
  rfl
/-! ### the box of numbers -/
def Box (l : Addr) (H : Hp) (g : Addr) : Prop := ∃ (ns : List Int) (i d s : Int), H g = some (.lst [.ref l, .int i, .int d, .int s]) ∧ l ≠ g ∧ H l = some (.lst (ns.map V.int)) ∧ 0 ≤ i ∧ 0 ≤ d ∧ 0 ≤ s ∧ s < 2147483647
theorem Box.there {l : Addr} {H : Hp} {g : Addr} (B : Box l H g) : (∃ xs, H g = some (.lst xs)) ∧ ∃ xs, H l = some (.lst xs) := by
  obtain ⟨ns, i, d, s, h, _, h2, _⟩ := B
  exact ⟨⟨_, h⟩, ⟨_, h2⟩⟩
theorem Box.ne {l : Addr} {H : Hp} {g p : Addr} (B : Box l H g) (h : H p = none) : p ≠ g ∧ p ≠ l := by
  obtain ⟨⟨xs, q⟩, ⟨ys, r⟩⟩ := B.there
  exact ⟨fun e => (by rw [e, q] at h; cases h), fun e => (by rw [e, r] at h; cases h)⟩
def KpB (g l : Addr) (H H' : Hp) : Prop := ∀ b o, b ≠ g → b ≠ l → H b = some o → H' b = some o
theorem KpB.refl (g l : Addr) (H : Hp) : KpB g l H H := fun _ _ _ _ h => h
theorem Box.mut {l : Addr} {H : Hp} {g p : Addr} {o : HO} (B : Box l H g) (h1 : p ≠ g) (h2 : p ≠ l) : Box l (upd H p o) g := by
  obtain ⟨ns, i, d, s, h, n, h3, r⟩ := B
  exact ⟨ns, i, d, s, by rw [upd_ne (Ne.symm h1)]; exact h, n, by rw [upd_ne (Ne.symm h2)]; exact h3, r⟩
structure OkB (g l : Addr) (H0 H : Hp) : Prop where
  b0 : Box l H0 g
  kp : KpB g l H0 H
  bag : Box l H g
theorem OkB.refl {g l : Addr} {H : Hp} (B : Box l H g) : OkB g l H H := ⟨B, KpB.refl g l H, B⟩
theorem OkB.trans {g l : Addr} {H H1 H2 : Hp} (a : OkB g l H H1) (b : OkB g l H1 H2) : OkB g l H H2 := ⟨a.b0, fun c o n m e => b.kp c o n m (a.kp c o n m e), b.bag⟩
theorem OkB.at_ {g l p : Addr} {H H1 : Hp} {o : HO} (a : OkB g l H H1) (h : H p = some o) (n : p ≠ g) (m : p ≠ l) : H1 p = some o := a.kp p o n m h
theorem OkB.free {g l p : Addr} {H H1 : Hp} (a : OkB g l H H1) (h : H1 p = none) : H p = none := by
  obtain ⟨n, m⟩ := a.bag.ne h
  cases e : H p with
  | none => rfl
  | some o => rw [a.kp p o n m e] at h; cases h
theorem OkB.new {g l p : Addr} {H H1 : Hp} {o : HO} (a : OkB g l H H1) (h : H1 p = none) : OkB g l H (upd H1 p o) :=
  ⟨a.b0, fun b u n m e => by rw [upd_ne (ne_of_none (a.kp b u n m e) h)]; exact a.kp b u n m e, a.bag.mut (a.bag.ne h).1 (a.bag.ne h).2⟩
theorem OkB.mut {g l p : Addr} {H H1 : Hp} {o : HO} (a : OkB g l H H1) (h : H p = none) : OkB g l H (upd H1 p o) :=
  ⟨a.b0, fun b u n m e => by rw [upd_ne (ne_of_none e h)]; exact a.kp b u n m e, a.bag.mut (a.b0.ne h).1 (a.b0.ne h).2⟩
theorem OkB.same {g l : Addr} {H0 H H' : Hp} (a : OkB g l H0 H) (s : Same H H') : OkB g l H0 H' := by
  refine ⟨a.b0, fun b o n m e => s _ _ (a.kp b o n m e), ?_⟩
  obtain ⟨ns, i, d, t, h1, h2, h3, r⟩ := a.bag
  exact ⟨ns, i, d, t, s _ _ h1, h2, s _ _ h3, r⟩
theorem OkB.tup {g l p : Addr} {H H1 : Hp} {xs : List V} (a : OkB g l H H1) (h : H p = some (.tup xs)) : H1 p = some (.tup xs) := by
  obtain ⟨⟨us, q⟩, ⟨vs, r⟩⟩ := a.b0.there
  exact a.kp p _ (fun e => by rw [e, q] at h; cases h) (fun e => by rw [e, r] at h; cases h) h
theorem OkB.kt {g l : Addr} {H H1 : Hp} (a : OkB g l H H1) : Kt H H1 := fun b xs e => a.tup e
/-! ### the law's rows -/
def six : List Str := ["hub", "a", "west4", "b2", "far", "zz9"]
def nmAt (s j : Nat) : Str := six.getD ((s + j * 5) % 6) ("hub" : Str)
theorem nm_ne : ∀ s, s < 6 → ∀ i, i < 6 → ∀ j, j < 6 → i ≠ j → nmAt s i ≠ nmAt s j := by decide +kernel
theorem nm_nam : ∀ s, s < 6 → ∀ i, i < 6 → isNam (.str (nmAt s i)) = true := by decide +kernel
theorem nm_at {s j : Nat} : atI (six.map V.str) ((((s : Int) + (j : Int) * 5) % 6 : Int)) = some (.str (nmAt s j)) := by
  have e : ((s : Int) + (j : Int) * 5) % 6 = (((s + j * 5) % 6 : Nat) : Int) := by omega
  rw [e]
  have h : (s + j * 5) % 6 < 6 := Nat.mod_lt _ (by decide)
  unfold nmAt
  generalize (s + j * 5) % 6 = m at h ⊢
  match m, h with
  | 0, _ => rfl
  | 1, _ => rfl
  | 2, _ => rfl
  | 3, _ => rfl
  | 4, _ => rfl
  | 5, _ => rfl
theorem Rws.snoc {rs : List Rw} {s : Nat} {r : Rw} (h : Rws rs) (hs : s < 6) (hn : ∀ (i : Nat) (x : Rw), rs[i]? = some x → x.nm = nmAt s i) (l : rs.length < 6) (en : r.nm = nmAt s rs.length) (e0 : 0 ≤ r.er ∧ r.er ≤ 100) (d0 : 0 ≤ r.de ∧ r.de ≤ 100)
    (he : ∃ x ∈ rs, r.el = some x.nm) : Rws (rs ++ [r]) ∧ ∀ (i : Nat) (x : Rw), (rs ++ [r])[i]? = some x → x.nm = nmAt s i := by
  have pos := h.pos
  refine ⟨⟨?_, fun x hx => ?_, by rw [List.length_append]; show rs.length + 1 ≤ 6; omega, by rw [List.length_append]; show 1 ≤ rs.length + 1; omega⟩, fun i x hx => ?_⟩
  · rw [List.reverse_append]
    refine ⟨fun x hx z => ?_, e0.1, e0.2, d0.1, d0.2, ?_, h.wf⟩
    · obtain ⟨i, hi, rfl⟩ := List.mem_iff_getElem.mp (List.mem_reverse.mp hx)
      have e := hn i _ (List.getElem?_eq_getElem hi)
      rw [e, en] at z
      exact nm_ne s hs i (by omega) rs.length l (by omega) z
    · have hne : rs.reverse ≠ [] := fun z => by rw [List.reverse_eq_nil_iff.mp z] at pos; exact absurd pos (by decide)
      obtain ⟨x, hx, ex⟩ := he
      show match rs.reverse with | [] => _ | _ :: _ => _
      cases q : rs.reverse with
      | nil => exact absurd q hne
      | cons a t => exact ⟨x.nm, x, ex, q ▸ List.mem_reverse.mpr hx, rfl⟩
  · rcases List.mem_append.mp hx with hx | hx
    · exact h.nms x hx
    · rw [List.mem_singleton.mp hx, en]
      exact nm_nam s hs _ l
  · by_cases hi : i < rs.length
    · rw [List.getElem?_append_left hi] at hx
      exact hn i x hx
    · rw [List.getElem?_append_right (by omega)] at hx
      have : i = rs.length := by
        have := (List.getElem?_eq_some_iff.mp hx).1
        simp at this
        omega
      subst this
      simp at hx
      rw [← hx, en]
theorem Rws.one {r : Rw} {s : Nat} (hs : s < 6) (en : r.nm = nmAt s 0) (e0 : 0 ≤ r.er ∧ r.er ≤ 100) (hd : r.de = 0) (he : r.el = none) : Rws [r] ∧ ∀ (i : Nat) (x : Rw), [r][i]? = some x → x.nm = nmAt s i := by
  refine ⟨⟨⟨fun x hx => absurd hx List.not_mem_nil, e0.1, e0.2, by rw [hd]; decide, by rw [hd]; decide, ⟨he, hd⟩, True.intro⟩, fun x hx => ?_, by show 1 ≤ 6; decide, Nat.le_refl _⟩, fun i x hx => ?_⟩
  · rw [List.mem_singleton.mp hx, en]
    exact nm_nam s hs 0 (by decide)
  · match i, hx with
    | 0, hx => cases hx; exact en
/-- a list of rows -/
def LRows (H : Hp) (L : Addr) (rs : List Rw) : Prop := ∃ xs : List Addr, H L = some (.lst (xs.map V.ref)) ∧ RowsAt H rs xs ∧ Rws rs
/-! ### the rows of a name -/
def sel (z : Str) : List Rw → List Addr → List Addr
  | r :: rs, x :: xs => if r.nm = z then x :: sel z rs xs else sel z rs xs
  | _, _ => []
theorem sel_snoc (z : Str) (r : Rw) (x : Addr) : ∀ {rs : List Rw} {xs : List Addr}, xs.length = rs.length → sel z (rs ++ [r]) (xs ++ [x]) = sel z rs xs ++ (if r.nm = z then [x] else [])
  | [], [], _ => by show (if r.nm = z then x :: sel z [] [] else sel z [] []) = [] ++ _; split <;> rfl
  | q :: rs, y :: xs, h => by
    have ih := sel_snoc z r x (rs := rs) (xs := xs) (by simpa using h)
    show (if q.nm = z then y :: sel z (rs ++ [r]) (xs ++ [x]) else sel z (rs ++ [r]) (xs ++ [x])) = (if q.nm = z then y :: sel z rs xs else sel z rs xs) ++ _
    rw [ih]
    split <;> rfl
theorem sel_take {H : Hp} {rs : List Rw} {xs : List Addr} (h : RowsAt H rs xs) (z : Str) {i : Nat} {r : Rw} {x : Addr} (hr : rs[i]? = some r) (hx : xs[i]? = some x) : sel z (rs.take (i + 1)) (xs.take (i + 1)) = sel z (rs.take i) (xs.take i) ++ (if r.nm = z then [x] else []) := by
  have e1 : rs.take (i + 1) = rs.take i ++ [r] := by rw [List.take_add_one, hr]; rfl
  have e2 : xs.take (i + 1) = xs.take i ++ [x] := by rw [List.take_add_one, hx]; rfl
  rw [e1, e2]
  exact sel_snoc z r x (by rw [List.length_take, List.length_take, h.len])
theorem sel_len (z : Str) : ∀ (rs : List Rw) (xs : List Addr), (sel z rs xs).length ≤ rs.length
  | [], _ => Nat.le_refl _
  | _ :: _, [] => Nat.zero_le _
  | r :: rs, x :: xs => by
    have := sel_len z rs xs
    unfold sel
    split
    · show _ + 1 ≤ _ + 1; omega
    · show _ ≤ _ + 1; omega
theorem sel_head {H : Hp} {rs : List Rw} {xs : List Addr} (h : RowsAt H rs xs) {z : Str} {q : Rw} (e : rowOf rs z = some q) : ∃ x t, sel z rs xs = x :: t ∧ H x = some (rowV q) := by
  induction h with
  | nil => cases e
  | @cons r x rs xs hx t ih =>
    by_cases hr : r.nm = z
    · rw [show rowOf (r :: rs) z = some r from List.find?_cons_of_pos (p := fun r => decide (Rw.nm r = z)) (decide_eq_true hr)] at e
      cases e
      exact ⟨x, sel z rs xs, by rw [sel, if_pos hr], hx⟩
    · rw [show rowOf (r :: rs) z = rowOf rs z from List.find?_cons_of_neg (p := fun r => decide (Rw.nm r = z)) (by simpa using hr)] at e
      obtain ⟨y, t2, e2, h2⟩ := ih e
      exact ⟨y, t2, by rw [sel, if_neg hr]; exact e2, h2⟩
theorem LRows.same {H H' : Hp} {L : Addr} {rs : List Rw} (s : Same H H') (h : LRows H L rs) : LRows H' L rs := by
  obtain ⟨xs, h1, h2, h3⟩ := h
  exact ⟨xs, s _ _ h1, h2.kp fun b ys e => s _ _ e, h3⟩
theorem Wf.drop : ∀ {l : List Rw} (i : Nat), Wf l → Wf (l.drop i)
  | _, 0, h => h
  | [], _ + 1, h => h
  | _ :: l, i + 1, h => Wf.drop (l := l) i h.tail
/-- one row of the law's walk upwards -/
theorem line_step {r : Rw} {rest : List Rw} {last : Str} (wf : Wf (r :: rest)) : up (r :: rest) last = (if r.nm = last then (match r.el with | none => up rest last | some e => last :: up rest e) else up rest last) := by
  rw [up]
  by_cases h : r.nm = last
  · rw [if_pos h, if_pos h]
    cases e : r.el with
    | some x => rfl
    | none =>
      cases rest with
      | nil => rfl
      | cons q t =>
        obtain ⟨x, _, hx, _⟩ := wf.2.2.2.2.2.1
        rw [e] at hx
        cases hx
  · rw [if_neg h, if_neg h]
theorem inV_str (s : Str) : ∀ l : List Str, inV (.str s) (l.map V.str) = decide (s ∈ l)
  | [] => rfl
  | x :: l => by
    have ih := inV_str s l
    unfold inV at ih ⊢
    rw [List.map_cons, List.any_cons, ih]
    show ((x == s) || decide (s ∈ l)) = _
    by_cases h : x = s
    · subst h; simp
    · have h2 : ¬ s = x := fun z => h z.symm
      simp [h, h2]
theorem flat_strs (l : List Str) : (l.map V.str).all flatV = true := by
  rw [List.all_map]
  exact List.all_eq_true.mpr fun x _ => rfl
theorem flat_ints (l : List Int) : (l.map V.int).all flatV = true := by
  rw [List.all_map]
  exact List.all_eq_true.mpr fun x _ => rfl
theorem take_snoc {α : Type} {l : List α} {i : Nat} {x : α} (h : l[i]? = some x) : l.take (i + 1) = l.take i ++ [x] := by
  rw [List.take_add_one, h]
  rfl
theorem up_len {rs : List Rw} (w : Rws rs) {a : Str} (h : Has (rv rs) a) : (up (rv rs) a).length ≤ 6 := by
  have := (up_sub w.wf h).length_le
  rw [List.length_map, List.length_reverse] at this
  exact Nat.le_trans this w.len
theorem sum_eq : ∀ l : List Int, l.sum = sumI l
  | [] => rfl
  | x :: l => by rw [List.sum_cons, sum_eq l]; rfl
/-! ### what the law asks of two demands -/
def needI (rs : List Rw) (p : Pl) (a : Str) (t : Int) (b : Str) : Int := p.at (t + erOf (rv rs) a) + kap (rv rs) a b
def leadB (rs : List Rw) (p : Pl) (a : Str) (t : Int) (b : Str) (u : Int) : Bool := decide (needI rs p a t b < u - erOf (rv rs) b)
theorem leadB_self {rs : List Rw} (w : Rws rs) {p : Pl} {L : Nat} (o : p.ok L) (a : Str) (t : Int) : leadB rs p a t a t = false := by
  have wf : Wf (rv rs) := w.wf
  refine decide_eq_false ?_
  unfold needI
  rw [kap_self wf]
  have := Pl.at_gt p o (t + erOf (rv rs) a)
  have := (er_bd wf a).1
  omega
theorem leadB_trans {rs : List Rw} (w : Rws rs) {p : Pl} {L : Nat} (o : p.ok L) {a b c : Str} {t u v : Int} (ha : Has (rv rs) a) (hb : Has (rv rs) b) (hc : Has (rv rs) c) (h1 : leadB rs p a t b u = true) (h2 : leadB rs p b u c v = true) : leadB rs p a t c v = true := by
  have q1 := of_decide_eq_true h1
  have q2 := of_decide_eq_true h2
  refine decide_eq_true ?_
  unfold needI at q1 q2 ⊢
  have := Pl.at_gt p o (u + erOf (rv rs) b)
  have wf : Wf (rv rs) := w.wf
  have := kap_tri wf ha hb hc
  omega
/-- demands: tuples of a name and a reading -/
inductive DemsAt (H : Hp) (l : List Rw) : List Addr → List (Str × Int) → Prop where
  | nil : DemsAt H l [] []
  | cons {t : Addr} {d : Str × Int} {ts : List Addr} {ds : List (Str × Int)} (h : H t = some (.tup [.str d.1, .int d.2])) (n : Has l d.1) (r : DemsAt H l ts ds) : DemsAt H l (t :: ts) (d :: ds)
theorem DemsAt.kp {H H' : Hp} {l : List Rw} (k : ∀ b ys, H b = some (.tup ys) → H' b = some (.tup ys)) {ts : List Addr} {ds : List (Str × Int)} (h : DemsAt H l ts ds) : DemsAt H' l ts ds := by
  induction h with
  | nil => exact .nil
  | cons h n _ ih => exact .cons (k _ _ h) n ih
theorem DemsAt.len {H : Hp} {l : List Rw} {ts : List Addr} {ds : List (Str × Int)} (h : DemsAt H l ts ds) : ts.length = ds.length := by
  induction h with
  | nil => rfl
  | cons _ _ _ ih => simp [ih]
theorem DemsAt.get {H : Hp} {l : List Rw} {ts : List Addr} {ds : List (Str × Int)} (h : DemsAt H l ts ds) : ∀ {i : Nat} {t : Addr}, ts[i]? = some t → ∃ d, ds[i]? = some d ∧ H t = some (.tup [.str d.1, .int d.2]) ∧ Has l d.1 := by
  induction h with
  | nil => intro i t e; simp at e
  | cons h n _ ih =>
    intro i t e
    cases i with
    | zero => simp at e; subst e; exact ⟨_, rfl, h, n⟩
    | succ i => exact ih (by simpa using e)
theorem DemsAt.snoc {H : Hp} {l : List Rw} {t : Addr} {d : Str × Int} (ht : H t = some (.tup [.str d.1, .int d.2])) (n : Has l d.1) {ts : List Addr} {ds : List (Str × Int)} (h : DemsAt H l ts ds) : DemsAt H l (ts ++ [t]) (ds ++ [d]) := by
  induction h with
  | nil => exact .cons ht n .nil
  | cons h n _ ih => exact .cons h n ih
/-! ### a net's making -/
theorem Wf.at_row {rs : List Rw} (wf : Wf rs.reverse) {i : Nat} {q : Rw} (h : rs[i]? = some q) : (∀ x ∈ rs.take i, x.nm ≠ q.nm) ∧ 0 ≤ q.er ∧ q.er ≤ 100 ∧ 0 ≤ q.de ∧ q.de ≤ 100 ∧ (rs.take i = [] → q.el = none ∧ q.de = 0) ∧ (rs.take i ≠ [] → ∃ x ∈ rs.take i, q.el = some x.nm) := by
  obtain ⟨hi, e⟩ := List.getElem?_eq_some_iff.mp h
  have e1 : rs.reverse.drop (rs.length - 1 - i) = q :: (rs.take i).reverse := by
    rw [List.drop_reverse, show rs.length - (rs.length - 1 - i) = i + 1 by omega, take_snoc h, List.reverse_append]
    rfl
  have w := Wf.drop (rs.length - 1 - i) wf
  rw [e1] at w
  refine ⟨fun x hx => w.1 x (List.mem_reverse.mpr hx), w.2.1, w.2.2.1, w.2.2.2.1, w.2.2.2.2.1, fun z => ?_, fun z => ?_⟩
  · have q2 := w.2.2.2.2.2.1
    rw [z] at q2
    exact q2
  · have q2 := w.2.2.2.2.2.1
    cases q3 : (rs.take i).reverse with
    | nil => exact absurd (List.reverse_eq_nil_iff.mp q3) z
    | cons a t =>
      rw [q3] at q2
      obtain ⟨e, x, h1, h2, h3⟩ := q2
      exact ⟨x, List.mem_reverse.mp (q3 ▸ h2), by rw [h1, h3]⟩
theorem RowsAt.take {H : Hp} {rs : List Rw} {xs : List Addr} (h : RowsAt H rs xs) : ∀ i : Nat, RowsAt H (rs.take i) (xs.take i) := by
  induction h with
  | nil => intro i; cases i <;> exact .nil
  | cons h _ ih =>
    intro i
    cases i with
    | zero => exact .nil
    | succ i => exact .cons h (ih i)
theorem kvs_snoc (r : Rw) (x : Addr) : ∀ {rs : List Rw} {xs : List Addr}, xs.length = rs.length → kvs (rs ++ [r]) (xs ++ [x]) = kvs rs xs ++ [(kS r.nm, V.ref x)]
  | [], [], _ => rfl
  | q :: rs, y :: xs, h => by
    have ih := kvs_snoc r x (rs := rs) (xs := xs) (by simpa using h)
    show (kS q.nm, V.ref y) :: kvs (rs ++ [r]) (xs ++ [x]) = (kS q.nm, V.ref y) :: (kvs rs xs ++ _)
    rw [ih]
theorem put_new {kv : List (Key × V)} {k : Key} {v : V} (h : valV kv k = none) : putK kv k v = kv ++ [(k, v)] := by
  unfold putK
  rw [if_neg]
  rw [valV_any, h]
  simp
/-! ### where two lines meet -/
theorem up_root : ∀ {l : List Rw}, Wf l → l ≠ [] → ∃ t, ∀ n, Has l n → t ∈ up l n
  | [], _, h => absurd rfl h
  | [r], _, _ => ⟨r.nm, fun n ⟨x, hx, e⟩ => by
      rw [List.mem_singleton.mp hx] at e
      rw [e]
      exact up_self _ _⟩
  | r :: r2 :: rest, wf, _ => by
    obtain ⟨t, ht⟩ := up_root wf.tail (List.cons_ne_nil _ _)
    refine ⟨t, fun n hn => ?_⟩
    by_cases h : r.nm = n
    · obtain ⟨e, x, he, hx, hxe⟩ := wf.2.2.2.2.2.1
      rw [up, if_pos h, he]
      exact List.mem_cons_of_mem _ (ht e ⟨x, hx, hxe⟩)
    · obtain ⟨x, hx, hxn⟩ := hn
      rcases List.mem_cons.mp hx with rfl | hx
      · exact absurd hxn h
      · rw [up_skip wf ⟨x, hx, hxn⟩]
        exact ht n ⟨x, hx, hxn⟩
theorem first_in (p : Str → Bool) : ∀ {l : List Str}, (∃ x ∈ l, p x = true) → ∃ A m R, l = A ++ m :: R ∧ p m = true ∧ ∀ x ∈ A, p x = false
  | [], ⟨x, hx, _⟩ => absurd hx List.not_mem_nil
  | y :: l, h => by
    cases e : p y with
    | true => exact ⟨[], y, l, rfl, e, fun x hx => absurd hx List.not_mem_nil⟩
    | false =>
      obtain ⟨x, hx, hp⟩ := h
      have hx' : x ∈ l := by
        rcases List.mem_cons.mp hx with rfl | hx
        · rw [e] at hp; cases hp
        · exact hx
      obtain ⟨A, m, R, h1, h2, h3⟩ := first_in p (l := l) ⟨x, hx', hp⟩
      refine ⟨y :: A, m, R, by rw [h1]; rfl, h2, fun z hz => ?_⟩
      rcases List.mem_cons.mp hz with rfl | hz
      · exact e
      · exact h3 z hz
theorem split_uniq {m : Str} : ∀ {A P R T : List Str}, m ∉ A → m ∉ P → A ++ m :: R = P ++ m :: T → A = P ∧ R = T
  | [], [], _, _, _, _, h => ⟨rfl, (List.cons.inj h).2⟩
  | [], p :: P, _, _, _, h2, h => absurd (by have := (List.cons.inj h).1; rw [this]; exact List.mem_cons_self) h2
  | a :: A, [], _, _, h1, _, h => absurd (by have := (List.cons.inj h).1; rw [← this]; exact List.mem_cons_self) h1
  | a :: A, p :: P, _, _, h1, h2, h => by
    obtain ⟨e1, e2⟩ := List.cons.inj h
    obtain ⟨e3, e4⟩ := split_uniq (fun z => h1 (List.mem_cons_of_mem _ z)) (fun z => h2 (List.mem_cons_of_mem _ z)) e2
    exact ⟨by rw [e1, e3], e4⟩
theorem meet {l : List Rw} (wf : Wf l) {a b : Str} (ha : Has l a) (hb : Has l b) : ∃ A B m S, up l a = A ++ m :: S ∧ up l b = B ++ m :: S ∧ (∀ x ∈ A, x ∉ up l b) ∧ ∀ x ∈ B, x ∉ up l a := by
  obtain ⟨t, ht⟩ := up_root wf (fun z => by obtain ⟨x, hx, _⟩ := ha; rw [z] at hx; cases hx)
  obtain ⟨A, m, R, e1, e2, e3⟩ := first_in (fun x => decide (x ∈ up l b)) (l := up l a) ⟨t, ht a ha, decide_eq_true (ht b hb)⟩
  have hmb : m ∈ up l b := of_decide_eq_true e2
  have hma : m ∈ up l a := by rw [e1]; simp
  have hA : ∀ x ∈ A, x ∉ up l b := fun x hx z => by have := e3 x hx; rw [decide_eq_true z] at this; cases this
  obtain ⟨P, f1, f2⟩ := up_suf wf ha hma
  obtain ⟨B, g1, g2⟩ := up_suf wf hb hmb
  obtain ⟨tm, em⟩ := up_head l m
  rw [em] at f1 g1
  have hmA : m ∉ A := fun z => hA m z hmb
  obtain ⟨_, rfl⟩ := split_uniq hmA f2 (e1.symm.trans f1)
  refine ⟨A, B, m, R, e1, g1, hA, fun x hx z => ?_⟩
  have hxb : x ∈ up l b := by rw [g1]; exact List.mem_append_left _ hx
  rw [e1] at z
  rcases List.mem_append.mp z with z | z
  · exact hA x z hxb
  · have nd := up_nodup wf hb
    rw [g1] at nd
    exact (List.nodup_append.mp nd).2.2 x hx x z rfl
theorem far_meet {l : List Rw} (wf : Wf l) {a b m : Str} {A B S : List Str} (ha : Has l a) (hb : Has l b) (e1 : up l a = A ++ m :: S) (e2 : up l b = B ++ m :: S) (hA : ∀ x ∈ A, x ∉ up l b) (hB : ∀ x ∈ B, x ∉ up l a) : far l a b = sumI (A.map (deOf l)) + sumI (B.map (deOf l)) := by
  have f : ∀ {X Y : List Str} {T : List Str}, (∀ x ∈ X, x ∉ T) → (∀ x ∈ Y, x ∈ T) → (X ++ Y).filter (fun x => !decide (x ∈ T)) = X := fun {X Y T} h1 h2 => by
    rw [List.filter_append, List.filter_eq_self.mpr (fun x hx => by simp [h1 x hx]), List.filter_eq_nil_iff.mpr (fun x hx => by simp [h2 x hx]), List.append_nil]
  unfold far
  rw [List.map_append, sumI_app]
  have q1 : (up l a).filter (fun x => !decide (x ∈ up l b)) = A := by
    conv => lhs; rw [e1]
    exact f hA fun x hx => by rw [e2]; exact List.mem_append_right _ hx
  have q2 : (up l b).filter (fun x => !decide (x ∈ up l a)) = B := by
    conv => lhs; rw [e2]
    exact f hB fun x hx => by rw [e1]; exact List.mem_append_right _ hx
  rw [q1, q2]
/-- who stands next in a line is the elder -/
theorem line_next {l : List Rw} (wf : Wf l) {a x : Str} {s t : List Str} (ha : Has l a) (e : up l a = s ++ x :: t) : elOf l x = t.head? := by
  have hx : x ∈ up l a := by rw [e]; simp
  obtain ⟨pre, f1, f2⟩ := up_suf wf ha hx
  obtain ⟨tx, ex⟩ := up_head l x
  rw [ex] at f1
  have nd := up_nodup wf ha
  rw [e] at nd
  have ns : x ∉ s := fun z => (List.nodup_append.mp nd).2.2 x z x List.mem_cons_self rfl
  obtain ⟨_, rfl⟩ := split_uniq ns f2 (e.symm.trans f1)
  obtain ⟨q, hq, _, _⟩ := rowOf_has (up_mem ha wf x hx)
  obtain ⟨u1, _⟩ := up_step wf hq
  unfold elOf
  rw [hq]
  show q.el = t.head?
  rw [ex] at u1
  have := (List.cons.inj u1).2
  rw [this]
  cases q.el with
  | none => rfl
  | some y =>
    obtain ⟨ty, ey⟩ := up_head l y
    show some y = (up l y).head?
    rw [ey]
    rfl
theorem atI_2 (X : List Str) (z y : Str) : atI ((X ++ [z, y]).map V.str) (-2) = some (.str z) := by
  unfold atI
  have hl : ((X ++ [z, y]).map V.str).length = X.length + 2 := by simp
  have e : ixN ((X ++ [z, y]).map V.str).length (-2) = some X.length := by
    rw [hl]
    unfold ixN
    rw [if_neg (by omega)]
    simp
    exact ⟨by omega, by omega⟩
  rw [e]
  show ((X ++ [z, y]).map V.str)[X.length]? = _
  rw [List.getElem?_map, List.getElem?_append_right (Nat.le_refl _)]
  simp
theorem cut_init (L : List Str) (y : Str) : cutV ((L ++ [y]).map V.str) none (some (-1)) = L.map V.str := by
  unfold cutV
  have e1 : HT.sIx ((L ++ [y]).map V.str).length 0 none = 0 := rfl
  have e2 : HT.sIx ((L ++ [y]).map V.str).length ((L ++ [y]).map V.str).length (some (-1)) = L.length := by
    show (if (-1 : Int) < 0 then ((-1 : Int) + (((L ++ [y]).map V.str).length : Int)).toNat else min (-1 : Int).toNat ((L ++ [y]).map V.str).length) = _
    rw [if_pos (by decide), List.length_map, List.length_append]
    simp
    omega
  rw [e1, e2, List.drop_zero, Nat.sub_zero, ← List.map_take, List.take_left]
theorem cut_from (X Y : List Str) (m : Str) : cutV ((X ++ m :: Y).map V.str) (some ((X.length : Int) + 1)) none = Y.map V.str := by
  unfold cutV
  have e1 : HT.sIx ((X ++ m :: Y).map V.str).length 0 (some ((X.length : Int) + 1)) = X.length + 1 := by
    rw [show (X.length : Int) + 1 = ((X.length + 1 : Nat) : Int) by omega, HT.sIx_nat]
    simp
  have e2 : HT.sIx ((X ++ m :: Y).map V.str).length ((X ++ m :: Y).map V.str).length none = ((X ++ m :: Y).map V.str).length := rfl
  rw [e1, e2, ← List.map_drop, show (X ++ m :: Y).drop (X.length + 1) = Y by rw [List.drop_append]; simp]
  exact List.take_of_length_le (by rw [List.length_map, List.length_map, List.length_append]; simp; omega)
theorem inV_non : ∀ l : List Str, inV .non (l.map V.str) = false
  | [] => rfl
  | x :: l => by
    have ih := inV_non l
    unfold inV at ih ⊢
    rw [List.map_cons, List.any_cons, ih]
    rfl
def elIn (l : List Rw) (W : List Str) (x : Str) : Bool := match elOf l x with | none => false | some e => decide (e ∈ W)
theorem inV_el (l : List Rw) (W : List Str) (x : Str) : inV (elV (elOf l x)) (W.map V.str) = elIn l W x := by
  unfold elIn
  cases elOf l x with
  | none => exact inV_non W
  | some e => exact inV_str e W
theorem way_filter {l : List Rw} (wf : Wf l) {a b m : Str} {A B S : List Str} (ha : Has l a) (hb : Has l b) (e1 : up l a = A ++ m :: S) (e2 : up l b = B ++ m :: S) (hB : ∀ x ∈ B, x ∉ up l a) :
    (A ++ m :: B.reverse).filter (elIn l (A ++ m :: B.reverse)) = A ++ B.reverse := by
  have below : ∀ {c : Str} {X : List Str}, Has l c → up l c = X ++ m :: S → (∀ y ∈ X, y ∈ A ++ m :: B.reverse) → ∀ x ∈ X, elIn l (A ++ m :: B.reverse) x = true := fun {c X} hc ec hX x hx => by
    obtain ⟨X1, X2, rfl⟩ := List.append_of_mem hx
    have q := line_next wf hc (s := X1) (x := x) (t := X2 ++ m :: S) (by rw [ec]; simp)
    unfold elIn
    rw [q]
    cases X2 with
    | nil => exact decide_eq_true (by simp)
    | cons y X2 => exact decide_eq_true (hX y (by simp))
  have at_m : elIn l (A ++ m :: B.reverse) m = false := by
    have q := line_next wf ha (s := A) (x := m) (t := S) e1
    unfold elIn
    rw [q]
    cases S with
    | nil => rfl
    | cons y S =>
      have na := up_nodup wf ha
      have nb := up_nodup wf hb
      rw [e1] at na
      rw [e2] at nb
      refine decide_eq_false fun z => ?_
      rcases List.mem_append.mp z with z | z
      · exact (List.nodup_append.mp na).2.2 y z y (by simp) rfl
      · rcases List.mem_cons.mp z with z | z
        · exact (List.nodup_cons.mp (List.nodup_append.mp na).2.1).1 (by rw [← z]; simp)
        · exact (List.nodup_append.mp nb).2.2 y (List.mem_reverse.mp z) y (by simp) rfl
  rw [List.filter_append, List.filter_cons, if_neg (by rw [at_m]; simp), List.filter_eq_self.mpr (below ha e1 fun y hy => by simp [hy]), List.filter_eq_self.mpr fun x hx => below hb e2 (fun y hy => by simp [hy]) x (List.mem_reverse.mp hx)]
theorem sumI_rev (f : Str → Int) : ∀ l : List Str, sumI (l.reverse.map f) = sumI (l.map f)
  | [] => rfl
  | x :: l => by
    rw [List.reverse_cons, List.map_append, sumI_app, sumI_rev f l]
    show sumI (l.map f) + (f x + 0) = f x + sumI (l.map f)
    omega
theorem way_sum {l : List Rw} (wf : Wf l) {a b m : Str} {A B S : List Str} (ha : Has l a) (hb : Has l b) (e1 : up l a = A ++ m :: S) (e2 : up l b = B ++ m :: S) (hA : ∀ x ∈ A, x ∉ up l b) (hB : ∀ x ∈ B, x ∉ up l a) :
    sumI (((A ++ m :: B.reverse).filter (elIn l (A ++ m :: B.reverse))).map (deOf l)) = far l a b := by
  rw [way_filter wf ha hb e1 e2 hB, List.map_append, sumI_app, sumI_rev, far_meet wf ha hb e1 e2 hA hB]
/-- a net with its rest and its numbers -/
def NetFull (a : Ad) (r : Ar) (F : Addr → Prop) (H : Hp) (N : Addr) (rs : List Rw) (p : Pl) : Prop := ∃ (D Dk : Addr) (fs : List (Str × V)) (kk : List (List Key × V)) (x : Addr), NetR r H N D rs fs ∧ fs.lookup ("_kappas" : Str) = some (.ref Dk) ∧ H Dk = some (.dT kk) ∧ KapOk H rs kk ∧ fs.lookup ("rest" : Str) = some (.ref x) ∧ RestAt a F H p x
theorem NetFull.same {a : Ad} {r : Ar} {F : Addr → Prop} {H H' : Hp} {N : Addr} {rs : List Rw} {p : Pl} (s : Same H H') (h : NetFull a r F H N rs p) : NetFull a r F H' N rs p := by
  obtain ⟨D, Dk, fs, kk, x, h1, h2, h3, h4, h5, h6⟩ := h
  exact ⟨D, Dk, fs, kk, x, h1.same s, h2, s _ _ h3, h4.kp fun b ys e => s _ _ e, h5, h6.same s⟩
theorem RestAt.ext {a : Ad} {F G : Addr → Prop} {H : Hp} (k : ∀ b, G b → F b ∨ H b = none) : ∀ {p : Pl} {x : Addr}, RestAt a F H p x → RestAt a G H p x
  | .win w, x, ⟨n, dx, t, h, l⟩ => ⟨fun z => (k _ z).elim n fun q => (by rw [q] at h; cases h), dx, t, h, l⟩
  | .days bs e, x, ⟨n, dx, t, b, h, l, nb, hb⟩ => ⟨fun z => (k _ z).elim n fun q => (by rw [q] at h; cases h), dx, t, b, h, l, fun z => (k _ z).elim nb fun q => (by rw [q] at hb; cases hb), hb⟩
  | .lat p q, x, ⟨n, dx, t, y, z, h, l, h2, h3⟩ => ⟨fun z => (k _ z).elim n fun q => (by rw [q] at h; cases h), dx, t, y, z, h, l, h2.ext k, h3.ext k⟩
  | .soo p q, x, ⟨n, dx, t, y, z, h, l, h2, h3⟩ => ⟨fun z => (k _ z).elim n fun q => (by rw [q] at h; cases h), dx, t, y, z, h, l, h2.ext k, h3.ext k⟩
  | .nex p q, x, ⟨n, dx, t, y, z, h, l, h2, h3⟩ => ⟨fun z => (k _ z).elim n fun q => (by rw [q] at h; cases h), dx, t, y, z, h, l, h2.ext k, h3.ext k⟩
def DistP (rs : List Rw) (kd : List (List Key × V)) (i j : Nat) : Prop := ∀ (p q : Nat) (x y : Rw), rs[p]? = some x → rs[q]? = some y → (p < i ∨ p = i ∧ q < j) → valV kd [kS x.nm, kS y.nm] = some (.int (far (rv rs) x.nm y.nm))
def KapP (H : Hp) (rs : List Rw) (kk : List (List Key × V)) (i j : Nat) : Prop := ∀ (p q : Nat) (x y : Rw), rs[p]? = some x → rs[q]? = some y → (p < i ∨ p = i ∧ q < j) → ∃ T s, valV kk [kS x.nm, kS y.nm] = some (.ref T) ∧ H T = some (.tup [.int (kap (rv rs) x.nm y.nm), .str s])
theorem put_len {κ : Type} [DecidableEq κ] (kv : List (κ × V)) (k : κ) (v : V) : (putK kv k v).length ≤ kv.length + 1 := by
  unfold putK
  split
  · rw [List.length_map]; omega
  · rw [List.length_append]; exact Nat.le_refl _
theorem key2 {a b c d : Str} (h : [kS a, kS b] = [kS c, kS d]) : a = c ∧ b = d := by
  have h1 := (List.cons.inj h).1
  have h2 := (List.cons.inj (List.cons.inj h).2).1
  exact ⟨Sum.inr.inj h1, Sum.inr.inj h2⟩
theorem DistP.put {rs : List Rw} {kd : List (List Key × V)} {i j : Nat} (h : DistP rs kd i j) {x y : Rw} (hx : rs[i]? = some x) (hy : rs[j]? = some y) : DistP rs (putK kd [kS x.nm, kS y.nm] (.int (far (rv rs) x.nm y.nm))) i (j + 1) := fun p q u v hu hv hpq => by
  rw [valV_put]
  by_cases e : [kS u.nm, kS v.nm] = [kS x.nm, kS y.nm]
  · rw [if_pos e]
    obtain ⟨e1, e2⟩ := key2 e
    rw [e1, e2]
  · rw [if_neg e]
    refine h p q u v hu hv ?_
    rcases hpq with z | ⟨z1, z2⟩
    · exact .inl z
    · by_cases zq : q = j
      · subst z1 zq
        rw [hx] at hu
        rw [hy] at hv
        cases hu
        cases hv
        exact absurd rfl e
      · exact .inr ⟨z1, by omega⟩
theorem DistP.next {rs : List Rw} {kd : List (List Key × V)} {i : Nat} (h : DistP rs kd i rs.length) : DistP rs kd (i + 1) 0 := fun p q u v hu hv hpq => by
  refine h p q u v hu hv ?_
  have := (List.getElem?_eq_some_iff.mp hv).1
  omega
theorem DistP.done {rs : List Rw} {kd : List (List Key × V)} (h : DistP rs kd rs.length 0) : DistOk rs kd := fun a b ha hb => by
  obtain ⟨x, hx, rfl⟩ := ha
  obtain ⟨y, hy, rfl⟩ := hb
  obtain ⟨i, hi, ei⟩ := List.mem_iff_getElem.mp (List.mem_reverse.mp hx)
  obtain ⟨j, hj, ej⟩ := List.mem_iff_getElem.mp (List.mem_reverse.mp hy)
  exact h i j x y (by rw [← ei]; exact List.getElem?_eq_getElem hi) (by rw [← ej]; exact List.getElem?_eq_getElem hj) (.inl hi)
theorem KapP.kp {H H' : Hp} (k : ∀ b ys, H b = some (.tup ys) → H' b = some (.tup ys)) {rs : List Rw} {kk : List (List Key × V)} {i j : Nat} (h : KapP H rs kk i j) : KapP H' rs kk i j := fun p q x y hx hy hpq => by
  obtain ⟨T, s, h1, h2⟩ := h p q x y hx hy hpq
  exact ⟨T, s, h1, k _ _ h2⟩
theorem KapP.put {H : Hp} {rs : List Rw} {kk : List (List Key × V)} {i j : Nat} (h : KapP H rs kk i j) {x y : Rw} (hx : rs[i]? = some x) (hy : rs[j]? = some y) {T : Addr} {s : Str} (hT : H T = some (.tup [.int (kap (rv rs) x.nm y.nm), .str s])) : KapP H rs (putK kk [kS x.nm, kS y.nm] (.ref T)) i (j + 1) := fun p q u v hu hv hpq => by
  rw [valV_put]
  by_cases e : [kS u.nm, kS v.nm] = [kS x.nm, kS y.nm]
  · rw [if_pos e]
    obtain ⟨e1, e2⟩ := key2 e
    rw [e1, e2]
    exact ⟨T, s, rfl, hT⟩
  · rw [if_neg e]
    refine h p q u v hu hv ?_
    rcases hpq with z | ⟨z1, z2⟩
    · exact .inl z
    · by_cases zq : q = j
      · subst z1 zq
        rw [hx] at hu
        rw [hy] at hv
        cases hu
        cases hv
        exact absurd rfl e
      · exact .inr ⟨z1, by omega⟩
theorem KapP.next {H : Hp} {rs : List Rw} {kk : List (List Key × V)} {i : Nat} (h : KapP H rs kk i rs.length) : KapP H rs kk (i + 1) 0 := fun p q u v hu hv hpq => by
  refine h p q u v hu hv ?_
  have := (List.getElem?_eq_some_iff.mp hv).1
  omega
theorem KapP.done {H : Hp} {rs : List Rw} {kk : List (List Key × V)} (h : KapP H rs kk rs.length 0) : KapOk H rs kk := fun a b ha hb => by
  obtain ⟨x, hx, rfl⟩ := ha
  obtain ⟨y, hy, rfl⟩ := hb
  obtain ⟨i, hi, ei⟩ := List.mem_iff_getElem.mp (List.mem_reverse.mp hx)
  obtain ⟨j, hj, ej⟩ := List.mem_iff_getElem.mp (List.mem_reverse.mp hy)
  exact h i j x y (by rw [← ei]; exact List.getElem?_eq_getElem hi) (by rw [← ej]; exact List.getElem?_eq_getElem hj) (.inl hi)
theorem kvs_key {H : Hp} {rs : List Rw} {xs : List Addr} (h : RowsAt H rs xs) {i : Nat} {k : Key} {v : V} (e : (kvs rs xs)[i]? = some (k, v)) : ∃ q, rs[i]? = some q ∧ k = kS q.nm := by
  have := kvs_get h i
  rw [e] at this
  cases q : rs[i]? with
  | none => rw [q] at this; cases this
  | some r =>
    rw [q] at this
    exact ⟨r, rfl, Option.some.inj this⟩
theorem LRows.okb {g l : Addr} {H H' : Hp} {L : Addr} {rs : List Rw} (r : OkB g l H H') (n : L ≠ g) (m : L ≠ l) (h : LRows H L rs) : LRows H' L rs := by
  obtain ⟨xs, h1, h2, h3⟩ := h
  exact ⟨xs, r.at_ h1 n m, h2.kp fun b ys e => r.tup e, h3⟩
theorem OkB.nl {g l p : Addr} {H H1 : Hp} {o : HO} (a : OkB g l H H1) (h : H p = some o) (n : ∀ xs, o ≠ .lst xs) : H1 p = some o := by
  obtain ⟨⟨us, q⟩, ⟨vs, r⟩⟩ := a.b0.there
  exact a.kp p _ (fun e => by rw [e, q] at h; exact n us (Option.some.inj h).symm) (fun e => by rw [e, r] at h; exact n vs (Option.some.inj h).symm) h
theorem NetFull.okb {a : Ad} {r : Ar} {g l : Addr} {H H' : Hp} {N : Addr} {rs : List Rw} {p : Pl} (k : OkB g l H H') (h : NetFull a r (fun b => b = g ∨ b = l) H N rs p) : NetFull a r (fun b => b = g ∨ b = l) H' N rs p := by
  obtain ⟨D, Dk, fs, kk, x, ⟨dx, xs, a1, a2, a3, a4, a5, a6⟩, h2, h3, h4, h5, h6⟩ := h
  refine ⟨D, Dk, fs, kk, x, ⟨dx, xs, k.nl a1 (fun _ z => nomatch z), a2, a3, ?_, a5.kp fun b ys e => k.tup e, a6⟩, h2, k.nl h3 (fun _ z => nomatch z), h4.kp fun b ys e => k.tup e, h5, h6.kp fun b o n e => k.kp b o (fun z => n (.inl z)) (fun z => n (.inr z)) e⟩
  rcases a4 with q | ⟨o, q⟩
  · exact .inl (k.nl q fun _ z => nomatch z)
  · exact .inr ⟨o, k.nl q fun _ z => nomatch z⟩
/-- who leads whom, of one demand -/
def rowB (rs : List Rw) (p : Pl) (ds : List (Str × Int)) (d : Str × Int) : List Bool := ds.map fun e => leadB rs p d.1 d.2 e.1 e.2
def Told (H : Hp) (rs : List Rw) (p : Pl) (ds : List (Str × Int)) (qs : List Addr) (n : Nat) : Prop := qs.length = n ∧ ∀ (j : Nat) (q : Addr) (d : Str × Int), qs[j]? = some q → ds[j]? = some d → H q = some (.lst ((rowB rs p ds d).map V.bl))

end k80
namespace k80
open PySem L2 LC RM
def spcheck_count : Sp := fun vs H Q _ => ∃ (z : Str) (c m : Int), vs = [.str z, .int c, .int m] ∧ c ≤ m ∧ Q .non H
theorem ok_check_count {P : Program} {w : World} {K : PySem.W.Frag} {mg : Str → Option Value} {base : Heap} {f : Addr} {fd : FuncData} (D : Def K mg "check_count" scheck_count Pcheck_count f fd) (T : Txt K mg) :
    FnOk P w K mg base CX0 1 f fd Pcheck_count (spcheck_count) := by
  refine D.F.ok sccheck_count (fun vs H Q E h => ?_) (fun cdv A outer s H vs Q E hr h => ?_)
  · obtain ⟨z, c, m, rfl, hc, k⟩ := h
    rfl
  · obtain ⟨z, c, m, rfl, hc, k⟩ := h
    refine ⟨_, (pss_one (ps_if (pt_cmpR op_gt (pv 1) (pv 2) (nomark _)) (pss_one LC.ps_never) pss_nil)), ?_⟩
    exact ⟨_, rfl, _, rfl, _, _, rfl, rfl, _, rfl, ite_d (fun h => absurd h (by omega)) (fun _ => k)⟩
end k80
namespace k80
open PySem L2 LC RM
def spis_whole : Sp := fun vs H Q _ => ∃ v : Int, vs = [.int v] ∧ Q (.bl true) H
theorem ok_is_whole {P : Program} {w : World} {K : PySem.W.Frag} {mg : Str → Option Value} {base : Heap} {f : Addr} {fd : FuncData} (D : Def K mg "is_whole" sis_whole Pis_whole f fd) (T : Txt K mg) :
    FnOk P w K mg base CX0 1 f fd Pis_whole (spis_whole) := by
  refine D.F.ok scis_whole (fun vs H Q E h => ?_) (fun cdv A outer s H vs Q E hr h => ?_)
  · obtain ⟨v, rfl, k⟩ := h
    rfl
  · obtain ⟨v, rfl, k⟩ := h
    refine ⟨_, (pss_one (ps_ret (pe_and (pe_callB call_isi (by rfl) T.n_isinstance (by decide +kernel) (pa_cons (pv 0) (pa_cons (pe_ty "int" (by rfl) T.n_int (by decide +kernel)) pa_nil))) (pe_one (pe_not (pe_callB call_isi (by rfl) T.n_isinstance (by decide +kernel) (pa_cons (pv 0) (pa_cons (pe_ty "bool" (by rfl) T.n_bool (by decide +kernel)) pa_nil)))))))), ?_⟩
    refine ⟨_, rfl, _, _, _, _, _, rfl, .ty _, .base (.int v), kit_ty (show kitB "int" "int" = some true by decide +kernel), _, rfl, ?_⟩
    exact iteT ⟨_, rfl, _, _, _, _, _, rfl, .ty _, .base (.int v), kit_ty (show kitB "int" "bool" = some false by decide +kernel), _, rfl, k⟩
end k80
namespace k80
open PySem L2 LC RM
def spis_number : Sp := fun vs H Q _ => ∃ (v lo hi : Int), vs = [.int v, .int lo, .int hi] ∧ lo ≤ v ∧ v ≤ hi ∧ Q (.bl true) H
theorem ok_is_number {P : Program} {w : World} {K : PySem.W.Frag} {mg : Str → Option Value} {base : Heap} {f : Addr} {fd : FuncData} (D : Def K mg "is_number" sis_number Pis_number f fd) (T : Txt K mg) {fis_whole : Addr} {fdis_whole : FuncData} (Dis_whole : Def K mg "is_whole" sis_whole Pis_whole fis_whole fdis_whole) (Gis_whole : FnOk P w K mg base CX0 1 fis_whole fdis_whole Pis_whole (spis_whole)) :
    FnOk P w K mg base CX0 2 f fd Pis_number (spis_number) := by
  refine D.F.ok scis_number (fun vs H Q E h => ?_) (fun cdv A outer s H vs Q E hr h => ?_)
  · obtain ⟨v, lo, hi, rfl, h1, h2, k⟩ := h
    rfl
  · obtain ⟨v, lo, hi, rfl, h1, h2, k⟩ := h
    have hris_whole : Room 1 _ := hr.mono (by decide)
    refine ⟨_, (pss_one (ps_ret (pe_and (pe_call Gis_whole hris_whole rfl Dis_whole.g Dis_whole.F.kp Dis_whole.b .nil pass0 (pa_cons (pv 0) pa_nil)) (pe_one (pe_chain op_le op_le (pv 1) (pv 0) (pv 2)))))), ?_⟩
    refine ⟨_, rfl, v, rfl, _, rfl, iteT ?_⟩
    refine ⟨_, rfl, _, rfl, _, _, rfl, rfl, _, rfl, ite_d (fun _ => ?_) (fun h => absurd h1 h)⟩
    refine ⟨_, rfl, _, _, rfl, rfl, ?_⟩
    show Q (.bl (decide (v ≤ hi))) H
    rw [decide_eq_true h2]
    exact k
end k80
namespace k80
open PySem L2 LC RM
def spcheck_borders : Sp := fun vs H Q _ => ∃ (p : Addr) (bs : List Int), vs = [.ref p] ∧ H p = some (.lst (bs.map V.int)) ∧ bs.length ≤ 12 ∧ Asc 1 bs ∧ ∀ H', Same H H' → Q .non H'
theorem ok_check_borders {P : Program} {w : World} {K : PySem.W.Frag} {mg : Str → Option Value} {base : Heap} {f : Addr} {fd : FuncData} (D : Def K mg "check_borders" scheck_borders Pcheck_borders f fd) (T : Txt K mg) {fcheck_count : Addr} {fdcheck_count : FuncData} (Dcheck_count : Def K mg "check_count" scheck_count Pcheck_count fcheck_count fdcheck_count) (Gcheck_count : FnOk P w K mg base CX0 1 fcheck_count fdcheck_count Pcheck_count (spcheck_count)) {fis_number : Addr} {fdis_number : FuncData} (Dis_number : Def K mg "is_number" sis_number Pis_number fis_number fdis_number) (Gis_number : FnOk P w K mg base CX0 2 fis_number fdis_number Pis_number (spis_number)) :
    FnOk P w K mg base CX0 3 f fd Pcheck_borders (spcheck_borders) := by
  refine D.F.ok sccheck_borders (fun vs H Q E h => ?_) (fun cdv A outer s H vs Q E hr h => ?_)
  · obtain ⟨p, bs, rfl, hp, hl, ha, k⟩ := h
    rfl
  · obtain ⟨p, bs, rfl, hp, hl, ha, k⟩ := h
    have hrcheck_count : Room 1 _ := hr.mono (by decide)
    have hris_number : Room 2 _ := hr.mono (by decide)
    obtain ⟨tc_MOST_BORDERS, hc_MOST_BORDERS⟩ := T.c_MOST_BORDERS
    obtain ⟨tc_MOST_SIZE, hc_MOST_SIZE⟩ := T.c_MOST_SIZE
    refine ⟨_, (pss_cons (ps_if (pt_not (pt_val (pe_callB call_isiT (by rfl) T.n_isinstance (by decide +kernel) (pa_cons (pv 0) (pa_cons (pe_tup (pa_cons (pe_ty "list" (by rfl) T.n_list (by decide +kernel)) (pa_cons (pe_ty "tuple" (by rfl) T.n_tuple (by decide +kernel)) pa_nil))) pa_nil))))) (pss_one LC.ps_never) pss_nil)
        (pss_cons (ps_expr (pe_call Gcheck_count hrcheck_count rfl Dcheck_count.g Dcheck_count.F.kp Dcheck_count.b .nil pass0 (pa_cons pe_str (pa_cons (pe_callB call_len_seq (by rfl) T.n_len PySem.boot_len (pa_cons (pv 0) pa_nil)) (pa_cons (pe_gint rfl hc_MOST_BORDERS) pa_nil)))))
        (pss_cons (ps_set (i := 1) sccheck_borders.nd rfl (Or.inl rfl) pe_int)
        (pss_one (ps_for PassesOwn.never rfl (pi_enum (by rfl) T.n_enumerate (pa_cons (pv 0) pa_nil)) ((pg_tup rfl (pgs_cons (pg_name (i := 2) sccheck_borders.nd rfl (Or.inl rfl)) (pgs_cons (pg_name (i := 3) sccheck_borders.nd rfl (Or.inl rfl)) pgs_nil))))
          (pss_cons (ps_if (pt_not (pt_val (pe_call Gis_number hris_number rfl Dis_number.g Dis_number.F.kp Dis_number.b .nil pass0 (pa_cons (pv 3) (pa_cons (pv 1) (pa_cons (pe_gint rfl hc_MOST_SIZE) pa_nil)))))) (pss_one LC.ps_never) pss_nil)
        (pss_one (ps_set (i := 1) sccheck_borders.nd rfl (Or.inl rfl) (pe_op op_add (pv 3) pe_int))))))))), ?_⟩
    refine ⟨_, rfl, (by show 2 ≤ sizeLine; decide), fun tp htp => ?_⟩
    have s1 : Same H (upd H tp (.tup [.ty "list", .ty "tuple"])) := same_new htp
    refine ⟨_, tp, _, _, _, true, rfl, upd_same, .cons (.ty _) (.cons (.ty _) .nil), .base (.lst (s1 _ _ hp)), kLT_lst, _, rfl, iteF ?_⟩
    generalize upd H tp (.tup [.ty "list", .ty "tuple"]) = H1 at s1 ⊢
    have hp1 := s1 _ _ hp
    refine ⟨_, rfl, _, _, rfl, .inl (SqL.of hp1), _, _, _, rfl, by rw [List.length_map]; show ((bs.length : Nat) : Int) ≤ 12; omega, ?_⟩
    refine ⟨_, rfl, _, _, rfl, SqL.of hp1, for_it (walk_enum (K := K) (a := p) (xs := bs.map V.int)) (fun i σ H' => ∃ (n : Int) (v1 v2 : Option V), σ = [some (.ref p), some (.int n), v1, v2] ∧ Same H1 H' ∧ 1 ≤ n ∧ Asc n (bs.drop i))
      ⟨1, none, none, rfl, Same.refl _, by decide, ha⟩ (fun i σ H' _ ⟨_, _, _, _, s, _⟩ => s.seq (SqL.of hp1)) ?_ ?_⟩
    · rintro i x σ H2 H3 hi ⟨n, v1, v2, rfl, s2, n1, hA⟩ ⟨T, x1, x2, rfl, hT, rfl, e1, e2⟩
      rw [List.length_map] at hi
      cases e1
      have e2' : (bs.map V.int)[i]? = some x2 := e2
      rw [List.getElem?_map, List.getElem?_eq_getElem hi] at e2'
      cases e2'
      rw [List.drop_eq_getElem_cons hi] at hA
      obtain ⟨a1, a2, a3⟩ := hA
      refine ⟨T, _, rfl, SqT.of upd_same, rfl, _, _, rfl, _, _, rfl, rfl, ?_⟩
      refine ⟨_, rfl, _, rfl, _, _, _, rfl, a1, a2, _, rfl, iteF ?_⟩
      exact ⟨_, rfl, _, _, rfl, rfl, _, _, _, rfl, s2.trans (same_new hT), by omega, a3⟩
    · rintro σ H2 ⟨n, v1, v2, rfl, s2, _, _⟩
      exact k _ (s1.trans s2)
end k80
namespace k80
open PySem L2 LC RM
def spRest_init (K : PySem.W.Frag) (a : Ad) : Sp := fun vs H Q _ => ∃ (x C dx : Addr) (fs : List (Str × V)) (t : Str) (f p b : Int), vs = [.ref x, .str t, .int f, .int p, .int b] ∧ H x = some (.ins C dx fs) ∧ RC K a C ∧ fs.length ≤ 10 ∧
  ∀ H', H' x = some (.ins C dx (putF "_bend" (.int b) (putF "_period" (.int p) (putF "_forms" (.int f) (putF "_text" (.str t) fs))))) → (∀ y, y ≠ x → H' y = H y) → Q .non H'
theorem ok_Rest_init {P : Program} {w : World} {K : PySem.W.Frag} {mg : Str → Option Value} {base : Heap} {f : Addr} {fd : FuncData} (F0 : Fun K "__init__" "Rest.__init__" sRest_init f fd) (T : Txt K mg) {a : Ad} (KN : Kn K mg a) :
    FnOk P w K mg base CX0 1 f fd PRest_init (spRest_init K a) := by
  refine F0.ok scRest_init (fun vs H Q E h => ?_) (fun cdv A outer s H vs Q E hr h => ?_)
  · obtain ⟨x, C, dx, fs, t, f, p, b, rfl, hx, rc, hl, k⟩ := h
    rfl
  · obtain ⟨x, C, dx, fs, t, f, p, b, rfl, hx, rc, hl, k⟩ := h
    refine ⟨_, (pss_cons (ps_fld (pv 0) (pv 1) rfl)
        (pss_cons (ps_fld (pv 0) (pv 2) rfl)
        (pss_cons (ps_fld (pv 0) (pv 3) rfl)
        (pss_one (ps_fld (pv 0) (pv 4) rfl))))), ?_⟩
    have l1 := length_putF "_text" (.str t) fs
    have l2 := length_putF "_forms" (.int f) (putF "_text" (.str t) fs)
    have l3 := length_putF "_period" (.int p) (putF "_forms" (.int f) (putF "_text" (.str t) fs))
    refine ⟨_, rfl, _, rfl, x, C, dx, _, rfl, hx, rc.cl, rc.nT, by omega, ?_⟩
    refine ⟨_, rfl, _, rfl, x, C, dx, _, rfl, upd_same, rc.cl, rc.nF, by omega, ?_⟩
    refine ⟨_, rfl, _, rfl, x, C, dx, _, rfl, upd_same, rc.cl, rc.nP, by omega, ?_⟩
    refine ⟨_, rfl, _, rfl, x, C, dx, _, rfl, upd_same, rc.cl, rc.nB, by omega, ?_⟩
    exact k _ upd_same fun y n => by rw [upd_ne n, upd_ne n, upd_ne n, upd_ne n]
end k80
namespace k80
open PySem L2 LC RM
def spRest_forms (K : PySem.W.Frag) (a : Ad) : Sp := fun vs H Q _ => ∃ (x : Addr) (g : Addr → Prop) (p : Pl), vs = [.ref x] ∧ RestAt a g H p x ∧ Q (.int p.forms) H
theorem ok_Rest_forms {P : Program} {w : World} {K : PySem.W.Frag} {mg : Str → Option Value} {base : Heap} {f : Addr} {fd : FuncData} (F0 : Fun K "forms" "Rest.forms" sRest_forms f fd) (T : Txt K mg) {a : Ad} (KN : Kn K mg a) :
    FnOk P w K mg base CX0 1 f fd PRest_forms (spRest_forms K a) := by
  refine F0.ok scRest_forms (fun vs H Q E h => ?_) (fun cdv A outer s H vs Q E hr h => ?_)
  · obtain ⟨x, g, p, rfl, R, k⟩ := h
    rfl
  · obtain ⟨x, g, p, rfl, R, k⟩ := h
    refine ⟨_, (pss_one (ps_ret (pe_fld (pv 0) rfl))), ?_⟩
    obtain ⟨C, dx, fs, t, hx, rc, F4, hl⟩ := R.view KN
    exact ⟨_, rfl, x, C, dx, fs, _, rfl, hx, rc.cl, rc.nF, F4.vf, k⟩
end k80
namespace k80
open PySem L2 LC RM
def spRest_period (K : PySem.W.Frag) (a : Ad) : Sp := fun vs H Q _ => ∃ (x : Addr) (g : Addr → Prop) (p : Pl), vs = [.ref x] ∧ RestAt a g H p x ∧ Q (.int p.per) H
theorem ok_Rest_period {P : Program} {w : World} {K : PySem.W.Frag} {mg : Str → Option Value} {base : Heap} {f : Addr} {fd : FuncData} (F0 : Fun K "period" "Rest.period" sRest_period f fd) (T : Txt K mg) {a : Ad} (KN : Kn K mg a) :
    FnOk P w K mg base CX0 1 f fd PRest_period (spRest_period K a) := by
  refine F0.ok scRest_period (fun vs H Q E h => ?_) (fun cdv A outer s H vs Q E hr h => ?_)
  · obtain ⟨x, g, p, rfl, R, k⟩ := h
    rfl
  · obtain ⟨x, g, p, rfl, R, k⟩ := h
    refine ⟨_, (pss_one (ps_ret (pe_fld (pv 0) rfl))), ?_⟩
    obtain ⟨C, dx, fs, t, hx, rc, F4, hl⟩ := R.view KN
    exact ⟨_, rfl, x, C, dx, fs, _, rfl, hx, rc.cl, rc.nP, F4.vp, k⟩
end k80
namespace k80
open PySem L2 LC RM
def spRest_bend (K : PySem.W.Frag) (a : Ad) : Sp := fun vs H Q _ => ∃ (x : Addr) (g : Addr → Prop) (p : Pl), vs = [.ref x] ∧ RestAt a g H p x ∧ Q (.int p.bend) H
theorem ok_Rest_bend {P : Program} {w : World} {K : PySem.W.Frag} {mg : Str → Option Value} {base : Heap} {f : Addr} {fd : FuncData} (F0 : Fun K "bend" "Rest.bend" sRest_bend f fd) (T : Txt K mg) {a : Ad} (KN : Kn K mg a) :
    FnOk P w K mg base CX0 1 f fd PRest_bend (spRest_bend K a) := by
  refine F0.ok scRest_bend (fun vs H Q E h => ?_) (fun cdv A outer s H vs Q E hr h => ?_)
  · obtain ⟨x, g, p, rfl, R, k⟩ := h
    rfl
  · obtain ⟨x, g, p, rfl, R, k⟩ := h
    refine ⟨_, (pss_one (ps_ret (pe_fld (pv 0) rfl))), ?_⟩
    obtain ⟨C, dx, fs, t, hx, rc, F4, hl⟩ := R.view KN
    exact ⟨_, rfl, x, C, dx, fs, _, rfl, hx, rc.cl, rc.nB, F4.vb, k⟩
end k80
namespace k80
open PySem L2 LC RM
def spRest_written (K : PySem.W.Frag) (a : Ad) : Sp := fun vs H Q _ => ∃ (x : Addr) (g : Addr → Prop) (p : Pl), vs = [.ref x] ∧ RestAt a g H p x ∧ ∀ t : Str, t.length ≤ tb p.h → Q (.str t) H
theorem ok_Rest_written {P : Program} {w : World} {K : PySem.W.Frag} {mg : Str → Option Value} {base : Heap} {f : Addr} {fd : FuncData} (F0 : Fun K "written" "Rest.written" sRest_written f fd) (T : Txt K mg) {a : Ad} (KN : Kn K mg a) :
    FnOk P w K mg base CX0 1 f fd PRest_written (spRest_written K a) := by
  refine F0.ok scRest_written (fun vs H Q E h => ?_) (fun cdv A outer s H vs Q E hr h => ?_)
  · obtain ⟨x, g, p, rfl, R, k⟩ := h
    rfl
  · obtain ⟨x, g, p, rfl, R, k⟩ := h
    refine ⟨_, (pss_one (ps_ret (pe_fld (pv 0) rfl))), ?_⟩
    obtain ⟨C, dx, fs, t, hx, rc, F4, hl⟩ := R.view KN
    exact ⟨_, rfl, x, C, dx, fs, _, rfl, hx, rc.cl, rc.nT, F4.vt, k t hl⟩
end k80
namespace k80
open PySem L2 LC RM
def spcommon_period (K : PySem.W.Frag) (a : Ad) : Sp := fun vs H Q _ => ∃ (y z : Addr) (g : Addr → Prop) (p q : Pl) (L : Nat), vs = [.ref y, .ref z] ∧ RestAt a g H p y ∧ RestAt a g H q z ∧ p.ok L ∧ q.ok L ∧ 0 < L ∧ L ≤ 2000 ∧ Q (.int (lcmI p.per q.per)) H
theorem ok_common_period {P : Program} {w : World} {K : PySem.W.Frag} {mg : Str → Option Value} {base : Heap} {f : Addr} {fd : FuncData} (D : Def K mg "common_period" scommon_period Pcommon_period f fd) (T : Txt K mg) {a : Ad} (KN : Kn K mg a) (RP : FnR P w K mg base CX0 1 a.fP (spRest_period K a)) {fcheck_count : Addr} {fdcheck_count : FuncData} (Dcheck_count : Def K mg "check_count" scheck_count Pcheck_count fcheck_count fdcheck_count) (Gcheck_count : FnOk P w K mg base CX0 1 fcheck_count fdcheck_count Pcheck_count (spcheck_count)) :
    FnOk P w K mg base CX0 2 f fd Pcommon_period (spcommon_period K a) := by
  refine D.F.ok sccommon_period (fun vs H Q E h => ?_) (fun cdv A outer s H vs Q E hr h => ?_)
  · obtain ⟨y, z, g, p, q, L, rfl, R1, R2, o1, o2, L0, L1, k⟩ := h
    rfl
  · obtain ⟨y, z, g, p, q, L, rfl, R1, R2, o1, o2, L0, L1, k⟩ := h
    have hrcheck_count : Room 1 _ := hr.mono (by decide)
    obtain ⟨tc_MOST_PERIOD, hc_MOST_PERIOD⟩ := T.c_MOST_PERIOD
    have hrM : Room 1 _ := hr.mono (by decide)
    refine ⟨_, (pss_cons (ps_set (i := 2) sccommon_period.nd rfl (Or.inl rfl) (pe_callBfun LC.cr_lcm (by rfl) KN.gl (pa_cons (LS.pe_methD0 (pv 0) KN.kP RP hrM) (pa_cons (LS.pe_methD0 (pv 1) KN.kP RP hrM) pa_nil))))
        (pss_cons (ps_expr (pe_call Gcheck_count hrcheck_count rfl Dcheck_count.g Dcheck_count.F.kp Dcheck_count.b .nil pass0 (pa_cons pe_str (pa_cons (pv 2) (pa_cons (pe_gint rfl hc_MOST_PERIOD) pa_nil)))))
        (pss_one (ps_ret (pv 2))))), ?_⟩
    obtain ⟨C1, dx1, fs1, t1, hx1, rc1, F1, _⟩ := R1.view KN
    obtain ⟨C2, dx2, fs2, t2, hx2, rc2, F2, _⟩ := R2.view KN
    have b1 := p.per_le o1 L0 L1
    have b2 := q.per_le o2 L0 L1
    have b3 : lcmI p.per q.per ≤ 2000 := ((Pl.lat p q).per_le ⟨o1, o2⟩ L0 L1).2
    refine ⟨_, rfl, y, C1, dx1, fs1, rfl, hx1, rc1.cl, rc1.mP, F1.mp, y, g, p, rfl, R1, ?_⟩
    refine ⟨_, rfl, z, C2, dx2, fs2, rfl, hx2, rc2.cl, rc2.mP, F2.mp, z, g, q, rfl, R2, ?_⟩
    refine ⟨_, _, rfl, Nat.lt_trans (show p.per.natAbs < 10000 by omega) (by decide), Nat.lt_trans (show q.per.natAbs < 10000 by omega) (by decide), ?_⟩
    exact ⟨_, rfl, _, _, _, rfl, b3, _, rfl, k⟩
end k80
namespace k80
open PySem L2 LC RM
def sppair_facts (K : PySem.W.Frag) (a : Ad) : Sp := fun vs H Q _ => ∃ (w : Str) (y z : Addr) (g : Addr → Prop) (p q : Pl) (L : Nat), vs = [.str w, .ref y, .ref z] ∧ w.length ≤ 10 ∧ RestAt a g H p y ∧ RestAt a g H q z ∧ p.ok L ∧ q.ok L ∧ 0 < L ∧ L ≤ 2000 ∧ 1 + p.forms + q.forms ≤ 6 ∧ p.h ≤ 2 ∧ q.h ≤ 2 ∧
  ∀ (T : Addr) (t : Str) H', Same H H' → H T = none → H' T = some (.tup [.str t, .int (1 + p.forms + q.forms), .int (lcmI p.per q.per), .int (maxI p.bend q.bend)]) → t.length ≤ tb (1 + max p.h q.h) → Q (.ref T) H'
theorem ok_pair_facts {P : Program} {w : World} {K : PySem.W.Frag} {mg : Str → Option Value} {base : Heap} {f : Addr} {fd : FuncData} (D : Def K mg "pair_facts" spair_facts Ppair_facts f fd) (T : Txt K mg) {a : Ad} (KN : Kn K mg a) (RW : FnR P w K mg base CX0 1 a.fW (spRest_written K a)) (RF : FnR P w K mg base CX0 1 a.fF (spRest_forms K a)) (RP : FnR P w K mg base CX0 1 a.fP (spRest_period K a)) (RB : FnR P w K mg base CX0 1 a.fB (spRest_bend K a)) {fcheck_count : Addr} {fdcheck_count : FuncData} (Dcheck_count : Def K mg "check_count" scheck_count Pcheck_count fcheck_count fdcheck_count) (Gcheck_count : FnOk P w K mg base CX0 1 fcheck_count fdcheck_count Pcheck_count (spcheck_count)) {fcommon_period : Addr} {fdcommon_period : FuncData} (Dcommon_period : Def K mg "common_period" scommon_period Pcommon_period fcommon_period fdcommon_period) (Gcommon_period : FnOk P w K mg base CX0 2 fcommon_period fdcommon_period Pcommon_period (spcommon_period K a)) :
    FnOk P w K mg base CX0 3 f fd Ppair_facts (sppair_facts K a) := by
  refine D.F.ok scpair_facts (fun vs H Q E h => ?_) (fun cdv A outer s H vs Q E hr h => ?_)
  · obtain ⟨w, y, z, g, p, q, L, rfl, hw, R1, R2, o1, o2, L0, L1, hf, h1, h2, k⟩ := h
    rfl
  · obtain ⟨w, y, z, g, p, q, L, rfl, hw, R1, R2, o1, o2, L0, L1, hf, h1, h2, k⟩ := h
    have hrcheck_count : Room 1 _ := hr.mono (by decide)
    have hrcommon_period : Room 2 _ := hr.mono (by decide)
    obtain ⟨tc_MOST_FORMS, hc_MOST_FORMS⟩ := T.c_MOST_FORMS
    have hrM : Room 1 _ := hr.mono (by decide)
    refine ⟨_, (pss_cons (ps_for PassesOwn.never rfl (pi_tup (pe_tup (pa_cons (pv 1) (pa_cons (pv 2) pa_nil)))) (pg_name (i := 3) scpair_facts.nd rfl (Or.inl rfl))
          (pss_one (ps_if (pt_not (pt_val (pe_callB call_isi (by rfl) T.n_isinstance (by decide +kernel) (pa_cons (pv 3) (pa_cons (pe_glob rfl KN.gR (show RelV (.ref a.R) _ from rfl)) pa_nil))))) (pss_one LC.ps_never) pss_nil)))
        (pss_cons (ps_set (i := 4) scpair_facts.nd rfl (Or.inl rfl) (pe_joined (.cons (pe_fmt (pv 0)) (.cons pe_str (.cons (pe_fmt (LS.pe_methD0 (pv 1) KN.kW RW hrM)) (.cons pe_str (.cons (pe_fmt (LS.pe_methD0 (pv 2) KN.kW RW hrM)) (.cons pe_str .nil))))))))
        (pss_cons (ps_set (i := 5) scpair_facts.nd rfl (Or.inl rfl) (pe_op op_add (pe_op op_add pe_int (LS.pe_methD0 (pv 1) KN.kF RF hrM)) (LS.pe_methD0 (pv 2) KN.kF RF hrM)))
        (pss_cons (ps_expr (pe_call Gcheck_count hrcheck_count rfl Dcheck_count.g Dcheck_count.F.kp Dcheck_count.b .nil pass0 (pa_cons pe_str (pa_cons (pv 5) (pa_cons (pe_gint rfl hc_MOST_FORMS) pa_nil)))))
        (pss_one (ps_ret (pe_tup (pa_cons (pv 4) (pa_cons (pv 5) (pa_cons (pe_call Gcommon_period hrcommon_period rfl Dcommon_period.g Dcommon_period.F.kp Dcommon_period.b .nil pass0 (pa_cons (pv 1) (pa_cons (pv 2) pa_nil))) (pa_cons (pe_callB (call_max2 rfl) (by rfl) T.n_max (by decide +kernel) (pa_cons (LS.pe_methD0 (pv 1) KN.kB RB hrM) (pa_cons (LS.pe_methD0 (pv 2) KN.kB RB hrM) pa_nil))) pa_nil))))))))))), ?_⟩
    refine ⟨_, rfl, _, rfl, (by show 2 ≤ sizeLine; decide), fun T0 hT0 => ?_⟩
    have s0 : Same H (upd H T0 (.tup [.ref y, .ref z])) := same_new hT0
    refine ⟨T0, rfl, ⟨_, SqT.of upd_same⟩, for_tup (K := K) (a := T0) (xs := [V.ref y, V.ref z]) (fun i σ H' => ∃ v : Option V, σ = [some (.str w), some (.ref y), some (.ref z), v, none, none] ∧ H' = upd H T0 (.tup [.ref y, .ref z]))
      ⟨_, rfl, rfl⟩ (fun i σ H' _ ⟨_, _, e⟩ => by rw [e]; exact SqT.of upd_same) ?_ ?_⟩
    · rintro i x σ H' hi ⟨v, rfl, rfl⟩
      have hv : ∃ u p', x = V.ref u ∧ RestAt a g (upd H T0 (.tup [.ref y, .ref z])) p' u := by
        match i, hi with
        | 0, hi => cases hi; exact ⟨y, p, rfl, R1.same s0⟩
        | 1, hi => cases hi; exact ⟨z, q, rfl, R2.same s0⟩
      obtain ⟨u, p', rfl, R⟩ := hv
      obtain ⟨C, dx, fs, t, hx, rc, _, _⟩ := R.view KN
      refine ⟨_, rfl, _, _, _, _, _, rfl, .own _, .base (.ins hx rc.cl rc.ha rc.hn rc.htk rc.hm), rc.me, _, rfl, iteF ?_⟩
      exact ⟨_, rfl, rfl⟩
    · rintro σ H' ⟨v, rfl, rfl⟩
      have R1' := R1.same s0
      have R2' := R2.same s0
      obtain ⟨C1, dx1, fs1, _, hx1, rc1, F1, _⟩ := R1'.view KN
      obtain ⟨C2, dx2, fs2, _, hx2, rc2, F2, _⟩ := R2'.view KN
      have tb1 : tb p.h ≤ 160200 := Nat.le_trans (tb_le h1) (by decide)
      have tb2 : tb q.h ≤ 160200 := Nat.le_trans (tb_le h2) (by decide)
      have z1 : tb p.h ≤ tb (max p.h q.h) := tb_le (Nat.le_max_left _ _)
      have z2 : tb q.h ≤ tb (max p.h q.h) := tb_le (Nat.le_max_right _ _)
      have sz : sizeLine = 16777216 := rfl
      have e0 : Str.empty.length = 0 := rfl
      have e1 : ("(" : Str).length = 1 := by decide +kernel
      have e2 : (", " : Str).length = 2 := by decide +kernel
      have e3 : (")" : Str).length = 1 := by decide +kernel
      have ap := fun x y : Str => Str.length_append x y
      refine ⟨_, rfl, .inl ⟨_, rfl, by omega, _, rfl, by rw [ap]; omega, _, rfl, by rw [ap, ap]; omega, ?_⟩⟩
      refine ⟨_, rfl, y, C1, dx1, fs1, rfl, hx1, rc1.cl, rc1.mW, F1.mw, y, g, p, rfl, R1', fun t1 ht1 => .inl ⟨_, rfl, by omega, _, rfl, by rw [ap, ap, ap]; omega, _, rfl, by rw [ap, ap, ap, ap]; omega, ?_⟩⟩
      refine ⟨_, rfl, z, C2, dx2, fs2, rfl, hx2, rc2.cl, rc2.mW, F2.mw, z, g, q, rfl, R2', fun t2 ht2 => .inl ⟨_, rfl, by omega, _, rfl, by rw [ap, ap, ap, ap, ap]; omega, _, rfl, by rw [ap, ap, ap, ap, ap, ap]; omega, ?_⟩⟩
      refine ⟨_, rfl, y, C1, dx1, fs1, rfl, hx1, rc1.cl, rc1.mF, F1.mf, y, g, p, rfl, R1', _, _, rfl, rfl, _, rfl, z, C2, dx2, fs2, rfl, hx2, rc2.cl, rc2.mF, F2.mf, z, g, q, rfl, R2', _, _, rfl, rfl, ?_⟩
      refine ⟨_, rfl, _, _, _, rfl, hf, ?_⟩
      refine ⟨_, rfl, _, rfl, _, rfl, _, rfl, y, z, g, p, q, L, rfl, R1', R2', o1, o2, L0, L1, ?_⟩
      refine ⟨_, rfl, y, C1, dx1, fs1, rfl, hx1, rc1.cl, rc1.mB, F1.mb, y, g, p, rfl, R1', _, rfl, z, C2, dx2, fs2, rfl, hx2, rc2.cl, rc2.mB, F2.mb, z, g, q, rfl, R2', _, _, rfl, (by show 4 ≤ sizeLine; decide), fun T hT => ?_⟩
      refine k T _ _ (s0.trans (same_new hT)) (s0.free hT) upd_same ?_
      rw [ap, ap, ap, ap, ap, ap]
      have e : tb (1 + max p.h q.h) = 2 * tb (max p.h q.h) + 40 := by rw [Nat.add_comm]; rfl
      omega
end k80
namespace k80
open PySem L2 LC RM
def spWindow_init (K : PySem.W.Frag) (a : Ad) : Sp := fun vs H Q _ => ∃ (x dx : Addr) (g : Addr → Prop) (w : Int) (Hb : Hp), vs = [.ref x, .int w] ∧ H x = some (.ins a.W dx []) ∧ Hb x = none ∧ ¬ g x ∧ Same Hb H ∧ 1 ≤ w ∧ w ≤ 1000 ∧ ∀ H', Same Hb H' → RestAt a g H' (.win w) x → Q .non H'
theorem ok_Window_init {P : Program} {w : World} {K : PySem.W.Frag} {mg : Str → Option Value} {base : Heap} {f cc c : Addr} (T : Txt K mg) {a : Ad} (KN : Kn K mg a) (RI : FnR P w K mg base CX0 1 a.fRi (spRest_init K a)) {fis_number : Addr} {fdis_number : FuncData} (Dis_number : Def K mg "is_number" sis_number Pis_number fis_number fdis_number) (Gis_number : FnOk P w K mg base CX0 2 fis_number fdis_number Pis_number (spis_number)) {doc pm ct oc : Value} {od : Option Addr} {osl : Array (Option Value)} (U : LS.SupF P K (FWindow_init cc c) f a.W a.fRi "__init__") (lf : K.lookup f = some ⟨oc, od, .func ((FWindow_init cc c).fd doc pm ct), osl⟩) :
    FnOk P w K mg base CX0 3 f ((FWindow_init cc c).fd doc pm ct) PWindow_init (spWindow_init K a) := by
  refine LS.fnS_of scWindow_init U lf (fun vs H Q E h => ?_) (fun A outer s H vs Q E hr h => ?_)
  · obtain ⟨x, dx, g, w, Hb, rfl, hx, hb, xg, sb, w0, w1, k⟩ := h
    rfl
  · obtain ⟨x, dx, g, w, Hb, rfl, hx, hb, xg, sb, w0, w1, k⟩ := h
    have hris_number : Room 2 _ := hr.mono (by decide)
    obtain ⟨tc_MOST_SIZE, hc_MOST_SIZE⟩ := T.c_MOST_SIZE
    have hrS : Room 1 _ := hr.mono (by decide)
    refine ⟨_, (LS.pssa_cons (LS.psa (ps_if (pt_not (pt_val (pe_call Gis_number hris_number rfl Dis_number.g Dis_number.F.kp Dis_number.b .nil pass0 (pa_cons (pv 1) (pa_cons pe_int (pa_cons (pe_gint rfl hc_MOST_SIZE) pa_nil)))))) (pss_one LC.ps_never) pss_nil))
        (LS.pssa_cons (LS.ps_sup U ⟨rfl, rfl, rfl, rfl⟩ T.n_super RI hrS (pa_cons (pe_joined (.cons pe_str (.cons (pe_fmt (pv 1)) .nil))) (pa_cons pe_int (pa_cons pe_int (pa_cons pe_int pa_nil)))) ⟨_, rfl, rfl⟩)
        (LS.pssa (pss_one (ps_fld (pv 0) (pv 1) rfl))))), ?_⟩
    have e1 : ("window " : Str).length = 7 := by decide +kernel
    have e0 : Str.empty.length = 0 := rfl
    have sz : sizeLine = 16777216 := rfl
    have il := int_len (i := w) (by omega) (by omega)
    refine ⟨_, rfl, _, _, _, rfl, w0, w1, _, rfl, iteF ?_⟩
    refine ⟨x, dx, [], rfl, hx, fun q hq => ?_⟩
    have nx : x ≠ q := ne_of_none hx hq
    refine ⟨_, rfl, by rw [Str.length_append]; omega, _, rfl, .inr ⟨_, rfl, log_small (by omega) (by omega), _, rfl, by rw [Str.length_append, Str.length_append]; omega, ?_⟩⟩
    refine ⟨upd_same, x, _, dx, [], _, 1, 1, 0, rfl, by rw [upd_ne nx]; exact hx, KN.w, Nat.zero_le _, fun H1 h1 h2 => ?_⟩
    have l1 := four_len (Str.empty ++ "window " ++ Str.ofString (toString w)) (.win w) []
    refine ⟨_, rfl, _, rfl, x, a.W, dx, _, rfl, h1, KN.w.cl, KN.nw, Nat.lt_of_le_of_lt l1 (by decide), ?_⟩
    refine k _ (same_upd hb (same_mk hb sb hq h2)) ⟨xg, dx, _, upd_same, ?_⟩
    rw [Str.length_append, Str.length_append]
    show _ ≤ 40000
    omega
end k80
namespace k80
open PySem L2 LC RM
def spDays_init (K : PySem.W.Frag) (a : Ad) : Sp := fun vs H Q _ => ∃ (x dx : Addr) (g : Addr → Prop) (b : Addr) (bs : List Int) (e : Int) (Hb : Hp), vs = [.ref x, .ref b, .int e] ∧ H x = some (.ins a.D dx []) ∧ Hb x = none ∧ ¬ g x ∧ Same Hb H ∧ (∀ c, g c → ∃ o, Hb c = some o) ∧ Hb b = some (.lst (bs.map V.int)) ∧ bs.length ≤ 12 ∧ Asc 1 bs ∧ 1 ≤ e ∧ e ≤ 2000 ∧ ∀ H', Same Hb H' → RestAt a g H' (.days bs e) x → Q .non H'
theorem ok_Days_init {P : Program} {w : World} {K : PySem.W.Frag} {mg : Str → Option Value} {base : Heap} {f cc c : Addr} (T : Txt K mg) {a : Ad} (KN : Kn K mg a) (RI : FnR P w K mg base CX0 1 a.fRi (spRest_init K a)) {fis_number : Addr} {fdis_number : FuncData} (Dis_number : Def K mg "is_number" sis_number Pis_number fis_number fdis_number) (Gis_number : FnOk P w K mg base CX0 2 fis_number fdis_number Pis_number (spis_number)) {fcheck_borders : Addr} {fdcheck_borders : FuncData} (Dcheck_borders : Def K mg "check_borders" scheck_borders Pcheck_borders fcheck_borders fdcheck_borders) (Gcheck_borders : FnOk P w K mg base CX0 3 fcheck_borders fdcheck_borders Pcheck_borders (spcheck_borders)) {doc pm ct oc : Value} {od : Option Addr} {osl : Array (Option Value)} (U : LS.SupF P K (FDays_init cc c) f a.D a.fRi "__init__") (lf : K.lookup f = some ⟨oc, od, .func ((FDays_init cc c).fd doc pm ct), osl⟩) :
    FnOk P w K mg base CX0 4 f ((FDays_init cc c).fd doc pm ct) PDays_init (spDays_init K a) := by
  refine LS.fnS_of scDays_init U lf (fun vs H Q E h => ?_) (fun A outer s H vs Q E hr h => ?_)
  · obtain ⟨x, dx, g, b, bs, e, Hb, rfl, hx, hb, xg, sb, hg, hbb, hl, hA, e0, e1, k⟩ := h
    rfl
  · obtain ⟨x, dx, g, b, bs, e, Hb, rfl, hx, hb, xg, sb, hg, hbb, hl, hA, e0, e1, k⟩ := h
    have hris_number : Room 2 _ := hr.mono (by decide)
    have hrcheck_borders : Room 3 _ := hr.mono (by decide)
    obtain ⟨tc_MOST_PERIOD, hc_MOST_PERIOD⟩ := T.c_MOST_PERIOD
    have hrS : Room 1 _ := hr.mono (by decide)
    refine ⟨_, (LS.pssa_cons (LS.psa (ps_expr (pe_call Gcheck_borders hrcheck_borders rfl Dcheck_borders.g Dcheck_borders.F.kp Dcheck_borders.b .nil pass0 (pa_cons (pv 1) pa_nil))))
        (LS.pssa_cons (LS.psa (ps_if (pt_not (pt_val (pe_call Gis_number hris_number rfl Dis_number.g Dis_number.F.kp Dis_number.b .nil pass0 (pa_cons (pv 2) (pa_cons pe_int (pa_cons (pe_gint rfl hc_MOST_PERIOD) pa_nil)))))) (pss_one LC.ps_never) pss_nil))
        (LS.pssa_cons (LS.psa (ps_fld (pv 0) (pe_callTy call_list_of (by rfl) T.n_list (by decide +kernel) (pa_cons (pv 1) pa_nil)) rfl))
        (LS.pssa_cons (LS.psa (ps_fld (pv 0) (pv 2) rfl))
        (LS.pssa_cons (LS.psa (ps_set (i := 4) scDays_init.nd rfl (Or.inl rfl) (pe_op op_cat (pe_op op_cat (pe_lst (pa_cons pe_str pa_nil)) (pe_lc (own := [("border", 5)]) (g := gName 5) (tt := tYes) rfl scDays_init.nd (pi_list (pv 1)) (blkOk_by (own := [("border", 5)]) (N := NmDays_init) (sc := defScope sDays_init) (by decide +kernel)) (fun _ _ _ _ _ => pg_name (i := 5) scDays_init.nd rfl (Or.inl rfl)) (fun _ _ _ _ _ => pts_nil) (fun _ _ _ _ _ => (pe_callTy call_str_int (by rfl) T.n_str (by decide +kernel) (pa_cons (pv 5) pa_nil))))) (pe_lst (pa_cons pe_str (pa_cons (pe_callTy call_str_int (by rfl) T.n_str (by decide +kernel) (pa_cons (pv 2) pa_nil)) pa_nil))))))
        (LS.pssa_cons (LS.ps_sup U ⟨rfl, rfl, rfl, rfl⟩ T.n_super RI hrS (pa_cons (pe_join pe_str (pv 4)) (pa_cons pe_int (pa_cons (pv 2) (pa_cons (pe_callB (cr_max rfl) (by rfl) T.n_max (by decide +kernel) (pa_cons (pe_op op_cat (pe_lst (pa_cons pe_int pa_nil)) (pe_fld (pv 0) rfl)) pa_nil)) pa_nil)))) ⟨_, rfl, rfl⟩)
        (LS.pssa pss_nil))))))), ?_⟩
    refine ⟨_, rfl, b, bs, rfl, sb _ _ hbb, hl, hA, fun H1 s1 => ?_⟩
    have hx1 := s1 _ _ hx
    have b1 := s1 _ _ (sb _ _ hbb)
    refine ⟨_, rfl, _, _, _, rfl, e0, e1, _, rfl, iteF ?_⟩
    refine ⟨_, rfl, b, _, rfl, .inl (SqL.of b1), fun l hl1 => ?_⟩
    have xl : x ≠ l := ne_of_none hx1 hl1
    refine ⟨_, rfl, x, a.D, dx, [], rfl, by rw [upd_ne xl]; exact hx1, KN.d.cl, KN.nb, (by show 0 < 1000; decide), ?_⟩
    refine ⟨_, rfl, _, rfl, x, a.D, dx, _, rfl, upd_same, KN.d.cl, KN.ne, (by show 1 < 1000; decide), ?_⟩
    have sH1 : Same Hb H1 := sb.trans s1
    have xb : b ≠ x := ne_of_none hbb hb
    have s3 : Same Hb (upd (upd (upd H1 l (.lst (bs.map V.int))) x (.ins a.D dx (putF "_borders" (.ref l) []))) x (.ins a.D dx (putF "every" (.int e) (putF "_borders" (.ref l) [])))) := same_upd hb (same_upd hb (sH1.trans (same_new hl1)))
    have hl3 : (upd (upd (upd H1 l (.lst (bs.map V.int))) x (.ins a.D dx (putF "_borders" (.ref l) []))) x (.ins a.D dx (putF "every" (.int e) (putF "_borders" (.ref l) [])))) l = some (.lst (bs.map V.int)) := by rw [upd_ne (Ne.symm xl), upd_ne (Ne.symm xl), upd_same]
    have hx3 : (upd (upd (upd H1 l (.lst (bs.map V.int))) x (.ins a.D dx (putF "_borders" (.ref l) []))) x (.ins a.D dx (putF "every" (.int e) (putF "_borders" (.ref l) [])))) x = some (.ins a.D dx (putF "every" (.int e) (putF "_borders" (.ref l) []))) := upd_same
    have lg : ¬ g l := fun z => by
      obtain ⟨og, q⟩ := hg l z
      rw [sH1 _ _ q] at hl1
      cases hl1
    generalize upd (upd (upd H1 l (.lst (bs.map V.int))) x (.ins a.D dx (putF "_borders" (.ref l) []))) x (.ins a.D dx (putF "every" (.int e) (putF "_borders" (.ref l) []))) = H3 at s3 hl3 hx3 ⊢
    have b3 := s3 _ _ hbb
    -- words
    refine ⟨(by show 1 ≤ sizeLine; decide), fun p1 hp1 => ?_⟩
    have t1 := same_new (o := .lst [.str "days"]) hp1
    have p1e : upd H3 p1 (.lst [.str "days"]) p1 = some (.lst [.str "days"]) := upd_same
    generalize upd H3 p1 (.lst [.str "days"]) = H4 at t1 p1e ⊢
    have b4 := t1 _ _ b3
    refine ⟨_, rfl, b, rfl, ⟨_, SqL.of b4⟩, fun D hD => lc_it (walk_list (K := K) (a := b) (xs := bs.map V.int)) (fun i H' => Same H4 H' ∧ H' D = some (.lst ((bs.take i).map fun c => V.str (Str.ofString (toString c)))))
      ⟨same_new hD, upd_same⟩ (fun i H' _ ⟨s, _⟩ => s.seq (SqL.of b4)) ?_ ?_⟩
    · rintro i y H5 H5' hi ⟨s5, d5⟩ ⟨rfl, hy⟩
      rw [List.length_map] at hi
      rw [List.getElem?_map, List.getElem?_eq_getElem hi] at hy
      cases hy
      have bd := hA.all _ (List.getElem_mem hi)
      refine ⟨rfl, _, rfl, _, rfl, log_small (by omega) (by omega), _, d5, ?_, ?_, ?_⟩
      · rw [List.length_map, List.length_take]
        exact Nat.lt_of_le_of_lt (Nat.min_le_left _ _) (Nat.lt_of_lt_of_le hi (Nat.le_trans hl (by decide)))
      · intro c u ec
        rw [upd_ne (ne_of_none ec hD)]
        exact s5 c u ec
      · rw [upd_same, List.take_add_one, List.getElem?_eq_getElem hi, List.map_append]
        rfl
    · rintro H5 ⟨s5, d5⟩
      rw [List.length_map, List.take_length] at d5
      have p15 := s5 _ _ p1e
      refine ⟨p1, D, _, _, rfl, rfl, p15, d5, ?_, fun p2 hp2 => ?_⟩
      · rw [List.length_map]
        show 1 + bs.length ≤ 16777216
        omega
      have t2 := same_new (o := .lst ([.str "days"] ++ bs.map fun c => V.str (Str.ofString (toString c)))) hp2
      have p2e : upd H5 p2 (.lst ([.str "days"] ++ bs.map fun c => V.str (Str.ofString (toString c)))) p2 = some (.lst ([.str "days"] ++ bs.map fun c => V.str (Str.ofString (toString c)))) := upd_same
      generalize upd H5 p2 (.lst ([.str "days"] ++ bs.map fun c => V.str (Str.ofString (toString c)))) = H6 at t2 p2e ⊢
      refine ⟨_, rfl, _, rfl, log_small (by omega) (by omega), (by show 2 ≤ sizeLine; decide), fun p3 hp3 => ?_⟩
      have t3 := same_new (o := .lst [.str "then", .str (Str.ofString (toString e))]) hp3
      have p3e : upd H6 p3 (.lst [.str "then", .str (Str.ofString (toString e))]) p3 = some (.lst [.str "then", .str (Str.ofString (toString e))]) := upd_same
      generalize upd H6 p3 (.lst [.str "then", .str (Str.ofString (toString e))]) = H7 at t3 p3e ⊢
      refine ⟨p2, p3, _, _, rfl, rfl, t3 _ _ p2e, p3e, ?_, fun p4 hp4 => ?_⟩
      · rw [List.length_append, List.length_map]
        show 1 + bs.length + 2 ≤ 16777216
        omega
      have ey : ([V.str "days"] ++ bs.map fun c => V.str (Str.ofString (toString c))) ++ [V.str "then", V.str (Str.ofString (toString e))] = (("days" : Str) :: (bs.map fun c => Str.ofString (toString c)) ++ [("then" : Str), Str.ofString (toString e)]).map V.str := by
        rw [List.map_append, List.map_cons, List.map_map]
        rfl
      rw [ey]
      have yb : ∀ y ∈ (("days" : Str) :: (bs.map fun c => Str.ofString (toString c)) ++ [("then" : Str), Str.ofString (toString e)]), y.length ≤ 1921 := by
        intro y hy
        simp only [List.cons_append, List.mem_cons, List.mem_append, List.mem_map, List.not_mem_nil, or_false] at hy
        rcases hy with rfl | ⟨c, hc, rfl⟩ | rfl | rfl
        · decide +kernel
        · have bd := hA.all _ hc
          exact int_len (by omega) (by omega)
        · decide +kernel
        · exact int_len (by omega) (by omega)
      have yl : (("days" : Str) :: (bs.map fun c => Str.ofString (toString c)) ++ [("then" : Str), Str.ofString (toString e)]).length = bs.length + 3 := by
        rw [List.length_append, List.length_cons, List.length_map]
        rfl
      generalize (("days" : Str) :: (bs.map fun c => Str.ofString (toString c)) ++ [("then" : Str), Str.ofString (toString e)]) = ys at yb yl ⊢
      have t4 := same_new (o := .lst (ys.map V.str)) hp4
      have p4e : upd H7 p4 (.lst (ys.map V.str)) p4 = some (.lst (ys.map V.str)) := upd_same
      generalize upd H7 p4 (.lst (ys.map V.str)) = H8 at t4 p4e ⊢
      have t38 : Same H3 H8 := t1.trans (s5.trans (t2.trans (t3.trans t4)))
      have el1 : (" " : Str).length = 1 := by decide +kernel
      refine ⟨x, dx, _, rfl, t38 _ _ hx3, fun q hq => ?_⟩
      have tq := same_new (o := .met a.fRi x) hq
      have nq : upd H8 q (.met a.fRi x) q = some (.met a.fRi x) := upd_same
      refine ⟨⟨_, rfl⟩, _, rfl, _, p4, ys, rfl, rfl, .inl (SqL.of (tq _ _ p4e)), ?_, ?_⟩
      · have := sum_le yb
        rw [el1]
        omega
      refine ⟨_, rfl, (by show 1 ≤ sizeLine; decide), fun p5 hp5 => ?_⟩
      have t5 := same_new (o := .lst [V.int 0]) hp5
      have p5e : upd (upd H8 q (.met a.fRi x)) p5 (.lst [V.int 0]) p5 = some (.lst [V.int 0]) := upd_same
      have tA := tq.trans t5
      have nq5 := t5 _ _ nq
      generalize upd (upd H8 q (.met a.fRi x)) p5 (.lst [V.int 0]) = H10 at tA p5e nq5 ⊢
      have hx10 := tA _ _ (t38 _ _ hx3)
      have hl10 := tA _ _ (t38 _ _ hl3)
      have lkb : (putF "every" (.int e) (putF "_borders" (.ref l) [])).lookup ("_borders" : Str) = some (.ref l) := by rw [lk_ne (by decide +kernel)]; exact lk_eq
      refine ⟨_, rfl, x, a.D, dx, _, _, rfl, hx10, KN.d.cl, KN.nb, lkb, p5, l, _, _, rfl, rfl, p5e, hl10, ?_, fun p6 hp6 => ?_⟩
      · rw [List.length_map]
        show 1 + bs.length ≤ 16777216
        omega
      have t6 := same_new (o := .lst ([V.int 0] ++ bs.map V.int)) hp6
      have p6e : upd H10 p6 (.lst ([V.int 0] ++ bs.map V.int)) p6 = some (.lst ((0 :: bs).map V.int)) := upd_same
      generalize upd H10 p6 (.lst ([V.int 0] ++ bs.map V.int)) = H11 at t6 p6e ⊢
      refine ⟨p6, 0 :: bs, rfl, SqL.of p6e, Nat.succ_pos _, fun m hm hu => ?_⟩
      have em : m = lastOf bs := hA.max hm hu
      refine ⟨t6 _ _ nq5, x, a.D, dx, _, _, 1, e, m, rfl, t6 _ _ hx10, KN.d, (by show 2 ≤ 10; decide), fun H12 h12 h12' => ?_⟩
      have sF : Same Hb H11 := s3.trans (t38.trans (tA.trans t6))
      have sG : Same Hb H12 := fun c u ec => by
        rw [h12' c (ne_of_none ec hb)]
        exact sF c u ec
      have hl12 : H12 l = some (.lst (bs.map V.int)) := by
        rw [h12' l (Ne.symm xl)]
        exact t6 _ _ hl10
      refine k H12 sG ⟨xg, dx, Txt.join " " ys, l, ?_, ?_, lg, hl12⟩
      · rw [h12, em]
        rfl
      · rw [TL.join_eq]
        have := join_le " " yb
        rw [el1] at this
        show _ ≤ 40000
        have e22 : ys.length * (1921 + 1) ≤ 15 * 1922 := Nat.mul_le_mul_right _ (by omega)
        omega
end k80
namespace k80
open PySem L2 LC RM
def spPair_init (C : Addr) (J : Pl → Pl → Pl) (a : Ad) : Sp := fun vs H Q _ => ∃ (x dx : Addr) (g : Addr → Prop) (y z : Addr) (p q : Pl) (L : Nat) (Hb : Hp), vs = [.ref x, .ref y, .ref z] ∧ H x = some (.ins C dx []) ∧ Hb x = none ∧ ¬ g x ∧ Same Hb H ∧ RestAt a g Hb p y ∧ RestAt a g Hb q z ∧ p.ok L ∧ q.ok L ∧ 0 < L ∧ L ≤ 2000 ∧ 1 + p.forms + q.forms ≤ 6 ∧ p.h ≤ 2 ∧ q.h ≤ 2 ∧ ∀ H', Same Hb H' → RestAt a g H' (J p q) x → Q .non H'
def spLater_init (K : PySem.W.Frag) (a : Ad) : Sp := spPair_init a.L Pl.lat a
theorem ok_Later_init {P : Program} {w : World} {K : PySem.W.Frag} {mg : Str → Option Value} {base : Heap} {f cc c : Addr} (T : Txt K mg) {a : Ad} (KN : Kn K mg a) (RI : FnR P w K mg base CX0 1 a.fRi (spRest_init K a)) {fpair_facts : Addr} {fdpair_facts : FuncData} (Dpair_facts : Def K mg "pair_facts" spair_facts Ppair_facts fpair_facts fdpair_facts) (Gpair_facts : FnOk P w K mg base CX0 3 fpair_facts fdpair_facts Ppair_facts (sppair_facts K a)) {doc pm ct oc : Value} {od : Option Addr} {osl : Array (Option Value)} (U : LS.SupF P K (FLater_init cc c) f a.L a.fRi "__init__") (lf : K.lookup f = some ⟨oc, od, .func ((FLater_init cc c).fd doc pm ct), osl⟩) :
    FnOk P w K mg base CX0 4 f ((FLater_init cc c).fd doc pm ct) PLater_init (spLater_init K a) := by
  refine LS.fnS_of scLater_init U lf (fun vs H Q E h => ?_) (fun A outer s H vs Q E hr h => ?_)
  · obtain ⟨x, dx, g, y, z, p, q, L, Hb, rfl, hx, hb, xg, sb, R1, R2, o1, o2, L0, L1, hf, h1, h2, k⟩ := h
    rfl
  · obtain ⟨x, dx, g, y, z, p, q, L, Hb, rfl, hx, hb, xg, sb, R1, R2, o1, o2, L0, L1, hf, h1, h2, k⟩ := h
    have hrpair_facts : Room 3 _ := hr.mono (by decide)
    have hrS : Room 1 _ := hr.mono (by decide)
    refine ⟨_, (LS.pssa_cons (LS.psa (ps_set (i := 4) scLater_init.nd rfl (Or.inl rfl) (pe_call Gpair_facts hrpair_facts rfl Dpair_facts.g Dpair_facts.F.kp Dpair_facts.b .nil pass0 (pa_cons pe_str (pa_cons (pv 1) (pa_cons (pv 2) pa_nil))))))
        (LS.pssa_cons (LS.ps_supS U ⟨rfl, rfl, rfl, rfl⟩ T.n_super RI hrS (pv 4) ⟨_, rfl, rfl⟩)
        (LS.pssa (pss_cons (ps_fld (pv 0) (pv 1) rfl)
        (pss_one (ps_fld (pv 0) (pv 2) rfl)))))), ?_⟩
    refine ⟨_, rfl, _, rfl, _, y, z, g, p, q, L, rfl, by decide +kernel, R1.same sb, R2.same sb, o1, o2, L0, L1, hf, h1, h2, fun T0 t H1 s1 hT0 hT1 ht => ?_⟩
    have hx1 := s1 _ _ hx
    refine ⟨x, dx, _, rfl, hx1, fun u hu => ?_⟩
    have tu := same_new (o := .met a.fRi x) hu
    refine ⟨_, rfl, T0, _, rfl, .inl (SqT.of (tu _ _ hT1)), upd_same, x, _, dx, [], t, _, _, _, rfl, tu _ _ hx1, KN.l, Nat.zero_le _, fun H2 h3 h4 => ?_⟩
    have sA := sb.trans (s1.trans tu)
    have sB : Same Hb H2 := fun c v ec => by
      rw [h4 c (ne_of_none ec hb)]
      exact sA c v ec
    have l4 := four_len t (.lat p q) []
    refine ⟨_, rfl, _, rfl, x, _, dx, four t (.lat p q) [], rfl, h3, KN.l.cl, KN.l1, Nat.lt_of_le_of_lt l4 (by decide), ?_⟩
    have l5 := length_putF "first" (.ref y) (four t (.lat p q) [])
    refine ⟨_, rfl, _, rfl, x, _, dx, _, rfl, upd_same, KN.l.cl, KN.l2, Nat.lt_of_le_of_lt l5 (Nat.lt_of_le_of_lt (Nat.succ_le_succ l4) (by decide)), ?_⟩
    have sC := same_upd (o := .ins a.L dx (putF "second" (.ref z) (putF "first" (.ref y) (four t (.lat p q) [])))) hb (same_upd (o := .ins a.L dx (putF "first" (.ref y) (four t (.lat p q) []))) hb sB)
    exact k _ sC ⟨xg, dx, t, y, z, upd_same, ht, R1.same sC, R2.same sC⟩
end k80
namespace k80
open PySem L2 LC RM
def spSooner_init (K : PySem.W.Frag) (a : Ad) : Sp := spPair_init a.S Pl.soo a
theorem ok_Sooner_init {P : Program} {w : World} {K : PySem.W.Frag} {mg : Str → Option Value} {base : Heap} {f cc c : Addr} (T : Txt K mg) {a : Ad} (KN : Kn K mg a) (RI : FnR P w K mg base CX0 1 a.fRi (spRest_init K a)) {fpair_facts : Addr} {fdpair_facts : FuncData} (Dpair_facts : Def K mg "pair_facts" spair_facts Ppair_facts fpair_facts fdpair_facts) (Gpair_facts : FnOk P w K mg base CX0 3 fpair_facts fdpair_facts Ppair_facts (sppair_facts K a)) {doc pm ct oc : Value} {od : Option Addr} {osl : Array (Option Value)} (U : LS.SupF P K (FSooner_init cc c) f a.S a.fRi "__init__") (lf : K.lookup f = some ⟨oc, od, .func ((FSooner_init cc c).fd doc pm ct), osl⟩) :
    FnOk P w K mg base CX0 4 f ((FSooner_init cc c).fd doc pm ct) PSooner_init (spSooner_init K a) := by
  refine LS.fnS_of scSooner_init U lf (fun vs H Q E h => ?_) (fun A outer s H vs Q E hr h => ?_)
  · obtain ⟨x, dx, g, y, z, p, q, L, Hb, rfl, hx, hb, xg, sb, R1, R2, o1, o2, L0, L1, hf, h1, h2, k⟩ := h
    rfl
  · obtain ⟨x, dx, g, y, z, p, q, L, Hb, rfl, hx, hb, xg, sb, R1, R2, o1, o2, L0, L1, hf, h1, h2, k⟩ := h
    have hrpair_facts : Room 3 _ := hr.mono (by decide)
    have hrS : Room 1 _ := hr.mono (by decide)
    refine ⟨_, (LS.pssa_cons (LS.psa (ps_set (i := 4) scSooner_init.nd rfl (Or.inl rfl) (pe_call Gpair_facts hrpair_facts rfl Dpair_facts.g Dpair_facts.F.kp Dpair_facts.b .nil pass0 (pa_cons pe_str (pa_cons (pv 1) (pa_cons (pv 2) pa_nil))))))
        (LS.pssa_cons (LS.ps_supS U ⟨rfl, rfl, rfl, rfl⟩ T.n_super RI hrS (pv 4) ⟨_, rfl, rfl⟩)
        (LS.pssa (pss_cons (ps_fld (pv 0) (pv 1) rfl)
        (pss_one (ps_fld (pv 0) (pv 2) rfl)))))), ?_⟩
    refine ⟨_, rfl, _, rfl, _, y, z, g, p, q, L, rfl, by decide +kernel, R1.same sb, R2.same sb, o1, o2, L0, L1, hf, h1, h2, fun T0 t H1 s1 hT0 hT1 ht => ?_⟩
    have hx1 := s1 _ _ hx
    refine ⟨x, dx, _, rfl, hx1, fun u hu => ?_⟩
    have tu := same_new (o := .met a.fRi x) hu
    refine ⟨_, rfl, T0, _, rfl, .inl (SqT.of (tu _ _ hT1)), upd_same, x, _, dx, [], t, _, _, _, rfl, tu _ _ hx1, KN.s, Nat.zero_le _, fun H2 h3 h4 => ?_⟩
    have sA := sb.trans (s1.trans tu)
    have sB : Same Hb H2 := fun c v ec => by
      rw [h4 c (ne_of_none ec hb)]
      exact sA c v ec
    have l4 := four_len t (.soo p q) []
    refine ⟨_, rfl, _, rfl, x, _, dx, four t (.soo p q) [], rfl, h3, KN.s.cl, KN.s1, Nat.lt_of_le_of_lt l4 (by decide), ?_⟩
    have l5 := length_putF "first" (.ref y) (four t (.soo p q) [])
    refine ⟨_, rfl, _, rfl, x, _, dx, _, rfl, upd_same, KN.s.cl, KN.s2, Nat.lt_of_le_of_lt l5 (Nat.lt_of_le_of_lt (Nat.succ_le_succ l4) (by decide)), ?_⟩
    have sC := same_upd (o := .ins a.S dx (putF "second" (.ref z) (putF "first" (.ref y) (four t (.soo p q) [])))) hb (same_upd (o := .ins a.S dx (putF "first" (.ref y) (four t (.soo p q) []))) hb sB)
    exact k _ sC ⟨xg, dx, t, y, z, upd_same, ht, R1.same sC, R2.same sC⟩
end k80
namespace k80
open PySem L2 LC RM
def spNext_init (K : PySem.W.Frag) (a : Ad) : Sp := spPair_init a.N Pl.nex a
theorem ok_Next_init {P : Program} {w : World} {K : PySem.W.Frag} {mg : Str → Option Value} {base : Heap} {f cc c : Addr} (T : Txt K mg) {a : Ad} (KN : Kn K mg a) (RI : FnR P w K mg base CX0 1 a.fRi (spRest_init K a)) {fpair_facts : Addr} {fdpair_facts : FuncData} (Dpair_facts : Def K mg "pair_facts" spair_facts Ppair_facts fpair_facts fdpair_facts) (Gpair_facts : FnOk P w K mg base CX0 3 fpair_facts fdpair_facts Ppair_facts (sppair_facts K a)) {doc pm ct oc : Value} {od : Option Addr} {osl : Array (Option Value)} (U : LS.SupF P K (FNext_init cc c) f a.N a.fRi "__init__") (lf : K.lookup f = some ⟨oc, od, .func ((FNext_init cc c).fd doc pm ct), osl⟩) :
    FnOk P w K mg base CX0 4 f ((FNext_init cc c).fd doc pm ct) PNext_init (spNext_init K a) := by
  refine LS.fnS_of scNext_init U lf (fun vs H Q E h => ?_) (fun A outer s H vs Q E hr h => ?_)
  · obtain ⟨x, dx, g, y, z, p, q, L, Hb, rfl, hx, hb, xg, sb, R1, R2, o1, o2, L0, L1, hf, h1, h2, k⟩ := h
    rfl
  · obtain ⟨x, dx, g, y, z, p, q, L, Hb, rfl, hx, hb, xg, sb, R1, R2, o1, o2, L0, L1, hf, h1, h2, k⟩ := h
    have hrpair_facts : Room 3 _ := hr.mono (by decide)
    have hrS : Room 1 _ := hr.mono (by decide)
    refine ⟨_, (LS.pssa_cons (LS.psa (ps_set (i := 4) scNext_init.nd rfl (Or.inl rfl) (pe_call Gpair_facts hrpair_facts rfl Dpair_facts.g Dpair_facts.F.kp Dpair_facts.b .nil pass0 (pa_cons pe_str (pa_cons (pv 1) (pa_cons (pv 2) pa_nil))))))
        (LS.pssa_cons (LS.ps_supS U ⟨rfl, rfl, rfl, rfl⟩ T.n_super RI hrS (pv 4) ⟨_, rfl, rfl⟩)
        (LS.pssa (pss_cons (ps_fld (pv 0) (pv 1) rfl)
        (pss_one (ps_fld (pv 0) (pv 2) rfl)))))), ?_⟩
    refine ⟨_, rfl, _, rfl, _, y, z, g, p, q, L, rfl, by decide +kernel, R1.same sb, R2.same sb, o1, o2, L0, L1, hf, h1, h2, fun T0 t H1 s1 hT0 hT1 ht => ?_⟩
    have hx1 := s1 _ _ hx
    refine ⟨x, dx, _, rfl, hx1, fun u hu => ?_⟩
    have tu := same_new (o := .met a.fRi x) hu
    refine ⟨_, rfl, T0, _, rfl, .inl (SqT.of (tu _ _ hT1)), upd_same, x, _, dx, [], t, _, _, _, rfl, tu _ _ hx1, KN.n, Nat.zero_le _, fun H2 h3 h4 => ?_⟩
    have sA := sb.trans (s1.trans tu)
    have sB : Same Hb H2 := fun c v ec => by
      rw [h4 c (ne_of_none ec hb)]
      exact sA c v ec
    have l4 := four_len t (.nex p q) []
    refine ⟨_, rfl, _, rfl, x, _, dx, four t (.nex p q) [], rfl, h3, KN.n.cl, KN.n1, Nat.lt_of_le_of_lt l4 (by decide), ?_⟩
    have l5 := length_putF "first" (.ref y) (four t (.nex p q) [])
    refine ⟨_, rfl, _, rfl, x, _, dx, _, rfl, upd_same, KN.n.cl, KN.n2, Nat.lt_of_le_of_lt l5 (Nat.lt_of_le_of_lt (Nat.succ_le_succ l4) (by decide)), ?_⟩
    have sC := same_upd (o := .ins a.N dx (putF "second" (.ref z) (putF "first" (.ref y) (four t (.nex p q) [])))) hb (same_upd (o := .ins a.N dx (putF "first" (.ref y) (four t (.nex p q) []))) hb sB)
    exact k _ sC ⟨xg, dx, t, y, z, upd_same, ht, R1.same sC, R2.same sC⟩
end k80
namespace k80
open PySem L2 LC RM
def spWindow_call (K : PySem.W.Frag) (a : Ad) : Sp := fun vs H Q _ => ∃ (x : Addr) (g : Addr → Prop) (w t : Int), vs = [.ref x, .int t] ∧ RestAt a g H (.win w) x ∧ Q (.int ((Pl.win w).at t)) H
theorem ok_Window_call {P : Program} {w : World} {K : PySem.W.Frag} {mg : Str → Option Value} {base : Heap} {f : Addr} {fd : FuncData} (F0 : Fun K "__call__" "Window.__call__" sWindow_call f fd) (T : Txt K mg) {a : Ad} (KN : Kn K mg a) :
    FnOk P w K mg base CX0 1 f fd PWindow_call (spWindow_call K a) := by
  refine F0.ok scWindow_call (fun vs H Q E h => ?_) (fun cdv A outer s H vs Q E hr h => ?_)
  · obtain ⟨x, g, w, t, rfl, R, k⟩ := h
    rfl
  · obtain ⟨x, g, w, t, rfl, R, k⟩ := h
    refine ⟨_, (pss_one (ps_ret (pe_op op_add (pv 1) (pe_fld (pv 0) rfl)))), ?_⟩
    obtain ⟨n, dx, z, hx, _⟩ := R
    exact ⟨_, rfl, _, rfl, x, a.W, dx, _, _, rfl, hx, KN.w.cl, KN.nw, lk_width, _, _, rfl, rfl, k⟩
end k80
namespace k80
open PySem L2 LC RM
def spDays_call (K : PySem.W.Frag) (a : Ad) : Sp := fun vs H Q _ => ∃ (x : Addr) (g : Addr → Prop) (bs : List Int) (e t : Int), vs = [.ref x, .int t] ∧ RestAt a g H (.days bs e) x ∧ 1 ≤ e ∧ e ≤ 2000 ∧ Q (.int ((Pl.days bs e).at t)) H
theorem ok_Days_call {P : Program} {w : World} {K : PySem.W.Frag} {mg : Str → Option Value} {base : Heap} {f : Addr} {fd : FuncData} (F0 : Fun K "__call__" "Days.__call__" sDays_call f fd) (T : Txt K mg) {a : Ad} (KN : Kn K mg a) (RB : FnR P w K mg base CX0 1 a.fB (spRest_bend K a)) :
    FnOk P w K mg base CX0 2 f fd PDays_call (spDays_call K a) := by
  refine F0.ok scDays_call (fun vs H Q E h => ?_) (fun cdv A outer s H vs Q E hr h => ?_)
  · obtain ⟨x, g, bs, e, t, rfl, R, e0, e2, k⟩ := h
    rfl
  · obtain ⟨x, g, bs, e, t, rfl, R, e0, e2, k⟩ := h
    have hrM : Room 1 _ := hr.mono (by decide)
    refine ⟨_, (pss_cons (ps_for PassesOwn.never rfl (pi_list (pe_fld (pv 0) rfl)) (pg_name (i := 2) scDays_call.nd rfl (Or.inl rfl))
          (pss_one (ps_if (pt_cmpR op_gt (pv 2) (pv 1) (nomark _)) (pss_one (ps_ret (pv 2))) pss_nil)))
        (pss_cons (ps_set (i := 3) scDays_call.nd rfl (Or.inl rfl) (LS.pe_methD0 (pv 0) KN.kB RB hrM))
        (pss_one (ps_ret (pe_op op_add (pv 3) (pe_op op_mul (pe_op op_add (pe_op op_fdivN (pe_op op_sub (pv 1) (pv 3)) (pe_fld (pv 0) rfl)) pe_int) (pe_fld (pv 0) rfl))))))), ?_⟩
    obtain ⟨n, dx, z, b, hx, hz, nb, hb⟩ := id R
    refine ⟨_, rfl, x, a.D, dx, _, _, rfl, hx, KN.d.cl, KN.nb, lk_borders, b, rfl, ⟨_, SqL.of hb⟩, for_list (K := K) (a := b) (xs := bs.map V.int) (fun i σ H' => ∃ v : Option V, σ = [some (.ref x), some (.int t), v, none] ∧ H' = H ∧ bs.find? (fun c => decide (c > t)) = (bs.drop i).find? (fun c => decide (c > t)))
      ⟨none, rfl, rfl, rfl⟩ (fun i σ H' _ ⟨_, _, e, _⟩ => by rw [e]; exact SqL.of hb) ?_ ?_⟩
    · rintro i y σ H' hi ⟨v, rfl, rfl, hf⟩
      rw [List.getElem?_map] at hi
      obtain ⟨c, hc, rfl⟩ : ∃ c, bs[i]? = some c ∧ V.int c = y := by
        cases q : bs[i]? with
        | none => rw [q] at hi; cases hi
        | some c => rw [q] at hi; exact ⟨c, rfl, Option.some.inj hi⟩
      obtain ⟨hlt, rfl⟩ := List.getElem?_eq_some_iff.mp hc
      rw [List.drop_eq_getElem_cons hlt, List.find?_cons] at hf
      refine ⟨_, rfl, _, rfl, _, _, rfl, rfl, _, rfl, ite_d (fun h1 => ?_) (fun h1 => ?_)⟩
      · rw [decide_eq_true (show bs[i] > t from h1)] at hf
        refine ⟨_, rfl, ?_⟩
        have e1 : (Pl.days bs e).at t = bs[i] := dayAt_some hf
        rw [← e1]
        exact k
      · rw [decide_eq_false (show ¬ bs[i] > t from h1)] at hf
        exact ⟨_, rfl, rfl, hf⟩
    · rintro σ H' ⟨v, rfl, rfl, hf⟩
      rw [List.length_map, List.drop_length] at hf
      have e1 : (Pl.days bs e).at t = lastOf bs + ((t - lastOf bs) / e + 1) * e := dayAt_none hf
      have ed : (t - lastOf bs).fdiv e = (t - lastOf bs) / e := Int.fdiv_eq_ediv_of_nonneg _ (by omega)
      refine ⟨_, rfl, x, a.D, dx, _, rfl, hx, KN.d.cl, KN.d.mB, four_day.mb, x, g, .days bs e, rfl, R, ?_⟩
      refine ⟨_, rfl, _, rfl, _, rfl, _, _, rfl, rfl, _, rfl, x, a.D, dx, _, _, rfl, hx, KN.d.cl, KN.ne, lk_every, _, _, rfl, rfl, ⟨by omega, by omega⟩, _, _, rfl, rfl, _, rfl, x, a.D, dx, _, _, rfl, hx, KN.d.cl, KN.ne, lk_every, _, _, rfl, rfl, .inr ⟨by omega, by omega⟩, _, _, rfl, rfl, ?_⟩
      show Q (.int (lastOf bs + ((t - lastOf bs).fdiv e + 1) * e)) _
      rw [ed, ← e1]
      exact k
end k80
namespace k80
open PySem L2 LC RM
def spcallJ (J : Pl → Pl → Pl) (a : Ad) (n : Nat) : Sp := fun vs H Q _ => ∃ (x : Addr) (g : Addr → Prop) (p q : Pl) (L : Nat) (t : Int), vs = [.ref x, .int t] ∧ RestAt a g H (J p q) x ∧ (J p q).h ≤ n ∧ p.ok L ∧ q.ok L ∧ Q (.int ((J p q).at t)) H
abbrev spLater_call (a : Ad) (n : Nat) : Sp := spcallJ Pl.lat a n
abbrev spSooner_call (a : Ad) (n : Nat) : Sp := spcallJ Pl.soo a n
abbrev spNext_call (a : Ad) (n : Nat) : Sp := spcallJ Pl.nex a n
/-- the calls of all rests whose plans are n joins high at most -/
structure Calls (P : Program) (W : World) (K : PySem.W.Frag) (mg : Str → Option Value) (base : Heap) (a : Ad) (n : Nat) : Prop where
  cw : FnR P W K mg base CX0 (n + 2) a.Wc (spWindow_call K a)
  cd : FnR P W K mg base CX0 (n + 2) a.Dc (spDays_call K a)
  cl : FnR P W K mg base CX0 (n + 2) a.Lc (spLater_call a n)
  cs : FnR P W K mg base CX0 (n + 2) a.Sc (spSooner_call a n)
  cn : FnR P W K mg base CX0 (n + 2) a.Nc (spNext_call a n)
theorem Calls.dyn {P : Program} {w : World} {K : PySem.W.Frag} {mg : Str → Option Value} {base : Heap} {a : Ad} {n : Nat} (CC : Calls P w K mg base a n) (KN : Kn K mg a) {g : Addr → Prop} {H : Hp} {L : Nat} : ∀ {p : Pl} {y : Addr}, RestAt a g H p y → p.h ≤ n → p.ok L →
    ∃ (C f : Addr) (sp : Sp), StX.CallO K C f ∧ FnR P w K mg base CX0 (n + 2) f sp ∧ (∃ dx fs, H y = some (.ins C dx fs)) ∧ ∀ (t : Int) (Q : VK) (E : XK), Q (.int (p.at t)) H → sp [.ref y, .int t] H Q E
  | .win w, y, R, _, _ => ⟨_, _, _, KN.cW, CC.cw, (by obtain ⟨_, dx, t, h, _⟩ := R; exact ⟨_, _, h⟩), fun t Q E k => ⟨y, g, w, t, rfl, R, k⟩⟩
  | .days bs e, y, R, _, o => ⟨_, _, _, KN.cD, CC.cd, (by obtain ⟨_, dx, t, b, h, _⟩ := R; exact ⟨_, _, h⟩), fun t Q E k => ⟨y, g, bs, e, t, rfl, R, o.1, o.2.1, k⟩⟩
  | .lat p q, y, R, h, o => ⟨_, _, _, KN.cL, CC.cl, (by obtain ⟨_, dx, t, _, _, h, _⟩ := R; exact ⟨_, _, h⟩), fun t Q E k => ⟨y, g, p, q, L, t, rfl, R, h, o.1, o.2, k⟩⟩
  | .soo p q, y, R, h, o => ⟨_, _, _, KN.cS, CC.cs, (by obtain ⟨_, dx, t, _, _, h, _⟩ := R; exact ⟨_, _, h⟩), fun t Q E k => ⟨y, g, p, q, L, t, rfl, R, h, o.1, o.2, k⟩⟩
  | .nex p q, y, R, h, o => ⟨_, _, _, KN.cN, CC.cn, (by obtain ⟨_, dx, t, _, _, h, _⟩ := R; exact ⟨_, _, h⟩), fun t Q E k => ⟨y, g, p, q, L, t, rfl, R, h, o.1, o.2, k⟩⟩

theorem ok_Later_call {P : Program} {w : World} {K : PySem.W.Frag} {mg : Str → Option Value} {base : Heap} {f : Addr} {fd : FuncData} (F0 : Fun K "__call__" "Later.__call__" sLater_call f fd) (T : Txt K mg) {a : Ad} (KN : Kn K mg a) {n : Nat} (CC : Calls P w K mg base a n) :
    FnOk P w K mg base CX0 (n + 3) f fd PLater_call (spLater_call a (n + 1)) := by
  refine F0.ok scLater_call (fun vs H Q E h => ?_) (fun cdv A outer s H vs Q E hr h => ?_)
  · obtain ⟨x, g, p, q, L, t, rfl, R, hh, o1, o2, k⟩ := h
    rfl
  · obtain ⟨x, g, p, q, L, t, rfl, R, hh, o1, o2, k⟩ := h
    have hrC : Room (n + 2) _ := hr
    refine ⟨_, (pss_one (ps_ret (pe_callB (call_max2 rfl) (by rfl) T.n_max (by decide +kernel) (pa_cons (LS.pe_callFD (pv 0) hrC (pa_cons (pv 1) pa_nil)) (pa_cons (LS.pe_callFD (pv 0) hrC (pa_cons (pv 1) pa_nil)) pa_nil))))), ?_⟩
    obtain ⟨ng, dx, z, y1, y2, hx, hz, R1, R2⟩ := R
    have hh' : 1 + max p.h q.h ≤ n + 1 := hh
    obtain ⟨C1, f1, s1, c1, G1, i1, k1⟩ := CC.dyn KN R1 (by omega) o1
    obtain ⟨C2, f2, s2, c2, G2, i2, k2⟩ := CC.dyn KN R2 (by omega) o2
    refine ⟨_, rfl, x, a.L, dx, _, y1, rfl, hx, KN.l.cl, KN.l1, lk_first, _, rfl, C1, f1, s1, c1, G1, i1, k1 t _ _ ?_⟩
    refine ⟨_, rfl, x, a.L, dx, _, y2, rfl, hx, KN.l.cl, KN.l2, lk_second, _, rfl, C2, f2, s2, c2, G2, i2, k2 t _ _ ?_⟩
    exact ⟨_, _, rfl, k⟩
end k80
namespace k80
open PySem L2 LC RM

theorem ok_Sooner_call {P : Program} {w : World} {K : PySem.W.Frag} {mg : Str → Option Value} {base : Heap} {f : Addr} {fd : FuncData} (F0 : Fun K "__call__" "Sooner.__call__" sSooner_call f fd) (T : Txt K mg) {a : Ad} (KN : Kn K mg a) {n : Nat} (CC : Calls P w K mg base a n) :
    FnOk P w K mg base CX0 (n + 3) f fd PSooner_call (spSooner_call a (n + 1)) := by
  refine F0.ok scSooner_call (fun vs H Q E h => ?_) (fun cdv A outer s H vs Q E hr h => ?_)
  · obtain ⟨x, g, p, q, L, t, rfl, R, hh, o1, o2, k⟩ := h
    rfl
  · obtain ⟨x, g, p, q, L, t, rfl, R, hh, o1, o2, k⟩ := h
    have hrC : Room (n + 2) _ := hr
    refine ⟨_, (pss_one (ps_ret (pe_callB (call_min2 rfl) (by rfl) T.n_min (by decide +kernel) (pa_cons (LS.pe_callFD (pv 0) hrC (pa_cons (pv 1) pa_nil)) (pa_cons (LS.pe_callFD (pv 0) hrC (pa_cons (pv 1) pa_nil)) pa_nil))))), ?_⟩
    obtain ⟨ng, dx, z, y1, y2, hx, hz, R1, R2⟩ := R
    have hh' : 1 + max p.h q.h ≤ n + 1 := hh
    obtain ⟨C1, f1, s1, c1, G1, i1, k1⟩ := CC.dyn KN R1 (by omega) o1
    obtain ⟨C2, f2, s2, c2, G2, i2, k2⟩ := CC.dyn KN R2 (by omega) o2
    refine ⟨_, rfl, x, a.S, dx, _, y1, rfl, hx, KN.s.cl, KN.s1, lk_first, _, rfl, C1, f1, s1, c1, G1, i1, k1 t _ _ ?_⟩
    refine ⟨_, rfl, x, a.S, dx, _, y2, rfl, hx, KN.s.cl, KN.s2, lk_second, _, rfl, C2, f2, s2, c2, G2, i2, k2 t _ _ ?_⟩
    exact ⟨_, _, rfl, k⟩
end k80
namespace k80
open PySem L2 LC RM

theorem ok_Next_call {P : Program} {w : World} {K : PySem.W.Frag} {mg : Str → Option Value} {base : Heap} {f : Addr} {fd : FuncData} (F0 : Fun K "__call__" "Next.__call__" sNext_call f fd) (T : Txt K mg) {a : Ad} (KN : Kn K mg a) {n : Nat} (CC : Calls P w K mg base a n) :
    FnOk P w K mg base CX0 (n + 3) f fd PNext_call (spNext_call a (n + 1)) := by
  refine F0.ok scNext_call (fun vs H Q E h => ?_) (fun cdv A outer s H vs Q E hr h => ?_)
  · obtain ⟨x, g, p, q, L, t, rfl, R, hh, o1, o2, k⟩ := h
    rfl
  · obtain ⟨x, g, p, q, L, t, rfl, R, hh, o1, o2, k⟩ := h
    have hrC : Room (n + 2) _ := hr
    refine ⟨_, (pss_one (ps_ret (LS.pe_callFD (pv 0) hrC (pa_cons (LS.pe_callFD (pv 0) hrC (pa_cons (pv 1) pa_nil)) pa_nil)))), ?_⟩
    obtain ⟨ng, dx, z, y1, y2, hx, hz, R1, R2⟩ := R
    have hh' : 1 + max p.h q.h ≤ n + 1 := hh
    obtain ⟨C1, f1, s1, c1, G1, i1, k1⟩ := CC.dyn KN R1 (by omega) o1
    obtain ⟨C2, f2, s2, c2, G2, i2, k2⟩ := CC.dyn KN R2 (by omega) o2
    refine ⟨_, rfl, x, a.N, dx, _, y2, rfl, hx, KN.n.cl, KN.n2, lk_second, ?_⟩
    refine ⟨_, rfl, x, a.N, dx, _, y1, rfl, hx, KN.n.cl, KN.n1, lk_first, _, rfl, C1, f1, s1, c1, G1, i1, k1 t _ _ ?_⟩
    exact ⟨C2, f2, s2, c2, G2, i2, k2 _ _ _ k⟩
theorem calls_of {P : Program} {w : World} {K : PySem.W.Frag} {mg : Str → Option Value} {base : Heap} {a : Ad} {n : Nat} (GW : FnR P w K mg base CX0 1 a.Wc (spWindow_call K a)) (GD : FnR P w K mg base CX0 2 a.Dc (spDays_call K a))
    (GL : ∀ {n}, Calls P w K mg base a n → FnR P w K mg base CX0 (n + 3) a.Lc (spLater_call a (n + 1))) (GS : ∀ {n}, Calls P w K mg base a n → FnR P w K mg base CX0 (n + 3) a.Sc (spSooner_call a (n + 1))) (GN : ∀ {n}, Calls P w K mg base a n → FnR P w K mg base CX0 (n + 3) a.Nc (spNext_call a (n + 1))) : Calls P w K mg base a n := by
  induction n with
  | zero =>
    have no : ∀ {J : Pl → Pl → Pl} {f : Addr}, (∀ p q, (J p q).h ≠ 0) → FnR P w K mg base CX0 2 f (spcallJ J a 0) := fun hJ => by
      intro A outer s H us vs Q E hr e0 r hs
      obtain ⟨x, g, p, q, L, t, _, _, h, _⟩ := hs
      exact absurd (Nat.le_zero.mp h) (hJ p q)
    exact ⟨GW.mono (by decide), GD.mono (by decide), no fun p q => by simp only [Pl.h]; omega, no fun p q => by simp only [Pl.h]; omega, no fun p q => by simp only [Pl.h]; omega⟩
  | succ n ih => exact ⟨GW.mono (by omega), GD.mono (by omega), GL ih, GS ih, GN ih⟩
end k80
namespace k80
open PySem L2 LC RM
def spis_name : Sp := fun vs H Q _ => ∃ (z : Str), vs = [.str z] ∧ z.length ≤ 1000000 ∧ ∀ H', Same H H' → Q (.bl (isNam (.str z))) H'
theorem ok_is_name {P : Program} {w : World} {K : PySem.W.Frag} {mg : Str → Option Value} {base : Heap} {f : Addr} {fd : FuncData} (D : Def K mg "is_name" sis_name Pis_name f fd) (T : Txt K mg) :
    FnOk P w K mg base CX0 1 f fd Pis_name (spis_name) := by
  refine D.F.ok scis_name (fun vs H Q E h => ?_) (fun cdv A outer s H vs Q E hr h => ?_)
  · obtain ⟨z, rfl, hz, k⟩ := h
    rfl
  · obtain ⟨z, rfl, hz, k⟩ := h
    obtain ⟨tc_DIGITS, hc_DIGITS⟩ := T.c_DIGITS
    obtain ⟨tc_LETTERS, hc_LETTERS⟩ := T.c_LETTERS
    refine ⟨_, (pss_cons (ps_if (PW.pt (pw_or (pt_not (pt_val (pe_callB call_isi (by rfl) T.n_isinstance (by decide +kernel) (pa_cons (pv 0) (pa_cons (pe_ty "str" (by rfl) T.n_str (by decide +kernel)) pa_nil))))) (pw_or1 (pt_not (pt_chain op_le op_le pe_int (pe_callB call_len_str (by rfl) T.n_len PySem.boot_len (pa_cons (pv 0) pa_nil)) pe_int))))) (pss_one (ps_ret pe_bl)) pss_nil)
        (pss_one (ps_ret (pe_and (pe_cmpR op_in_sign (pe_ix ix_str (pv 0) pe_int (fun _ _ => rfl)) (pe_gstr rfl hc_LETTERS) (by rfl)) (pe_one (pe_callB (cr_all rfl) (by rfl) T.n_all (by decide +kernel) (pa_cons (pe_lc (own := [("sign", 1)]) (g := gName 1) (tt := tYes) rfl scis_name.nd (pi_str (pv 0)) (blkOk_by (own := [("sign", 1)]) (N := Nmis_name) (sc := defScope sis_name) (by decide +kernel)) (fun _ _ _ _ _ => pg_name (i := 1) scis_name.nd rfl (Or.inl rfl)) (fun _ _ _ _ _ => pts_nil) (fun _ _ _ _ _ => (pe_or (pe_cmpR op_in_sign (pv 1) (pe_gstr rfl hc_LETTERS) (by rfl)) (pe_one (pe_cmpR op_in_sign (pv 1) (pe_gstr rfl hc_DIGITS) (by rfl)))))) pa_nil))))))), ?_⟩
    refine ⟨_, rfl, _, _, _, _, _, rfl, .ty _, .base (.str z), kit_ty (show kitB "str" "str" = some true by decide +kernel), _, rfl, iteF ?_⟩
    refine ⟨_, rfl, _, rfl, sz_str hz, _, _, rfl, rfl, _, rfl, ?_⟩
    refine ite_d (fun h1 => ?_) (fun h1 => ?_)
    · refine ⟨_, _, rfl, rfl, _, rfl, ?_⟩
      refine ite_nd (fun h8 => ?_) (fun h8 => ?_)
      · have q := k H (Same.refl H)
        rw [isNam_str, decide_eq_false (show ¬ z.length ≤ 8 by omega), Bool.and_false, Bool.false_and, Bool.false_and] at q
        exact q
      · have h1' : 1 ≤ z.length := by omega
        obtain ⟨c0, hc0, e0⟩ := len1 h1'
        have e : isNam (.str z) = (chL c0 && z.cps.toList.all (fun c => chL c || chD c)) := by
          rw [isNam_str, decide_eq_true h1', decide_eq_true (show z.length ≤ 8 by omega), e0]
          rfl
        refine ⟨_, rfl, _, _, c0, rfl, rfl, sz_str hz, atI_nat (j := 0) hc0, _, _, rfl, rfl, _, rfl, ?_⟩
        refine ite_is (mem_low c0) (fun eL => ?_) (fun eL => ?_)
        · refine ⟨_, rfl, _, rfl, fun D hD => lc_text (fun c => .bl (chL c || chD c)) hD hz (fun _ => rfl) (fun c H Q hc q => ?_) ?_⟩
          · refine ⟨_, rfl, _, _, rfl, rfl, _, rfl, ?_⟩
            refine ite_is (mem_low c) (fun e1 => ?_) (fun e1 => ?_)
            · rw [e1, Bool.true_or] at q
              exact q
            · refine ⟨_, rfl, _, _, rfl, rfl, ?_⟩
              rw [e1, Bool.false_or] at q
              rw [mem_dig]
              exact q
          · refine ⟨D, z.cps.toList.map fun c => chL c || chD c, rfl, by rw [← bls_map]; exact SqL.of upd_same, ?_⟩
            rw [all_id]
            have q := k _ (same_new (o := .lst (z.cps.toList.map fun c => V.bl (chL c || chD c))) hD)
            rw [e, eL, Bool.true_and] at q
            exact q
        · have q := k H (Same.refl H)
          rw [e, eL, Bool.false_and] at q
          exact q
    · have q := k H (Same.refl H)
      rw [isNam_str, decide_eq_false (show ¬ 1 ≤ z.length by omega), Bool.false_and, Bool.false_and, Bool.false_and] at q
      refine ⟨_, rfl, ite_nb (fun _ => q) fun z => Bool.noConfusion z⟩
end k80
namespace k80
open PySem L2 LC RM
def sphas_name : Sp := fun vs H Q _ => ∃ (z : Str) (D : Addr) (kv : List (Key × V)) (o : Option V), vs = [.ref D, .str z] ∧ Rd H D (.dK kv) ∧ isNam (.str z) = true ∧ valV kv (kS z) = o ∧ ∀ H', Same H H' → Q (.bl o.isSome) H'
theorem ok_has_name {P : Program} {w : World} {K : PySem.W.Frag} {mg : Str → Option Value} {base : Heap} {f : Addr} {fd : FuncData} (D : Def K mg "has_name" shas_name Phas_name f fd) (T : Txt K mg) {fis_name : Addr} {fdis_name : FuncData} (Dis_name : Def K mg "is_name" sis_name Pis_name fis_name fdis_name) (Gis_name : FnOk P w K mg base CX0 1 fis_name fdis_name Pis_name (spis_name)) :
    FnOk P w K mg base CX0 2 f fd Phas_name (sphas_name) := by
  refine D.F.ok schas_name (fun vs H Q E h => ?_) (fun cdv A outer s H vs Q E hr h => ?_)
  · obtain ⟨z, D, kv, o, rfl, hD, hz, hv, k⟩ := h
    rfl
  · obtain ⟨z, D, kv, o, rfl, hD, hz, hv, k⟩ := h
    have hris_name : Room 1 _ := hr.mono (by decide)
    refine ⟨_, (pss_one (ps_ret (pe_and (pe_call Gis_name hris_name rfl Dis_name.g Dis_name.F.kp Dis_name.b .nil pass0 (pa_cons (pv 1) pa_nil)) (pe_one (pe_cmp (pc_din (hu_of hr) (pv 1) (pv 0))))))), ?_⟩
    refine ⟨_, rfl, z, rfl, nam_len hz, fun H1 s1 => ?_⟩
    rw [hz]
    refine ⟨_, rfl, iteT ⟨_, rfl, _, rfl, D, o, rfl, ?_, ?_⟩⟩
    · rw [← hv]
      exact .inl ⟨kv, kS z, Rd.same s1 hD, rfl, rfl⟩
    exact k H1 s1
end k80
namespace k80
open PySem L2 LC RM
def splook_up : Sp := fun vs H Q _ => ∃ (z : Str) (D : Addr) (kv : List (Key × V)) (v : V), vs = [.ref D, .str z] ∧ Rd H D (.dK kv) ∧ isNam (.str z) = true ∧ valV kv (kS z) = some v ∧ ∀ H', Same H H' → Q v H'
theorem ok_look_up {P : Program} {w : World} {K : PySem.W.Frag} {mg : Str → Option Value} {base : Heap} {f : Addr} {fd : FuncData} (D : Def K mg "look_up" slook_up Plook_up f fd) (T : Txt K mg) {fhas_name : Addr} {fdhas_name : FuncData} (Dhas_name : Def K mg "has_name" shas_name Phas_name fhas_name fdhas_name) (Ghas_name : FnOk P w K mg base CX0 2 fhas_name fdhas_name Phas_name (sphas_name)) :
    FnOk P w K mg base CX0 3 f fd Plook_up (splook_up) := by
  refine D.F.ok sclook_up (fun vs H Q E h => ?_) (fun cdv A outer s H vs Q E hr h => ?_)
  · obtain ⟨z, D, kv, v, rfl, hD, hz, hv, k⟩ := h
    rfl
  · obtain ⟨z, D, kv, v, rfl, hD, hz, hv, k⟩ := h
    have hrhas_name : Room 2 _ := hr.mono (by decide)
    refine ⟨_, (pss_cons (ps_if (pt_not (pt_val (pe_call Ghas_name hrhas_name rfl Dhas_name.g Dhas_name.F.kp Dhas_name.b .nil pass0 (pa_cons (pv 0) (pa_cons (pv 1) pa_nil))))) (pss_one LC.ps_never) pss_nil)
        (pss_one (ps_ret (pe_dget (hu_of hr) (pv 0) (pv 1) (fun _ _ => rfl))))), ?_⟩
    refine ⟨_, rfl, _, rfl, z, D, kv, some v, rfl, hD, hz, hv, fun H1 s1 => ⟨_, rfl, iteF ?_⟩⟩
    refine ⟨_, rfl, _, rfl, D, v, rfl, ?_, k H1 s1⟩
    rw [← hv]
    exact .inl ⟨kv, kS z, Rd.same s1 hD, rfl, rfl⟩
end k80
namespace k80
open PySem L2 LC RM
def spis_row : Sp := fun vs H Q _ => ∃ (x D : Addr) (rs : List Rw) (xs : List Addr) (q : Rw), vs = [.ref x, .ref D] ∧ H x = some (rowV q) ∧ H D = some (.dK (kvs rs xs)) ∧ RowsAt H rs xs ∧ isNam (.str q.nm) = true ∧ rowOf rs q.nm = none ∧ 0 ≤ q.er ∧ q.er ≤ 100 ∧ 0 ≤ q.de ∧ q.de ≤ 100 ∧ (rs = [] → q.el = none ∧ q.de = 0) ∧ (rs ≠ [] → ∃ e r0, q.el = some e ∧ rowOf rs e = some r0 ∧ isNam (.str e) = true) ∧ ∀ H', Same H H' → Q (.bl true) H'
theorem ok_is_row {P : Program} {w : World} {K : PySem.W.Frag} {mg : Str → Option Value} {base : Heap} {f : Addr} {fd : FuncData} (D : Def K mg "is_row" sis_row Pis_row f fd) (T : Txt K mg) {fis_number : Addr} {fdis_number : FuncData} (Dis_number : Def K mg "is_number" sis_number Pis_number fis_number fdis_number) (Gis_number : FnOk P w K mg base CX0 2 fis_number fdis_number Pis_number (spis_number)) {fis_name : Addr} {fdis_name : FuncData} (Dis_name : Def K mg "is_name" sis_name Pis_name fis_name fdis_name) (Gis_name : FnOk P w K mg base CX0 1 fis_name fdis_name Pis_name (spis_name)) {fhas_name : Addr} {fdhas_name : FuncData} (Dhas_name : Def K mg "has_name" shas_name Phas_name fhas_name fdhas_name) (Ghas_name : FnOk P w K mg base CX0 2 fhas_name fdhas_name Phas_name (sphas_name)) :
    FnOk P w K mg base CX0 3 f fd Pis_row (spis_row) := by
  refine D.F.ok scis_row (fun vs H Q E h => ?_) (fun cdv A outer s H vs Q E hr h => ?_)
  · obtain ⟨x, D, rs, xs, q, rfl, hx, hD, hat, hn, hno, e0, e1, d0, d1, hz, hs, k⟩ := h
    rfl
  · obtain ⟨x, D, rs, xs, q, rfl, hx, hD, hat, hn, hno, e0, e1, d0, d1, hz, hs, k⟩ := h
    have hris_number : Room 2 _ := hr.mono (by decide)
    have hris_name : Room 1 _ := hr.mono (by decide)
    have hrhas_name : Room 2 _ := hr.mono (by decide)
    obtain ⟨tc_MOST_ERROR, hc_MOST_ERROR⟩ := T.c_MOST_ERROR
    refine ⟨_, (pss_cons (ps_if (PW.pt (pw_or (pt_not (pt_val (pe_callB call_isi (by rfl) T.n_isinstance (by decide +kernel) (pa_cons (pv 0) (pa_cons (pe_ty "tuple" (by rfl) T.n_tuple (by decide +kernel)) pa_nil))))) (pw_or1 (pt_cmpR op_ne (pe_callB call_len_seq (by rfl) T.n_len PySem.boot_len (pa_cons (pv 0) pa_nil)) pe_int (nomark _))))) (pss_one (ps_ret pe_bl)) pss_nil)
        (pss_cons (ps_asg (pv 0) (pg_tup rfl (pgs_cons (pg_name (i := 2) scis_row.nd rfl (Or.inl rfl)) (pgs_cons (pg_name (i := 3) scis_row.nd rfl (Or.inl rfl)) (pgs_cons (pg_name (i := 4) scis_row.nd rfl (Or.inl rfl)) (pgs_cons (pg_name (i := 5) scis_row.nd rfl (Or.inl rfl)) pgs_nil))))))
        (pss_cons (ps_if (PW.pt (pw_or (pt_not (pt_val (pe_call Gis_name hris_name rfl Dis_name.g Dis_name.F.kp Dis_name.b .nil pass0 (pa_cons (pv 2) pa_nil)))) (pw_or (pt_cmp (pc_din (hu_of hr) (pv 2) (pv 1))) (pw_or1 (pt_not (pt_val (pe_call Gis_number hris_number rfl Dis_number.g Dis_number.F.kp Dis_number.b .nil pass0 (pa_cons (pv 4) (pa_cons pe_int (pa_cons (pe_gint rfl hc_MOST_ERROR) pa_nil)))))))))) (pss_one (ps_ret pe_bl)) pss_nil)
        (pss_cons (ps_if (pt_cmpR op_eq (pe_callB call_lenD (by rfl) T.n_len PySem.boot_len (pa_cons (pv 1) pa_nil)) pe_int (nomark _)) (pss_one (ps_ret (pe_and (pe_cmpR op_isN (pv 3) pe_non (nomark _)) (pe_one (pe_call Gis_number hris_number rfl Dis_number.g Dis_number.F.kp Dis_number.b .nil pass0 (pa_cons (pv 5) (pa_cons pe_int (pa_cons pe_int pa_nil)))))))) pss_nil)
        (pss_one (ps_ret (pe_and (pe_call Ghas_name hrhas_name rfl Dhas_name.g Dhas_name.F.kp Dhas_name.b .nil pass0 (pa_cons (pv 1) (pa_cons (pv 3) pa_nil))) (pe_one (pe_call Gis_number hris_number rfl Dis_number.g Dis_number.F.kp Dis_number.b .nil pass0 (pa_cons (pv 5) (pa_cons pe_int (pa_cons (pe_gint rfl hc_MOST_ERROR) pa_nil)))))))))))), ?_⟩
    refine ⟨_, rfl, _, _, _, _, _, rfl, .ty _, .base (.tup hx), kit_ty (show kitB "tuple" "tuple" = some true by decide +kernel), _, rfl, iteF ?_⟩
    refine ⟨_, rfl, _, _, rfl, .inr (SqT.of hx), rfl, _, rfl, iteF ?_⟩
    refine ⟨_, rfl, x, _, rfl, SqT.of hx, rfl, _, _, rfl, _, _, rfl, _, _, rfl, _, _, rfl, rfl, ?_⟩
    refine ⟨_, rfl, q.nm, rfl, nam_len hn, fun H1 s1 => ?_⟩
    rw [hn]
    refine ⟨_, rfl, iteF ?_⟩
    have hD1 := s1 _ _ hD
    refine ⟨_, rfl, _, rfl, D, Option.none, rfl, ?_, _, rfl, iteF ?_⟩
    · rw [← kvs_none hat hno]
      exact DGet.k (k := kS q.nm) hD1
    refine ⟨_, rfl, q.er, 0, 100, rfl, e0, e1, _, rfl, iteF ?_⟩
    have lk := kvs_len hat
    refine ⟨_, rfl, D, _, rfl, hD1, rfl, _, rfl, ?_⟩
    by_cases hr : rs = []
    · obtain ⟨z1, z2⟩ := hz hr
      subst hr
      refine iteT ⟨_, rfl, rfl, _, rfl, ?_⟩
      rw [z1, z2]
      exact iteT ⟨_, rfl, 0, 0, 0, rfl, Int.le_refl _, Int.le_refl _, k H1 s1⟩
    · obtain ⟨e, r0, z1, z2, z3⟩ := hs hr
      have hlen : 0 < rs.length := List.length_pos_iff.mpr hr
      rw [lk, decide_eq_false (show ¬ V.int ((rs.length : Nat) : Int) = V.int 0 from fun z => by have := V.int.inj z; omega)]
      obtain ⟨y, hy, _⟩ := kvs_some hat z2
      refine iteF ⟨_, rfl, _, rfl, e, D, _, some (V.ref y), ?_, .inl hD1, z3, hy, fun H2 s2 => ⟨_, rfl, iteT ⟨_, rfl, q.de, 0, 100, rfl, d0, d1, k H2 (s1.trans s2)⟩⟩⟩
      rw [z1]
      rfl
end k80
namespace k80
open PySem L2 LC RM
def sprows_by_name : Sp := fun vs H Q _ => ∃ (tp : Addr) (rs : List Rw) (xs : List Addr), vs = [.ref tp] ∧ H tp = some (.tup (xs.map V.ref)) ∧ RowsAt H rs xs ∧ Rws rs ∧ ∀ (D : Addr) H', Same H H' → H D = none → H' D = some (.dK (kvs rs xs)) → Q (.ref D) H'
theorem ok_rows_by_name {P : Program} {w : World} {K : PySem.W.Frag} {mg : Str → Option Value} {base : Heap} {f : Addr} {fd : FuncData} (D : Def K mg "rows_by_name" srows_by_name Prows_by_name f fd) (T : Txt K mg) {fcheck_count : Addr} {fdcheck_count : FuncData} (Dcheck_count : Def K mg "check_count" scheck_count Pcheck_count fcheck_count fdcheck_count) (Gcheck_count : FnOk P w K mg base CX0 1 fcheck_count fdcheck_count Pcheck_count (spcheck_count)) {fis_row : Addr} {fdis_row : FuncData} (Dis_row : Def K mg "is_row" sis_row Pis_row fis_row fdis_row) (Gis_row : FnOk P w K mg base CX0 3 fis_row fdis_row Pis_row (spis_row)) :
    FnOk P w K mg base CX0 4 f fd Prows_by_name (sprows_by_name) := by
  refine D.F.ok scrows_by_name (fun vs H Q E h => ?_) (fun cdv A outer s H vs Q E hr h => ?_)
  · obtain ⟨tp, rs, xs, rfl, ht, hat, hw, k⟩ := h
    rfl
  · obtain ⟨tp, rs, xs, rfl, ht, hat, hw, k⟩ := h
    have hrcheck_count : Room 1 _ := hr.mono (by decide)
    have hris_row : Room 3 _ := hr.mono (by decide)
    obtain ⟨tc_MOST_NET_PLACES, hc_MOST_NET_PLACES⟩ := T.c_MOST_NET_PLACES
    refine ⟨_, (pss_cons (ps_if (pt_cmpR op_eq (pe_callB call_len_seq (by rfl) T.n_len PySem.boot_len (pa_cons (pv 0) pa_nil)) pe_int (nomark _)) (pss_one LC.ps_never) pss_nil)
        (pss_cons (ps_expr (pe_call Gcheck_count hrcheck_count rfl Dcheck_count.g Dcheck_count.F.kp Dcheck_count.b .nil pass0 (pa_cons pe_str (pa_cons (pe_callB call_len_seq (by rfl) T.n_len PySem.boot_len (pa_cons (pv 0) pa_nil)) (pa_cons (pe_gint rfl hc_MOST_NET_PLACES) pa_nil)))))
        (pss_cons (ps_set (i := 1) scrows_by_name.nd rfl (Or.inl rfl) pe_dnewK)
        (pss_cons (ps_for PassesOwn.never rfl (LN.pi_enumT (by rfl) T.n_enumerate (pa_cons (pv 0) pa_nil)) ((pg_tup rfl (pgs_cons (pg_name (i := 2) scrows_by_name.nd rfl (Or.inl rfl)) (pgs_cons (pg_name (i := 3) scrows_by_name.nd rfl (Or.inl rfl)) pgs_nil))))
          (pss_cons (ps_if (pt_not (pt_val (pe_call Gis_row hris_row rfl Dis_row.g Dis_row.F.kp Dis_row.b .nil pass0 (pa_cons (pv 3) (pa_cons (pv 1) pa_nil))))) (pss_one LC.ps_never) pss_nil)
        (pss_one (ps_dput (hu_of hr) (pv 1) (pe_ix ix_tup (pv 3) pe_int (fun _ _ => rfl)) (pv 3) (by rfl)))))
        (pss_one (ps_ret (pv 1))))))), ?_⟩
    have lx := hat.len
    have wp := hw.pos
    have wl := hw.len
    refine ⟨_, rfl, _, _, rfl, .inr (SqT.of ht), rfl, _, rfl, ?_⟩
    rw [List.length_map, lx, decide_eq_false (show ¬ V.int ((rs.length : Nat) : Int) = V.int 0 from fun z => by have := V.int.inj z; omega)]
    refine iteF ⟨_, rfl, _, _, rfl, .inr (SqT.of ht), _, _, _, rfl, by rw [List.length_map, lx]; show ((rs.length : Nat) : Int) ≤ 12; omega, ?_⟩
    refine fun D hD => ?_
    have s1 := same_new (o := .dK []) hD
    have hD1 : upd H D (.dK []) D = some (.dK []) := upd_same
    generalize upd H D (.dK []) = H1 at s1 hD1 ⊢
    refine ⟨_, rfl, tp, _, rfl, SqT.of (s1 _ _ ht), for_it (LN.walk_enumT (K := K) (a := tp) (xs := xs.map V.ref)) (fun i σ H' => ∃ (v2 v3 : Option V), σ = [some (.ref tp), some (.ref D), v2, v3] ∧ Same H H' ∧ H' D = some (.dK (kvs (rs.take i) (xs.take i))))
      ⟨none, none, rfl, s1, hD1⟩ (fun i σ H' _ ⟨_, _, _, s, _⟩ => SqT.of (s _ _ ht)) ?_ ?_⟩
    · rintro i x σ H2 H3 hi ⟨v2, v3, rfl, s2, hD2⟩ ⟨T, x1, x2, rfl, hT, rfl, e1, e2⟩
      cases e1
      rw [List.length_map] at hi
      have hx := List.getElem?_eq_getElem hi
      have e2' : (xs.map V.ref)[i]? = some x2 := e2
      rw [List.getElem?_map, hx] at e2'
      cases e2'
      have hir : i < rs.length := by omega
      have hq := List.getElem?_eq_getElem hir
      obtain ⟨x', hx', hxr⟩ := hat.get hq
      rw [hx] at hx'
      have exx : xs[i] = x' := Option.some.inj hx'
      rw [exx] at hx ⊢
      have s3 := same_new (o := .tup [.int (i : Nat), .ref x']) hT
      have hT3 : upd H2 T (.tup [.int (i : Nat), .ref x']) T = some (.tup [.int (i : Nat), .ref x']) := upd_same
      generalize upd H2 T (.tup [.int (i : Nat), .ref x']) = H3 at s3 hT3 ⊢
      have s03 := s2.trans s3
      obtain ⟨q1, q2, q3, q4, q5, q6, q7⟩ := hw.wf.at_row hq
      generalize rs[i] = q at *
      have hat3 : RowsAt H3 (rs.take i) (xs.take i) := (hat.kp fun b ys e => s03 _ _ e).take i
      have qn : isNam (.str q.nm) = true := hw.nms q (List.mem_of_getElem? hq)
      have no : rowOf (rs.take i) q.nm = none := rowOf_none fun ⟨x, hx, e⟩ => q1 x hx e
      refine ⟨T, _, rfl, SqT.of hT3, rfl, _, _, rfl, _, _, rfl, rfl, ?_⟩
      refine ⟨_, rfl, _, rfl, x', D, rs.take i, xs.take i, q, rfl, s03 _ _ hxr, s3 _ _ hD2, hat3, qn, no, q2, q3, q4, q5, q6, fun z => ?_, fun H4 s4 => ⟨_, rfl, iteF ?_⟩⟩
      · obtain ⟨y, hy, ey⟩ := q7 z
        obtain ⟨r0, hr0, _, _⟩ := rowOf_has (rv := rs.take i) ⟨y, hy, rfl⟩
        exact ⟨y.nm, r0, ey, hr0, hw.nms y (List.mem_of_mem_take hy)⟩
      have s04 := s03.trans s4
      have hD4 := s4 _ _ (s3 _ _ hD2)
      refine ⟨_, rfl, _, rfl, _, rfl, _, _, _, _, rfl, rfl, SqT.of (s04 _ _ hxr), rfl, ?_⟩
      refine ⟨D, _, rfl, DPut.k (k := kS q.nm) hD4 ?_, ?_⟩
      · rw [kvs_len hat3, List.length_take]
        exact Nat.lt_of_lt_of_le (show min i rs.length < 7 by omega) (by decide)
      refine ⟨_, _, rfl, fun b o e => ?_, ?_⟩
      · rw [upd_ne (ne_of_none e hD)]
        exact s04 _ _ e
      · rw [upd_same, put_new (kvs_none hat3 no), take_snoc hq, take_snoc hx, kvs_snoc q x' (by rw [List.length_take, List.length_take, lx])]
    rintro σ H2 ⟨v2, v3, rfl, s2, hD2⟩
    rw [List.length_map, List.take_length, lx, List.take_length] at hD2
    exact ⟨_, rfl, k D H2 s2 hD hD2⟩
end k80
namespace k80
open PySem L2 LC RM
def spNet_elder_of (r : Ar) : Sp := fun vs H Q _ => ∃ (N D : Addr) (rs : List Rw) (fs : List (Str × V)) (z : Str) (q : Rw), vs = [.ref N, .str z] ∧ NetR r H N D rs fs ∧ rowOf (rv rs) z = some q ∧ ∀ H', Same H H' → Q (elV q.el) H'
theorem ok_Net_elder_of {P : Program} {w : World} {K : PySem.W.Frag} {mg : Str → Option Value} {base : Heap} {f : Addr} {fd : FuncData} (F0 : Fun K "elder_of" "Net.elder_of" sNet_elder_of f fd) (T : Txt K mg) {r : Ar} (KR : Kr K mg r) {flook_up : Addr} {fdlook_up : FuncData} (Dlook_up : Def K mg "look_up" slook_up Plook_up flook_up fdlook_up) (Glook_up : FnOk P w K mg base CX0 3 flook_up fdlook_up Plook_up (splook_up)) :
    FnOk P w K mg base CX0 4 f fd PNet_elder_of (spNet_elder_of r) := by
  refine F0.ok scNet_elder_of (fun vs H Q E h => ?_) (fun cdv A outer s H vs Q E hr h => ?_)
  · obtain ⟨N, D, rs, fs, z, q, rfl, ⟨dx, xs, h1, h2, h3, h4, h5, h6⟩, hz, k⟩ := h
    rfl
  · obtain ⟨N, D, rs, fs, z, q, rfl, ⟨dx, xs, h1, h2, h3, h4, h5, h6⟩, hz, k⟩ := h
    have hrlook_up : Room 3 _ := hr.mono (by decide)
    refine ⟨_, (pss_one (ps_ret (pe_ix ix_tup (pe_call Glook_up hrlook_up rfl Dlook_up.g Dlook_up.F.kp Dlook_up.b .nil pass0 (pa_cons (pe_fld (pv 0) rfl) (pa_cons (pv 1) pa_nil))) pe_int (fun _ _ => rfl)))), ?_⟩
    rw [rowOf_rev h6.wf] at hz
    obtain ⟨x, hx, hx2⟩ := kvs_some h5 hz
    have hq := List.mem_of_find?_eq_some hz
    have en : q.nm = z := of_decide_eq_true (List.find?_some (p := fun r => decide (Rw.nm r = z)) hz)
    refine ⟨_, rfl, _, _, _, _, _, rfl, h1, KR.cl, KR.nR, h3, _, rfl, z, D, _, _, rfl, h4, en ▸ h6.nms q hq, hx, fun H1 s1 => ?_⟩
    exact ⟨_, _, _, _, rfl, rfl, SqT.of (s1 _ _ hx2), rfl, k H1 s1⟩
end k80
namespace k80
open PySem L2 LC RM
def spNet_error_of (r : Ar) : Sp := fun vs H Q _ => ∃ (N D : Addr) (rs : List Rw) (fs : List (Str × V)) (z : Str), vs = [.ref N, .str z] ∧ NetR r H N D rs fs ∧ Has (rv rs) z ∧ ∀ H', Same H H' → Q (.int (erOf (rv rs) z)) H'
theorem ok_Net_error_of {P : Program} {w : World} {K : PySem.W.Frag} {mg : Str → Option Value} {base : Heap} {f : Addr} {fd : FuncData} (F0 : Fun K "error_of" "Net.error_of" sNet_error_of f fd) (T : Txt K mg) {r : Ar} (KR : Kr K mg r) {flook_up : Addr} {fdlook_up : FuncData} (Dlook_up : Def K mg "look_up" slook_up Plook_up flook_up fdlook_up) (Glook_up : FnOk P w K mg base CX0 3 flook_up fdlook_up Plook_up (splook_up)) :
    FnOk P w K mg base CX0 4 f fd PNet_error_of (spNet_error_of r) := by
  refine F0.ok scNet_error_of (fun vs H Q E h => ?_) (fun cdv A outer s H vs Q E hr h => ?_)
  · obtain ⟨N, D, rs, fs, z, rfl, ⟨dx, xs, h1, h2, h3, h4, h5, h6⟩, hz, k⟩ := h
    rfl
  · obtain ⟨N, D, rs, fs, z, rfl, ⟨dx, xs, h1, h2, h3, h4, h5, h6⟩, hz, k⟩ := h
    have hrlook_up : Room 3 _ := hr.mono (by decide)
    refine ⟨_, (pss_one (ps_ret (pe_ix ix_tup (pe_call Glook_up hrlook_up rfl Dlook_up.g Dlook_up.F.kp Dlook_up.b .nil pass0 (pa_cons (pe_fld (pv 0) rfl) (pa_cons (pv 1) pa_nil))) pe_int (fun _ _ => rfl)))), ?_⟩
    obtain ⟨q, hz, _, en⟩ := rowOf_has hz
    have ee : erOf (rv rs) z = q.er := by unfold erOf; rw [hz]; rfl
    rw [ee] at k
    rw [rowOf_rev h6.wf] at hz
    obtain ⟨x, hx, hx2⟩ := kvs_some h5 hz
    have hq := List.mem_of_find?_eq_some hz
    refine ⟨_, rfl, _, _, _, _, _, rfl, h1, KR.cl, KR.nR, h3, _, rfl, z, D, _, _, rfl, h4, en ▸ h6.nms q hq, hx, fun H1 s1 => ?_⟩
    exact ⟨_, _, _, _, rfl, rfl, SqT.of (s1 _ _ hx2), rfl, k H1 s1⟩
end k80
namespace k80
open PySem L2 LC RM
def spNet_delay_of (r : Ar) : Sp := fun vs H Q _ => ∃ (N D : Addr) (rs : List Rw) (fs : List (Str × V)) (z : Str), vs = [.ref N, .str z] ∧ NetR r H N D rs fs ∧ Has (rv rs) z ∧ ∀ H', Same H H' → Q (.int (deOf (rv rs) z)) H'
theorem ok_Net_delay_of {P : Program} {w : World} {K : PySem.W.Frag} {mg : Str → Option Value} {base : Heap} {f : Addr} {fd : FuncData} (F0 : Fun K "delay_of" "Net.delay_of" sNet_delay_of f fd) (T : Txt K mg) {r : Ar} (KR : Kr K mg r) {flook_up : Addr} {fdlook_up : FuncData} (Dlook_up : Def K mg "look_up" slook_up Plook_up flook_up fdlook_up) (Glook_up : FnOk P w K mg base CX0 3 flook_up fdlook_up Plook_up (splook_up)) :
    FnOk P w K mg base CX0 4 f fd PNet_delay_of (spNet_delay_of r) := by
  refine F0.ok scNet_delay_of (fun vs H Q E h => ?_) (fun cdv A outer s H vs Q E hr h => ?_)
  · obtain ⟨N, D, rs, fs, z, rfl, ⟨dx, xs, h1, h2, h3, h4, h5, h6⟩, hz, k⟩ := h
    rfl
  · obtain ⟨N, D, rs, fs, z, rfl, ⟨dx, xs, h1, h2, h3, h4, h5, h6⟩, hz, k⟩ := h
    have hrlook_up : Room 3 _ := hr.mono (by decide)
    refine ⟨_, (pss_one (ps_ret (pe_ix ix_tup (pe_call Glook_up hrlook_up rfl Dlook_up.g Dlook_up.F.kp Dlook_up.b .nil pass0 (pa_cons (pe_fld (pv 0) rfl) (pa_cons (pv 1) pa_nil))) pe_int (fun _ _ => rfl)))), ?_⟩
    obtain ⟨q, hz, _, en⟩ := rowOf_has hz
    have ee : deOf (rv rs) z = q.de := by unfold deOf; rw [hz]; rfl
    rw [ee] at k
    rw [rowOf_rev h6.wf] at hz
    obtain ⟨x, hx, hx2⟩ := kvs_some h5 hz
    have hq := List.mem_of_find?_eq_some hz
    refine ⟨_, rfl, _, _, _, _, _, rfl, h1, KR.cl, KR.nR, h3, _, rfl, z, D, _, _, rfl, h4, en ▸ h6.nms q hq, hx, fun H1 s1 => ?_⟩
    exact ⟨_, _, _, _, rfl, rfl, SqT.of (s1 _ _ hx2), rfl, k H1 s1⟩
end k80
namespace k80
open PySem L2 LC RM
def spNet_ups (r : Ar) : Sp := fun vs H Q _ => ∃ (N D : Addr) (rs : List Rw) (fs : List (Str × V)) (z : Str), vs = [.ref N, .str z] ∧ NetR r H N D rs fs ∧ Has (rv rs) z ∧ ∀ (l : Addr) H', Same H H' → H l = none → H' l = some (.lst ((up (rv rs) z).map V.str)) → Q (.ref l) H'
theorem ok_Net_ups {P : Program} {w : World} {K : PySem.W.Frag} {mg : Str → Option Value} {base : Heap} {f : Addr} {fd : FuncData} (F0 : Fun K "ups" "Net.ups" sNet_ups f fd) (T : Txt K mg) {r : Ar} (KR : Kr K mg r) {fdNelder_of : FuncData} (GNet_elder_of : FnOk P w K mg base CX0 4 r.felder_of fdNelder_of PNet_elder_of (spNet_elder_of r)) (BNet_elder_of : Binds K fdNelder_of PNet_elder_of []) :
    FnOk P w K mg base CX0 5 f fd PNet_ups (spNet_ups r) := by
  refine F0.ok scNet_ups (fun vs H Q E h => ?_) (fun cdv A outer s H vs Q E hr h => ?_)
  · obtain ⟨N, D, rs, fs, z, rfl, hN, hz, k⟩ := h
    rfl
  · obtain ⟨N, D, rs, fs, z, rfl, hN, hz, k⟩ := h
    have hrNet_elder_of : Room 4 _ := hr.mono (by decide)
    refine ⟨_, (pss_cons (ps_set (i := 2) scNet_ups.nd rfl (Or.inl rfl) (pe_lst (pa_cons (pv 1) pa_nil)))
        (pss_cons (ps_set (i := 3) scNet_ups.nd rfl (Or.inl rfl) (pe_meth (pv 0) KR.cl KR.melder_of GNet_elder_of hrNet_elder_of BNet_elder_of .nil pass0 (pa_cons (pv 1) pa_nil)))
        (pss_cons (ps_while PassesOwn.never (pt_cmpR op_notN (pv 3) pe_non (nomark _)) (pss_cons (ps_expr (pe_bm PySem.F.plainAttrs_list PySem.F.slot_list_append PySem.F.type_list_append mt_append (pv 2) (pa_cons (pv 3) pa_nil)))
        (pss_one (ps_set (i := 3) scNet_ups.nd rfl (Or.inl rfl) (pe_meth (pv 0) KR.cl KR.melder_of GNet_elder_of hrNet_elder_of BNet_elder_of .nil pass0 (pa_cons (pv 3) pa_nil))))))
        (pss_one (ps_ret (pv 2)))))), ?_⟩
    obtain ⟨dx, xs, h1, h2, h3, h4, h5, h6⟩ := id hN
    have wf : Wf (rv rs) := h6.wf
    refine ⟨_, rfl, (by show 1 ≤ sizeLine; decide), fun l hl => ?_⟩
    have s1 := same_new (o := .lst [V.str z]) hl
    have hl1 : upd H l (.lst [V.str z]) l = some (.lst [V.str z]) := upd_same
    generalize upd H l (.lst [V.str z]) = H1 at s1 hl1 ⊢
    obtain ⟨q, hq, _, _⟩ := rowOf_has hz
    obtain ⟨u1, u2⟩ := up_step wf hq
    refine ⟨_, rfl, N, dx, fs, rfl, s1 _ _ h1, h2.at, _, rfl, N, D, rs, fs, z, q, rfl, hN.same s1, hq, fun H2 s2 => ?_⟩
    have len6 := up_len h6 hz
    have s12 := s1.trans s2
    refine while_by (fun σ H' => ∃ (pre : List Str) (x : Option Str), σ = [some (.ref N), some (.str z), some (.ref l), some (elV x)] ∧ Same H H' ∧ H' l = some (.lst (pre.map V.str)) ∧ pre ++ (match x with | none => [] | some e => up (rv rs) e) = up (rv rs) z ∧ ∀ e, x = some e → Has (rv rs) e)
      (fun σ _ => match σ with | [_, _, _, some (.str e)] => (up (rv rs) e).length | _ => 0) ⟨[z], q.el, rfl, s12, s2 _ _ hl1, u1.symm, u2⟩ ?_ ?_
    · rintro σ H3 ⟨pre, x, rfl, s3, hl3, e3, he3⟩
      cases x with
      | none =>
        refine ⟨_, rfl, rfl, _, rfl, iteF ⟨_, rfl, k l H3 s3 hl ?_⟩⟩
        rw [hl3, ← e3]
        simp
      | some e =>
        have hh := he3 e rfl
        obtain ⟨q2, hq2, _, _⟩ := rowOf_has hh
        obtain ⟨v1, v2⟩ := up_step wf hq2
        have e4 : (pre ++ [e]) ++ (match q2.el with | none => [] | some e => up (rv rs) e) = up (rv rs) z := by
          rw [← e3]
          show _ = pre ++ up (rv rs) e
          rw [v1]
          exact List.append_assoc pre [e] _
        have lp : pre.length < 6 := by
          have := congrArg List.length e4
          rw [List.length_append, List.length_append] at this
          simp at this
          omega
        refine ⟨_, rfl, rfl, _, rfl, iteT ?_⟩
        refine ⟨_, rfl, .inl ⟨rfl, _, SqL.of hl3⟩, _, rfl, l, _, _, rfl, rfl, hl3, by rw [List.length_map]; exact Nat.lt_trans lp (by decide), ?_⟩
        have s4 : Same H (upd H3 l (.lst (pre.map V.str ++ [V.str e]))) := same_upd hl s3
        have hl4 : upd H3 l (.lst (pre.map V.str ++ [V.str e])) l = some (.lst ((pre ++ [e]).map V.str)) := by rw [upd_same, List.map_append]; rfl
        refine ⟨_, rfl, N, dx, fs, rfl, s4 _ _ h1, h2.at, _, rfl, N, D, rs, fs, e, q2, rfl, hN.same s4, hq2, fun H5 s5 => ?_⟩
        refine ⟨⟨pre ++ [e], q2.el, rfl, s4.trans s5, s5 _ _ hl4, e4, v2⟩, ?_⟩
        show (match ([some (V.ref N), some (V.str z), some (V.ref l), some (elV q2.el)] : St) with | [_, _, _, some (.str e)] => (up (rv rs) e).length | _ => 0) < (up (rv rs) e).length
        rw [v1]
        cases q2.el with
        | none => exact Nat.succ_pos _
        | some y => exact Nat.lt_succ_self _
    · rintro σ H' Z Z' mm ⟨x, e, h, b, eb, z⟩
      exact ⟨x, e, h, b, eb, mm _ _ z⟩
end k80
namespace k80
open PySem L2 LC RM
def spNet_way (r : Ar) : Sp := fun vs H Q _ => ∃ (N D : Addr) (rs : List Rw) (fs : List (Str × V)) (a b : Str), vs = [.ref N, .str a, .str b] ∧ NetR r H N D rs fs ∧ Has (rv rs) a ∧ Has (rv rs) b ∧
  ∀ (l : Addr) (A B S : List Str) (m : Str) H', Same H H' → up (rv rs) a = A ++ m :: S → up (rv rs) b = B ++ m :: S → (∀ x ∈ A, x ∉ up (rv rs) b) → (∀ x ∈ B, x ∉ up (rv rs) a) → H' l = some (.lst ((A ++ m :: B.reverse).map V.str)) → Q (.ref l) H'
theorem ok_Net_way {P : Program} {w : World} {K : PySem.W.Frag} {mg : Str → Option Value} {base : Heap} {f : Addr} {fd : FuncData} (F0 : Fun K "way" "Net.way" sNet_way f fd) (T : Txt K mg) {r : Ar} (KR : Kr K mg r) {fdNups : FuncData} (GNet_ups : FnOk P w K mg base CX0 5 r.fups fdNups PNet_ups (spNet_ups r)) (BNet_ups : Binds K fdNups PNet_ups []) :
    FnOk P w K mg base CX0 6 f fd PNet_way (spNet_way r) := by
  refine F0.ok scNet_way (fun vs H Q E h => ?_) (fun cdv A outer s H vs Q E hr h => ?_)
  · obtain ⟨N, D, rs, fs, a, b, rfl, hN, ha, hb, k⟩ := h
    rfl
  · obtain ⟨N, D, rs, fs, a, b, rfl, hN, ha, hb, k⟩ := h
    have hrNet_ups : Room 5 _ := hr.mono (by decide)
    refine ⟨_, (pss_cons (ps_set (i := 3) scNet_way.nd rfl (Or.inl rfl) (pe_meth (pv 0) KR.cl KR.mups GNet_ups hrNet_ups BNet_ups .nil pass0 (pa_cons (pv 1) pa_nil)))
        (pss_cons (ps_set (i := 4) scNet_way.nd rfl (Or.inl rfl) (pe_revL (pe_meth (pv 0) KR.cl KR.mups GNet_ups hrNet_ups BNet_ups .nil pass0 (pa_cons (pv 2) pa_nil))))
        (pss_cons (ps_while PassesOwn.never (PW.pt (pw_and (pt_cmpR op_gt (pe_callB call_len_seq (by rfl) T.n_len PySem.boot_len (pa_cons (pv 3) pa_nil)) pe_int (nomark _)) (pw_and1 (pt_cmpR op_in_seq (pe_ix ix_list (pv 3) (pe_un un_neg pe_int) (fun _ _ => rfl)) (pv 4) (by rfl))))) (pss_one (ps_set (i := 3) scNet_way.nd rfl (Or.inl rfl) (pe_slice sl_list (pv 3) po_none (po_some (pe_un un_neg pe_int))))))
        (pss_one (ps_ret (pe_op op_cat (pv 3) (pe_slice sl_list (pv 4) (po_some (pe_op op_add (pe_bm PySem.F.plainAttrs_list PySem.F.slot_list_index PySem.F.type_list_index mt_index (pv 4) (pa_cons (pe_ix ix_list (pv 3) (pe_un un_neg pe_int) (fun _ _ => rfl)) pa_nil)) pe_int)) po_none))))))), ?_⟩
    obtain ⟨dx, xs, h1, h2, h3, h4, h5, h6⟩ := id hN
    have wf : Wf (rv rs) := h6.wf
    refine ⟨_, rfl, N, dx, fs, rfl, h1, h2.at, _, rfl, N, D, rs, fs, a, rfl, hN, ha, fun u H1 s1 n1 hu => ?_⟩
    refine ⟨_, rfl, N, dx, fs, rfl, s1 _ _ h1, h2.at, _, rfl, N, D, rs, fs, b, rfl, hN.same s1, hb, fun u2 H2 s2 n2 hu2 => ?_⟩
    refine ⟨_, _, rfl, SqL.of hu2, fun d hd => ?_⟩
    obtain ⟨A, B, m, S, e1, e2, hA, hB⟩ := meet wf ha hb
    have a6 := up_len h6 ha
    have b6 := up_len h6 hb
    have sz : 20 ≤ sizeLine := by decide
    have la : A.length + S.length + 1 ≤ 6 := by rw [e1] at a6; simp at a6; omega
    have lb : B.length + S.length + 1 ≤ 6 := by rw [e2] at b6; simp at b6; omega
    have nd := up_nodup wf hb
    have s3 := same_new (o := .lst ((up (rv rs) b).map V.str).reverse) hd
    have hd3 : upd H2 d (.lst ((up (rv rs) b).map V.str).reverse) d = some (.lst ((S.reverse ++ m :: B.reverse).map V.str)) := by rw [upd_same, e2]; simp
    have hu3 : upd H2 d (.lst ((up (rv rs) b).map V.str).reverse) u = some (.lst ((A ++ m :: S).map V.str)) := by rw [← e1]; exact s3 _ _ (s2 _ _ hu)
    have s03 : Same H (upd H2 d (.lst ((up (rv rs) b).map V.str).reverse)) := s1.trans (s2.trans s3)
    generalize upd H2 d (.lst ((up (rv rs) b).map V.str).reverse) = H3 at s03 hd3 hu3 ⊢
    have mem : ∀ x : Str, inV (.str x) ((S.reverse ++ m :: B.reverse).map V.str) = decide (x ∈ up (rv rs) b) := fun x => by
      rw [inV_str]
      have : (x ∈ S.reverse ++ m :: B.reverse) ↔ x ∈ up (rv rs) b := by rw [e2]; simp; constructor <;> (rintro (h | h | h) <;> simp [h])
      by_cases hx : x ∈ up (rv rs) b
      · rw [decide_eq_true hx, decide_eq_true (this.mpr hx)]
      · rw [decide_eq_false hx, decide_eq_false (fun z => hx (this.mp z))]
    refine while_by (fun σ H' => ∃ (v : Addr) (T T' : List Str), σ = [some (.ref N), some (.str a), some (.str b), some (.ref v), some (.ref d)] ∧ Same H3 H' ∧ S = T ++ T' ∧ H' v = some (.lst ((A ++ m :: T).map V.str)))
      (fun σ H' => match σ with | [_, _, _, some (.ref v), _] => (match H' v with | some (.lst l) => l.length | _ => 0) | _ => 0) ⟨u, S, [], rfl, Same.refl _, (List.append_nil S).symm, hu3⟩ ?_ ?_
    · rintro σ H4 ⟨v, T, T', rfl, s4, hS, hv⟩
      have hd4 := s4 _ _ hd3
      refine ⟨_, rfl, _, _, rfl, .inl (SqL.of hv), _, _, rfl, rfl, _, rfl, ?_⟩
      rcases List.eq_nil_or_concat T with hT | ⟨T0, y, hT⟩
      · subst hT
        have hlast : atI ((A ++ [m]).map V.str) (-1) = some (.str m) := by rw [List.map_append]; exact atI_last _ _
        have hat : ((S.reverse ++ m :: B.reverse).map V.str)[S.length]? = some (.str m) := by
          rw [List.getElem?_map, List.getElem?_append_right (by rw [List.length_reverse]; exact Nat.le_refl _)]
          simp
        have heq : eqV (.str m) (.str m) = true := by show (m == m) = true; simp
        have hno : ∀ (i : Nat) (z : V), i < S.length → ((S.reverse ++ m :: B.reverse).map V.str)[i]? = some z → eqV z (.str m) = false := fun i z hi hz => by
          rw [List.getElem?_map, List.getElem?_append_left (by rw [List.length_reverse]; exact hi)] at hz
          cases q : S.reverse[i]? with
          | none => rw [q] at hz; cases hz
          | some x =>
            rw [q] at hz
            cases hz
            have hx : x ∈ S := List.mem_reverse.mp (List.mem_of_getElem? q)
            rw [e2] at nd
            have ne : x ≠ m := fun z => (List.nodup_cons.mp (List.nodup_append.mp nd).2.1).1 (z ▸ hx)
            show (x == m) = false
            simp [ne]
        have hcut : cutV ((S.reverse ++ m :: B.reverse).map V.str) (some ((S.length : Int) + 1)) none = B.reverse.map V.str := by
          have := cut_from S.reverse B.reverse m
          rwa [List.length_reverse] at this
        by_cases hc : A = []
        · rw [decide_eq_false (show ¬ (1 : Int) < (((A ++ m :: ([] : List Str)).map V.str).length : Int) by rw [hc]; simp)]
          refine iteF (iteF ?_)
          refine ⟨_, rfl, _, rfl, _, rfl, .inl ⟨rfl, _, SqL.of hd4⟩, _, rfl, _, rfl, _, _, _, _, rfl, rfl, SqL.of hv, hlast, ?_⟩
          refine ⟨d, _, .str m, S.length, .str m, rfl, rfl, SqL.of hd4, rfl, flat_strs _, hat, heq, hno, ?_⟩
          refine ⟨_, _, rfl, rfl, _, rfl, d, _, rfl, SqL.of hd4, fun p hp => ?_⟩
          have s5 := same_new (o := .lst (cutV ((S.reverse ++ m :: B.reverse).map V.str) (some ((S.length : Int) + 1)) none)) hp
          have hp5 : upd H4 p (.lst (cutV ((S.reverse ++ m :: B.reverse).map V.str) (some ((S.length : Int) + 1)) none)) p = some (.lst (B.reverse.map V.str)) := by rw [upd_same, hcut]
          refine ⟨_, _, _, _, rfl, rfl, s5 _ _ hv, hp5, by rw [List.length_map, List.length_map, List.length_append, List.length_reverse]; show A.length + 1 + B.length ≤ sizeLine; omega, fun w hw => ?_⟩
          refine k w A B S m _ (s03.trans (s4.trans (s5.trans (same_new hw)))) e1 e2 hA hB ?_
          rw [upd_same, ← List.map_append]
          simp
        · obtain ⟨A0, z, hA0⟩ : ∃ A0 z, A = A0 ++ [z] := ⟨A.dropLast, A.getLast hc, (List.dropLast_concat_getLast hc).symm⟩
          rw [decide_eq_true (show (1 : Int) < (((A ++ m :: ([] : List Str)).map V.str).length : Int) by rw [hA0]; simp; omega)]
          have h2 : atI ((A ++ m :: ([] : List Str)).map V.str) (-2) = some (.str z) := by rw [hA0, List.append_assoc]; exact atI_2 A0 z m
          refine iteT ⟨_, rfl, _, rfl, _, _, _, _, rfl, rfl, SqL.of hv, h2, _, rfl, d, _, rfl, .inl (SqL.of hd4), rfl, flat_strs _, _, rfl, ?_⟩
          rw [mem, decide_eq_false (hA z (by rw [hA0]; simp))]
          refine iteF ?_
          refine ⟨_, rfl, _, rfl, _, rfl, .inl ⟨rfl, _, SqL.of hd4⟩, _, rfl, _, rfl, _, _, _, _, rfl, rfl, SqL.of hv, hlast, ?_⟩
          refine ⟨d, _, .str m, S.length, .str m, rfl, rfl, SqL.of hd4, rfl, flat_strs _, hat, heq, hno, ?_⟩
          refine ⟨_, _, rfl, rfl, _, rfl, d, _, rfl, SqL.of hd4, fun p hp => ?_⟩
          have s5 := same_new (o := .lst (cutV ((S.reverse ++ m :: B.reverse).map V.str) (some ((S.length : Int) + 1)) none)) hp
          have hp5 : upd H4 p (.lst (cutV ((S.reverse ++ m :: B.reverse).map V.str) (some ((S.length : Int) + 1)) none)) p = some (.lst (B.reverse.map V.str)) := by rw [upd_same, hcut]
          refine ⟨_, _, _, _, rfl, rfl, s5 _ _ hv, hp5, by rw [List.length_map, List.length_map, List.length_append, List.length_reverse]; show A.length + 1 + B.length ≤ sizeLine; omega, fun w hw => ?_⟩
          refine k w A B S m _ (s03.trans (s4.trans (s5.trans (same_new hw)))) e1 e2 hA hB ?_
          rw [upd_same, ← List.map_append]
          simp
      · rw [List.concat_eq_append] at hT
        subst hT
        obtain ⟨X, z, hX⟩ : ∃ X z, m :: T0 = X ++ [z] := ⟨(m :: T0).dropLast, (m :: T0).getLast (List.cons_ne_nil _ _), (List.dropLast_concat_getLast _).symm⟩
        have hL : A ++ m :: (T0 ++ [y]) = (A ++ X) ++ [z, y] := by
          rw [show m :: (T0 ++ [y]) = (m :: T0) ++ [y] from rfl, hX]
          simp
        have hL2 : A ++ m :: (T0 ++ [y]) = (A ++ m :: T0) ++ [y] := by simp
        have zb : z ∈ up (rv rs) b := by
          rw [e2, hS]
          have : z ∈ m :: T0 := by rw [hX]; simp
          rcases List.mem_cons.mp this with h | h
          · rw [h]; simp
          · simp [h]
        rw [decide_eq_true (show (1 : Int) < (((A ++ m :: (T0 ++ [y])).map V.str).length : Int) by simp; omega)]
        refine iteT ⟨_, rfl, _, rfl, _, _, _, _, rfl, rfl, SqL.of hv, by rw [hL]; exact atI_2 _ _ _, _, rfl, d, _, rfl, .inl (SqL.of hd4), rfl, flat_strs _, _, rfl, ?_⟩
        rw [mem, decide_eq_true zb]
        refine iteT ⟨_, rfl, _, rfl, _, rfl, v, _, rfl, SqL.of hv, fun p hp => ?_⟩
        have s5 := same_new (o := .lst (cutV ((A ++ m :: (T0 ++ [y])).map V.str) none (some (-1)))) hp
        have hp5 : upd H4 p (.lst (cutV ((A ++ m :: (T0 ++ [y])).map V.str) none (some (-1)))) p = some (.lst ((A ++ m :: T0).map V.str)) := by rw [upd_same, hL2, cut_init]
        refine ⟨⟨p, T0, y :: T', rfl, s4.trans s5, by rw [hS]; simp, hp5⟩, ?_⟩
        show (match upd H4 p (.lst (cutV ((A ++ m :: (T0 ++ [y])).map V.str) none (some (-1)))) p with | some (.lst l) => l.length | _ => 0) < (match H4 v with | some (.lst l) => l.length | _ => 0)
        rw [hp5, hv]
        show ((A ++ m :: T0).map V.str).length < ((A ++ m :: (T0 ++ [y])).map V.str).length
        simp
    · rintro σ H' Z Z' mm h
      obtain ⟨x, ex, p, ys, exs, hs, i, j, hi, hj, b, eb, rest⟩ := h
      refine ⟨x, ex, p, ys, exs, hs, i, j, hi, hj, b, eb, ?_⟩
      cases b with
      | false => exact mm false H' rest
      | true =>
        obtain ⟨a1, b1, a2, b2, c1, c2, c3, c4, c5, c6, c7, c8, d1, d2, q1, q2, q3, q4, q5, q6, b3, b4, z⟩ := rest
        exact ⟨a1, b1, a2, b2, c1, c2, c3, c4, c5, c6, c7, c8, d1, d2, q1, q2, q3, q4, q5, q6, b3, b4, mm _ _ z⟩
end k80
namespace k80
open PySem L2 LC RM
def spNet_pair (r : Ar) : Sp := fun vs H Q _ => ∃ (N D : Addr) (rs : List Rw) (fs : List (Str × V)) (a b : Str), vs = [.ref N, .str a, .str b] ∧ NetR r H N D rs fs ∧ Has (rv rs) a ∧ Has (rv rs) b ∧ ∀ (T : Addr) H', Same H H' → H' T = some (.tup [.str a, .str b]) → Q (.ref T) H'
theorem ok_Net_pair {P : Program} {w : World} {K : PySem.W.Frag} {mg : Str → Option Value} {base : Heap} {f : Addr} {fd : FuncData} (F0 : Fun K "pair" "Net.pair" sNet_pair f fd) (T : Txt K mg) {r : Ar} (KR : Kr K mg r) {flook_up : Addr} {fdlook_up : FuncData} (Dlook_up : Def K mg "look_up" slook_up Plook_up flook_up fdlook_up) (Glook_up : FnOk P w K mg base CX0 3 flook_up fdlook_up Plook_up (splook_up)) :
    FnOk P w K mg base CX0 4 f fd PNet_pair (spNet_pair r) := by
  refine F0.ok scNet_pair (fun vs H Q E h => ?_) (fun cdv A outer s H vs Q E hr h => ?_)
  · obtain ⟨N, D, rs, fs, a, b, rfl, ⟨dx, xs, h1, h2, h3, h4, h5, h6⟩, ha, hb, k⟩ := h
    rfl
  · obtain ⟨N, D, rs, fs, a, b, rfl, ⟨dx, xs, h1, h2, h3, h4, h5, h6⟩, ha, hb, k⟩ := h
    have hrlook_up : Room 3 _ := hr.mono (by decide)
    refine ⟨_, (pss_cons (ps_expr (pe_call Glook_up hrlook_up rfl Dlook_up.g Dlook_up.F.kp Dlook_up.b .nil pass0 (pa_cons (pe_fld (pv 0) rfl) (pa_cons (pv 1) pa_nil))))
        (pss_cons (ps_expr (pe_call Glook_up hrlook_up rfl Dlook_up.g Dlook_up.F.kp Dlook_up.b .nil pass0 (pa_cons (pe_fld (pv 0) rfl) (pa_cons (pv 2) pa_nil))))
        (pss_one (ps_ret (pe_tup (pa_cons (pv 1) (pa_cons (pv 2) pa_nil))))))), ?_⟩
    obtain ⟨q, hq, hqm, en⟩ := rowOf_has ha
    obtain ⟨q2, hq2, hqm2, en2⟩ := rowOf_has hb
    rw [rowOf_rev h6.wf] at hq hq2
    obtain ⟨x, hx, _⟩ := kvs_some h5 hq
    obtain ⟨x2, hx2, _⟩ := kvs_some h5 hq2
    refine ⟨_, rfl, _, _, _, _, _, rfl, h1, KR.cl, KR.nR, h3, _, rfl, a, D, _, _, rfl, h4, en ▸ h6.nms q (List.mem_reverse.mp hqm), hx, fun H1 s1 => ?_⟩
    refine ⟨_, rfl, _, _, _, _, _, rfl, s1 _ _ h1, KR.cl, KR.nR, h3, _, rfl, b, D, _, _, rfl, Rd.same s1 h4, en2 ▸ h6.nms q2 (List.mem_reverse.mp hqm2), hx2, fun H2 s2 => ?_⟩
    exact ⟨_, rfl, _, rfl, (by show 2 ≤ sizeLine; decide), fun T hT => k T _ (s1.trans (s2.trans (same_new hT))) upd_same⟩
end k80
namespace k80
open PySem L2 LC RM
def spNet_kappa (r : Ar) : Sp := fun vs H Q _ => ∃ (N D Dk : Addr) (rs : List Rw) (fs : List (Str × V)) (kk : List (List Key × V)) (a b : Str), vs = [.ref N, .str a, .str b] ∧ NetR r H N D rs fs ∧ fs.lookup ("_kappas" : Str) = some (.ref Dk) ∧ H Dk = some (.dT kk) ∧ KapOk H rs kk ∧ Has (rv rs) a ∧ Has (rv rs) b ∧ ∀ H', Same H H' → Q (.int (kap (rv rs) a b)) H'
theorem ok_Net_kappa {P : Program} {w : World} {K : PySem.W.Frag} {mg : Str → Option Value} {base : Heap} {f : Addr} {fd : FuncData} (F0 : Fun K "kappa" "Net.kappa" sNet_kappa f fd) (T : Txt K mg) {r : Ar} (KR : Kr K mg r) {fdNpair : FuncData} (GNet_pair : FnOk P w K mg base CX0 4 r.fpair fdNpair PNet_pair (spNet_pair r)) (BNet_pair : Binds K fdNpair PNet_pair []) :
    FnOk P w K mg base CX0 5 f fd PNet_kappa (spNet_kappa r) := by
  refine F0.ok scNet_kappa (fun vs H Q E h => ?_) (fun cdv A outer s H vs Q E hr h => ?_)
  · obtain ⟨N, D, Dk, rs, fs, kk, a, b, rfl, hN, hk, hD, ok, ha, hb, k⟩ := h
    rfl
  · obtain ⟨N, D, Dk, rs, fs, kk, a, b, rfl, hN, hk, hD, ok, ha, hb, k⟩ := h
    have hrNet_pair : Room 4 _ := hr.mono (by decide)
    refine ⟨_, (pss_one (ps_ret (pe_ix ix_tup (pe_dget (hu_of hr) (pe_fld (pv 0) rfl) (pe_meth (pv 0) KR.cl KR.mpair GNet_pair hrNet_pair BNet_pair .nil pass0 (pa_cons (pv 1) (pa_cons (pv 2) pa_nil))) (fun _ _ => rfl)) pe_int (fun _ _ => rfl)))), ?_⟩
    obtain ⟨dx, xs, h1, h2, h3, h4, h5, h6⟩ := id hN
    obtain ⟨T, q, e1, e2⟩ := ok a b ha hb
    refine ⟨_, rfl, _, _, _, _, _, rfl, h1, KR.cl, KR.nk, hk, ?_⟩
    refine ⟨_, rfl, N, dx, fs, rfl, h1, h2.at, _, rfl, _, rfl, N, D, rs, fs, a, b, rfl, hN, ha, hb, fun t H1 s1 ht => ?_⟩
    refine ⟨Dk, .ref T, rfl, ?_, ?_⟩
    · rw [← e1]
      exact DGet.t (k := [kS a, kS b]) (s1 _ _ hD) ht
    exact ⟨_, _, _, _, rfl, rfl, SqT.of (s1 _ _ e2), rfl, k H1 s1⟩
end k80
namespace k80
open PySem L2 LC RM
def spNet_delays_between (r : Ar) : Sp := fun vs H Q _ => ∃ (N D : Addr) (rs : List Rw) (fs : List (Str × V)) (a b : Str), vs = [.ref N, .str a, .str b] ∧ NetR r H N D rs fs ∧ Has (rv rs) a ∧ Has (rv rs) b ∧ ∀ H', Same H H' → Q (.int (far (rv rs) a b)) H'
theorem ok_Net_delays_between {P : Program} {w : World} {K : PySem.W.Frag} {mg : Str → Option Value} {base : Heap} {f : Addr} {fd : FuncData} (F0 : Fun K "delays_between" "Net.delays_between" sNet_delays_between f fd) (T : Txt K mg) {r : Ar} (KR : Kr K mg r) {fdNway : FuncData} (GNet_way : FnOk P w K mg base CX0 6 r.fway fdNway PNet_way (spNet_way r)) (BNet_way : Binds K fdNway PNet_way []) {fdNdelay_of : FuncData} (GNet_delay_of : FnOk P w K mg base CX0 4 r.fdelay_of fdNdelay_of PNet_delay_of (spNet_delay_of r)) (BNet_delay_of : Binds K fdNdelay_of PNet_delay_of []) {fdNelder_of : FuncData} (GNet_elder_of : FnOk P w K mg base CX0 4 r.felder_of fdNelder_of PNet_elder_of (spNet_elder_of r)) (BNet_elder_of : Binds K fdNelder_of PNet_elder_of []) :
    FnOk P w K mg base CX0 7 f fd PNet_delays_between (spNet_delays_between r) := by
  refine F0.ok scNet_delays_between (fun vs H Q E h => ?_) (fun cdv A outer s H vs Q E hr h => ?_)
  · obtain ⟨N, D, rs, fs, a, b, rfl, hN, ha, hb, k⟩ := h
    rfl
  · obtain ⟨N, D, rs, fs, a, b, rfl, hN, ha, hb, k⟩ := h
    have hrNet_way : Room 6 _ := hr.mono (by decide)
    have hrNet_delay_of : Room 4 _ := hr.mono (by decide)
    have hrNet_elder_of : Room 4 _ := hr.mono (by decide)
    refine ⟨_, (pss_cons (ps_set (i := 3) scNet_delays_between.nd rfl (Or.inr rfl) (pe_meth (pv 0) KR.cl KR.mway GNet_way hrNet_way BNet_way .nil pass0 (pa_cons (pv 1) (pa_cons (pv 2) pa_nil))))
        (pss_one (ps_ret (pe_callB (cr_sum rfl) (by rfl) T.n_sum (by decide +kernel) (pa_cons (pe_lc (own := [("place", 4)]) (g := gName 4) rfl scNet_delays_between.nd (pi_list (pv 3)) (blkOk_by (own := [("place", 4)]) (N := NmNet_delays_between) (sc := defScope sNet_delays_between) (by decide +kernel)) (fun _ _ _ _ _ => pg_name (i := 4) scNet_delays_between.nd rfl (Or.inl rfl)) (fun _ _ _ _ _ => pts_one (pt_cmpR (show OpR _ (compareOp .In) (rIn K false) from op_in_seq) (pe_meth (pv 0) KR.cl KR.melder_of GNet_elder_of hrNet_elder_of BNet_elder_of .nil pass0 (pa_cons (pv 4) pa_nil)) (pv 3) (by rfl))) (fun _ _ _ _ _ => (pe_meth (pv 0) KR.cl KR.mdelay_of GNet_delay_of hrNet_delay_of BNet_delay_of .nil pass0 (pa_cons (pv 4) pa_nil)))) pa_nil))))), ?_⟩
    obtain ⟨dx, xs, h1, h2, h3, h4, h5, h6⟩ := id hN
    have wf : Wf (rv rs) := h6.wf
    refine ⟨_, rfl, N, dx, fs, rfl, h1, h2.at, _, rfl, _, rfl, N, D, rs, fs, a, b, rfl, hN, ha, hb, fun l AA B S m H1 s1 e1 e2 hA hB hl => ?_⟩
    have hall : ∀ x ∈ AA ++ m :: B.reverse, Has (rv rs) x := fun x hx => by
      rcases List.mem_append.mp hx with h | h
      · exact up_mem ha wf x (by rw [e1]; simp [h])
      · rcases List.mem_cons.mp h with h | h
        · exact up_mem ha wf x (by rw [e1, h]; simp)
        · exact up_mem hb wf x (by rw [e2]; simp [List.mem_reverse.mp h])
    have fin := way_sum wf ha hb e1 e2 hA hB
    have a6 := up_len h6 ha
    have b6 := up_len h6 hb
    rw [e1] at a6
    rw [e2] at b6
    have wl : (AA ++ m :: B.reverse).length ≤ 12 := by
      simp at a6 b6 ⊢
      omega
    generalize AA ++ m :: B.reverse = W at hl hall fin wl
    have sz : 20 ≤ sizeLine := by decide
    refine ⟨_, rfl, l, rfl, ⟨_, SqL.of hl⟩, fun d hd => ?_⟩
    refine lc_list (K := K) (a := l) (xs := W.map V.str) (fun i H' => Same H1 H' ∧ H' d = some (.lst ((((W.take i).filter (elIn (rv rs) W)).map (deOf (rv rs))).map V.int))) ⟨same_new hd, upd_same⟩ (fun i H' _ ⟨s, _⟩ => SqL.of (s _ _ hl)) ?_ ?_
    · rintro i y H2 hi ⟨s2, hd2⟩
      obtain ⟨x, hx, rfl⟩ : ∃ x, W[i]? = some x ∧ V.str x = y := by
        rw [List.getElem?_map] at hi
        cases e : W[i]? with
        | none => rw [e] at hi; cases hi
        | some x => rw [e] at hi; exact ⟨x, rfl, Option.some.inj hi⟩
      have hi2 : i < W.length := (List.getElem?_eq_some_iff.mp hx).1
      have hx1 := hall x (List.mem_of_getElem? hx)
      obtain ⟨q, hq, _, _⟩ := rowOf_has hx1
      have s12 := s1.trans s2
      rw [take_snoc hx, List.filter_append]
      refine ⟨rfl, _, rfl, N, dx, fs, rfl, s12 _ _ h1, h2.at, _, rfl, N, D, rs, fs, x, q, rfl, hN.same s12, hq, fun H3 s3 => ?_⟩
      have s03 := s12.trans s3
      have eq : elOf (rv rs) x = q.el := by unfold elOf; rw [hq]; rfl
      have fe : flatV (elV q.el) = true := by cases q.el <;> rfl
      refine ⟨_, rfl, l, _, rfl, .inl (SqL.of (s3 _ _ (s2 _ _ hl))), fe, flat_strs _, _, rfl, ?_⟩
      rw [← eq]
      show if inV (elV (elOf (rv rs) x)) (W.map V.str) = true then _ else _
      rw [inV_el]
      have hd3 := s3 _ _ hd2
      by_cases hp : elIn (rv rs) W x = false
      · rw [show [x].filter (elIn (rv rs) W) = [] by simp [hp], List.append_nil, hp]
        exact iteF ⟨s2.trans s3, hd3⟩
      · have hp : elIn (rv rs) W x = true := by simpa using hp
        rw [show [x].filter (elIn (rv rs) W) = [x] by simp [hp], hp]
        refine iteT ⟨_, rfl, N, dx, fs, rfl, s03 _ _ h1, h2.at, _, rfl, N, D, rs, fs, x, rfl, hN.same s03, hx1, fun H4 s4 => ⟨_, s4 _ _ hd3, ?_, ?_, ?_⟩⟩
        · rw [List.length_map, List.length_map]
          have := List.length_filter_le (elIn (rv rs) W) (W.take i)
          rw [List.length_take] at this
          omega
        · exact fun b o e => by
            rw [upd_ne (ne_of_none e hd)]
            exact s4 _ _ (s3 _ _ (s2 _ _ e))
        · rw [upd_same, List.map_append, List.map_append]
          rfl
    rintro H2 ⟨s2, hd2⟩
    rw [List.length_map, List.take_length] at hd2
    refine ⟨d, _, rfl, SqL.of hd2, ?_⟩
    rw [sum_eq, fin]
    exact k H2 (s1.trans s2)
end k80
namespace k80
open PySem L2 LC RM
def spNet_least_kappa (r : Ar) : Sp := fun vs H Q _ => ∃ (N D Dd : Addr) (rs : List Rw) (fs : List (Str × V)) (kd : List (List Key × V)) (a b : Str), vs = [.ref N, .str a, .str b] ∧ NetR r H N D rs fs ∧ fs.lookup ("_dists" : Str) = some (.ref Dd) ∧ H Dd = some (.dT kd) ∧ DistOk rs kd ∧ Has (rv rs) a ∧ Has (rv rs) b ∧ ∀ (T : Addr) (s : Str) H', Same H H' → H' T = some (.tup [.int (kap (rv rs) a b), .str s]) → Q (.ref T) H'
theorem ok_Net_least_kappa {P : Program} {w : World} {K : PySem.W.Frag} {mg : Str → Option Value} {base : Heap} {f : Addr} {fd : FuncData} (F0 : Fun K "least_kappa" "Net.least_kappa" sNet_least_kappa f fd) (T : Txt K mg) {r : Ar} (KR : Kr K mg r) {fdNups : FuncData} (GNet_ups : FnOk P w K mg base CX0 5 r.fups fdNups PNet_ups (spNet_ups r)) (BNet_ups : Binds K fdNups PNet_ups []) {fdNerror_of : FuncData} (GNet_error_of : FnOk P w K mg base CX0 4 r.ferror_of fdNerror_of PNet_error_of (spNet_error_of r)) (BNet_error_of : Binds K fdNerror_of PNet_error_of []) :
    FnOk P w K mg base CX0 6 f fd PNet_least_kappa (spNet_least_kappa r) := by
  refine F0.ok scNet_least_kappa (fun vs H Q E h => ?_) (fun cdv A outer s H vs Q E hr h => ?_)
  · obtain ⟨N, D, Dd, rs, fs, kd, a, b, rfl, hN, hk, hD, ok, ha, hb, k⟩ := h
    rfl
  · obtain ⟨N, D, Dd, rs, fs, kd, a, b, rfl, hN, hk, hD, ok, ha, hb, k⟩ := h
    have hrNet_ups : Room 5 _ := hr.mono (by decide)
    have hrNet_error_of : Room 4 _ := hr.mono (by decide)
    refine ⟨_, (pss_cons (ps_set (i := 3) scNet_least_kappa.nd rfl (Or.inl rfl) pe_non)
        (pss_cons (ps_for PassesOwn.never rfl (pi_list (pe_meth (pv 0) KR.cl KR.mups GNet_ups hrNet_ups BNet_ups .nil pass0 (pa_cons (pv 1) pa_nil))) (pg_name (i := 4) scNet_least_kappa.nd rfl (Or.inl rfl))
          (Evl.pss_cut (ps_set (i := 5) scNet_least_kappa.nd rfl (Or.inl rfl) (pe_ifExp (pt_cmpR op_eq (pv 4) (pv 2) (nomark _)) (pe_un un_neg pe_int) (pe_op op_add (pe_op op_mul pe_int (pe_meth (pv 0) KR.cl KR.merror_of GNet_error_of hrNet_error_of BNet_error_of .nil pass0 (pa_cons (pv 4) pa_nil))) (pe_dget (hu_of hr) (pe_fld (pv 0) rfl) (pe_tup (pa_cons (pv 4) (pa_cons (pv 2) pa_nil))) (fun _ _ => rfl)))))
        (pss_one (ps_if (PW.pt (pw_or (pt_cmpR op_isN (pv 3) pe_non (nomark _)) (pw_or1 (pt_cmpR op_lt (pv 5) (pe_ix ix_tup (pv 3) pe_int (fun _ _ => rfl)) (nomark _))))) (pss_one (ps_set (i := 3) scNet_least_kappa.nd rfl (Or.inl rfl) (pe_tup (pa_cons (pv 5) (pa_cons (pv 4) pa_nil))))) pss_nil))))
        (pss_one (ps_ret (pv 3))))), ?_⟩
    obtain ⟨dx, xs, h1, h2, h3, h4, h5, h6⟩ := id hN
    have wf : Wf (rv rs) := h6.wf
    refine ⟨_, rfl, N, dx, fs, rfl, h1, h2.at, _, rfl, N, D, rs, fs, a, rfl, hN, ha, fun l H1 s1 n1 hl1 => ?_⟩
    have hall : ∀ x ∈ up (rv rs) a, Has (rv rs) x := fun x hx => up_mem ha wf x hx
    obtain ⟨q0, hbest⟩ := best_some (rv rs) a b
    unfold best at hbest
    generalize up (rv rs) a = A at hl1 hall hbest
    refine ⟨l, rfl, ⟨_, SqL.of hl1⟩, for_list (K := K) (a := l) (xs := A.map V.str) (fun i σ H' => ∃ (bv : V) (v4 v5 : Option V), σ = [some (.ref N), some (.str a), some (.str b), some bv, v4, v5] ∧ Same H1 H' ∧ (match (A.take i).foldl (bstep (rv rs) b) none with | none => bv = .non | some t => ∃ T, bv = .ref T ∧ H' T = some (.tup [.int t.1, .str t.2])))
      ⟨.non, none, none, rfl, Same.refl _, rfl⟩ (fun i σ H' _ ⟨_, _, _, _, s, _⟩ => SqL.of (s _ _ hl1)) ?_ ?_⟩
    · rintro i y σ H2 hi ⟨bv, v4, v5, rfl, s2, hbv⟩
      obtain ⟨x, hx, rfl⟩ : ∃ x, A[i]? = some x ∧ V.str x = y := by
        rw [List.getElem?_map] at hi
        cases e : A[i]? with
        | none => rw [e] at hi; cases hi
        | some x => rw [e] at hi; exact ⟨x, rfl, Option.some.inj hi⟩
      have hxr := hall x (List.mem_of_getElem? hx)
      refine ⟨fun σ H' => Same H2 H' ∧ σ = [some (.ref N), some (.str a), some (.str b), some bv, some (.str x), some (.int (val (rv rs) b x))], ?_, ?_⟩
      · refine ⟨_, rfl, _, rfl, rfl, _, rfl, ?_⟩
        by_cases e1 : x = b
        · rw [decide_eq_true (show V.str x = V.str b by rw [e1])]
          refine iteT ⟨_, rfl, Same.refl _, ?_⟩
          have : val (rv rs) b x = -1 := by unfold val; rw [if_pos e1]
          rw [this]
          rfl
        · rw [decide_eq_false (show ¬ V.str x = V.str b from fun h => e1 (V.str.inj h))]
          have s02 := s1.trans s2
          have ev : val (rv rs) b x = 2 * erOf (rv rs) x + far (rv rs) x b := by unfold val; rw [if_neg e1]
          refine iteF ⟨_, rfl, N, dx, fs, rfl, s02 _ _ h1, h2.at, _, rfl, N, D, rs, fs, x, rfl, hN.same s02, hxr, fun H3 s3 => ?_⟩
          have s03 := s02.trans s3
          refine ⟨_, _, rfl, rfl, .inl ⟨by decide, by decide⟩, _, rfl, _, _, _, _, _, rfl, s03 _ _ h1, KR.cl, KR.nd, hk, _, rfl, _, rfl, (by show 2 ≤ sizeLine; decide), fun t ht => ?_⟩
          refine ⟨Dd, .int (far (rv rs) x b), rfl, ?_, _, _, rfl, rfl, s3.trans (same_new ht), ?_⟩
          · rw [← ok x b hxr hb]
            refine DGet.t (k := [kS x, kS b]) ?_ upd_same
            rw [upd_ne (ne_of_none (s03 _ _ hD) ht)]
            exact s03 _ _ hD
          · rw [ev]
            rfl
      rintro σ H3 ⟨s3, rfl⟩
      have s23 := s2.trans s3
      rw [take_snoc hx, List.foldl_append]
      have new : ∀ T, H3 T = none → ∃ (bv : V) (v4 v5 : Option V), [some (.ref N), some (.str a), some (.str b), some (.ref T), some (.str x), some (.int (val (rv rs) b x))] = [some (.ref N), some (.str a), some (.str b), some bv, v4, v5] ∧ Same H1 (upd H3 T (.tup [.int (val (rv rs) b x), .str x])) ∧ ∃ T', bv = .ref T' ∧ upd H3 T (.tup [.int (val (rv rs) b x), .str x]) T' = some (.tup [.int (val (rv rs) b x), .str x]) := fun T hT => ⟨.ref T, _, _, rfl, s23.trans (same_new hT), T, rfl, upd_same⟩
      cases hf : (A.take i).foldl (bstep (rv rs) b) none with
      | none =>
        rw [hf] at hbv
        replace hbv : bv = .non := hbv
        subst hbv
        exact ⟨_, rfl, rfl, _, rfl, iteT ⟨_, rfl, _, rfl, (by show 2 ≤ sizeLine; decide), new⟩⟩
      | some t =>
        rw [hf] at hbv
        obtain ⟨T, rfl, hT⟩ := hbv
        refine ⟨_, rfl, rfl, _, rfl, iteF ⟨_, rfl, _, rfl, _, _, _, _, rfl, rfl, SqT.of (s3 _ _ hT), rfl, _, _, rfl, rfl, _, rfl, ?_⟩⟩
        show if decide (val (rv rs) b x < t.1) = true then _ else _
        show _
        have hstep : bstep (rv rs) b (some t) x = if val (rv rs) b x < t.1 then some (val (rv rs) b x, x) else some t := rfl
        refine ite_d (fun e1 => ?_) (fun e1 => ?_)
        · refine ⟨_, rfl, _, rfl, (by show 2 ≤ sizeLine; decide), fun T' hT' => ?_⟩
          obtain ⟨bv, v4, v5, h1, h2, h3⟩ := new T' hT'
          refine ⟨bv, v4, v5, h1, h2, ?_⟩
          show match bstep (rv rs) b (some t) x with | none => _ | some t => _
          rw [hstep, if_pos e1]
          exact h3
        · refine ⟨.ref T, _, _, rfl, s23, ?_⟩
          show match bstep (rv rs) b (some t) x with | none => _ | some t => _
          rw [hstep, if_neg e1]
          exact ⟨T, rfl, s3 _ _ hT⟩
    rintro σ H2 ⟨bv, v4, v5, rfl, s2, hbv⟩
    rw [List.length_map, List.take_length, hbest] at hbv
    obtain ⟨T, rfl, hT⟩ := hbv
    exact ⟨_, rfl, k T q0 H2 (s1.trans s2) hT⟩
end k80
namespace k80
open PySem L2 LC RM
def spNetI (a : Ad) (r : Ar) : Sp := fun vs H Q _ => ∃ (F : Addr → Prop) (N dx x tp : Addr) (rs : List Rw) (xs : List Addr) (p : Pl), vs = [.ref N, .ref x, .ref tp] ∧ H N = some (.ins r.c dx []) ∧ RestAt a (fun b => F b ∨ b = N) H p x ∧ H tp = some (.tup (xs.map V.ref)) ∧ RowsAt H rs xs ∧ Rws rs ∧
  ∀ H', (∀ b o, b ≠ N → H b = some o → H' b = some o) → NetFull a r F H' N rs p → Q .non H'
def spNet_init (a : Ad) (r : Ar) : Sp := fun vs H Q E => ∃ v x y rest, vs = v :: x :: y :: rest ∧ (y :: rest).length ≤ sizeLine ∧ ∀ p, H p = none → spNetI a r [x, v, V.ref p] (upd H p (.tup (y :: rest))) Q E
theorem ok_Net_init {P : Program} {w : World} {K : PySem.W.Frag} {mg : Str → Option Value} {base : Heap} {f : Addr} {fd : FuncData} (F0 : Fun K "__init__" "Net.__init__" sNet_init f fd) (T : Txt K mg) {a : Ad} (KN : Kn K mg a) {r : Ar} (KR : Kr K mg r) {fdNdelays_between : FuncData} (GNet_delays_between : FnOk P w K mg base CX0 7 r.fdelays_between fdNdelays_between PNet_delays_between (spNet_delays_between r)) (BNet_delays_between : Binds K fdNdelays_between PNet_delays_between []) {fdNleast_kappa : FuncData} (GNet_least_kappa : FnOk P w K mg base CX0 6 r.fleast_kappa fdNleast_kappa PNet_least_kappa (spNet_least_kappa r)) (BNet_least_kappa : Binds K fdNleast_kappa PNet_least_kappa []) {frows_by_name : Addr} {fdrows_by_name : FuncData} (Drows_by_name : Def K mg "rows_by_name" srows_by_name Prows_by_name frows_by_name fdrows_by_name) (Grows_by_name : FnOk P w K mg base CX0 4 frows_by_name fdrows_by_name Prows_by_name sprows_by_name) :
    LN.FnRK P w K mg base CX0 8 f "rest" (spNet_init a r) := by
  obtain ⟨oc, od, kV, doc, pm, an, cdv, ct, osl, rfl, lk, hcd⟩ := F0.ex
  refine LN.fn_starK (sp := spNetI a r) lk hcd scNet_init StX.cxUp_none (fun _ _ _ _ => rfl) (fun A outer s H vs Q E hr h => ?_)
  obtain ⟨F, N, dx, x, tp, rs, xs, p, rfl, hN, hR, htp, hat, hw, k⟩ := h
  have hrrows_by_name : Room 4 _ := hr.mono (by decide)
  have hrNet_delays_between : Room 7 _ := hr.mono (by decide)
  have hrNet_least_kappa : Room 6 _ := hr.mono (by decide)
  refine ⟨_, PSs.nox (pss_cons (ps_if (pt_not (pt_val (pe_callB call_isi (by rfl) T.n_isinstance (by decide +kernel) (pa_cons (pv 1) (pa_cons (pe_glob rfl KN.gR (show RelV (.ref a.R) _ from rfl)) pa_nil))))) (pss_one LC.ps_never) pss_nil)
        (pss_cons (ps_fld (pv 0) (pv 1) rfl)
        (pss_cons (ps_fld (pv 0) (pe_call Grows_by_name hrrows_by_name rfl Drows_by_name.g Drows_by_name.F.kp Drows_by_name.b .nil pass0 (pa_cons (pv 2) pa_nil)) rfl)
        (pss_cons (ps_fld (pv 0) pe_dnewT rfl)
        (pss_cons (ps_lock (ps_for PassesOwn.never rfl (pi_keys (pe_fld (pv 0) rfl)) (pg_name (i := 3) scNet_init.nd rfl (Or.inl rfl))
          (pss_one (ps_for PassesOwn.never rfl (pi_keys (pe_fld (pv 0) rfl)) (pg_name (i := 4) scNet_init.nd rfl (Or.inl rfl))
          (pss_one (ps_dput (hu_of hr) (pe_fld (pv 0) rfl) (pe_tup (pa_cons (pv 3) (pa_cons (pv 4) pa_nil))) (pe_meth (pv 0) KR.cl KR.mdelays_between GNet_delays_between hrNet_delays_between BNet_delays_between .nil pass0 (pa_cons (pv 3) (pa_cons (pv 4) pa_nil))) (by rfl)))))))
        (pss_cons (ps_fld (pv 0) pe_dnewT rfl)
        (pss_one (ps_lock (ps_for PassesOwn.never rfl (pi_keys (pe_fld (pv 0) rfl)) (pg_name (i := 3) scNet_init.nd rfl (Or.inl rfl))
          (pss_one (ps_for PassesOwn.never rfl (pi_keys (pe_fld (pv 0) rfl)) (pg_name (i := 4) scNet_init.nd rfl (Or.inl rfl))
          (pss_one (ps_dput (hu_of hr) (pe_fld (pv 0) rfl) (pe_tup (pa_cons (pv 3) (pa_cons (pv 4) pa_nil))) (pe_meth (pv 0) KR.cl KR.mleast_kappa GNet_least_kappa hrNet_least_kappa BNet_least_kappa .nil pass0 (pa_cons (pv 3) (pa_cons (pv 4) pa_nil))) (by rfl)))))))))))))), ?_⟩
  have wl := hw.len
  have lx := hat.len
  have wf : Wf (rv rs) := hw.wf
  obtain ⟨C, dy, fy, ty, hy, rc, _, _⟩ := hR.view KN
  refine ⟨_, rfl, _, _, _, _, _, rfl, .own _, .base (.ins hy rc.cl rc.ha rc.hn rc.htk rc.hm), rc.me, _, rfl, iteF ?_⟩
  refine ⟨_, rfl, _, rfl, N, _, dx, _, rfl, hN, KR.cl, KR.nr, (by show 0 < 1000; decide), ?_⟩
  -- the rows
  have tpN : tp ≠ N := fun e => by rw [e, hN] at htp; cases htp
  have rowN : ∀ b ys, H b = some (.tup ys) → b ≠ N := fun b ys e z => by rw [z, hN] at e; cases e
  have kN : ∀ {fs : List (Str × V)} b o, b ≠ N → H b = some o → upd H N (.ins r.c dx fs) b = some o := fun b o n e => by rw [upd_ne n]; exact e
  refine ⟨_, rfl, tp, rs, xs, rfl, kN _ _ tpN htp, hat.kp fun b ys e => kN _ _ (rowN _ _ e) e, hw, fun D H1 s1 nD hD => ?_⟩
  have NR : ∀ (H' : Hp) (fs : List (Str × V)), Nf fs → fs.lookup ("_rows" : Str) = some (.ref D) → H' N = some (.ins r.c dx fs) → Rd H' D (.dK (kvs rs xs)) → (∀ b o, b ≠ N → H b = some o → H' b = some o) → NetR r H' N D rs fs := fun H' fs a b c d e => ⟨dx, xs, c, a, b, d, hat.kp fun b ys q => e _ _ (rowN _ _ q) q, hw⟩
  have ND : N ≠ D := fun e => by rw [← e, upd_same] at nD; cases nD
  have fD : H D = none := by rw [upd_ne (Ne.symm ND)] at nD; exact nD
  have hN1 : H1 N = some (.ins r.c dx (putF "rest" (.ref x) [])) := s1 _ _ upd_same
  refine ⟨_, rfl, N, _, dx, _, rfl, hN1, KR.cl, KR.nR, (by show 1 < 1000; decide), ?_⟩
  have keep2 : ∀ b o, b ≠ N → H b = some o → upd H1 N (.ins r.c dx (putF "_rows" (.ref D) (putF "rest" (.ref x) []))) b = some o := fun b o n e => by rw [upd_ne n]; exact s1 _ _ (kN _ _ n e)
  have hD2 : upd H1 N (.ins r.c dx (putF "_rows" (.ref D) (putF "rest" (.ref x) []))) D = some (.dK (kvs rs xs)) := by rw [upd_ne (Ne.symm ND)]; exact hD
  have hN2 : upd H1 N (.ins r.c dx (putF "_rows" (.ref D) (putF "rest" (.ref x) []))) N = some (.ins r.c dx (putF "_rows" (.ref D) (putF "rest" (.ref x) []))) := upd_same
  refine fun Dd hDd => ?_
  have s3 := same_new (o := .dT []) hDd
  have NDd : N ≠ Dd := ne_of_none hN2 hDd
  have DDd : D ≠ Dd := ne_of_none hD2 hDd
  have fDd : H Dd = none := by
    cases e : H Dd with
    | none => rfl
    | some o => rw [keep2 _ _ (Ne.symm NDd) e] at hDd; cases hDd
  refine ⟨_, rfl, N, _, dx, _, rfl, s3 _ _ hN2, KR.cl, KR.nd, (by show 2 < 1000; decide), ?_⟩
  have hNA : upd (upd (upd H1 N (.ins r.c dx (putF "_rows" (.ref D) (putF "rest" (.ref x) [])))) Dd (.dT [])) N (.ins r.c dx (putF "_dists" (.ref Dd) (putF "_rows" (.ref D) (putF "rest" (.ref x) [])))) N = some (.ins r.c dx (putF "_dists" (.ref Dd) (putF "_rows" (.ref D) (putF "rest" (.ref x) [])))) := upd_same
  have hDA : upd (upd (upd H1 N (.ins r.c dx (putF "_rows" (.ref D) (putF "rest" (.ref x) [])))) Dd (.dT [])) N (.ins r.c dx (putF "_dists" (.ref Dd) (putF "_rows" (.ref D) (putF "rest" (.ref x) [])))) D = some (.dK (kvs rs xs)) := by rw [upd_ne (Ne.symm ND)]; exact s3 _ _ hD2
  have hTA : upd (upd (upd H1 N (.ins r.c dx (putF "_rows" (.ref D) (putF "rest" (.ref x) [])))) Dd (.dT [])) N (.ins r.c dx (putF "_dists" (.ref Dd) (putF "_rows" (.ref D) (putF "rest" (.ref x) [])))) Dd = some (.dT []) := by rw [upd_ne (Ne.symm NDd)]; exact upd_same
  have kA : ∀ b o, b ≠ N → H b = some o → upd (upd (upd H1 N (.ins r.c dx (putF "_rows" (.ref D) (putF "rest" (.ref x) [])))) Dd (.dT [])) N (.ins r.c dx (putF "_dists" (.ref Dd) (putF "_rows" (.ref D) (putF "rest" (.ref x) [])))) b = some o := fun b o n e => by rw [upd_ne n]; exact s3 _ _ (keep2 b o n e)
  generalize upd (upd (upd H1 N (.ins r.c dx (putF "_rows" (.ref D) (putF "rest" (.ref x) [])))) Dd (.dT [])) N (.ins r.c dx (putF "_dists" (.ref Dd) (putF "_rows" (.ref D) (putF "rest" (.ref x) [])))) = HA at hNA hDA hTA kA ⊢
  have nfA : Nf (putF "_dists" (.ref Dd) (putF "_rows" (.ref D) (putF "rest" (.ref x) []))) := .put (by decide +kernel) (.put (by decide +kernel) (.put (by decide +kernel) fun m _ => rfl))
  have lrA : (putF "_dists" (V.ref Dd) (putF "_rows" (.ref D) (putF "rest" (.ref x) []))).lookup ("_rows" : Str) = some (.ref D) := by rw [lk_ne (by decide +kernel)]; exact lk_eq
  have ldA : (putF "_dists" (V.ref Dd) (putF "_rows" (.ref D) (putF "rest" (.ref x) []))).lookup ("_dists" : Str) = some (.ref Dd) := lk_eq
  have lxA : (putF "_dists" (V.ref Dd) (putF "_rows" (.ref D) (putF "rest" (.ref x) []))).lookup ("rest" : Str) = some (.ref x) := by rw [lk_ne (by decide +kernel), lk_ne (by decide +kernel)]; exact lk_eq
  have lenA : (putF "_dists" (V.ref Dd) (putF "_rows" (.ref D) (putF "rest" (.ref x) []))).length < 1000 := by show 3 < 1000; decide
  generalize putF "_dists" (V.ref Dd) (putF "_rows" (.ref D) (putF "rest" (.ref x) [])) = fsA at hNA nfA lrA ldA lxA lenA ⊢
  refine ⟨D, _, hDA, trivial, fun od => ?_⟩
  have inv0 : (upd HA D (.frz od (.dK (kvs rs xs)))) N = some (.ins r.c dx fsA) ∧ (upd HA D (.frz od (.dK (kvs rs xs)))) D = some (.frz od (.dK (kvs rs xs))) ∧ (∀ b o, b ≠ N → H b = some o → (upd HA D (.frz od (.dK (kvs rs xs)))) b = some o) := ⟨by rw [upd_ne ND]; exact hNA, upd_same, fun b o n e => by rw [upd_ne (ne_of_none e fD)]; exact kA b o n e⟩
  have invT : (upd HA D (.frz od (.dK (kvs rs xs)))) Dd = some (.dT []) := by rw [upd_ne (Ne.symm DDd)]; exact hTA
  generalize upd HA D (.frz od (.dK (kvs rs xs))) = HL at inv0 invT ⊢
  have lk1 := kvs_len hat
  refine ⟨_, rfl, _, _, _, _, _, rfl, inv0.1, KR.cl, KR.nR, lrA, D, od, rfl, .inl ⟨_, inv0.2.1, for_it (walk_keys (d := D) (o := od) (kvs := kvs rs xs)) (fun i σ H' => ∃ (v3 v4 : Option V) (kd : List (List Key × V)), σ = [some (.ref N), some (.ref x), some (.ref tp), v3, v4] ∧ (H' N = some (.ins r.c dx fsA) ∧ H' D = some (.frz od (.dK (kvs rs xs))) ∧ ∀ b o, b ≠ N → H b = some o → H' b = some o) ∧ H' Dd = some (.dT kd) ∧ kd.length ≤ i * 6 ∧ DistP rs kd i 0)
    ⟨none, none, [], rfl, inv0, invT, Nat.le_refl _, fun p q _ _ _ _ z => by omega⟩ (fun i σ H' _ ⟨_, _, _, _, h, _⟩ => h.2.1) ?_ ?_⟩⟩
  · rintro i y σ H2 H3 hi ⟨v3, v4, kd, rfl, I2, hT2, len2, dp2⟩ ⟨rfl, key, vv, hkey, rfl⟩
    obtain ⟨qi, hqi, rfl⟩ := kvs_key hat hkey
    have hqin : Has (rv rs) qi.nm := ⟨qi, List.mem_reverse.mpr (List.mem_of_getElem? hqi), rfl⟩
    have hi6 : i < 6 := by omega
    refine ⟨_, rfl, _, _, _, _, _, rfl, I2.1, KR.cl, KR.nR, lrA, D, od, rfl, .inl ⟨_, I2.2.1, for_it (walk_keys (d := D) (o := od) (kvs := kvs rs xs)) (fun j σ H' => ∃ (v4 : Option V) (kd : List (List Key × V)), σ = [some (.ref N), some (.ref x), some (.ref tp), some (.str qi.nm), v4] ∧ (H' N = some (.ins r.c dx fsA) ∧ H' D = some (.frz od (.dK (kvs rs xs))) ∧ ∀ b o, b ≠ N → H b = some o → H' b = some o) ∧ H' Dd = some (.dT kd) ∧ kd.length ≤ i * 6 + j ∧ DistP rs kd i j)
      ⟨v4, kd, rfl, I2, hT2, len2, dp2⟩ (fun j σ H' _ ⟨_, _, _, h, _⟩ => h.2.1) ?_ ?_⟩⟩
    · rintro j z σ H4 H5 hj ⟨v4, kd, rfl, I4, hT4, len4, dp4⟩ ⟨rfl, key2, vv2, hkey2, rfl⟩
      obtain ⟨qj, hqj, rfl⟩ := kvs_key hat hkey2
      have hqjn : Has (rv rs) qj.nm := ⟨qj, List.mem_reverse.mpr (List.mem_of_getElem? hqj), rfl⟩
      refine ⟨_, rfl, N, dx, fsA, rfl, I4.1, nfA.at, _, rfl, _, rfl, N, D, rs, fsA, qi.nm, qj.nm, rfl, NR _ _ nfA lrA I4.1 (.inr ⟨od, I4.2.1⟩) I4.2.2, hqin, hqjn, fun H6 s6 => ?_⟩
      refine ⟨_, rfl, _, _, _, _, _, rfl, s6 _ _ I4.1, KR.cl, KR.nd, ldA, _, rfl, _, rfl, (by show 2 ≤ sizeLine; decide), fun t ht => ?_⟩
      have s7 := same_new (o := .tup [.str qi.nm, .str qj.nm]) ht
      have hT7 := s7 _ _ (s6 _ _ hT4)
      refine ⟨Dd, _, rfl, DPut.t (k := [kS qi.nm, kS qj.nm]) hT7 upd_same (Nat.lt_of_lt_of_le (show kd.length < 50 by omega) (by decide)), ?_⟩
      refine ⟨_, _, rfl, ⟨by rw [upd_ne NDd]; exact s7 _ _ (s6 _ _ I4.1), by rw [upd_ne DDd]; exact s7 _ _ (s6 _ _ I4.2.1), fun b o n e => by rw [upd_ne (ne_of_none e fDd)]; exact s7 _ _ (s6 _ _ (I4.2.2 b o n e))⟩, upd_same, Nat.le_trans (put_len _ _ _) (by omega), dp4.put hqi hqj⟩
    · rintro σ H4 ⟨v4, kd, rfl, I4, hT4, len4, dp4⟩
      rw [lk1] at len4 dp4
      exact ⟨_, _, kd, rfl, I4, hT4, by omega, dp4.next⟩
  rintro σ H2 ⟨v3, v4, kd, rfl, I2, hT2, len2, dp2⟩
  rw [lk1] at dp2
  refine ⟨I2.2.1, ?_⟩
  have hNB : upd H2 D (.dK (kvs rs xs)) N = some (.ins r.c dx fsA) := by rw [upd_ne ND]; exact I2.1
  have hDB : upd H2 D (.dK (kvs rs xs)) D = some (.dK (kvs rs xs)) := upd_same
  have hTB : upd H2 D (.dK (kvs rs xs)) Dd = some (.dT kd) := by rw [upd_ne (Ne.symm DDd)]; exact hT2
  have kB : ∀ b o, b ≠ N → H b = some o → upd H2 D (.dK (kvs rs xs)) b = some o := fun b o n e => by rw [upd_ne (ne_of_none e fD)]; exact I2.2.2 b o n e
  have dok := dp2.done
  clear dp2 len2
  generalize upd H2 D (.dK (kvs rs xs)) = HB at hNB hDB hTB kB ⊢
  refine fun Dk hDk => ?_
  have s5 := same_new (o := .dT []) hDk
  have NDk : N ≠ Dk := ne_of_none hNB hDk
  have DDk : D ≠ Dk := ne_of_none hDB hDk
  have TDk : Dd ≠ Dk := ne_of_none hTB hDk
  have fDk : H Dk = none := by
    cases e : H Dk with
    | none => rfl
    | some o => rw [kB _ _ (Ne.symm NDk) e] at hDk; cases hDk
  refine ⟨_, rfl, N, _, dx, _, rfl, s5 _ _ hNB, KR.cl, KR.nk, lenA, ?_⟩
  have hNC : upd (upd HB Dk (.dT [])) N (.ins r.c dx (putF "_kappas" (.ref Dk) fsA)) N = some (.ins r.c dx (putF "_kappas" (.ref Dk) fsA)) := upd_same
  have hDC : upd (upd HB Dk (.dT [])) N (.ins r.c dx (putF "_kappas" (.ref Dk) fsA)) D = some (.dK (kvs rs xs)) := by rw [upd_ne (Ne.symm ND)]; exact s5 _ _ hDB
  have hTC : upd (upd HB Dk (.dT [])) N (.ins r.c dx (putF "_kappas" (.ref Dk) fsA)) Dd = some (.dT kd) := by rw [upd_ne (Ne.symm NDd)]; exact s5 _ _ hTB
  have hkC : upd (upd HB Dk (.dT [])) N (.ins r.c dx (putF "_kappas" (.ref Dk) fsA)) Dk = some (.dT []) := by rw [upd_ne (Ne.symm NDk)]; exact upd_same
  have kC : ∀ b o, b ≠ N → H b = some o → upd (upd HB Dk (.dT [])) N (.ins r.c dx (putF "_kappas" (.ref Dk) fsA)) b = some o := fun b o n e => by rw [upd_ne n]; exact s5 _ _ (kB b o n e)
  generalize upd (upd HB Dk (.dT [])) N (.ins r.c dx (putF "_kappas" (.ref Dk) fsA)) = HC at hNC hDC hTC hkC kC ⊢
  have nfC : Nf (putF "_kappas" (.ref Dk) fsA) := nfA.put (by decide +kernel)
  have lrC : (putF "_kappas" (V.ref Dk) fsA).lookup ("_rows" : Str) = some (.ref D) := by rw [lk_ne (by decide +kernel)]; exact lrA
  have ldC : (putF "_kappas" (V.ref Dk) fsA).lookup ("_dists" : Str) = some (.ref Dd) := by rw [lk_ne (by decide +kernel)]; exact ldA
  have lxC : (putF "_kappas" (V.ref Dk) fsA).lookup ("rest" : Str) = some (.ref x) := by rw [lk_ne (by decide +kernel)]; exact lxA
  have lkC : (putF "_kappas" (V.ref Dk) fsA).lookup ("_kappas" : Str) = some (.ref Dk) := lk_eq
  generalize putF "_kappas" (V.ref Dk) fsA = fsC at hNC nfC lrC ldC lxC lkC ⊢
  refine ⟨D, _, hDC, trivial, fun od => ?_⟩
  have inv0 : (upd HC D (.frz od (.dK (kvs rs xs)))) N = some (.ins r.c dx fsC) ∧ (upd HC D (.frz od (.dK (kvs rs xs)))) D = some (.frz od (.dK (kvs rs xs))) ∧ (upd HC D (.frz od (.dK (kvs rs xs)))) Dd = some (.dT kd) ∧ (∀ b o, b ≠ N → H b = some o → (upd HC D (.frz od (.dK (kvs rs xs)))) b = some o) := ⟨by rw [upd_ne ND]; exact hNC, upd_same, by rw [upd_ne (Ne.symm DDd)]; exact hTC, fun b o n e => by rw [upd_ne (ne_of_none e fD)]; exact kC b o n e⟩
  have invT : (upd HC D (.frz od (.dK (kvs rs xs)))) Dk = some (.dT []) := by rw [upd_ne (Ne.symm DDk)]; exact hkC
  generalize upd HC D (.frz od (.dK (kvs rs xs))) = HL at inv0 invT ⊢
  refine ⟨_, rfl, _, _, _, _, _, rfl, inv0.1, KR.cl, KR.nR, lrC, D, od, rfl, .inl ⟨_, inv0.2.1, for_it (walk_keys (d := D) (o := od) (kvs := kvs rs xs)) (fun i σ H' => ∃ (v3 v4 : Option V) (kk : List (List Key × V)), σ = [some (.ref N), some (.ref x), some (.ref tp), v3, v4] ∧ (H' N = some (.ins r.c dx fsC) ∧ H' D = some (.frz od (.dK (kvs rs xs))) ∧ H' Dd = some (.dT kd) ∧ ∀ b o, b ≠ N → H b = some o → H' b = some o) ∧ H' Dk = some (.dT kk) ∧ kk.length ≤ i * 6 ∧ KapP H' rs kk i 0)
    ⟨v3, v4, [], rfl, inv0, invT, Nat.le_refl _, fun p q _ _ _ _ z => by omega⟩ (fun i σ H' _ ⟨_, _, _, _, h, _⟩ => h.2.1) ?_ ?_⟩⟩
  · rintro i y σ H2 H3 hi ⟨v3, v4, kk, rfl, I2, hT2, len2, dp2⟩ ⟨rfl, key, vv, hkey, rfl⟩
    obtain ⟨qi, hqi, rfl⟩ := kvs_key hat hkey
    have hqin : Has (rv rs) qi.nm := ⟨qi, List.mem_reverse.mpr (List.mem_of_getElem? hqi), rfl⟩
    have hi6 : i < 6 := by omega
    refine ⟨_, rfl, _, _, _, _, _, rfl, I2.1, KR.cl, KR.nR, lrC, D, od, rfl, .inl ⟨_, I2.2.1, for_it (walk_keys (d := D) (o := od) (kvs := kvs rs xs)) (fun j σ H' => ∃ (v4 : Option V) (kk : List (List Key × V)), σ = [some (.ref N), some (.ref x), some (.ref tp), some (.str qi.nm), v4] ∧ (H' N = some (.ins r.c dx fsC) ∧ H' D = some (.frz od (.dK (kvs rs xs))) ∧ H' Dd = some (.dT kd) ∧ ∀ b o, b ≠ N → H b = some o → H' b = some o) ∧ H' Dk = some (.dT kk) ∧ kk.length ≤ i * 6 + j ∧ KapP H' rs kk i j)
      ⟨v4, kk, rfl, I2, hT2, len2, dp2⟩ (fun j σ H' _ ⟨_, _, _, h, _⟩ => h.2.1) ?_ ?_⟩⟩
    · rintro j z σ H4 H5 hj ⟨v4, kk, rfl, I4, hT4, len4, dp4⟩ ⟨rfl, key2, vv2, hkey2, rfl⟩
      obtain ⟨qj, hqj, rfl⟩ := kvs_key hat hkey2
      have hqjn : Has (rv rs) qj.nm := ⟨qj, List.mem_reverse.mpr (List.mem_of_getElem? hqj), rfl⟩
      refine ⟨_, rfl, N, dx, fsC, rfl, I4.1, nfC.at, _, rfl, _, rfl, N, D, Dd, rs, fsC, kd, qi.nm, qj.nm, rfl, NR _ _ nfC lrC I4.1 (.inr ⟨od, I4.2.1⟩) I4.2.2.2, ldC, I4.2.2.1, dok, hqin, hqjn, fun T sT H6 s6 hT6 => ?_⟩
      refine ⟨_, rfl, _, _, _, _, _, rfl, s6 _ _ I4.1, KR.cl, KR.nk, lkC, _, rfl, _, rfl, (by show 2 ≤ sizeLine; decide), fun t ht => ?_⟩
      have s7 := same_new (o := .tup [.str qi.nm, .str qj.nm]) ht
      have hT7 := s7 _ _ (s6 _ _ hT4)
      refine ⟨Dk, _, rfl, DPut.t (k := [kS qi.nm, kS qj.nm]) hT7 upd_same (Nat.lt_of_lt_of_le (show kk.length < 50 by omega) (by decide)), ?_⟩
      have kt : ∀ {o : HO} b ys, upd H6 t (.tup [.str qi.nm, .str qj.nm]) b = some (.tup ys) → upd (upd H6 t (.tup [.str qi.nm, .str qj.nm])) Dk o b = some (.tup ys) := fun b ys e => by rw [upd_ne (fun z => by rw [z, hT7] at e; cases e)]; exact e
      have dp6 := (dp4.kp fun b ys e => s7 _ _ (s6 _ _ e)).put hqi hqj (s7 _ _ hT6)
      refine ⟨_, _, rfl, ⟨by rw [upd_ne NDk]; exact s7 _ _ (s6 _ _ I4.1), by rw [upd_ne DDk]; exact s7 _ _ (s6 _ _ I4.2.1), by rw [upd_ne TDk]; exact s7 _ _ (s6 _ _ I4.2.2.1), fun b o n e => by rw [upd_ne (ne_of_none e fDk)]; exact s7 _ _ (s6 _ _ (I4.2.2.2 b o n e))⟩, upd_same, Nat.le_trans (put_len _ _ _) (by omega), dp6.kp kt⟩
    · rintro σ H4 ⟨v4, kk, rfl, I4, hT4, len4, dp4⟩
      rw [lk1] at len4 dp4
      exact ⟨_, _, kk, rfl, I4, hT4, by omega, dp4.next⟩
  rintro σ H3 ⟨v3, v4, kk, rfl, I3, hT3, len3, dp3⟩
  rw [lk1] at dp3
  refine ⟨I3.2.1, ?_⟩
  have kf : ∀ b o, b ≠ N → H b = some o → upd H3 D (.dK (kvs rs xs)) b = some o := fun b o n e => by rw [upd_ne (ne_of_none e fD)]; exact I3.2.2.2 b o n e
  refine k _ kf ⟨D, Dk, fsC, kk, x, NR _ _ nfC lrC (by rw [upd_ne ND]; exact I3.1) (.inl upd_same) kf, lkC, by rw [upd_ne (Ne.symm DDk)]; exact hT3, dp3.done.kp fun b ys e => ?_, lxC, ?_⟩
  · rw [upd_ne (fun z => by rw [z, I3.2.1] at e; cases e)]
    exact e
  · exact (hR.kp fun b o n e => kf b o (fun z => n (.inr z)) e).mono fun b z => .inl z
end k80
namespace k80
open PySem L2 LC RM
def spleads (a : Ad) (r : Ar) : Sp := fun vs H Q _ => ∃ (F : Addr → Prop) (N o o2 : Addr) (rs : List Rw) (p : Pl) (M : Nat) (b : Str) (t : Int) (c : Str) (u : Int), vs = [.ref N, .ref o, .ref o2] ∧ NetFull a r F H N rs p ∧ p.ok M ∧ p.h ≤ 2 ∧ H o = some (.tup [.str b, .int t]) ∧ H o2 = some (.tup [.str c, .int u]) ∧ Has (rv rs) b ∧ Has (rv rs) c ∧ ∀ H', Same H H' → Q (.bl (leadB rs p b t c u)) H'
theorem ok_leads {P : Program} {w : World} {K : PySem.W.Frag} {mg : Str → Option Value} {base : Heap} {f : Addr} {fd : FuncData} (D : Def K mg "leads" sleads Pleads f fd) (T : Txt K mg) {a : Ad} (KN : Kn K mg a) {r : Ar} (KR : Kr K mg r) (CC : Calls P w K mg base a 2) {fdNerror_of : FuncData} (GNet_error_of : FnOk P w K mg base CX0 4 r.ferror_of fdNerror_of PNet_error_of (spNet_error_of r)) (BNet_error_of : Binds K fdNerror_of PNet_error_of []) {fdNkappa : FuncData} (GNet_kappa : FnOk P w K mg base CX0 5 r.fkappa fdNkappa PNet_kappa (spNet_kappa r)) (BNet_kappa : Binds K fdNkappa PNet_kappa []) :
    FnOk P w K mg base CX0 6 f fd Pleads (spleads a r) := by
  refine D.F.ok scleads (fun vs H Q E h => ?_) (fun cdv A outer s H vs Q E hr h => ?_)
  · obtain ⟨F, N, o, o2, rs, p, M, b, t, c, u, rfl, ⟨D, Dk, fs, kk, x, hN, hk, hDk, kok, hre, hR⟩, ok, hh, ho, ho2, hb, hc, k⟩ := h
    rfl
  · obtain ⟨F, N, o, o2, rs, p, M, b, t, c, u, rfl, ⟨D, Dk, fs, kk, x, hN, hk, hDk, kok, hre, hR⟩, ok, hh, ho, ho2, hb, hc, k⟩ := h
    have hrNet_error_of : Room 4 _ := hr.mono (by decide)
    have hrNet_kappa : Room 5 _ := hr.mono (by decide)
    have hrC : Room 4 _ := hr.mono (by decide)
    refine ⟨_, (pss_cons (ps_asg (pv 1) (pg_tup rfl (pgs_cons (pg_name (i := 3) scleads.nd rfl (Or.inl rfl)) (pgs_cons (pg_name (i := 4) scleads.nd rfl (Or.inl rfl)) pgs_nil))))
        (pss_cons (ps_asg (pv 2) (pg_tup rfl (pgs_cons (pg_name (i := 5) scleads.nd rfl (Or.inl rfl)) (pgs_cons (pg_name (i := 6) scleads.nd rfl (Or.inl rfl)) pgs_nil))))
        (pss_cons (ps_set (i := 7) scleads.nd rfl (Or.inl rfl) (pe_fld (pv 0) rfl))
        (pss_cons (ps_set (i := 8) scleads.nd rfl (Or.inl rfl) (LS.pe_callD (pv 7) hrC (pa_cons (pe_op op_add (pv 4) (pe_meth (pv 0) KR.cl KR.merror_of GNet_error_of hrNet_error_of BNet_error_of .nil pass0 (pa_cons (pv 3) pa_nil))) pa_nil)))
        (pss_one (ps_ret (pe_cmpR op_gt (pe_op op_sub (pv 6) (pe_meth (pv 0) KR.cl KR.merror_of GNet_error_of hrNet_error_of BNet_error_of .nil pass0 (pa_cons (pv 5) pa_nil))) (pe_op op_add (pv 8) (pe_meth (pv 0) KR.cl KR.mkappa GNet_kappa hrNet_kappa BNet_kappa .nil pass0 (pa_cons (pv 3) (pa_cons (pv 5) pa_nil)))) (nomark _)))))))), ?_⟩
    obtain ⟨dx, xs, h1, h2, h3, h4, h5, h6⟩ := id hN
    refine ⟨_, rfl, o, _, rfl, SqT.of ho, rfl, _, _, rfl, _, _, rfl, rfl, ?_⟩
    refine ⟨_, rfl, o2, _, rfl, SqT.of ho2, rfl, _, _, rfl, _, _, rfl, rfl, ?_⟩
    refine ⟨_, rfl, _, _, _, _, _, rfl, h1, KR.cl, KR.nr, hre, ?_⟩
    refine ⟨_, rfl, x, rfl, _, rfl, _, rfl, N, dx, fs, rfl, h1, h2.at, _, rfl, N, D, rs, fs, b, rfl, hN, hb, fun H1 s1 => ⟨_, _, rfl, rfl, ?_⟩⟩
    obtain ⟨C1, f1, sp1, c1, G1, i1, k1⟩ := CC.dyn KN (hR.same s1) hh ok
    refine ⟨C1, f1, sp1, c1, G1, i1, k1 _ _ _ ?_⟩
    refine ⟨_, rfl, _, rfl, N, dx, fs, rfl, s1 _ _ h1, h2.at, _, rfl, N, D, rs, fs, c, rfl, hN.same s1, hc, fun H2 s2 => ⟨_, _, rfl, rfl, ?_⟩⟩
    have s12 := s1.trans s2
    refine ⟨_, rfl, _, rfl, N, dx, fs, rfl, s12 _ _ h1, h2.at, _, rfl, _, rfl, N, D, Dk, rs, fs, kk, b, c, rfl, hN.same s12, hk, s12 _ _ hDk, kok.kp fun b ys e => s12 _ _ e, hb, hc, fun H3 s3 => ⟨_, _, rfl, rfl, _, _, rfl, rfl, ?_⟩⟩
    exact k H3 (s12.trans s3)
def kgL {α : Type} (us ws : List α) : List α := match us, ws with | [a], [b, c] => [a, b, c] | _, _ => []
theorem KB_leads {K : PySem.W.Frag} {f : Addr} {fd : FuncData} (F : Fun K "leads" "leads" sleads f fd) : KBinds K fd Pleads ["demand", "other"] kgL kgL := by
  obtain ⟨oc, od, kV, doc, pm, an, cdv, ct, osl, rfl, lk, hcd⟩ := F.ex
  refine ⟨fun s us ws _ hl => ?_, fun {vs us zs ws} r1 r2 => ?_⟩
  · match us, ws, hl with
    | [a], [b, c], _ => exact .of_eq rfl
  · match vs, us, r1, zs, ws, r2 with
    | _, _, .cons q0 .nil, _, _, .cons q1 (.cons q2 .nil) => exact Paired.cons q0 (.cons q1 (.cons q2 .nil))
    | _, _, .nil, _, _, _ => exact .nil
    | _, _, .cons _ (.cons _ _), _, _, _ => exact .nil
    | _, _, .cons _ .nil, _, _, .nil => exact .nil
    | _, _, .cons _ .nil, _, _, .cons _ .nil => exact .nil
    | _, _, .cons _ .nil, _, _, .cons _ (.cons _ (.cons _ _)) => exact .nil
end k80
namespace k80
open PySem L2 LC RM
def spbox (K : PySem.W.Frag) : Sp := fun vs H Q _ => ∃ (a : Addr) (ns : List Int), vs = [.ref a] ∧ SqL K H a (ns.map V.int) ∧ ns.length ≤ 63 ∧ ∀ g H', H g = none → Same H H' → (∃ l, H l = none ∧ Box l H' g) → Q (.ref g) H'
theorem ok_box {P : Program} {w : World} {K : PySem.W.Frag} {mg : Str → Option Value} {base : Heap} {f : Addr} {fd : FuncData} (D : Def K mg "_law_box" sbox Pbox f fd) (T : Txt K mg) :
    FnOk P w K mg base CX0 1 f fd Pbox (spbox K) := by
  refine D.F.ok scbox (fun vs H Q E h => ?_) (fun cdv A outer s H vs Q E hr h => ?_)
  · obtain ⟨a, ns, rfl, hS, hl, k⟩ := h
    rfl
  · obtain ⟨a, ns, rfl, hS, hl, k⟩ := h
    refine ⟨_, (pss_cons (ps_setLc (i := 1) (own := [("_law_cell", 2)]) (g := gName 2) (tt := tYes) rfl scbox.nd rfl rfl (sw_true rfl rfl rfl (by decide +kernel)) (pi_list (pe_slice sl_list (pv 0) po_none (po_some pe_int))) (blkOk_by (own := [("_law_cell", 2)]) (N := Nmbox) (sc := defScope sbox) (by decide +kernel)) (fun _ _ _ _ _ => pg_name (i := 2) scbox.nd rfl (Or.inl rfl)) (fun _ _ _ _ _ => pts_nil) (fun _ _ _ _ _ => (pe_ifExp (pt_cmpR op_ge (pv 2) pe_int (nomark _)) (pe_callTy call_int1 (by rfl) T.n_int (by decide +kernel) (pa_cons (pv 2) pa_nil)) (pe_op op_sub pe_int (pe_op op_mul pe_int (pe_callTy call_int1 (by rfl) T.n_int (by decide +kernel) (pa_cons (pv 2) pa_nil)))))))
        (pss_one (ps_ret (pe_lst (pa_cons (pv 1) (pa_cons pe_int (pa_cons pe_int (pa_cons pe_int pa_nil)))))))), ?_⟩
    obtain ⟨ms, hms, hml⟩ := cut_ints ns none (some 63)
    refine ⟨_, rfl, _, rfl, a, _, rfl, hS, fun p hp => ?_⟩
    rw [hms]
    have s1 : Same H (upd H p (.lst (ms.map V.int))) := same_new hp
    refine ⟨p, rfl, ⟨_, SqL.of upd_same⟩, fun D hD => ?_⟩
    have hp1 : upd H p (.lst (ms.map V.int)) p = some (.lst (ms.map V.int)) := upd_same
    generalize upd H p (.lst (ms.map V.int)) = H1 at s1 hp1 hD ⊢
    have pD : p ≠ D := ne_of_none hp1 hD
    refine lc_list (K := K) (a := p) (xs := ms.map V.int) (fun i H' => ∃ cs : List Int, H' = upd H1 D (.lst (cs.map V.int)) ∧ cs.length = i) ⟨[], rfl, rfl⟩ (fun i H' _ ⟨cs, e, _⟩ => by rw [e]; exact SqL.of (by rw [upd_ne pD]; exact hp1)) ?_ ?_
    · rintro i y H' hi ⟨cs, rfl, lc⟩
      obtain ⟨u, rfl⟩ := int_of hi
      have hlt : i < ms.length := by have := (List.getElem?_eq_some_iff.mp hi).1; rwa [List.length_map] at this
      have fin : ∀ z : Int, ∃ acc, upd H1 D (.lst (cs.map V.int)) D = some (.lst acc) ∧ acc.length < sizeLine ∧ (∃ cs', upd (upd H1 D (.lst (cs.map V.int))) D (.lst (acc ++ [V.int z])) = upd H1 D (.lst (List.map V.int cs')) ∧ cs'.length = i + 1) := fun z => by
        refine ⟨_, upd_same, ?_, cs ++ [z], ?_, by simp [lc]⟩
        · rw [List.length_map, lc]; exact Nat.lt_of_lt_of_le hlt (Nat.le_trans hml (Nat.le_trans hl (by show 63 ≤ sizeLine; decide)))
        · rw [upd_upd, List.map_append]; rfl
      refine ⟨rfl, _, rfl, _, _, rfl, rfl, _, rfl, ite_d (fun e1 => ?_) (fun e1 => ?_)⟩
      · exact ⟨_, rfl, .inl ⟨_, rfl, fin _⟩⟩
      · exact ⟨_, rfl, .inl ⟨_, rfl, _, _, rfl, rfl, .inl ⟨by decide, by decide⟩, _, _, rfl, rfl, fin _⟩⟩
    · rintro H' ⟨cs, rfl, lc⟩
      have r2 : Same H1 (upd H1 D (.lst (cs.map V.int))) := same_new hD
      refine ⟨_, rfl, (by show 4 ≤ sizeLine; decide), fun g hg => ?_⟩
      have r3 := same_new (o := .lst [V.ref D, V.int 0, V.int 0, V.int 1]) hg
      have ne : D ≠ g := fun e => by
        rw [← e, upd_same] at hg
        cases hg
      refine k g _ (s1.free (r2.free hg)) (s1.trans (r2.trans r3)) ⟨D, s1.free hD, ?_⟩
      exact ⟨cs, 0, 0, 1, upd_same, ne, by rw [upd_ne ne]; exact upd_same, Int.le_refl _, Int.le_refl _, by decide, by decide⟩
end k80
namespace k80
open PySem L2 LC RM
def sptake : Sp := fun vs H Q _ => ∃ (g l : Addr) (n : Int), vs = [.ref g, .int n] ∧ Box l H g ∧ 0 < n ∧ n < 1073741824 ∧ ∀ (d : Int) (H' : Hp), 0 ≤ d → d < n → OkB g l H H' → Q (.int d) H'
theorem ok_take {P : Program} {w : World} {K : PySem.W.Frag} {mg : Str → Option Value} {base : Heap} {f : Addr} {fd : FuncData} (D : Def K mg "_law_take" stake Ptake f fd) (T : Txt K mg) :
    FnOk P w K mg base CX0 1 f fd Ptake (sptake) := by
  refine D.F.ok sctake (fun vs H Q E h => ?_) (fun cdv A outer s H vs Q E hr h => ?_)
  · obtain ⟨g, l, n, rfl, B, n0, n1, k⟩ := h
    rfl
  · obtain ⟨g, l, n, rfl, B, n0, n1, k⟩ := h
    refine ⟨_, (pss_cons (ps_set (i := 2) sctake.nd rfl (Or.inl rfl) (pe_ix ix_list (pv 0) pe_int (fun _ _ => rfl)))
        (pss_cons (ps_set (i := 3) sctake.nd rfl (Or.inl rfl) (pe_ix ix_list (pv 0) pe_int (fun _ _ => rfl)))
        (pss_cons (ps_set (i := 4) sctake.nd rfl (Or.inl rfl) (pe_ix ix_list (pv 0) pe_int (fun _ _ => rfl)))
        (pss_cons (ps_asg (pe_op op_add (pv 4) pe_int) (pg_sub (pv 0) pe_int set_list))
        (Evl.pss_cut (ps_if (PW.pt (pw_and (pt_cmpR op_lt (pv 3) (pe_callB call_len_seq (by rfl) T.n_len PySem.boot_len (pa_cons (pv 2) pa_nil)) (nomark _)) (pw_and1 (pt_cmpR op_ge (pe_ix ix_list (pv 2) (pv 3) (fun _ _ => rfl)) (pe_op op_pow pe_int pe_int) (nomark _))))) (pss_cons (ps_set (i := 5) sctake.nd rfl (Or.inl rfl) (pe_ix ix_list (pv 2) (pv 3) (fun _ _ => rfl)))
        (pss_cons (ps_asg (pe_op op_fdivN (pv 5) (pv 1)) (pg_sub (pv 2) (pv 3) set_list))
        (pss_cons (ps_if (pt_cmpR op_lt (pe_ix ix_list (pv 2) (pv 3) (fun _ _ => rfl)) (pe_op op_pow pe_int pe_int) (nomark _)) (pss_one (ps_asg (pe_op op_add (pv 3) pe_int) (pg_sub (pv 0) pe_int set_list))) pss_nil)
        (pss_one (ps_ret (pe_op op_modN (pe_callTy call_int1 (by rfl) T.n_int (by decide +kernel) (pa_cons (pv 5) pa_nil)) (pv 1))))))) pss_nil)
        (pss_cons (ps_set (i := 5) sctake.nd rfl (Or.inl rfl) (pv 4))
        (Evl.pss_cut (ps_if (pt_cmpR op_lt (pv 3) (pe_callB call_len_seq (by rfl) T.n_len PySem.boot_len (pa_cons (pv 2) pa_nil)) (nomark _)) (pss_one (ps_set (i := 5) sctake.nd rfl (Or.inl rfl) (pe_ix ix_list (pv 2) (pv 3) (fun _ _ => rfl)))) (pss_one (ps_if (pt_truth (pv 2) (by intro _; rfl)) (pss_one (ps_set (i := 5) sctake.nd rfl (Or.inl rfl) (pe_ix ix_list (pv 2) (pe_op op_modN (pv 4) (pe_callB call_len_seq (by rfl) T.n_len PySem.boot_len (pa_cons (pv 2) pa_nil))) (fun _ _ => rfl)))) pss_nil)))
        (pss_cons (ps_asg (pe_op op_mod (pe_op op_add (pe_op op_add (pe_op op_add (pe_op op_mul (pe_callTy call_int1 (by rfl) T.n_int (by decide +kernel) (pa_cons (pe_ix ix_list (pv 0) pe_int (fun _ _ => rfl)) pa_nil)) pe_int) (pe_op op_mod (pe_callTy call_int1 (by rfl) T.n_int (by decide +kernel) (pa_cons (pv 5) pa_nil)) pe_int)) (pv 4)) pe_int) pe_int) (pg_sub (pv 0) pe_int set_list))
        (Evl.pss_cut (ps_if (PW.pt (pw_and (pt_cmpR op_eq (pe_op op_mod (pv 4) pe_int) pe_int (nomark _)) (pw_and1 (pt_cmpR op_lt (pv 3) (pe_callB call_len_seq (by rfl) T.n_len PySem.boot_len (pa_cons (pv 2) pa_nil)) (nomark _))))) (pss_one (ps_asg (pe_op op_add (pv 3) pe_int) (pg_sub (pv 0) pe_int set_list))) pss_nil)
        (pss_one (ps_ret (pe_op op_modN (pe_op op_fdiv (pe_op op_mod (pe_op op_mul (pe_callTy call_int1 (by rfl) T.n_int (by decide +kernel) (pa_cons (pe_ix ix_list (pv 0) pe_int (fun _ _ => rfl)) pa_nil)) (pe_callTy call_int1 (by rfl) T.n_int (by decide +kernel) (pa_cons (pe_ix ix_list (pv 0) pe_int (fun _ _ => rfl)) pa_nil))) pe_int) pe_int) (pv 1))))))))))))), ?_⟩
    obtain ⟨ns, i, d, s, hg, lg, hl, i0, d0, s0, s1⟩ := id B
    refine ⟨_, rfl, _, _, _, _, rfl, rfl, SqL.of hg, rfl, _, rfl, _, _, _, _, rfl, rfl, SqL.of hg, rfl, _, rfl, _, _, _, _, rfl, rfl, SqL.of hg, rfl, ?_⟩
    refine ⟨_, rfl, _, _, rfl, rfl, _, rfl, g, _, _, 2, rfl, rfl, hg, rfl, ?_⟩
    have up : ∀ (i' d' s' : Int) (H2 : Hp) (ns' : List Int), KpB g l H H2 → H2 l = some (.lst (ns'.map V.int)) → KpB g l H (upd H2 g (.lst [.ref l, .int i', .int d', .int s'])) ∧ upd H2 g (.lst [.ref l, .int i', .int d', .int s']) l = some (.lst (ns'.map V.int)) :=
      fun i' d' s' H2 _ r q => ⟨fun b o nb nl e => by rw [upd_ne nb]; exact r b o nb nl e, by rw [upd_ne lg]; exact q⟩
    obtain ⟨K1, L1⟩ := up i (d + 1) s H ns (KpB.refl g l H) hl
    have box : ∀ (i' d' s' : Int) (H2 : Hp) (ns' : List Int), H2 g = some (.lst [.ref l, .int i', .int d', .int s']) → H2 l = some (.lst (ns'.map V.int)) → 0 ≤ i' → 0 ≤ d' → 0 ≤ s' → s' < 2147483647 → Box l H2 g := fun i' d' s' H2 ns' a b c1 c2 c3 c4 => ⟨ns', i', d', s', a, lg, b, c1, c2, c3, c4⟩
    obtain ⟨j, rfl⟩ : ∃ j : Nat, i = (j : Int) := ⟨i.toNat, by omega⟩
    have n00 : n ≠ 0 := by omega
    refine ⟨fun σ H' => ∃ v, σ = [some (.ref g), some (.int n), some (.ref l), some (.int (j : Int)), some (.int d), v] ∧ H' = upd H g (.lst [.ref l, .int (j : Int), .int (d + 1), .int s]), ?_, ?_⟩
    · refine ⟨_, rfl, _, rfl, _, _, rfl, .inl (SqL.of L1), _, _, rfl, rfl, _, rfl, ?_⟩
      refine ite_d (fun e1 => ?_) (fun e1 => iteF ⟨_, rfl, rfl⟩)
      rw [List.length_map] at e1
      have hj : j < ns.length := by omega
      have hx : (ns.map V.int)[j]? = some (V.int ns[j]) := by rw [List.getElem?_map, List.getElem?_eq_getElem hj]; rfl
      refine ⟨_, rfl, _, rfl, _, _, _, _, rfl, rfl, SqL.of L1, atI_nat hx, _, _, rfl, rfl, ⟨by decide, by decide, by decide⟩, _, _, rfl, rfl, _, rfl, ?_⟩
      refine ite_d (fun e2 => ?_) (fun e2 => ⟨_, rfl, rfl⟩)
      refine ⟨_, rfl, _, rfl, _, _, _, _, rfl, rfl, SqL.of L1, atI_nat hx, ?_⟩
      refine ⟨_, rfl, _, rfl, _, _, rfl, rfl, ⟨n00, by omega⟩, _, rfl, _, rfl, l, _, _, j, rfl, rfl, L1, ixN_nat (by rw [List.length_map]; exact hj), ?_⟩
      have es : (ns.map V.int).set j (V.int (ns[j].fdiv n)) = (ns.set j (ns[j].fdiv n)).map V.int := by rw [List.map_set]
      have L2 : upd (upd H g (.lst [.ref l, .int (j : Int), .int (d + 1), .int s])) l (.lst ((ns.map V.int).set j (V.int (ns[j].fdiv n)))) l = some (.lst ((ns.set j (ns[j].fdiv n)).map V.int)) := by rw [upd_same, es]
      have G2 : upd (upd H g (.lst [.ref l, .int (j : Int), .int (d + 1), .int s])) l (.lst ((ns.map V.int).set j (V.int (ns[j].fdiv n)))) g = some (.lst [.ref l, .int (j : Int), .int (d + 1), .int s]) := by rw [upd_ne (Ne.symm lg)]; exact upd_same
      have K2 : KpB g l H (upd (upd H g (.lst [.ref l, .int (j : Int), .int (d + 1), .int s])) l (.lst ((ns.map V.int).set j (V.int (ns[j].fdiv n))))) := fun b o nb nl e => by rw [upd_ne nl]; exact K1 b o nb nl e
      have hx2 : ((ns.set j (ns[j].fdiv n)).map V.int)[j]? = some (V.int (ns[j].fdiv n)) := by rw [List.getElem?_map, List.getElem?_set_self hj]; rfl
      refine ⟨_, rfl, _, rfl, _, _, _, _, rfl, rfl, SqL.of L2, atI_nat hx2, _, _, rfl, rfl, ⟨by decide, by decide, by decide⟩, _, _, rfl, rfl, _, rfl, ?_⟩
      refine ite_d (fun e3 => ?_) (fun e3 => ?_)
      · refine ⟨_, rfl, _, _, rfl, rfl, _, rfl, g, _, _, 1, rfl, rfl, G2, rfl, ?_⟩
        obtain ⟨K3, L3⟩ := up ((j : Int) + 1) (d + 1) s _ _ K2 L2
        exact ⟨_, rfl, .inl ⟨_, rfl, _, rfl, _, _, rfl, rfl, n00, k _ _ (fmod_nn _ n0) (fmod_lt _ n0) ⟨B, K3, box ((j : Int) + 1) (d + 1) s _ _ upd_same L3 (by omega) (by omega) s0 s1⟩⟩⟩
      · exact ⟨_, rfl, .inl ⟨_, rfl, _, rfl, _, _, rfl, rfl, n00, k _ _ (fmod_nn _ n0) (fmod_lt _ n0) ⟨B, K2, box (j : Int) (d + 1) s _ _ G2 L2 (by omega) (by omega) s0 s1⟩⟩⟩
    rintro σ H' ⟨v, rfl, rfl⟩
    have G1 : upd H g (.lst [.ref l, .int (j : Int), .int (d + 1), .int s]) g = some (.lst [.ref l, .int (j : Int), .int (d + 1), .int s]) := upd_same
    generalize upd H g (.lst [.ref l, .int (j : Int), .int (d + 1), .int s]) = H1 at G1 L1 K1 ⊢
    refine ⟨_, rfl, ?_⟩
    refine ⟨fun σ H' => ∃ c : Int, σ = [some (.ref g), some (.int n), some (.ref l), some (.int (j : Int)), some (.int d), some (.int c)] ∧ H' = H1, ?_, ?_⟩
    · refine ⟨_, rfl, _, rfl, _, _, rfl, .inl (SqL.of L1), _, _, rfl, rfl, _, rfl, ?_⟩
      refine ite_d (fun e1 => ?_) (fun e1 => ?_)
      · rw [List.length_map] at e1
        have hj : j < ns.length := by omega
        have hx : (ns.map V.int)[j]? = some (V.int ns[j]) := by rw [List.getElem?_map, List.getElem?_eq_getElem hj]; rfl
        exact ⟨_, rfl, _, rfl, _, _, _, _, rfl, rfl, SqL.of L1, atI_nat hx, _, rfl, rfl⟩
      · rw [List.length_map] at e1
        refine ⟨_, rfl, !(ns.map V.int).isEmpty, .inl ⟨_, SqL.of L1, rfl⟩, ?_⟩
        by_cases hn : ns = []
        · subst hn
          exact iteF ⟨_, rfl, rfl⟩
        · have he : (!(ns.map V.int).isEmpty) = true := by cases ns with | nil => exact absurd rfl hn | cons _ _ => rfl
          rw [he]
          refine iteT ?_
          have hlen : 0 < ns.length := List.length_pos_iff.mpr hn
          obtain ⟨q, hq⟩ : ∃ q : Nat, d.fmod (ns.length : Int) = (q : Int) := ⟨(d.fmod (ns.length : Int)).toNat, by have := fmod_nn d (show (0 : Int) < (ns.length : Int) by omega); omega⟩
          have hlt : q < ns.length := by have := fmod_lt d (show (0 : Int) < (ns.length : Int) by omega); omega
          have hx : (ns.map V.int)[q]? = some (V.int ns[q]) := by rw [List.getElem?_map, List.getElem?_eq_getElem hlt]; rfl
          have hat : atI (ns.map V.int) (d.fmod ((ns.map V.int).length : Int)) = some (V.int ns[q]) := by rw [List.length_map, hq]; exact atI_nat hx
          exact ⟨_, rfl, _, rfl, _, rfl, _, _, rfl, .inl (SqL.of L1), _, _, rfl, rfl, (by rw [List.length_map]; omega), _, _, _, _, rfl, rfl, SqL.of L1, hat, _, rfl, rfl⟩
    rintro σ H' ⟨c, rfl, rfl⟩
    refine ⟨_, rfl, _, _, _, _, rfl, rfl, SqL.of G1, rfl, .inl ⟨_, rfl, _, _, rfl, rfl, .inr ⟨by decide, by decide⟩, _, rfl, .inl ⟨_, rfl, _, _, rfl, rfl, (by show (0 : Int) < 1000003; decide), _, _, rfl, rfl, _, rfl, _, _, rfl, rfl, _, _, rfl, rfl, _, _, rfl, rfl, (by show (0 : Int) < 2147483647; decide), ?_⟩⟩⟩
    refine ⟨_, rfl, g, _, _, 3, rfl, rfl, G1, rfl, ?_⟩
    obtain ⟨K2, L2⟩ := up (j : Int) (d + 1) ((s * 48271 + c % 1000003 + d + 1) % 2147483647) _ _ K1 L1
    have q0 : 0 ≤ (s * 48271 + c % 1000003 + d + 1) % 2147483647 := Int.emod_nonneg _ (by decide)
    have q1 : (s * 48271 + c % 1000003 + d + 1) % 2147483647 < 2147483647 := Int.emod_lt_of_pos _ (by decide)
    refine ⟨fun σ H2 => ∃ i' : Int, σ = [some (.ref g), some (.int n), some (.ref l), some (.int (j : Int)), some (.int d), some (.int c)] ∧ 0 ≤ i' ∧ KpB g l H H2 ∧ H2 g = some (.lst [.ref l, .int i', .int (d + 1), .int ((s * 48271 + c % 1000003 + d + 1) % 2147483647)]) ∧ H2 l = some (.lst (ns.map V.int)), ?_, ?_⟩
    · refine ⟨_, rfl, _, _, rfl, rfl, (by show (0 : Int) < 3; decide), rfl, _, rfl, ?_⟩
      refine ite_eq (fun e1 => ?_) (fun e1 => iteF ⟨_, rfl, i0, K2, upd_same, L2⟩)
      refine ⟨_, rfl, _, rfl, _, _, rfl, .inl (SqL.of L2), _, _, rfl, rfl, _, rfl, ?_⟩
      refine ite_d (fun e2 => ?_) (fun e2 => ⟨_, rfl, i0, K2, upd_same, L2⟩)
      refine ⟨_, rfl, _, _, rfl, rfl, _, rfl, g, _, _, 1, rfl, rfl, upd_same, rfl, ?_⟩
      obtain ⟨K3, L3⟩ := up ((j : Int) + 1) (d + 1) ((s * 48271 + c % 1000003 + d + 1) % 2147483647) _ _ K2 L2
      exact ⟨_, rfl, by omega, K3, upd_same, L3⟩
    rintro σ H2 ⟨i', rfl, j0, K3, G3, L3⟩
    refine ⟨_, rfl, _, _, _, _, rfl, rfl, SqL.of G3, rfl, .inl ⟨_, rfl, _, rfl, _, _, _, _, rfl, rfl, SqL.of G3, rfl, .inl ⟨_, rfl, _, _, rfl, rfl, .inl ⟨by omega, by omega⟩, _, _, rfl, rfl, (by show (0 : Int) < 2147483629; decide), _, _, rfl, rfl, ⟨by decide, by decide⟩, _, rfl, _, _, rfl, rfl, n00, ?_⟩⟩⟩
    exact k _ _ (fmod_nn _ n0) (fmod_lt _ n0) ⟨B, K3, box i' (d + 1) _ H2 ns G3 L3 j0 (by omega) q0 q1⟩
end k80
namespace k80
open PySem L2 LC RM
def spplain_form : Sp := fun vs H Q _ => ∃ (g l : Addr), vs = [.ref g] ∧ Box l H g ∧
  ∀ (p : Pl) (x : Addr) (e : Nat) H', OkB g l H H' → 1 ≤ e → e ≤ 9 → (∀ L, e ∣ L → p.ok L) → p.leaves = 1 → PlanAt H' p x → Q (.ref x) H'
theorem ok_plain_form {P : Program} {w : World} {K : PySem.W.Frag} {mg : Str → Option Value} {base : Heap} {f : Addr} {fd : FuncData} (D : Def K mg "_law_plain_form" splain_form Pplain_form f fd) (T : Txt K mg) {ftake : Addr} {fdtake : FuncData} (Dtake : Def K mg "_law_take" stake Ptake ftake fdtake) (Gtake : FnOk P w K mg base CX0 1 ftake fdtake Ptake (sptake)) :
    FnOk P w K mg base CX0 2 f fd Pplain_form (spplain_form) := by
  refine D.F.ok scplain_form (fun vs H Q E h => ?_) (fun cdv A outer s H vs Q E hr h => ?_)
  · obtain ⟨g, l, rfl, B, k⟩ := h
    rfl
  · obtain ⟨g, l, rfl, B, k⟩ := h
    have hrtake : Room 1 _ := hr.mono (by decide)
    refine ⟨_, (pss_cons (ps_if (pt_cmpR op_lt (pe_call Gtake hrtake rfl Dtake.g Dtake.F.kp Dtake.b .nil pass0 (pa_cons (pv 0) (pa_cons pe_int pa_nil))) pe_int (nomark _)) (pss_one (ps_ret (pe_tup (pa_cons pe_str (pa_cons (pe_op op_add pe_int (pe_call Gtake hrtake rfl Dtake.g Dtake.F.kp Dtake.b .nil pass0 (pa_cons (pv 0) (pa_cons pe_int pa_nil)))) pa_nil))))) pss_nil)
        (pss_cons (ps_set (i := 1) scplain_form.nd rfl (Or.inl rfl) (pe_lst pa_nil))
        (pss_cons (ps_for PassesOwn.never rfl (pi_range1 rfl T.n_range (pa_cons (pe_call Gtake hrtake rfl Dtake.g Dtake.F.kp Dtake.b .nil pass0 (pa_cons (pv 0) (pa_cons pe_int pa_nil))) pa_nil)) (pg_name (i := 2) scplain_form.nd rfl (Or.inl rfl))
          (pss_one (ps_expr (pe_bm PySem.F.plainAttrs_list PySem.F.slot_list_append PySem.F.type_list_append mt_append (pv 1) (pa_cons (pe_op op_add (pe_op op_add (pe_callB (cr_sum rfl) (by rfl) T.n_sum (by decide +kernel) (pa_cons (pe_slice sl_list (pv 1) (po_some (pe_un un_neg pe_int)) po_none) pa_nil)) pe_int) (pe_call Gtake hrtake rfl Dtake.g Dtake.F.kp Dtake.b .nil pass0 (pa_cons (pv 0) (pa_cons pe_int pa_nil)))) pa_nil)))))
        (pss_one (ps_ret (pe_tup (pa_cons pe_str (pa_cons (pe_callTy call_tuple_of (by rfl) T.n_tuple (by decide +kernel) (pa_cons (pv 1) pa_nil)) (pa_cons (pe_op op_add pe_int (pe_call Gtake hrtake rfl Dtake.g Dtake.F.kp Dtake.b .nil pass0 (pa_cons (pv 0) (pa_cons pe_int pa_nil)))) pa_nil))))))))), ?_⟩
    refine ⟨_, rfl, g, l, 3, rfl, B, by decide, by decide, fun d H1 d0 d1 r1 => ⟨_, _, rfl, rfl, _, rfl, ite_d (fun _ => ?_) (fun _ => ?_)⟩⟩
    · refine ⟨_, rfl, g, l, 9, rfl, r1.bag, by decide, by decide, fun e H2 e0 e1 r2 => ⟨_, _, rfl, rfl, (by show 2 ≤ sizeLine; decide), fun p hp => ?_⟩⟩
      exact k (.win (1 + e)) p 1 _ ((r1.trans r2).new hp) (by decide) (by decide) (fun L _ => ⟨by omega, by omega⟩) rfl upd_same
    refine ⟨Nat.zero_le _, fun q hq => ?_⟩
    have nq := r1.bag.ne hq
    have R1 := (OkB.refl r1.bag).new (o := .lst []) hq
    refine ⟨_, rfl, g, l, 3, rfl, R1.bag, by decide, by decide, fun n2 H2 e0 e1 r2 => ?_⟩
    obtain ⟨n, rfl⟩ : ∃ n : Nat, n2 = (n : Int) := ⟨n2.toNat, by omega⟩
    have hq2 := r2.at_ (upd_same (H := H1) (a := q) (o := .lst [])) nq.1 nq.2
    refine ⟨_, rfl, by omega, by omega, for_range (lo := 0) (n := n) (fun i σ H' => ∃ (bs : List Int) (v : Option V), σ = [some (.ref g), some (.ref q), v] ∧ OkB g l H1 H' ∧ H' q = some (.lst (bs.map V.int)) ∧ bs.length = i ∧ Asc 1 bs ∧ (∀ b ∈ bs, b ≤ lastOf bs) ∧ 0 ≤ lastOf bs ∧ lastOf bs ≤ 9 * i)
      ⟨[], none, rfl, R1.trans r2, hq2, rfl, True.intro, (fun b hb => by cases hb), by decide, by decide⟩ ?_ ?_⟩
    · rintro i σ H7 hi ⟨bs, v, rfl, R7, hq7, hl, hA, hu, e0, e1⟩
      refine ⟨_, rfl, .inl ⟨rfl, _, SqL.of hq7⟩, ?_⟩
      refine ⟨_, rfl, _, rfl, _, rfl, q, _, rfl, SqL.of hq7, fun p hp => ?_⟩
      have R8 := (OkB.refl R7.bag).new (o := .lst (cutV (bs.map V.int) (some (-1)) none)) hp
      refine ⟨p, lst bs, rfl, by rw [cut_last]; exact SqL.of upd_same, _, _, rfl, rfl, ?_⟩
      refine ⟨_, rfl, g, l, 9, rfl, R8.bag, by decide, by decide, fun d H8 d0 d1 r8 => ⟨_, _, rfl, rfl, ?_⟩⟩
      have hq8 := (R8.trans r8).at_ hq7 nq.1 nq.2
      refine ⟨q, _, _, rfl, rfl, hq8, by rw [List.length_map, hl]; exact Nat.lt_trans (show i < 13 by omega) (by decide), ?_⟩
      rw [lst_sum]
      have el : lastOf (bs ++ [lastOf bs + 1 + d]) = lastOf bs + 1 + d := by unfold lastOf; rw [List.getLastD_concat]
      refine ⟨bs ++ [lastOf bs + 1 + d], _, rfl, (R7.trans (R8.trans r8)).mut hq, ?_, by rw [List.length_append, hl]; rfl, hA.snoc hu (by omega) (by omega) (by omega), ?_, by rw [el]; omega, by rw [el]; omega⟩
      · rw [upd_same, List.map_append]
        rfl
      · intro b hb
        rw [el]
        rcases List.mem_append.mp hb with hb | hb
        · have := hu b hb
          omega
        · rw [List.mem_singleton] at hb
          omega
    · rintro σ H7 ⟨bs, v, rfl, R7, hq7, hl, hA, hu, e0, e1⟩
      refine ⟨_, rfl, q, _, rfl, .inl ⟨SqL.of hq7, fun y hy => ?_⟩⟩
      have R8 := R7.new (o := .tup (bs.map V.int)) hy
      refine ⟨_, rfl, g, l, 9, rfl, R8.bag, by decide, by decide, fun d H8 d0 d1 r8 => ⟨_, _, rfl, rfl, (by show 3 ≤ sizeLine; decide), fun x hx => ?_⟩⟩
      have hy8 := r8.tup (upd_same (H := H7) (a := y) (o := .tup (bs.map V.int)))
      obtain ⟨e, he⟩ : ∃ e : Nat, 1 + d = (e : Int) := ⟨(1 + d).toNat, by omega⟩
      show Q (.ref x) (upd H8 x (.tup [.str "days", .ref y, .int (1 + d)]))
      rw [he]
      refine k (.days bs e) x e _ ((r1.trans (R8.trans r8)).new hx) (by omega) (by omega) (fun L hL => ⟨by omega, by omega, by simpa using hL, by omega, hA⟩) rfl ⟨y, upd_same, ?_⟩
      rw [upd_ne (ne_of_none hy8 hx)]
      exact hy8
end k80
namespace k80
open PySem L2 LC RM
def spform : Sp := fun vs H Q _ => ∃ (g l : Addr), vs = [.ref g] ∧ Box l H g ∧
  ∀ (p : Pl) (x : Addr) (L : Nat) H', OkB g l H H' → 1 ≤ L → L ≤ 2000 → p.ok L → p.leaves ≤ 2 → PlanAt H' p x → Q (.ref x) H'
theorem ok_form {P : Program} {w : World} {K : PySem.W.Frag} {mg : Str → Option Value} {base : Heap} {f : Addr} {fd : FuncData} (D : Def K mg "_law_form" sform Pform f fd) (T : Txt K mg) {ftake : Addr} {fdtake : FuncData} (Dtake : Def K mg "_law_take" stake Ptake ftake fdtake) (Gtake : FnOk P w K mg base CX0 1 ftake fdtake Ptake (sptake)) {fplain_form : Addr} {fdplain_form : FuncData} (Dplain_form : Def K mg "_law_plain_form" splain_form Pplain_form fplain_form fdplain_form) (Gplain_form : FnOk P w K mg base CX0 2 fplain_form fdplain_form Pplain_form (spplain_form)) :
    FnOk P w K mg base CX0 3 f fd Pform (spform) := by
  refine D.F.ok scform (fun vs H Q E h => ?_) (fun cdv A outer s H vs Q E hr h => ?_)
  · obtain ⟨g, l, rfl, B, k⟩ := h
    rfl
  · obtain ⟨g, l, rfl, B, k⟩ := h
    have hrtake : Room 1 _ := hr.mono (by decide)
    have hrplain_form : Room 2 _ := hr.mono (by decide)
    refine ⟨_, (pss_cons (ps_set (i := 1) scform.nd rfl (Or.inl rfl) (pe_ix ix_tup (pe_tup (pa_cons pe_str (pa_cons pe_str (pa_cons pe_str (pa_cons pe_str (pa_cons pe_str (pa_cons pe_str pa_nil))))))) (pe_call Gtake hrtake rfl Dtake.g Dtake.F.kp Dtake.b .nil pass0 (pa_cons (pv 0) (pa_cons pe_int pa_nil))) (fun _ _ => rfl)))
        (pss_cons (ps_set (i := 2) scform.nd rfl (Or.inl rfl) (pe_call Gplain_form hrplain_form rfl Dplain_form.g Dplain_form.F.kp Dplain_form.b .nil pass0 (pa_cons (pv 0) pa_nil)))
        (pss_cons (ps_if (pt_cmpR op_eq (pv 1) pe_str (nomark _)) (pss_one (ps_ret (pv 2))) pss_nil)
        (pss_one (ps_ret (pe_tup (pa_cons (pv 1) (pa_cons (pv 2) (pa_cons (pe_call Gplain_form hrplain_form rfl Dplain_form.g Dplain_form.F.kp Dplain_form.b .nil pass0 (pa_cons (pv 0) pa_nil)) pa_nil))))))))), ?_⟩
    refine ⟨(by show 6 ≤ sizeLine; decide), fun tp htp => ?_⟩
    have R0 := (OkB.refl B).new (o := .tup [.str "plain", .str "plain", .str "plain", .str "later", .str "sooner", .str "next"]) htp
    refine ⟨_, rfl, g, l, 6, rfl, R0.bag, by decide, by decide, fun d H1 d0 d1 r1 => ?_⟩
    have ht1 := r1.tup (upd_same (H := H) (a := tp) (o := .tup [.str "plain", .str "plain", .str "plain", .str "later", .str "sooner", .str "next"]))
    obtain ⟨wd, hat, hwd⟩ : ∃ wd : Str, atI [V.str "plain", .str "plain", .str "plain", .str "later", .str "sooner", .str "next"] d = some (.str wd) ∧ (wd = "plain" ∨ wd = "later" ∨ wd = "sooner" ∨ wd = "next") := by
      obtain ⟨j, rfl⟩ : ∃ j : Nat, d = (j : Int) := ⟨d.toNat, by omega⟩
      match j, (show j < 6 by omega) with
      | 0, _ => exact ⟨_, rfl, .inl rfl⟩
      | 1, _ => exact ⟨_, rfl, .inl rfl⟩
      | 2, _ => exact ⟨_, rfl, .inl rfl⟩
      | 3, _ => exact ⟨_, rfl, .inr (.inl rfl)⟩
      | 4, _ => exact ⟨_, rfl, .inr (.inr (.inl rfl))⟩
      | 5, _ => exact ⟨_, rfl, .inr (.inr (.inr rfl))⟩
    refine ⟨_, _, _, _, rfl, rfl, SqT.of ht1, hat, ?_⟩
    refine ⟨_, rfl, g, l, rfl, r1.bag, fun p x e H2 r2 e0 e1 hok lv hp => ?_⟩
    have R2 := R0.trans (r1.trans r2)
    have two : ∀ (q : Pl) (y : Addr) (e2 : Nat) (H3 : Hp), OkB g l H2 H3 → 1 ≤ e2 → e2 ≤ 9 → (∀ L, e2 ∣ L → q.ok L) → q.leaves = 1 → PlanAt H3 q y → ∀ (z : Addr), H3 z = none → wd ≠ "plain" → Q (.ref z) (upd H3 z (.tup [.str wd, .ref x, .ref y])) := fun q y e2 H3 r3 f0 f1 hok2 lv2 hq z hz nw => by
      have s3 := same_new (o := .tup [.str wd, .ref x, .ref y]) hz
      have P1 : PlanAt (upd H3 z (.tup [.str wd, .ref x, .ref y])) p x := (hp.kt r3.kt).kt (Kt.same s3)
      have P2 : PlanAt (upd H3 z (.tup [.str wd, .ref x, .ref y])) q y := hq.kt (Kt.same s3)
      have L0 : 1 ≤ e * e2 := Nat.mul_le_mul e0 f0
      have L1 : e * e2 ≤ 9 * 9 := Nat.mul_le_mul e1 f1
      have o1 := hok (e * e2) (Nat.dvd_mul_right _ _)
      have o2 := hok2 (e * e2) (Nat.dvd_mul_left _ _)
      rcases hwd with rfl | rfl | rfl | rfl
      · exact absurd rfl nw
      · exact k (.lat p q) z (e * e2) _ ((R2.trans r3).new hz) L0 (by omega) ⟨o1, o2⟩ (by show p.leaves + q.leaves ≤ 2; omega) ⟨x, y, upd_same, P1, P2⟩
      · exact k (.soo p q) z (e * e2) _ ((R2.trans r3).new hz) L0 (by omega) ⟨o1, o2⟩ (by show p.leaves + q.leaves ≤ 2; omega) ⟨x, y, upd_same, P1, P2⟩
      · exact k (.nex p q) z (e * e2) _ ((R2.trans r3).new hz) L0 (by omega) ⟨o1, o2⟩ (by show p.leaves + q.leaves ≤ 2; omega) ⟨x, y, upd_same, P1, P2⟩
    rcases hwd with rfl | rfl | rfl | rfl
    · exact ⟨_, rfl, rfl, _, rfl, iteT ⟨_, rfl, k p x e _ R2 e0 (by omega) (hok e (Nat.dvd_refl _)) (by omega) hp⟩⟩
    all_goals
      exact ⟨_, rfl, rfl, _, rfl, iteF ⟨_, rfl, _, rfl, _, rfl, g, l, rfl, r2.bag, fun q y e2 H3 r3 f0 f1 h2 l2 hq => ⟨(by show 3 ≤ sizeLine; decide), fun z hz => two q y e2 H3 r3 f0 f1 h2 l2 hq z hz (by decide)⟩⟩⟩
end k80
namespace k80
open PySem L2 LC RM
def spafter (n : Nat) : Sp := fun vs H Q _ => ∃ (x : Addr) (p : Pl) (L : Nat) (s : Int), vs = [.ref x, .int s] ∧ PlanAt H p x ∧ p.ok L ∧ p.h < n ∧ ∀ H', Same H H' → Q (.int (p.at s)) H'
theorem no_after {vs : List V} {H : Hp} {Q : VK} {E : XK} (h : spafter 0 vs H Q E) : False := by
  obtain ⟨_, _, _, _, _, _, _, h, _⟩ := h
  exact Nat.not_lt_zero _ h

theorem step_after {P : Program} {w : World} {K : PySem.W.Frag} {mg : Str → Option Value} {base : Heap} {f : Addr} {fd : FuncData} (D : Def K mg "_law_after" safter Pafter f fd) (T : Txt K mg) {n : Nat} (Gafter : FnOk P w K mg base CX0 (n + 0) f fd Pafter (spafter n)) :
    FnOk P w K mg base CX0 (n + 1) f fd Pafter (spafter (n + 1)) := by
  refine D.F.ok scafter (fun vs H Q E h => ?_) (fun cdv A outer s H vs Q E hr h => ?_)
  · obtain ⟨x, p, L, s', rfl, hx, o, hh, k⟩ := h
    rfl
  · obtain ⟨x, p, L, s', rfl, hx, o, hh, k⟩ := h
    have Dafter := D
    have hrafter : Room (n + 0) _ := hr
    refine ⟨_, (pss_cons (ps_if (pt_cmpR op_eq (pe_ix ix_tup (pv 0) pe_int (fun _ _ => rfl)) pe_str (nomark _)) (pss_one (ps_ret (pe_op op_add (pv 1) (pe_ix ix_tup (pv 0) pe_int (fun _ _ => rfl))))) pss_nil)
        (pss_cons (ps_if (pt_cmpR op_eq (pe_ix ix_tup (pv 0) pe_int (fun _ _ => rfl)) pe_str (nomark _)) (pss_cons (ps_for PassesOwn.never rfl (pi_tup (pe_ix ix_tup (pv 0) pe_int (fun _ _ => rfl))) (pg_name (i := 2) scafter.nd rfl (Or.inl rfl))
          (pss_one (ps_if (pt_cmpR op_gt (pv 2) (pv 1) (nomark _)) (pss_one (ps_ret (pv 2))) pss_nil)))
        (pss_cons (ps_set (i := 3) scafter.nd rfl (Or.inl rfl) (pe_callB (LN.cr_sumT rfl) (by rfl) T.n_sum (by decide +kernel) (pa_cons (pe_slice sl_tupA (pe_ix ix_tup (pv 0) pe_int (fun _ _ => rfl)) (po_some (pe_un un_neg pe_int)) po_none) pa_nil)))
        (pss_one (ps_ret (pe_op op_add (pv 3) (pe_op op_mul (pe_op op_add (pe_op op_fdivN (pe_op op_sub (pv 1) (pv 3)) (pe_ix ix_tup (pv 0) pe_int (fun _ _ => rfl))) pe_int) (pe_ix ix_tup (pv 0) pe_int (fun _ _ => rfl)))))))) pss_nil)
        (pss_cons (ps_set (i := 4) scafter.nd rfl (Or.inl rfl) (pe_call Gafter hrafter rfl Dafter.g Dafter.F.kp Dafter.b .nil pass0 (pa_cons (pe_ix ix_tup (pv 0) pe_int (fun _ _ => rfl)) (pa_cons (pv 1) pa_nil))))
        (pss_cons (ps_if (pt_cmpR op_eq (pe_ix ix_tup (pv 0) pe_int (fun _ _ => rfl)) pe_str (nomark _)) (pss_one (ps_ret (pe_call Gafter hrafter rfl Dafter.g Dafter.F.kp Dafter.b .nil pass0 (pa_cons (pe_ix ix_tup (pv 0) pe_int (fun _ _ => rfl)) (pa_cons (pv 4) pa_nil))))) pss_nil)
        (pss_cons (ps_if (pt_cmpR op_eq (pe_ix ix_tup (pv 0) pe_int (fun _ _ => rfl)) pe_str (nomark _)) (pss_one (ps_ret (pe_callB (call_max2 rfl) (by rfl) T.n_max (by decide +kernel) (pa_cons (pv 4) (pa_cons (pe_call Gafter hrafter rfl Dafter.g Dafter.F.kp Dafter.b .nil pass0 (pa_cons (pe_ix ix_tup (pv 0) pe_int (fun _ _ => rfl)) (pa_cons (pv 1) pa_nil))) pa_nil))))) pss_nil)
        (pss_one (ps_ret (pe_callB (call_min2 rfl) (by rfl) T.n_min (by decide +kernel) (pa_cons (pv 4) (pa_cons (pe_call Gafter hrafter rfl Dafter.g Dafter.F.kp Dafter.b .nil pass0 (pa_cons (pe_ix ix_tup (pv 0) pe_int (fun _ _ => rfl)) (pa_cons (pv 1) pa_nil))) pa_nil)))))))))), ?_⟩
    cases p with
    | win w =>
      refine ⟨_, rfl, _, _, _, _, rfl, rfl, SqT.of hx, rfl, rfl, _, rfl, iteT ?_⟩
      exact ⟨_, rfl, _, rfl, _, _, _, _, rfl, rfl, SqT.of hx, rfl, _, _, rfl, rfl, k H (Same.refl _)⟩
    | days bs e =>
      obtain ⟨y, hx, hy⟩ := hx
      refine ⟨_, rfl, _, _, _, _, rfl, rfl, SqT.of hx, rfl, rfl, _, rfl, iteF ?_⟩
      refine ⟨_, rfl, _, _, _, _, rfl, rfl, SqT.of hx, rfl, rfl, _, rfl, iteT ?_⟩
      refine ⟨_, rfl, _, _, _, _, rfl, rfl, SqT.of hx, rfl, y, rfl, ⟨_, SqT.of hy⟩, for_tup (K := K) (a := y) (xs := bs.map V.int) (fun i σ H' => ∃ v : Option V, σ = [some (.ref x), some (.int s'), v, none, none] ∧ H' = H ∧ bs.find? (fun c => decide (c > s')) = (bs.drop i).find? (fun c => decide (c > s')))
        ⟨none, rfl, rfl, rfl⟩ (fun i σ H' _ ⟨_, _, e, _⟩ => by rw [e]; exact SqT.of hy) ?_ ?_⟩
      · rintro i yy σ H' hi ⟨v, rfl, rfl, hf⟩
        rw [List.getElem?_map] at hi
        obtain ⟨c, hc, rfl⟩ : ∃ c, bs[i]? = some c ∧ V.int c = yy := by
          cases q : bs[i]? with
          | none => rw [q] at hi; cases hi
          | some c => rw [q] at hi; exact ⟨c, rfl, Option.some.inj hi⟩
        obtain ⟨hlt, rfl⟩ := List.getElem?_eq_some_iff.mp hc
        rw [List.drop_eq_getElem_cons hlt, List.find?_cons] at hf
        refine ⟨_, rfl, _, rfl, _, _, rfl, rfl, _, rfl, ite_d (fun h1 => ?_) (fun h1 => ?_)⟩
        · rw [decide_eq_true (show bs[i] > s' from h1)] at hf
          refine ⟨_, rfl, ?_⟩
          have e1 : (Pl.days bs e).at s' = bs[i] := dayAt_some hf
          rw [← e1]
          exact k _ (Same.refl _)
        · rw [decide_eq_false (show ¬ bs[i] > s' from h1)] at hf
          exact ⟨_, rfl, rfl, hf⟩
      · rintro σ H' ⟨v, rfl, rfl, hf⟩
        rw [List.length_map, List.drop_length] at hf
        have e1 : (Pl.days bs e).at s' = lastOf bs + ((s' - lastOf bs) / e + 1) * e := dayAt_none hf
        have e0 := o.1
        have e2 := o.2.1
        have ed : (s' - lastOf bs).fdiv e = (s' - lastOf bs) / e := Int.fdiv_eq_ediv_of_nonneg _ (by omega)
        refine ⟨_, rfl, _, _, _, _, rfl, rfl, SqT.of hx, rfl, _, rfl, _, rfl, y, _, rfl, SqT.of hy, fun hw => ?_, fun _ d hn => ?_⟩
        · have hd : H' y = some (.tup ((lst bs).map V.int)) := by rw [cut_whole hw]; exact hy
          have s2 := Same.refl H'
          have hx2 := s2 _ _ hx
          refine ⟨_, _, rfl, SqT.of hd, ?_⟩
          rw [lst_sum]
          refine ⟨_, rfl, _, rfl, _, rfl, _, _, rfl, rfl, _, rfl, _, _, _, _, rfl, rfl, SqT.of hx2, rfl, _, _, rfl, rfl, ⟨by omega, by omega⟩, _, _, rfl, rfl, _, rfl, _, _, _, _, rfl, rfl, SqT.of hx2, rfl, _, _, rfl, rfl, .inr ⟨by omega, by omega⟩, _, _, rfl, rfl, ?_⟩
          show Q (.int (lastOf bs + ((s' - lastOf bs).fdiv e + 1) * e)) _
          rw [ed, ← e1]
          exact k _ s2
        · have hd : upd H' d (.tup (cutV (bs.map V.int) (some (-1)) none)) d = some (.tup ((lst bs).map V.int)) := by rw [← cut_last]; exact upd_same
          have s2 := same_new (o := .tup (cutV (bs.map V.int) (some (-1)) none)) hn
          have hx2 := s2 _ _ hx
          refine ⟨_, _, rfl, SqT.of hd, ?_⟩
          rw [lst_sum]
          refine ⟨_, rfl, _, rfl, _, rfl, _, _, rfl, rfl, _, rfl, _, _, _, _, rfl, rfl, SqT.of hx2, rfl, _, _, rfl, rfl, ⟨by omega, by omega⟩, _, _, rfl, rfl, _, rfl, _, _, _, _, rfl, rfl, SqT.of hx2, rfl, _, _, rfl, rfl, .inr ⟨by omega, by omega⟩, _, _, rfl, rfl, ?_⟩
          show Q (.int (lastOf bs + ((s' - lastOf bs).fdiv e + 1) * e)) _
          rw [ed, ← e1]
          exact k _ s2
    | lat p q =>
      obtain ⟨y, z, hx, hp, hq⟩ := hx
      have hh' : 1 + max p.h q.h < n + 1 := hh
      refine ⟨_, rfl, _, _, _, _, rfl, rfl, SqT.of hx, rfl, rfl, _, rfl, iteF ?_⟩
      refine ⟨_, rfl, _, _, _, _, rfl, rfl, SqT.of hx, rfl, rfl, _, rfl, iteF ?_⟩
      refine ⟨_, rfl, _, _, _, _, rfl, rfl, SqT.of hx, rfl, _, rfl, y, p, L, s', rfl, hp, o.1, by omega, fun H1 s1 => ?_⟩
      refine ⟨_, rfl, _, _, _, _, rfl, rfl, SqT.of (s1 _ _ hx), rfl, rfl, _, rfl, iteF ?_⟩
      refine ⟨_, rfl, _, _, _, _, rfl, rfl, SqT.of (s1 _ _ hx), rfl, rfl, _, rfl, iteT ?_⟩
      exact ⟨_, rfl, _, rfl, _, _, _, _, rfl, rfl, SqT.of (s1 _ _ hx), rfl, _, rfl, z, q, L, s', rfl, hq.kt (Kt.same s1), o.2, by omega, fun H2 s2 => ⟨_, _, rfl, k H2 (s1.trans s2)⟩⟩
    | soo p q =>
      obtain ⟨y, z, hx, hp, hq⟩ := hx
      have hh' : 1 + max p.h q.h < n + 1 := hh
      refine ⟨_, rfl, _, _, _, _, rfl, rfl, SqT.of hx, rfl, rfl, _, rfl, iteF ?_⟩
      refine ⟨_, rfl, _, _, _, _, rfl, rfl, SqT.of hx, rfl, rfl, _, rfl, iteF ?_⟩
      refine ⟨_, rfl, _, _, _, _, rfl, rfl, SqT.of hx, rfl, _, rfl, y, p, L, s', rfl, hp, o.1, by omega, fun H1 s1 => ?_⟩
      refine ⟨_, rfl, _, _, _, _, rfl, rfl, SqT.of (s1 _ _ hx), rfl, rfl, _, rfl, iteF ?_⟩
      refine ⟨_, rfl, _, _, _, _, rfl, rfl, SqT.of (s1 _ _ hx), rfl, rfl, _, rfl, iteF ?_⟩
      exact ⟨_, rfl, _, rfl, _, _, _, _, rfl, rfl, SqT.of (s1 _ _ hx), rfl, _, rfl, z, q, L, s', rfl, hq.kt (Kt.same s1), o.2, by omega, fun H2 s2 => ⟨_, _, rfl, k H2 (s1.trans s2)⟩⟩
    | nex p q =>
      obtain ⟨y, z, hx, hp, hq⟩ := hx
      have hh' : 1 + max p.h q.h < n + 1 := hh
      refine ⟨_, rfl, _, _, _, _, rfl, rfl, SqT.of hx, rfl, rfl, _, rfl, iteF ?_⟩
      refine ⟨_, rfl, _, _, _, _, rfl, rfl, SqT.of hx, rfl, rfl, _, rfl, iteF ?_⟩
      refine ⟨_, rfl, _, _, _, _, rfl, rfl, SqT.of hx, rfl, _, rfl, y, p, L, s', rfl, hp, o.1, by omega, fun H1 s1 => ?_⟩
      refine ⟨_, rfl, _, _, _, _, rfl, rfl, SqT.of (s1 _ _ hx), rfl, rfl, _, rfl, iteT ?_⟩
      exact ⟨_, rfl, _, _, _, _, rfl, rfl, SqT.of (s1 _ _ hx), rfl, _, rfl, z, q, L, _, rfl, hq.kt (Kt.same s1), o.2, by omega, fun H2 s2 => k H2 (s1.trans s2)⟩
theorem ok_after {P : Program} {w : World} {K : PySem.W.Frag} {mg : Str → Option Value} {base : Heap} {f : Addr} {fd : FuncData} (D : Def K mg "_law_after" safter Pafter f fd) (T : Txt K mg) :
    FnOk P w K mg base CX0 3 f fd Pafter (spafter 3) := by
  have go : ∀ n : Nat, FnOk P w K mg base CX0 (n + 0) f fd Pafter (spafter n) := fun n => by
    induction n with
    | zero => exact LC.fn_none fun vs H Q E h => no_after h
    | succ n ih => exact step_after D T ih
  exact go 3
end k80
namespace k80
open PySem L2 LC RM
def spmade (a : Ad) (n : Nat) : Sp := fun vs H Q _ => ∃ (g : Addr → Prop) (x : Addr) (p : Pl) (L : Nat), vs = [.ref x] ∧ PlanAt H p x ∧ p.ok L ∧ 0 < L ∧ L ≤ 2000 ∧ p.leaves ≤ 3 ∧ p.h < n ∧ (∀ c, g c → ∃ o, H c = some o) ∧ ∀ (y : Addr) H', Same H H' → RestAt a g H' p y → Q (.ref y) H'
theorem no_made {a : Ad} {vs : List V} {H : Hp} {Q : VK} {E : XK} (h : spmade a 0 vs H Q E) : False := by
  obtain ⟨_, _, _, _, _, _, _, _, _, _, h, _⟩ := h
  exact Nat.not_lt_zero _ h
theorem same_two {H : Hp} {x dx : Addr} {o o' : HO} (hx : H x = none) (hdx : H dx = none) : Same H (upd (upd H dx o) x o') := same_upd hx (same_new hdx)
theorem ne_gone {H : Hp} {x : Addr} {g : Addr → Prop} (hx : H x = none) (hg : ∀ c, g c → ∃ o, H c = some o) : ¬ g x := fun z => by
  obtain ⟨o, e⟩ := hg x z
  rw [hx] at e
  cases e

theorem step_made {P : Program} {w : World} {K : PySem.W.Frag} {mg : Str → Option Value} {base : Heap} {f : Addr} {fd : FuncData} (D : Def K mg "_law_made" smade Pmade f fd) (T : Txt K mg) {a : Ad} (KN : Kn K mg a) (IWindow : FnR P w K mg base CX0 4 a.Wi (spWindow_init K a)) (IDays : FnR P w K mg base CX0 4 a.Di (spDays_init K a)) (ILater : FnR P w K mg base CX0 4 a.Li (spLater_init K a)) (ISooner : FnR P w K mg base CX0 4 a.Si (spSooner_init K a)) (INext : FnR P w K mg base CX0 4 a.Ni (spNext_init K a)) {n : Nat} (Gmade : FnOk P w K mg base CX0 (n + 5) f fd Pmade (spmade a n)) :
    FnOk P w K mg base CX0 (n + 6) f fd Pmade (spmade a (n + 1)) := by
  refine D.F.ok scmade (fun vs H Q E h => ?_) (fun cdv A outer s H vs Q E hr h => ?_)
  · obtain ⟨g, x, p, L, rfl, hx, o, L0, L1, hl, hh, hg, k⟩ := h
    rfl
  · obtain ⟨g, x, p, L, rfl, hx, o, L0, L1, hl, hh, hg, k⟩ := h
    have Dmade := D
    have hrmade : Room (n + 5) _ := hr
    have hrI : Room 5 _ := hr.mono (by omega)
    refine ⟨_, (pss_cons (ps_if (pt_cmpR op_eq (pe_ix ix_tup (pv 0) pe_int (fun _ _ => rfl)) pe_str (nomark _)) (pss_one (ps_ret (StX.pe_makeR KN.mWindow IWindow hrI rfl KN.gWindow pass0 (pa_cons (pe_ix ix_tup (pv 0) pe_int (fun _ _ => rfl)) pa_nil)))) pss_nil)
        (pss_cons (ps_if (pt_cmpR op_eq (pe_ix ix_tup (pv 0) pe_int (fun _ _ => rfl)) pe_str (nomark _)) (pss_one (ps_ret (StX.pe_makeR KN.mDays IDays hrI rfl KN.gDays pass0 (pa_cons (pe_callTy call_list_of (by rfl) T.n_list (by decide +kernel) (pa_cons (pe_ix ix_tup (pv 0) pe_int (fun _ _ => rfl)) pa_nil)) (pa_cons (pe_ix ix_tup (pv 0) pe_int (fun _ _ => rfl)) pa_nil))))) pss_nil)
        (pss_cons (ps_if (pt_cmpR op_eq (pe_ix ix_tup (pv 0) pe_int (fun _ _ => rfl)) pe_str (nomark _)) (pss_one (ps_ret (StX.pe_makeR KN.mLater ILater hrI rfl KN.gLater pass0 (pa_cons (pe_call Gmade hrmade rfl Dmade.g Dmade.F.kp Dmade.b .nil pass0 (pa_cons (pe_ix ix_tup (pv 0) pe_int (fun _ _ => rfl)) pa_nil)) (pa_cons (pe_call Gmade hrmade rfl Dmade.g Dmade.F.kp Dmade.b .nil pass0 (pa_cons (pe_ix ix_tup (pv 0) pe_int (fun _ _ => rfl)) pa_nil)) pa_nil))))) pss_nil)
        (pss_cons (ps_if (pt_cmpR op_eq (pe_ix ix_tup (pv 0) pe_int (fun _ _ => rfl)) pe_str (nomark _)) (pss_one (ps_ret (StX.pe_makeR KN.mSooner ISooner hrI rfl KN.gSooner pass0 (pa_cons (pe_call Gmade hrmade rfl Dmade.g Dmade.F.kp Dmade.b .nil pass0 (pa_cons (pe_ix ix_tup (pv 0) pe_int (fun _ _ => rfl)) pa_nil)) (pa_cons (pe_call Gmade hrmade rfl Dmade.g Dmade.F.kp Dmade.b .nil pass0 (pa_cons (pe_ix ix_tup (pv 0) pe_int (fun _ _ => rfl)) pa_nil)) pa_nil))))) pss_nil)
        (pss_one (ps_ret (StX.pe_makeR KN.mNext INext hrI rfl KN.gNext pass0 (pa_cons (pe_call Gmade hrmade rfl Dmade.g Dmade.F.kp Dmade.b .nil pass0 (pa_cons (pe_ix ix_tup (pv 0) pe_int (fun _ _ => rfl)) pa_nil)) (pa_cons (pe_call Gmade hrmade rfl Dmade.g Dmade.F.kp Dmade.b .nil pass0 (pa_cons (pe_ix ix_tup (pv 0) pe_int (fun _ _ => rfl)) pa_nil)) pa_nil))))))))), ?_⟩
    cases p with
    | win w =>
      refine ⟨_, rfl, _, _, _, _, rfl, rfl, SqT.of hx, rfl, rfl, _, rfl, iteT ?_⟩
      refine ⟨_, rfl, _, _, _, _, rfl, rfl, SqT.of hx, rfl, fun y dy hy hdy ne => ⟨y, dy, g, w, H, rfl, upd_same, hy, ne_gone hy hg, same_two hy hdy, o.1, o.2, fun H' s' R => ⟨rfl, k y H' s' R⟩⟩⟩
    | days bs e =>
      obtain ⟨z, hx, hz⟩ := hx
      refine ⟨_, rfl, _, _, _, _, rfl, rfl, SqT.of hx, rfl, rfl, _, rfl, iteF ?_⟩
      refine ⟨_, rfl, _, _, _, _, rfl, rfl, SqT.of hx, rfl, rfl, _, rfl, iteT ?_⟩
      refine ⟨_, rfl, _, _, _, _, rfl, rfl, SqT.of hx, rfl, _, _, rfl, .inr (SqT.of hz), fun b hb => ?_⟩
      have s1 := same_new (o := .lst (bs.map V.int)) hb
      have hb1 : upd H b (.lst (bs.map V.int)) b = some (.lst (bs.map V.int)) := upd_same
      generalize upd H b (.lst (bs.map V.int)) = H1 at s1 hb1 ⊢
      have hg1 : ∀ c, g c → ∃ o, H1 c = some o := fun c z => by obtain ⟨u, e⟩ := hg c z; exact ⟨u, s1 _ _ e⟩
      refine ⟨_, rfl, _, _, _, _, rfl, rfl, SqT.of (s1 _ _ hx), rfl, fun y dy hy hdy ne => ⟨y, dy, g, b, bs, e, H1, rfl, upd_same, hy, ne_gone hy hg1, same_two hy hdy, hg1, hb1, o.2.2.2.1, o.2.2.2.2, o.1, o.2.1, fun H' s' R => ⟨rfl, k y H' (s1.trans s') R⟩⟩⟩
    | lat p q =>
      obtain ⟨y, z, hx, hp, hq⟩ := hx
      have hh' : 1 + max p.h q.h < n + 1 := hh
      have hl' : p.leaves + q.leaves ≤ 3 := hl
      have lp := p.leaves_pos
      have lq := q.leaves_pos
      have fp := p.forms_eq
      have fq := q.forms_eq
      have gp := p.h_lt
      have gq := q.h_lt
      refine ⟨_, rfl, _, _, _, _, rfl, rfl, SqT.of hx, rfl, rfl, _, rfl, iteF ?_⟩
      refine ⟨_, rfl, _, _, _, _, rfl, rfl, SqT.of hx, rfl, rfl, _, rfl, iteF ?_⟩
      refine ⟨_, rfl, _, _, _, _, rfl, rfl, SqT.of hx, rfl, rfl, _, rfl, iteT ?_⟩
      refine ⟨_, rfl, _, _, _, _, rfl, rfl, SqT.of hx, rfl, g, y, p, L, rfl, hp, o.1, L0, L1, by omega, by omega, hg, fun y1 H1 s1 R1 => ?_⟩
      have hg1 : ∀ c, g c → ∃ o, H1 c = some o := fun c z => by obtain ⟨u, e⟩ := hg c z; exact ⟨u, s1 _ _ e⟩
      refine ⟨_, rfl, _, _, _, _, rfl, rfl, SqT.of (s1 _ _ hx), rfl, g, z, q, L, rfl, hq.kt (Kt.same s1), o.2, L0, L1, by omega, by omega, hg1, fun y2 H2 s2 R2 => ?_⟩
      have s12 := s1.trans s2
      have hg2 : ∀ c, g c → ∃ o, H2 c = some o := fun c z => by obtain ⟨u, e⟩ := hg c z; exact ⟨u, s12 _ _ e⟩
      exact fun w dw hw hdw ne => ⟨w, dw, g, y1, y2, p, q, L, H2, rfl, upd_same, hw, ne_gone hw hg2, same_two hw hdw, R1.same s2, R2, o.1, o.2, L0, L1, by omega, by omega, by omega, fun H' s' R => ⟨rfl, k w H' (s12.trans s') R⟩⟩
    | soo p q =>
      obtain ⟨y, z, hx, hp, hq⟩ := hx
      have hh' : 1 + max p.h q.h < n + 1 := hh
      have hl' : p.leaves + q.leaves ≤ 3 := hl
      have lp := p.leaves_pos
      have lq := q.leaves_pos
      have fp := p.forms_eq
      have fq := q.forms_eq
      have gp := p.h_lt
      have gq := q.h_lt
      refine ⟨_, rfl, _, _, _, _, rfl, rfl, SqT.of hx, rfl, rfl, _, rfl, iteF ?_⟩
      refine ⟨_, rfl, _, _, _, _, rfl, rfl, SqT.of hx, rfl, rfl, _, rfl, iteF ?_⟩
      refine ⟨_, rfl, _, _, _, _, rfl, rfl, SqT.of hx, rfl, rfl, _, rfl, iteF ?_⟩
      refine ⟨_, rfl, _, _, _, _, rfl, rfl, SqT.of hx, rfl, rfl, _, rfl, iteT ?_⟩
      refine ⟨_, rfl, _, _, _, _, rfl, rfl, SqT.of hx, rfl, g, y, p, L, rfl, hp, o.1, L0, L1, by omega, by omega, hg, fun y1 H1 s1 R1 => ?_⟩
      have hg1 : ∀ c, g c → ∃ o, H1 c = some o := fun c z => by obtain ⟨u, e⟩ := hg c z; exact ⟨u, s1 _ _ e⟩
      refine ⟨_, rfl, _, _, _, _, rfl, rfl, SqT.of (s1 _ _ hx), rfl, g, z, q, L, rfl, hq.kt (Kt.same s1), o.2, L0, L1, by omega, by omega, hg1, fun y2 H2 s2 R2 => ?_⟩
      have s12 := s1.trans s2
      have hg2 : ∀ c, g c → ∃ o, H2 c = some o := fun c z => by obtain ⟨u, e⟩ := hg c z; exact ⟨u, s12 _ _ e⟩
      exact fun w dw hw hdw ne => ⟨w, dw, g, y1, y2, p, q, L, H2, rfl, upd_same, hw, ne_gone hw hg2, same_two hw hdw, R1.same s2, R2, o.1, o.2, L0, L1, by omega, by omega, by omega, fun H' s' R => ⟨rfl, k w H' (s12.trans s') R⟩⟩
    | nex p q =>
      obtain ⟨y, z, hx, hp, hq⟩ := hx
      have hh' : 1 + max p.h q.h < n + 1 := hh
      have hl' : p.leaves + q.leaves ≤ 3 := hl
      have lp := p.leaves_pos
      have lq := q.leaves_pos
      have fp := p.forms_eq
      have fq := q.forms_eq
      have gp := p.h_lt
      have gq := q.h_lt
      refine ⟨_, rfl, _, _, _, _, rfl, rfl, SqT.of hx, rfl, rfl, _, rfl, iteF ?_⟩
      refine ⟨_, rfl, _, _, _, _, rfl, rfl, SqT.of hx, rfl, rfl, _, rfl, iteF ?_⟩
      refine ⟨_, rfl, _, _, _, _, rfl, rfl, SqT.of hx, rfl, rfl, _, rfl, iteF ?_⟩
      refine ⟨_, rfl, _, _, _, _, rfl, rfl, SqT.of hx, rfl, rfl, _, rfl, iteF ?_⟩
      refine ⟨_, rfl, _, _, _, _, rfl, rfl, SqT.of hx, rfl, g, y, p, L, rfl, hp, o.1, L0, L1, by omega, by omega, hg, fun y1 H1 s1 R1 => ?_⟩
      have hg1 : ∀ c, g c → ∃ o, H1 c = some o := fun c z => by obtain ⟨u, e⟩ := hg c z; exact ⟨u, s1 _ _ e⟩
      refine ⟨_, rfl, _, _, _, _, rfl, rfl, SqT.of (s1 _ _ hx), rfl, g, z, q, L, rfl, hq.kt (Kt.same s1), o.2, L0, L1, by omega, by omega, hg1, fun y2 H2 s2 R2 => ?_⟩
      have s12 := s1.trans s2
      have hg2 : ∀ c, g c → ∃ o, H2 c = some o := fun c z => by obtain ⟨u, e⟩ := hg c z; exact ⟨u, s12 _ _ e⟩
      exact fun w dw hw hdw ne => ⟨w, dw, g, y1, y2, p, q, L, H2, rfl, upd_same, hw, ne_gone hw hg2, same_two hw hdw, R1.same s2, R2, o.1, o.2, L0, L1, by omega, by omega, by omega, fun H' s' R => ⟨rfl, k w H' (s12.trans s') R⟩⟩
theorem ok_made {P : Program} {w : World} {K : PySem.W.Frag} {mg : Str → Option Value} {base : Heap} {f : Addr} {fd : FuncData} (D : Def K mg "_law_made" smade Pmade f fd) (T : Txt K mg) {a : Ad} (KN : Kn K mg a) (IWindow : FnR P w K mg base CX0 4 a.Wi (spWindow_init K a)) (IDays : FnR P w K mg base CX0 4 a.Di (spDays_init K a)) (ILater : FnR P w K mg base CX0 4 a.Li (spLater_init K a)) (ISooner : FnR P w K mg base CX0 4 a.Si (spSooner_init K a)) (INext : FnR P w K mg base CX0 4 a.Ni (spNext_init K a)) :
    FnOk P w K mg base CX0 8 f fd Pmade (spmade a 3) := by
  have go : ∀ n : Nat, FnOk P w K mg base CX0 (n + 5) f fd Pmade (spmade a n) := fun n => by
    induction n with
    | zero => exact LC.fn_none fun vs H Q E h => no_made h
    | succ n ih => exact step_made D T KN IWindow IDays ILater ISooner INext ih
  exact go 3
end k80
namespace k80
open PySem L2 LC RM
def sprows : Sp := fun vs H Q _ => ∃ (g l : Addr) (sz er de : Int), vs = [.ref g, .int sz, .int er, .int de] ∧ Box l H g ∧ 1 ≤ sz ∧ sz ≤ 6 ∧ 0 ≤ er ∧ er ≤ 100 ∧ 0 ≤ de ∧ de ≤ 100 ∧
  ∀ (rs : List Rw) (L : Addr) H', OkB g l H H' → L ≠ g → L ≠ l → LRows H' L rs → Q (.ref L) H'
theorem ok_rows {P : Program} {w : World} {K : PySem.W.Frag} {mg : Str → Option Value} {base : Heap} {f : Addr} {fd : FuncData} (D : Def K mg "_law_rows" srows Prows f fd) (T : Txt K mg) {ftake : Addr} {fdtake : FuncData} (Dtake : Def K mg "_law_take" stake Ptake ftake fdtake) (Gtake : FnOk P w K mg base CX0 1 ftake fdtake Ptake (sptake)) :
    FnOk P w K mg base CX0 2 f fd Prows (sprows) := by
  refine D.F.ok scrows (fun vs H Q E h => ?_) (fun cdv A outer s H vs Q E hr h => ?_)
  · obtain ⟨g, l, sz, er, de, rfl, B, z0, z1, e0, e1, d0, d1, k⟩ := h
    rfl
  · obtain ⟨g, l, sz, er, de, rfl, B, z0, z1, e0, e1, d0, d1, k⟩ := h
    have hrtake : Room 1 _ := hr.mono (by decide)
    refine ⟨_, (pss_cons (ps_set (i := 4) scrows.nd rfl (Or.inl rfl) (pe_lst (pa_cons pe_str (pa_cons pe_str (pa_cons pe_str (pa_cons pe_str (pa_cons pe_str (pa_cons pe_str pa_nil))))))))
        (pss_cons (ps_set (i := 5) scrows.nd rfl (Or.inl rfl) (pe_call Gtake hrtake rfl Dtake.g Dtake.F.kp Dtake.b .nil pass0 (pa_cons (pv 0) (pa_cons pe_int pa_nil))))
        (pss_cons (ps_set (i := 6) scrows.nd rfl (Or.inl rfl) (pe_lst (pa_cons (pe_tup (pa_cons (pe_ix ix_list (pv 4) (pv 5) (fun _ _ => rfl)) (pa_cons pe_non (pa_cons (pe_call Gtake hrtake rfl Dtake.g Dtake.F.kp Dtake.b .nil pass0 (pa_cons (pv 0) (pa_cons (pe_op op_add (pv 2) pe_int) pa_nil))) (pa_cons pe_int pa_nil))))) pa_nil)))
        (pss_cons (ps_for PassesOwn.never rfl (pi_range2 rfl T.n_range (pa_cons pe_int (pa_cons (pe_callB (call_min2 rfl) (by rfl) T.n_min (by decide +kernel) (pa_cons (pv 1) (pa_cons pe_int pa_nil))) pa_nil))) (pg_name (i := 7) scrows.nd rfl (Or.inl rfl))
          (pss_cons (ps_set (i := 8) scrows.nd rfl (Or.inl rfl) (pe_ix ix_tup (pe_ix ix_list (pv 6) (pe_call Gtake hrtake rfl Dtake.g Dtake.F.kp Dtake.b .nil pass0 (pa_cons (pv 0) (pa_cons (pe_callB call_len_seq (by rfl) T.n_len PySem.boot_len (pa_cons (pv 6) pa_nil)) pa_nil))) (fun _ _ => rfl)) pe_int (fun _ _ => rfl)))
        (pss_one (ps_expr (pe_bm PySem.F.plainAttrs_list PySem.F.slot_list_append PySem.F.type_list_append mt_append (pv 6) (pa_cons (pe_tup (pa_cons (pe_ix ix_list (pv 4) (pe_op op_mod (pe_op op_add (pv 5) (pe_op op_mul (pv 7) pe_int)) pe_int) (fun _ _ => rfl)) (pa_cons (pv 8) (pa_cons (pe_call Gtake hrtake rfl Dtake.g Dtake.F.kp Dtake.b .nil pass0 (pa_cons (pv 0) (pa_cons (pe_op op_add (pv 2) pe_int) pa_nil))) (pa_cons (pe_call Gtake hrtake rfl Dtake.g Dtake.F.kp Dtake.b .nil pass0 (pa_cons (pv 0) (pa_cons (pe_op op_add (pv 3) pe_int) pa_nil))) pa_nil))))) pa_nil))))))
        (pss_one (ps_ret (pv 6))))))), ?_⟩
    refine ⟨(by show 6 ≤ sizeLine; decide), fun N hN => ?_⟩
    have nN := B.ne hN
    have R0 := (OkB.refl B).new (o := .lst (six.map V.str)) hN
    refine ⟨_, rfl, g, l, 6, rfl, R0.bag, by decide, by decide, fun sh H1 s0 s1 r1 => ?_⟩
    have hN1 := r1.at_ (upd_same (H := H) (a := N) (o := .lst (six.map V.str))) nN.1 nN.2
    have R1 := R0.trans r1
    obtain ⟨s, rfl⟩ : ∃ s : Nat, sh = (s : Int) := ⟨sh.toNat, by omega⟩
    have hs : s < 6 := by omega
    have h0 : atI (six.map V.str) (s : Int) = some (.str (nmAt s 0)) := by
      have e : ((s : Int) + ((0 : Nat) : Int) * 5) % 6 = (s : Int) := by omega
      rw [← nm_at, e]
    refine ⟨_, rfl, _, rfl, _, _, _, _, rfl, rfl, SqL.of hN1, h0, _, rfl, _, rfl, _, _, rfl, rfl, g, l, er + 1, rfl, R1.bag, by omega, by omega, fun a H2 a0 a1 r2 => ?_⟩
    have hN2 := r2.at_ hN1 nN.1 nN.2
    have R2 := R1.trans r2
    refine ⟨(by show 4 ≤ sizeLine; decide), fun t ht => ?_⟩
    have R3 := R2.new (o := rowV ⟨nmAt s 0, none, a, 0⟩) ht
    have ht3 : upd H2 t (rowV ⟨nmAt s 0, none, a, 0⟩) t = some (rowV ⟨nmAt s 0, none, a, 0⟩) := upd_same
    have hN3 : upd H2 t (rowV ⟨nmAt s 0, none, a, 0⟩) N = some (.lst (six.map V.str)) := by rw [upd_ne (ne_of_none hN2 ht)]; exact hN2
    refine ⟨(by show 1 ≤ sizeLine; decide), fun L hL => ?_⟩
    have nL := R3.bag.ne hL
    obtain ⟨w0, wn⟩ := Rws.one (r := ⟨nmAt s 0, none, a, 0⟩) hs rfl ⟨a0, by show a ≤ 100; omega⟩ rfl rfl
    have R4 := (OkB.refl R3.bag).new (o := .lst [V.ref t]) hL
    have hL4 : upd (upd H2 t (rowV ⟨nmAt s 0, none, a, 0⟩)) L (.lst [V.ref t]) L = some (.lst [V.ref t]) := upd_same
    have ht4 : upd (upd H2 t (rowV ⟨nmAt s 0, none, a, 0⟩)) L (.lst [V.ref t]) t = some (rowV ⟨nmAt s 0, none, a, 0⟩) := R4.tup ht3
    have hN4 : upd (upd H2 t (rowV ⟨nmAt s 0, none, a, 0⟩)) L (.lst [V.ref t]) N = some (.lst (six.map V.str)) := R4.at_ hN3 nN.1 nN.2
    have NL : N ≠ L := ne_of_none hN3 hL
    refine ⟨_, rfl, _, _, rfl, ?_⟩
    rw [if_neg (show ¬ ((6 : Int) < sz) by omega)]
    refine ⟨_, _, rfl, ⟨by decide, by decide, by omega, by omega⟩, ?_⟩
    refine for_range (lo := 1) (n := (sz - 1).toNat) (fun i σ H' => ∃ (rs : List Rw) (xs : List Addr) (v7 v8 : Option V), σ = [some (.ref g), some (.int sz), some (.int er), some (.int de), some (.ref N), some (.int (s : Int)), some (.ref L), v7, v8] ∧ OkB g l (upd H2 t (rowV ⟨nmAt s 0, none, a, 0⟩)) H' ∧ H' N = some (.lst (six.map V.str)) ∧ H' L = some (.lst (xs.map V.ref)) ∧ RowsAt H' rs xs ∧ Rws rs ∧ (∀ (i : Nat) (x : Rw), rs[i]? = some x → x.nm = nmAt s i) ∧ rs.length = i + 1)
      ⟨[⟨nmAt s 0, none, a, 0⟩], [t], none, none, rfl, R4, hN4, hL4, .cons ht4 .nil, w0, wn, rfl⟩ ?_ ?_
    · rintro i σ H5 hi ⟨rs, xs, v7, v8, rfl, R5, hN5, hL5, at5, w5, n5, len5⟩
      have lx := at5.len
      refine ⟨_, rfl, _, rfl, _, rfl, _, _, rfl, .inl (SqL.of hL5), ?_⟩
      refine ⟨g, l, _, rfl, R5.bag, by rw [List.length_map, lx, len5]; omega, by rw [List.length_map, lx, len5]; omega, fun d H6 c0 c1 r6 => ?_⟩
      rw [List.length_map, lx] at c1
      have hL6 := r6.at_ hL5 nL.1 nL.2
      have hN6 := r6.at_ hN5 nN.1 nN.2
      have at6 := at5.kp fun b ys e => r6.tup e
      obtain ⟨q, rfl⟩ : ∃ q : Nat, d = (q : Int) := ⟨d.toNat, by omega⟩
      have hq : q < rs.length := by omega
      obtain ⟨x, hx, hx2⟩ := at6.get (List.getElem?_eq_getElem hq)
      refine ⟨_, _, _, _, rfl, rfl, SqL.of hL6, atI_nat (by rw [List.getElem?_map, hx]; rfl), _, _, _, _, rfl, rfl, SqT.of hx2, rfl, ?_⟩
      have hat : atI (six.map V.str) (((s : Int) + (1 + (i : Int)) * 5) % 6) = some (.str (nmAt s rs.length)) := by
        have e : (1 + (i : Int)) = ((rs.length : Nat) : Int) := by omega
        rw [e]
        exact nm_at
      refine ⟨_, rfl, .inl ⟨rfl, _, SqL.of hL6⟩, _, rfl, _, rfl, _, rfl, _, _, rfl, rfl, .inr ⟨by decide, by decide⟩, _, _, rfl, rfl, _, _, rfl, rfl, (by show (0 : Int) < 6; decide), _, _, _, _, rfl, rfl, SqL.of hN6, hat, _, rfl, _, rfl, _, rfl, _, _, rfl, rfl, g, l, er + 1, rfl, r6.bag, by omega, by omega, fun a2 H7 a0' a1' r7 => ?_⟩
      refine ⟨_, rfl, _, rfl, _, _, rfl, rfl, g, l, de + 1, rfl, r7.bag, by omega, by omega, fun b2 H8 b0 b1 r8 => ⟨(by show 4 ≤ sizeLine; decide), fun t2 ht2 => ?_⟩⟩
      have r68 := r6.trans (r7.trans r8)
      have hL8 := r68.at_ hL5 nL.1 nL.2
      have hN8 := r68.at_ hN5 nN.1 nN.2
      have at8 := at5.kp fun b ys e => r68.tup e
      have s9 := same_new (o := rowV ⟨nmAt s rs.length, some (rs[q]).nm, a2, b2⟩) ht2
      have R9 := (R5.trans r68).new (o := rowV ⟨nmAt s rs.length, some (rs[q]).nm, a2, b2⟩) ht2
      have ht9 : upd H8 t2 (rowV ⟨nmAt s rs.length, some (rs[q]).nm, a2, b2⟩) t2 = some (rowV ⟨nmAt s rs.length, some (rs[q]).nm, a2, b2⟩) := upd_same
      have at9 := (at8.kp fun b ys e => s9 _ _ e).snoc ht9
      refine ⟨L, _, _, rfl, rfl, s9 _ _ hL8, by rw [List.length_map, lx]; exact Nat.lt_of_lt_of_le (show rs.length < 7 by omega) (by decide), ?_⟩
      have e9 : ∀ b o, b ≠ L → upd H8 t2 (rowV ⟨nmAt s rs.length, some (rs[q]).nm, a2, b2⟩) b = some o → upd (upd H8 t2 (rowV ⟨nmAt s rs.length, some (rs[q]).nm, a2, b2⟩)) L (.lst (xs.map V.ref ++ [.ref t2])) b = some o := fun b o n e => by rw [upd_ne n]; exact e
      have atE : RowsAt (upd (upd H8 t2 (rowV ⟨nmAt s rs.length, some (rs[q]).nm, a2, b2⟩)) L (.lst (xs.map V.ref ++ [.ref t2]))) (rs ++ [⟨nmAt s rs.length, some (rs[q]).nm, a2, b2⟩]) (xs ++ [t2]) := at9.kp fun b ys e => e9 _ _ (fun z => by rw [z, s9 _ _ hL8] at e; cases e) e
      obtain ⟨w9, n9⟩ := w5.snoc hs n5 (by omega) (r := ⟨nmAt s rs.length, some (rs[q]).nm, a2, b2⟩) rfl ⟨a0', by show a2 ≤ 100; omega⟩ ⟨b0, by show b2 ≤ 100; omega⟩ ⟨rs[q], List.getElem_mem _, rfl⟩
      refine ⟨rs ++ [Rw.mk (nmAt s rs.length) (some (rs[q]).nm) a2 b2], xs ++ [t2], _, _, rfl, R9.mut hL, e9 _ _ NL (s9 _ _ hN8), ?_, atE, w9, n9, by rw [List.length_append, len5]; rfl⟩
      show upd (upd H8 t2 (rowV ⟨nmAt s rs.length, some (rs[q]).nm, a2, b2⟩)) L (.lst (xs.map V.ref ++ [.ref t2])) L = _
      rw [upd_same, List.map_append]
      rfl
    · rintro σ H5 ⟨rs, xs, v7, v8, rfl, R5, hN5, hL5, at5, w5, n5, len5⟩
      exact ⟨_, rfl, k rs L _ (R3.trans R5) nL.1 nL.2 ⟨xs, hL5, at5, w5⟩⟩
end k80
namespace k80
open PySem L2 LC RM
def spnet (a : Ad) (r : Ar) : Sp := fun vs H Q _ => ∃ (F : Addr → Prop) (L fx : Addr) (rs : List Rw) (p : Pl) (M : Nat), vs = [.ref L, .ref fx] ∧ LRows H L rs ∧ PlanAt H p fx ∧ p.ok M ∧ 0 < M ∧ M ≤ 2000 ∧ p.leaves ≤ 3 ∧ (∀ c, F c → ∃ o, H c = some o) ∧ ∀ (N : Addr) H', Same H H' → NetFull a r F H' N rs p → Q (.ref N) H'
theorem ok_net {P : Program} {w : World} {K : PySem.W.Frag} {mg : Str → Option Value} {base : Heap} {f : Addr} {fd : FuncData} (D : Def K mg "_law_net" snet Pnet f fd) (T : Txt K mg) {a : Ad} (KN : Kn K mg a) {r : Ar} (KR : Kr K mg r) (INet : LN.FnRK P w K mg base CX0 8 r.finit "rest" (spNet_init a r)) {fmade : Addr} {fdmade : FuncData} (Dmade : Def K mg "_law_made" smade Pmade fmade fdmade) (Gmade : FnOk P w K mg base CX0 8 fmade fdmade Pmade (spmade a 3)) :
    FnOk P w K mg base CX0 10 f fd Pnet (spnet a r) := by
  refine D.F.ok scnet (fun vs H Q E h => ?_) (fun cdv A outer s H vs Q E hr h => ?_)
  · obtain ⟨F, L, fx, rs, p, M, rfl, hL0, hp, ok, m0, m1, lv, hF, k⟩ := h
    rfl
  · obtain ⟨F, L, fx, rs, p, M, rfl, hL0, hp, ok, m0, m1, lv, hF, k⟩ := h
    have hrmade : Room 8 _ := hr.mono (by decide)
    have hrI : Room 9 _ := hr.mono (by decide)
    refine ⟨_, (pss_cons (ps_set (i := 2) scnet.nd rfl (Or.inl rfl) (pe_call Gmade hrmade rfl Dmade.g Dmade.F.kp Dmade.b .nil pass0 (pa_cons (pv 1) pa_nil)))
        (pss_cons (ps_if (pt_cmpR op_eq (pe_callB call_len_seq (by rfl) T.n_len PySem.boot_len (pa_cons (pv 0) pa_nil)) pe_int (nomark _)) (pss_one (ps_ret (LN.pe_makeKS KR.m INet hrI rfl KR.g pass0 (pa_cons (pe_ix ix_list (pv 0) pe_int (fun _ _ => rfl)) pa_nil) (pk_cons (pv 2) pk_nil)))) pss_nil)
        (pss_cons (ps_if (pt_cmpR op_eq (pe_callB call_len_seq (by rfl) T.n_len PySem.boot_len (pa_cons (pv 0) pa_nil)) pe_int (nomark _)) (pss_one (ps_ret (LN.pe_makeKS KR.m INet hrI rfl KR.g pass0 (pa_cons (pe_ix ix_list (pv 0) pe_int (fun _ _ => rfl)) (pa_cons (pe_ix ix_list (pv 0) pe_int (fun _ _ => rfl)) pa_nil)) (pk_cons (pv 2) pk_nil)))) pss_nil)
        (pss_cons (ps_if (pt_cmpR op_eq (pe_callB call_len_seq (by rfl) T.n_len PySem.boot_len (pa_cons (pv 0) pa_nil)) pe_int (nomark _)) (pss_one (ps_ret (LN.pe_makeKS KR.m INet hrI rfl KR.g pass0 (pa_cons (pe_ix ix_list (pv 0) pe_int (fun _ _ => rfl)) (pa_cons (pe_ix ix_list (pv 0) pe_int (fun _ _ => rfl)) (pa_cons (pe_ix ix_list (pv 0) pe_int (fun _ _ => rfl)) pa_nil))) (pk_cons (pv 2) pk_nil)))) pss_nil)
        (pss_cons (ps_if (pt_cmpR op_eq (pe_callB call_len_seq (by rfl) T.n_len PySem.boot_len (pa_cons (pv 0) pa_nil)) pe_int (nomark _)) (pss_one (ps_ret (LN.pe_makeKS KR.m INet hrI rfl KR.g pass0 (pa_cons (pe_ix ix_list (pv 0) pe_int (fun _ _ => rfl)) (pa_cons (pe_ix ix_list (pv 0) pe_int (fun _ _ => rfl)) (pa_cons (pe_ix ix_list (pv 0) pe_int (fun _ _ => rfl)) (pa_cons (pe_ix ix_list (pv 0) pe_int (fun _ _ => rfl)) pa_nil)))) (pk_cons (pv 2) pk_nil)))) pss_nil)
        (pss_cons (ps_if (pt_cmpR op_eq (pe_callB call_len_seq (by rfl) T.n_len PySem.boot_len (pa_cons (pv 0) pa_nil)) pe_int (nomark _)) (pss_one (ps_ret (LN.pe_makeKS KR.m INet hrI rfl KR.g pass0 (pa_cons (pe_ix ix_list (pv 0) pe_int (fun _ _ => rfl)) (pa_cons (pe_ix ix_list (pv 0) pe_int (fun _ _ => rfl)) (pa_cons (pe_ix ix_list (pv 0) pe_int (fun _ _ => rfl)) (pa_cons (pe_ix ix_list (pv 0) pe_int (fun _ _ => rfl)) (pa_cons (pe_ix ix_list (pv 0) pe_int (fun _ _ => rfl)) pa_nil))))) (pk_cons (pv 2) pk_nil)))) pss_nil)
        (pss_one (ps_ret (LN.pe_makeKS KR.m INet hrI rfl KR.g pass0 (pa_cons (pe_ix ix_list (pv 0) pe_int (fun _ _ => rfl)) (pa_cons (pe_ix ix_list (pv 0) pe_int (fun _ _ => rfl)) (pa_cons (pe_ix ix_list (pv 0) pe_int (fun _ _ => rfl)) (pa_cons (pe_ix ix_list (pv 0) pe_int (fun _ _ => rfl)) (pa_cons (pe_ix ix_list (pv 0) pe_int (fun _ _ => rfl)) (pa_cons (pe_ix ix_list (pv 0) pe_int (fun _ _ => rfl)) pa_nil)))))) (pk_cons (pv 2) pk_nil)))))))))), ?_⟩
    obtain ⟨xs, hL, hat, hw⟩ := id hL0
    have lx := hat.len
    have wl := hw.len
    have wp := hw.pos
    refine ⟨_, rfl, F, fx, p, M, rfl, hp, ok, m0, m1, lv, by have := p.h_lt; omega, hF, fun y H1 s1 R1 => ?_⟩
    have hL1 := s1 _ _ hL
    have fin : ∀ (N dx : Addr) (y0 : V) (rest : List V), xs.map V.ref = y0 :: rest → H1 N = none → H1 dx = none → dx ≠ N → spNet_init a r (.ref y :: .ref N :: y0 :: rest) (upd (upd H1 dx (.own N)) N (.ins r.c dx [])) (fun u H3 => u = .non ∧ Q (.ref N) H3) E0 := fun N dx y0 rest ex hN hdx ne => by
      refine ⟨_, _, _, _, rfl, ?_, fun tp htp => ?_⟩
      · rw [← ex, List.length_map, lx]
        exact Nat.le_trans wl (by decide)
      have s2 : Same H1 (upd (upd H1 dx (.own N)) N (.ins r.c dx [])) := same_two hN hdx
      have s3 := same_new (o := .tup (y0 :: rest)) htp
      have s23 := s2.trans s3
      refine ⟨F, N, dx, y, tp, rs, xs, p, rfl, s3 _ _ upd_same, (R1.ext (G := fun b => F b ∨ b = N) fun b z => ?_).same s23, by rw [ex]; exact upd_same, hat.kp fun b ys e => s23 _ _ (s1 _ _ e), hw, fun H' kf nf => ⟨rfl, k N H' ?_ nf⟩⟩
      · rcases z with z | z
        · exact .inl z
        · exact .inr (z ▸ hN)
      · exact fun b o e => kf b o (fun z => by rw [z] at e; rw [s1 _ _ e] at hN; cases hN) (s23 _ _ (s1 _ _ e))
    obtain ⟨x0, hxs⟩ | ⟨x0, x1, hxs⟩ | ⟨x0, x1, x2, hxs⟩ | ⟨x0, x1, x2, x3, hxs⟩ | ⟨x0, x1, x2, x3, x4, hxs⟩ | ⟨x0, x1, x2, x3, x4, x5, hxs⟩ : (∃ x0 : Addr, xs = [x0]) ∨ (∃ x0 x1 : Addr, xs = [x0, x1]) ∨ (∃ x0 x1 x2 : Addr, xs = [x0, x1, x2]) ∨ (∃ x0 x1 x2 x3 : Addr, xs = [x0, x1, x2, x3]) ∨ (∃ x0 x1 x2 x3 x4 : Addr, xs = [x0, x1, x2, x3, x4]) ∨ (∃ x0 x1 x2 x3 x4 x5 : Addr, xs = [x0, x1, x2, x3, x4, x5]) := by
      match xs, lx with
      | [], h => simp at h; omega
      | [x0], _ => exact .inl ⟨_, rfl⟩
      | [x0, x1], _ => exact .inr (.inl ⟨_, _, rfl⟩)
      | [x0, x1, x2], _ => exact .inr (.inr (.inl ⟨_, _, _, rfl⟩))
      | [x0, x1, x2, x3], _ => exact .inr (.inr (.inr (.inl ⟨_, _, _, _, rfl⟩)))
      | [x0, x1, x2, x3, x4], _ => exact .inr (.inr (.inr (.inr (.inl ⟨_, _, _, _, _, rfl⟩))))
      | [x0, x1, x2, x3, x4, x5], _ => exact .inr (.inr (.inr (.inr (.inr (⟨_, _, _, _, _, _, rfl⟩)))))
      | _ :: _ :: _ :: _ :: _ :: _ :: _ :: _, h => simp at h; omega
    · have ex : xs.map V.ref = [V.ref x0] := by rw [hxs]; rfl
      rw [ex] at hL1
      refine ⟨_, rfl, _, _, rfl, .inl (SqL.of hL1), rfl, _, rfl, iteT ?_⟩
      exact ⟨_, rfl, _, _, _, _, rfl, rfl, SqL.of hL1, rfl, _, rfl, _, rfl, fun N dx hN hdx ne => fin N dx _ _ ex hN hdx ne⟩
    · have ex : xs.map V.ref = [V.ref x0, V.ref x1] := by rw [hxs]; rfl
      rw [ex] at hL1
      refine ⟨_, rfl, _, _, rfl, .inl (SqL.of hL1), rfl, _, rfl, iteF ?_⟩
      refine ⟨_, rfl, _, _, rfl, .inl (SqL.of hL1), rfl, _, rfl, iteT ?_⟩
      exact ⟨_, rfl, _, _, _, _, rfl, rfl, SqL.of hL1, rfl, _, rfl, _, _, _, _, rfl, rfl, SqL.of hL1, rfl, _, rfl, _, rfl, fun N dx hN hdx ne => fin N dx _ _ ex hN hdx ne⟩
    · have ex : xs.map V.ref = [V.ref x0, V.ref x1, V.ref x2] := by rw [hxs]; rfl
      rw [ex] at hL1
      refine ⟨_, rfl, _, _, rfl, .inl (SqL.of hL1), rfl, _, rfl, iteF ?_⟩
      refine ⟨_, rfl, _, _, rfl, .inl (SqL.of hL1), rfl, _, rfl, iteF ?_⟩
      refine ⟨_, rfl, _, _, rfl, .inl (SqL.of hL1), rfl, _, rfl, iteT ?_⟩
      exact ⟨_, rfl, _, _, _, _, rfl, rfl, SqL.of hL1, rfl, _, rfl, _, _, _, _, rfl, rfl, SqL.of hL1, rfl, _, rfl, _, _, _, _, rfl, rfl, SqL.of hL1, rfl, _, rfl, _, rfl, fun N dx hN hdx ne => fin N dx _ _ ex hN hdx ne⟩
    · have ex : xs.map V.ref = [V.ref x0, V.ref x1, V.ref x2, V.ref x3] := by rw [hxs]; rfl
      rw [ex] at hL1
      refine ⟨_, rfl, _, _, rfl, .inl (SqL.of hL1), rfl, _, rfl, iteF ?_⟩
      refine ⟨_, rfl, _, _, rfl, .inl (SqL.of hL1), rfl, _, rfl, iteF ?_⟩
      refine ⟨_, rfl, _, _, rfl, .inl (SqL.of hL1), rfl, _, rfl, iteF ?_⟩
      refine ⟨_, rfl, _, _, rfl, .inl (SqL.of hL1), rfl, _, rfl, iteT ?_⟩
      exact ⟨_, rfl, _, _, _, _, rfl, rfl, SqL.of hL1, rfl, _, rfl, _, _, _, _, rfl, rfl, SqL.of hL1, rfl, _, rfl, _, _, _, _, rfl, rfl, SqL.of hL1, rfl, _, rfl, _, _, _, _, rfl, rfl, SqL.of hL1, rfl, _, rfl, _, rfl, fun N dx hN hdx ne => fin N dx _ _ ex hN hdx ne⟩
    · have ex : xs.map V.ref = [V.ref x0, V.ref x1, V.ref x2, V.ref x3, V.ref x4] := by rw [hxs]; rfl
      rw [ex] at hL1
      refine ⟨_, rfl, _, _, rfl, .inl (SqL.of hL1), rfl, _, rfl, iteF ?_⟩
      refine ⟨_, rfl, _, _, rfl, .inl (SqL.of hL1), rfl, _, rfl, iteF ?_⟩
      refine ⟨_, rfl, _, _, rfl, .inl (SqL.of hL1), rfl, _, rfl, iteF ?_⟩
      refine ⟨_, rfl, _, _, rfl, .inl (SqL.of hL1), rfl, _, rfl, iteF ?_⟩
      refine ⟨_, rfl, _, _, rfl, .inl (SqL.of hL1), rfl, _, rfl, iteT ?_⟩
      exact ⟨_, rfl, _, _, _, _, rfl, rfl, SqL.of hL1, rfl, _, rfl, _, _, _, _, rfl, rfl, SqL.of hL1, rfl, _, rfl, _, _, _, _, rfl, rfl, SqL.of hL1, rfl, _, rfl, _, _, _, _, rfl, rfl, SqL.of hL1, rfl, _, rfl, _, _, _, _, rfl, rfl, SqL.of hL1, rfl, _, rfl, _, rfl, fun N dx hN hdx ne => fin N dx _ _ ex hN hdx ne⟩
    · have ex : xs.map V.ref = [V.ref x0, V.ref x1, V.ref x2, V.ref x3, V.ref x4, V.ref x5] := by rw [hxs]; rfl
      rw [ex] at hL1
      refine ⟨_, rfl, _, _, rfl, .inl (SqL.of hL1), rfl, _, rfl, iteF ?_⟩
      refine ⟨_, rfl, _, _, rfl, .inl (SqL.of hL1), rfl, _, rfl, iteF ?_⟩
      refine ⟨_, rfl, _, _, rfl, .inl (SqL.of hL1), rfl, _, rfl, iteF ?_⟩
      refine ⟨_, rfl, _, _, rfl, .inl (SqL.of hL1), rfl, _, rfl, iteF ?_⟩
      refine ⟨_, rfl, _, _, rfl, .inl (SqL.of hL1), rfl, _, rfl, iteF ?_⟩
      exact ⟨_, rfl, _, _, _, _, rfl, rfl, SqL.of hL1, rfl, _, rfl, _, _, _, _, rfl, rfl, SqL.of hL1, rfl, _, rfl, _, _, _, _, rfl, rfl, SqL.of hL1, rfl, _, rfl, _, _, _, _, rfl, rfl, SqL.of hL1, rfl, _, rfl, _, _, _, _, rfl, rfl, SqL.of hL1, rfl, _, rfl, _, _, _, _, rfl, rfl, SqL.of hL1, rfl, _, rfl, _, rfl, fun N dx hN hdx ne => fin N dx _ _ ex hN hdx ne⟩
end k80
namespace k80
open PySem L2 LC RM
def sprow : Sp := fun vs H Q _ => ∃ (L : Addr) (rs : List Rw) (z : Str), vs = [.ref L, .str z] ∧ LRows H L rs ∧ Has (rv rs) z ∧ ∀ (x : Addr) (q : Rw) H', Same H H' → rowOf (rv rs) z = some q → H' x = some (rowV q) → Q (.ref x) H'
theorem ok_row {P : Program} {w : World} {K : PySem.W.Frag} {mg : Str → Option Value} {base : Heap} {f : Addr} {fd : FuncData} (D : Def K mg "_law_row" srow Prow f fd) (T : Txt K mg) :
    FnOk P w K mg base CX0 1 f fd Prow (sprow) := by
  refine D.F.ok scrow (fun vs H Q E h => ?_) (fun cdv A outer s H vs Q E hr h => ?_)
  · obtain ⟨L, rs, z, rfl, ⟨xs, hL, hat, hw⟩, hz, k⟩ := h
    rfl
  · obtain ⟨L, rs, z, rfl, ⟨xs, hL, hat, hw⟩, hz, k⟩ := h
    refine ⟨_, (pss_one (ps_ret (pe_ix ix_list (pe_lc (own := [("_law_row_here", 2)]) (g := gName 2) rfl scrow.nd (pi_list (pv 0)) (blkOk_by (own := [("_law_row_here", 2)]) (N := Nmrow) (sc := defScope srow) (by decide +kernel)) (fun _ _ _ _ _ => pg_name (i := 2) scrow.nd rfl (Or.inl rfl)) (fun _ _ _ _ _ => pts_one (pt_cmpR op_eq (pe_ix (show IxR _ (rIxT K) from ix_tup) (pv 2) pe_int (fun _ _ => rfl)) (pv 1) (nomark _))) (fun _ _ _ _ _ => (pv 2))) pe_int (fun _ _ => rfl)))), ?_⟩
    obtain ⟨q, hq, _, _⟩ := rowOf_has hz
    have hq2 := hq
    rw [rowOf_rev hw.wf] at hq2
    refine ⟨_, rfl, L, rfl, ⟨_, SqL.of hL⟩, fun D hD => ?_⟩
    have LD : L ≠ D := ne_of_none hL hD
    have lx := hat.len
    refine lc_list (K := K) (a := L) (xs := xs.map V.ref) (fun i H' => H' = upd H D (.lst ((sel z (rs.take i) (xs.take i)).map V.ref))) rfl (fun i H' _ e => by rw [e]; exact SqL.of (by rw [upd_ne LD]; exact hL)) ?_ ?_
    · rintro i y H' hi rfl
      obtain ⟨x, hx, rfl⟩ : ∃ x, xs[i]? = some x ∧ V.ref x = y := by
        rw [List.getElem?_map] at hi
        cases e : xs[i]? with
        | none => rw [e] at hi; cases hi
        | some x => rw [e] at hi; exact ⟨x, rfl, Option.some.inj hi⟩
      have hlt : i < rs.length := by rw [← lx]; exact (List.getElem?_eq_some_iff.mp hx).1
      have hr := List.getElem?_eq_getElem hlt
      obtain ⟨x', hx', hxr⟩ := hat.get hr
      rw [hx] at hx'
      cases hx'
      have st := sel_take hat z hr hx
      have s1 : Same H (upd H D (.lst ((sel z (rs.take i) (xs.take i)).map V.ref))) := same_new hD
      refine ⟨rfl, _, rfl, _, _, _, _, rfl, rfl, SqT.of (s1 _ _ hxr), rfl, _, rfl, ?_⟩
      rw [st]
      refine ⟨rfl, _, rfl, ?_⟩
      by_cases e1 : rs[i].nm = z
      · rw [if_pos e1]
        have e2 : decide (V.str rs[i].nm = V.str z) = true := decide_eq_true (by rw [e1])
        rw [e2]
        refine iteT ⟨_, rfl, _, upd_same, ?_, ?_⟩
        · rw [List.length_map]
          exact Nat.lt_of_le_of_lt (sel_len _ _ _) (by rw [List.length_take]; have := hw.len; exact Nat.lt_of_lt_of_le (show min i rs.length < 7 by omega) (by decide))
        · rw [upd_upd, List.map_append]
          rfl
      · rw [if_neg e1]
        have e2 : decide (V.str rs[i].nm = V.str z) = false := decide_eq_false fun h => e1 (V.str.inj h)
        rw [e2, List.append_nil]
        exact iteF rfl
    rintro H' rfl
    rw [List.length_map, lx, List.take_length, show xs.take rs.length = xs by rw [← lx, List.take_length]]
    have s2 : Same H (upd H D (.lst ((sel z rs xs).map V.ref))) := same_new hD
    obtain ⟨x, t, ex, hx⟩ := sel_head hat hq2
    have hD2 : upd H D (.lst ((sel z rs xs).map V.ref)) D = some (.lst (V.ref x :: t.map V.ref)) := by rw [upd_same, ex]; rfl
    exact ⟨_, _, _, _, rfl, rfl, SqL.of hD2, atI_nat (j := 0) rfl, k x q _ s2 hq (s2 _ _ hx)⟩
end k80
namespace k80
open PySem L2 LC RM
def spline : Sp := fun vs H Q _ => ∃ (L : Addr) (rs : List Rw) (z : Str), vs = [.ref L, .str z] ∧ LRows H L rs ∧ Has (rv rs) z ∧ ∀ (l : Addr) H', Same H H' → H l = none → H' l = some (.lst ((up (rv rs) z).map V.str)) → Q (.ref l) H'
theorem ok_line {P : Program} {w : World} {K : PySem.W.Frag} {mg : Str → Option Value} {base : Heap} {f : Addr} {fd : FuncData} (D : Def K mg "_law_line" sline Pline f fd) (T : Txt K mg) :
    FnOk P w K mg base CX0 1 f fd Pline (spline) := by
  refine D.F.ok scline (fun vs H Q E h => ?_) (fun cdv A outer s H vs Q E hr h => ?_)
  · obtain ⟨L, rs, z, rfl, ⟨xs, hL, hat, hw⟩, hz, k⟩ := h
    rfl
  · obtain ⟨L, rs, z, rfl, ⟨xs, hL, hat, hw⟩, hz, k⟩ := h
    refine ⟨_, (pss_cons (ps_set (i := 2) scline.nd rfl (Or.inl rfl) (pe_lst (pa_cons (pv 1) pa_nil)))
        (pss_cons (ps_for PassesOwn.never rfl (pi_reversed (by rfl) T.n_reversed (pa_cons (pv 0) pa_nil)) (pg_name (i := 3) scline.nd rfl (Or.inl rfl))
          (pss_one (ps_if (PW.pt (pw_and (pt_cmpR op_eq (pe_ix ix_tup (pv 3) pe_int (fun _ _ => rfl)) (pe_ix ix_list (pv 2) (pe_un un_neg pe_int) (fun _ _ => rfl)) (nomark _)) (pw_and1 (pt_cmpR op_notN (pe_ix ix_tup (pv 3) pe_int (fun _ _ => rfl)) pe_non (nomark _))))) (pss_one (ps_expr (pe_bm PySem.F.plainAttrs_list PySem.F.slot_list_append PySem.F.type_list_append mt_append (pv 2) (pa_cons (pe_ix ix_tup (pv 3) pe_int (fun _ _ => rfl)) pa_nil)))) pss_nil)))
        (pss_one (ps_ret (pv 2))))), ?_⟩
    refine ⟨_, rfl, (by show 1 ≤ sizeLine; decide), fun D hD => ?_⟩
    have LD : L ≠ D := ne_of_none hL hD
    have lx := hat.len
    refine ⟨_, rfl, L, _, rfl, SqL.of (by rw [upd_ne LD]; exact hL), RT.for_Itv (K := K) (a := L) (xs := xs.map V.ref) (fun i σ H' => ∃ (pre : List Str) (last : Str) (v : Option V), σ = [some (.ref L), some (.str z), some (.ref D), v] ∧ H' = upd H D (.lst ((pre ++ [last]).map V.str)) ∧ pre.length ≤ i ∧ pre ++ up ((rv rs).drop i) last = up (rv rs) z)
      ⟨[], z, none, rfl, rfl, Nat.le_refl _, rfl⟩ (fun i σ H' ⟨_, _, _, _, e, _⟩ => by rw [e]; exact SqL.of (by rw [upd_ne LD]; exact hL)) ?_ ?_⟩
    · rintro i y σ H' hi hy ⟨pre, last, v, rfl, rfl, lp, e⟩
      rw [List.length_map] at hi hy
      have hj : xs.length - 1 - i < rs.length := by omega
      have hr := List.getElem?_eq_getElem hj
      obtain ⟨x, hx, hxr⟩ := hat.get hr
      have : V.ref x = y := by rw [List.getElem?_map, hx] at hy; exact Option.some.inj hy
      subst this
      have hiR : i < (rv rs).length := by rw [List.length_reverse]; omega
      have er : (rv rs)[i] = rs[xs.length - 1 - i] := by
        show rs.reverse[i] = _
        rw [List.getElem_reverse]
        congr 1
        omega
      have ed : (rv rs).drop i = rs[xs.length - 1 - i] :: (rv rs).drop (i + 1) := by rw [List.drop_eq_getElem_cons hiR, er]
      have wd := hw.wf.drop i
      rw [show rs.reverse.drop i = (rv rs).drop i from rfl, ed] at wd
      rw [ed, line_step wd] at e
      have s1 : Same H (upd H D (.lst ((pre ++ [last]).map V.str))) := same_new hD
      have hl : atI ((pre ++ [last]).map V.str) (-1) = some (.str last) := by rw [List.map_append]; exact atI_last _ _
      generalize rs[xs.length - 1 - i] = r at *
      refine ⟨_, rfl, _, _, _, _, rfl, rfl, SqT.of (s1 _ _ hxr), rfl, _, rfl, _, rfl, _, _, _, _, rfl, rfl, SqL.of upd_same, hl, ?_⟩
      refine ⟨rfl, _, rfl, ?_⟩
      by_cases h1 : r.nm = last
      · rw [show decide (V.str r.nm = V.str last) = true from decide_eq_true (by rw [h1])]
        rw [if_pos h1] at e
        refine iteT ⟨_, rfl, _, _, _, _, rfl, rfl, SqT.of (s1 _ _ hxr), rfl, rfl, _, rfl, ?_⟩
        cases he : r.el with
        | none =>
          rw [he] at e
          exact iteF ⟨pre, last, _, rfl, rfl, by omega, e⟩
        | some m =>
          rw [he] at e
          have hxr2 : H x = some (.tup [.str r.nm, .str m, .int r.er, .int r.de]) := by rw [hxr]; unfold rowV; rw [he]; rfl
          refine iteT ⟨_, rfl, .inl ⟨rfl, _, SqL.of upd_same⟩, _, rfl, _, _, _, _, rfl, rfl, SqT.of (s1 _ _ hxr2), rfl, D, _, _, rfl, rfl, upd_same, ?_, pre ++ [last], m, _, rfl, ?_, by rw [List.length_append]; show pre.length + 1 ≤ i + 1; omega, by rw [← e]; simp⟩
          · rw [List.length_map, List.length_append]
            have := hw.len
            exact Nat.lt_of_lt_of_le (show pre.length + 1 < 9 by omega) (by decide)
          · rw [upd_upd, List.map_append, List.map_append, List.map_append]
            rfl
      · rw [show decide (V.str r.nm = V.str last) = false from decide_eq_false fun h => h1 (V.str.inj h)]
        rw [if_neg h1] at e
        exact iteF ⟨pre, last, _, rfl, rfl, by omega, e⟩
    rintro σ H' ⟨pre, last, v, rfl, rfl, lp, e⟩
    refine ⟨_, rfl, k D _ (same_new hD) hD ?_⟩
    rw [upd_same, ← e, show (rv rs).drop (xs.map V.ref).length = [] from List.drop_of_length_le (by rw [List.length_map, lx, List.length_reverse]; exact Nat.le_refl _)]
    rfl
end k80
namespace k80
open PySem L2 LC RM
def spfar : Sp := fun vs H Q _ => ∃ (L : Addr) (rs : List Rw) (a b : Str), vs = [.ref L, .str a, .str b] ∧ LRows H L rs ∧ Has (rv rs) a ∧ Has (rv rs) b ∧ ∀ H', Same H H' → Q (.int (far (rv rs) a b)) H'
theorem ok_far {P : Program} {w : World} {K : PySem.W.Frag} {mg : Str → Option Value} {base : Heap} {f : Addr} {fd : FuncData} (D : Def K mg "_law_far" sfar Pfar f fd) (T : Txt K mg) {frow : Addr} {fdrow : FuncData} (Drow : Def K mg "_law_row" srow Prow frow fdrow) (Grow : FnOk P w K mg base CX0 1 frow fdrow Prow (sprow)) {fline : Addr} {fdline : FuncData} (Dline : Def K mg "_law_line" sline Pline fline fdline) (Gline : FnOk P w K mg base CX0 1 fline fdline Pline (spline)) :
    FnOk P w K mg base CX0 2 f fd Pfar (spfar) := by
  refine D.F.ok scfar (fun vs H Q E h => ?_) (fun cdv A outer s H vs Q E hr h => ?_)
  · obtain ⟨L, rs, a, b, rfl, hL, ha, hb, k⟩ := h
    rfl
  · obtain ⟨L, rs, a, b, rfl, hL, ha, hb, k⟩ := h
    have hrrow : Room 1 _ := hr.mono (by decide)
    have hrline : Room 1 _ := hr.mono (by decide)
    refine ⟨_, (pss_cons (ps_set (i := 3) scfar.nd rfl (Or.inr rfl) (pe_call Gline hrline rfl Dline.g Dline.F.kp Dline.b .nil pass0 (pa_cons (pv 0) (pa_cons (pv 1) pa_nil))))
        (pss_cons (ps_set (i := 4) scfar.nd rfl (Or.inr rfl) (pe_call Gline hrline rfl Dline.g Dline.F.kp Dline.b .nil pass0 (pa_cons (pv 0) (pa_cons (pv 2) pa_nil))))
        (pss_cons (ps_set (i := 5) scfar.nd rfl (Or.inl rfl) (pe_op op_cat (pe_lc (own := [("_law_spot", 6)]) (g := gName 6) rfl scfar.nd (pi_list (pv 3)) (blkOk_by (own := [("_law_spot", 6)]) (N := Nmfar) (sc := defScope sfar) (by decide +kernel)) (fun _ _ _ _ _ => pg_name (i := 6) scfar.nd rfl (Or.inl rfl)) (fun _ _ _ _ _ => pts_one (pt_cmpR (show OpR _ (compareOp .NotIn) (rIn K true) from op_notIn_seq) (pv 6) (pv 4) (by rfl))) (fun _ _ _ _ _ => (pv 6))) (pe_lc (own := [("_law_spot", 6)]) (g := gName 6) rfl scfar.nd (pi_list (pv 4)) (blkOk_by (own := [("_law_spot", 6)]) (N := Nmfar) (sc := defScope sfar) (by decide +kernel)) (fun _ _ _ _ _ => pg_name (i := 6) scfar.nd rfl (Or.inl rfl)) (fun _ _ _ _ _ => pts_one (pt_cmpR (show OpR _ (compareOp .NotIn) (rIn K true) from op_notIn_seq) (pv 6) (pv 3) (by rfl))) (fun _ _ _ _ _ => (pv 6)))))
        (pss_one (ps_ret (pe_callB (cr_sum rfl) (by rfl) T.n_sum (by decide +kernel) (pa_cons (pe_lc (own := [("_law_spot", 6)]) (g := gName 6) (tt := tYes) rfl scfar.nd (pi_list (pv 5)) (blkOk_by (own := [("_law_spot", 6)]) (N := Nmfar) (sc := defScope sfar) (by decide +kernel)) (fun _ _ _ _ _ => pg_name (i := 6) scfar.nd rfl (Or.inl rfl)) (fun _ _ _ _ _ => pts_nil) (fun _ _ _ _ _ => (pe_ix (show IxR _ (rIxT K) from ix_tup) (pe_call Grow hrrow rfl Drow.g Drow.F.kp Drow.b .nil pass0 (pa_cons (pv 0) (pa_cons (pv 6) pa_nil))) pe_int (fun _ _ => rfl)))) pa_nil))))))), ?_⟩
    have hw : Rws rs := hL.choose_spec.2.2
    have ha6 := up_len hw ha
    have hb6 := up_len hw hb
    generalize eA : up (rv rs) a = A at ha6
    generalize eB : up (rv rs) b = B at hb6
    refine ⟨_, rfl, _, rfl, L, rs, a, rfl, hL, ha, fun l1 H1 s1 n1 hl1 => ?_⟩
    rw [eA] at hl1
    refine ⟨_, rfl, _, rfl, L, rs, b, rfl, hL.same s1, hb, fun l2 H2 s2 n2 hl2 => ?_⟩
    rw [eB] at hl2
    replace hl1 := s2 _ _ hl1
    have s12 := s1.trans s2
    refine ⟨_, rfl, l1, rfl, ⟨_, SqL.of hl1⟩, fun D1 hD1 => ?_⟩
    have nl1D1 : l1 ≠ D1 := ne_of_none hl1 hD1
    have nl2D1 : l2 ≠ D1 := ne_of_none hl2 hD1
    refine lc_list (K := K) (a := l1) (xs := A.map V.str) (fun i H' => H' = upd H2 D1 (.lst (((A.take i).filter fun x => !decide (x ∈ B)).map V.str))) rfl (fun i H' _ e => by rw [e]; exact SqL.of (by rw [upd_ne nl1D1]; exact hl1)) ?_ ?_
    · rintro i y H' hi rfl
      obtain ⟨x, hx, rfl⟩ : ∃ x, A[i]? = some x ∧ V.str x = y := by
        rw [List.getElem?_map] at hi
        cases e : A[i]? with
        | none => rw [e] at hi; cases hi
        | some x => rw [e] at hi; exact ⟨x, rfl, Option.some.inj hi⟩
      have ho : upd H2 D1 (.lst (((A.take i).filter fun x => !decide (x ∈ B)).map V.str)) l2 = some (.lst (B.map V.str)) := by rw [upd_ne nl2D1]; exact hl2
      rw [take_snoc hx, List.filter_append]
      refine ⟨rfl, _, rfl, _, rfl, l2, _, rfl, .inl (SqL.of ho), rfl, flat_strs _, _, rfl, ?_⟩
      rw [inV_str]
      have len : ∀ l : List Str, l.length ≤ 6 → ((A.take i).filter fun x => !decide (x ∈ B)).length < sizeLine := fun _ _ => Nat.lt_of_le_of_lt (List.length_filter_le _ _) (by rw [List.length_take]; exact Nat.lt_of_lt_of_le (show min i A.length < 7 by omega) (by decide))
      by_cases e1 : x ∈ B
      · rw [decide_eq_true e1]
        refine iteF ?_
        rw [show [x].filter (fun x => !decide (x ∈ B)) = [] by simp [e1], List.append_nil]
      · rw [decide_eq_false e1]
        rw [show [x].filter (fun x => !decide (x ∈ B)) = [x] by simp [e1]]
        refine iteT ⟨_, rfl, _, upd_same, by rw [List.length_map]; exact len [] (by decide), ?_⟩
        rw [upd_upd, List.map_append]
        rfl
    rintro H' rfl
    rw [List.length_map, List.take_length]
    have hD1' : upd H2 D1 (.lst ((A.filter fun x => !decide (x ∈ B)).map V.str)) D1 = some (.lst ((A.filter fun x => !decide (x ∈ B)).map V.str)) := upd_same
    have s3 : Same H2 (upd H2 D1 (.lst ((A.filter fun x => !decide (x ∈ B)).map V.str))) := same_new hD1
    generalize upd H2 D1 (.lst ((A.filter fun x => !decide (x ∈ B)).map V.str)) = H3 at hD1' s3 ⊢
    replace hl1 := s3 _ _ hl1
    replace hl2 := s3 _ _ hl2
    refine ⟨_, rfl, l2, rfl, ⟨_, SqL.of hl2⟩, fun D2 hD2 => ?_⟩
    have nl2D2 : l2 ≠ D2 := ne_of_none hl2 hD2
    have nl1D2 : l1 ≠ D2 := ne_of_none hl1 hD2
    refine lc_list (K := K) (a := l2) (xs := B.map V.str) (fun i H' => H' = upd H3 D2 (.lst (((B.take i).filter fun x => !decide (x ∈ A)).map V.str))) rfl (fun i H' _ e => by rw [e]; exact SqL.of (by rw [upd_ne nl2D2]; exact hl2)) ?_ ?_
    · rintro i y H' hi rfl
      obtain ⟨x, hx, rfl⟩ : ∃ x, B[i]? = some x ∧ V.str x = y := by
        rw [List.getElem?_map] at hi
        cases e : B[i]? with
        | none => rw [e] at hi; cases hi
        | some x => rw [e] at hi; exact ⟨x, rfl, Option.some.inj hi⟩
      have ho : upd H3 D2 (.lst (((B.take i).filter fun x => !decide (x ∈ A)).map V.str)) l1 = some (.lst (A.map V.str)) := by rw [upd_ne nl1D2]; exact hl1
      rw [take_snoc hx, List.filter_append]
      refine ⟨rfl, _, rfl, _, rfl, l1, _, rfl, .inl (SqL.of ho), rfl, flat_strs _, _, rfl, ?_⟩
      rw [inV_str]
      have len : ∀ l : List Str, l.length ≤ 6 → ((B.take i).filter fun x => !decide (x ∈ A)).length < sizeLine := fun _ _ => Nat.lt_of_le_of_lt (List.length_filter_le _ _) (by rw [List.length_take]; exact Nat.lt_of_lt_of_le (show min i B.length < 7 by omega) (by decide))
      by_cases e1 : x ∈ A
      · rw [decide_eq_true e1]
        refine iteF ?_
        rw [show [x].filter (fun x => !decide (x ∈ A)) = [] by simp [e1], List.append_nil]
      · rw [decide_eq_false e1]
        rw [show [x].filter (fun x => !decide (x ∈ A)) = [x] by simp [e1]]
        refine iteT ⟨_, rfl, _, upd_same, by rw [List.length_map]; exact len [] (by decide), ?_⟩
        rw [upd_upd, List.map_append]
        rfl
    rintro H' rfl
    rw [List.length_map, List.take_length]
    have hD2' : upd H3 D2 (.lst ((B.filter fun x => !decide (x ∈ A)).map V.str)) D2 = some (.lst ((B.filter fun x => !decide (x ∈ A)).map V.str)) := upd_same
    have s4 : Same H3 (upd H3 D2 (.lst ((B.filter fun x => !decide (x ∈ A)).map V.str))) := same_new hD2
    generalize upd H3 D2 (.lst ((B.filter fun x => !decide (x ∈ A)).map V.str)) = H4 at hD2' s4 ⊢
    have hD1'' := s4 _ _ hD1'
    have la : (A.filter fun x => !decide (x ∈ B)).length ≤ 6 := Nat.le_trans (List.length_filter_le _ _) ha6
    have lb : (B.filter fun x => !decide (x ∈ A)).length ≤ 6 := Nat.le_trans (List.length_filter_le _ _) hb6
    have sz : 13 ≤ sizeLine := by decide
    refine ⟨_, _, _, _, rfl, rfl, hD1'', hD2', by rw [List.length_map, List.length_map]; omega, fun E hE => ?_⟩
    have s5 := same_new (o := .lst ((A.filter fun x => !decide (x ∈ B)).map V.str ++ (B.filter fun x => !decide (x ∈ A)).map V.str)) hE
    have hE' : upd H4 E (.lst ((A.filter fun x => !decide (x ∈ B)).map V.str ++ (B.filter fun x => !decide (x ∈ A)).map V.str)) E = some (.lst (((A.filter fun x => !decide (x ∈ B)) ++ (B.filter fun x => !decide (x ∈ A))).map V.str)) := by rw [upd_same, List.map_append]
    generalize upd H4 E (.lst ((A.filter fun x => !decide (x ∈ B)).map V.str ++ (B.filter fun x => !decide (x ∈ A)).map V.str)) = H5 at hE' s5 ⊢
    have s05 := s12.trans (s3.trans (s4.trans s5))
    have hall : ∀ x ∈ (A.filter fun x => !decide (x ∈ B)) ++ (B.filter fun x => !decide (x ∈ A)), Has (rv rs) x := fun x hx => by
      rcases List.mem_append.mp hx with hx | hx
      · exact up_mem ha hw.wf x (by rw [eA]; exact (List.mem_filter.mp hx).1)
      · exact up_mem hb hw.wf x (by rw [eB]; exact (List.mem_filter.mp hx).1)
    have fin : sumI (((A.filter fun x => !decide (x ∈ B)) ++ (B.filter fun x => !decide (x ∈ A))).map (deOf (rv rs))) = far (rv rs) a b := by unfold far; rw [eA, eB]
    have lE : ((A.filter fun x => !decide (x ∈ B)) ++ (B.filter fun x => !decide (x ∈ A))).length ≤ 12 := by rw [List.length_append]; omega
    generalize (A.filter fun x => !decide (x ∈ B)) ++ (B.filter fun x => !decide (x ∈ A)) = W at hE' hall fin lE ⊢
    refine ⟨_, rfl, E, rfl, ⟨_, SqL.of hE'⟩, fun D hD => ?_⟩
    have nED : E ≠ D := ne_of_none hE' hD
    refine lc_list (K := K) (a := E) (xs := W.map V.str) (fun i H' => Same H5 H' ∧ H' D = some (.lst (((W.take i).map (deOf (rv rs))).map V.int))) ⟨same_new hD, upd_same⟩ (fun i H' _ ⟨s, _⟩ => SqL.of (s _ _ hE')) ?_ ?_
    · rintro i y H6 hi ⟨s6, hD6⟩
      obtain ⟨x, hx, rfl⟩ : ∃ x, W[i]? = some x ∧ V.str x = y := by
        rw [List.getElem?_map] at hi
        cases e : W[i]? with
        | none => rw [e] at hi; cases hi
        | some x => rw [e] at hi; exact ⟨x, rfl, Option.some.inj hi⟩
      have hi2 : i < W.length := (List.getElem?_eq_some_iff.mp hx).1
      refine ⟨rfl, _, rfl, _, rfl, L, rs, x, rfl, hL.same (s05.trans s6), hall x (List.mem_of_getElem? hx), fun t q H7 s7 hq ht => ?_⟩
      refine ⟨_, _, _, _, rfl, rfl, SqT.of ht, rfl, _, s7 _ _ hD6, ?_, ?_⟩
      · rw [List.length_map, List.length_map, List.length_take]; omega
      have ed : deOf (rv rs) x = q.de := by unfold deOf; rw [hq]; rfl
      refine ⟨fun b o e => ?_, ?_⟩
      · have := s7 _ _ (s6 _ _ e)
        rw [upd_ne (ne_of_none e hD)]
        exact this
      · rw [upd_same, take_snoc hx, List.map_append, List.map_append]
        show some (HO.lst (_ ++ [V.int q.de])) = some (HO.lst (_ ++ [V.int (deOf (rv rs) x)]))
        rw [ed]
    rintro H6 ⟨s6, hD6⟩
    rw [List.length_map, List.take_length] at hD6
    refine ⟨D, _, rfl, SqL.of hD6, ?_⟩
    rw [sum_eq, fin]
    exact k H6 (s05.trans s6)
end k80
namespace k80
open PySem L2 LC RM
def spgap : Sp := fun vs H Q _ => ∃ (L : Addr) (rs : List Rw) (a b : Str), vs = [.ref L, .str a, .str b] ∧ LRows H L rs ∧ Has (rv rs) a ∧ Has (rv rs) b ∧ ∀ (T : Addr) (s : Str) H', Same H H' → H' T = some (.tup [.int (kap (rv rs) a b), .str s]) → Q (.ref T) H'
theorem ok_gap {P : Program} {w : World} {K : PySem.W.Frag} {mg : Str → Option Value} {base : Heap} {f : Addr} {fd : FuncData} (D : Def K mg "_law_gap" sgap Pgap f fd) (T : Txt K mg) {frow : Addr} {fdrow : FuncData} (Drow : Def K mg "_law_row" srow Prow frow fdrow) (Grow : FnOk P w K mg base CX0 1 frow fdrow Prow (sprow)) {fline : Addr} {fdline : FuncData} (Dline : Def K mg "_law_line" sline Pline fline fdline) (Gline : FnOk P w K mg base CX0 1 fline fdline Pline (spline)) {ffar : Addr} {fdfar : FuncData} (Dfar : Def K mg "_law_far" sfar Pfar ffar fdfar) (Gfar : FnOk P w K mg base CX0 2 ffar fdfar Pfar (spfar)) :
    FnOk P w K mg base CX0 3 f fd Pgap (spgap) := by
  refine D.F.ok scgap (fun vs H Q E h => ?_) (fun cdv A outer s H vs Q E hr h => ?_)
  · obtain ⟨L, rs, a, b, rfl, hL, ha, hb, k⟩ := h
    rfl
  · obtain ⟨L, rs, a, b, rfl, hL, ha, hb, k⟩ := h
    have hrrow : Room 1 _ := hr.mono (by decide)
    have hrline : Room 1 _ := hr.mono (by decide)
    have hrfar : Room 2 _ := hr.mono (by decide)
    refine ⟨_, (pss_cons (ps_set (i := 3) scgap.nd rfl (Or.inl rfl) pe_non)
        (pss_cons (ps_for PassesOwn.never rfl (pi_list (pe_call Gline hrline rfl Dline.g Dline.F.kp Dline.b .nil pass0 (pa_cons (pv 0) (pa_cons (pv 1) pa_nil)))) (pg_name (i := 4) scgap.nd rfl (Or.inl rfl))
          (pss_cons (ps_set (i := 5) scgap.nd rfl (Or.inl rfl) (pe_un un_neg pe_int))
        (Evl.pss_cut (ps_if (pt_cmpR op_ne (pv 4) (pv 2) (nomark _)) (pss_one (ps_set (i := 5) scgap.nd rfl (Or.inl rfl) (pe_op op_add (pe_op op_mul pe_int (pe_ix ix_tup (pe_call Grow hrrow rfl Drow.g Drow.F.kp Drow.b .nil pass0 (pa_cons (pv 0) (pa_cons (pv 4) pa_nil))) pe_int (fun _ _ => rfl))) (pe_call Gfar hrfar rfl Dfar.g Dfar.F.kp Dfar.b .nil pass0 (pa_cons (pv 0) (pa_cons (pv 4) (pa_cons (pv 2) pa_nil))))))) pss_nil)
        (pss_one (ps_if (PW.pt (pw_or (pt_cmpR op_isN (pv 3) pe_non (nomark _)) (pw_or1 (pt_cmpR op_lt (pv 5) (pe_ix ix_tup (pv 3) pe_int (fun _ _ => rfl)) (nomark _))))) (pss_one (ps_set (i := 3) scgap.nd rfl (Or.inl rfl) (pe_tup (pa_cons (pv 5) (pa_cons (pv 4) pa_nil))))) pss_nil)))))
        (pss_one (ps_ret (pv 3))))), ?_⟩
    have hw : Rws rs := hL.choose_spec.2.2
    refine ⟨_, rfl, _, rfl, L, rs, a, rfl, hL, ha, fun l H1 s1 n1 hl1 => ?_⟩
    have hall : ∀ x ∈ up (rv rs) a, Has (rv rs) x := fun x hx => up_mem ha hw.wf x hx
    obtain ⟨q0, hbest⟩ := best_some (rv rs) a b
    unfold best at hbest
    generalize up (rv rs) a = A at hl1 hall hbest
    refine ⟨l, rfl, ⟨_, SqL.of hl1⟩, for_list (K := K) (a := l) (xs := A.map V.str) (fun i σ H' => ∃ (bv : V) (v4 v5 : Option V), σ = [some (.ref L), some (.str a), some (.str b), some bv, v4, v5] ∧ Same H1 H' ∧ (match (A.take i).foldl (bstep (rv rs) b) none with | none => bv = .non | some t => ∃ T, bv = .ref T ∧ H' T = some (.tup [.int t.1, .str t.2])))
      ⟨.non, none, none, rfl, Same.refl _, rfl⟩ (fun i σ H' _ ⟨_, _, _, _, s, _⟩ => SqL.of (s _ _ hl1)) ?_ ?_⟩
    · rintro i y σ H2 hi ⟨bv, v4, v5, rfl, s2, hbv⟩
      obtain ⟨x, hx, rfl⟩ : ∃ x, A[i]? = some x ∧ V.str x = y := by
        rw [List.getElem?_map] at hi
        cases e : A[i]? with
        | none => rw [e] at hi; cases hi
        | some x => rw [e] at hi; exact ⟨x, rfl, Option.some.inj hi⟩
      have hxr := hall x (List.mem_of_getElem? hx)
      refine ⟨_, rfl, ?_⟩
      refine ⟨fun σ H' => Same H2 H' ∧ σ = [some (.ref L), some (.str a), some (.str b), some bv, some (.str x), some (.int (val (rv rs) b x))], ?_, ?_⟩
      · refine ⟨_, rfl, _, rfl, rfl, _, rfl, ?_⟩
        by_cases e1 : x = b
        · rw [decide_eq_true (show V.str x = V.str b by rw [e1])]
          refine iteF ⟨Same.refl _, ?_⟩
          have : val (rv rs) b x = -1 := by unfold val; rw [if_pos e1]
          rw [this]
          rfl
        · rw [decide_eq_false (show ¬ V.str x = V.str b from fun h => e1 (V.str.inj h))]
          have hL2 := hL.same (s1.trans s2)
          have ev : val (rv rs) b x = 2 * erOf (rv rs) x + far (rv rs) x b := by unfold val; rw [if_neg e1]
          refine iteT ⟨_, rfl, _, rfl, L, rs, x, rfl, hL2, hxr, fun t q H3 s3 hq ht => ?_⟩
          refine ⟨_, _, _, _, rfl, rfl, SqT.of ht, rfl, _, _, rfl, rfl, .inl ⟨by decide, by decide⟩, _, rfl, _, rfl, _, rfl, L, rs, x, b, rfl, hL2.same s3, hxr, hb, fun H4 s4 => ⟨_, _, rfl, rfl, s3.trans s4, ?_⟩⟩
          have ee : erOf (rv rs) x = q.er := by unfold erOf; rw [hq]; rfl
          rw [ev, ee]
          rfl
      rintro σ H3 ⟨s3, rfl⟩
      have s23 := s2.trans s3
      rw [take_snoc hx, List.foldl_append]
      have new : ∀ T, H3 T = none → ∃ (bv : V) (v4 v5 : Option V), [some (.ref L), some (.str a), some (.str b), some (.ref T), some (.str x), some (.int (val (rv rs) b x))] = [some (.ref L), some (.str a), some (.str b), some bv, v4, v5] ∧ Same H1 (upd H3 T (.tup [.int (val (rv rs) b x), .str x])) ∧ ∃ T', bv = .ref T' ∧ upd H3 T (.tup [.int (val (rv rs) b x), .str x]) T' = some (.tup [.int (val (rv rs) b x), .str x]) := fun T hT => ⟨.ref T, _, _, rfl, s23.trans (same_new hT), T, rfl, upd_same⟩
      cases hf : (A.take i).foldl (bstep (rv rs) b) none with
      | none =>
        rw [hf] at hbv
        replace hbv : bv = .non := hbv
        subst hbv
        exact ⟨_, rfl, rfl, _, rfl, iteT ⟨_, rfl, _, rfl, (by show 2 ≤ sizeLine; decide), new⟩⟩
      | some t =>
        rw [hf] at hbv
        obtain ⟨T, rfl, hT⟩ := hbv
        refine ⟨_, rfl, rfl, _, rfl, iteF ⟨_, rfl, _, rfl, _, _, _, _, rfl, rfl, SqT.of (s3 _ _ hT), rfl, _, _, rfl, rfl, _, rfl, ?_⟩⟩
        show if decide (val (rv rs) b x < t.1) = true then _ else _
        show _
        have hstep : bstep (rv rs) b (some t) x = if val (rv rs) b x < t.1 then some (val (rv rs) b x, x) else some t := rfl
        refine ite_d (fun e1 => ?_) (fun e1 => ?_)
        · refine ⟨_, rfl, _, rfl, (by show 2 ≤ sizeLine; decide), fun T' hT' => ?_⟩
          obtain ⟨bv, v4, v5, h1, h2, h3⟩ := new T' hT'
          refine ⟨bv, v4, v5, h1, h2, ?_⟩
          show match bstep (rv rs) b (some t) x with | none => _ | some t => _
          rw [hstep, if_pos e1]
          exact h3
        · refine ⟨.ref T, _, _, rfl, s23, ?_⟩
          show match bstep (rv rs) b (some t) x with | none => _ | some t => _
          rw [hstep, if_neg e1]
          exact ⟨T, rfl, s3 _ _ hT⟩
    rintro σ H2 ⟨bv, v4, v5, rfl, s2, hbv⟩
    rw [List.length_map, List.take_length, hbest] at hbv
    obtain ⟨T, rfl, hT⟩ := hbv
    exact ⟨_, rfl, k T q0 H2 (s1.trans s2) hT⟩
end k80
namespace k80
open PySem L2 LC RM
def spneed : Sp := fun vs H Q _ => ∃ (L fx o : Addr) (rs : List Rw) (p : Pl) (M : Nat) (a : Str) (t : Int) (b : Str), vs = [.ref L, .ref fx, .ref o, .str b] ∧ LRows H L rs ∧ PlanAt H p fx ∧ p.ok M ∧ p.h < 3 ∧ H o = some (.tup [.str a, .int t]) ∧ Has (rv rs) a ∧ Has (rv rs) b ∧ ∀ H', Same H H' → Q (.int (needI rs p a t b)) H'
theorem ok_need {P : Program} {w : World} {K : PySem.W.Frag} {mg : Str → Option Value} {base : Heap} {f : Addr} {fd : FuncData} (D : Def K mg "_law_need" sneed Pneed f fd) (T : Txt K mg) {fafter : Addr} {fdafter : FuncData} (Dafter : Def K mg "_law_after" safter Pafter fafter fdafter) (Gafter : FnOk P w K mg base CX0 3 fafter fdafter Pafter (spafter 3)) {frow : Addr} {fdrow : FuncData} (Drow : Def K mg "_law_row" srow Prow frow fdrow) (Grow : FnOk P w K mg base CX0 1 frow fdrow Prow (sprow)) {fgap : Addr} {fdgap : FuncData} (Dgap : Def K mg "_law_gap" sgap Pgap fgap fdgap) (Ggap : FnOk P w K mg base CX0 3 fgap fdgap Pgap (spgap)) :
    FnOk P w K mg base CX0 4 f fd Pneed (spneed) := by
  refine D.F.ok scneed (fun vs H Q E h => ?_) (fun cdv A outer s H vs Q E hr h => ?_)
  · obtain ⟨L, fx, o, rs, p, M, a, t, b, rfl, hL, hp, ok, h3, ho, ha, hb, k⟩ := h
    rfl
  · obtain ⟨L, fx, o, rs, p, M, a, t, b, rfl, hL, hp, ok, h3, ho, ha, hb, k⟩ := h
    have hrafter : Room 3 _ := hr.mono (by decide)
    have hrrow : Room 1 _ := hr.mono (by decide)
    have hrgap : Room 3 _ := hr.mono (by decide)
    refine ⟨_, (pss_one (ps_ret (pe_op op_add (pe_call Gafter hrafter rfl Dafter.g Dafter.F.kp Dafter.b .nil pass0 (pa_cons (pv 1) (pa_cons (pe_op op_add (pe_ix ix_tup (pv 2) pe_int (fun _ _ => rfl)) (pe_ix ix_tup (pe_call Grow hrrow rfl Drow.g Drow.F.kp Drow.b .nil pass0 (pa_cons (pv 0) (pa_cons (pe_ix ix_tup (pv 2) pe_int (fun _ _ => rfl)) pa_nil))) pe_int (fun _ _ => rfl))) pa_nil))) (pe_ix ix_tup (pe_call Ggap hrgap rfl Dgap.g Dgap.F.kp Dgap.b .nil pass0 (pa_cons (pv 0) (pa_cons (pe_ix ix_tup (pv 2) pe_int (fun _ _ => rfl)) (pa_cons (pv 3) pa_nil)))) pe_int (fun _ _ => rfl))))), ?_⟩
    refine ⟨_, rfl, _, rfl, _, _, _, _, rfl, rfl, SqT.of ho, rfl, _, rfl, _, rfl, _, _, _, _, rfl, rfl, SqT.of ho, rfl, L, rs, a, rfl, hL, ha, fun x q H1 s1 hq hx => ?_⟩
    have ee : erOf (rv rs) a = q.er := by unfold erOf; rw [hq]; rfl
    refine ⟨_, _, _, _, rfl, rfl, SqT.of hx, rfl, _, _, rfl, rfl, fx, p, M, _, rfl, hp.kt (Kt.same s1), ok, h3, fun H2 s2 => ?_⟩
    have s12 := s1.trans s2
    refine ⟨_, rfl, _, rfl, _, _, _, _, rfl, rfl, SqT.of (s12 _ _ ho), rfl, _, rfl, L, rs, a, b, rfl, hL.same s12, ha, hb, fun T s H3 s3 hT => ?_⟩
    refine ⟨_, _, _, _, rfl, rfl, SqT.of hT, rfl, _, _, rfl, rfl, ?_⟩
    have := k H3 (s12.trans s3)
    unfold needI at this
    rw [ee] at this
    exact this
end k80
namespace k80
open PySem L2 LC RM
def spxleads : Sp := fun vs H Q _ => ∃ (L fx o o2 : Addr) (rs : List Rw) (p : Pl) (M : Nat) (a : Str) (t : Int) (b : Str) (u : Int), vs = [.ref L, .ref fx, .ref o, .ref o2] ∧ LRows H L rs ∧ PlanAt H p fx ∧ p.ok M ∧ p.h < 3 ∧ H o = some (.tup [.str a, .int t]) ∧ H o2 = some (.tup [.str b, .int u]) ∧ Has (rv rs) a ∧ Has (rv rs) b ∧ ∀ H', Same H H' → Q (.bl (leadB rs p a t b u)) H'
theorem ok_xleads {P : Program} {w : World} {K : PySem.W.Frag} {mg : Str → Option Value} {base : Heap} {f : Addr} {fd : FuncData} (D : Def K mg "_law_leads" sxleads Pxleads f fd) (T : Txt K mg) {frow : Addr} {fdrow : FuncData} (Drow : Def K mg "_law_row" srow Prow frow fdrow) (Grow : FnOk P w K mg base CX0 1 frow fdrow Prow (sprow)) {fneed : Addr} {fdneed : FuncData} (Dneed : Def K mg "_law_need" sneed Pneed fneed fdneed) (Gneed : FnOk P w K mg base CX0 4 fneed fdneed Pneed (spneed)) :
    FnOk P w K mg base CX0 5 f fd Pxleads (spxleads) := by
  refine D.F.ok scxleads (fun vs H Q E h => ?_) (fun cdv A outer s H vs Q E hr h => ?_)
  · obtain ⟨L, fx, o, o2, rs, p, M, a, t, b, u, rfl, hL, hp, ok, h3, ho, ho2, ha, hb, k⟩ := h
    rfl
  · obtain ⟨L, fx, o, o2, rs, p, M, a, t, b, u, rfl, hL, hp, ok, h3, ho, ho2, ha, hb, k⟩ := h
    have hrrow : Room 1 _ := hr.mono (by decide)
    have hrneed : Room 4 _ := hr.mono (by decide)
    refine ⟨_, (pss_one (ps_ret (pe_cmpR op_gt (pe_op op_sub (pe_ix ix_tup (pv 3) pe_int (fun _ _ => rfl)) (pe_ix ix_tup (pe_call Grow hrrow rfl Drow.g Drow.F.kp Drow.b .nil pass0 (pa_cons (pv 0) (pa_cons (pe_ix ix_tup (pv 3) pe_int (fun _ _ => rfl)) pa_nil))) pe_int (fun _ _ => rfl))) (pe_call Gneed hrneed rfl Dneed.g Dneed.F.kp Dneed.b .nil pass0 (pa_cons (pv 0) (pa_cons (pv 1) (pa_cons (pv 2) (pa_cons (pe_ix ix_tup (pv 3) pe_int (fun _ _ => rfl)) pa_nil))))) (nomark _)))), ?_⟩
    refine ⟨_, rfl, _, _, _, _, rfl, rfl, SqT.of ho2, rfl, _, rfl, _, rfl, _, _, _, _, rfl, rfl, SqT.of ho2, rfl, L, rs, b, rfl, hL, hb, fun x q H1 s1 hq hx => ?_⟩
    have ee : erOf (rv rs) b = q.er := by unfold erOf; rw [hq]; rfl
    refine ⟨_, _, _, _, rfl, rfl, SqT.of hx, rfl, _, _, rfl, rfl, ?_⟩
    refine ⟨_, rfl, _, rfl, _, rfl, _, rfl, _, _, _, _, rfl, rfl, SqT.of (s1 _ _ ho2), rfl, L, fx, o, rs, p, M, a, t, b, rfl, hL.same s1, hp.kt (Kt.same s1), ok, h3, s1 _ _ ho, ha, hb, fun H2 s2 => ⟨_, _, rfl, rfl, ?_⟩⟩
    have := k H2 (s1.trans s2)
    unfold leadB at this
    rw [ee] at this
    exact this
end k80
namespace k80
open PySem L2 LC RM
def spchain : Sp := fun vs H Q _ => ∃ (g l L fx : Addr) (rs : List Rw) (p : Pl) (M : Nat), vs = [.ref g, .ref L, .ref fx] ∧ Box l H g ∧ L ≠ g ∧ L ≠ l ∧ LRows H L rs ∧ PlanAt H p fx ∧ p.ok M ∧ p.h < 3 ∧
  ∀ (D : Addr) (ts : List Addr) (ds : List (Str × Int)) H', OkB g l H H' → D ≠ g → D ≠ l → H' D = some (.lst (ts.map V.ref)) → DemsAt H' (rv rs) ts ds → ts.length = 6 → Q (.ref D) H'
theorem ok_chain {P : Program} {w : World} {K : PySem.W.Frag} {mg : Str → Option Value} {base : Heap} {f : Addr} {fd : FuncData} (D : Def K mg "_law_chain" schain Pchain f fd) (T : Txt K mg) {ftake : Addr} {fdtake : FuncData} (Dtake : Def K mg "_law_take" stake Ptake ftake fdtake) (Gtake : FnOk P w K mg base CX0 1 ftake fdtake Ptake (sptake)) {fneed : Addr} {fdneed : FuncData} (Dneed : Def K mg "_law_need" sneed Pneed fneed fdneed) (Gneed : FnOk P w K mg base CX0 4 fneed fdneed Pneed (spneed)) :
    FnOk P w K mg base CX0 5 f fd Pchain (spchain) := by
  refine D.F.ok scchain (fun vs H Q E h => ?_) (fun cdv A outer s H vs Q E hr h => ?_)
  · obtain ⟨g, l, L, fx, rs, p, M, rfl, B, Lg, Ll, ⟨xs, hL, hat, hw⟩, hp, ok, h3, k⟩ := h
    rfl
  · obtain ⟨g, l, L, fx, rs, p, M, rfl, B, Lg, Ll, ⟨xs, hL, hat, hw⟩, hp, ok, h3, k⟩ := h
    have hrtake : Room 1 _ := hr.mono (by decide)
    have hrneed : Room 4 _ := hr.mono (by decide)
    refine ⟨_, (pss_cons (ps_set (i := 3) scchain.nd rfl (Or.inl rfl) pe_int)
        (Evl.pss_cut (ps_if (pt_cmpR op_eq (pe_call Gtake hrtake rfl Dtake.g Dtake.F.kp Dtake.b .nil pass0 (pa_cons (pv 0) (pa_cons pe_int pa_nil))) pe_int (nomark _)) (pss_one (ps_set (i := 3) scchain.nd rfl (Or.inl rfl) pe_int)) pss_nil)
        (pss_cons (ps_set (i := 4) scchain.nd rfl (Or.inl rfl) (pe_lst (pa_cons (pe_tup (pa_cons (pe_ix ix_tup (pe_ix ix_list (pv 1) (pe_call Gtake hrtake rfl Dtake.g Dtake.F.kp Dtake.b .nil pass0 (pa_cons (pv 0) (pa_cons (pe_callB call_len_seq (by rfl) T.n_len PySem.boot_len (pa_cons (pv 1) pa_nil)) pa_nil))) (fun _ _ => rfl)) pe_int (fun _ _ => rfl)) (pa_cons (pe_call Gtake hrtake rfl Dtake.g Dtake.F.kp Dtake.b .nil pass0 (pa_cons (pv 0) (pa_cons (pv 3) pa_nil))) pa_nil))) pa_nil)))
        (pss_cons (ps_for PassesOwn.never rfl (pi_range1 rfl T.n_range (pa_cons pe_int pa_nil)) (pg_name (i := 5) scchain.nd rfl (Or.inl rfl))
          (pss_cons (ps_set (i := 6) scchain.nd rfl (Or.inl rfl) (pe_ix ix_list (pv 4) (pe_op op_sub (pe_op op_sub (pe_callB call_len_seq (by rfl) T.n_len PySem.boot_len (pa_cons (pv 4) pa_nil)) pe_int) (pe_op op_mul (pe_call Gtake hrtake rfl Dtake.g Dtake.F.kp Dtake.b .nil pass0 (pa_cons (pv 0) (pa_cons pe_int pa_nil))) (pe_call Gtake hrtake rfl Dtake.g Dtake.F.kp Dtake.b .nil pass0 (pa_cons (pv 0) (pa_cons (pe_callB call_len_seq (by rfl) T.n_len PySem.boot_len (pa_cons (pv 4) pa_nil)) pa_nil))))) (fun _ _ => rfl)))
        (pss_cons (ps_set (i := 7) scchain.nd rfl (Or.inl rfl) (pe_ix ix_list (pv 1) (pe_call Gtake hrtake rfl Dtake.g Dtake.F.kp Dtake.b .nil pass0 (pa_cons (pv 0) (pa_cons (pe_callB call_len_seq (by rfl) T.n_len PySem.boot_len (pa_cons (pv 1) pa_nil)) pa_nil))) (fun _ _ => rfl)))
        (pss_cons (ps_set (i := 8) scchain.nd rfl (Or.inl rfl) (pe_op op_add (pe_op op_add (pe_ix ix_tup (pv 7) pe_int (fun _ _ => rfl)) (pe_call Gneed hrneed rfl Dneed.g Dneed.F.kp Dneed.b .nil pass0 (pa_cons (pv 1) (pa_cons (pv 2) (pa_cons (pv 6) (pa_cons (pe_ix ix_tup (pv 7) pe_int (fun _ _ => rfl)) pa_nil)))))) pe_int))
        (pss_one (ps_expr (pe_bm PySem.F.plainAttrs_list PySem.F.slot_list_append PySem.F.type_list_append mt_append (pv 4) (pa_cons (pe_tup (pa_cons (pe_ix ix_tup (pv 7) pe_int (fun _ _ => rfl)) (pa_cons (pe_callB (call_min2 rfl) (by rfl) T.n_min (by decide +kernel) (pa_cons pe_int (pa_cons (pe_callB (call_max2 rfl) (by rfl) T.n_max (by decide +kernel) (pa_cons pe_int (pa_cons (pe_op op_sub (pe_op op_add (pv 8) (pe_call Gtake hrtake rfl Dtake.g Dtake.F.kp Dtake.b .nil pass0 (pa_cons (pv 0) (pa_cons pe_int pa_nil)))) pe_int) pa_nil))) pa_nil))) pa_nil))) pa_nil))))))))
        (pss_one (ps_ret (pv 4))))))), ?_⟩
    have lx := hat.len
    have wp := hw.pos
    have wl := hw.len
    refine ⟨fun σ H' => ∃ m : Int, 1 ≤ m ∧ m ≤ 90000 ∧ OkB g l H H' ∧ σ = [some (.ref g), some (.ref L), some (.ref fx), some (.int m), none, none, none, none, none], ?_, ?_⟩
    · refine ⟨_, rfl, g, l, 5, rfl, B, by decide, by decide, fun d H1 d0 d1 r1 => ⟨rfl, _, rfl, ?_⟩⟩
      exact ite_eq (fun _ => ⟨90000, by decide, by decide, r1, rfl⟩) (fun _ => ⟨61, by decide, by decide, r1, rfl⟩)
    rintro σ H1 ⟨m, m0, m1, r1, rfl⟩
    have pick : ∀ (H' : Hp), OkB g l H H' → H' L = some (.lst (xs.map V.ref)) ∧ RowsAt H' rs xs ∧ LRows H' L rs ∧ PlanAt H' p fx := fun H' r =>
      ⟨r.at_ hL Lg Ll, hat.kp fun b ys e => r.tup e, ⟨xs, r.at_ hL Lg Ll, hat.kp fun b ys e => r.tup e, hw⟩, hp.kt r.kt⟩
    have at_row : ∀ (H' : Hp) (d : Int), OkB g l H H' → 0 ≤ d → d < ((xs.map V.ref).length : Int) → ∃ (x : Addr) (q : Rw), atI (xs.map V.ref) d = some (.ref x) ∧ H' x = some (rowV q) ∧ q ∈ rs := fun H' d r d0 d1 => by
      rw [List.length_map, lx] at d1
      obtain ⟨j, rfl⟩ : ∃ j : Nat, d = (j : Int) := ⟨d.toNat, by omega⟩
      have hj : j < rs.length := by omega
      obtain ⟨x, hx, hx2⟩ := (pick H' r).2.1.get (List.getElem?_eq_getElem hj)
      exact ⟨x, rs[j], atI_nat (by rw [List.getElem?_map, hx]; rfl), hx2, List.getElem_mem _⟩
    have hasq : ∀ q ∈ rs, Has (rv rs) q.nm := fun q hq => ⟨q, List.mem_reverse.mpr hq, rfl⟩
    have lpos : 0 < ((xs.map V.ref).length : Int) := by rw [List.length_map, lx]; omega
    have llt : ((xs.map V.ref).length : Int) < 1073741824 := by rw [List.length_map, lx]; omega
    -- the first demand
    refine ⟨_, rfl, _, rfl, _, rfl, _, _, rfl, .inl (SqL.of (pick H1 r1).1), g, l, _, rfl, r1.bag, lpos, llt, fun d H2 d0 d1 r2 => ?_⟩
    have R2 := r1.trans r2
    obtain ⟨x, q, hx, hxq, hq⟩ := at_row H2 d R2 d0 d1
    refine ⟨_, _, _, _, rfl, rfl, SqL.of (pick H2 R2).1, hx, _, _, _, _, rfl, rfl, SqT.of hxq, rfl, ?_⟩
    refine ⟨_, rfl, _, rfl, g, l, m, rfl, r2.bag, by omega, by omega, fun u H3 u0 u1 r3 => ⟨(by show 2 ≤ sizeLine; decide), fun t ht => ?_⟩⟩
    have R4 := (R2.trans r3).new (o := .tup [.str q.nm, .int u]) ht
    have ht4 : upd H3 t (.tup [.str q.nm, .int u]) t = some (.tup [.str q.nm, .int u]) := upd_same
    refine ⟨(by show 1 ≤ sizeLine; decide), fun D hD => ?_⟩
    have nD := R4.bag.ne hD
    have R5 := (OkB.refl R4.bag).new (o := .lst [V.ref t]) hD
    have hD5 : upd (upd H3 t (.tup [.str q.nm, .int u])) D (.lst [V.ref t]) D = some (.lst [V.ref t]) := upd_same
    have ht5 := R5.tup ht4
    refine ⟨_, rfl, by decide, by decide, for_range (lo := 0) (n := 5) (fun i σ H' => ∃ (ts : List Addr) (ds : List (Str × Int)) (v5 v6 v7 v8 : Option V), σ = [some (.ref g), some (.ref L), some (.ref fx), some (.int m), some (.ref D), v5, v6, v7, v8] ∧ OkB g l (upd H3 t (.tup [.str q.nm, .int u])) H' ∧ H' D = some (.lst (ts.map V.ref)) ∧ DemsAt H' (rv rs) ts ds ∧ ts.length = i + 1)
      ⟨[t], [(q.nm, u)], none, none, none, none, rfl, R5, hD5, .cons ht5 (hasq q hq) .nil, rfl⟩ ?_ ?_⟩
    · rintro i σ H6 hi ⟨ts, ds, v5, v6, v7, v8, rfl, R6, hD6, dem, lt⟩
      have lens : ((ts.map V.ref).length : Int) = (i : Int) + 1 := by rw [List.length_map, lt]; rfl
      -- the demand that leads
      refine ⟨_, rfl, _, rfl, _, _, rfl, .inl (SqL.of hD6), _, _, rfl, rfl, _, rfl, g, l, 2, rfl, R6.bag, by decide, by decide, fun e1 H7 e10 e11 r7 => ?_⟩
      have hD7 := r7.at_ hD6 nD.1 nD.2
      refine ⟨_, rfl, _, rfl, _, _, rfl, .inl (SqL.of hD7), g, l, _, rfl, r7.bag, by omega, by omega, fun e2 H8 e20 e21 r8 => ?_⟩
      have R8 := R6.trans (r7.trans r8)
      have hD8 := r8.at_ hD7 nD.1 nD.2
      have dem8 : DemsAt H8 (rv rs) ts ds := dem.kp fun b ys e => r8.tup (r7.tup e)
      have mul : 0 ≤ e1 * e2 ∧ e1 * e2 ≤ (i : Int) := by
        obtain h | h : e1 = 0 ∨ e1 = 1 := by omega
        · subst h; rw [Int.zero_mul]; omega
        · subst h; rw [Int.one_mul]; omega
      obtain ⟨j, hj⟩ : ∃ j : Nat, ((ts.map V.ref).length : Int) - 1 - e1 * e2 = (j : Int) := ⟨(((ts.map V.ref).length : Int) - 1 - e1 * e2).toNat, by omega⟩
      have hjl : j < ts.length := by omega
      obtain ⟨dd, hdd, hto, hhas⟩ := dem8.get (List.getElem?_eq_getElem hjl)
      have hat8 : atI (ts.map V.ref) (((ts.map V.ref).length : Int) - 1 - e1 * e2) = some (.ref ts[j]) := by
        rw [hj]
        exact atI_nat (by rw [List.getElem?_map, List.getElem?_eq_getElem hjl]; rfl)
      refine ⟨_, _, rfl, rfl, .inl ⟨by omega, by omega⟩, _, _, rfl, rfl, _, _, _, _, rfl, rfl, SqL.of hD8, hat8, ?_⟩
      -- the place
      have RR8 := R4.trans R8
      refine ⟨_, rfl, _, rfl, _, rfl, _, _, rfl, .inl (SqL.of (pick H8 RR8).1), g, l, _, rfl, R8.bag, lpos, llt, fun d9 H9 d90 d91 r9 => ?_⟩
      have R9 := RR8.trans r9
      obtain ⟨x9, q9, hx9, hxq9, hq9⟩ := at_row H9 d9 R9 d90 d91
      refine ⟨_, _, _, _, rfl, rfl, SqL.of (pick H9 R9).1, hx9, ?_⟩
      -- the edge
      refine ⟨_, rfl, _, _, _, _, rfl, rfl, SqT.of hxq9, rfl, _, rfl, _, rfl, _, rfl, _, rfl, _, _, _, _, rfl, rfl, SqT.of hxq9, rfl, ?_⟩
      refine ⟨L, fx, ts[j], rs, p, M, dd.1, dd.2, q9.nm, rfl, (pick H9 R9).2.2.1, (pick H9 R9).2.2.2, ok, h3, r9.tup hto, hhas, hasq q9 hq9, fun H10 s10 => ⟨_, _, rfl, rfl, _, _, rfl, rfl, ?_⟩⟩
      have R10 := r9.same s10
      have hD10 := R10.at_ hD8 nD.1 nD.2
      have hxq10 := s10 _ _ hxq9
      refine ⟨_, rfl, .inl ⟨rfl, _, SqL.of hD10⟩, _, rfl, _, _, _, _, rfl, rfl, SqT.of hxq10, rfl, ?_⟩
      refine ⟨_, rfl, _, rfl, g, l, 4, rfl, R10.bag, by decide, by decide, fun e4 H11 _ _ r11 => ?_⟩
      have r811 := R10.trans r11
      have hD11 := r811.at_ hD8 nD.1 nD.2
      have dem11 : DemsAt H11 (rv rs) ts ds := dem8.kp fun b ys e => r811.tup e
      have fin : ∀ (X : Int) (t2 : Addr), H11 t2 = none → ∃ (ts' : List Addr) (ds' : List (Str × Int)), OkB g l (upd H3 t (.tup [.str q.nm, .int u])) (upd (upd H11 t2 (.tup [.str q9.nm, .int X])) D (.lst (ts.map V.ref ++ [.ref t2]))) ∧ upd (upd H11 t2 (.tup [.str q9.nm, .int X])) D (.lst (ts.map V.ref ++ [.ref t2])) D = some (.lst (ts'.map V.ref)) ∧ DemsAt (upd (upd H11 t2 (.tup [.str q9.nm, .int X])) D (.lst (ts.map V.ref ++ [.ref t2]))) (rv rs) ts' ds' ∧ ts'.length = i + 1 + 1 := fun X t2 ht2 => by
        have s12 := same_new (o := .tup [.str q9.nm, .int X]) ht2
        have R12 := (R8.trans r811).new (o := .tup [.str q9.nm, .int X]) ht2
        have ht12 : upd H11 t2 (.tup [.str q9.nm, .int X]) t2 = some (.tup [.str (q9.nm, X).1, .int (q9.nm, X).2]) := upd_same
        have dem12 : DemsAt (upd H11 t2 (.tup [.str q9.nm, .int X])) (rv rs) (ts ++ [t2]) (ds ++ [(q9.nm, X)]) := (dem11.kp fun b ys e => s12 _ _ e).snoc ht12 (hasq q9 hq9)
        refine ⟨ts ++ [t2], ds ++ [(q9.nm, X)], R12.mut hD, ?_, dem12.kp fun b ys e => ?_, by rw [List.length_append, lt]; rfl⟩
        · rw [upd_same, List.map_append]
          rfl
        · rw [upd_ne (fun z => by rw [z, s12 _ _ hD11] at e; cases e)]
          exact e
      refine ⟨_, _, rfl, rfl, _, _, rfl, rfl, _, _, rfl, _, _, rfl, (by show 2 ≤ sizeLine; decide), fun t2 ht2 => ?_⟩
      refine ⟨D, ts.map V.ref, _, rfl, rfl, ?_, by rw [List.length_map, lt]; exact Nat.lt_of_lt_of_le (show i + 1 < 7 by omega) (by decide), ?_⟩
      · rw [upd_ne (ne_of_none hD11 ht2)]
        exact hD11
      obtain ⟨ts', ds', f1, f2, f3, f4⟩ := fin _ t2 ht2
      exact ⟨ts', ds', _, _, _, _, rfl, f1, f2, f3, f4⟩
    rintro σ H6 ⟨ts, ds, v5, v6, v7, v8, rfl, R6, hD6, dem, lt⟩
    exact ⟨_, rfl, k D ts ds H6 (R4.trans R6) nD.1 nD.2 hD6 dem lt⟩
end k80
namespace k80
open PySem L2 LC RM
def splaw (K : PySem.W.Frag) : Sp := fun vs H Q _ => ∃ (a : Addr) (ns : List Int), vs = [.ref a] ∧ SqL K H a (ns.map V.int) ∧ ns.length ≤ 63 ∧ ∀ H', Q (.bl true) H'
theorem ok_law {P : Program} {w : World} {K : PySem.W.Frag} {mg : Str → Option Value} {base : Heap} {f : Addr} {fd : FuncData} (D : Def K mg "law" slaw Plaw f fd) (T : Txt K mg) {a : Ad} (KN : Kn K mg a) {r : Ar} (KR : Kr K mg r) {fleads : Addr} {fdleads : FuncData} (Dleads : Def K mg "leads" sleads Pleads fleads fdleads) (Gleads : FnOk P w K mg base CX0 6 fleads fdleads Pleads (spleads a r)) {fbox : Addr} {fdbox : FuncData} (Dbox : Def K mg "_law_box" sbox Pbox fbox fdbox) (Gbox : FnOk P w K mg base CX0 1 fbox fdbox Pbox (spbox K)) {ftake : Addr} {fdtake : FuncData} (Dtake : Def K mg "_law_take" stake Ptake ftake fdtake) (Gtake : FnOk P w K mg base CX0 1 ftake fdtake Ptake (sptake)) {fform : Addr} {fdform : FuncData} (Dform : Def K mg "_law_form" sform Pform fform fdform) (Gform : FnOk P w K mg base CX0 3 fform fdform Pform (spform)) {frows : Addr} {fdrows : FuncData} (Drows : Def K mg "_law_rows" srows Prows frows fdrows) (Grows : FnOk P w K mg base CX0 2 frows fdrows Prows (sprows)) {fnet : Addr} {fdnet : FuncData} (Dnet : Def K mg "_law_net" snet Pnet fnet fdnet) (Gnet : FnOk P w K mg base CX0 10 fnet fdnet Pnet (spnet a r)) {fxleads : Addr} {fdxleads : FuncData} (Dxleads : Def K mg "_law_leads" sxleads Pxleads fxleads fdxleads) (Gxleads : FnOk P w K mg base CX0 5 fxleads fdxleads Pxleads (spxleads)) {fchain : Addr} {fdchain : FuncData} (Dchain : Def K mg "_law_chain" schain Pchain fchain fdchain) (Gchain : FnOk P w K mg base CX0 5 fchain fdchain Pchain (spchain)) :
    LN.LawB P w K mg base 11 f (splaw K) := by
  refine LN.lawB_of D.F sclaw D.b (fun cdv A outer s H vs Q E hG hr h => ?_)
  · obtain ⟨sc, ns, rfl, hS, hl, k⟩ := h
    have hrleads : Room 6 _ := hr.mono (by decide)
    have hrbox : Room 1 _ := hr.mono (by decide)
    have hrtake : Room 1 _ := hr.mono (by decide)
    have hrform : Room 3 _ := hr.mono (by decide)
    have hrrows : Room 2 _ := hr.mono (by decide)
    have hrnet : Room 10 _ := hr.mono (by decide)
    have hrxleads : Room 5 _ := hr.mono (by decide)
    have hrchain : Room 5 _ := hr.mono (by decide)
    have hu := hr.units
    refine ⟨_, (pss_cons (ps_set (i := 1) sclaw.nd rfl (Or.inl rfl) (pe_call Gbox hrbox rfl Dbox.g Dbox.F.kp Dbox.b .nil pass0 (pa_cons (pv 0) pa_nil)))
        (pss_cons (ps_set (i := 2) sclaw.nd rfl (Or.inr rfl) (pe_call Grows hrrows rfl Drows.g Drows.F.kp Drows.b .nil pass0 (pa_cons (pv 1) (pa_cons (pe_op op_add pe_int (pe_call Gtake hrtake rfl Dtake.g Dtake.F.kp Dtake.b .nil pass0 (pa_cons (pv 1) (pa_cons pe_int pa_nil)))) (pa_cons pe_int (pa_cons pe_int pa_nil))))))
        (pss_cons (ps_set (i := 3) sclaw.nd rfl (Or.inr rfl) (pe_call Gform hrform rfl Dform.g Dform.F.kp Dform.b .nil pass0 (pa_cons (pv 1) pa_nil)))
        (pss_cons (ps_set (i := 4) sclaw.nd rfl (Or.inr rfl) (pe_call Gnet hrnet rfl Dnet.g Dnet.F.kp Dnet.b .nil pass0 (pa_cons (pv 2) (pa_cons (pv 3) pa_nil))))
        (pss_cons (ps_set (i := 5) sclaw.nd rfl (Or.inl rfl) (pe_call Gchain hrchain rfl Dchain.g Dchain.F.kp Dchain.b .nil pass0 (pa_cons (pv 1) (pa_cons (pv 2) (pa_cons (pv 3) pa_nil)))))
        (pss_cons (ps_set (i := 6) sclaw.nd rfl (Or.inl rfl) (pe_lst pa_nil))
        (pss_cons (ps_for PassesOwn.never rfl (pi_list (pv 5)) (pg_name (i := 7) sclaw.nd rfl (Or.inr rfl))
          (pss_cons (ps_setLc (i := 8) (own := [("_law_two", 9)]) (g := gName 9) (tt := tYes) rfl sclaw.nd rfl rfl (sw_true rfl rfl rfl (by decide +kernel)) (pi_list (pv 5)) (blkOk_by (own := [("_law_two", 9)]) (N := Nmlaw) (sc := defScope slaw) (by decide +kernel)) (fun _ _ _ _ _ => pg_name (i := 9) sclaw.nd rfl (Or.inl rfl)) (fun _ _ _ _ _ => pts_nil) (fun _ _ _ _ _ => (pe_call Gleads hrleads rfl Dleads.g Dleads.F.kp Dleads.b .nil pass0 (pa_cons (pv 4) (pa_cons (pv 7) (pa_cons (pv 9) pa_nil))))))
        (pss_cons (ps_setLc (i := 10) (own := [("_law_two", 9)]) (g := gName 9) (tt := tYes) rfl sclaw.nd rfl rfl (sw_true rfl rfl rfl (by decide +kernel)) (pi_list (pv 5)) (blkOk_by (own := [("_law_two", 9)]) (N := Nmlaw) (sc := defScope slaw) (by decide +kernel)) (fun _ _ _ _ _ => pg_name (i := 9) sclaw.nd rfl (Or.inl rfl)) (fun _ _ _ _ _ => pts_nil) (fun _ _ _ _ _ => (pe_callK Gleads hrleads rfl Dleads.g Dleads.F.kp (KB_leads Dleads.F) pass0 (pa_cons (pv 4) pa_nil) (pk_cons (pv 7) (pk_cons (pv 9) pk_nil)))))
        (pss_cons (ps_setLc (i := 11) (own := [("_law_two", 9)]) (g := gName 9) (tt := tYes) rfl sclaw.nd rfl rfl (sw_true rfl rfl rfl (by decide +kernel)) (pi_list (pv 5)) (blkOk_by (own := [("_law_two", 9)]) (N := Nmlaw) (sc := defScope slaw) (by decide +kernel)) (fun _ _ _ _ _ => pg_name (i := 9) sclaw.nd rfl (Or.inl rfl)) (fun _ _ _ _ _ => pts_nil) (fun _ _ _ _ _ => (pe_call Gxleads hrxleads rfl Dxleads.g Dxleads.F.kp Dxleads.b .nil pass0 (pa_cons (pv 2) (pa_cons (pv 3) (pa_cons (pv 7) (pa_cons (pv 9) pa_nil)))))))
        (pss_cons (ps_if (PW.pt (pw_or (pt_cmpR op_ne (pe_callB (LN.call_reprB hG hu) (by rfl) T.n_repr (by decide +kernel) (pa_cons (pv 8) pa_nil)) (pe_callB (LN.call_reprB hG hu) (by rfl) T.n_repr (by decide +kernel) (pa_cons (pv 11) pa_nil)) (nomark _)) (pw_or1 (pt_cmpR op_ne (pe_callB (LN.call_reprB hG hu) (by rfl) T.n_repr (by decide +kernel) (pa_cons (pv 10) pa_nil)) (pe_callB (LN.call_reprB hG hu) (by rfl) T.n_repr (by decide +kernel) (pa_cons (pv 11) pa_nil)) (nomark _))))) (pss_one (ps_ret pe_bl)) pss_nil)
        (pss_one (ps_expr (pe_bm PySem.F.plainAttrs_list PySem.F.slot_list_append PySem.F.type_list_append mt_append (pv 6) (pa_cons (pv 8) pa_nil)))))))))
        (pss_cons (ps_for PassesOwn.never rfl (pi_range1 rfl T.n_range (pa_cons pe_int pa_nil)) (pg_name (i := 7) sclaw.nd rfl (Or.inr rfl))
          (pss_cons (ps_if (pt_val (pe_ix ix_list (pe_ix ix_list (pv 6) (pv 7) (fun _ _ => rfl)) (pv 7) (fun _ _ => rfl))) (pss_one (ps_ret pe_bl)) pss_nil)
        (pss_one (ps_for PassesOwn.never rfl (pi_range1 rfl T.n_range (pa_cons pe_int pa_nil)) (pg_name (i := 9) sclaw.nd rfl (Or.inl rfl))
          (pss_one (ps_for PassesOwn.never rfl (pi_range1 rfl T.n_range (pa_cons pe_int pa_nil)) (pg_name (i := 12) sclaw.nd rfl (Or.inl rfl))
          (pss_one (ps_if (PW.pt (pw_and (pt_val (pe_ix ix_list (pe_ix ix_list (pv 6) (pv 7) (fun _ _ => rfl)) (pv 9) (fun _ _ => rfl))) (pw_and (pt_val (pe_ix ix_list (pe_ix ix_list (pv 6) (pv 9) (fun _ _ => rfl)) (pv 12) (fun _ _ => rfl))) (pw_and1 (pt_not (pt_val (pe_ix ix_list (pe_ix ix_list (pv 6) (pv 7) (fun _ _ => rfl)) (pv 12) (fun _ _ => rfl)))))))) (pss_one (ps_ret pe_bl)) pss_nil))))))))
        (pss_one (ps_ret pe_bl)))))))))), ?_⟩
    refine ⟨_, rfl, sc, ns, rfl, hS, hl, fun g H1 ng s1 ⟨l, nl, B⟩ => ?_⟩
    refine ⟨_, rfl, _, rfl, g, l, 5, rfl, B, by decide, by decide, fun d0 H2 _ _ r2 => ⟨_, _, rfl, rfl, g, l, 1 + d0, 4, 5, rfl, r2.bag, by omega, by omega, by decide, by decide, by decide, by decide, fun rs L H3 r3 Lg Ll hL => ?_⟩⟩
    refine ⟨_, rfl, g, l, rfl, r3.bag, fun p fx M H4 r4 m0 m1 ok lv hp => ?_⟩
    have hL4 := hL.okb r4 Lg Ll
    have hh := p.h_lt
    refine ⟨_, rfl, _, rfl, (fun b => b = g ∨ b = l), L, fx, rs, p, M, rfl, hL4, hp, ok, m0, m1, by omega, ?_, fun N H5 s5 nf => ?_⟩
    · rintro c (rfl | rfl)
      · exact ⟨_, r4.bag.there.1.choose_spec⟩
      · exact ⟨_, r4.bag.there.2.choose_spec⟩
    have r5 := (OkB.refl r4.bag).same s5
    have hL5 := hL4.same s5
    have hp5 := hp.kt (Kt.same s5)
    refine ⟨_, rfl, _, rfl, _, rfl, g, l, L, fx, rs, p, M, rfl, r5.bag, Lg, Ll, hL5, hp5, ok, by omega, fun D ts ds H6 r6 Dg Dl hD dem lt => ?_⟩
    have nf6 := nf.okb r6
    have hL6 := hL5.okb r6 Lg Ll
    have hp6 := hp5.kt r6.kt
    have hw : Rws rs := hL6.choose_spec.2.2
    have ld : ds.length = 6 := by rw [← dem.len]; exact lt
    refine ⟨Nat.zero_le _, fun TL hTL => ?_⟩
    have DTL : D ≠ TL := ne_of_none hD hTL
    refine ⟨_, rfl, D, rfl, ⟨_, SqL.of (by rw [upd_ne DTL]; exact hD)⟩, for_list (K := K) (a := D) (xs := ts.map V.ref) (fun i σ H' => ∃ (v7 v8 v9 v10 v11 v12 : Option V) (qs : List Addr), σ = [some (.ref sc), some (.ref g), some (.ref L), some (.ref fx), some (.ref N), some (.ref D), some (.ref TL), v7, v8, v9, v10, v11, v12] ∧ Same H6 H' ∧ H' TL = some (.lst (qs.map V.ref)) ∧ Told H' rs p ds qs i)
      ⟨none, none, none, none, none, none, [], rfl, same_new hTL, upd_same, rfl, fun j q d z => by simp at z⟩ (fun i σ H' _ ⟨_, _, _, _, _, _, _, _, s, _⟩ => SqL.of (s _ _ hD)) ?_ ?_⟩
    · rintro i y σ H7 hi ⟨v7, v8, v9, v10, v11, v12, qs, rfl, s7, hTL7, ql, told⟩
      obtain ⟨t1, ht1i, rfl⟩ : ∃ x, ts[i]? = some x ∧ V.ref x = y := by
        rw [List.getElem?_map] at hi
        cases e : ts[i]? with
        | none => rw [e] at hi; cases hi
        | some x => rw [e] at hi; exact ⟨x, rfl, Option.some.inj hi⟩
      obtain ⟨d, hd, ht1, has1⟩ := dem.get ht1i
      have hi6 : i < 6 := by have := (List.getElem?_eq_some_iff.mp ht1i).1; omega
      have rl : (rowB rs p ds d).length = 6 := by unfold rowB; rw [List.length_map, ld]
      have hD7 := s7 _ _ hD
      refine ⟨_, rfl, D, rfl, ⟨_, SqL.of hD7⟩, fun C1 hC1 => ?_⟩
      refine lc_list (K := K) (a := D) (xs := ts.map V.ref) (fun j H' => Same H7 H' ∧ H' C1 = some (.lst (((rowB rs p ds d).take j).map V.bl))) ⟨same_new hC1, upd_same⟩ (fun j H' _ ⟨s, _⟩ => SqL.of (s _ _ hD7)) ?_ ?_
      · rintro j y Hj hj ⟨sj, hjD⟩
        obtain ⟨t2, ht2, rfl⟩ : ∃ x, ts[j]? = some x ∧ V.ref x = y := by
          rw [List.getElem?_map] at hj
          cases e : ts[j]? with
          | none => rw [e] at hj; cases hj
          | some x => rw [e] at hj; exact ⟨x, rfl, Option.some.inj hj⟩
        obtain ⟨e, he, hte, hase⟩ := dem.get ht2
        have hj6 : j < 6 := by have := (List.getElem?_eq_some_iff.mp ht2).1; omega
        have rb : (rowB rs p ds d)[j]? = some (leadB rs p d.1 d.2 e.1 e.2) := by unfold rowB; rw [List.getElem?_map, he]; rfl
        have s0j : Same H6 Hj := s7.trans sj
        rw [take_snoc rb]
        refine ⟨rfl, _, rfl, _, rfl, _, rfl, (fun b => b = g ∨ b = l), N, t1, t2, rs, p, M, d.1, d.2, e.1, e.2, rfl, nf6.same s0j, ok, by omega, s0j _ _ ht1, s0j _ _ hte, has1, hase, fun Hk sk => ⟨_, sk _ _ hjD, by rw [List.length_map, List.length_take]; exact Nat.lt_of_lt_of_le (show min j _ < 7 by omega) (by decide), ?_, ?_⟩⟩
        · exact fun b o q => by
            rw [upd_ne (ne_of_none q hC1)]
            exact sk _ _ (sj _ _ q)
        · rw [upd_same, List.map_append]
          rfl
      rintro H_C1 ⟨s_C1, e_C1⟩
      rw [List.length_map, lt, show (rowB rs p ds d).take 6 = rowB rs p ds d from List.take_of_length_le (by rw [rl]; exact Nat.le_refl _)] at e_C1
      have hD8 := s_C1 _ _ hD7
      refine ⟨_, rfl, D, rfl, ⟨_, SqL.of hD8⟩, fun C2 hC2 => ?_⟩
      refine lc_list (K := K) (a := D) (xs := ts.map V.ref) (fun j H' => Same H_C1 H' ∧ H' C2 = some (.lst (((rowB rs p ds d).take j).map V.bl))) ⟨same_new hC2, upd_same⟩ (fun j H' _ ⟨s, _⟩ => SqL.of (s _ _ hD8)) ?_ ?_
      · rintro j y Hj hj ⟨sj, hjD⟩
        obtain ⟨t2, ht2, rfl⟩ : ∃ x, ts[j]? = some x ∧ V.ref x = y := by
          rw [List.getElem?_map] at hj
          cases e : ts[j]? with
          | none => rw [e] at hj; cases hj
          | some x => rw [e] at hj; exact ⟨x, rfl, Option.some.inj hj⟩
        obtain ⟨e, he, hte, hase⟩ := dem.get ht2
        have hj6 : j < 6 := by have := (List.getElem?_eq_some_iff.mp ht2).1; omega
        have rb : (rowB rs p ds d)[j]? = some (leadB rs p d.1 d.2 e.1 e.2) := by unfold rowB; rw [List.getElem?_map, he]; rfl
        have s0j : Same H6 Hj := (s7.trans s_C1).trans sj
        rw [take_snoc rb]
        refine ⟨rfl, _, rfl, _, rfl, _, rfl, (fun b => b = g ∨ b = l), N, t1, t2, rs, p, M, d.1, d.2, e.1, e.2, rfl, nf6.same s0j, ok, by omega, s0j _ _ ht1, s0j _ _ hte, has1, hase, fun Hk sk => ⟨_, sk _ _ hjD, by rw [List.length_map, List.length_take]; exact Nat.lt_of_lt_of_le (show min j _ < 7 by omega) (by decide), ?_, ?_⟩⟩
        · exact fun b o q => by
            rw [upd_ne (ne_of_none q hC2)]
            exact sk _ _ (sj _ _ q)
        · rw [upd_same, List.map_append]
          rfl
      rintro H_C2 ⟨s_C2, e_C2⟩
      rw [List.length_map, lt, show (rowB rs p ds d).take 6 = rowB rs p ds d from List.take_of_length_le (by rw [rl]; exact Nat.le_refl _)] at e_C2
      have hD9 := s_C2 _ _ hD8
      refine ⟨_, rfl, D, rfl, ⟨_, SqL.of hD9⟩, fun C3 hC3 => ?_⟩
      refine lc_list (K := K) (a := D) (xs := ts.map V.ref) (fun j H' => Same H_C2 H' ∧ H' C3 = some (.lst (((rowB rs p ds d).take j).map V.bl))) ⟨same_new hC3, upd_same⟩ (fun j H' _ ⟨s, _⟩ => SqL.of (s _ _ hD9)) ?_ ?_
      · rintro j y Hj hj ⟨sj, hjD⟩
        obtain ⟨t2, ht2, rfl⟩ : ∃ x, ts[j]? = some x ∧ V.ref x = y := by
          rw [List.getElem?_map] at hj
          cases e : ts[j]? with
          | none => rw [e] at hj; cases hj
          | some x => rw [e] at hj; exact ⟨x, rfl, Option.some.inj hj⟩
        obtain ⟨e, he, hte, hase⟩ := dem.get ht2
        have hj6 : j < 6 := by have := (List.getElem?_eq_some_iff.mp ht2).1; omega
        have rb : (rowB rs p ds d)[j]? = some (leadB rs p d.1 d.2 e.1 e.2) := by unfold rowB; rw [List.getElem?_map, he]; rfl
        have s0j : Same H6 Hj := ((s7.trans s_C1).trans s_C2).trans sj
        rw [take_snoc rb]
        refine ⟨rfl, _, rfl, _, rfl, _, rfl, _, rfl, L, fx, t1, t2, rs, p, M, d.1, d.2, e.1, e.2, rfl, hL6.same s0j, hp6.kt (Kt.same s0j), ok, by omega, s0j _ _ ht1, s0j _ _ hte, has1, hase, fun Hk sk => ⟨_, sk _ _ hjD, by rw [List.length_map, List.length_take]; exact Nat.lt_of_lt_of_le (show min j _ < 7 by omega) (by decide), ?_, ?_⟩⟩
        · exact fun b o q => by
            rw [upd_ne (ne_of_none q hC3)]
            exact sk _ _ (sj _ _ q)
        · rw [upd_same, List.map_append]
          rfl
      rintro H_C3 ⟨s_C3, e_C3⟩
      rw [List.length_map, lt, show (rowB rs p ds d).take 6 = rowB rs p ds d from List.take_of_length_le (by rw [rl]; exact Nat.le_refl _)] at e_C3
      have a1 := s_C3 _ _ (s_C2 _ _ e_C1)
      have a2 := s_C3 _ _ e_C2
      have same2 : ∀ X : Str, (!decide (V.str X = V.str X)) = false := fun X => by rw [decide_eq_true rfl]; rfl
      refine ⟨_, rfl, C1, _, rfl, SqL.of a1, rl, _, rfl, C3, _, rfl, SqL.of e_C3, rl, rfl, _, rfl, ?_⟩
      rw [same2]
      refine iteF ⟨_, rfl, C2, _, rfl, SqL.of a2, rl, _, rfl, C3, _, rfl, SqL.of e_C3, rl, rfl, _, rfl, ?_⟩
      rw [same2]
      refine iteF ?_
      have s10 := s_C1.trans (s_C2.trans s_C3)
      have hTL10 := s10 _ _ hTL7
      have lqs : qs.length < sizeLine := by rw [ql]; exact Nat.lt_trans hi6 (by decide)
      refine ⟨_, rfl, .inl ⟨rfl, _, SqL.of hTL10⟩, _, rfl, TL, _, _, rfl, rfl, hTL10, by rw [List.length_map]; exact lqs, ?_⟩
      refine ⟨_, _, _, _, _, _, qs ++ [C1], rfl, same_upd hTL (s7.trans s10), by rw [upd_same, List.map_append]; rfl, by rw [List.length_append, ql]; rfl, fun j q e hq he => ?_⟩
      have nTL : ∀ b xs, b ≠ TL → H_C3 b = some (.lst xs) → upd H_C3 TL (.lst (qs.map V.ref ++ [.ref C1])) b = some (.lst xs) := fun b xs n z => by rw [upd_ne n]; exact z
      by_cases hj : j < qs.length
      · rw [List.getElem?_append_left hj] at hq
        have h1 := told j q e hq he
        refine nTL _ _ (fun z => ?_) (s10 _ _ h1)
        rw [z, hTL7] at h1
        have := congrArg (fun o => match o with | some (HO.lst (V.bl _ :: _)) => true | _ => false) h1
        have le : (rowB rs p ds e).length = 6 := by unfold rowB; rw [List.length_map, ld]
        cases hqs : qs with
        | nil => rw [hqs] at hj; cases hj
        | cons q0 qt =>
          cases hr0 : rowB rs p ds e with
          | nil => rw [hr0] at le; cases le
          | cons b0 bt =>
            rw [hqs, hr0] at this
            cases this
      · have hjl : j < (qs ++ [C1]).length := (List.getElem?_eq_some_iff.mp hq).1
        rw [List.length_append] at hjl
        have ej : j = qs.length := by simp at hjl; omega
        subst ej
        rw [List.getElem?_append_right (Nat.le_refl _)] at hq
        simp at hq
        subst hq
        rw [ql, hd] at he
        cases he
        exact nTL _ _ (fun z => by rw [z, hTL7] at hC1; cases hC1) a1
    rintro σ H7 ⟨v7, v8, v9, v10, v11, v12, qs, rfl, s7, hTL7, ql, told⟩
    rw [List.length_map, lt] at ql
    have cell : ∀ i j : Nat, i < 6 → j < 6 → ∃ (q : Addr) (d e : Str × Int), (qs.map V.ref)[i]? = some (.ref q) ∧ H7 q = some (.lst ((rowB rs p ds d).map V.bl)) ∧ ds[i]? = some d ∧ ds[j]? = some e ∧ ((rowB rs p ds d).map V.bl)[j]? = some (.bl (leadB rs p d.1 d.2 e.1 e.2)) ∧ Has (rv rs) d.1 ∧ Has (rv rs) e.1 := fun i j hi hj => by
      have hqi : i < qs.length := by omega
      have hdi : i < ds.length := by omega
      have hdj : j < ds.length := by omega
      obtain ⟨d, h1, _, h3⟩ := dem.get (List.getElem?_eq_getElem (show i < ts.length by omega))
      obtain ⟨e, h4, _, h6⟩ := dem.get (List.getElem?_eq_getElem (show j < ts.length by omega))
      refine ⟨qs[i], d, e, by rw [List.getElem?_map, List.getElem?_eq_getElem hqi]; rfl, told i _ d (List.getElem?_eq_getElem hqi) h1, h1, h4, ?_, h3, h6⟩
      unfold rowB
      rw [List.getElem?_map, List.getElem?_map, h4]
      rfl
    have at0 : ∀ (xs : List V) (i : Nat) (v : V), xs[i]? = some v → atI xs (0 + (i : Int)) = some v := fun xs i v h => by
      rw [Int.zero_add]
      exact atI_nat h
    refine ⟨_, rfl, by decide, by decide, for_range (lo := 0) (n := 6) (fun i σ H' => ∃ (v7 v9 v12 : Option V), σ = [some (.ref sc), some (.ref g), some (.ref L), some (.ref fx), some (.ref N), some (.ref D), some (.ref TL), v7, v8, v9, v10, v11, v12] ∧ H' = H7)
      ⟨v7, v9, v12, rfl, rfl⟩ ?_ ?_⟩
    · rintro i σ H' hi ⟨v7, v9, v12, rfl, rfl⟩
      obtain ⟨q, d, e, c1, c2, c3, c4, c5, c6, c7⟩ := cell i i hi hi
      rw [c3] at c4
      cases c4
      rw [leadB_self hw ok] at c5
      refine ⟨_, rfl, _, rfl, _, _, _, _, rfl, rfl, SqL.of hTL7, at0 _ _ _ c1, _, rfl, _, _, _, _, rfl, rfl, SqL.of c2, at0 _ _ _ c5, _, rfl, iteF ?_⟩
      refine ⟨_, rfl, by decide, by decide, for_range (lo := 0) (n := 6) (fun j σ H'' => ∃ (v9 v12 : Option V), σ = [some (.ref sc), some (.ref g), some (.ref L), some (.ref fx), some (.ref N), some (.ref D), some (.ref TL), some (.int (0 + (i : Int))), v8, v9, v10, v11, v12] ∧ H'' = H')
        ⟨v9, v12, rfl, rfl⟩ ?_ ?_⟩
      · rintro j σ H'' hj ⟨v9, v12, rfl, rfl⟩
        refine ⟨_, rfl, by decide, by decide, for_range (lo := 0) (n := 6) (fun m σ H3 => ∃ (v12 : Option V), σ = [some (.ref sc), some (.ref g), some (.ref L), some (.ref fx), some (.ref N), some (.ref D), some (.ref TL), some (.int (0 + (i : Int))), v8, some (.int (0 + (j : Int))), v10, v11, v12] ∧ H3 = H'')
          ⟨v12, rfl, rfl⟩ ?_ ?_⟩
        · rintro m σ H3 hm ⟨v12, rfl, rfl⟩
          obtain ⟨q1, d1, e1, x1, x2, x3, x4, x5, x6, x7⟩ := cell i j hi hj
          obtain ⟨q2, d2, e2, y1, y2, y3, y4, y5, y6, y7⟩ := cell j m hj hm
          obtain ⟨q3, d3, e3, z1, z2, z3, z4, z5, z6, z7⟩ := cell i m hi hm
          rw [x4] at y3
          cases y3
          rw [x3] at z3
          cases z3
          rw [y4] at z4
          cases z4
          refine ⟨_, rfl, _, rfl, _, _, _, _, rfl, rfl, SqL.of hTL7, at0 _ _ _ x1, _, rfl, _, _, _, _, rfl, rfl, SqL.of x2, at0 _ _ _ x5, _, rfl, ?_⟩
          by_cases g1 : leadB rs p d1.1 d1.2 e1.1 e1.2 = true
          · rw [g1]
            refine iteT ⟨_, rfl, _, rfl, _, _, _, _, rfl, rfl, SqL.of hTL7, at0 _ _ _ y1, _, rfl, _, _, _, _, rfl, rfl, SqL.of y2, at0 _ _ _ y5, _, rfl, ?_⟩
            by_cases g2 : leadB rs p e1.1 e1.2 e2.1 e2.2 = true
            · have g3 := leadB_trans hw ok x6 x7 y7 g1 g2
              rw [g3] at z5
              rw [g2]
              exact iteT ⟨_, rfl, _, rfl, _, _, _, _, rfl, rfl, SqL.of hTL7, at0 _ _ _ z1, _, rfl, _, _, _, _, rfl, rfl, SqL.of z2, at0 _ _ _ z5, _, rfl, iteF ⟨_, rfl, rfl⟩⟩
            · rw [show leadB rs p e1.1 e1.2 e2.1 e2.2 = false by simpa using g2]
              exact iteF (iteF ⟨_, rfl, rfl⟩)
          · rw [show leadB rs p d1.1 d1.2 e1.1 e1.2 = false by simpa using g1]
            exact iteF (iteF ⟨_, rfl, rfl⟩)
        rintro σ H3 ⟨v12, rfl, rfl⟩
        exact ⟨_, _, rfl, rfl⟩
      rintro σ H'' ⟨v9, v12, rfl, rfl⟩
      exact ⟨_, _, _, rfl, rfl⟩
    rintro σ H' ⟨v7, v9, v12, rfl, rfl⟩
    exact k _
end k80
namespace k80
open PySem L2 LC RM
theorem all_mk {l : PySem.W.OpenLaw} {w : World} {K : PySem.W.Frag} {h : Heap} {mg : Str → Option Value} {fa : Addr} (X : K.In h) (G : h.Ns mainGlobals mg) (hfa : mg "law" = some (.ref fa))
    {fcheck_count : Addr} {odcheck_count ancheck_count : Option Addr} {slcheck_count : Array (Option Value)} {occheck_count kVcheck_count dccheck_count pmcheck_count cdcheck_count ctcheck_count : Value}
    (acheck_count : PySem.W.nsIn K mainGlobals "check_count" = some (some (.ref fcheck_count)))
    (lcheck_count : K.lookup fcheck_count = some ⟨occheck_count, odcheck_count, .func (PySem.W.fnOf "check_count" "check_count" (defArgs scheck_count) (defBody scheck_count) (defScope scheck_count) .none kVcheck_count dccheck_count pmcheck_count ancheck_count cdcheck_count ctcheck_count), slcheck_count⟩)
    (ccheck_count : PySem.W.codeIn K cdcheck_count "check_count" = true)
    (kcheck_count : PySem.W.keepIn K (.ref fcheck_count) = true)
    {fis_whole : Addr} {odis_whole anis_whole : Option Addr} {slis_whole : Array (Option Value)} {ocis_whole kVis_whole dcis_whole pmis_whole cdis_whole ctis_whole : Value}
    (ais_whole : PySem.W.nsIn K mainGlobals "is_whole" = some (some (.ref fis_whole)))
    (lis_whole : K.lookup fis_whole = some ⟨ocis_whole, odis_whole, .func (PySem.W.fnOf "is_whole" "is_whole" (defArgs sis_whole) (defBody sis_whole) (defScope sis_whole) .none kVis_whole dcis_whole pmis_whole anis_whole cdis_whole ctis_whole), slis_whole⟩)
    (cis_whole : PySem.W.codeIn K cdis_whole "is_whole" = true)
    (kis_whole : PySem.W.keepIn K (.ref fis_whole) = true)
    {fis_number : Addr} {odis_number anis_number : Option Addr} {slis_number : Array (Option Value)} {ocis_number kVis_number dcis_number pmis_number cdis_number ctis_number : Value}
    (ais_number : PySem.W.nsIn K mainGlobals "is_number" = some (some (.ref fis_number)))
    (lis_number : K.lookup fis_number = some ⟨ocis_number, odis_number, .func (PySem.W.fnOf "is_number" "is_number" (defArgs sis_number) (defBody sis_number) (defScope sis_number) .none kVis_number dcis_number pmis_number anis_number cdis_number ctis_number), slis_number⟩)
    (cis_number : PySem.W.codeIn K cdis_number "is_number" = true)
    (kis_number : PySem.W.keepIn K (.ref fis_number) = true)
    {fcheck_borders : Addr} {odcheck_borders ancheck_borders : Option Addr} {slcheck_borders : Array (Option Value)} {occheck_borders kVcheck_borders dccheck_borders pmcheck_borders cdcheck_borders ctcheck_borders : Value}
    (acheck_borders : PySem.W.nsIn K mainGlobals "check_borders" = some (some (.ref fcheck_borders)))
    (lcheck_borders : K.lookup fcheck_borders = some ⟨occheck_borders, odcheck_borders, .func (PySem.W.fnOf "check_borders" "check_borders" (defArgs scheck_borders) (defBody scheck_borders) (defScope scheck_borders) .none kVcheck_borders dccheck_borders pmcheck_borders ancheck_borders cdcheck_borders ctcheck_borders), slcheck_borders⟩)
    (ccheck_borders : PySem.W.codeIn K cdcheck_borders "check_borders" = true)
    (kcheck_borders : PySem.W.keepIn K (.ref fcheck_borders) = true)
    {fcommon_period : Addr} {odcommon_period ancommon_period : Option Addr} {slcommon_period : Array (Option Value)} {occommon_period kVcommon_period dccommon_period pmcommon_period cdcommon_period ctcommon_period : Value}
    (acommon_period : PySem.W.nsIn K mainGlobals "common_period" = some (some (.ref fcommon_period)))
    (lcommon_period : K.lookup fcommon_period = some ⟨occommon_period, odcommon_period, .func (PySem.W.fnOf "common_period" "common_period" (defArgs scommon_period) (defBody scommon_period) (defScope scommon_period) .none kVcommon_period dccommon_period pmcommon_period ancommon_period cdcommon_period ctcommon_period), slcommon_period⟩)
    (ccommon_period : PySem.W.codeIn K cdcommon_period "common_period" = true)
    (kcommon_period : PySem.W.keepIn K (.ref fcommon_period) = true)
    {fpair_facts : Addr} {odpair_facts anpair_facts : Option Addr} {slpair_facts : Array (Option Value)} {ocpair_facts kVpair_facts dcpair_facts pmpair_facts cdpair_facts ctpair_facts : Value}
    (apair_facts : PySem.W.nsIn K mainGlobals "pair_facts" = some (some (.ref fpair_facts)))
    (lpair_facts : K.lookup fpair_facts = some ⟨ocpair_facts, odpair_facts, .func (PySem.W.fnOf "pair_facts" "pair_facts" (defArgs spair_facts) (defBody spair_facts) (defScope spair_facts) .none kVpair_facts dcpair_facts pmpair_facts anpair_facts cdpair_facts ctpair_facts), slpair_facts⟩)
    (cpair_facts : PySem.W.codeIn K cdpair_facts "pair_facts" = true)
    (kpair_facts : PySem.W.keepIn K (.ref fpair_facts) = true)
    {fis_name : Addr} {odis_name anis_name : Option Addr} {slis_name : Array (Option Value)} {ocis_name kVis_name dcis_name pmis_name cdis_name ctis_name : Value}
    (ais_name : PySem.W.nsIn K mainGlobals "is_name" = some (some (.ref fis_name)))
    (lis_name : K.lookup fis_name = some ⟨ocis_name, odis_name, .func (PySem.W.fnOf "is_name" "is_name" (defArgs sis_name) (defBody sis_name) (defScope sis_name) .none kVis_name dcis_name pmis_name anis_name cdis_name ctis_name), slis_name⟩)
    (cis_name : PySem.W.codeIn K cdis_name "is_name" = true)
    (kis_name : PySem.W.keepIn K (.ref fis_name) = true)
    {fhas_name : Addr} {odhas_name anhas_name : Option Addr} {slhas_name : Array (Option Value)} {ochas_name kVhas_name dchas_name pmhas_name cdhas_name cthas_name : Value}
    (ahas_name : PySem.W.nsIn K mainGlobals "has_name" = some (some (.ref fhas_name)))
    (lhas_name : K.lookup fhas_name = some ⟨ochas_name, odhas_name, .func (PySem.W.fnOf "has_name" "has_name" (defArgs shas_name) (defBody shas_name) (defScope shas_name) .none kVhas_name dchas_name pmhas_name anhas_name cdhas_name cthas_name), slhas_name⟩)
    (chas_name : PySem.W.codeIn K cdhas_name "has_name" = true)
    (khas_name : PySem.W.keepIn K (.ref fhas_name) = true)
    {flook_up : Addr} {odlook_up anlook_up : Option Addr} {sllook_up : Array (Option Value)} {oclook_up kVlook_up dclook_up pmlook_up cdlook_up ctlook_up : Value}
    (alook_up : PySem.W.nsIn K mainGlobals "look_up" = some (some (.ref flook_up)))
    (llook_up : K.lookup flook_up = some ⟨oclook_up, odlook_up, .func (PySem.W.fnOf "look_up" "look_up" (defArgs slook_up) (defBody slook_up) (defScope slook_up) .none kVlook_up dclook_up pmlook_up anlook_up cdlook_up ctlook_up), sllook_up⟩)
    (clook_up : PySem.W.codeIn K cdlook_up "look_up" = true)
    (klook_up : PySem.W.keepIn K (.ref flook_up) = true)
    {fis_row : Addr} {odis_row anis_row : Option Addr} {slis_row : Array (Option Value)} {ocis_row kVis_row dcis_row pmis_row cdis_row ctis_row : Value}
    (ais_row : PySem.W.nsIn K mainGlobals "is_row" = some (some (.ref fis_row)))
    (lis_row : K.lookup fis_row = some ⟨ocis_row, odis_row, .func (PySem.W.fnOf "is_row" "is_row" (defArgs sis_row) (defBody sis_row) (defScope sis_row) .none kVis_row dcis_row pmis_row anis_row cdis_row ctis_row), slis_row⟩)
    (cis_row : PySem.W.codeIn K cdis_row "is_row" = true)
    (kis_row : PySem.W.keepIn K (.ref fis_row) = true)
    {frows_by_name : Addr} {odrows_by_name anrows_by_name : Option Addr} {slrows_by_name : Array (Option Value)} {ocrows_by_name kVrows_by_name dcrows_by_name pmrows_by_name cdrows_by_name ctrows_by_name : Value}
    (arows_by_name : PySem.W.nsIn K mainGlobals "rows_by_name" = some (some (.ref frows_by_name)))
    (lrows_by_name : K.lookup frows_by_name = some ⟨ocrows_by_name, odrows_by_name, .func (PySem.W.fnOf "rows_by_name" "rows_by_name" (defArgs srows_by_name) (defBody srows_by_name) (defScope srows_by_name) .none kVrows_by_name dcrows_by_name pmrows_by_name anrows_by_name cdrows_by_name ctrows_by_name), slrows_by_name⟩)
    (crows_by_name : PySem.W.codeIn K cdrows_by_name "rows_by_name" = true)
    (krows_by_name : PySem.W.keepIn K (.ref frows_by_name) = true)
    {fleads : Addr} {odleads anleads : Option Addr} {slleads : Array (Option Value)} {ocleads kVleads dcleads pmleads cdleads ctleads : Value}
    (aleads : PySem.W.nsIn K mainGlobals "leads" = some (some (.ref fleads)))
    (lleads : K.lookup fleads = some ⟨ocleads, odleads, .func (PySem.W.fnOf "leads" "leads" (defArgs sleads) (defBody sleads) (defScope sleads) .none kVleads dcleads pmleads anleads cdleads ctleads), slleads⟩)
    (cleads : PySem.W.codeIn K cdleads "leads" = true)
    (kleads : PySem.W.keepIn K (.ref fleads) = true)
    {fbox : Addr} {odbox anbox : Option Addr} {slbox : Array (Option Value)} {ocbox kVbox dcbox pmbox cdbox ctbox : Value}
    (abox : PySem.W.nsIn K mainGlobals "_law_box" = some (some (.ref fbox)))
    (lbox : K.lookup fbox = some ⟨ocbox, odbox, .func (PySem.W.fnOf "_law_box" "_law_box" (defArgs sbox) (defBody sbox) (defScope sbox) .none kVbox dcbox pmbox anbox cdbox ctbox), slbox⟩)
    (cbox : PySem.W.codeIn K cdbox "_law_box" = true)
    (kbox : PySem.W.keepIn K (.ref fbox) = true)
    {ftake : Addr} {odtake antake : Option Addr} {sltake : Array (Option Value)} {octake kVtake dctake pmtake cdtake cttake : Value}
    (atake : PySem.W.nsIn K mainGlobals "_law_take" = some (some (.ref ftake)))
    (ltake : K.lookup ftake = some ⟨octake, odtake, .func (PySem.W.fnOf "_law_take" "_law_take" (defArgs stake) (defBody stake) (defScope stake) .none kVtake dctake pmtake antake cdtake cttake), sltake⟩)
    (ctake : PySem.W.codeIn K cdtake "_law_take" = true)
    (ktake : PySem.W.keepIn K (.ref ftake) = true)
    {fplain_form : Addr} {odplain_form anplain_form : Option Addr} {slplain_form : Array (Option Value)} {ocplain_form kVplain_form dcplain_form pmplain_form cdplain_form ctplain_form : Value}
    (aplain_form : PySem.W.nsIn K mainGlobals "_law_plain_form" = some (some (.ref fplain_form)))
    (lplain_form : K.lookup fplain_form = some ⟨ocplain_form, odplain_form, .func (PySem.W.fnOf "_law_plain_form" "_law_plain_form" (defArgs splain_form) (defBody splain_form) (defScope splain_form) .none kVplain_form dcplain_form pmplain_form anplain_form cdplain_form ctplain_form), slplain_form⟩)
    (cplain_form : PySem.W.codeIn K cdplain_form "_law_plain_form" = true)
    (kplain_form : PySem.W.keepIn K (.ref fplain_form) = true)
    {fform : Addr} {odform anform : Option Addr} {slform : Array (Option Value)} {ocform kVform dcform pmform cdform ctform : Value}
    (aform : PySem.W.nsIn K mainGlobals "_law_form" = some (some (.ref fform)))
    (lform : K.lookup fform = some ⟨ocform, odform, .func (PySem.W.fnOf "_law_form" "_law_form" (defArgs sform) (defBody sform) (defScope sform) .none kVform dcform pmform anform cdform ctform), slform⟩)
    (cform : PySem.W.codeIn K cdform "_law_form" = true)
    (kform : PySem.W.keepIn K (.ref fform) = true)
    {fafter : Addr} {odafter anafter : Option Addr} {slafter : Array (Option Value)} {ocafter kVafter dcafter pmafter cdafter ctafter : Value}
    (aafter : PySem.W.nsIn K mainGlobals "_law_after" = some (some (.ref fafter)))
    (lafter : K.lookup fafter = some ⟨ocafter, odafter, .func (PySem.W.fnOf "_law_after" "_law_after" (defArgs safter) (defBody safter) (defScope safter) .none kVafter dcafter pmafter anafter cdafter ctafter), slafter⟩)
    (cafter : PySem.W.codeIn K cdafter "_law_after" = true)
    (kafter : PySem.W.keepIn K (.ref fafter) = true)
    {fmade : Addr} {odmade anmade : Option Addr} {slmade : Array (Option Value)} {ocmade kVmade dcmade pmmade cdmade ctmade : Value}
    (amade : PySem.W.nsIn K mainGlobals "_law_made" = some (some (.ref fmade)))
    (lmade : K.lookup fmade = some ⟨ocmade, odmade, .func (PySem.W.fnOf "_law_made" "_law_made" (defArgs smade) (defBody smade) (defScope smade) .none kVmade dcmade pmmade anmade cdmade ctmade), slmade⟩)
    (cmade : PySem.W.codeIn K cdmade "_law_made" = true)
    (kmade : PySem.W.keepIn K (.ref fmade) = true)
    {frows : Addr} {odrows anrows : Option Addr} {slrows : Array (Option Value)} {ocrows kVrows dcrows pmrows cdrows ctrows : Value}
    (arows : PySem.W.nsIn K mainGlobals "_law_rows" = some (some (.ref frows)))
    (lrows : K.lookup frows = some ⟨ocrows, odrows, .func (PySem.W.fnOf "_law_rows" "_law_rows" (defArgs srows) (defBody srows) (defScope srows) .none kVrows dcrows pmrows anrows cdrows ctrows), slrows⟩)
    (crows : PySem.W.codeIn K cdrows "_law_rows" = true)
    (krows : PySem.W.keepIn K (.ref frows) = true)
    {fnet : Addr} {odnet annet : Option Addr} {slnet : Array (Option Value)} {ocnet kVnet dcnet pmnet cdnet ctnet : Value}
    (anet : PySem.W.nsIn K mainGlobals "_law_net" = some (some (.ref fnet)))
    (lnet : K.lookup fnet = some ⟨ocnet, odnet, .func (PySem.W.fnOf "_law_net" "_law_net" (defArgs snet) (defBody snet) (defScope snet) .none kVnet dcnet pmnet annet cdnet ctnet), slnet⟩)
    (cnet : PySem.W.codeIn K cdnet "_law_net" = true)
    (knet : PySem.W.keepIn K (.ref fnet) = true)
    {frow : Addr} {odrow anrow : Option Addr} {slrow : Array (Option Value)} {ocrow kVrow dcrow pmrow cdrow ctrow : Value}
    (arow : PySem.W.nsIn K mainGlobals "_law_row" = some (some (.ref frow)))
    (lrow : K.lookup frow = some ⟨ocrow, odrow, .func (PySem.W.fnOf "_law_row" "_law_row" (defArgs srow) (defBody srow) (defScope srow) .none kVrow dcrow pmrow anrow cdrow ctrow), slrow⟩)
    (crow : PySem.W.codeIn K cdrow "_law_row" = true)
    (krow : PySem.W.keepIn K (.ref frow) = true)
    {fline : Addr} {odline anline : Option Addr} {slline : Array (Option Value)} {ocline kVline dcline pmline cdline ctline : Value}
    (aline : PySem.W.nsIn K mainGlobals "_law_line" = some (some (.ref fline)))
    (lline : K.lookup fline = some ⟨ocline, odline, .func (PySem.W.fnOf "_law_line" "_law_line" (defArgs sline) (defBody sline) (defScope sline) .none kVline dcline pmline anline cdline ctline), slline⟩)
    (cline : PySem.W.codeIn K cdline "_law_line" = true)
    (kline : PySem.W.keepIn K (.ref fline) = true)
    {ffar : Addr} {odfar anfar : Option Addr} {slfar : Array (Option Value)} {ocfar kVfar dcfar pmfar cdfar ctfar : Value}
    (afar : PySem.W.nsIn K mainGlobals "_law_far" = some (some (.ref ffar)))
    (lfar : K.lookup ffar = some ⟨ocfar, odfar, .func (PySem.W.fnOf "_law_far" "_law_far" (defArgs sfar) (defBody sfar) (defScope sfar) .none kVfar dcfar pmfar anfar cdfar ctfar), slfar⟩)
    (cfar : PySem.W.codeIn K cdfar "_law_far" = true)
    (kfar : PySem.W.keepIn K (.ref ffar) = true)
    {fgap : Addr} {odgap angap : Option Addr} {slgap : Array (Option Value)} {ocgap kVgap dcgap pmgap cdgap ctgap : Value}
    (agap : PySem.W.nsIn K mainGlobals "_law_gap" = some (some (.ref fgap)))
    (lgap : K.lookup fgap = some ⟨ocgap, odgap, .func (PySem.W.fnOf "_law_gap" "_law_gap" (defArgs sgap) (defBody sgap) (defScope sgap) .none kVgap dcgap pmgap angap cdgap ctgap), slgap⟩)
    (cgap : PySem.W.codeIn K cdgap "_law_gap" = true)
    (kgap : PySem.W.keepIn K (.ref fgap) = true)
    {fneed : Addr} {odneed anneed : Option Addr} {slneed : Array (Option Value)} {ocneed kVneed dcneed pmneed cdneed ctneed : Value}
    (aneed : PySem.W.nsIn K mainGlobals "_law_need" = some (some (.ref fneed)))
    (lneed : K.lookup fneed = some ⟨ocneed, odneed, .func (PySem.W.fnOf "_law_need" "_law_need" (defArgs sneed) (defBody sneed) (defScope sneed) .none kVneed dcneed pmneed anneed cdneed ctneed), slneed⟩)
    (cneed : PySem.W.codeIn K cdneed "_law_need" = true)
    (kneed : PySem.W.keepIn K (.ref fneed) = true)
    {fxleads : Addr} {odxleads anxleads : Option Addr} {slxleads : Array (Option Value)} {ocxleads kVxleads dcxleads pmxleads cdxleads ctxleads : Value}
    (axleads : PySem.W.nsIn K mainGlobals "_law_leads" = some (some (.ref fxleads)))
    (lxleads : K.lookup fxleads = some ⟨ocxleads, odxleads, .func (PySem.W.fnOf "_law_leads" "_law_leads" (defArgs sxleads) (defBody sxleads) (defScope sxleads) .none kVxleads dcxleads pmxleads anxleads cdxleads ctxleads), slxleads⟩)
    (cxleads : PySem.W.codeIn K cdxleads "_law_leads" = true)
    (kxleads : PySem.W.keepIn K (.ref fxleads) = true)
    {fchain : Addr} {odchain anchain : Option Addr} {slchain : Array (Option Value)} {occhain kVchain dcchain pmchain cdchain ctchain : Value}
    (achain : PySem.W.nsIn K mainGlobals "_law_chain" = some (some (.ref fchain)))
    (lchain : K.lookup fchain = some ⟨occhain, odchain, .func (PySem.W.fnOf "_law_chain" "_law_chain" (defArgs schain) (defBody schain) (defScope schain) .none kVchain dcchain pmchain anchain cdchain ctchain), slchain⟩)
    (cchain : PySem.W.codeIn K cdchain "_law_chain" = true)
    (kchain : PySem.W.keepIn K (.ref fchain) = true)
    {flaw : Addr} {odlaw anlaw : Option Addr} {sllaw : Array (Option Value)} {oclaw kVlaw dclaw pmlaw cdlaw ctlaw : Value}
    (alaw : PySem.W.nsIn K mainGlobals "law" = some (some (.ref flaw)))
    (llaw : K.lookup flaw = some ⟨oclaw, odlaw, .func (PySem.W.fnOf "law" "law" (defArgs slaw) (defBody slaw) (defScope slaw) .none kVlaw dclaw pmlaw anlaw cdlaw ctlaw), sllaw⟩)
    (claw : PySem.W.codeIn K cdlaw "law" = true)
    (klaw : PySem.W.keepIn K (.ref flaw) = true)
    (zall : PySem.W.nsIn K mainGlobals "all" = some none)
    (zbool : PySem.W.nsIn K mainGlobals "bool" = some none)
    (zdict : PySem.W.nsIn K mainGlobals "dict" = some none)
    (zenumerate : PySem.W.nsIn K mainGlobals "enumerate" = some none)
    (zint : PySem.W.nsIn K mainGlobals "int" = some none)
    (zisinstance : PySem.W.nsIn K mainGlobals "isinstance" = some none)
    (zlen : PySem.W.nsIn K mainGlobals "len" = some none)
    (zlist : PySem.W.nsIn K mainGlobals "list" = some none)
    (zmax : PySem.W.nsIn K mainGlobals "max" = some none)
    (zmin : PySem.W.nsIn K mainGlobals "min" = some none)
    (zrange : PySem.W.nsIn K mainGlobals "range" = some none)
    (zrepr : PySem.W.nsIn K mainGlobals "repr" = some none)
    (zreversed : PySem.W.nsIn K mainGlobals "reversed" = some none)
    (zstr : PySem.W.nsIn K mainGlobals "str" = some none)
    (zsum : PySem.W.nsIn K mainGlobals "sum" = some none)
    (zsuper : PySem.W.nsIn K mainGlobals "super" = some none)
    (ztuple : PySem.W.nsIn K mainGlobals "tuple" = some none)
    {tkDIGITS : Tok} (yDIGITS : PySem.W.nsIn K mainGlobals "DIGITS" = some (some (.str "0123456789" tkDIGITS)))
    {tkLETTERS : Tok} (yLETTERS : PySem.W.nsIn K mainGlobals "LETTERS" = some (some (.str "abcdefghijklmnopqrstuvwxyz" tkLETTERS)))
    {tkMOST_BORDERS : Tok} (yMOST_BORDERS : PySem.W.nsIn K mainGlobals "MOST_BORDERS" = some (some (.int 12 tkMOST_BORDERS)))
    {tkMOST_ERROR : Tok} (yMOST_ERROR : PySem.W.nsIn K mainGlobals "MOST_ERROR" = some (some (.int 100 tkMOST_ERROR)))
    {tkMOST_FORMS : Tok} (yMOST_FORMS : PySem.W.nsIn K mainGlobals "MOST_FORMS" = some (some (.int 6 tkMOST_FORMS)))
    {tkMOST_NET_PLACES : Tok} (yMOST_NET_PLACES : PySem.W.nsIn K mainGlobals "MOST_NET_PLACES" = some (some (.int 12 tkMOST_NET_PLACES)))
    {tkMOST_PERIOD : Tok} (yMOST_PERIOD : PySem.W.nsIn K mainGlobals "MOST_PERIOD" = some (some (.int 2000 tkMOST_PERIOD)))
    {tkMOST_SIZE : Tok} (yMOST_SIZE : PySem.W.nsIn K mainGlobals "MOST_SIZE" = some (some (.int 1000 tkMOST_SIZE)))
        {aR fRi fF fP fB fW : Addr}
    (aRest : PySem.W.nsIn K mainGlobals "Rest" = some (some (.ref aR)))
    {ocxR : Value} {odxR : Option Addr} {cdxR : ClassData} {slxR : Array (Option Value)}
    (xRest : K.lookup aR = some ⟨ocxR, odxR, .cls cdxR, slxR⟩)
    (tyCR : PySem.W.typeIn K (.ref aR) = some (.type "type"))
    (ffRi : PySem.W.findIn K (.ref aR) "__init__" = some (some (.ref fRi)))
    {odRest_init anRest_init : Option Addr} {slRest_init : Array (Option Value)} {ocRest_init kVRest_init dcRest_init pmRest_init cdRest_init ctRest_init : Value}
    (lRest_init : K.lookup fRi = some ⟨ocRest_init, odRest_init, .func (PySem.W.fnOf "__init__" "Rest.__init__" (defArgs sRest_init) (defBody sRest_init) (defScope sRest_init) .none kVRest_init dcRest_init pmRest_init anRest_init cdRest_init ctRest_init), slRest_init⟩)
    (cRest_init : PySem.W.codeIn K cdRest_init "Rest.__init__" = true)
    (kRest_init : PySem.W.keepIn K (.ref fRi) = true)
    (iRest_init : PySem.W.isFn K (.ref fRi) = true)
    (ffF : PySem.W.findIn K (.ref aR) "forms" = some (some (.ref fF)))
    {odRest_forms anRest_forms : Option Addr} {slRest_forms : Array (Option Value)} {ocRest_forms kVRest_forms dcRest_forms pmRest_forms cdRest_forms ctRest_forms : Value}
    (lRest_forms : K.lookup fF = some ⟨ocRest_forms, odRest_forms, .func (PySem.W.fnOf "forms" "Rest.forms" (defArgs sRest_forms) (defBody sRest_forms) (defScope sRest_forms) .none kVRest_forms dcRest_forms pmRest_forms anRest_forms cdRest_forms ctRest_forms), slRest_forms⟩)
    (cRest_forms : PySem.W.codeIn K cdRest_forms "Rest.forms" = true)
    (kRest_forms : PySem.W.keepIn K (.ref fF) = true)
    (iRest_forms : PySem.W.isFn K (.ref fF) = true)
    (ffP : PySem.W.findIn K (.ref aR) "period" = some (some (.ref fP)))
    {odRest_period anRest_period : Option Addr} {slRest_period : Array (Option Value)} {ocRest_period kVRest_period dcRest_period pmRest_period cdRest_period ctRest_period : Value}
    (lRest_period : K.lookup fP = some ⟨ocRest_period, odRest_period, .func (PySem.W.fnOf "period" "Rest.period" (defArgs sRest_period) (defBody sRest_period) (defScope sRest_period) .none kVRest_period dcRest_period pmRest_period anRest_period cdRest_period ctRest_period), slRest_period⟩)
    (cRest_period : PySem.W.codeIn K cdRest_period "Rest.period" = true)
    (kRest_period : PySem.W.keepIn K (.ref fP) = true)
    (iRest_period : PySem.W.isFn K (.ref fP) = true)
    (ffB : PySem.W.findIn K (.ref aR) "bend" = some (some (.ref fB)))
    {odRest_bend anRest_bend : Option Addr} {slRest_bend : Array (Option Value)} {ocRest_bend kVRest_bend dcRest_bend pmRest_bend cdRest_bend ctRest_bend : Value}
    (lRest_bend : K.lookup fB = some ⟨ocRest_bend, odRest_bend, .func (PySem.W.fnOf "bend" "Rest.bend" (defArgs sRest_bend) (defBody sRest_bend) (defScope sRest_bend) .none kVRest_bend dcRest_bend pmRest_bend anRest_bend cdRest_bend ctRest_bend), slRest_bend⟩)
    (cRest_bend : PySem.W.codeIn K cdRest_bend "Rest.bend" = true)
    (kRest_bend : PySem.W.keepIn K (.ref fB) = true)
    (iRest_bend : PySem.W.isFn K (.ref fB) = true)
    (ffW : PySem.W.findIn K (.ref aR) "written" = some (some (.ref fW)))
    {odRest_written anRest_written : Option Addr} {slRest_written : Array (Option Value)} {ocRest_written kVRest_written dcRest_written pmRest_written cdRest_written ctRest_written : Value}
    (lRest_written : K.lookup fW = some ⟨ocRest_written, odRest_written, .func (PySem.W.fnOf "written" "Rest.written" (defArgs sRest_written) (defBody sRest_written) (defScope sRest_written) .none kVRest_written dcRest_written pmRest_written anRest_written cdRest_written ctRest_written), slRest_written⟩)
    (cRest_written : PySem.W.codeIn K cdRest_written "Rest.written" = true)
    (kRest_written : PySem.W.keepIn K (.ref fW) = true)
    (iRest_written : PySem.W.isFn K (.ref fW) = true)
    (tyR : PySem.W.typeIn K (.ref fRi) = some (.type "function"))
    (fiR : PySem.W.fnIn K fRi = true)
    (opq : PySem.W.nsIn K cStatics "thirdparty.any" = some none)
    (tp : (l.prog.main.scope.names.lookup ("super" : Str)).isSome = false)
    {aWindow fWindow_init fWindow_call : Addr}
    (a_Window : PySem.W.nsIn K mainGlobals "Window" = some (some (.ref aWindow)))
    (pgWindow : PySem.W.plainGet K aWindow Str.empty = true)
    (hdWindow : PySem.W.hasDictIn K aWindow = true)
    (poWindow : PySem.W.plainOver K aWindow = true)
    (saWindow : PySem.W.findIn K (.ref aWindow) "__setattr__" = some (some (.builtin "object.__setattr__")))
    (mkWindow : PySem.W.makesIn K aWindow = true)
    (kpWindow : PySem.W.keepIn K (.ref aWindow) = true)
    (fiWindow : PySem.W.findIn K (.ref aWindow) "__init__" = some (some (.ref fWindow_init)))
    {cWindow_init ccWindow_init : Addr} {odfWindow_init odcWindow_init odlWindow_init : Option Addr} {slfWindow_init slcWindow_init sllWindow_init : Array (Option Value)} {ocfWindow_init occWindow_init oclWindow_init dcWindow_init pmWindow_init ctWindow_init : Value} {vsWindow_init : Array Value} {flWindow_init : Str} {tkWindow_init : Tok}
    (lWindow_init : K.lookup fWindow_init = some ⟨ocfWindow_init, odfWindow_init, .func ((FWindow_init ccWindow_init cWindow_init).fd dcWindow_init pmWindow_init ctWindow_init), slfWindow_init⟩)
    (lcWindow_init : K.lookup cWindow_init = some ⟨occWindow_init, odcWindow_init, .fields vsWindow_init, slcWindow_init⟩)
    (vfWindow_init : vsWindow_init[2]? = some (.str flWindow_init tkWindow_init))
    (ffWindow_init : ((l.prog.main.file : Str) == flWindow_init) = true)
    (llWindow_init : K.lookup ccWindow_init = some ⟨oclWindow_init, odlWindow_init, .cell (some (.ref aWindow)), sllWindow_init⟩)
    (cdWindow_init : PySem.W.codeIn K (.ref cWindow_init) "Window.__init__" = true)
    (isfWindow_init : PySem.W.isFn K (.ref fWindow_init) = true)
    {ocxWindow : Value} {odxWindow : Option Addr} {cdxWindow : ClassData} {slxWindow : Array (Option Value)}
    (xWindow : K.lookup aWindow = some ⟨ocxWindow, odxWindow, .cls cdxWindow, slxWindow⟩)
    (mrWindow : PySem.W.mroIn K aWindow (.ref aWindow) = some true)
    (moWindow : (cdxWindow.mro.dropWhile (· != .ref aWindow)).drop 1 = cdxR.mro)
    (nWindow_text : PySem.W.findIn K (.ref aWindow) "_text" = some none)
    (nWindow_forms : PySem.W.findIn K (.ref aWindow) "_forms" = some none)
    (nWindow_period : PySem.W.findIn K (.ref aWindow) "_period" = some none)
    (nWindow_bend : PySem.W.findIn K (.ref aWindow) "_bend" = some none)
    (nWindowwidth : PySem.W.findIn K (.ref aWindow) "width" = some none)
    (mWindowforms : PySem.W.findIn K (.ref aWindow) "forms" = some (some (.ref fF)))
    (mWindowperiod : PySem.W.findIn K (.ref aWindow) "period" = some (some (.ref fP)))
    (mWindowbend : PySem.W.findIn K (.ref aWindow) "bend" = some (some (.ref fB)))
    (mWindowwritten : PySem.W.findIn K (.ref aWindow) "written" = some (some (.ref fW)))
    (fcWindow : PySem.W.findIn K (.ref aWindow) "__call__" = some (some (.ref fWindow_call)))
    {odWindow_call anWindow_call : Option Addr} {slWindow_call : Array (Option Value)} {ocWindow_call kVWindow_call dcWindow_call pmWindow_call cdWindow_call ctWindow_call : Value}
    (lWindow_call : K.lookup fWindow_call = some ⟨ocWindow_call, odWindow_call, .func (PySem.W.fnOf "__call__" "Window.__call__" (defArgs sWindow_call) (defBody sWindow_call) (defScope sWindow_call) .none kVWindow_call dcWindow_call pmWindow_call anWindow_call cdWindow_call ctWindow_call), slWindow_call⟩)
    (cWindow_call : PySem.W.codeIn K cdWindow_call "Window.__call__" = true)
    (kWindow_call : PySem.W.keepIn K (.ref fWindow_call) = true)
    (iWindow_call : PySem.W.isFn K (.ref fWindow_call) = true)
    (fnWindow : PySem.W.fnIn K fWindow_call = true)
    (isWindow : PySem.W.subIn K (.ref aWindow) (.ref aR) = some true)
    (haWindow : PySem.W.findIn K (.ref aWindow) "__class__" = some (some (.builtin "object.__class__")))
    (hmWindow : PySem.W.mroIn K aWindow (.type "object") = some true)
    {aDays fDays_init fDays_call : Addr}
    (a_Days : PySem.W.nsIn K mainGlobals "Days" = some (some (.ref aDays)))
    (pgDays : PySem.W.plainGet K aDays Str.empty = true)
    (hdDays : PySem.W.hasDictIn K aDays = true)
    (poDays : PySem.W.plainOver K aDays = true)
    (saDays : PySem.W.findIn K (.ref aDays) "__setattr__" = some (some (.builtin "object.__setattr__")))
    (mkDays : PySem.W.makesIn K aDays = true)
    (kpDays : PySem.W.keepIn K (.ref aDays) = true)
    (fiDays : PySem.W.findIn K (.ref aDays) "__init__" = some (some (.ref fDays_init)))
    {cDays_init ccDays_init : Addr} {odfDays_init odcDays_init odlDays_init : Option Addr} {slfDays_init slcDays_init sllDays_init : Array (Option Value)} {ocfDays_init occDays_init oclDays_init dcDays_init pmDays_init ctDays_init : Value} {vsDays_init : Array Value} {flDays_init : Str} {tkDays_init : Tok}
    (lDays_init : K.lookup fDays_init = some ⟨ocfDays_init, odfDays_init, .func ((FDays_init ccDays_init cDays_init).fd dcDays_init pmDays_init ctDays_init), slfDays_init⟩)
    (lcDays_init : K.lookup cDays_init = some ⟨occDays_init, odcDays_init, .fields vsDays_init, slcDays_init⟩)
    (vfDays_init : vsDays_init[2]? = some (.str flDays_init tkDays_init))
    (ffDays_init : ((l.prog.main.file : Str) == flDays_init) = true)
    (llDays_init : K.lookup ccDays_init = some ⟨oclDays_init, odlDays_init, .cell (some (.ref aDays)), sllDays_init⟩)
    (cdDays_init : PySem.W.codeIn K (.ref cDays_init) "Days.__init__" = true)
    (isfDays_init : PySem.W.isFn K (.ref fDays_init) = true)
    {ocxDays : Value} {odxDays : Option Addr} {cdxDays : ClassData} {slxDays : Array (Option Value)}
    (xDays : K.lookup aDays = some ⟨ocxDays, odxDays, .cls cdxDays, slxDays⟩)
    (mrDays : PySem.W.mroIn K aDays (.ref aDays) = some true)
    (moDays : (cdxDays.mro.dropWhile (· != .ref aDays)).drop 1 = cdxR.mro)
    (nDays_text : PySem.W.findIn K (.ref aDays) "_text" = some none)
    (nDays_forms : PySem.W.findIn K (.ref aDays) "_forms" = some none)
    (nDays_period : PySem.W.findIn K (.ref aDays) "_period" = some none)
    (nDays_bend : PySem.W.findIn K (.ref aDays) "_bend" = some none)
    (nDays_borders : PySem.W.findIn K (.ref aDays) "_borders" = some none)
    (nDaysevery : PySem.W.findIn K (.ref aDays) "every" = some none)
    (mDaysforms : PySem.W.findIn K (.ref aDays) "forms" = some (some (.ref fF)))
    (mDaysperiod : PySem.W.findIn K (.ref aDays) "period" = some (some (.ref fP)))
    (mDaysbend : PySem.W.findIn K (.ref aDays) "bend" = some (some (.ref fB)))
    (mDayswritten : PySem.W.findIn K (.ref aDays) "written" = some (some (.ref fW)))
    (fcDays : PySem.W.findIn K (.ref aDays) "__call__" = some (some (.ref fDays_call)))
    {odDays_call anDays_call : Option Addr} {slDays_call : Array (Option Value)} {ocDays_call kVDays_call dcDays_call pmDays_call cdDays_call ctDays_call : Value}
    (lDays_call : K.lookup fDays_call = some ⟨ocDays_call, odDays_call, .func (PySem.W.fnOf "__call__" "Days.__call__" (defArgs sDays_call) (defBody sDays_call) (defScope sDays_call) .none kVDays_call dcDays_call pmDays_call anDays_call cdDays_call ctDays_call), slDays_call⟩)
    (cDays_call : PySem.W.codeIn K cdDays_call "Days.__call__" = true)
    (kDays_call : PySem.W.keepIn K (.ref fDays_call) = true)
    (iDays_call : PySem.W.isFn K (.ref fDays_call) = true)
    (fnDays : PySem.W.fnIn K fDays_call = true)
    (isDays : PySem.W.subIn K (.ref aDays) (.ref aR) = some true)
    (haDays : PySem.W.findIn K (.ref aDays) "__class__" = some (some (.builtin "object.__class__")))
    (hmDays : PySem.W.mroIn K aDays (.type "object") = some true)
    {aLater fLater_init fLater_call : Addr}
    (a_Later : PySem.W.nsIn K mainGlobals "Later" = some (some (.ref aLater)))
    (pgLater : PySem.W.plainGet K aLater Str.empty = true)
    (hdLater : PySem.W.hasDictIn K aLater = true)
    (poLater : PySem.W.plainOver K aLater = true)
    (saLater : PySem.W.findIn K (.ref aLater) "__setattr__" = some (some (.builtin "object.__setattr__")))
    (mkLater : PySem.W.makesIn K aLater = true)
    (kpLater : PySem.W.keepIn K (.ref aLater) = true)
    (fiLater : PySem.W.findIn K (.ref aLater) "__init__" = some (some (.ref fLater_init)))
    {cLater_init ccLater_init : Addr} {odfLater_init odcLater_init odlLater_init : Option Addr} {slfLater_init slcLater_init sllLater_init : Array (Option Value)} {ocfLater_init occLater_init oclLater_init dcLater_init pmLater_init ctLater_init : Value} {vsLater_init : Array Value} {flLater_init : Str} {tkLater_init : Tok}
    (lLater_init : K.lookup fLater_init = some ⟨ocfLater_init, odfLater_init, .func ((FLater_init ccLater_init cLater_init).fd dcLater_init pmLater_init ctLater_init), slfLater_init⟩)
    (lcLater_init : K.lookup cLater_init = some ⟨occLater_init, odcLater_init, .fields vsLater_init, slcLater_init⟩)
    (vfLater_init : vsLater_init[2]? = some (.str flLater_init tkLater_init))
    (ffLater_init : ((l.prog.main.file : Str) == flLater_init) = true)
    (llLater_init : K.lookup ccLater_init = some ⟨oclLater_init, odlLater_init, .cell (some (.ref aLater)), sllLater_init⟩)
    (cdLater_init : PySem.W.codeIn K (.ref cLater_init) "Later.__init__" = true)
    (isfLater_init : PySem.W.isFn K (.ref fLater_init) = true)
    {ocxLater : Value} {odxLater : Option Addr} {cdxLater : ClassData} {slxLater : Array (Option Value)}
    (xLater : K.lookup aLater = some ⟨ocxLater, odxLater, .cls cdxLater, slxLater⟩)
    (mrLater : PySem.W.mroIn K aLater (.ref aLater) = some true)
    (moLater : (cdxLater.mro.dropWhile (· != .ref aLater)).drop 1 = cdxR.mro)
    (nLater_text : PySem.W.findIn K (.ref aLater) "_text" = some none)
    (nLater_forms : PySem.W.findIn K (.ref aLater) "_forms" = some none)
    (nLater_period : PySem.W.findIn K (.ref aLater) "_period" = some none)
    (nLater_bend : PySem.W.findIn K (.ref aLater) "_bend" = some none)
    (nLaterfirst : PySem.W.findIn K (.ref aLater) "first" = some none)
    (nLatersecond : PySem.W.findIn K (.ref aLater) "second" = some none)
    (mLaterforms : PySem.W.findIn K (.ref aLater) "forms" = some (some (.ref fF)))
    (mLaterperiod : PySem.W.findIn K (.ref aLater) "period" = some (some (.ref fP)))
    (mLaterbend : PySem.W.findIn K (.ref aLater) "bend" = some (some (.ref fB)))
    (mLaterwritten : PySem.W.findIn K (.ref aLater) "written" = some (some (.ref fW)))
    (fcLater : PySem.W.findIn K (.ref aLater) "__call__" = some (some (.ref fLater_call)))
    {odLater_call anLater_call : Option Addr} {slLater_call : Array (Option Value)} {ocLater_call kVLater_call dcLater_call pmLater_call cdLater_call ctLater_call : Value}
    (lLater_call : K.lookup fLater_call = some ⟨ocLater_call, odLater_call, .func (PySem.W.fnOf "__call__" "Later.__call__" (defArgs sLater_call) (defBody sLater_call) (defScope sLater_call) .none kVLater_call dcLater_call pmLater_call anLater_call cdLater_call ctLater_call), slLater_call⟩)
    (cLater_call : PySem.W.codeIn K cdLater_call "Later.__call__" = true)
    (kLater_call : PySem.W.keepIn K (.ref fLater_call) = true)
    (iLater_call : PySem.W.isFn K (.ref fLater_call) = true)
    (fnLater : PySem.W.fnIn K fLater_call = true)
    (isLater : PySem.W.subIn K (.ref aLater) (.ref aR) = some true)
    (haLater : PySem.W.findIn K (.ref aLater) "__class__" = some (some (.builtin "object.__class__")))
    (hmLater : PySem.W.mroIn K aLater (.type "object") = some true)
    {aSooner fSooner_init fSooner_call : Addr}
    (a_Sooner : PySem.W.nsIn K mainGlobals "Sooner" = some (some (.ref aSooner)))
    (pgSooner : PySem.W.plainGet K aSooner Str.empty = true)
    (hdSooner : PySem.W.hasDictIn K aSooner = true)
    (poSooner : PySem.W.plainOver K aSooner = true)
    (saSooner : PySem.W.findIn K (.ref aSooner) "__setattr__" = some (some (.builtin "object.__setattr__")))
    (mkSooner : PySem.W.makesIn K aSooner = true)
    (kpSooner : PySem.W.keepIn K (.ref aSooner) = true)
    (fiSooner : PySem.W.findIn K (.ref aSooner) "__init__" = some (some (.ref fSooner_init)))
    {cSooner_init ccSooner_init : Addr} {odfSooner_init odcSooner_init odlSooner_init : Option Addr} {slfSooner_init slcSooner_init sllSooner_init : Array (Option Value)} {ocfSooner_init occSooner_init oclSooner_init dcSooner_init pmSooner_init ctSooner_init : Value} {vsSooner_init : Array Value} {flSooner_init : Str} {tkSooner_init : Tok}
    (lSooner_init : K.lookup fSooner_init = some ⟨ocfSooner_init, odfSooner_init, .func ((FSooner_init ccSooner_init cSooner_init).fd dcSooner_init pmSooner_init ctSooner_init), slfSooner_init⟩)
    (lcSooner_init : K.lookup cSooner_init = some ⟨occSooner_init, odcSooner_init, .fields vsSooner_init, slcSooner_init⟩)
    (vfSooner_init : vsSooner_init[2]? = some (.str flSooner_init tkSooner_init))
    (ffSooner_init : ((l.prog.main.file : Str) == flSooner_init) = true)
    (llSooner_init : K.lookup ccSooner_init = some ⟨oclSooner_init, odlSooner_init, .cell (some (.ref aSooner)), sllSooner_init⟩)
    (cdSooner_init : PySem.W.codeIn K (.ref cSooner_init) "Sooner.__init__" = true)
    (isfSooner_init : PySem.W.isFn K (.ref fSooner_init) = true)
    {ocxSooner : Value} {odxSooner : Option Addr} {cdxSooner : ClassData} {slxSooner : Array (Option Value)}
    (xSooner : K.lookup aSooner = some ⟨ocxSooner, odxSooner, .cls cdxSooner, slxSooner⟩)
    (mrSooner : PySem.W.mroIn K aSooner (.ref aSooner) = some true)
    (moSooner : (cdxSooner.mro.dropWhile (· != .ref aSooner)).drop 1 = cdxR.mro)
    (nSooner_text : PySem.W.findIn K (.ref aSooner) "_text" = some none)
    (nSooner_forms : PySem.W.findIn K (.ref aSooner) "_forms" = some none)
    (nSooner_period : PySem.W.findIn K (.ref aSooner) "_period" = some none)
    (nSooner_bend : PySem.W.findIn K (.ref aSooner) "_bend" = some none)
    (nSoonerfirst : PySem.W.findIn K (.ref aSooner) "first" = some none)
    (nSoonersecond : PySem.W.findIn K (.ref aSooner) "second" = some none)
    (mSoonerforms : PySem.W.findIn K (.ref aSooner) "forms" = some (some (.ref fF)))
    (mSoonerperiod : PySem.W.findIn K (.ref aSooner) "period" = some (some (.ref fP)))
    (mSoonerbend : PySem.W.findIn K (.ref aSooner) "bend" = some (some (.ref fB)))
    (mSoonerwritten : PySem.W.findIn K (.ref aSooner) "written" = some (some (.ref fW)))
    (fcSooner : PySem.W.findIn K (.ref aSooner) "__call__" = some (some (.ref fSooner_call)))
    {odSooner_call anSooner_call : Option Addr} {slSooner_call : Array (Option Value)} {ocSooner_call kVSooner_call dcSooner_call pmSooner_call cdSooner_call ctSooner_call : Value}
    (lSooner_call : K.lookup fSooner_call = some ⟨ocSooner_call, odSooner_call, .func (PySem.W.fnOf "__call__" "Sooner.__call__" (defArgs sSooner_call) (defBody sSooner_call) (defScope sSooner_call) .none kVSooner_call dcSooner_call pmSooner_call anSooner_call cdSooner_call ctSooner_call), slSooner_call⟩)
    (cSooner_call : PySem.W.codeIn K cdSooner_call "Sooner.__call__" = true)
    (kSooner_call : PySem.W.keepIn K (.ref fSooner_call) = true)
    (iSooner_call : PySem.W.isFn K (.ref fSooner_call) = true)
    (fnSooner : PySem.W.fnIn K fSooner_call = true)
    (isSooner : PySem.W.subIn K (.ref aSooner) (.ref aR) = some true)
    (haSooner : PySem.W.findIn K (.ref aSooner) "__class__" = some (some (.builtin "object.__class__")))
    (hmSooner : PySem.W.mroIn K aSooner (.type "object") = some true)
    {aNext fNext_init fNext_call : Addr}
    (a_Next : PySem.W.nsIn K mainGlobals "Next" = some (some (.ref aNext)))
    (pgNext : PySem.W.plainGet K aNext Str.empty = true)
    (hdNext : PySem.W.hasDictIn K aNext = true)
    (poNext : PySem.W.plainOver K aNext = true)
    (saNext : PySem.W.findIn K (.ref aNext) "__setattr__" = some (some (.builtin "object.__setattr__")))
    (mkNext : PySem.W.makesIn K aNext = true)
    (kpNext : PySem.W.keepIn K (.ref aNext) = true)
    (fiNext : PySem.W.findIn K (.ref aNext) "__init__" = some (some (.ref fNext_init)))
    {cNext_init ccNext_init : Addr} {odfNext_init odcNext_init odlNext_init : Option Addr} {slfNext_init slcNext_init sllNext_init : Array (Option Value)} {ocfNext_init occNext_init oclNext_init dcNext_init pmNext_init ctNext_init : Value} {vsNext_init : Array Value} {flNext_init : Str} {tkNext_init : Tok}
    (lNext_init : K.lookup fNext_init = some ⟨ocfNext_init, odfNext_init, .func ((FNext_init ccNext_init cNext_init).fd dcNext_init pmNext_init ctNext_init), slfNext_init⟩)
    (lcNext_init : K.lookup cNext_init = some ⟨occNext_init, odcNext_init, .fields vsNext_init, slcNext_init⟩)
    (vfNext_init : vsNext_init[2]? = some (.str flNext_init tkNext_init))
    (ffNext_init : ((l.prog.main.file : Str) == flNext_init) = true)
    (llNext_init : K.lookup ccNext_init = some ⟨oclNext_init, odlNext_init, .cell (some (.ref aNext)), sllNext_init⟩)
    (cdNext_init : PySem.W.codeIn K (.ref cNext_init) "Next.__init__" = true)
    (isfNext_init : PySem.W.isFn K (.ref fNext_init) = true)
    {ocxNext : Value} {odxNext : Option Addr} {cdxNext : ClassData} {slxNext : Array (Option Value)}
    (xNext : K.lookup aNext = some ⟨ocxNext, odxNext, .cls cdxNext, slxNext⟩)
    (mrNext : PySem.W.mroIn K aNext (.ref aNext) = some true)
    (moNext : (cdxNext.mro.dropWhile (· != .ref aNext)).drop 1 = cdxR.mro)
    (nNext_text : PySem.W.findIn K (.ref aNext) "_text" = some none)
    (nNext_forms : PySem.W.findIn K (.ref aNext) "_forms" = some none)
    (nNext_period : PySem.W.findIn K (.ref aNext) "_period" = some none)
    (nNext_bend : PySem.W.findIn K (.ref aNext) "_bend" = some none)
    (nNextfirst : PySem.W.findIn K (.ref aNext) "first" = some none)
    (nNextsecond : PySem.W.findIn K (.ref aNext) "second" = some none)
    (mNextforms : PySem.W.findIn K (.ref aNext) "forms" = some (some (.ref fF)))
    (mNextperiod : PySem.W.findIn K (.ref aNext) "period" = some (some (.ref fP)))
    (mNextbend : PySem.W.findIn K (.ref aNext) "bend" = some (some (.ref fB)))
    (mNextwritten : PySem.W.findIn K (.ref aNext) "written" = some (some (.ref fW)))
    (fcNext : PySem.W.findIn K (.ref aNext) "__call__" = some (some (.ref fNext_call)))
    {odNext_call anNext_call : Option Addr} {slNext_call : Array (Option Value)} {ocNext_call kVNext_call dcNext_call pmNext_call cdNext_call ctNext_call : Value}
    (lNext_call : K.lookup fNext_call = some ⟨ocNext_call, odNext_call, .func (PySem.W.fnOf "__call__" "Next.__call__" (defArgs sNext_call) (defBody sNext_call) (defScope sNext_call) .none kVNext_call dcNext_call pmNext_call anNext_call cdNext_call ctNext_call), slNext_call⟩)
    (cNext_call : PySem.W.codeIn K cdNext_call "Next.__call__" = true)
    (kNext_call : PySem.W.keepIn K (.ref fNext_call) = true)
    (iNext_call : PySem.W.isFn K (.ref fNext_call) = true)
    (fnNext : PySem.W.fnIn K fNext_call = true)
    (isNext : PySem.W.subIn K (.ref aNext) (.ref aR) = some true)
    (haNext : PySem.W.findIn K (.ref aNext) "__class__" = some (some (.builtin "object.__class__")))
    (hmNext : PySem.W.mroIn K aNext (.type "object") = some true)
    (hn : PySem.W.specialIn K (.builtin "object.__class__") "__get__" = some (some (.builtin "getset_descriptor.__get__")))
    (ht : PySem.W.takesIn K (.builtin "object.__class__") = some true)
    (xlcm : PySem.W.nsIn K mainGlobals "lcm" = some (some (.builtin "math.lcm")))
    {aNet fNet_init fNet_elder_of fNet_error_of fNet_delay_of fNet_ups fNet_way fNet_pair fNet_kappa fNet_delays_between fNet_least_kappa : Addr}
    (aNetG : PySem.W.nsIn K mainGlobals "Net" = some (some (.ref aNet)))
    (pgNet : PySem.W.plainGet K aNet Str.empty = true)
    (hdNet : PySem.W.hasDictIn K aNet = true)
    (poNet : PySem.W.plainOver K aNet = true)
    (saNet : PySem.W.findIn K (.ref aNet) "__setattr__" = some (some (.builtin "object.__setattr__")))
    (mkNet : PySem.W.makesIn K aNet = true)
    (kpNet : PySem.W.keepIn K (.ref aNet) = true)
    (nNetrest : PySem.W.findIn K (.ref aNet) "rest" = some none)
    (nNet_rows : PySem.W.findIn K (.ref aNet) "_rows" = some none)
    (nNet_dists : PySem.W.findIn K (.ref aNet) "_dists" = some none)
    (nNet_kappas : PySem.W.findIn K (.ref aNet) "_kappas" = some none)
    (atNet_init : PySem.W.findIn K (.ref aNet) "__init__" = some (some (.ref fNet_init)))
    {odNet_init anNet_init : Option Addr} {slNet_init : Array (Option Value)} {ocNet_init kVNet_init dcNet_init pmNet_init cdNet_init ctNet_init : Value}
    (lNet_init : K.lookup fNet_init = some ⟨ocNet_init, odNet_init, .func (PySem.W.fnOf "__init__" "Net.__init__" (defArgs sNet_init) (defBody sNet_init) (defScope sNet_init) .none kVNet_init dcNet_init pmNet_init anNet_init cdNet_init ctNet_init), slNet_init⟩)
    (cNet_init : PySem.W.codeIn K cdNet_init "Net.__init__" = true)
    (kNet_init : PySem.W.keepIn K (.ref fNet_init) = true)
    (iNet_init : PySem.W.isFn K (.ref fNet_init) = true)
    (atNet_elder_of : PySem.W.findIn K (.ref aNet) "elder_of" = some (some (.ref fNet_elder_of)))
    {odNet_elder_of anNet_elder_of : Option Addr} {slNet_elder_of : Array (Option Value)} {ocNet_elder_of kVNet_elder_of dcNet_elder_of pmNet_elder_of cdNet_elder_of ctNet_elder_of : Value}
    (lNet_elder_of : K.lookup fNet_elder_of = some ⟨ocNet_elder_of, odNet_elder_of, .func (PySem.W.fnOf "elder_of" "Net.elder_of" (defArgs sNet_elder_of) (defBody sNet_elder_of) (defScope sNet_elder_of) .none kVNet_elder_of dcNet_elder_of pmNet_elder_of anNet_elder_of cdNet_elder_of ctNet_elder_of), slNet_elder_of⟩)
    (cNet_elder_of : PySem.W.codeIn K cdNet_elder_of "Net.elder_of" = true)
    (kNet_elder_of : PySem.W.keepIn K (.ref fNet_elder_of) = true)
    (iNet_elder_of : PySem.W.isFn K (.ref fNet_elder_of) = true)
    (atNet_error_of : PySem.W.findIn K (.ref aNet) "error_of" = some (some (.ref fNet_error_of)))
    {odNet_error_of anNet_error_of : Option Addr} {slNet_error_of : Array (Option Value)} {ocNet_error_of kVNet_error_of dcNet_error_of pmNet_error_of cdNet_error_of ctNet_error_of : Value}
    (lNet_error_of : K.lookup fNet_error_of = some ⟨ocNet_error_of, odNet_error_of, .func (PySem.W.fnOf "error_of" "Net.error_of" (defArgs sNet_error_of) (defBody sNet_error_of) (defScope sNet_error_of) .none kVNet_error_of dcNet_error_of pmNet_error_of anNet_error_of cdNet_error_of ctNet_error_of), slNet_error_of⟩)
    (cNet_error_of : PySem.W.codeIn K cdNet_error_of "Net.error_of" = true)
    (kNet_error_of : PySem.W.keepIn K (.ref fNet_error_of) = true)
    (iNet_error_of : PySem.W.isFn K (.ref fNet_error_of) = true)
    (atNet_delay_of : PySem.W.findIn K (.ref aNet) "delay_of" = some (some (.ref fNet_delay_of)))
    {odNet_delay_of anNet_delay_of : Option Addr} {slNet_delay_of : Array (Option Value)} {ocNet_delay_of kVNet_delay_of dcNet_delay_of pmNet_delay_of cdNet_delay_of ctNet_delay_of : Value}
    (lNet_delay_of : K.lookup fNet_delay_of = some ⟨ocNet_delay_of, odNet_delay_of, .func (PySem.W.fnOf "delay_of" "Net.delay_of" (defArgs sNet_delay_of) (defBody sNet_delay_of) (defScope sNet_delay_of) .none kVNet_delay_of dcNet_delay_of pmNet_delay_of anNet_delay_of cdNet_delay_of ctNet_delay_of), slNet_delay_of⟩)
    (cNet_delay_of : PySem.W.codeIn K cdNet_delay_of "Net.delay_of" = true)
    (kNet_delay_of : PySem.W.keepIn K (.ref fNet_delay_of) = true)
    (iNet_delay_of : PySem.W.isFn K (.ref fNet_delay_of) = true)
    (atNet_ups : PySem.W.findIn K (.ref aNet) "ups" = some (some (.ref fNet_ups)))
    {odNet_ups anNet_ups : Option Addr} {slNet_ups : Array (Option Value)} {ocNet_ups kVNet_ups dcNet_ups pmNet_ups cdNet_ups ctNet_ups : Value}
    (lNet_ups : K.lookup fNet_ups = some ⟨ocNet_ups, odNet_ups, .func (PySem.W.fnOf "ups" "Net.ups" (defArgs sNet_ups) (defBody sNet_ups) (defScope sNet_ups) .none kVNet_ups dcNet_ups pmNet_ups anNet_ups cdNet_ups ctNet_ups), slNet_ups⟩)
    (cNet_ups : PySem.W.codeIn K cdNet_ups "Net.ups" = true)
    (kNet_ups : PySem.W.keepIn K (.ref fNet_ups) = true)
    (iNet_ups : PySem.W.isFn K (.ref fNet_ups) = true)
    (atNet_way : PySem.W.findIn K (.ref aNet) "way" = some (some (.ref fNet_way)))
    {odNet_way anNet_way : Option Addr} {slNet_way : Array (Option Value)} {ocNet_way kVNet_way dcNet_way pmNet_way cdNet_way ctNet_way : Value}
    (lNet_way : K.lookup fNet_way = some ⟨ocNet_way, odNet_way, .func (PySem.W.fnOf "way" "Net.way" (defArgs sNet_way) (defBody sNet_way) (defScope sNet_way) .none kVNet_way dcNet_way pmNet_way anNet_way cdNet_way ctNet_way), slNet_way⟩)
    (cNet_way : PySem.W.codeIn K cdNet_way "Net.way" = true)
    (kNet_way : PySem.W.keepIn K (.ref fNet_way) = true)
    (iNet_way : PySem.W.isFn K (.ref fNet_way) = true)
    (atNet_pair : PySem.W.findIn K (.ref aNet) "pair" = some (some (.ref fNet_pair)))
    {odNet_pair anNet_pair : Option Addr} {slNet_pair : Array (Option Value)} {ocNet_pair kVNet_pair dcNet_pair pmNet_pair cdNet_pair ctNet_pair : Value}
    (lNet_pair : K.lookup fNet_pair = some ⟨ocNet_pair, odNet_pair, .func (PySem.W.fnOf "pair" "Net.pair" (defArgs sNet_pair) (defBody sNet_pair) (defScope sNet_pair) .none kVNet_pair dcNet_pair pmNet_pair anNet_pair cdNet_pair ctNet_pair), slNet_pair⟩)
    (cNet_pair : PySem.W.codeIn K cdNet_pair "Net.pair" = true)
    (kNet_pair : PySem.W.keepIn K (.ref fNet_pair) = true)
    (iNet_pair : PySem.W.isFn K (.ref fNet_pair) = true)
    (atNet_kappa : PySem.W.findIn K (.ref aNet) "kappa" = some (some (.ref fNet_kappa)))
    {odNet_kappa anNet_kappa : Option Addr} {slNet_kappa : Array (Option Value)} {ocNet_kappa kVNet_kappa dcNet_kappa pmNet_kappa cdNet_kappa ctNet_kappa : Value}
    (lNet_kappa : K.lookup fNet_kappa = some ⟨ocNet_kappa, odNet_kappa, .func (PySem.W.fnOf "kappa" "Net.kappa" (defArgs sNet_kappa) (defBody sNet_kappa) (defScope sNet_kappa) .none kVNet_kappa dcNet_kappa pmNet_kappa anNet_kappa cdNet_kappa ctNet_kappa), slNet_kappa⟩)
    (cNet_kappa : PySem.W.codeIn K cdNet_kappa "Net.kappa" = true)
    (kNet_kappa : PySem.W.keepIn K (.ref fNet_kappa) = true)
    (iNet_kappa : PySem.W.isFn K (.ref fNet_kappa) = true)
    (atNet_delays_between : PySem.W.findIn K (.ref aNet) "delays_between" = some (some (.ref fNet_delays_between)))
    {odNet_delays_between anNet_delays_between : Option Addr} {slNet_delays_between : Array (Option Value)} {ocNet_delays_between kVNet_delays_between dcNet_delays_between pmNet_delays_between cdNet_delays_between ctNet_delays_between : Value}
    (lNet_delays_between : K.lookup fNet_delays_between = some ⟨ocNet_delays_between, odNet_delays_between, .func (PySem.W.fnOf "delays_between" "Net.delays_between" (defArgs sNet_delays_between) (defBody sNet_delays_between) (defScope sNet_delays_between) .none kVNet_delays_between dcNet_delays_between pmNet_delays_between anNet_delays_between cdNet_delays_between ctNet_delays_between), slNet_delays_between⟩)
    (cNet_delays_between : PySem.W.codeIn K cdNet_delays_between "Net.delays_between" = true)
    (kNet_delays_between : PySem.W.keepIn K (.ref fNet_delays_between) = true)
    (iNet_delays_between : PySem.W.isFn K (.ref fNet_delays_between) = true)
    (atNet_least_kappa : PySem.W.findIn K (.ref aNet) "least_kappa" = some (some (.ref fNet_least_kappa)))
    {odNet_least_kappa anNet_least_kappa : Option Addr} {slNet_least_kappa : Array (Option Value)} {ocNet_least_kappa kVNet_least_kappa dcNet_least_kappa pmNet_least_kappa cdNet_least_kappa ctNet_least_kappa : Value}
    (lNet_least_kappa : K.lookup fNet_least_kappa = some ⟨ocNet_least_kappa, odNet_least_kappa, .func (PySem.W.fnOf "least_kappa" "Net.least_kappa" (defArgs sNet_least_kappa) (defBody sNet_least_kappa) (defScope sNet_least_kappa) .none kVNet_least_kappa dcNet_least_kappa pmNet_least_kappa anNet_least_kappa cdNet_least_kappa ctNet_least_kappa), slNet_least_kappa⟩)
    (cNet_least_kappa : PySem.W.codeIn K cdNet_least_kappa "Net.least_kappa" = true)
    (kNet_least_kappa : PySem.W.keepIn K (.ref fNet_least_kappa) = true)
    (iNet_least_kappa : PySem.W.isFn K (.ref fNet_least_kappa) = true) :
    ∀ base : Heap, K.In base → base.Ns mainGlobals mg → LN.LawB l.prog w K mg base 11 fa (splaw K) := by
  have e := hfa.symm.trans (PySem.W.mg_of X G alaw)
  cases e
  have T : Txt K mg := ⟨PySem.W.mg_none_of X G zall, PySem.W.mg_none_of X G zbool, PySem.W.mg_none_of X G zdict, PySem.W.mg_none_of X G zenumerate, PySem.W.mg_none_of X G zint, PySem.W.mg_none_of X G zisinstance, PySem.W.mg_none_of X G zlen, PySem.W.mg_none_of X G zlist, PySem.W.mg_none_of X G zmax, PySem.W.mg_none_of X G zmin, PySem.W.mg_none_of X G zrange, PySem.W.mg_none_of X G zrepr, PySem.W.mg_none_of X G zreversed, PySem.W.mg_none_of X G zstr, PySem.W.mg_none_of X G zsum, PySem.W.mg_none_of X G zsuper, PySem.W.mg_none_of X G ztuple, ⟨_, PySem.W.mg_of X G yDIGITS⟩, ⟨_, PySem.W.mg_of X G yLETTERS⟩, ⟨_, PySem.W.mg_of X G yMOST_BORDERS⟩, ⟨_, PySem.W.mg_of X G yMOST_ERROR⟩, ⟨_, PySem.W.mg_of X G yMOST_FORMS⟩, ⟨_, PySem.W.mg_of X G yMOST_NET_PLACES⟩, ⟨_, PySem.W.mg_of X G yMOST_PERIOD⟩, ⟨_, PySem.W.mg_of X G yMOST_SIZE⟩⟩
  have Fcheck_count := fun_mk (st := scheck_count) lcheck_count ccheck_count kcheck_count
  have Dcheck_count : Def K mg "check_count" scheck_count Pcheck_count _ _ := ⟨Fcheck_count, PySem.W.mg_of X G acheck_count, Fcheck_count.binds (ps := Pcheck_count) fun _ _ _ _ _ _ us hl => match us, hl with | [_, _, _], _ => rfl⟩
  have Fis_whole := fun_mk (st := sis_whole) lis_whole cis_whole kis_whole
  have Dis_whole : Def K mg "is_whole" sis_whole Pis_whole _ _ := ⟨Fis_whole, PySem.W.mg_of X G ais_whole, Fis_whole.binds (ps := Pis_whole) fun _ _ _ _ _ _ us hl => match us, hl with | [_], _ => rfl⟩
  have Fis_number := fun_mk (st := sis_number) lis_number cis_number kis_number
  have Dis_number : Def K mg "is_number" sis_number Pis_number _ _ := ⟨Fis_number, PySem.W.mg_of X G ais_number, Fis_number.binds (ps := Pis_number) fun _ _ _ _ _ _ us hl => match us, hl with | [_, _, _], _ => rfl⟩
  have Fcheck_borders := fun_mk (st := scheck_borders) lcheck_borders ccheck_borders kcheck_borders
  have Dcheck_borders : Def K mg "check_borders" scheck_borders Pcheck_borders _ _ := ⟨Fcheck_borders, PySem.W.mg_of X G acheck_borders, Fcheck_borders.binds (ps := Pcheck_borders) fun _ _ _ _ _ _ us hl => match us, hl with | [_], _ => rfl⟩
  have Fcommon_period := fun_mk (st := scommon_period) lcommon_period ccommon_period kcommon_period
  have Dcommon_period : Def K mg "common_period" scommon_period Pcommon_period _ _ := ⟨Fcommon_period, PySem.W.mg_of X G acommon_period, Fcommon_period.binds (ps := Pcommon_period) fun _ _ _ _ _ _ us hl => match us, hl with | [_, _], _ => rfl⟩
  have Fpair_facts := fun_mk (st := spair_facts) lpair_facts cpair_facts kpair_facts
  have Dpair_facts : Def K mg "pair_facts" spair_facts Ppair_facts _ _ := ⟨Fpair_facts, PySem.W.mg_of X G apair_facts, Fpair_facts.binds (ps := Ppair_facts) fun _ _ _ _ _ _ us hl => match us, hl with | [_, _, _], _ => rfl⟩
  have Fis_name := fun_mk (st := sis_name) lis_name cis_name kis_name
  have Dis_name : Def K mg "is_name" sis_name Pis_name _ _ := ⟨Fis_name, PySem.W.mg_of X G ais_name, Fis_name.binds (ps := Pis_name) fun _ _ _ _ _ _ us hl => match us, hl with | [_], _ => rfl⟩
  have Fhas_name := fun_mk (st := shas_name) lhas_name chas_name khas_name
  have Dhas_name : Def K mg "has_name" shas_name Phas_name _ _ := ⟨Fhas_name, PySem.W.mg_of X G ahas_name, Fhas_name.binds (ps := Phas_name) fun _ _ _ _ _ _ us hl => match us, hl with | [_, _], _ => rfl⟩
  have Flook_up := fun_mk (st := slook_up) llook_up clook_up klook_up
  have Dlook_up : Def K mg "look_up" slook_up Plook_up _ _ := ⟨Flook_up, PySem.W.mg_of X G alook_up, Flook_up.binds (ps := Plook_up) fun _ _ _ _ _ _ us hl => match us, hl with | [_, _], _ => rfl⟩
  have Fis_row := fun_mk (st := sis_row) lis_row cis_row kis_row
  have Dis_row : Def K mg "is_row" sis_row Pis_row _ _ := ⟨Fis_row, PySem.W.mg_of X G ais_row, Fis_row.binds (ps := Pis_row) fun _ _ _ _ _ _ us hl => match us, hl with | [_, _], _ => rfl⟩
  have Frows_by_name := fun_mk (st := srows_by_name) lrows_by_name crows_by_name krows_by_name
  have Drows_by_name : Def K mg "rows_by_name" srows_by_name Prows_by_name _ _ := ⟨Frows_by_name, PySem.W.mg_of X G arows_by_name, Frows_by_name.binds (ps := Prows_by_name) fun _ _ _ _ _ _ us hl => match us, hl with | [_], _ => rfl⟩
  have Fleads := fun_mk (st := sleads) lleads cleads kleads
  have Dleads : Def K mg "leads" sleads Pleads _ _ := ⟨Fleads, PySem.W.mg_of X G aleads, Fleads.binds (ps := Pleads) fun _ _ _ _ _ _ us hl => match us, hl with | [_, _, _], _ => rfl⟩
  have Fbox := fun_mk (st := sbox) lbox cbox kbox
  have Dbox : Def K mg "_law_box" sbox Pbox _ _ := ⟨Fbox, PySem.W.mg_of X G abox, Fbox.binds (ps := Pbox) fun _ _ _ _ _ _ us hl => match us, hl with | [_], _ => rfl⟩
  have Ftake := fun_mk (st := stake) ltake ctake ktake
  have Dtake : Def K mg "_law_take" stake Ptake _ _ := ⟨Ftake, PySem.W.mg_of X G atake, Ftake.binds (ps := Ptake) fun _ _ _ _ _ _ us hl => match us, hl with | [_, _], _ => rfl⟩
  have Fplain_form := fun_mk (st := splain_form) lplain_form cplain_form kplain_form
  have Dplain_form : Def K mg "_law_plain_form" splain_form Pplain_form _ _ := ⟨Fplain_form, PySem.W.mg_of X G aplain_form, Fplain_form.binds (ps := Pplain_form) fun _ _ _ _ _ _ us hl => match us, hl with | [_], _ => rfl⟩
  have Fform := fun_mk (st := sform) lform cform kform
  have Dform : Def K mg "_law_form" sform Pform _ _ := ⟨Fform, PySem.W.mg_of X G aform, Fform.binds (ps := Pform) fun _ _ _ _ _ _ us hl => match us, hl with | [_], _ => rfl⟩
  have Fafter := fun_mk (st := safter) lafter cafter kafter
  have Dafter : Def K mg "_law_after" safter Pafter _ _ := ⟨Fafter, PySem.W.mg_of X G aafter, Fafter.binds (ps := Pafter) fun _ _ _ _ _ _ us hl => match us, hl with | [_, _], _ => rfl⟩
  have Fmade := fun_mk (st := smade) lmade cmade kmade
  have Dmade : Def K mg "_law_made" smade Pmade _ _ := ⟨Fmade, PySem.W.mg_of X G amade, Fmade.binds (ps := Pmade) fun _ _ _ _ _ _ us hl => match us, hl with | [_], _ => rfl⟩
  have Frows := fun_mk (st := srows) lrows crows krows
  have Drows : Def K mg "_law_rows" srows Prows _ _ := ⟨Frows, PySem.W.mg_of X G arows, Frows.binds (ps := Prows) fun _ _ _ _ _ _ us hl => match us, hl with | [_, _, _, _], _ => rfl⟩
  have Fnet := fun_mk (st := snet) lnet cnet knet
  have Dnet : Def K mg "_law_net" snet Pnet _ _ := ⟨Fnet, PySem.W.mg_of X G anet, Fnet.binds (ps := Pnet) fun _ _ _ _ _ _ us hl => match us, hl with | [_, _], _ => rfl⟩
  have Frow := fun_mk (st := srow) lrow crow krow
  have Drow : Def K mg "_law_row" srow Prow _ _ := ⟨Frow, PySem.W.mg_of X G arow, Frow.binds (ps := Prow) fun _ _ _ _ _ _ us hl => match us, hl with | [_, _], _ => rfl⟩
  have Fline := fun_mk (st := sline) lline cline kline
  have Dline : Def K mg "_law_line" sline Pline _ _ := ⟨Fline, PySem.W.mg_of X G aline, Fline.binds (ps := Pline) fun _ _ _ _ _ _ us hl => match us, hl with | [_, _], _ => rfl⟩
  have Ffar := fun_mk (st := sfar) lfar cfar kfar
  have Dfar : Def K mg "_law_far" sfar Pfar _ _ := ⟨Ffar, PySem.W.mg_of X G afar, Ffar.binds (ps := Pfar) fun _ _ _ _ _ _ us hl => match us, hl with | [_, _, _], _ => rfl⟩
  have Fgap := fun_mk (st := sgap) lgap cgap kgap
  have Dgap : Def K mg "_law_gap" sgap Pgap _ _ := ⟨Fgap, PySem.W.mg_of X G agap, Fgap.binds (ps := Pgap) fun _ _ _ _ _ _ us hl => match us, hl with | [_, _, _], _ => rfl⟩
  have Fneed := fun_mk (st := sneed) lneed cneed kneed
  have Dneed : Def K mg "_law_need" sneed Pneed _ _ := ⟨Fneed, PySem.W.mg_of X G aneed, Fneed.binds (ps := Pneed) fun _ _ _ _ _ _ us hl => match us, hl with | [_, _, _, _], _ => rfl⟩
  have Fxleads := fun_mk (st := sxleads) lxleads cxleads kxleads
  have Dxleads : Def K mg "_law_leads" sxleads Pxleads _ _ := ⟨Fxleads, PySem.W.mg_of X G axleads, Fxleads.binds (ps := Pxleads) fun _ _ _ _ _ _ us hl => match us, hl with | [_, _, _, _], _ => rfl⟩
  have Fchain := fun_mk (st := schain) lchain cchain kchain
  have Dchain : Def K mg "_law_chain" schain Pchain _ _ := ⟨Fchain, PySem.W.mg_of X G achain, Fchain.binds (ps := Pchain) fun _ _ _ _ _ _ us hl => match us, hl with | [_, _, _], _ => rfl⟩
  have Flaw := fun_mk (st := slaw) llaw claw klaw
  have Dlaw : Def K mg "law" slaw Plaw _ _ := ⟨Flaw, PySem.W.mg_of X G alaw, Flaw.binds (ps := Plaw) fun _ _ _ _ _ _ us hl => match us, hl with | [_], _ => rfl⟩
  let a : Ad := ⟨aR, aWindow, aDays, aLater, aSooner, aNext, fRi, fF, fP, fB, fW, fWindow_init, fDays_init, fLater_init, fSooner_init, fNext_init, fWindow_call, fDays_call, fLater_call, fSooner_call, fNext_call⟩
  have rcWindow : RC K a aWindow := ⟨⟨pgWindow, hdWindow, poWindow, saWindow⟩, nWindow_text, nWindow_forms, nWindow_period, nWindow_bend, ⟨mWindowforms, iRest_forms, kRest_forms⟩, ⟨mWindowperiod, iRest_period, kRest_period⟩, ⟨mWindowbend, iRest_bend, kRest_bend⟩, ⟨mWindowwritten, iRest_written, kRest_written⟩, LS.kit_own xRest tyCR isWindow, haWindow, hn, ht, hmWindow⟩
  have rcDays : RC K a aDays := ⟨⟨pgDays, hdDays, poDays, saDays⟩, nDays_text, nDays_forms, nDays_period, nDays_bend, ⟨mDaysforms, iRest_forms, kRest_forms⟩, ⟨mDaysperiod, iRest_period, kRest_period⟩, ⟨mDaysbend, iRest_bend, kRest_bend⟩, ⟨mDayswritten, iRest_written, kRest_written⟩, LS.kit_own xRest tyCR isDays, haDays, hn, ht, hmDays⟩
  have rcLater : RC K a aLater := ⟨⟨pgLater, hdLater, poLater, saLater⟩, nLater_text, nLater_forms, nLater_period, nLater_bend, ⟨mLaterforms, iRest_forms, kRest_forms⟩, ⟨mLaterperiod, iRest_period, kRest_period⟩, ⟨mLaterbend, iRest_bend, kRest_bend⟩, ⟨mLaterwritten, iRest_written, kRest_written⟩, LS.kit_own xRest tyCR isLater, haLater, hn, ht, hmLater⟩
  have rcSooner : RC K a aSooner := ⟨⟨pgSooner, hdSooner, poSooner, saSooner⟩, nSooner_text, nSooner_forms, nSooner_period, nSooner_bend, ⟨mSoonerforms, iRest_forms, kRest_forms⟩, ⟨mSoonerperiod, iRest_period, kRest_period⟩, ⟨mSoonerbend, iRest_bend, kRest_bend⟩, ⟨mSoonerwritten, iRest_written, kRest_written⟩, LS.kit_own xRest tyCR isSooner, haSooner, hn, ht, hmSooner⟩
  have rcNext : RC K a aNext := ⟨⟨pgNext, hdNext, poNext, saNext⟩, nNext_text, nNext_forms, nNext_period, nNext_bend, ⟨mNextforms, iRest_forms, kRest_forms⟩, ⟨mNextperiod, iRest_period, kRest_period⟩, ⟨mNextbend, iRest_bend, kRest_bend⟩, ⟨mNextwritten, iRest_written, kRest_written⟩, LS.kit_own xRest tyCR isNext, haNext, hn, ht, hmNext⟩
  have KN : Kn K mg a := ⟨rcWindow, rcDays, rcLater, rcSooner, rcNext, nWindowwidth, nDays_borders, nDaysevery, nLaterfirst, nLatersecond, nSoonerfirst, nSoonersecond, nNextfirst, nNextsecond, kRest_written, kRest_forms, kRest_period, kRest_bend, PySem.W.mg_of X G aRest, PySem.W.mg_of X G xlcm, PySem.W.mg_of X G a_Window, PySem.W.mg_of X G a_Days, PySem.W.mg_of X G a_Later, PySem.W.mg_of X G a_Sooner, PySem.W.mg_of X G a_Next, ⟨mkWindow, fiWindow, isfWindow_init, kpWindow⟩, ⟨mkDays, fiDays, isfDays_init, kpDays⟩, ⟨mkLater, fiLater, isfLater_init, kpLater⟩, ⟨mkSooner, fiSooner, isfSooner_init, kpSooner⟩, ⟨mkNext, fiNext, isfNext_init, kpNext⟩, ⟨fcWindow, iWindow_call, fnWindow⟩, ⟨fcDays, iDays_call, fnDays⟩, ⟨fcLater, iLater_call, fnLater⟩, ⟨fcSooner, iSooner_call, fnSooner⟩, ⟨fcNext, iNext_call, fnNext⟩⟩
  have UWindow_init : LS.SupF l.prog K (FWindow_init ccWindow_init cWindow_init) fWindow_init aWindow fRi "__init__" := ⟨⟨_, _, _, _, _, _, lWindow_init⟩, cdWindow_init, ⟨_, _, _, _, _, _, lcWindow_init, vfWindow_init, ffWindow_init⟩, ⟨_, _, _, _, rfl, llWindow_init⟩, ⟨_, LS.cls_of xWindow⟩, mrWindow, LS.sup_of xWindow moWindow xRest ffRi, tyR, opq, fiR, tp⟩
  have UDays_init : LS.SupF l.prog K (FDays_init ccDays_init cDays_init) fDays_init aDays fRi "__init__" := ⟨⟨_, _, _, _, _, _, lDays_init⟩, cdDays_init, ⟨_, _, _, _, _, _, lcDays_init, vfDays_init, ffDays_init⟩, ⟨_, _, _, _, rfl, llDays_init⟩, ⟨_, LS.cls_of xDays⟩, mrDays, LS.sup_of xDays moDays xRest ffRi, tyR, opq, fiR, tp⟩
  have ULater_init : LS.SupF l.prog K (FLater_init ccLater_init cLater_init) fLater_init aLater fRi "__init__" := ⟨⟨_, _, _, _, _, _, lLater_init⟩, cdLater_init, ⟨_, _, _, _, _, _, lcLater_init, vfLater_init, ffLater_init⟩, ⟨_, _, _, _, rfl, llLater_init⟩, ⟨_, LS.cls_of xLater⟩, mrLater, LS.sup_of xLater moLater xRest ffRi, tyR, opq, fiR, tp⟩
  have USooner_init : LS.SupF l.prog K (FSooner_init ccSooner_init cSooner_init) fSooner_init aSooner fRi "__init__" := ⟨⟨_, _, _, _, _, _, lSooner_init⟩, cdSooner_init, ⟨_, _, _, _, _, _, lcSooner_init, vfSooner_init, ffSooner_init⟩, ⟨_, _, _, _, rfl, llSooner_init⟩, ⟨_, LS.cls_of xSooner⟩, mrSooner, LS.sup_of xSooner moSooner xRest ffRi, tyR, opq, fiR, tp⟩
  have UNext_init : LS.SupF l.prog K (FNext_init ccNext_init cNext_init) fNext_init aNext fRi "__init__" := ⟨⟨_, _, _, _, _, _, lNext_init⟩, cdNext_init, ⟨_, _, _, _, _, _, lcNext_init, vfNext_init, ffNext_init⟩, ⟨_, _, _, _, rfl, llNext_init⟩, ⟨_, LS.cls_of xNext⟩, mrNext, LS.sup_of xNext moNext xRest ffRi, tyR, opq, fiR, tp⟩
  let r : Ar := ⟨aNet, fNet_init, fNet_elder_of, fNet_error_of, fNet_delay_of, fNet_ups, fNet_way, fNet_pair, fNet_kappa, fNet_delays_between, fNet_least_kappa⟩
  have KR : Kr K mg r := ⟨⟨pgNet, hdNet, poNet, saNet⟩, nNetrest, nNet_rows, nNet_dists, nNet_kappas, ⟨atNet_elder_of, iNet_elder_of, kNet_elder_of⟩, ⟨atNet_error_of, iNet_error_of, kNet_error_of⟩, ⟨atNet_delay_of, iNet_delay_of, kNet_delay_of⟩, ⟨atNet_ups, iNet_ups, kNet_ups⟩, ⟨atNet_way, iNet_way, kNet_way⟩, ⟨atNet_pair, iNet_pair, kNet_pair⟩, ⟨atNet_kappa, iNet_kappa, kNet_kappa⟩, ⟨atNet_delays_between, iNet_delays_between, kNet_delays_between⟩, ⟨atNet_least_kappa, iNet_least_kappa, kNet_least_kappa⟩, ⟨mkNet, atNet_init, iNet_init, kpNet⟩, PySem.W.mg_of X G aNetG⟩
  refine fun base _ _ => ?_
  have Gcheck_count := ok_check_count (P := l.prog) (w := w) (base := base) Dcheck_count T
  have Gis_whole := ok_is_whole (P := l.prog) (w := w) (base := base) Dis_whole T
  have Gis_number := ok_is_number (P := l.prog) (w := w) (base := base) Dis_number T Dis_whole Gis_whole
  have Gcheck_borders := ok_check_borders (P := l.prog) (w := w) (base := base) Dcheck_borders T Dcheck_count Gcheck_count Dis_number Gis_number
  have FRest_init := fun_mk (st := sRest_init) lRest_init cRest_init kRest_init
  have BRest_init := FRest_init.binds (ps := PRest_init) fun _ _ _ _ _ _ us hl => match us, hl with | [_, _, _, _, _], _ => rfl
  have GRest_init := ok_Rest_init (P := l.prog) (w := w) (base := base) FRest_init T KN
  have RI : FnR l.prog w K mg base CX0 1 fRi (spRest_init K a) := LC.raw0 GRest_init BRest_init
  have FRest_forms := fun_mk (st := sRest_forms) lRest_forms cRest_forms kRest_forms
  have BRest_forms := FRest_forms.binds (ps := PRest_forms) fun _ _ _ _ _ _ us hl => match us, hl with | [_], _ => rfl
  have GRest_forms := ok_Rest_forms (P := l.prog) (w := w) (base := base) FRest_forms T KN
  have RF : FnR l.prog w K mg base CX0 1 fF (spRest_forms K a) := LC.raw0 GRest_forms BRest_forms
  have FRest_period := fun_mk (st := sRest_period) lRest_period cRest_period kRest_period
  have BRest_period := FRest_period.binds (ps := PRest_period) fun _ _ _ _ _ _ us hl => match us, hl with | [_], _ => rfl
  have GRest_period := ok_Rest_period (P := l.prog) (w := w) (base := base) FRest_period T KN
  have RP : FnR l.prog w K mg base CX0 1 fP (spRest_period K a) := LC.raw0 GRest_period BRest_period
  have FRest_bend := fun_mk (st := sRest_bend) lRest_bend cRest_bend kRest_bend
  have BRest_bend := FRest_bend.binds (ps := PRest_bend) fun _ _ _ _ _ _ us hl => match us, hl with | [_], _ => rfl
  have GRest_bend := ok_Rest_bend (P := l.prog) (w := w) (base := base) FRest_bend T KN
  have RB : FnR l.prog w K mg base CX0 1 fB (spRest_bend K a) := LC.raw0 GRest_bend BRest_bend
  have FRest_written := fun_mk (st := sRest_written) lRest_written cRest_written kRest_written
  have BRest_written := FRest_written.binds (ps := PRest_written) fun _ _ _ _ _ _ us hl => match us, hl with | [_], _ => rfl
  have GRest_written := ok_Rest_written (P := l.prog) (w := w) (base := base) FRest_written T KN
  have RW : FnR l.prog w K mg base CX0 1 fW (spRest_written K a) := LC.raw0 GRest_written BRest_written
  have Gcommon_period := ok_common_period (P := l.prog) (w := w) (base := base) Dcommon_period T KN RP Dcheck_count Gcheck_count
  have Gpair_facts := ok_pair_facts (P := l.prog) (w := w) (base := base) Dpair_facts T KN RW RF RP RB Dcheck_count Gcheck_count Dcommon_period Gcommon_period
  have GWindow_init := ok_Window_init (P := l.prog) (w := w) (base := base) T KN RI Dis_number Gis_number UWindow_init lWindow_init
  have BWindow_init : Binds K ((FWindow_init ccWindow_init cWindow_init).fd dcWindow_init pmWindow_init ctWindow_init) PWindow_init [] := Binds.all fun us hl => match us, hl with | [_, _], _ => rfl
  have RWindow_init : FnR l.prog w K mg base CX0 3 fWindow_init (spWindow_init K a) := LC.raw0 GWindow_init BWindow_init
  have IWindow := RWindow_init.mono (show 3 ≤ 4 by decide)
  have GDays_init := ok_Days_init (P := l.prog) (w := w) (base := base) T KN RI Dis_number Gis_number Dcheck_borders Gcheck_borders UDays_init lDays_init
  have BDays_init : Binds K ((FDays_init ccDays_init cDays_init).fd dcDays_init pmDays_init ctDays_init) PDays_init [] := Binds.all fun us hl => match us, hl with | [_, _, _], _ => rfl
  have RDays_init : FnR l.prog w K mg base CX0 4 fDays_init (spDays_init K a) := LC.raw0 GDays_init BDays_init
  have IDays := RDays_init.mono (show 4 ≤ 4 by decide)
  have GLater_init := ok_Later_init (P := l.prog) (w := w) (base := base) T KN RI Dpair_facts Gpair_facts ULater_init lLater_init
  have BLater_init : Binds K ((FLater_init ccLater_init cLater_init).fd dcLater_init pmLater_init ctLater_init) PLater_init [] := Binds.all fun us hl => match us, hl with | [_, _, _], _ => rfl
  have RLater_init : FnR l.prog w K mg base CX0 4 fLater_init (spLater_init K a) := LC.raw0 GLater_init BLater_init
  have ILater := RLater_init.mono (show 4 ≤ 4 by decide)
  have GSooner_init := ok_Sooner_init (P := l.prog) (w := w) (base := base) T KN RI Dpair_facts Gpair_facts USooner_init lSooner_init
  have BSooner_init : Binds K ((FSooner_init ccSooner_init cSooner_init).fd dcSooner_init pmSooner_init ctSooner_init) PSooner_init [] := Binds.all fun us hl => match us, hl with | [_, _, _], _ => rfl
  have RSooner_init : FnR l.prog w K mg base CX0 4 fSooner_init (spSooner_init K a) := LC.raw0 GSooner_init BSooner_init
  have ISooner := RSooner_init.mono (show 4 ≤ 4 by decide)
  have GNext_init := ok_Next_init (P := l.prog) (w := w) (base := base) T KN RI Dpair_facts Gpair_facts UNext_init lNext_init
  have BNext_init : Binds K ((FNext_init ccNext_init cNext_init).fd dcNext_init pmNext_init ctNext_init) PNext_init [] := Binds.all fun us hl => match us, hl with | [_, _, _], _ => rfl
  have RNext_init : FnR l.prog w K mg base CX0 4 fNext_init (spNext_init K a) := LC.raw0 GNext_init BNext_init
  have INext := RNext_init.mono (show 4 ≤ 4 by decide)
  have FWindow_call := fun_mk (st := sWindow_call) lWindow_call cWindow_call kWindow_call
  have BWindow_call := FWindow_call.binds (ps := PWindow_call) fun _ _ _ _ _ _ us hl => match us, hl with | [_, _], _ => rfl
  have GWindow_call := ok_Window_call (P := l.prog) (w := w) (base := base) FWindow_call T KN
  have RWindow_call : FnR l.prog w K mg base CX0 1 fWindow_call (spWindow_call K a) := LC.raw0 GWindow_call BWindow_call
  have FDays_call := fun_mk (st := sDays_call) lDays_call cDays_call kDays_call
  have BDays_call := FDays_call.binds (ps := PDays_call) fun _ _ _ _ _ _ us hl => match us, hl with | [_, _], _ => rfl
  have GDays_call := ok_Days_call (P := l.prog) (w := w) (base := base) FDays_call T KN RB
  have RDays_call : FnR l.prog w K mg base CX0 2 fDays_call (spDays_call K a) := LC.raw0 GDays_call BDays_call
  have FLater_call := fun_mk (st := sLater_call) lLater_call cLater_call kLater_call
  have BLater_call := FLater_call.binds (ps := PLater_call) fun _ _ _ _ _ _ us hl => match us, hl with | [_, _], _ => rfl
  have RLater_call : ∀ {n}, Calls l.prog w K mg base a n → FnR l.prog w K mg base CX0 (n + 3) fLater_call (spLater_call a (n + 1)) := fun CC => LC.raw0 (ok_Later_call (P := l.prog) (w := w) (base := base) FLater_call T KN CC) BLater_call
  have FSooner_call := fun_mk (st := sSooner_call) lSooner_call cSooner_call kSooner_call
  have BSooner_call := FSooner_call.binds (ps := PSooner_call) fun _ _ _ _ _ _ us hl => match us, hl with | [_, _], _ => rfl
  have RSooner_call : ∀ {n}, Calls l.prog w K mg base a n → FnR l.prog w K mg base CX0 (n + 3) fSooner_call (spSooner_call a (n + 1)) := fun CC => LC.raw0 (ok_Sooner_call (P := l.prog) (w := w) (base := base) FSooner_call T KN CC) BSooner_call
  have FNext_call := fun_mk (st := sNext_call) lNext_call cNext_call kNext_call
  have BNext_call := FNext_call.binds (ps := PNext_call) fun _ _ _ _ _ _ us hl => match us, hl with | [_, _], _ => rfl
  have RNext_call : ∀ {n}, Calls l.prog w K mg base a n → FnR l.prog w K mg base CX0 (n + 3) fNext_call (spNext_call a (n + 1)) := fun CC => LC.raw0 (ok_Next_call (P := l.prog) (w := w) (base := base) FNext_call T KN CC) BNext_call
  have CC : Calls l.prog w K mg base a 2 := calls_of RWindow_call RDays_call RLater_call RSooner_call RNext_call
  have Gis_name := ok_is_name (P := l.prog) (w := w) (base := base) Dis_name T
  have Ghas_name := ok_has_name (P := l.prog) (w := w) (base := base) Dhas_name T Dis_name Gis_name
  have Glook_up := ok_look_up (P := l.prog) (w := w) (base := base) Dlook_up T Dhas_name Ghas_name
  have Gis_row := ok_is_row (P := l.prog) (w := w) (base := base) Dis_row T Dis_number Gis_number Dis_name Gis_name Dhas_name Ghas_name
  have Grows_by_name := ok_rows_by_name (P := l.prog) (w := w) (base := base) Drows_by_name T Dcheck_count Gcheck_count Dis_row Gis_row
  have FNet_elder_of := fun_mk (st := sNet_elder_of) lNet_elder_of cNet_elder_of kNet_elder_of
  have BNet_elder_of := FNet_elder_of.binds (ps := PNet_elder_of) fun _ _ _ _ _ _ us hl => match us, hl with | [_, _], _ => rfl
  have GNet_elder_of := ok_Net_elder_of (P := l.prog) (w := w) (base := base) FNet_elder_of T KR Dlook_up Glook_up
  have FNet_error_of := fun_mk (st := sNet_error_of) lNet_error_of cNet_error_of kNet_error_of
  have BNet_error_of := FNet_error_of.binds (ps := PNet_error_of) fun _ _ _ _ _ _ us hl => match us, hl with | [_, _], _ => rfl
  have GNet_error_of := ok_Net_error_of (P := l.prog) (w := w) (base := base) FNet_error_of T KR Dlook_up Glook_up
  have FNet_delay_of := fun_mk (st := sNet_delay_of) lNet_delay_of cNet_delay_of kNet_delay_of
  have BNet_delay_of := FNet_delay_of.binds (ps := PNet_delay_of) fun _ _ _ _ _ _ us hl => match us, hl with | [_, _], _ => rfl
  have GNet_delay_of := ok_Net_delay_of (P := l.prog) (w := w) (base := base) FNet_delay_of T KR Dlook_up Glook_up
  have FNet_ups := fun_mk (st := sNet_ups) lNet_ups cNet_ups kNet_ups
  have BNet_ups := FNet_ups.binds (ps := PNet_ups) fun _ _ _ _ _ _ us hl => match us, hl with | [_, _], _ => rfl
  have GNet_ups := ok_Net_ups (P := l.prog) (w := w) (base := base) FNet_ups T KR GNet_elder_of BNet_elder_of
  have FNet_way := fun_mk (st := sNet_way) lNet_way cNet_way kNet_way
  have BNet_way := FNet_way.binds (ps := PNet_way) fun _ _ _ _ _ _ us hl => match us, hl with | [_, _, _], _ => rfl
  have GNet_way := ok_Net_way (P := l.prog) (w := w) (base := base) FNet_way T KR GNet_ups BNet_ups
  have FNet_pair := fun_mk (st := sNet_pair) lNet_pair cNet_pair kNet_pair
  have BNet_pair := FNet_pair.binds (ps := PNet_pair) fun _ _ _ _ _ _ us hl => match us, hl with | [_, _, _], _ => rfl
  have GNet_pair := ok_Net_pair (P := l.prog) (w := w) (base := base) FNet_pair T KR Dlook_up Glook_up
  have FNet_kappa := fun_mk (st := sNet_kappa) lNet_kappa cNet_kappa kNet_kappa
  have BNet_kappa := FNet_kappa.binds (ps := PNet_kappa) fun _ _ _ _ _ _ us hl => match us, hl with | [_, _, _], _ => rfl
  have GNet_kappa := ok_Net_kappa (P := l.prog) (w := w) (base := base) FNet_kappa T KR GNet_pair BNet_pair
  have FNet_delays_between := fun_mk (st := sNet_delays_between) lNet_delays_between cNet_delays_between kNet_delays_between
  have BNet_delays_between := FNet_delays_between.binds (ps := PNet_delays_between) fun _ _ _ _ _ _ us hl => match us, hl with | [_, _, _], _ => rfl
  have GNet_delays_between := ok_Net_delays_between (P := l.prog) (w := w) (base := base) FNet_delays_between T KR GNet_way BNet_way GNet_delay_of BNet_delay_of GNet_elder_of BNet_elder_of
  have FNet_least_kappa := fun_mk (st := sNet_least_kappa) lNet_least_kappa cNet_least_kappa kNet_least_kappa
  have BNet_least_kappa := FNet_least_kappa.binds (ps := PNet_least_kappa) fun _ _ _ _ _ _ us hl => match us, hl with | [_, _, _], _ => rfl
  have GNet_least_kappa := ok_Net_least_kappa (P := l.prog) (w := w) (base := base) FNet_least_kappa T KR GNet_ups BNet_ups GNet_error_of BNet_error_of
  have FNet_init := fun_mk (st := sNet_init) lNet_init cNet_init kNet_init
  have INet : LN.FnRK l.prog w K mg base CX0 8 fNet_init "rest" (spNet_init a r) := ok_Net_init (P := l.prog) (w := w) (base := base) FNet_init T KN KR GNet_delays_between BNet_delays_between GNet_least_kappa BNet_least_kappa Drows_by_name Grows_by_name
  have Gleads := ok_leads (P := l.prog) (w := w) (base := base) Dleads T KN KR CC GNet_error_of BNet_error_of GNet_kappa BNet_kappa
  have Gbox := ok_box (P := l.prog) (w := w) (base := base) Dbox T
  have Gtake := ok_take (P := l.prog) (w := w) (base := base) Dtake T
  have Gplain_form := ok_plain_form (P := l.prog) (w := w) (base := base) Dplain_form T Dtake Gtake
  have Gform := ok_form (P := l.prog) (w := w) (base := base) Dform T Dtake Gtake Dplain_form Gplain_form
  have Gafter := ok_after (P := l.prog) (w := w) (base := base) Dafter T
  have Gmade := ok_made (P := l.prog) (w := w) (base := base) Dmade T KN IWindow IDays ILater ISooner INext
  have Grows := ok_rows (P := l.prog) (w := w) (base := base) Drows T Dtake Gtake
  have Gnet := ok_net (P := l.prog) (w := w) (base := base) Dnet T KN KR INet Dmade Gmade
  have Grow := ok_row (P := l.prog) (w := w) (base := base) Drow T
  have Gline := ok_line (P := l.prog) (w := w) (base := base) Dline T
  have Gfar := ok_far (P := l.prog) (w := w) (base := base) Dfar T Drow Grow Dline Gline
  have Ggap := ok_gap (P := l.prog) (w := w) (base := base) Dgap T Drow Grow Dline Gline Dfar Gfar
  have Gneed := ok_need (P := l.prog) (w := w) (base := base) Dneed T Dafter Gafter Drow Grow Dgap Ggap
  have Gxleads := ok_xleads (P := l.prog) (w := w) (base := base) Dxleads T Drow Grow Dneed Gneed
  have Gchain := ok_chain (P := l.prog) (w := w) (base := base) Dchain T Dtake Gtake Dneed Gneed
  have Glaw := ok_law (P := l.prog) (w := w) (base := base) Dlaw T KN KR Dleads Gleads Dbox Gbox Dtake Gtake Dform Gform Drows Grows Dnet Gnet Dxleads Gxleads Dchain Gchain
  exact Glaw
theorem walk {l : PySem.W.OpenLaw} {q : Program} {loose : List Str} {XP : (Str → Option Value) → Heap → Prop} {YP : World → Heap → Prop} {d : DefRec} {K : Params → PySem.W.Frag} (hn : l.most = some 63) (hdf : d.params.defaults = [])
    (hY : ∀ (w : World) (h : Heap), YP w h → (K w.params).In h)
    (F : ∀ (w : World) (mg : Str → Option Value) (fa : Addr) (h : Heap), (K w.params).In h → h.Ns mainGlobals mg → mg d.name = some (.ref fa) → ∀ base : Heap, (K w.params).In base → base.Ns mainGlobals mg → LN.LawB l.prog w (K w.params) mg base 11 fa (splaw (K w.params))) :
    PySem.W.WalkO q loose XP YP l.row.toRowW d [] (fun f vs => PySem.call f vs) :=
  LN.walk_at (k := 11) (sp := splaw) hn hdf ⟨rfl, by decide, by decide⟩ hY F fun _ _ a ns hl hS => ⟨a, ns, rfl, hS, hl, fun _ => rfl⟩
end k80
open PySem PySem.W PyProof.Rows
set_option maxRecDepth 100000 in
set_option maxHeartbeats 0 in
theorem PySem.Challenge.cw_surelet_k80_whole_leads_are_transitive_holds : PySem.Challenge.rw_surelet_k80_whole_leads_are_transitive.Holds := by
  w_on; o_law; k_head; (case hw => w_witness2)
  k_fill
  refine k80.walk (l := PySem.Challenge.rw_surelet_k80_whole_leads_are_transitive) rfl rfl (fun w h Y => PySem.W.kIn_of Y) ?F
  case F =>
    intro w mg fa h KX G hmg
    refine' k80.all_mk KX G hmg ?acheck_count ?lcheck_count ?ccheck_count ?kcheck_count ?ais_whole ?lis_whole ?cis_whole ?kis_whole ?ais_number ?lis_number ?cis_number ?kis_number ?acheck_borders ?lcheck_borders ?ccheck_borders ?kcheck_borders ?acommon_period ?lcommon_period ?ccommon_period ?kcommon_period ?apair_facts ?lpair_facts ?cpair_facts ?kpair_facts ?ais_name ?lis_name ?cis_name ?kis_name ?ahas_name ?lhas_name ?chas_name ?khas_name ?alook_up ?llook_up ?clook_up ?klook_up ?ais_row ?lis_row ?cis_row ?kis_row ?arows_by_name ?lrows_by_name ?crows_by_name ?krows_by_name ?aleads ?lleads ?cleads ?kleads ?abox ?lbox ?cbox ?kbox ?atake ?ltake ?ctake ?ktake ?aplain_form ?lplain_form ?cplain_form ?kplain_form ?aform ?lform ?cform ?kform ?aafter ?lafter ?cafter ?kafter ?amade ?lmade ?cmade ?kmade ?arows ?lrows ?crows ?krows ?anet ?lnet ?cnet ?knet ?arow ?lrow ?crow ?krow ?aline ?lline ?cline ?kline ?afar ?lfar ?cfar ?kfar ?agap ?lgap ?cgap ?kgap ?aneed ?lneed ?cneed ?kneed ?axleads ?lxleads ?cxleads ?kxleads ?achain ?lchain ?cchain ?kchain ?alaw ?llaw ?claw ?klaw ?zall ?zbool ?zdict ?zenumerate ?zint ?zisinstance ?zlen ?zlist ?zmax ?zmin ?zrange ?zrepr ?zreversed ?zstr ?zsum ?zsuper ?ztuple ?yDIGITS ?yLETTERS ?yMOST_BORDERS ?yMOST_ERROR ?yMOST_FORMS ?yMOST_NET_PLACES ?yMOST_PERIOD ?yMOST_SIZE ?aRest ?xRest ?tyCR ?ffRi ?lRest_init ?cRest_init ?kRest_init ?iRest_init ?ffF ?lRest_forms ?cRest_forms ?kRest_forms ?iRest_forms ?ffP ?lRest_period ?cRest_period ?kRest_period ?iRest_period ?ffB ?lRest_bend ?cRest_bend ?kRest_bend ?iRest_bend ?ffW ?lRest_written ?cRest_written ?kRest_written ?iRest_written ?tyR ?fiR ?opq ?tp ?a_Window ?pgWindow ?hdWindow ?poWindow ?saWindow ?mkWindow ?kpWindow ?fiWindow ?lWindow_init ?lcWindow_init ?vfWindow_init ?ffWindow_init ?llWindow_init ?cdWindow_init ?isfWindow_init ?xWindow ?mrWindow ?moWindow ?nWindow_text ?nWindow_forms ?nWindow_period ?nWindow_bend ?nWindowwidth ?mWindowforms ?mWindowperiod ?mWindowbend ?mWindowwritten ?fcWindow ?lWindow_call ?cWindow_call ?kWindow_call ?iWindow_call ?fnWindow ?isWindow ?haWindow ?hmWindow ?a_Days ?pgDays ?hdDays ?poDays ?saDays ?mkDays ?kpDays ?fiDays ?lDays_init ?lcDays_init ?vfDays_init ?ffDays_init ?llDays_init ?cdDays_init ?isfDays_init ?xDays ?mrDays ?moDays ?nDays_text ?nDays_forms ?nDays_period ?nDays_bend ?nDays_borders ?nDaysevery ?mDaysforms ?mDaysperiod ?mDaysbend ?mDayswritten ?fcDays ?lDays_call ?cDays_call ?kDays_call ?iDays_call ?fnDays ?isDays ?haDays ?hmDays ?a_Later ?pgLater ?hdLater ?poLater ?saLater ?mkLater ?kpLater ?fiLater ?lLater_init ?lcLater_init ?vfLater_init ?ffLater_init ?llLater_init ?cdLater_init ?isfLater_init ?xLater ?mrLater ?moLater ?nLater_text ?nLater_forms ?nLater_period ?nLater_bend ?nLaterfirst ?nLatersecond ?mLaterforms ?mLaterperiod ?mLaterbend ?mLaterwritten ?fcLater ?lLater_call ?cLater_call ?kLater_call ?iLater_call ?fnLater ?isLater ?haLater ?hmLater ?a_Sooner ?pgSooner ?hdSooner ?poSooner ?saSooner ?mkSooner ?kpSooner ?fiSooner ?lSooner_init ?lcSooner_init ?vfSooner_init ?ffSooner_init ?llSooner_init ?cdSooner_init ?isfSooner_init ?xSooner ?mrSooner ?moSooner ?nSooner_text ?nSooner_forms ?nSooner_period ?nSooner_bend ?nSoonerfirst ?nSoonersecond ?mSoonerforms ?mSoonerperiod ?mSoonerbend ?mSoonerwritten ?fcSooner ?lSooner_call ?cSooner_call ?kSooner_call ?iSooner_call ?fnSooner ?isSooner ?haSooner ?hmSooner ?a_Next ?pgNext ?hdNext ?poNext ?saNext ?mkNext ?kpNext ?fiNext ?lNext_init ?lcNext_init ?vfNext_init ?ffNext_init ?llNext_init ?cdNext_init ?isfNext_init ?xNext ?mrNext ?moNext ?nNext_text ?nNext_forms ?nNext_period ?nNext_bend ?nNextfirst ?nNextsecond ?mNextforms ?mNextperiod ?mNextbend ?mNextwritten ?fcNext ?lNext_call ?cNext_call ?kNext_call ?iNext_call ?fnNext ?isNext ?haNext ?hmNext ?hn ?ht ?xlcm ?aNetG ?pgNet ?hdNet ?poNet ?saNet ?mkNet ?kpNet ?nNetrest ?nNet_rows ?nNet_dists ?nNet_kappas ?atNet_init ?lNet_init ?cNet_init ?kNet_init ?iNet_init ?atNet_elder_of ?lNet_elder_of ?cNet_elder_of ?kNet_elder_of ?iNet_elder_of ?atNet_error_of ?lNet_error_of ?cNet_error_of ?kNet_error_of ?iNet_error_of ?atNet_delay_of ?lNet_delay_of ?cNet_delay_of ?kNet_delay_of ?iNet_delay_of ?atNet_ups ?lNet_ups ?cNet_ups ?kNet_ups ?iNet_ups ?atNet_way ?lNet_way ?cNet_way ?kNet_way ?iNet_way ?atNet_pair ?lNet_pair ?cNet_pair ?kNet_pair ?iNet_pair ?atNet_kappa ?lNet_kappa ?cNet_kappa ?kNet_kappa ?iNet_kappa ?atNet_delays_between ?lNet_delays_between ?cNet_delays_between ?kNet_delays_between ?iNet_delays_between ?atNet_least_kappa ?lNet_least_kappa ?cNet_least_kappa ?kNet_least_kappa ?iNet_least_kappa
    (case acheck_count => k_is)
    (case lcheck_count => k_is)
    (case ccheck_count => k_is)
    (case kcheck_count => k_is)
    (case ais_whole => k_is)
    (case lis_whole => k_is)
    (case cis_whole => k_is)
    (case kis_whole => k_is)
    (case ais_number => k_is)
    (case lis_number => k_is)
    (case cis_number => k_is)
    (case kis_number => k_is)
    (case acheck_borders => k_is)
    (case lcheck_borders => k_is)
    (case ccheck_borders => k_is)
    (case kcheck_borders => k_is)
    (case acommon_period => k_is)
    (case lcommon_period => k_is)
    (case ccommon_period => k_is)
    (case kcommon_period => k_is)
    (case apair_facts => k_is)
    (case lpair_facts => k_is)
    (case cpair_facts => k_is)
    (case kpair_facts => k_is)
    (case ais_name => k_is)
    (case lis_name => k_is)
    (case cis_name => k_is)
    (case kis_name => k_is)
    (case ahas_name => k_is)
    (case lhas_name => k_is)
    (case chas_name => k_is)
    (case khas_name => k_is)
    (case alook_up => k_is)
    (case llook_up => k_is)
    (case clook_up => k_is)
    (case klook_up => k_is)
    (case ais_row => k_is)
    (case lis_row => k_is)
    (case cis_row => k_is)
    (case kis_row => k_is)
    (case arows_by_name => k_is)
    (case lrows_by_name => k_is)
    (case crows_by_name => k_is)
    (case krows_by_name => k_is)
    (case aleads => k_is)
    (case lleads => k_is)
    (case cleads => k_is)
    (case kleads => k_is)
    (case abox => k_is)
    (case lbox => k_is)
    (case cbox => k_is)
    (case kbox => k_is)
    (case atake => k_is)
    (case ltake => k_is)
    (case ctake => k_is)
    (case ktake => k_is)
    (case aplain_form => k_is)
    (case lplain_form => k_is)
    (case cplain_form => k_is)
    (case kplain_form => k_is)
    (case aform => k_is)
    (case lform => k_is)
    (case cform => k_is)
    (case kform => k_is)
    (case aafter => k_is)
    (case lafter => k_is)
    (case cafter => k_is)
    (case kafter => k_is)
    (case amade => k_is)
    (case lmade => k_is)
    (case cmade => k_is)
    (case kmade => k_is)
    (case arows => k_is)
    (case lrows => k_is)
    (case crows => k_is)
    (case krows => k_is)
    (case anet => k_is)
    (case lnet => k_is)
    (case cnet => k_is)
    (case knet => k_is)
    (case arow => k_is)
    (case lrow => k_is)
    (case crow => k_is)
    (case krow => k_is)
    (case aline => k_is)
    (case lline => k_is)
    (case cline => k_is)
    (case kline => k_is)
    (case afar => k_is)
    (case lfar => k_is)
    (case cfar => k_is)
    (case kfar => k_is)
    (case agap => k_is)
    (case lgap => k_is)
    (case cgap => k_is)
    (case kgap => k_is)
    (case aneed => k_is)
    (case lneed => k_is)
    (case cneed => k_is)
    (case kneed => k_is)
    (case axleads => k_is)
    (case lxleads => k_is)
    (case cxleads => k_is)
    (case kxleads => k_is)
    (case achain => k_is)
    (case lchain => k_is)
    (case cchain => k_is)
    (case kchain => k_is)
    (case alaw => k_is)
    (case llaw => k_is)
    (case claw => k_is)
    (case klaw => k_is)
    (case zall => k_is)
    (case zbool => k_is)
    (case zdict => k_is)
    (case zenumerate => k_is)
    (case zint => k_is)
    (case zisinstance => k_is)
    (case zlen => k_is)
    (case zlist => k_is)
    (case zmax => k_is)
    (case zmin => k_is)
    (case zrange => k_is)
    (case zrepr => k_is)
    (case zreversed => k_is)
    (case zstr => k_is)
    (case zsum => k_is)
    (case zsuper => k_is)
    (case ztuple => k_is)
    (case yDIGITS => k_is)
    (case yLETTERS => k_is)
    (case yMOST_BORDERS => k_is)
    (case yMOST_ERROR => k_is)
    (case yMOST_FORMS => k_is)
    (case yMOST_NET_PLACES => k_is)
    (case yMOST_PERIOD => k_is)
    (case yMOST_SIZE => k_is)
    (case aRest => k_is)
    (case xRest => k_is)
    (case tyCR => k_is)
    (case ffRi => k_is)
    (case lRest_init => k_is)
    (case cRest_init => k_is)
    (case kRest_init => k_is)
    (case iRest_init => k_is)
    (case ffF => k_is)
    (case lRest_forms => k_is)
    (case cRest_forms => k_is)
    (case kRest_forms => k_is)
    (case iRest_forms => k_is)
    (case ffP => k_is)
    (case lRest_period => k_is)
    (case cRest_period => k_is)
    (case kRest_period => k_is)
    (case iRest_period => k_is)
    (case ffB => k_is)
    (case lRest_bend => k_is)
    (case cRest_bend => k_is)
    (case kRest_bend => k_is)
    (case iRest_bend => k_is)
    (case ffW => k_is)
    (case lRest_written => k_is)
    (case cRest_written => k_is)
    (case kRest_written => k_is)
    (case iRest_written => k_is)
    (case tyR => k_is)
    (case fiR => k_is)
    (case opq => k_is)
    (case tp => rfl)
    (case a_Window => k_is)
    (case pgWindow => k_is)
    (case hdWindow => k_is)
    (case poWindow => k_is)
    (case saWindow => k_is)
    (case mkWindow => k_is)
    (case kpWindow => k_is)
    (case fiWindow => k_is)
    (case lWindow_init => k_is)
    (case lcWindow_init => k_is)
    (case vfWindow_init => rfl)
    (case ffWindow_init => rfl)
    (case llWindow_init => k_is)
    (case cdWindow_init => k_is)
    (case isfWindow_init => k_is)
    (case xWindow => k_is)
    (case mrWindow => k_is)
    (case moWindow => rfl)
    (case nWindow_text => k_is)
    (case nWindow_forms => k_is)
    (case nWindow_period => k_is)
    (case nWindow_bend => k_is)
    (case nWindowwidth => k_is)
    (case mWindowforms => k_is)
    (case mWindowperiod => k_is)
    (case mWindowbend => k_is)
    (case mWindowwritten => k_is)
    (case fcWindow => k_is)
    (case lWindow_call => k_is)
    (case cWindow_call => k_is)
    (case kWindow_call => k_is)
    (case iWindow_call => k_is)
    (case fnWindow => k_is)
    (case isWindow => k_is)
    (case haWindow => k_is)
    (case hmWindow => k_is)
    (case a_Days => k_is)
    (case pgDays => k_is)
    (case hdDays => k_is)
    (case poDays => k_is)
    (case saDays => k_is)
    (case mkDays => k_is)
    (case kpDays => k_is)
    (case fiDays => k_is)
    (case lDays_init => k_is)
    (case lcDays_init => k_is)
    (case vfDays_init => rfl)
    (case ffDays_init => rfl)
    (case llDays_init => k_is)
    (case cdDays_init => k_is)
    (case isfDays_init => k_is)
    (case xDays => k_is)
    (case mrDays => k_is)
    (case moDays => rfl)
    (case nDays_text => k_is)
    (case nDays_forms => k_is)
    (case nDays_period => k_is)
    (case nDays_bend => k_is)
    (case nDays_borders => k_is)
    (case nDaysevery => k_is)
    (case mDaysforms => k_is)
    (case mDaysperiod => k_is)
    (case mDaysbend => k_is)
    (case mDayswritten => k_is)
    (case fcDays => k_is)
    (case lDays_call => k_is)
    (case cDays_call => k_is)
    (case kDays_call => k_is)
    (case iDays_call => k_is)
    (case fnDays => k_is)
    (case isDays => k_is)
    (case haDays => k_is)
    (case hmDays => k_is)
    (case a_Later => k_is)
    (case pgLater => k_is)
    (case hdLater => k_is)
    (case poLater => k_is)
    (case saLater => k_is)
    (case mkLater => k_is)
    (case kpLater => k_is)
    (case fiLater => k_is)
    (case lLater_init => k_is)
    (case lcLater_init => k_is)
    (case vfLater_init => rfl)
    (case ffLater_init => rfl)
    (case llLater_init => k_is)
    (case cdLater_init => k_is)
    (case isfLater_init => k_is)
    (case xLater => k_is)
    (case mrLater => k_is)
    (case moLater => rfl)
    (case nLater_text => k_is)
    (case nLater_forms => k_is)
    (case nLater_period => k_is)
    (case nLater_bend => k_is)
    (case nLaterfirst => k_is)
    (case nLatersecond => k_is)
    (case mLaterforms => k_is)
    (case mLaterperiod => k_is)
    (case mLaterbend => k_is)
    (case mLaterwritten => k_is)
    (case fcLater => k_is)
    (case lLater_call => k_is)
    (case cLater_call => k_is)
    (case kLater_call => k_is)
    (case iLater_call => k_is)
    (case fnLater => k_is)
    (case isLater => k_is)
    (case haLater => k_is)
    (case hmLater => k_is)
    (case a_Sooner => k_is)
    (case pgSooner => k_is)
    (case hdSooner => k_is)
    (case poSooner => k_is)
    (case saSooner => k_is)
    (case mkSooner => k_is)
    (case kpSooner => k_is)
    (case fiSooner => k_is)
    (case lSooner_init => k_is)
    (case lcSooner_init => k_is)
    (case vfSooner_init => rfl)
    (case ffSooner_init => rfl)
    (case llSooner_init => k_is)
    (case cdSooner_init => k_is)
    (case isfSooner_init => k_is)
    (case xSooner => k_is)
    (case mrSooner => k_is)
    (case moSooner => rfl)
    (case nSooner_text => k_is)
    (case nSooner_forms => k_is)
    (case nSooner_period => k_is)
    (case nSooner_bend => k_is)
    (case nSoonerfirst => k_is)
    (case nSoonersecond => k_is)
    (case mSoonerforms => k_is)
    (case mSoonerperiod => k_is)
    (case mSoonerbend => k_is)
    (case mSoonerwritten => k_is)
    (case fcSooner => k_is)
    (case lSooner_call => k_is)
    (case cSooner_call => k_is)
    (case kSooner_call => k_is)
    (case iSooner_call => k_is)
    (case fnSooner => k_is)
    (case isSooner => k_is)
    (case haSooner => k_is)
    (case hmSooner => k_is)
    (case a_Next => k_is)
    (case pgNext => k_is)
    (case hdNext => k_is)
    (case poNext => k_is)
    (case saNext => k_is)
    (case mkNext => k_is)
    (case kpNext => k_is)
    (case fiNext => k_is)
    (case lNext_init => k_is)
    (case lcNext_init => k_is)
    (case vfNext_init => rfl)
    (case ffNext_init => rfl)
    (case llNext_init => k_is)
    (case cdNext_init => k_is)
    (case isfNext_init => k_is)
    (case xNext => k_is)
    (case mrNext => k_is)
    (case moNext => rfl)
    (case nNext_text => k_is)
    (case nNext_forms => k_is)
    (case nNext_period => k_is)
    (case nNext_bend => k_is)
    (case nNextfirst => k_is)
    (case nNextsecond => k_is)
    (case mNextforms => k_is)
    (case mNextperiod => k_is)
    (case mNextbend => k_is)
    (case mNextwritten => k_is)
    (case fcNext => k_is)
    (case lNext_call => k_is)
    (case cNext_call => k_is)
    (case kNext_call => k_is)
    (case iNext_call => k_is)
    (case fnNext => k_is)
    (case isNext => k_is)
    (case haNext => k_is)
    (case hmNext => k_is)
    (case hn => k_is)
    (case ht => k_is)
    (case xlcm => k_is)
    (case aNetG => k_is)
    (case pgNet => k_is)
    (case hdNet => k_is)
    (case poNet => k_is)
    (case saNet => k_is)
    (case mkNet => k_is)
    (case kpNet => k_is)
    (case nNetrest => k_is)
    (case nNet_rows => k_is)
    (case nNet_dists => k_is)
    (case nNet_kappas => k_is)
    (case atNet_init => k_is)
    (case lNet_init => k_is)
    (case cNet_init => k_is)
    (case kNet_init => k_is)
    (case iNet_init => k_is)
    (case atNet_elder_of => k_is)
    (case lNet_elder_of => k_is)
    (case cNet_elder_of => k_is)
    (case kNet_elder_of => k_is)
    (case iNet_elder_of => k_is)
    (case atNet_error_of => k_is)
    (case lNet_error_of => k_is)
    (case cNet_error_of => k_is)
    (case kNet_error_of => k_is)
    (case iNet_error_of => k_is)
    (case atNet_delay_of => k_is)
    (case lNet_delay_of => k_is)
    (case cNet_delay_of => k_is)
    (case kNet_delay_of => k_is)
    (case iNet_delay_of => k_is)
    (case atNet_ups => k_is)
    (case lNet_ups => k_is)
    (case cNet_ups => k_is)
    (case kNet_ups => k_is)
    (case iNet_ups => k_is)
    (case atNet_way => k_is)
    (case lNet_way => k_is)
    (case cNet_way => k_is)
    (case kNet_way => k_is)
    (case iNet_way => k_is)
    (case atNet_pair => k_is)
    (case lNet_pair => k_is)
    (case cNet_pair => k_is)
    (case kNet_pair => k_is)
    (case iNet_pair => k_is)
    (case atNet_kappa => k_is)
    (case lNet_kappa => k_is)
    (case cNet_kappa => k_is)
    (case kNet_kappa => k_is)
    (case iNet_kappa => k_is)
    (case atNet_delays_between => k_is)
    (case lNet_delays_between => k_is)
    (case cNet_delays_between => k_is)
    (case kNet_delays_between => k_is)
    (case iNet_delays_between => k_is)
    (case atNet_least_kappa => k_is)
    (case lNet_least_kappa => k_is)
    (case cNet_least_kappa => k_is)
    (case kNet_least_kappa => k_is)
    (case iNet_least_kappa => k_is)